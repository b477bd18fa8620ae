import PyProof.Rows.All
import Wide.All
import OpenK.AllK
import Wide.FinOn
import Lean
import PyProof.EqAt
import PyProof.EqKinds
import PyProof.TupleCall
import PySem.Challenge.RW_partedweb_k23_made_less_and_as_light
set_option Elab.async false
set_option linter.all false
set_option maxRecDepth 100000
namespace L2
open PySem PySem.Spec PyProof.Rows
noncomputable abbrev Key:=Sum Int Str
noncomputable def keyIs:Key->Value->Bool
 | .inl k,v=>Value.isInt k v
 | .inr x,v=>Value.isStrOf x v
noncomputable def keyH(w:World):Key->Int
 | .inl k=>hashInt k
 | .inr x=>hashStr w x
theorem keyIs_shape:∀ {k:Key}{v:Value},keyIs k v=true->(∃ i t,k=Sum.inl i/\v=Value.int i t)\/(∃ x t,k=Sum.inr x/\v=Value.str x t)
 | .inl i,v,h=>by
  obtain⟨t,e⟩:=Value.isInt_shape (k:=i) (v:=v) h
  exact .inl ⟨i,t,rfl,e⟩
 | .inr x,v,h=>by
  obtain⟨t,e⟩:=Value.isStrOf_shape (x:=x) (v:=v) h
  exact .inr ⟨x,t,rfl,e⟩
theorem keyIs_int(i:Int)(t:Tok):keyIs (.inl i) (.int i t)=true:=by simp[keyIs,Value.isInt]
theorem keyIs_str(x:Str)(t:Tok):keyIs (.inr x) (.str x t)=true:=by simp[keyIs,Value.isStrOf]
theorem key_ll(a b:Int):decide ((Sum.inl a:Key)=Sum.inl b)=(a == b):=by
 by_cases e:a=b
 ·subst e;simp
 ·have h:¬(Sum.inl a:Key)=Sum.inl b:=fun q=>e (Sum.inl.inj q)
  rw[decide_eq_false h]
  exact(beq_eq_false_iff_ne.mpr e).symm
theorem key_rr(a b:Str):decide ((Sum.inr a:Key)=Sum.inr b)=decide (a=b):=by
 by_cases e:a=b
 ·subst e;simp
 ·have h:¬(Sum.inr a:Key)=Sum.inr b:=fun q=>e (Sum.inr.inj q)
  rw[decide_eq_false h,decide_eq_false e]
theorem key_lr(a:Int)(b:Str):decide ((Sum.inl a:Key)=Sum.inr b)=false:=decide_eq_false (fun q=>nomatch q)
theorem key_rl(a:Str)(b:Int):decide ((Sum.inr a:Key)=Sum.inl b)=false:=decide_eq_false (fun q=>nomatch q)
noncomputable def mixKind(prog:Program)(w:World):PySem.KeyKind prog w Key where
 is:=keyIs
 hash:=keyH w
 inj:=fun v a b ha hb=>by
  rcases keyIs_shape ha with⟨i,t,rfl,rfl⟩ |⟨x,t,rfl,rfl⟩
  ·rcases keyIs_shape hb with⟨j,u,rfl,e⟩ |⟨y,u,rfl,e⟩
   ·injection e with e1 _;rw[e1]
   ·exact nomatch e
  ·rcases keyIs_shape hb with⟨j,u,rfl,e⟩ |⟨y,u,rfl,e⟩
   ·exact nomatch e
   ·injection e with e1 _;rw[e1]
 byValue:=fun k v h=>by
  rcases keyIs_shape h with⟨i,t,rfl,rfl⟩ |⟨x,t,rfl,rfl⟩ <;> rfl
 pyHash:=fun hv h=>by
  rcases keyIs_shape hv with⟨i,t,rfl,rfl⟩ |⟨x,t,rfl,rfl⟩
  ·exact wpAny_pyHash_int h
  ·exact wpAny_pyHash_str h
 eqBool:=fun hu hv h=>by
  rcases keyIs_shape hu with⟨i,t,rfl,rfl⟩ |⟨x,t,rfl,rfl⟩
  ·rcases keyIs_shape hv with⟨j,u,rfl,rfl⟩ |⟨y,u,rfl,rfl⟩
   ·rw[key_ll]at h;exact wpAny_eqBool_int h
   ·rw[key_lr]at h;exact SeqAt.EqAt.int_str i t y u _ _ _ _ h
  ·rcases keyIs_shape hv with⟨j,u,rfl,rfl⟩ |⟨y,u,rfl,rfl⟩
   ·rw[key_rl]at h;exact SeqAt.EqAt.str_int x t j u _ _ _ _ h
   ·rw[key_rr]at h;exact wpAny_eqBool_str h
 «strs»:=fun k x t v h=>by
  rcases keyIs_shape h with⟨i,u,rfl,e⟩ |⟨y,u,rfl,e⟩
  ·exact nomatch e
  ·injection e with e1 _
   subst e1
   cases v <;> rfl
theorem mixKind_int(prog:Program)(w:World)(i:Int)(t:Tok):(mixKind prog w).is (.inl i) (.int i t)=true:=keyIs_int i t
theorem mixKind_str(prog:Program)(w:World)(x:Str)(t:Tok):(mixKind prog w).is (.inr x) (.str x t)=true:=keyIs_str x t
open PySem PySem.Spec PyProof.Rows
inductive V where
 |non | bl (b:Bool) | int (i:Int) | str (x:Str) | byt (b:Array UInt8) | flt (b:UInt64) | ref (a:Addr) | ty (n:String)
 deriving DecidableEq
noncomputable def RelV:V->Value->Prop
 | .non,u=>u=Value.none
 | .bl b,u=>u=Value.bool b
 | .int i,u=>∃ t,u=Value.int i t
 | .str x,u=>∃ t,u=Value.str x t
 | .byt b,u=>∃ t,u=Value.bytes b t
 | .flt b,u=>∃ t,u=Value.float b t
 | .ref a,u=>u=Value.ref a
 | .ty n,u=>u=Value.type n
noncomputable abbrev Vals:List V->List Value->Prop:=Paired RelV
theorem Vals.length{xs:List V}{us:List Value}(r:Vals xs us):xs.length=us.length:=Paired.length r
theorem Vals.get:∀ {xs:List V}{us:List Value}{i:Nat}{x:V},Vals xs us->xs[i]?=some x->∃ u,us[i]?=some u/\RelV x u
 | _,_,_,_,.nil,e=>by simp at e
 | _,_,0,_,.cons r _,e=>by simp at e;subst e;exact⟨_,rfl,r⟩
 | _,_,i+1,x,.cons _ t,e=>by
  obtain⟨u,h1,h2⟩:=Vals.get (i:=i) (x:=x) t (by simpa using e)
  exact⟨u,by simpa using h1,h2⟩
theorem Vals.set{x:V}{u:Value}(r:RelV x u):∀ {xs:List V}{us:List Value} (i:Nat),Vals xs us->Vals (xs.set i x) (us.set i u)
 | _,_,_,.nil=>.nil
 | _,_,0,.cons _ t=>.cons r t
 | _,_,i+1,.cons q t=>.cons q (Vals.set r i t)
theorem Vals.append:∀ {xs ys:List V}{us ws:List Value},Vals xs us->Vals ys ws->Vals (xs++ys) (us++ws)
 | _,_,_,_,.nil,s=>s
 | _,_,_,_,.cons r t,s=>.cons r (Vals.append t s)
theorem Vals.take:∀ {xs:List V}{us:List Value} (n:Nat),Vals xs us->Vals (xs.take n) (us.take n)
 | _,_,0,_=>.nil
 | _,_,_+1,.nil=>.nil
 | _,_,n+1,.cons r t=>.cons r (Vals.take n t)
theorem Vals.drop:∀ {xs:List V}{us:List Value} (n:Nat),Vals xs us->Vals (xs.drop n) (us.drop n)
 | _,_,0,r=>r
 | _,_,_+1,.nil=>.nil
 | _,_,n+1,.cons _ t=>Vals.drop n t
noncomputable def RelO:Option V->Option Value->Prop
 |some v,some u=>RelV v u
 |none,none=>True
 | _,_=>False
noncomputable def KV{κ:Type}:List (κ×V)->List (κ×Value)->Prop:=Paired fun(p:κ×V) (q:κ×Value)=>p.1=q.1/\RelV p.2 q.2
noncomputable def kV:Key->V
 | .inl i=>.int i
 | .inr x=>.str x
inductive HO where
 /-- a list -/
 |lst (xs:List V)
 /-- a tuple (never changes) -/
 |tup (xs:List V)
 /-- a dict whose keys are ints and texts;one whose keys are tuples of ints and texts (the empty one is both) -/
 |dK (kvs:List (Key×V)) | dT (kvs:List (List Key×V))
 /-- a set of ints: its members,its size -/
 |set (S:Int->Bool) (n:Nat)
 /-- an instance of the class at C,its dict at dx,its attributes -/
 |ins (C dx:Addr) (fs:List (Str×V))
 /-- the dict of the instance at x -/
 |own (x:Addr)
 /-- the dict of an exception -/
 |xd (fs:List (Str×V))
 /-- a bound method,f of x -/
 |met (f x:Addr)
 /-- a range object lo,lo+1,.. below hi -/
 |rng (lo hi:Int)
 /-- a thing that is known to the object (the script;a dict while a loop walks it): read,never written while it is so -/
 |frz (o:Obj) (u:HO)
 /-- a code object's table -/
 |tbl (ps:Array Value)
 /-- any other thing,by what is true of its one object (a def of one's own: SetO a S n:=HO.ext fun h=>..) -/
 |ext (φ:Heap->Prop)
noncomputable abbrev Hp:=Addr->Option HO
noncomputable def upd(H:Hp)(a:Addr)(o:HO):Hp:=fun b=>if b=a then some o else H b
theorem upd_same{H:Hp}{a:Addr}{o:HO}:upd H a o a=some o:=by unfold upd;rw[if_pos rfl]
theorem upd_ne{H:Hp}{a b:Addr}{o:HO}(h:b≠a):upd H a o b=H b:=by unfold upd;rw[if_neg h]
theorem upd_upd{H:Hp}{a:Addr}{o u:HO}:upd (upd H a o) a u=upd H a u:=by
 funext b;unfold upd;split <;> rfl
theorem ne_of{H:Hp}{a b:Addr}{o u:HO}(h:H a=some o)(h':H b=some u)(d:o≠u):a≠b:=by
 intro e;subst e;rw[h]at h';exact d (Option.some.inj h')
theorem ne_of_none{H:Hp}{a b:Addr}{o:HO}(h:H a=some o)(h':H b=none):a≠b:=by
 intro e;subst e;rw[h]at h';cases h'
section
variable(P:Program)(w:World)
noncomputable def ObjOk(H:Hp)(h:Heap)(a:Addr):HO->Prop
 | .lst xs=>xs.length<=sizeLine/\∃ (its:List Value) (n:Nat),Vals xs its/\h.get? a=some { cls:=.type "list",data:=.seq its.toArray n }
 | .tup xs=>xs.length<=sizeLine/\∃ its:List Value,Vals xs its/\IsTup h a its.toArray
 | .dK kvs=>kvs.length<=sizeLine/\(a == sysModules)=false/\∃ vs,KV kvs vs/\h.DictOf (mixKind P w) a vs
 | .dT kvs=>kvs.length<=sizeLine/\(a == sysModules)=false/\∃ xs:List (List Key×Addr×Value),
   Paired (fun(p:List Key×V) (q:List Key×Addr×Value)=>p.1=q.1/\H q.2.1=some (.tup (p.1.map kV))/\RelV p.2 q.2.2) kvs xs /\
   ∃ o es ep,h.get? a=some o/\o.ExactDict/\o.data = .dict es ep/\es.toList=xs.map (entryOfKey (tupleKind (mixKind P w)))/\(xs.map (·.1)).Nodup
 | .set S n=>h.SetOf (intKind P w) a S n
 | .ins C dx fs=>H dx=some (.own a)/\fs.length<=1000/\dx≠a/\h.get? a=some (PySem.W.instObj C dx) /\
   ∃ mA,h.Ns1 dx mA/\(∀ f,RelO (fs.lookup f) (mA f))/\PySem.Within mA (fs.map (·.1))
 | .own _=>∃ o,h.get? a=some o
 | .xd fs=>∃ mA,h.Ns1 a mA/\∀ f,RelO (fs.lookup f) (mA f)
 | .rng lo hi=>∃ t u v,h.get? a=some { cls:=.type "range",data:=.fields #[.int lo t,.int hi u,.int 1 v] }
 | .frz o u=>h.get? a=some o/\ObjOk H h a u
 | .tbl ps=>h.get? a=some { cls:=.none,data:=.fields ps }
 | .met f x=>h.get? a=some (PySem.W.methodObj (.ref f) (.ref x))
 | .ext φ=>φ h/\(∃ o,h.get? a=some o)/\∀ h1 h2:Heap,φ h1->(∀ o,h1.get? a=some o->h2.get? a=some o)->φ h2
noncomputable def HOk(H:Hp)(h:Heap):Prop:=∀ a o,H a=some o->ObjOk P w H h a o
end
section
variable{P:Program}{w:World}{H H':Hp}{h h':Heap}{a:Addr}{o:HO}
theorem ObjOk.lt(x:ObjOk P w H h a o):a<h.objs.size:=by
 cases o with
 |lst xs=>obtain⟨_,_,_,_,e⟩:=x;exact Heap.lt_size e
 |tup xs=>obtain⟨_,_,_,p⟩:=x;exact p.lt
 |dK kvs=>obtain⟨_,_,_,_,o,_,_,e,_⟩:=x;exact Heap.lt_size e
 |dT kvs=>obtain⟨_,_,_,_,o,_,_,e,_⟩:=x;exact Heap.lt_size e
 |set S n=>obtain⟨o,_,_,_,e,_⟩:=x;exact Heap.lt_size e
 |ins C dx fs=>obtain⟨_,_,_,e,_⟩:=x;exact Heap.lt_size e
 |own y=>obtain⟨_,e⟩:=x;exact Heap.lt_size e
 |xd fs=>obtain⟨_,⟨_,_,_,e,_⟩,_⟩:=x;exact Heap.lt_size e
 |rng lo hi=>obtain⟨_,_,_,e⟩:=x;exact Heap.lt_size e
 |frz ob u=>obtain⟨e,_⟩:=x;exact Heap.lt_size e
 |tbl ps=>exact Heap.lt_size (show h.get? a=some _ from x)
 |met f y=>exact Heap.lt_size (show h.get? a=some _ from x)
 |ext φ=>obtain⟨_,⟨_,e⟩,_⟩:=x;exact Heap.lt_size e
theorem Paired.mapP{α β:Type}{F G:α->β->Prop}:∀ {l₁:List α}{l₂:List β},Paired F l₁ l₂->(∀ a b,F a b->G a b)->Paired G l₁ l₂
 | _,_,.nil,_=>.nil
 | _,_,.cons r t,f=>.cons (f _ _ r) (Paired.mapP t f)
theorem ObjOk.stay(x:ObjOk P w H h a o)(k:∀ b u,(b=a\/H b=some (.own a))->h.get? b=some u->h'.get? b=some u)
  (ho:∀ b,H b=some (.own a)->H' b=some (.own a)) (ht:∀ b xs,H b=some (.tup xs)->H' b=some (.tup xs)):ObjOk P w H' h' a o:=by
 induction o with
 |lst xs=>obtain⟨z,its,n,r,e⟩:=x;exact⟨z,its,n,r,k _ _ (.inl rfl) e⟩
 |tup xs=>obtain⟨z,its,r,ob,e,c⟩:=x;exact⟨z,its,r,ob,k _ _ (.inl rfl) e,c⟩
 |dK kvs=>obtain⟨z,y,vs,r,ob,es,ep,e,c⟩:=x;exact⟨z,y,vs,r,ob,es,ep,k _ _ (.inl rfl) e,c⟩
 |dT kvs =>
  obtain⟨z,y,xs,r,ob,es,ep,e,c⟩:=x
  exact⟨z,y,xs,Paired.mapP r fun p q z=>⟨z.1,ht _ _ z.2.1,z.2.2⟩,ob,es,ep,k _ _ (.inl rfl) e,c⟩
 |set S n=>obtain⟨ob,es,ep,t,e,c⟩:=x;exact⟨ob,es,ep,t,k _ _ (.inl rfl) e,c⟩
 |ins C dx fs =>
  obtain⟨d,z,ne,e,mA,⟨od,es,ep,e2,c⟩,r⟩:=x
  exact⟨ho _ d,z,ne,k _ _ (.inl rfl) e,mA,⟨od,es,ep,k _ _ (.inr d) e2,c⟩,r⟩
 |own y=>obtain⟨ob,e⟩:=x;exact⟨ob,k _ _ (.inl rfl) e⟩
 |xd fs=>obtain⟨mA,⟨od,es,ep,e,c⟩,r⟩:=x;exact⟨mA,⟨od,es,ep,k _ _ (.inl rfl) e,c⟩,r⟩
 |rng lo hi=>obtain⟨t,u,v,e⟩:=x;exact⟨t,u,v,k _ _ (.inl rfl) e⟩
 |frz ob u ih=>obtain⟨e,q⟩:=x;exact⟨k _ _ (.inl rfl) e,ih q⟩
 |tbl ps =>
  have e:h.get? a=some { cls:=.none,data:=.fields ps }:=x
  show h'.get? a=some { cls:=.none,data:=.fields ps }
  exact k a _ (.inl rfl) e
 |met f y =>
  have e:h.get? a=some (PySem.W.methodObj (.ref f) (.ref y)):=x
  show h'.get? a=some (PySem.W.methodObj (.ref f) (.ref y))
  exact k a _ (.inl rfl) e
 |ext φ=>obtain⟨p,⟨o,e⟩,st⟩:=x;exact⟨st _ _ p fun o q=>k _ _ (.inl rfl) q,⟨o,k _ _ (.inl rfl) e⟩,st⟩
theorem HOk.lt(x:HOk P w H h)(e:H a=some o):a<h.objs.size:=(x a o e).lt
theorem HOk.fresh(x:HOk P w H h)(e:h.objs.size<=a):H a=none:=by
 cases q:H a with
 |none=>rfl
 |some u=>exact absurd (Nat.lt_of_lt_of_le (x.lt q) e) (Nat.lt_irrefl _)
theorem HOk.kept(x:HOk P w H h)(k:∀ b u,h.get? b=some u->h'.get? b=some u):HOk P w H h':=fun a o e =>
 (x a o e).stay (fun b u _ q=>k b u q) (fun _ q=>q) fun _ _ q=>q
theorem HOk.laid(x:HOk P w H h)(k:∀ b u,h.get? b=some u->h'.get? b=some u)(hp:h.objs.size<=a)(new:ObjOk P w (upd H a o) h' a o):HOk P w (upd H a o) h':=fun b u e=>by
 have hn:=x.fresh hp
 by_cases hb:b=a
 ·subst hb;rw[upd_same]at e;cases e;exact new
 ·rw[upd_ne hb]at e
  exact(x b u e).stay (fun c v _ q=>k c v q) (fun c q=>by rw[upd_ne (ne_of_none q hn)];exact q) fun c xs q=>by rw[upd_ne (ne_of_none q hn)];exact q
end
noncomputable def Rd(H:Hp)(a:Addr)(u:HO):Prop:=H a=some u\/∃ o,H a=some (.frz o u)
theorem Rd.ok{P:Program}{w:World}{H:Hp}{h:Heap}{a:Addr}{u:HO}(r:Rd H a u)(x:HOk P w H h):ObjOk P w H h a u:=by
 rcases r with r |⟨o,r⟩
 ·exact x a u r
 ·obtain⟨_,q⟩:=x a _ r
  exact q
noncomputable def Mut:Option HO->Prop
 |some (.lst _)=>True
 |some (.dK _)=>True
 |some (.dT _)=>True
 |some (.set _ _)=>True
 |some (.ins _ _ _)=>True
 |some (.ext _)=>True
 | _=>False
section
variable{P:Program}{w:World}{H:Hp}{h h':Heap}{x e:Addr}{o':HO}
theorem HOk.write(ok:HOk P w H h)(mu:Mut (H x))(he:e=x\/H e=some (.own x))(k:∀ b u,b≠e->h.get? b=some u->h'.get? b=some u)(heo:∃ u,h'.get? e=some u)
  (new:ObjOk P w (upd H x o') h' x o'):HOk P w (upd H x o') h':=fun b u q=>by
 have nown:∀ c y,H c=some (.own y)->c≠x:=fun c y r z=>by subst z;rw[r]at mu;exact mu
 have ntup:∀ c xs,H c=some (.tup xs)->c≠x:=fun c xs r z=>by subst z;rw[r]at mu;exact mu
 by_cases hb:b=x
 ·subst hb;rw[upd_same]at q;cases q;exact new
 ·rw[upd_ne hb]at q
  by_cases hbe:b=e
  ·have q':H b=some (.own x):=by
    rcases he with z | z
    ·exact absurd (hbe.trans z) hb
    ·rw[hbe];exact z
   rw[q]at q';cases q'
   obtain⟨v,hv⟩:=heo
   exact⟨v,by rw[hbe];exact hv⟩
  ·refine(ok b u q).stay (fun c v hc r=>k c v ?_ r) (fun c r=>by rw[upd_ne (nown c b r)];exact r) fun c xs r=>by rw[upd_ne (ntup c xs r)];exact r
   rcases hc with rfl | hc
   ·exact hbe
   ·rintro rfl
    rcases he with z | z
    ·exact nown c b hc z
    ·rw[hc]at z;cases z;exact hb rfl
end
structure Un(fs ex:List Addr)(H H':Hp)(h h':Heap):Prop where
 keep:∀ b o,h.get? b=some o->H b=none->b∉fs->b∉ex->h'.get? b=some o
 slot:∀ b o,h.get? b=some o->H b=none->b∈fs->b∉ex->∃ sl,h'.get? b=some { o with slots:=sl }
 free:∀ b o,h.get? b=some o->H b=none->b∉ex->H' b=none
 there:∀ b o,h.get? b=some o->b∉ex->∃ o',h'.get? b=some o'
 tups:∀ b xs,H b=some (.tup xs)->H' b=some (.tup xs)
 frzs:∀ b o u,H b=some (.frz o u)->H' b=some (.frz o u)
 tbls:∀ b ps,H b=some (.tbl ps)->∃ more,H' b=some (.tbl (ps++more))
section
variable{fs fs' ex ex':List Addr}{H H1 H2:Hp}{h h1 h2 h':Heap}{a x e:Addr}{o:HO}
theorem Un.any(u:Un fs ex H H1 h h1){b:Addr}{ob:Obj}(q:h.get? b=some ob)(n:H b=none)(hx:b∉ex):∃ sl,h1.get? b=some { ob with slots:=sl }:=by
 by_cases hb:b∈fs
 ·exact u.slot b ob q n hb hx
 ·exact⟨ob.slots,u.keep b ob q n hb hx⟩
theorem Un.kept(k:∀ b u,h.get? b=some u->h'.get? b=some u):Un fs ex H H h h' :=
 ⟨fun b ob q _ _ _=>k b ob q,fun b ob q _ _ _=>⟨ob.slots,k b ob q⟩,fun _ _ _ n _=>n,fun b ob q _=>⟨ob,k b ob q⟩,fun _ _ q=>q,fun _ _ _ q=>q,fun _ ps q=>⟨#[],by rw[q];simp⟩⟩
theorem Un.refl:Un fs ex H H h h:=Un.kept fun _ _ q=>q
theorem Un.laid(k:∀ b u,h.get? b=some u->h'.get? b=some u)(hp:h.objs.size<=a)(hn:H a=none):Un fs ex H (upd H a o) h h' where
 keep:=fun b u q _ _ _=>k b u q
 slot:=fun b u q _ _ _=>⟨u.slots,k b u q⟩
 free:=fun b u q n _=>by rw[upd_ne (Nat.ne_of_lt (Nat.lt_of_lt_of_le (Heap.lt_size q) hp))];exact n
 there:=fun b u q _=>⟨u,k b u q⟩
 tups:=fun b xs q=>by rw[upd_ne (ne_of_none q hn)];exact q
 frzs:=fun b u xs q=>by rw[upd_ne (ne_of_none q hn)];exact q
 tbls:=fun b ps q=>⟨#[],by rw[upd_ne (ne_of_none q hn),q];simp⟩
theorem Un.write(mu:Mut (H x))(he:e=x\/H e=some (.own x))(k:∀ b u,b≠e->h.get? b=some u->h'.get? b=some u)(heo:∃ u,h'.get? e=some u):Un fs ex H (upd H x o) h h':=by
 have hx:∀ b,H b=none->b≠x:=fun b n z=>by subst z;rw[n]at mu;exact mu
 have hb:∀ b,H b=none->b≠e:=fun b n z=>by
  subst z
  rcases he with r | r
  ·exact hx b n r
  ·rw[n]at r;cases r
 have hm:∀ b u,H b=some u->¬ Mut (some u)->b≠x:=fun b u q nm z=>by subst z;rw[q]at mu;exact nm mu
 refine⟨fun b u q n _ _=>k b u (hb b n) q,fun b u q n _ _=>⟨u.slots,k b u (hb b n) q⟩,fun b u q n _=>by rw[upd_ne (hx b n)];exact n,fun b u q _=>?_,
  fun b xs q=>by rw[upd_ne (hm b _ q fun z=>z)];exact q,fun b u xs q=>by rw[upd_ne (hm b _ q fun z=>z)];exact q,fun b ps q=>⟨#[],by rw[upd_ne (hm b _ q fun z=>z),q];simp⟩⟩
 by_cases hbe:b=e
 ·subst hbe;exact heo
 ·exact⟨u,k b u hbe q⟩
end
noncomputable def trk(h:Heap)(H:Hp):List Addr:=(List.range h.objs.size).filter fun a=>(H a).isSome
noncomputable def hidT(h:Heap)(H:Hp):Heap:=PySem.W.hideAll h (trk h H)
theorem hidT_size(h:Heap)(H:Hp):(hidT h H).objs.size=h.objs.size:=PySem.W.hideAll_size _ _
theorem hidT_get{h:Heap}{H:Hp}{b:Addr}{o:Obj}(e:h.get? b=some o)(n:H b=none):(hidT h H).get? b=some o :=
 PySem.W.hideAll_get _ e fun hm=>by
  have q:(H b).isSome=true:=(List.mem_filter.mp hm).2
  rw[n]at q;simp at q
theorem of_hidT{h:Heap}{H:Hp}{b:Addr}{o:Obj}(e:(hidT h H).get? b=some o):h.get? b=some o/\H b=none:=by
 have e':h.get? b=some o:=PySem.W.of_hideAll (trk h H) e
 refine⟨e',?_⟩
 cases q:H b with
 |none=>rfl
 |some x =>
  have hm:b∈trk h H:=List.mem_filter.mpr ⟨List.mem_range.mpr (Heap.lt_size e'),by simp[q]⟩
  have z:(hidT h H).get? b=none:=PySem.W.hideAll_none (trk h H) hm
  rw[z]at e;cases e
open PySem PySem.Spec PyProof.Rows
structure Mod(K:PySem.W.Frag)(mg:Str->Option Value)(base:Heap):Prop where
 kin:K.In base
 glob:base.Ns mainGlobals mg
 blt:∃ mb,base.Ns builtinsNs mb/\∀ x:Str,x≠"__name__"->mb x=bootBuiltins x
 nolimit:base.NoLimit
structure Cx where
 prog:Program
 w:World
 K:PySem.W.Frag
 mg:Str->Option Value
 base:Heap
 A:Around
 N:List Str
 s₀:Shared
 H₀:Hp
 env:Env
 outer:List Env
 stack:List Env
 ex:List Addr
 fn:Str->Bool
 calm:Bool
 pn:List (Addr×Obj)
 xe:Value->Shared->Prop
noncomputable def frs(l:List Env):List Addr:=l.filterMap (·.frame)
noncomputable abbrev Cx.fs(X:Cx):List Addr:=frs X.outer
noncomputable def Vis(sc:Scope)(x:Str):Prop:=sc.names.lookup x=some .local\/sc.names.lookup x=some .cell\/sc.names.lookup x=some .free
noncomputable def Loc(sc:Scope)(x:Str):Prop:=sc.names.lookup x=some .local\/sc.names.lookup x=some .cell
noncomputable def Look(env:Env)(h:Heap)(m:Str->Option Value)(x:Str)(u:Value):Prop :=
 (env.kindOf x=some .local/\m x=some u)\/((env.kindOf x=some .cell\/env.kindOf x=some .free)/\∃ c,env.cells.lookup x=some c/\h.IsCell c (some u))
structure Cx.Ok(X:Cx):Prop where
 mod:Mod X.K X.mg X.base
 kind:X.env.scope.kind = .function
 glob:X.env.globals=mainGlobals
 blt:X.env.builtins=builtinsNs
 above:X.s₀.heap.objs.size<=X.env.locals
 inj:∀ x y c,X.env.cells.lookup x=some c->X.env.cells.lookup y=some c->x=y
 has:∀ x,(X.env.kindOf x=some .cell\/X.env.kindOf x=some .free)->∃ c,X.env.cells.lookup x=some c
 cab:∀ x c,X.fn x=true->X.env.cells.lookup x=some c->X.s₀.heap.objs.size<=c
 hd:X.calm=true->X.A.handled=none
 frames:X.A.frames=some X.stack
 stk:X.stack=X.outer\/(X.stack=X.env :: X.outer/\X.env.frame=some X.env.locals)
 exf:∀ b∈X.ex,b≠X.env.locals/\∀ x c,X.env.cells.lookup x=some c->c≠b
 bs:∀ b o,X.base.get? b=some o->X.s₀.heap.get? b=some o/\X.H₀ b=none
 bsz:X.base.objs.size<=X.s₀.heap.objs.size
 noex:∀ b o,X.base.get? b=some o->b∉X.ex
 exfs:∀ b∈X.ex,b∉X.fs
 funs:X.s₀.heap.FunFrames X.base X.outer
 frf:∀ b∈X.fs,X.H₀ b=none
structure Inv(X:Cx)(pins:List (Addr×Obj))(σ:List (Option V))(H:Hp)(s:Shared):Prop where
 ok:X.Ok
 os:s.os=X.s₀.os
 bare:AllBare s.gens
 base:Un X.fs X.ex X.H₀ H X.s₀.heap s.heap
 loc:∃ m,s.heap.Ns X.env.locals m/\∀ (i:Nat) (x:Str) (v:V),X.N[i]?=some x->σ[i]?=some (some v)->Vis X.env.scope x->∃ u,RelV v u/\Look X.env s.heap m x u
 cell:∀ x c,X.env.cells.lookup x=some c->∃ v,s.heap.IsCell c v
 free:H X.env.locals=none
 freeC:∀ x c,X.env.cells.lookup x=some c->H c=none
 pin:∀ p∈X.pn++pins,s.heap.get? p.1=some p.2/\H p.1=none/\p.1≠X.env.locals/\p.1∉X.fs/\∀ v,p.2.data≠.cell v
 hok:HOk X.prog X.w H s.heap
 len:σ.length=X.N.length
section
variable{X:Cx}{pins:List (Addr×Obj)}{σ:List (Option V)}{H H':Hp}{s:Shared}{h':Heap}
theorem Cx.Ok.nofr(ok:X.Ok){b:Addr}{o:Obj}(e:X.base.get? b=some o):b∉X.fs:=fun hb=>by
 have:=(ok.funs.mem hb).1
 rw[e]at this;cases this
theorem Inv.bs(I:Inv X pins σ H s):∀ b o,X.base.get? b=some o->s.heap.get? b=some o/\H b=none:=fun b o e =>
 ⟨I.base.keep b o (I.ok.bs b o e).1 (I.ok.bs b o e).2 (I.ok.nofr e) (I.ok.noex b o e),I.base.free b o (I.ok.bs b o e).1 (I.ok.bs b o e).2 (I.ok.noex b o e)⟩
theorem Inv.bk(I:Inv X pins σ H s):∀ b o,X.base.get? b=some o->s.heap.get? b=some o:=fun b o e=>(I.bs b o e).1
theorem Inv.mod(I:Inv X pins σ H s):Mod X.K X.mg X.base:=I.ok.mod
theorem Inv.kIn(I:Inv X pins σ H s):X.K.In s.heap:=I.ok.mod.kin.keeps I.bk
theorem Inv.lt(I:Inv X pins σ H s):X.env.locals<s.heap.objs.size:=let ⟨_,hn,_⟩:=I.loc;hn.lt
theorem Inv.sz(I:Inv X pins σ H s):X.s₀.heap.objs.size<=s.heap.objs.size:=Nat.le_trans I.ok.above (Nat.le_of_lt I.lt)
theorem Inv.nofs(I:Inv X pins σ H s){a:Addr}(h:s.heap.objs.size<=a):a∉X.fs:=fun hb=>by
 obtain⟨_,o,ho,_⟩:=I.ok.funs.mem hb
 exact absurd (Nat.lt_of_lt_of_le (Heap.lt_size ho) (Nat.le_trans I.sz h)) (Nat.lt_irrefl _)
theorem Inv.cne(I:Inv X pins σ H s):∀ x c,X.env.cells.lookup x=some c->c≠X.env.locals:=fun x c e z=>by
 obtain⟨v,o,ho,hd⟩:=I.cell x c e
 obtain⟨m,⟨o',es,ep,ho',hd',_⟩,_⟩:=I.loc
 rw[z,ho']at ho;cases ho;rw[hd']at hd;cases hd
theorem Inv.funs(I:Inv X pins σ H s):s.heap.FunFrames X.base X.outer:=by
 have all:∀ (l:List Env),(∀ b∈frs l,b∈X.fs)->X.s₀.heap.FunFrames X.base l->s.heap.FunFrames X.base l:=by
  intro l
  induction l with
  |nil=>intro _ _;trivial
  |cons env r ih =>
   intro hs hl
   obtain⟨hk,⟨L,o,hf,hn,ho,hd⟩,hr⟩:=hl
   have hL:L∈X.fs:=hs L (by unfold frs;rw[List.filterMap_cons,hf];exact List.mem_cons_self)
   obtain⟨sl,e⟩:=I.base.slot L o ho (I.ok.frf L hL) hL fun z=>I.ok.exfs L z hL
   exact⟨hk,⟨L,_,hf,hn,e,hd⟩,ih (fun b hb=>hs b (by unfold frs;rw[List.filterMap_cons,hf];exact List.mem_cons_of_mem _ hb)) hr⟩
 exact all X.outer (fun _ hb=>hb) I.ok.funs
theorem Inv.stack(I:Inv X pins σ H s):s.heap.FunFrames X.base X.stack:=by
 rcases I.ok.stk with e |⟨e,hf⟩
 ·rw[e];exact I.funs
 ·rw[e]
  obtain⟨m,hn,_⟩:=I.loc
  refine .cons (by rw[I.ok.kind];decide) hf hn ?_ I.funs
  exact Heap.get?_none_of_le (Nat.le_trans I.ok.bsz I.ok.above)
theorem Inv.stkSub(I:Inv X pins σ H s):∀ b∈frs X.stack,b∈X.env.locals :: X.fs:=fun b hb=>by
 rcases I.ok.stk with e |⟨e,hf⟩
 ·rw[e]at hb;exact List.mem_cons_of_mem _ hb
 ·rw[e]at hb
  unfold frs at hb
  rw[List.filterMap_cons,hf]at hb
  exact hb
theorem Inv.stkFree(I:Inv X pins σ H s):∀ b∈frs X.stack,H b=none:=fun b hb=>by
 rcases List.mem_cons.mp (I.stkSub b hb)with e | hb
 ·rw[e];exact I.free
 ·obtain⟨_,o,ho,_⟩:=I.ok.funs.mem hb
  exact I.base.free b o ho (I.ok.frf b hb) fun z=>I.ok.exfs b z hb
theorem Inv.step{g':Array GenState}{t':Nat}{d':Drawn}{ch:List Addr}(I:Inv X pins σ H s)
  (hch:∀ b∈ch,(b∈X.ex\/X.s₀.heap.objs.size<=b)/\b≠X.env.locals/\(∀ x c,X.env.cells.lookup x=some c->c≠b)/\∀ p∈X.pn++pins,p.1≠b)
  (keep:∀ b o,b≠X.env.locals->b∉X.fs->b∉ch->s.heap.get? b=some o->H b=none->h'.get? b=some o)
  (slot:∀ b o,b≠X.env.locals->b∈X.fs->b∉ch->s.heap.get? b=some o->H b=none->∃ sl,h'.get? b=some { o with slots:=sl }) (free:∀ b o,b∉ch->s.heap.get? b=some o->H b=none->H' b=none)
  (there:∀ b o,b∉ch->s.heap.get? b=some o->∃ o',h'.get? b=some o')
  (tups:∀ b xs,H b=some (.tup xs)->H' b=some (.tup xs)) (frzs:∀ b o u,H b=some (.frz o u)->H' b=some (.frz o u)) (tbls:∀ b ps,H b=some (.tbl ps)->∃ more,H' b=some (.tbl (ps++more)))
  (ns:∀ m,s.heap.Ns X.env.locals m->h'.Ns X.env.locals m) (hok:HOk X.prog X.w H' h') (hg:AllBare g') :
  Inv X pins σ H' { s with heap:=h',gens:=g',drawn:=d',toks:=t' }:=by
 have neL:∀ b o,X.s₀.heap.get? b=some o->b≠X.env.locals:=fun b o e=>Nat.ne_of_lt (Nat.lt_of_lt_of_le (Heap.lt_size e) I.ok.above)
 have neC:∀ b o,X.s₀.heap.get? b=some o->b∉X.ex->b∉ch:=fun b o e hx hb=>by
  rcases(hch b hb).1 with z | z
  ·exact hx z
  ·exact absurd (Nat.lt_of_lt_of_le (Heap.lt_size e) z) (Nat.lt_irrefl _)
 have cellK:∀ x c,X.env.cells.lookup x=some c->∀ v,s.heap.IsCell c v->h'.IsCell c v:=fun x c e v ⟨o,ho,hd⟩=>by
  have nch:c∉ch:=fun z=>(hch c z).2.2.1 x c e rfl
  by_cases hc:c∈X.fs
  ·obtain⟨sl,q⟩:=slot c o (I.cne x c e) hc nch ho (I.freeC x c e)
   exact⟨_,q,hd⟩
  ·exact⟨o,keep c o (I.cne x c e) hc nch ho (I.freeC x c e),hd⟩
 refine⟨I.ok,I.os,hg,⟨fun b o e n hb hx=>?_,fun b o e n hb hx=>?_,fun b o e n hx=>?_,fun b o e hx=>?_,fun b xs e=>tups b xs (I.base.tups b xs e),fun b o xs e=>frzs b o xs (I.base.frzs b o xs e),fun b ps e=>?_⟩,?_,fun x c e=>?_,?_,fun x c e=>?_,fun p hp=>?_,hok,I.len⟩
 ·exact keep b o (neL b o e) hb (neC b o e hx) (I.base.keep b o e n hb hx) (I.base.free b o e n hx)
 ·obtain⟨sl,e1⟩:=I.base.slot b o e n hb hx
  obtain⟨sl',e2⟩:=slot b _ (neL b o e) hb (neC b o e hx) e1 (I.base.free b o e n hx)
  exact⟨sl',e2⟩
 ·obtain⟨o',e1⟩:=I.base.there b o e hx
  exact free b o' (neC b o e hx) e1 (I.base.free b o e n hx)
 ·obtain⟨o',e1⟩:=I.base.there b o e hx
  exact there b o' (neC b o e hx) e1
 ·obtain⟨m1,e1⟩:=I.base.tbls b ps e
  obtain⟨m2,e2⟩:=tbls b _ e1
  exact⟨m1++m2,by rw[e2,Array.append_assoc]⟩
 ·obtain⟨m,hn,hl⟩:=I.loc
  refine⟨m,ns m hn,fun i x v e1 e2 e3=>?_⟩
  obtain⟨u,r,l⟩:=hl i x v e1 e2 e3
  refine⟨u,r,?_⟩
  rcases l with l |⟨k,c,e,z⟩
  ·exact .inl l
  ·exact .inr ⟨k,c,e,cellK x c e _ z⟩
 ·obtain⟨v,z⟩:=I.cell x c e
  exact⟨v,cellK x c e v z⟩
 ·obtain⟨m,⟨o,_,_,ho,_⟩,_⟩:=I.loc
  exact free _ o (fun z=>(hch _ z).2.1 rfl) ho I.free
 ·obtain⟨v,o,ho,hd⟩:=I.cell x c e
  exact free c o (fun z=>(hch c z).2.2.1 x c e rfl) ho (I.freeC x c e)
 ·obtain⟨e,n,ne,nf,d⟩:=I.pin p hp
  have nch:p.1∉ch:=fun z=>(hch p.1 z).2.2.2 p hp rfl
  exact⟨keep p.1 p.2 ne nf nch e n,free p.1 p.2 nch e n,ne,nf,d⟩
theorem Inv.un{t':Nat}(I:Inv X pins σ H s)(u:Un X.fs [] H H' s.heap h')(hok:HOk X.prog X.w H' h'):Inv X pins σ H' { s with heap:=h',toks:=t' }:=by
 obtain⟨m,⟨o,es,ep,ho,r⟩,_⟩:=id I.loc
 obtain⟨sl,hL⟩:=u.any ho I.free (by simp)
 exact I.step (g':=s.gens) (d':=s.drawn) (ch:=[]) (fun _ z=>nomatch z) (fun b o _ hb _ e n=>u.keep b o e n hb (by simp)) (fun b o _ hb _ e n=>u.slot b o e n hb (by simp)) (fun b o _ e n=>u.free b o e n (by simp)) (fun b o _ e=>u.there b o e (by simp)) u.tups u.frzs u.tbls (fun m' hm=>by
  obtain⟨o',es',ep',ho',r'⟩:=hm
  rw[ho]at ho';cases ho'
  exact⟨_,es',ep',hL,r'⟩) hok I.bare
theorem Inv.call{g':Array GenState}{t':Nat}{d':Drawn}{ch:List Addr}(I:Inv X pins σ H s)(u:Un (frs X.stack) ch H H' s.heap h')(hok:HOk X.prog X.w H' h')(hg:AllBare g')
  (hch:∀ b∈ch,(b∈X.ex\/X.s₀.heap.objs.size<=b)/\b≠X.env.locals/\(∀ x c,X.env.cells.lookup x=some c->c≠b)/\∀ p∈X.pn++pins,p.1≠b) :
  Inv X pins σ H' { s with heap:=h',gens:=g',drawn:=d',toks:=t' }:=by
 obtain⟨m,⟨o,es,ep,ho,r⟩,_⟩:=id I.loc
 obtain⟨sl,hL⟩:=u.any ho I.free fun z=>(hch _ z).2.1 rfl
 exact I.step (ch:=ch) hch (fun b o hL hb hc e n=>u.keep b o e n (fun z=>(List.mem_cons.mp (I.stkSub b z)).elim hL hb) hc) (fun b o _ _ hc e n=>u.any e n hc) (fun b o hc e n=>u.free b o e n hc) (fun b o hc e=>u.there b o e hc) u.tups u.frzs u.tbls (fun m' hm=>by
  obtain⟨o',es',ep',ho',r'⟩:=hm
  rw[ho]at ho';cases ho'
  exact⟨_,es',ep',hL,r'⟩) hok hg
theorem Inv.turned{t':Nat}{it:Addr}(I:Inv X pins σ H s)(k:∀ b o,b≠it->s.heap.get? b=some o->h'.get? b=some o)(hn:H it=none)(hL:it≠X.env.locals)
  (h1:it∈X.ex\/X.s₀.heap.objs.size<=it) (h2:∀ x c,X.env.cells.lookup x=some c->c≠it) (h3:∀ p∈X.pn++pins,p.1≠it):Inv X pins σ H { s with heap:=h',toks:=t' }:=by
 have nit:∀ b u,H b=some u->b≠it:=fun b u e z=>by rw[z,hn]at e;cases e
 refine I.step (g':=s.gens) (d':=s.drawn) (ch:=[it]) (fun b hb=>?_) (fun b o _ _ hc e _=>k b o (fun z=>hc (by simp[z])) e) (fun b o _ _ hc e _=>⟨o.slots,k b o (fun z=>hc (by simp[z])) e⟩) (fun _ _ _ _ n=>n)
  (fun b o hc e=>⟨o,k b o (fun z=>hc (by simp[z])) e⟩) (fun _ _ e=>e) (fun _ _ _ e=>e) (fun b ps e=>⟨#[],by rw[e];simp⟩) (fun m hm=>?_) (fun b u e=>?_) I.bare
 ·have e:b=it:=by simpa using hb
  subst e
  exact⟨h1,hL,h2,h3⟩
 ·obtain⟨o,es,ep,ho,r⟩:=hm
  exact⟨o,es,ep,k _ o (Ne.symm hL) ho,r⟩
 ·refine(I.hok b u e).stay (fun c v hc q=>k c v ?_ q) (fun _ q=>q) fun _ _ q=>q
  rcases hc with z | z
  ·rw[z];exact nit b u e
  ·exact nit c _ z
theorem Inv.tok(I:Inv X pins σ H s)(t:Nat):Inv X pins σ H { s with toks:=t }:=I.un (h':=s.heap) (t':=t) Un.refl I.hok
theorem Inv.kept{t':Nat}(I:Inv X pins σ H s)(k:∀ b u,s.heap.get? b=some u->h'.get? b=some u):Inv X pins σ H { s with heap:=h',toks:=t' }:=I.un (Un.kept k) (I.hok.kept k)
theorem Inv.laid{a:Addr}{o:HO}{t':Nat}(I:Inv X pins σ H s)(k:∀ b u,s.heap.get? b=some u->h'.get? b=some u)(hp:s.heap.objs.size<=a)(new:ObjOk X.prog X.w (upd H a o) h' a o) :
  Inv X pins σ (upd H a o) { s with heap:=h',toks:=t' }:=I.un (Un.laid k hp (I.hok.fresh hp)) (I.hok.laid k hp new)
theorem Inv.write{x e:Addr}{o:HO}{t':Nat}(I:Inv X pins σ H s)(mu:Mut (H x))(he:e=x\/H e=some (.own x))(k:∀ b u,b≠e->s.heap.get? b=some u->h'.get? b=some u)(heo:∃ u,h'.get? e=some u)
  (new:ObjOk X.prog X.w (upd H x o) h' x o):Inv X pins σ (upd H x o) { s with heap:=h',toks:=t' }:=I.un (Un.write mu he k heo) (I.hok.write mu he k heo new)
theorem Inv.weak{σ':List (Option V)}(I:Inv X pins σ H s)(hl:σ'.length=σ.length)(w:∀ (i:Nat) v,σ'[i]?=some (some v)->σ[i]?=some (some v)):Inv X pins σ' H s :=
 ⟨I.ok,I.os,I.bare,I.base,let ⟨m,hn,hl'⟩:=I.loc;⟨m,hn,fun i x v e1 e2 e3=>hl' i x v e1 (w i v e2) e3⟩,I.cell,I.free,I.freeC,I.pin,I.hok,hl.trans I.len⟩
theorem Inv.pins_of{pins':List (Addr×Obj)}(I:Inv X pins σ H s)(h:∀ p∈pins',s.heap.get? p.1=some p.2/\H p.1=none/\p.1≠X.env.locals/\p.1∉X.fs/\∀ v,p.2.data≠.cell v):Inv X pins' σ H s :=
 ⟨I.ok,I.os,I.bare,I.base,I.loc,I.cell,I.free,I.freeC,fun p hp=>(List.mem_append.mp hp).elim (fun z=>I.pin p (List.mem_append_left _ z)) (h p),I.hok,I.len⟩
theorem nodup_ix{N:List Str}(hN:N.Nodup){i j:Nat}{x:Str}(a:N[i]?=some x)(b:N[j]?=some x):i=j:=by
 obtain⟨h1,e1⟩:=List.getElem?_eq_some_iff.mp a
 obtain⟨h2,e2⟩:=List.getElem?_eq_some_iff.mp b
 exact(List.getElem_inj hN).mp (e1.trans e2.symm)
theorem store_ok2{M:Model}{A:Around}{E:Value->Shared->Prop}{i:Nat}{x:Str}{v:V}{u:Value}{Q:Unit->Shared->Prop}(I:Inv X pins σ H s)(hN:X.N.Nodup)(hi:X.N[i]?=some x)(hx:Loc X.env.scope x)(r:RelV v u)
  (h:∀ s',Inv X pins (σ.set i (some v)) H s'->(∃ a,Heap.SameBut a s.heap s'.heap/\(a=X.env.locals\/X.env.cells.lookup x=some a))->Q () s') (hf:X.fn x=true\/X.env.scope.names.lookup x=some .local:=by first | exact .inl rfl | exact .inr rfl | assumption):wpAny M A (storeName X.env x u) Q E s:=by
 obtain⟨m,hn,hl⟩:=id I.loc
 have hcls:(X.env.scope.kind == .class ||(X.env.scope.kind == .module && X.env.locals != X.env.globals))=false:=by rw[I.ok.kind];rfl
 have hiσ:i<σ.length:=by rw[I.len];exact(List.getElem?_eq_some_iff.mp hi).1
 have cne:=I.cne
 have tracked:∀ {a:Addr}{h':Heap},(∃ o,s.heap.get? a=some o/\H a=none)->Heap.SameBut a s.heap h'->HOk X.prog X.w H h':=fun {a h'} ha hs b ob e=>by
  obtain⟨_,_,hfree⟩:=ha
  refine(I.hok b ob e).stay (fun c w' hc q=>(hs.2 c ?_).trans q) (fun _ q=>q) fun _ _ q=>q
  rintro rfl
  rcases hc with rfl | hc
  ·rw[hfree]at e;cases e
  ·rw[hfree]at hc;cases hc
 rcases hx with hk | hk
 ·refine wpAny_storeName_local hk hn (fun h' hn' hs=>?_) hcls
  obtain⟨oL,_,_,hoL,_⟩:=id hn
  refine h _ ⟨I.ok,I.os,I.bare,⟨fun b o e n hb hx=>?_,fun b o e n hb hx=>?_,I.base.free,fun b o e hx=>?_,I.base.tups,I.base.frzs,I.base.tbls⟩,⟨_,hn',fun j y v' e1 e2 e3=>?_⟩,fun y c e=>?_,I.free,I.freeC,fun p hp=>?_,tracked ⟨oL,hoL,I.free⟩ hs,by simpa using I.len⟩ ⟨_,hs,.inl rfl⟩
  ·exact(hs.2 b (Nat.ne_of_lt (Nat.lt_of_lt_of_le (Heap.lt_size e) I.ok.above))).trans (I.base.keep b o e n hb hx)
  ·obtain⟨sl,e1⟩:=I.base.slot b o e n hb hx
   exact⟨sl,(hs.2 b (Nat.ne_of_lt (Nat.lt_of_lt_of_le (Heap.lt_size e) I.ok.above))).trans e1⟩
  ·obtain⟨o',e1⟩:=I.base.there b o e hx
   exact⟨o',(hs.2 b (Nat.ne_of_lt (Nat.lt_of_lt_of_le (Heap.lt_size e) I.ok.above))).trans e1⟩
  ·by_cases hj:j=i
   ·subst hj
    rw[hi]at e1;cases e1
    rw[List.getElem?_set_self hiσ]at e2
    cases e2
    exact⟨u,r,.inl ⟨hk,by simp⟩⟩
   ·rw[List.getElem?_set_ne (Ne.symm hj)]at e2
    obtain⟨u',r',q⟩:=hl j y v' e1 e2 e3
    refine⟨u',r',?_⟩
    rcases q with⟨k,e⟩ |⟨k,c,e,z⟩
    ·refine .inl ⟨k,?_⟩
     have:y≠x:=fun e=>hj (nodup_ix hN e1 (e▸hi))
     simp[this,e]
    ·exact .inr ⟨k,c,e,z.sameBut hs (cne y c e)⟩
  ·obtain⟨w',z⟩:=I.cell y c e
   exact⟨w',z.sameBut hs (cne y c e)⟩
  ·obtain⟨e,n,ne,nf,d⟩:=I.pin p hp
   exact⟨(hs.2 p.1 ne).trans e,n,ne,nf,d⟩
 ·have hfn:X.fn x=true:=by
   rcases hf with z | z
   ·exact z
   ·rw[z]at hk;cases hk
  obtain⟨c,hc⟩:=I.ok.has x (.inl hk)
  obtain⟨w',z⟩:=I.cell x c hc
  refine wpAny_storeName_cell I.ok.kind hk hc z (fun h' hc' hs=>?_)
  obtain⟨oc,hoc,hocd⟩:=id z
  refine h { s with heap:=h' } ⟨I.ok,I.os,I.bare,⟨fun b o e n hb hx=>?_,fun b o e n hb hx=>?_,I.base.free,fun b o e hx=>?_,I.base.tups,I.base.frzs,I.base.tbls⟩,⟨m,hn.sameBut hs (Ne.symm (cne x c hc)),fun j y v' e1 e2 e3=>?_⟩,fun y c' e=>?_,I.free,I.freeC,fun p hp=>?_,tracked ⟨oc,hoc,I.freeC x c hc⟩ hs,by simpa using I.len⟩ ⟨c,hs,.inr hc⟩
  ·exact(hs.2 b (Nat.ne_of_lt (Nat.lt_of_lt_of_le (Heap.lt_size e) (I.ok.cab x c hfn hc)))).trans (I.base.keep b o e n hb hx)
  ·obtain⟨sl,e1⟩:=I.base.slot b o e n hb hx
   exact⟨sl,(hs.2 b (Nat.ne_of_lt (Nat.lt_of_lt_of_le (Heap.lt_size e) (I.ok.cab x c hfn hc)))).trans e1⟩
  ·obtain⟨o',e1⟩:=I.base.there b o e hx
   exact⟨o',(hs.2 b (Nat.ne_of_lt (Nat.lt_of_lt_of_le (Heap.lt_size e) (I.ok.cab x c hfn hc)))).trans e1⟩
  ·by_cases hj:j=i
   ·subst hj
    rw[hi]at e1;cases e1
    rw[List.getElem?_set_self hiσ]at e2
    cases e2
    exact⟨u,r,.inr ⟨.inl hk,c,hc,hc'⟩⟩
   ·rw[List.getElem?_set_ne (Ne.symm hj)]at e2
    obtain⟨u',r',q⟩:=hl j y v' e1 e2 e3
    refine⟨u',r',?_⟩
    rcases q with q |⟨k,c',e,z'⟩
    ·exact .inl q
    ·refine .inr ⟨k,c',e,z'.sameBut hs ?_⟩
     rintro rfl
     exact hj (nodup_ix hN e1 (I.ok.inj _ _ _ e hc▸hi))
  ·by_cases hcc:c'=c
   ·subst hcc;exact⟨_,hc'⟩
   ·obtain⟨w2,z2⟩:=I.cell y c' e
    exact⟨w2,z2.sameBut hs hcc⟩
  ·obtain⟨e,n,ne,nf,d⟩:=I.pin p hp
   refine⟨(hs.2 p.1 ?_).trans e,n,ne,nf,d⟩
   intro q
   rw[q,hoc]at e
   have q':oc=p.2:=Option.some.inj e
   exact d w' (by rw[<- q'];exact hocd)
theorem store_ok{M:Model}{A:Around}{E:Value->Shared->Prop}{i:Nat}{x:Str}{v:V}{u:Value}{Q:Unit->Shared->Prop}(I:Inv X pins σ H s)(hN:X.N.Nodup)(hi:X.N[i]?=some x)(hx:Loc X.env.scope x)(r:RelV v u)
  (h:∀ s',Inv X pins (σ.set i (some v)) H s'->Q () s') (hf:X.fn x=true\/X.env.scope.names.lookup x=some .local:=by first | exact .inl rfl | exact .inr rfl | assumption):wpAny M A (storeName X.env x u) Q E s :=
 store_ok2 I hN hi hx r (fun s' I' _=>h s' I') hf
theorem Inv.call'{s':Shared}{ch:List Addr}(I:Inv X pins σ H s)(ho:s'.os=s.os)(u:Un (frs X.stack) ch H H' s.heap s'.heap)(hok:HOk X.prog X.w H' s'.heap)(hg:AllBare s'.gens)
  (hch:∀ b∈ch,(b∈X.ex\/X.s₀.heap.objs.size<=b)/\b≠X.env.locals/\(∀ x c,X.env.cells.lookup x=some c->c≠b)/\∀ p∈X.pn++pins,p.1≠b):Inv X pins σ H' s':=by
 obtain⟨h',g',d',t',o'⟩:=s'
 have e:o'=s.os:=ho
 subst e
 exact I.call (g':=g') (t':=t') (d':=d') u hok hg hch
end
noncomputable abbrev XK:=Value->Option Addr->Hp->Prop
noncomputable abbrev St:=List (Option V)
noncomputable abbrev VK:=V->Hp->Prop
noncomputable abbrev TE:=St->Hp->VK->Prop
noncomputable abbrev TT:=St->Hp->(Bool->Hp->Prop)->Prop
noncomputable abbrev TA:=St->Hp->(List V->Hp->Prop)->Prop
structure Ends where
 nx:St->Hp->Prop
 rt:VK
 bk:St->Hp->Prop:=fun _ _=>False
 ct:St->Hp->Prop:=fun _ _=>False
noncomputable abbrev TS:=Ends->St->Hp->Prop
noncomputable def EP(X:Cx)(pins:List (Addr×Obj))(σ:St)(Q:VK)(u:Value)(s':Shared):Prop:=∃ v H',Inv X pins σ H' s'/\RelV v u/\Q v H'
noncomputable def TP(X:Cx)(pins:List (Addr×Obj))(σ:St)(Q:Bool->Hp->Prop)(b:Bool)(s':Shared):Prop:=∃ H',Inv X pins σ H' s'/\Q b H'
noncomputable def AP(X:Cx)(pins:List (Addr×Obj))(σ:St)(Q:List V->Hp->Prop)(us:List Value)(s':Shared):Prop:=∃ vs H',Inv X pins σ H' s'/\Vals vs us/\Q vs H'
noncomputable def SP(X:Cx)(pins:List (Addr×Obj))(D:Ends)(f:Flow)(s':Shared):Prop :=
 match f with
 | .next=>∃ σ' H',Inv X pins σ' H' s'/\D.nx σ' H'
 | .brk=>∃ σ' H',Inv X pins σ' H' s'/\D.bk σ' H'
 | .cont=>∃ σ' H',Inv X pins σ' H' s'/\D.ct σ' H'
 | .ret u=>∃ v σ' H',Inv X pins σ' H' s'/\RelV v u/\D.rt v H'
noncomputable def PE(X:Cx)(e:Expr)(t:TE):Prop :=
 ∀ (pins:List (Addr×Obj)) (s:Shared) (σ:St) (H:Hp) (Q:VK),Inv X pins σ H s->t σ H Q->wpAny (model X.prog X.w) X.A (eval e X.env) (EP X pins σ Q) X.xe s
noncomputable def PT(X:Cx)(e:Expr)(t:TT):Prop :=
 ∀ (pins:List (Addr×Obj)) (s:Shared) (σ:St) (H:Hp) (Q:Bool->Hp->Prop),Inv X pins σ H s->t σ H Q->wpAny (model X.prog X.w) X.A (isTrue e X.env (eval e X.env)) (TP X pins σ Q) X.xe s
noncomputable def PW(X:Cx)(e:Expr)(t:TT):Prop :=
 ∀ (whole:Sem Value) (pins:List (Addr×Obj)) (s:Shared) (σ:St) (H:Hp) (Q:Bool->Hp->Prop),Inv X pins σ H s->t σ H Q->wpAny (model X.prog X.w) X.A (isTrue e X.env whole) (TP X pins σ Q) X.xe s
theorem PW.pt{X:Cx}{e:Expr}{t:TT}(h:PW X e t):PT X e t:=h _
noncomputable def PA(X:Cx)(es:List Expr)(t:TA):Prop :=
 ∀ (pos:Pos) (pins:List (Addr×Obj)) (s:Shared) (σ:St) (H:Hp) (Q:List V->Hp->Prop),Inv X pins σ H s->t σ H Q->wpAny (model X.prog X.w) X.A (spliced (backTo pos (starEach es X.env))) (AP X pins σ Q) X.xe s
noncomputable def PS(X:Cx)(st:Stmt)(t:TS):Prop :=
 ∀ (pins:List (Addr×Obj)) (s:Shared) (σ:St) (H:Hp) (D:Ends),Inv X pins σ H s->t D σ H->wpAny (model X.prog X.w) X.A (exec st X.env) (SP X pins D) X.xe s
noncomputable def PSs(X:Cx)(st:List Stmt)(t:TS):Prop :=
 ∀ (pins:List (Addr×Obj)) (s:Shared) (σ:St) (H:Hp) (D:Ends),Inv X pins σ H s->t D σ H->wpAny (model X.prog X.w) X.A (execs st X.env) (SP X pins D) X.xe s
theorem thn{α:Type}{t:Sem α}{Q Q':α->Shared->Prop}{M:Model}{A:Around}{E:Value->Shared->Prop}{s:Shared}(h:wpAny M A t Q E s)(hQ:∀ a s,Q a s->Q' a s):wpAny M A t Q' E s:=wpAny_mono h hQ fun _ _ x=>x
open PySem PySem.Spec PyProof.Rows
section
variable{X:Cx}
noncomputable def tVar(i:Nat):TE:=fun σ H Q=>∃ v,σ[i]?=some (some v)/\Q v H
noncomputable def tC(v:V):TE:=fun _ H Q=>Q v H
theorem pe_var{i:Nat}{x:Str}{pos:Pos}(hN:X.N[i]?=some x)(hv:Vis X.env.scope x)(hd:(x ==("__debug__":Str))=false:=by decide)(hcd:(x ==("__classdict__":Str))=false:=by decide):PE X (.Name x pos) (tVar i):=by
 intro pins s σ H Q I h
 obtain⟨v,e,h⟩:=h
 obtain⟨m,hn,hl⟩:=I.loc
 obtain⟨u,r,l⟩:=hl i x v hN e hv
 have fin:EP X pins σ Q u s:=⟨v,H,I,r,h⟩
 rcases l with⟨hk,hm⟩ |⟨hk,c,hc,hcell⟩
 ·exact wpAny_Name (wpAny_loadName_local I.ok.kind hk hn hm fin) hd
 ·rcases hk with hk | hk
  ·exact wpAny_Name (wpAny_loadName_cell I.ok.kind hk hc hcell fin) hd
  ·exact wpAny_Name (wpAny_loadName_free I.ok.kind hk hc hcell fin hcd) hd
theorem pe_int{i j pos}:PE X (.Constant (.int i) j pos) (tC (.int i)):=fun _ _ _ H _ I h=>wpAny_Constant_int ⟨.int i,H,I.tok _,⟨_,rfl⟩,h⟩
theorem pe_bl{b j pos}:PE X (.Constant (.bool b) j pos) (tC (.bl b)):=fun _ _ _ H _ I h=>Constant_bool ⟨.bl b,H,I,rfl,h⟩
theorem pe_non{j pos}:PE X (.Constant .none j pos) (tC .non):=fun _ _ _ H _ I h=>Constant_none ⟨.non,H,I,rfl,h⟩
noncomputable def Gl(X:Cx)(x:Str):Prop:=X.env.kindOf x=some .globalImplicit
theorem ld_glob{E:Value->Shared->Prop}{pins:List (Addr×Obj)}{s:Shared}{σ:St}{H:Hp}{x:Str}{u:Value}{pos:Pos}{Q:Value->Shared->Prop}(I:Inv X pins σ H s)(hg:Gl X x)(hm:X.mg x=some u)(h:Q u s)
  (hd:(x ==("__debug__":Str))=false:=by decide):wpAny (model X.prog X.w) X.A (eval (.Name x pos) X.env) Q E s :=
 Calls.Name_function_global I.ok.kind hg (Calls.loadGlobal_global (by rw[I.ok.glob];exact I.mod.glob.keeps I.bk) hm h) hd
theorem ld_blt{E:Value->Shared->Prop}{pins:List (Addr×Obj)}{s:Shared}{σ:St}{H:Hp}{x:Str}{u:Value}{pos:Pos}{Q:Value->Shared->Prop}(I:Inv X pins σ H s)(hg:Gl X x)(hm:X.mg x=none)(hv:bootBuiltins x=some u)(h:Q u s)
  (hn:x≠"__name__":=by decide) (hd:(x ==("__debug__":Str))=false:=by decide):wpAny (model X.prog X.w) X.A (eval (.Name x pos) X.env) Q E s:=by
 obtain⟨mb,h1,h2⟩:=I.mod.blt
 exact Calls.Name_function_global I.ok.kind hg (Calls.loadGlobal_builtin (by rw[I.ok.glob];exact I.mod.glob.keeps I.bk) hm (by rw[I.ok.blt];exact h1.keeps I.bk) ((h2 x hn).trans hv) h) hd
variable{a b:Expr}{ta tb:TE}{pos:Pos}
noncomputable def PC(X:Cx)(op:CmpOp)(a b:Expr)(t:TE):Prop :=
 ∀ (pins:List (Addr×Obj)) (s:Shared) (σ:St) (H:Hp) (Q:VK),Inv X pins σ H s->t σ H Q ->
  wpAny (model X.prog X.w) X.A (eval a X.env) (fun v s₁=>wpAny (model X.prog X.w) X.A (eval b X.env) (fun u s₂=>wpAny (model X.prog X.w) X.A (compareOp op v u) (EP X pins σ Q) X.xe s₂) X.xe s₁) X.xe s
theorem nobehind(b:Expr){op:CmpOp}(h:op≠.In)(h2:op≠.NotIn):behindInMarks op b=false:=by
 have e1:(op == CmpOp.In)=false:=by cases op <;> first | rfl | exact absurd rfl h
 have e2:(op == CmpOp.NotIn)=false:=by cases op <;> first | rfl | exact absurd rfl h2
 cases b <;> simp[behindInMarks,e1,e2]
noncomputable def tNotN(ta:TE):TE:=fun σ H Q=>ta σ H fun x H1=>Q (.bl (!decide (x = .non))) H1
theorem RelV.none_iff{x:V}{v:Value}(r:RelV x v):(v == Value.none)=decide (x = .non):=by
 cases x with
 |non=>cases r;rfl
 |bl _=>cases r;rfl
 |int _=>obtain⟨t,rfl⟩:=r;rfl
 |str _=>obtain⟨t,rfl⟩:=r;rfl
 |byt _=>obtain⟨t,rfl⟩:=r;rfl
 |flt _=>obtain⟨t,rfl⟩:=r;rfl
 |ref _=>cases r;rfl
 |ty _=>cases r;rfl
theorem pc_notN{j pos'}(ha:PE X a ta):PC X .IsNot a (.Constant .none j pos') (tNotN ta):=by
 intro pins s σ H Q I h
 refine thn (ha pins s σ H _ I h) fun v s1 ⟨x,H1,I1,r1,q1⟩=>?_
 exact Constant_none (isnot_none_gen ⟨.bl _,H1,I1,by rw[r1.none_iff];rfl,q1⟩)
noncomputable def tB(t:TE):TT:=fun σ H Q=>t σ H fun x H1=>∃ c,x = .bl c/\Q c H1
theorem pt_cmp{op:CmpOp}{t:TE}(h:PC X op a b t)(h1:behindInMarks op b=false:=by first | exact nobehind _ (by decide) (by decide) | rfl):PT X (.Compare a [op] [b] pos) (tB t):=by
 intro pins s σ H Q I hw
 refine wpAny_isTrue_Compare1 (thn (h pins s σ H _ I hw) fun v s1 h1=>thn h1 fun u s2 h2=>thn h2 fun c s3 ⟨x,H1,I1,r1,q1⟩=>?_) h1
 obtain⟨d,rfl,q⟩:=q1
 cases r1
 exact wpAny_truthy_bool ⟨H1,I1,q⟩
theorem pt_val{e:Expr}{t:TE}(h:PE X e t)(he:∀ whole,isTrue e X.env whole=(do let v <- whole;standAt e.pos;holding [v] (truthy v)):=by intro _;rfl):PT X e (tB t):=by
 intro pins s σ H Q I hw
 refine isTrue_plain (thn (h pins s σ H _ I hw) fun v s1 ⟨x,H1,I1,r1,q1⟩=>?_) (he _)
 obtain⟨d,rfl,q⟩:=q1
 cases r1
 exact wpAny_truthy_bool ⟨H1,I1,q⟩
variable{tA tB':TT}{rest:List Expr}
noncomputable def tAnd(t u:TT):TT:=fun σ H Q=>t σ H fun c H1=>if c=true then u σ H1 Q else Q false H1
noncomputable def tNot(t:TT):TT:=fun σ H Q=>t σ H fun c H1=>Q (!c) H1
theorem pw_and1(ha:PT X a tA):PW X (.BoolOp .And [a] pos) tA:=by
 intro wh pins s σ H Q I h
 refine isTrue_and (thn (ha pins s σ H Q I h) fun c s1 e=>?_)
 cases c with
 |true=>exact isTrue_and_nil e
 |false=>exact e
theorem pw_and(ha:PT X a tA)(hb:PW X (.BoolOp .And (b :: rest) pos) tB'):PW X (.BoolOp .And (a :: b :: rest) pos) (tAnd tA tB'):=by
 intro wh pins s σ H Q I h
 refine isTrue_and (thn (ha pins s σ H _ I h) fun c s1 ⟨H1,I1,q1⟩=>?_)
 cases c with
 |true=>exact hb wh pins s1 σ H1 Q I1 q1
 |false=>exact⟨H1,I1,q1⟩
theorem pt_not(ha:PT X a tA):PT X (.UnaryOp .Not a pos) (tNot tA):=by
 intro pins s σ H Q I h
 exact isTrue_not (ha pins s σ H (fun c H1=>Q (!c) H1) I h)
noncomputable def tIf(t:TT)(ta tb:TE):TE:=fun σ H Q=>t σ H fun c H1=>if c=true then ta σ H1 Q else tb σ H1 Q
theorem pe_ifExp{c:Expr}(hc:PT X c tA)(ha:PE X a ta)(hb:PE X b tb):PE X (.IfExp c a b pos) (tIf tA ta tb):=by
 intro pins s σ H Q I h
 refine wpAny_IfExp (thn (hc pins s σ H _ I h) fun d s1 ⟨H1,I1,q1⟩=>?_)
 cases d with
 |true=>exact ha pins s1 σ H1 Q I1 q1
 |false=>exact hb pins s1 σ H1 Q I1 q1
end
open PySem PySem.Spec PyProof.Rows
noncomputable def SqL(K:PySem.W.Frag)(H:Hp)(a:Addr)(xs:List V):Prop :=
 Rd H a (.lst xs) \/
  ∃ (o:Obj) (its:Array Value) (n:Nat),K.lookup a=some o/\o.cls = .type "list"/\o.dict=none/\o.data = .seq its n/\its.size<=sizeLine/\Vals xs its.toList
noncomputable def SqT(K:PySem.W.Frag)(H:Hp)(a:Addr)(xs:List V):Prop :=
 Rd H a (.tup xs) \/
  ∃ (o:Obj) (its:Array Value) (n:Nat),K.lookup a=some o/\o.cls = .type "tuple"/\o.data = .seq its n/\its.size<=sizeLine/\Vals xs its.toList
noncomputable def absV:Value->Option V
 | .none=>some .non
 | .bool b=>some (.bl b)
 | .int i _=>some (.int i)
 | .str x _=>some (.str x)
 | .bytes b _=>some (.byt b)
 | .float b _=>some (.flt b)
 | .ref a=>some (.ref a)
 | .type n=>some (.ty n)
 | _=>none
theorem RelV.abs{x:V}{u:Value}(r:RelV x u):absV u=some x:=by
 cases x with
 |non=>cases r;rfl
 |bl _=>cases r;rfl
 |int _=>obtain⟨t,rfl⟩:=r;rfl
 |str _=>obtain⟨t,rfl⟩:=r;rfl
 |byt _=>obtain⟨t,rfl⟩:=r;rfl
 |flt _=>obtain⟨t,rfl⟩:=r;rfl
 |ref _=>cases r;rfl
 |ty _=>cases r;rfl
theorem RelV.inj{x y:V}{u:Value}(r:RelV x u)(q:RelV y u):x=y:=Option.some.inj (r.abs.symm.trans q.abs)
theorem Vals.inj:∀ {xs ys:List V}{us:List Value},Vals xs us->Vals ys us->xs=ys:=by
 intro xs ys us h
 induction h generalizing ys with
 |nil=>intro h';cases h';rfl
 |cons r t ih =>
  intro h'
  cases h' with
  |cons r' t'=>rw[r.inj r',ih t']
section
variable{X:Cx}{pins:List (Addr×Obj)}{σ:St}{H:Hp}{s:Shared}{a:Addr}{xs ys:List V}
theorem SqL.of{K:PySem.W.Frag}(h:H a=some (.lst xs)):SqL K H a xs:=.inl (.inl h)
theorem SqT.of{K:PySem.W.Frag}(h:H a=some (.tup xs)):SqT K H a xs:=.inl (.inl h)
theorem Inv.list(I:Inv X pins σ H s)(h:SqL X.K H a xs):∃ its:List Value,Vals xs its/\PlainL s.heap a its.toArray/\xs.length<=sizeLine:=by
 rcases h with h |⟨o,its,n,hk,hc,hd,hs,hz,r⟩
 ·obtain⟨z,its,n,r,e⟩:=h.ok I.hok
  exact⟨its,r,⟨_,n,e,rfl,rfl,rfl⟩,z⟩
 ·refine⟨its.toList,r,⟨o,n,I.kIn a o hk,hc,hd,by simpa using hs⟩,?_⟩
  have e:=r.length
  simp only[Array.length_toList]at e
  lia
theorem Inv.tuple(I:Inv X pins σ H s)(h:SqT X.K H a xs):∃ its:List Value,Vals xs its/\IsTup s.heap a its.toArray/\xs.length<=sizeLine:=by
 rcases h with h |⟨o,its,n,hk,hc,hs,hz,r⟩
 ·obtain⟨z,its,r,p⟩:=h.ok I.hok
  exact⟨its,r,p,z⟩
 ·refine⟨its.toList,r,⟨o,I.kIn a o hk,hc,n,by simpa using hs⟩,?_⟩
  have e:=r.length
  simp only[Array.length_toList]at e
  lia
theorem Inv.list_inj(I:Inv X pins σ H s)(h:SqL X.K H a xs)(h':SqL X.K H a ys):xs=ys:=by
 obtain⟨its,r,⟨o,n,e,_,_,d⟩,_⟩:=I.list h
 obtain⟨its',r',⟨o',n',e',_,_,d'⟩,_⟩:=I.list h'
 rw[e]at e';cases e'
 rw[d]at d'
 injection d' with d1 _
 have:its=its':=by simpa using congrArg Array.toList d1
 subst this
 exact r.inj r'
theorem Inv.tuple_inj(I:Inv X pins σ H s)(h:SqT X.K H a xs)(h':SqT X.K H a ys):xs=ys:=by
 obtain⟨its,r,⟨o,e,_,n,d⟩,_⟩:=I.tuple h
 obtain⟨its',r',⟨o',e',_,n',d'⟩,_⟩:=I.tuple h'
 rw[e]at e';cases e'
 rw[d]at d'
 injection d' with d1 _
 have:its=its':=by simpa using congrArg Array.toList d1
 subst this
 exact r.inj r'
end
noncomputable abbrev Cx.wish(X:Cx)(E:Value->Shared->Prop):Cx:={ X with xe:=E }
noncomputable abbrev Cx.nox(X:Cx):Cx:=X.wish fun _ _=>False
theorem Cx.Ok.wish{X:Cx}(ok:X.Ok)(E:Value->Shared->Prop):(X.wish E).Ok :=
 ⟨ok.mod,ok.kind,ok.glob,ok.blt,ok.above,ok.inj,ok.has,ok.cab,ok.hd,ok.frames,ok.stk,ok.exf,ok.bs,ok.bsz,ok.noex,ok.exfs,ok.funs,ok.frf⟩
theorem Cx.Ok.unwish{X:Cx}{E:Value->Shared->Prop}(ok:(X.wish E).Ok):X.Ok :=
 ⟨ok.mod,ok.kind,ok.glob,ok.blt,ok.above,ok.inj,ok.has,ok.cab,ok.hd,ok.frames,ok.stk,ok.exf,ok.bs,ok.bsz,ok.noex,ok.exfs,ok.funs,ok.frf⟩
section
variable{X:Cx}{pins:List (Addr×Obj)}{σ:St}{H:Hp}{s:Shared}{E:Value->Shared->Prop}
theorem Inv.wish(I:Inv X pins σ H s)(E:Value->Shared->Prop):Inv (X.wish E) pins σ H s:=⟨I.ok.wish E,I.os,I.bare,I.base,I.loc,I.cell,I.free,I.freeC,I.pin,I.hok,I.len⟩
theorem Inv.unwish(I:Inv (X.wish E) pins σ H s):Inv X pins σ H s:=⟨I.ok.unwish,I.os,I.bare,I.base,I.loc,I.cell,I.free,I.freeC,I.pin,I.hok,I.len⟩
theorem SP.unwish{D:Ends}{f:Flow}{s':Shared}(h:SP (X.wish E) pins D f s'):SP X pins D f s':=by
 cases f with
 |next=>obtain⟨σ',H',I,q⟩:=h;exact⟨σ',H',I.unwish,q⟩
 |brk=>obtain⟨σ',H',I,q⟩:=h;exact⟨σ',H',I.unwish,q⟩
 |cont=>obtain⟨σ',H',I,q⟩:=h;exact⟨σ',H',I.unwish,q⟩
 |ret u=>obtain⟨v,σ',H',I,r,q⟩:=h;exact⟨v,σ',H',I.unwish,r,q⟩
theorem PSs.nox{st:List Stmt}{t:TS}(h:PSs X.nox st t):PSs X st t:=fun pins s σ H D I hw =>
 wpAny_mono (h pins s σ H D (I.wish _) hw) (fun _ _ q=>q.unwish) fun _ _ z=>False.elim z
end
section
variable{X:Cx}{st:Stmt}{rest:List Stmt}{t u:TS}{e:Expr}{te:TE}{pos:Pos}
noncomputable def tNext:TS:=fun D σ H=>D.nx σ H
noncomputable def tSeq(t u:TS):TS:=fun D σ H=>t { D with nx:=u D } σ H
theorem pss_nil:PSs X [] tNext:=fun _ _ σ H _ I h=>wpAny_execs_nil ⟨σ,H,I,h⟩
theorem pss_cons(h1:PS X st t)(h2:PSs X rest u):PSs X (st :: rest) (tSeq t u):=by
 intro pins s σ H D I h
 refine wpAny_execs_cons (thn (h1 pins s σ H { D with nx:=u D } I h) fun f s1 q=>?_)
 cases f with
 |next =>
  obtain⟨σ',H',I',q⟩:=q
  exact h2 pins s1 σ' H' D I' q
 |ret v=>exact q
 |brk=>exact q
 |cont=>exact q
theorem pss_one(h1:PS X st t):PSs X [st] t:=by
 intro pins s σ H D I h
 refine wpAny_execs_cons (thn (h1 pins s σ H D I h) fun f s1 q=>?_)
 cases f with
 |next=>exact wpAny_execs_nil q
 |ret v=>exact q
 |brk=>exact q
 |cont=>exact q
noncomputable def tBreak:TS:=fun D σ H=>D.bk σ H
theorem ps_break:PS X (.Break pos) tBreak:=fun _ _ σ H _ I h=>wpAny_Break ⟨σ,H,I,h⟩
theorem Inv.quiet{pins:List (Addr×Obj)}{σ:St}{H:Hp}{s:Shared}(I:Inv X pins σ H s):interactive X.env=false:=by simp[interactive,I.ok.kind]
noncomputable def tDrop(te:TE):TS:=fun D σ H=>te σ H fun _ H1=>D.nx σ H1
theorem ps_expr(he:PE X e te)(hs:swapsWith e none pos.line X.env=pure false:=by rfl):PS X (.Expr e pos) (tDrop te):=by
 intro pins s σ H D I h
 exact wpAny_Expr_any (thn (he pins s σ H _ I h) fun v s1 ⟨x,H1,I1,r1,q1⟩=>⟨σ,H1,I1,q1⟩) I.quiet hs
noncomputable def tRet(te:TE):TS:=fun D σ H=>te σ H D.rt
theorem ps_ret(he:PE X e te):PS X (.Return (some e) pos) (tRet te):=by
 intro pins s σ H D I h
 exact wpAny_Return_some (thn (he pins s σ H _ I h) fun v s1 ⟨x,H1,I1,r1,q1⟩=>⟨x,σ,H1,I1,r1,q1⟩)
noncomputable def tIfS(c:TT)(t u:TS):TS:=fun D σ H=>c σ H fun b H1=>if b=true then t D σ H1 else u D σ H1
theorem ps_if{c:Expr}{a b:List Stmt}{tc:TT}(hc:PT X c tc)(ha:PSs X a t)(hb:PSs X b u):PS X (.If c a b pos) (tIfS tc t u):=by
 intro pins s σ H D I h
 refine wpAny_If (thn (hc pins s σ H _ I h) fun d s1 ⟨H1,I1,q1⟩=>?_)
 cases d with
 |true=>exact ha pins s1 σ H1 D I1 q1
 |false=>exact hb pins s1 σ H1 D I1 q1
noncomputable def tNever:TS:=fun _ _ _=>False
theorem pss_never{sts:List Stmt}:PSs X sts tNever:=fun _ _ _ _ _ _ h=>h.elim
end
noncomputable abbrev TG:=V->St->Hp->(St->Hp->Prop)->Prop
noncomputable abbrev TGs:=List V->St->Hp->(St->Hp->Prop)->Prop
noncomputable def PG(X:Cx)(target:Expr)(t:TG):Prop :=
 ∀ (pins:List (Addr×Obj)) (s:Shared) (σ:St) (H:Hp) (v:V) (u:Value) (Q:St->Hp->Prop),Inv X pins σ H s->RelV v u->t v σ H Q ->
  wpAny (model X.prog X.w) X.A (assign target X.env u) (fun _ s'=>∃ σ' H',Inv X pins σ' H' s'/\Q σ' H') X.xe s
noncomputable def PGs(X:Cx)(ts:List Expr)(t:TGs):Prop :=
 ∀ (pins:List (Addr×Obj)) (s:Shared) (σ:St) (H:Hp) (vs:List V) (us:List Value) (Q:St->Hp->Prop),Inv X pins σ H s->Vals vs us->t vs σ H Q ->
  wpAny (model X.prog X.w) X.A (assignInOrder ((assignEach ts X.env).map (·.2)) us) (fun _ s'=>∃ σ' H',Inv X pins σ' H' s'/\Q σ' H') X.xe s
noncomputable abbrev TSet:=V->V->V->Hp->(Hp->Prop)->Prop
noncomputable def PSet(X:Cx)(t:TSet):Prop :=
 ∀ (pins:List (Addr×Obj)) (s:Shared) (σ:St) (H:Hp) (o i v:V) (ov iv u:Value) (Q:Hp->Prop),Inv X pins σ H s->RelV o ov->RelV i iv->RelV v u->t o i v H Q ->
  wpAny (model X.prog X.w) X.A (setItem ov iv u) (fun _ s'=>∃ H',Inv X pins σ H' s'/\Q H') X.xe s
noncomputable abbrev TIp:=V->V->Hp->VK->Prop
noncomputable def PIp(X:Cx)(op:Operator)(t:TIp):Prop :=
 ∀ (pins:List (Addr×Obj)) (s:Shared) (σ:St) (H:Hp) (x y:V) (v u:Value) (Q:VK),Inv X pins σ H s->RelV x v->RelV y u->t x y H Q ->
  wpAny (model X.prog X.w) X.A (inplaceOp op v u) (EP X pins σ Q) X.xe s
section
variable{X:Cx}{pos:Pos}
noncomputable def gName(i:Nat):TG:=fun v σ H Q=>Q (σ.set i (some v)) H
theorem pg_name{i:Nat}{x:Str}(hN:X.N.Nodup)(hi:X.N[i]?=some x)(hx:Loc X.env.scope x)(hf:X.fn x=true\/X.env.scope.names.lookup x=some .local:=by first | exact .inl rfl | exact .inr rfl | assumption):PG X (.Name x pos) (gName i):=by
 intro pins s σ H v u Q I r h
 exact wpAny_assign_Name (store_ok I hN hi hx r (fun s' I'=>⟨_,H,I',h⟩) hf)
noncomputable def gNil:TGs:=fun vs σ H Q=>vs=[]/\Q σ H
noncomputable def gCons(t:TG)(u:TGs):TGs:=fun vs σ H Q=>∃ v r,vs=v :: r/\t v σ H fun σ' H'=>u r σ' H' Q
theorem pgs_nil:PGs X [] gNil:=by
 intro pins s σ H vs us Q I r h
 obtain⟨e,h⟩:=h
 subst e
 cases r
 exact assignInOrder_nil ⟨σ,H,I,h⟩
theorem pgs_cons{e:Expr}{es:List Expr}{t:TG}{u:TGs}(h1:PG X e t)(h2:PGs X es u)
  (hs:(assignEach (e :: es) X.env).map (·.2)=assign e X.env :: (assignEach es X.env).map (·.2):=by rfl):PGs X (e :: es) (gCons t u):=by
 intro pins s σ H vs us Q I r h
 obtain⟨v,vr,e1,h⟩:=h
 subst e1
 cases r with
 |cons r rr =>
  rw[hs]
  refine assignInOrder_cons (thn (h1 pins s σ H _ _ _ I r h) fun _ s1 ⟨σ1,H1,I1,q1⟩=>?_)
  exact h2 pins s1 σ1 H1 _ _ Q I1 rr q1
noncomputable def gTup(K:PySem.W.Frag)(n:Nat)(t:TGs):TG:=fun v σ H Q=>∃ a xs,v = .ref a/\SqT K H a xs/\xs.length=n/\t xs σ H Q
theorem pg_tup{es:List Expr}{k:Nat}{t:TGs}{n:Nat}(hc:X.calm=true)(h:PGs X es t)
  (hn:(assignEach es X.env).length=n:=by rfl) (hst:(assignEach es X.env).findIdx? (·.1)=none:=by rfl):PG X (.Tuple es k pos) (gTup X.K n t):=by
 intro pins s σ H v u Q I r hw
 obtain⟨a,xs,e1,hq,hl,hw⟩:=hw
 subst e1
 cases r
 obtain⟨its,rv,ht,hz⟩:=I.tuple hq
 refine assign_Tuple_tuple (I.ok.hd hc) ht (by simp[hn,<- hl,rv.length]) hst fun h' hx=>?_
 have I1:Inv X pins σ H { s with heap:=h' }:=I.kept (t':=s.toks) fun b o e=>hx b o (Nat.ne_of_lt (Heap.lt_size e)) e
 exact h pins _ σ H xs _ Q I1 (by simpa using rv) hw
noncomputable def gSub(to ti:TE)(t:TSet):TG:=fun v σ H Q=>to σ H fun o H1=>ti σ H1 fun i H2=>t o i v H2 fun H3=>Q σ H3
theorem pg_sub{o i:Expr}{to ti:TE}{t:TSet}(ho:PE X o to)(hi:PE X i ti)(hs:PSet X t)
  (ha:∀ v,assign (.Subscript o i pos) X.env v=(do
   let ov <- holding [v] (eval o X.env)
   let iv <- holding [v,ov] (eval i X.env)
   standAt pos
   holding [v,ov,iv] (setItem ov iv v)
   release [v,ov,iv] []):=by intro _;rfl):PG X (.Subscript o i pos) (gSub to ti t):=by
 intro pins s σ H v u Q I r h
 rw[ha]
 refine wpAny_bind (wpAny_holding (thn (ho pins s σ H _ I h) fun ov s1 ⟨x,H1,I1,r1,q1⟩=>?_))
 refine wpAny_bind (wpAny_holding (thn (hi pins s1 σ H1 _ I1 q1) fun iv s2 ⟨y,H2,I2,r2,q2⟩=>?_))
 refine wpAny_bind (wpAny_standAt (wpAny_bind (wpAny_holding (thn (hs pins s2 σ H2 x y v ov iv u _ I2 r1 r2 r q2) fun _ s3 ⟨H3,I3,q3⟩=>?_))))
 exact wpAny_release ⟨σ,H3,I3,q3⟩
noncomputable def tAsg(te:TE)(g:TG):TS:=fun D σ H=>te σ H fun x H1=>g x σ H1 D.nx
theorem ps_asg{tg e:Expr}{te:TE}{g:TG}(he:PE X e te)(hg:PG X tg g)(hs:swapsWithSole [tg] e pos.line X.env=pure false:=by rfl)(hw:swappedStores [tg] e X.env=pure none:=by rfl)
  (h1:(assignEach [tg] X.env).map (·.2)=[assign tg X.env]:=by rfl):PS X (.Assign [tg] e pos) (tAsg te g):=by
 intro pins s σ H D I h
 refine wpAny_Assign_stores (thn (he pins s σ H _ I h) fun v s1 ⟨x,H1,I1,r1,q1⟩=>?_) hs hw
 rw[h1]
 exact thn (hg pins s1 σ H1 x v _ I1 r1 q1) fun _ s2 q=>q
theorem ps_set{i:Nat}{x:Str}{e:Expr}{te:TE}{pos':Pos}(hN:X.N.Nodup)(hi:X.N[i]?=some x)(hx:Loc X.env.scope x)(he:PE X e te)(hs:swapsWith e (some (.Name x pos')) pos.line X.env=pure false:=by rfl)(hf:X.fn x=true\/X.env.scope.names.lookup x=some .local:=by first | exact .inl rfl | exact .inr rfl | assumption) :
  PS X (.Assign [.Name x pos'] e pos) (tAsg te (gName i)):=by
 intro pins s σ H D I h
 refine wpAny_Assign_Name (thn (he pins s σ H _ I h) fun v s1 ⟨y,H1,I1,r1,q1⟩=>?_) hs
 exact store_ok I1 hN hi hx r1 (fun s2 I2=>⟨_,H1,I2,q1⟩) hf
noncomputable def tPar(i j:Nat)(ta:TA):TS:=fun D σ H=>ta σ H fun vs H1=>∃ v w,vs=[v,w]/\D.nx ((σ.set i (some v)).set j (some w)) H1
theorem ps_par{i j:Nat}{x y:Str}{a b:Expr}{ta:TA}{px py pt:Pos}{kt k2 pt2}(hc:X.calm=true)(hN:X.N.Nodup)(hi:X.N[i]?=some x)(hj:X.N[j]?=some y)(hij:i≠j)
  (hx:X.env.scope.names.lookup x=some .local) (hy:X.env.scope.names.lookup y=some .local) (ha:PA X [a,b] ta)
  (hw:swappedStores [.Tuple [.Name x px,.Name y py] kt pt] (.Tuple [a,b] k2 pt2) X.env=pure (some [x,y]))
  (hs:swapsWithSole [.Tuple [.Name x px,.Name y py] kt pt] (.Tuple [a,b] k2 pt2) pos.line X.env=pure false:=by rfl) :
  PS X (.Assign [.Tuple [.Name x px,.Name y py] kt pt] (.Tuple [a,b] k2 pt2) pos) (tPar i j ta):=by
 intro pins s σ H D I h
 rw[exec_Assign_arm]
 refine wpAny_bind (wpAny_standAt ?_)
 rw[hs]
 refine wpAny_bind (wpAny_pure ?_)
 rw[if_neg (by decide)]
 refine wpAny_bind (Tuple_ (thn (ha _ pins s σ H _ I h) fun us s1 ⟨vs,H1,I1,r1,q1⟩=>?_))
 obtain⟨v,w,e1,q1⟩:=q1
 subst e1
 obtain⟨u1,u2,rfl,rv,rw'⟩:∃ u1 u2,us=[u1,u2]/\RelV v u1/\RelV w u2:=by
  cases r1 with
  |cons p q =>
   cases q with
   |cons p' q' =>
    cases q'
    exact⟨_,_,rfl,p,p'⟩
 refine wpAny_newObj_type ?_ (by show 2<=sizeLine;decide)
 have I2:Inv X pins σ H1 { s1 with heap:=s1.heap.push { cls:=.type "tuple",data:=.seq [u1,u2].toArray } }:=I1.kept (t':=s1.toks) fun b o e=>Heap.get?_push_of_some _ e
 rw[hw]
 refine wpAny_bind (wpAny_pure ?_)
 show wpAny (model X.prog X.w) X.A (do rule "assign.swapped-stores";let items <- unpackItems (.ref s1.heap.objs.size) 2 none;assignInOrder [fun v=>bindName X.env y v,fun v=>bindName X.env x v] items.reverse;pure Flow.next) _ _ _
 refine wpAny_bind (wpAny_rule (wpAny_bind (unpackItems_tuple (items:=#[u1,u2]) (I.ok.hd hc) (IsTup.new s1.heap _) fun h' hx'=>?_)))
 have I3:=I2.kept (h':=h') (t':=s1.toks) fun b o e=>hx' b o (Nat.ne_of_lt (Heap.lt_size e)) e
 show wpAny _ _ (assignInOrder [fun v=>bindName X.env y v,fun v=>bindName X.env x v] [u2,u1] >>= fun _=>pure Flow.next) _ _ _
 refine wpAny_bind (assignInOrder_cons (wpAny_bindName (store_ok I3 hN hj (.inl hy) rw' (fun s2 I4=>?_) (.inr hy))))
 refine assignInOrder_cons (wpAny_bindName (store_ok I4 hN hi (.inl hx) rv (fun s3 I5=>assignInOrder_nil (wpAny_pure ?_)) (.inr hx)))
 rw[List.set_comm _ _ (Ne.symm hij)]at I5
 exact⟨_,H1,I5,q1⟩
noncomputable def tAug(i:Nat)(te:TE)(ti:TIp):TS:=fun D σ H=>∃ x,σ[i]?=some (some x)/\te σ H fun y H1=>ti x y H1 fun z H2=>D.nx (σ.set i (some z)) H2
theorem ps_aug{i:Nat}{x:Str}{e:Expr}{te:TE}{op:Operator}{ti:TIp}{pos':Pos}(hN:X.N.Nodup)(hi:X.N[i]?=some x)(hx:Loc X.env.scope x)(he:PE X e te)(ho:PIp X op ti)(hf:X.fn x=true\/X.env.scope.names.lookup x=some .local:=by first | exact .inl rfl | exact .inr rfl | assumption) :
  PS X (.AugAssign (.Name x pos') op e pos) (tAug i te ti):=by
 intro pins s σ H D I h
 obtain⟨v,e1,h⟩:=h
 obtain⟨m,hn,hl⟩:=I.loc
 have vis:Vis X.env.scope x:=by rcases hx with k | k;exact .inl k;exact .inr (.inl k)
 obtain⟨u,r,l⟩:=hl i x v hi e1 vis
 refine wpAny_AugAssign_Name ?_
 have go:wpAny (model X.prog X.w) X.A (eval e X.env) (fun w s₂=>wpAny (model X.prog X.w) X.A (inplaceOp op u w) (fun r s₃=>wpAny (model X.prog X.w) X.A (storeName X.env x r) (fun _=>SP X pins D .next) X.xe s₃) X.xe s₂) X.xe s:=by
  refine thn (he pins s σ H _ I h) fun w s1 ⟨y,H1,I1,r1,q1⟩=>?_
  refine thn (ho pins s1 σ H1 v y u w _ I1 r r1 q1) fun z s2 ⟨zv,H2,I2,r2,q2⟩=>?_
  exact store_ok I2 hN hi hx r2 (fun s3 I3=>⟨_,H2,I3,q2⟩) hf
 rcases l with⟨hk,hm⟩ |⟨hk,c,hc,hcell⟩
 ·exact wpAny_loadName_local I.ok.kind hk hn hm go
 ·rcases hk with hk | hk
  ·exact wpAny_loadName_cell I.ok.kind hk hc hcell go
  ·rcases hx with k | k
   ·have:X.env.scope.names.lookup x=some .free:=hk
    rw[k]at this;cases this
   ·have:X.env.scope.names.lookup x=some .free:=hk
    rw[k]at this;cases this
noncomputable def tAugS(to ti te:TE)(tget:V->V->Hp->VK->Prop)(tip:TIp)(tset:TSet):TS:=fun D σ H=>to σ H fun o H1=>ti σ H1 fun i H2=>tget o i H2 fun x H3=>te σ H3 fun y H4=>tip x y H4 fun z H5=>tset o i z H5 fun H6=>D.nx σ H6
noncomputable def PGet(X:Cx)(t:V->V->Hp->VK->Prop):Prop :=
 ∀ (pins:List (Addr×Obj)) (s:Shared) (σ:St) (H:Hp) (o i:V) (ov iv:Value) (Q:VK),Inv X pins σ H s->RelV o ov->RelV i iv->t o i H Q ->
  wpAny (model X.prog X.w) X.A (getItem ov iv) (EP X pins σ Q) X.xe s
theorem ps_augS{o i e:Expr}{to ti te:TE}{tget:V->V->Hp->VK->Prop}{tip:TIp}{tset:TSet}{op:Operator}{tpos:Pos}(ho:PE X o to)(hi:PE X i ti)(hg:PGet X tget)(he:PE X e te)(hp:PIp X op tip)(hs:PSet X tset)
  (ha:∀ ov iv new,augStore i ov iv new=(do holding [new,ov,iv] (setItem ov iv new);release [new,ov,iv] [];pure .next):=by intros;rfl):PS X (.AugAssign (.Subscript o i tpos) op e pos) (tAugS to ti te tget tip tset):=by
 intro pins s σ H D I h
 refine wpAny_AugAssign_SubscriptAny (thn (ho pins s σ H _ I h) fun ov s1 ⟨x1,H1,I1,r1,q1⟩=>?_) ha
 refine thn (hi pins s1 σ H1 _ I1 q1) fun iv s2 ⟨x2,H2,I2,r2,q2⟩=>?_
 refine thn (hg pins s2 σ H2 x1 x2 ov iv _ I2 r1 r2 q2) fun old s3 ⟨x3,H3,I3,r3,q3⟩=>?_
 refine thn (he pins s3 σ H3 _ I3 q3) fun v s4 ⟨x4,H4,I4,r4,q4⟩=>?_
 refine thn (hp pins s4 σ H4 x3 x4 old v _ I4 r3 r4 q4) fun new s5 ⟨x5,H5,I5,r5,q5⟩=>?_
 exact thn (hs pins s5 σ H5 x1 x2 x5 ov iv new _ I5 r1 r2 r5 q5) fun _ s6 ⟨H6,I6,q6⟩=>⟨σ,H6,I6,q6⟩
noncomputable def ipI(f:Int->Int->Int):TIp:=fun x y H Q=>∃ i j,x = .int i/\y = .int j/\Q (.int (f i j)) H
theorem ip_add:PIp X .Add (ipI fun i j=>i+j):=by
 intro pins s σ H x y v u Q I r1 r2 h
 obtain⟨i,j,e1,e2,q⟩:=h
 subst e1;subst e2
 obtain⟨t,rfl⟩:=r1
 obtain⟨t',rfl⟩:=r2
 exact iadd_int ⟨.int _,H,I.tok _,⟨_,rfl⟩,q⟩
theorem ip_sub:PIp X .Sub (ipI fun i j=>i-j):=by
 intro pins s σ H x y v u Q I r1 r2 h
 obtain⟨i,j,e1,e2,q⟩:=h
 subst e1;subst e2
 obtain⟨t,rfl⟩:=r1
 obtain⟨t',rfl⟩:=r2
 exact isub_int ⟨.int _,H,I.tok _,⟨_,rfl⟩,q⟩
end
section
variable{X:Cx}{pos:Pos}
noncomputable def tWhile(c:TT)(tb:TS):TS:=fun D σ H=>∃ W:Nat->St->Hp->Prop,(∃ m,W m σ H)/\∀ m σ H,W m σ H ->
 c σ H fun b H1=>if b=true then ∃ N:St->Hp->Prop,(∀ σ' H',N σ' H'->∃ m',m'<m/\W m' σ' H')/\tb { D with nx:=N,ct:=N,bk:=D.nx } σ H1 else D.nx σ H1
theorem ps_while{c:Expr}{body:List Stmt}{tc:TT}{tb:TS}(hp:PassesOwn (model X.prog X.w) X.A X.env X.xe)(hc:PT X c tc)(hb:PSs X body tb):PS X (.While c body [] pos) (tWhile tc tb):=by
 intro pins s σ H D I h
 obtain⟨W,⟨m0,w0⟩,turn⟩:=h
 refine wpAny_While (codeAny_whileLoop (fun n s'=>∃ σ' H',Inv X pins σ' H' s'/\W n σ' H') ?_ m0 ⟨σ,H,I,w0⟩)
 rintro n s1 ⟨σ1,H1,I1,w1⟩
 refine wpAny_passesOwn hp (thn (hc pins s1 σ1 H1 _ I1 (turn n σ1 H1 w1)) fun b s2 ⟨H2,I2,q2⟩=>?_)
 cases b with
 |true =>
  obtain⟨N,hN,q2⟩:=q2
  rw[if_pos rfl]
  refine wpAny_passesOwn hp (thn (hb pins s2 σ1 H2 _ I2 q2) fun f s3 q3=>?_)
  cases f with
  |next =>
   obtain⟨σ3,H3,I3,n3⟩:=q3
   obtain⟨m',hm,w3⟩:=hN σ3 H3 n3
   exact⟨m',hm,σ3,H3,I3,w3⟩
  |cont =>
   obtain⟨σ3,H3,I3,n3⟩:=q3
   obtain⟨m',hm,w3⟩:=hN σ3 H3 n3
   exact⟨m',hm,σ3,H3,I3,w3⟩
  |brk=>exact q3
  |ret v=>exact q3
 |false =>
  rw[if_neg Bool.false_ne_true]
  exact wpAny_execs_nil ⟨σ1,H2,I2,q2⟩
end
structure It where
 go:Nat->Hp->Prop
 yld:Nat->Hp->V->Hp->Prop
 stop:Nat->Hp->Prop
noncomputable def FpOk(X:Cx)(pins:List (Addr×Obj))(H:Hp)(b:Addr):Prop :=
 H b=none/\b≠X.env.locals/\b∉X.fs/\(b∈X.ex\/X.s₀.heap.objs.size<=b)/\(∀ x c,X.env.cells.lookup x=some c->c≠b)/\∀ p∈X.pn++pins,p.1≠b
theorem Inv.fpOk{X:Cx}{pins:List (Addr×Obj)}{σ:St}{H H':Hp}{s:Shared}{b:Addr}(I:Inv X pins σ H s)(hb:s.heap.objs.size<=b)(hn:H' b=none):FpOk X pins H' b:=by
 refine⟨hn,Nat.ne_of_gt (Nat.lt_of_lt_of_le I.lt hb),I.nofs hb,.inr (Nat.le_trans I.sz hb),fun x c e z=>?_,fun p hp z=>?_⟩
 ·obtain⟨v,q⟩:=I.cell x c e
  exact absurd (Nat.lt_of_lt_of_le q.lt (by rw[z];exact hb)) (Nat.lt_irrefl _)
 ·exact absurd (Nat.lt_of_lt_of_le (Heap.lt_size (I.pin p hp).1) (by rw[z];exact hb)) (Nat.lt_irrefl _)
structure Turn(P:Program)(w:World)(K:PySem.W.Frag)(tg:Expr)(J:It)(fp:List Addr)(it:Addr)(tn:Nat->Heap->Prop):Prop where
 mem:it∈fp
 obj:∀ i h,tn i h->∀ b∈fp,∃ o,h.get? b=some o/\∀ v,o.data≠.cell v
 keep:∀ i h h',tn i h->(∀ b∈fp,∀ o,h.get? b=some o->h'.get? b=some o)->tn i h'
 item:∀ (X:Cx),X.prog=P->X.w=w->X.K=K->X.calm=true->∀ (i:Nat) (pins:List (Addr×Obj)) (s:Shared) (σ:St) (H:Hp) (E:Value->Shared->Prop),Inv X pins σ H s->(∀ b∈fp,FpOk X pins H b)->tn i s.heap->J.go i H ->
  wpAny (model P w) X.A (pyNext (.ref it)) (fun r s1=>∃ u,r=some u /\
   wpAny (model P w) X.A (letOwnedTupleGo tg (.ref it) u) (fun _ s2=>∃ x H',Inv X pins σ H' s2/\RelV x u/\J.yld i H x H'/\tn (i+1) s2.heap/\∀ b∈fp,H' b=none) E s1) E s
 done:∀ (X:Cx),X.prog=P->X.w=w->X.K=K->X.calm=true->∀ (i:Nat) (pins:List (Addr×Obj)) (s:Shared) (σ:St) (H:Hp) (E:Value->Shared->Prop),Inv X pins σ H s->(∀ b∈fp,FpOk X pins H b)->tn i s.heap->J.stop i H ->
  wpAny (model P w) X.A (pyNext (.ref it)) (fun r s1=>r=none/\Inv X pins σ H s1) E s
 self:∀ (A:Around) (i:Nat) (s:Shared) (Q:Value->Shared->Prop) (E:Value->Shared->Prop),tn i s.heap->Q (.ref it) s->wpAny (model P w) A (pyIter (.ref it)) Q E s
noncomputable abbrev TI:=St->Hp->(It->Hp->Prop)->Prop
noncomputable def PIE(X:Cx)(pins:List (Addr×Obj))(σ:St)(tg:Expr)(R:It->Hp->Prop)(itv:Value)(s2:Shared):Prop :=
 ∃ (it:Addr) (fp:List Addr) (tn:Nat->Heap->Prop) (J:It) (H':Hp),itv = .ref it/\Inv X pins σ H' s2/\Turn X.prog X.w X.K tg J fp it tn/\tn 0 s2.heap/\(∀ b∈fp,FpOk X pins H' b)/\R J H'
noncomputable def PI(X:Cx)(tg iter:Expr)(wi:TI):Prop :=
 ∀ (pins:List (Addr×Obj)) (s:Shared) (σ:St) (H:Hp) (R:It->Hp->Prop),Inv X pins σ H s->wi σ H R ->
  wpAny (model X.prog X.w) X.A (eval iter X.env) (fun v s1=>wpAny (model X.prog X.w) X.A (pyIter v) (PIE X pins σ tg R) X.xe s1) X.xe s
theorem go_of {M : Model} {A : Around} {E : Value → Shared → Prop} {s : Shared} {tg : Expr} {it : Addr} {u : Value} {o : Obj} {n : String} {vs : Array Value} {Q : Unit → Shared → Prop} (ho : s.heap.get? it = some o) (hc : o.cls = .type n) (hd : o.data = .fields vs)
    (hn : ["enumerate", "zip", "dict_itemiterator", "dict_reverseitemiterator", "odict_iterator", "itertools.zip_longest", "itertools.pairwise"].contains n = false) (hQ : Q () s) : wpAny M A (letOwnedTupleGo tg (.ref it) u) Q E s := by
  unfold letOwnedTupleGo
  cases tg <;> first
    | exact wpAny_pure hQ
    | (cases u <;> first
        | exact wpAny_pure hQ
        | (refine wpAny_bind (wpAny_load ho ?_)
           rw [hc, hd]
           show wpAny M A (if (["enumerate", "zip", "dict_itemiterator", "dict_reverseitemiterator", "odict_iterator", "itertools.zip_longest", "itertools.pairwise"].contains n && vs[0]? == some (rawInt _)) = true then _ else _) Q E s
           rw [if_neg (by intro h; rw [hn, Bool.false_and] at h; cases h)]
           exact wpAny_pure hQ))
noncomputable def Itl(K:PySem.W.Frag)(a:Addr):It :=
 ⟨fun i H=>∃ xs x,SqL K H a xs/\xs[i]?=some x,fun i H x H'=>H'=H/\∀ xs,SqL K H a xs->xs[i]?=some x,fun i H=>∃ xs,SqL K H a xs/\xs.length<=i⟩
noncomputable def Itt(K:PySem.W.Frag)(a:Addr):It :=
 ⟨fun i H=>∃ xs x,SqT K H a xs/\xs[i]?=some x,fun i H x H'=>H'=H/\∀ xs,SqT K H a xs->xs[i]?=some x,fun i H=>∃ xs,SqT K H a xs/\xs.length<=i⟩
noncomputable def Itr(lo:Int)(n:Nat):It:=⟨fun i _=>i<n,fun i H x H'=>H'=H/\x = .int (lo+i),fun i _=>n<=i⟩
theorem turn_list{P:Program}{w:World}{K:PySem.W.Frag}{tg:Expr}(a it:Addr):Turn P w K tg (Itl K a) [it] it (fun i h=>h.IsListIter it a i)where
 mem:=by simp
 obj:=fun i h st b hb=>by
  have e:b=it:=by simpa using hb
  subst e
  obtain⟨o,e,c,d⟩:=st
  exact⟨o,e,fun v z=>by rw[d]at z;cases z⟩
 keep:=fun i h h' st k=>st.at fun o e=>k it (by simp) o e
 item:=by
  intro X hP hw hK hc i pins s σ H E I hf st hg
  subst hP hw hK
  obtain⟨xs,x,hq,hx⟩:=hg
  obtain⟨its,rv,p,hz⟩:=I.list hq
  obtain⟨u,hu,ru⟩:=rv.get hx
  obtain⟨f0,f1,f2,f3,f4,f5⟩:=hf it (by simp)
  refine wpAny_pyNext_list_item st p.isList (x:=u) (by simpa using hu) fun h' st' sb=>?_
  have I1:Inv X pins σ H { s with heap:=h' }:=I.turned (t':=s.toks) (fun b o hb e=>(sb.2 b hb).trans e) f0 f1 f3 f4 f5
  obtain⟨o,e,c,d⟩:=id st'
  exact⟨u,rfl,go_of (s:={ s with heap:=h' }) e c d (by decide) ⟨x,H,I1,ru,⟨rfl,fun ys hy=>by rw[I.list_inj hy hq];exact hx⟩,st',fun b hb=>(hf b hb).1⟩⟩
 done:=by
  intro X hP hw hK hc i pins s σ H E I hf st hg
  subst hP hw hK
  obtain⟨xs,hq,hx⟩:=hg
  obtain⟨its,rv,p,hz⟩:=I.list hq
  obtain⟨f0,f1,f2,f3,f4,f5⟩:=hf it (by simp)
  have hl:=rv.length
  exact wpAny_pyNext_list_end (I.ok.hd hc) st p.isList (by simp;lia) fun h' eb=>⟨rfl,I.turned (t':=s.toks) (fun b o hb e=>eb b o hb e) f0 f1 f3 f4 f5⟩
 self:=fun _ _ _ _ _ st h=>wpAny_pyIter_listiter st h
theorem turn_tuple{P:Program}{w:World}{K:PySem.W.Frag}{tg:Expr}(a it:Addr):Turn P w K tg (Itt K a) [it] it (fun i h=>h.IsTupleIter it a i)where
 mem:=by simp
 obj:=fun i h st b hb=>by
  have e:b=it:=by simpa using hb
  subst e
  obtain⟨o,e,c,d⟩:=st
  exact⟨o,e,fun v z=>by rw[d]at z;cases z⟩
 keep:=fun i h h' st k=>st.at fun o e=>k it (by simp) o e
 item:=by
  intro X hP hw hK hc i pins s σ H E I hf st hg
  subst hP hw hK
  obtain⟨xs,x,hq,hx⟩:=hg
  obtain⟨its,rv,p,hz⟩:=I.tuple hq
  obtain⟨u,hu,ru⟩:=rv.get hx
  obtain⟨f0,f1,f2,f3,f4,f5⟩:=hf it (by simp)
  refine wpAny_pyNext_tuple_item st (show s.heap.IsTuple a its.toArray from p) (x:=u) (by simpa using hu) fun h' st' sb=>?_
  have I1:Inv X pins σ H { s with heap:=h' }:=I.turned (t':=s.toks) (fun b o hb e=>(sb.2 b hb).trans e) f0 f1 f3 f4 f5
  obtain⟨o,e,c,d⟩:=id st'
  exact⟨u,rfl,go_of (s:={ s with heap:=h' }) e c d (by decide) ⟨x,H,I1,ru,⟨rfl,fun ys hy=>by rw[I.tuple_inj hy hq];exact hx⟩,st',fun b hb=>(hf b hb).1⟩⟩
 done:=by
  intro X hP hw hK hc i pins s σ H E I hf st hg
  subst hP hw hK
  obtain⟨xs,hq,hx⟩:=hg
  obtain⟨its,rv,p,hz⟩:=I.tuple hq
  obtain⟨f0,f1,f2,f3,f4,f5⟩:=hf it (by simp)
  have hl:=rv.length
  exact wpAny_pyNext_tuple_end (I.ok.hd hc) st (show s.heap.IsTuple a its.toArray from p) (by simp;lia) fun h' eb=>⟨rfl,I.turned (t':=s.toks) (fun b o hb e=>eb b o hb e) f0 f1 f3 f4 f5⟩
 self:=fun _ _ _ _ _ st h=>wpAny_pyIter_tupleiter st h
theorem turn_range{P:Program}{w:World}{K:PySem.W.Frag}{tg:Expr}(it:Addr)(lo:Int)(n:Nat):Turn P w K tg (Itr lo n) [it] it (fun i h=>IsRangeIter h it (lo+(i:Nat) * 1) ((n:Int)-(i:Nat)) 1)where
 mem:=by simp
 obj:=fun i h st b hb=>by
  have e:b=it:=by simpa using hb
  subst e
  exact⟨_,st,fun v z=>by
   have z':Data.fields _=Data.cell v:=z
   cases z'⟩
 keep:=fun i h h' st k=>k it (by simp) _ st
 item:=by
  intro X hP hw hK hc i pins s σ H E I hf st hg
  subst hP hw hK
  obtain⟨f0,f1,f2,f3,f4,f5⟩:=hf it (by simp)
  have W:=Walks.range (prog:=X.prog) (w:=X.w) (I.ok.hd hc) it lo 1 n
  refine W.item i s _ _ hg st fun v h' tk hv st' kk=>?_
  obtain⟨t,rfl⟩:=hv
  have I1:Inv X pins σ H { s with heap:=h',toks:=tk }:=I.turned (fun b o hb e=>kk b o (by simpa using hb) e) f0 f1 f3 f4 f5
  refine⟨_,rfl,go_of (s:={ s with heap:=h',toks:=tk }) (n:="range_iterator") st' rfl rfl (by decide) ⟨.int (lo+i),H,I1,⟨t,?_⟩,⟨rfl,rfl⟩,st',fun b hb=>(hf b hb).1⟩⟩
  rw[Int.mul_one]
 done:=by
  intro X hP hw hK hc i pins s σ H E I hf st hg
  subst hP hw hK
  obtain⟨f0,f1,f2,f3,f4,f5⟩:=hf it (by simp)
  exact wpAny_pyNext_range_end (I.ok.hd hc) st (by have:n<=i:=hg;lia) fun h' eb=>⟨rfl,I.turned (t':=s.toks) (fun b o hb e=>eb b o hb e) f0 f1 f3 f4 f5⟩
 self:=fun _ _ _ _ _ st h=>wpAny_pyIter_rangeiter st h
open PySem PySem.Spec PyProof.Rows
section
variable{X:Cx}{tg:Expr}
noncomputable def iList(K:PySem.W.Frag)(tl:TE):TI:=fun σ H R=>tl σ H fun x H1=>∃ a,x = .ref a/\(∃ xs,SqL K H1 a xs)/\R (Itl K a) H1
noncomputable def iTup(K:PySem.W.Frag)(tl:TE):TI:=fun σ H R=>tl σ H fun x H1=>∃ a,x = .ref a/\(∃ xs,SqT K H1 a xs)/\R (Itt K a) H1
theorem pi_list{l:Expr}{tl:TE}(hl:PE X l tl):PI X tg l (iList X.K tl):=by
 intro pins s σ H R I h
 refine thn (hl pins s σ H _ I h) fun v s1 ⟨x,H1,I1,r1,q1⟩=>?_
 obtain⟨a,e,⟨xs,hq⟩,q⟩:=q1
 subst e
 cases r1
 obtain⟨its,rv,p,hz⟩:=I1.list hq
 refine wpAny_pyIter_list p.isList ?_
 refine⟨s1.heap.objs.size,[s1.heap.objs.size],_,_,H1,rfl,I1.kept (t':=s1.toks) fun b o e=>Heap.get?_push_of_some _ e,turn_list a _,⟨_,Heap.get?_push_size _ rfl,rfl,rfl⟩,fun b hb=>?_,q⟩
 have e:b=s1.heap.objs.size:=by simpa using hb
 subst e
 exact I1.fpOk (Nat.le_refl _) (I1.hok.fresh (Nat.le_refl _))
theorem pi_tup{l:Expr}{tl:TE}(hl:PE X l tl):PI X tg l (iTup X.K tl):=by
 intro pins s σ H R I h
 refine thn (hl pins s σ H _ I h) fun v s1 ⟨x,H1,I1,r1,q1⟩=>?_
 obtain⟨a,e,⟨xs,hq⟩,q⟩:=q1
 subst e
 cases r1
 obtain⟨its,rv,p,hz⟩:=I1.tuple hq
 refine wpAny_pyIter_tuple (show s1.heap.IsTuple a its.toArray from p) ?_
 refine⟨s1.heap.objs.size,[s1.heap.objs.size],_,_,H1,rfl,I1.kept (t':=s1.toks) fun b o e=>Heap.get?_push_of_some _ e,turn_tuple a _,⟨_,Heap.get?_push_size _ rfl,rfl,rfl⟩,fun b hb=>?_,q⟩
 have e:b=s1.heap.objs.size:=by simpa using hb
 subst e
 exact I1.fpOk (Nat.le_refl _) (I1.hok.fresh (Nat.le_refl _))
theorem range_it{pins:List (Addr×Obj)}{σ:St}{H:Hp}{s:Shared}{R:It->Hp->Prop}{E:Value->Shared->Prop}{lo hi:Int}{t u v:Tok}{tk:Nat}(I:Inv X pins σ H s)(h1:-(2 ^ 62)<=lo)(h2:lo<2 ^ 62)(h3:-(2 ^ 62)<=hi)(h4:hi<2 ^ 62)
  (q:R (Itr lo (hi-lo).toNat) H):wpAny (model X.prog X.w) X.A (pyIter (.ref s.heap.objs.size)) (PIE X pins σ tg R) E { s with heap:=s.heap.push { cls:=.type "range",data:=.fields #[.int lo t,.int hi u,.int 1 v] },toks:=tk }:=by
 refine wpAny_pyIter_range (IsRange.new ..) (small_one h1 h2 h3 h4) ?_
 have I1:Inv X pins σ H { s with heap:=s.heap.push { cls:=.type "range",data:=.fields #[.int lo t,.int hi u,.int 1 v] },toks:=tk }:=I.kept fun b o e=>Heap.get?_push_of_some _ e
 refine⟨(s.heap.push { cls:=.type "range",data:=.fields #[.int lo t,.int hi u,.int 1 v] }).objs.size,[(s.heap.push { cls:=.type "range",data:=.fields #[.int lo t,.int hi u,.int 1 v] }).objs.size],_,_,H,rfl,
  I1.kept (t':=tk) fun b o e=>Heap.get?_push_of_some _ e,turn_range _ lo (hi-lo).toNat,?_,fun b hb=>?_,q⟩
 ·have e1:lo+((0:Nat):Int) * 1=lo:=by simp
  have e2:(((hi-lo).toNat:Nat):Int)-((0:Nat):Int)=Builtin.Range.rangeSize lo hi 1:=by rw[rangeSize_one];split <;> lia
  show IsRangeIter _ _ (lo+((0:Nat):Int) * 1) ((((hi-lo).toNat:Nat):Int)-((0:Nat):Int)) 1
  rw[e1,e2]
  exact Heap.get?_push_size _ rfl
 ·have e:b=(s.heap.push { cls:=.type "range",data:=.fields #[.int lo t,.int hi u,.int 1 v] }).objs.size:=by simpa using hb
  subst e
  exact I1.fpOk (Nat.le_refl _) (I1.hok.fresh (Nat.le_refl _))
noncomputable def iRng1(ta:TA):TI:=fun σ H R=>ta σ H fun vs H1=>∃ j:Int,vs=[.int j]/\-(2 ^ 62)<=j/\j<2 ^ 62/\R (Itr 0 j.toNat) H1
noncomputable def iRng2(ta:TA):TI:=fun σ H R=>ta σ H fun vs H1=>∃ i j:Int,vs=[.int i,.int j]/\(-(2 ^ 62)<=i/\i<2 ^ 62/\-(2 ^ 62)<=j/\j<2 ^ 62)/\R (Itr i (j-i).toNat) H1
theorem pi_range1{a:Expr}{ta:TA}{p pos:Pos}(hg:Gl X "range")(hm:X.mg "range" = none)(ha:PA X [a] ta)(hs:starEach [a] X.env=[(false,eval a X.env)]:=by rfl):PI X tg (.Call (.Name "range" p) [a] [] pos) (iRng1 ta):=by
 intro pins s σ H R I h
 refine Call_ (ld_blt I hg hm boot_range (PyProof.Rows.callWith_type1 (thn (ha pos pins s σ H _ I h) fun us s1 ⟨vs,H1,I1,r1,q1⟩=>?_) hs rfl))
 obtain⟨j,e,q1,q2,q⟩:=q1
 subst e
 cases r1 with
 |cons r rr =>
  cases rr
  obtain⟨t,rfl⟩:=r
  exact call_range_1 (range_it I1 (by lia) (by lia) q1 q2 (by simpa using q))
theorem pi_range2{a b:Expr}{ta:TA}{p pos:Pos}(hg:Gl X "range")(hm:X.mg "range" = none)(ha:PA X [a,b] ta)(hs:starEach [a,b] X.env=[(false,eval a X.env),(false,eval b X.env)]:=by rfl)(hs2:starEach [b] X.env=[(false,eval b X.env)]:=by rfl) :
  PI X tg (.Call (.Name "range" p) [a,b] [] pos) (iRng2 ta):=by
 intro pins s σ H R I h
 refine Call_ (ld_blt I hg hm boot_range (PyProof.Rows.callWith_type1 (thn (ha pos pins s σ H _ I h) fun us s1 ⟨vs,H1,I1,r1,q1⟩=>?_) (by rw[hs,hs2]) (by rw[hs2];rfl)))
 obtain⟨i,j,e,⟨q1,q2,q3,q4⟩,q⟩:=q1
 subst e
 cases r1 with
 |cons r rr =>
  cases rr with
  |cons r' rr =>
   cases rr
   obtain⟨t,rfl⟩:=r
   obtain⟨t',rfl⟩:=r'
   exact call_range_2 (range_it I1 q1 q2 q3 q4 q)
noncomputable def tFor(wi:TI)(g:TG)(tb:TS):TS:=fun D σ H=>wi σ H fun J H1=>∃ W:Nat->Nat->St->Hp->Prop,(∃ m,W 0 m σ H1)/\∀ i m σ H,W i m σ H ->
 (J.stop i H/\D.nx σ H)\/(J.go i H/\∃ N:St->Hp->Prop,(∀ σ' H',N σ' H'->∃ m',m'<m/\W (i+1) m' σ' H')/\∀ x H',J.yld i H x H'->g x σ H' fun σ2 H2=>tb { D with nx:=N,ct:=N,bk:=D.nx } σ2 H2)
noncomputable def pinsAt(fp:List Addr)(h:Heap):List (Addr×Obj):=fp.filterMap fun b=>(h.get? b).map fun o=>(b,o)
theorem mem_pinsAt{fp:List Addr}{h:Heap}{b:Addr}{o:Obj}(hb:b∈fp)(e:h.get? b=some o):(b,o)∈pinsAt fp h:=List.mem_filterMap.mpr ⟨b,hb,by rw[e];rfl⟩
theorem of_pinsAt{fp:List Addr}{h:Heap}{p:Addr×Obj}(hp:p∈pinsAt fp h):p.1∈fp/\h.get? p.1=some p.2:=by
 obtain⟨b,hb,e⟩:=List.mem_filterMap.mp hp
 cases q:h.get? b with
 |none=>rw[q]at e;cases e
 |some o =>
  rw[q]at e
  have e':(b,o)=p:=Option.some.inj e
  subst e'
  exact⟨hb,q⟩
theorem Inv.pinned{pins:List (Addr×Obj)}{σ:St}{H:Hp}{s:Shared}{fp:List Addr}(I:Inv X pins σ H s)(hf:∀ b∈fp,FpOk X pins H b)(ho:∀ b∈fp,∃ o,s.heap.get? b=some o/\∀ v,o.data≠.cell v):Inv X (pins++pinsAt fp s.heap) σ H s :=
 I.pins_of fun p hp=>(List.mem_append.mp hp).elim (fun z=>I.pin p (List.mem_append_right _ z)) fun z=>by
  obtain⟨hb,e⟩:=of_pinsAt z
  obtain⟨f0,f1,f2,_⟩:=hf p.1 hb
  obtain⟨o,e',d⟩:=ho p.1 hb
  rw[e]at e';cases e'
  exact⟨e,f0,f1,f2,d⟩
theorem Inv.unpinned{pins pl:List (Addr×Obj)}{σ:St}{H:Hp}{s:Shared}(I:Inv X (pins++pl) σ H s):Inv X pins σ H s:=I.pins_of fun p hp=>I.pin p (List.mem_append_right _ (List.mem_append_left _ hp))
theorem ps_for{iter:Expr}{body:List Stmt}{wi:TI}{g:TG}{tb:TS}{pos:Pos}(hp:PassesOwn (model X.prog X.w) X.A X.env X.xe)(hc:X.calm=true)(hi:PI X tg iter wi)(hg:PG X tg g)(hb:PSs X body tb)
  (hs:∀ x,foldedSetIterable iter X.env x=pure x:=by intro _;rfl):PS X (.For tg iter body [] pos) (tFor wi g tb):=by
 intro pins s σ H D I h
 refine wpAny_For (thn (hi pins s σ H _ I h) fun v s1 h1=>thn h1 fun itv s2 h2=>?_) hs
 obtain⟨it,fp,tn,J,H2,e,I2,T,st2,f2,W,⟨m0,w0⟩,turn⟩:=h2
 subst e
 -- what stays true of the iterator's objects through the loop
 have stat:∀ {H':Hp},(∀ b∈fp,H' b=none)->∀ b∈fp,FpOk X pins H' b:=fun hn b hb=>⟨hn b hb,(f2 b hb).2⟩
 refine codeAny_forLoop_any (fun n s'=>∃ i σ' H',Inv X pins σ' H' s'/\tn i s'.heap/\(∀ b∈fp,H' b=none)/\W i n σ' H') ?_ m0 ⟨0,σ,H2,I2,st2,fun b hb=>(f2 b hb).1,w0⟩
 rintro n s3 ⟨i,σ3,H3,I3,st3,fr3,w3⟩
 rcases turn i n σ3 H3 w3 with⟨stop,qn⟩ |⟨go,N,hN,step⟩
 ·refine wpAny_passesOwn hp (thn (T.done X rfl rfl rfl hc i pins s3 σ3 H3 X.xe I3 (stat fr3) st3 stop) fun r s4 ⟨hr,I4⟩=>?_)
  subst hr
  exact wpAny_execs_nil ⟨σ3,H3,I4,qn⟩
 ·refine wpAny_passesOwn hp (thn (T.item X rfl rfl rfl hc i pins s3 σ3 H3 X.xe I3 (stat fr3) st3 go) fun r s4 ⟨u,hr,h4⟩=>?_)
  subst hr
  refine wpAny_passesOwn hp (thn h4 fun _ s5 ⟨x,H5,I5,r5,y5,st5,fr5⟩=>?_)
  have I5':=I5.pinned (stat fr5) (T.obj _ _ st5)
  refine wpAny_passesOwn hp (thn (hg _ s5 σ3 H5 x u _ I5' r5 (step x H5 y5)) fun _ s6 ⟨σ6,H6,I6,q6⟩=>?_)
  refine wpAny_passesOwn hp (thn (hb _ s6 σ6 H6 _ I6 q6) fun f s7 q7=>?_)
  have again:∀ {σ7:St}{H7:Hp},Inv X (pins++pinsAt fp s5.heap) σ7 H7 s7->N σ7 H7->∃ m,m<n/\∃ i σ' H',Inv X pins σ' H' s7/\tn i s7.heap/\(∀ b∈fp,H' b=none)/\W i m σ' H':=fun {σ7 H7} I7 n7=>by
   obtain⟨m',hm,w7⟩:=hN σ7 H7 n7
   refine⟨m',hm,i+1,σ7,H7,I7.unpinned,T.keep _ _ _ st5 fun b hb o e=>(I7.pin (b,o) (List.mem_append_right _ (List.mem_append_right _ (mem_pinsAt hb e)))).1,fun b hb=>?_,w7⟩
   obtain⟨o,e,d⟩:=T.obj _ _ st5 b hb
   exact(I7.pin (b,o) (List.mem_append_right _ (List.mem_append_right _ (mem_pinsAt hb e)))).2.1
  cases f with
  |next=>obtain⟨σ7,H7,I7,n7⟩:=q7;exact again I7 n7
  |cont=>obtain⟨σ7,H7,I7,n7⟩:=q7;exact again I7 n7
  |brk=>obtain⟨σ7,H7,I7,q7⟩:=q7;exact⟨σ7,H7,I7.unpinned,q7⟩
  |ret v=>obtain⟨x7,σ7,H7,I7,r7,q7⟩:=q7;exact⟨x7,σ7,H7,I7.unpinned,r7,q7⟩
end
theorem for_list{K:PySem.W.Frag}{a:Addr}{xs:List V}{g:TG}{tb:TS}{D:Ends}{σ:St}{H:Hp}(Pv:Nat->St->Hp->Prop)(h0:Pv 0 σ H)(hl:∀ i σ H,i<=xs.length->Pv i σ H->SqL K H a xs)
  (hs:∀ i x σ H,xs[i]?=some x->Pv i σ H->g x σ H fun σ2 H2=>tb { D with nx:=Pv (i+1),ct:=Pv (i+1),bk:=D.nx } σ2 H2) (hd:∀ σ H,Pv xs.length σ H->D.nx σ H) :
  ∃ W:Nat->Nat->St->Hp->Prop,(∃ m,W 0 m σ H)/\∀ i m σ H,W i m σ H ->
   ((Itl K a).stop i H/\D.nx σ H)\/((Itl K a).go i H/\∃ N:St->Hp->Prop,(∀ σ' H',N σ' H'->∃ m',m'<m/\W (i+1) m' σ' H')/\∀ x H',(Itl K a).yld i H x H'->g x σ H' fun σ2 H2=>tb { D with nx:=N,ct:=N,bk:=D.nx } σ2 H2):=by
 refine⟨fun i m σ H=>m=xs.length-i/\i<=xs.length/\Pv i σ H,⟨xs.length,by simp,Nat.zero_le _,h0⟩,?_⟩
 rintro i m σ H ⟨rfl,hi,p⟩
 have q:=hl i σ H hi p
 by_cases hlt:i<xs.length
 ·refine .inr ⟨⟨xs,xs[i],q,by simp[hlt]⟩,Pv (i+1),fun σ' H' p'=>⟨xs.length-(i+1),by omega,rfl,hlt,p'⟩,fun x H' y=>?_⟩
  obtain⟨e,y⟩:=y
  subst e
  exact hs i x σ _ (y xs q) p
 ·have e:i=xs.length:=by lia
  subst e
  exact .inl ⟨⟨xs,q,Nat.le_refl _⟩,hd σ H p⟩
theorem for_tup{K:PySem.W.Frag}{a:Addr}{xs:List V}{g:TG}{tb:TS}{D:Ends}{σ:St}{H:Hp}(Pv:Nat->St->Hp->Prop)(h0:Pv 0 σ H)(hl:∀ i σ H,i<=xs.length->Pv i σ H->SqT K H a xs)
  (hs:∀ i x σ H,xs[i]?=some x->Pv i σ H->g x σ H fun σ2 H2=>tb { D with nx:=Pv (i+1),ct:=Pv (i+1),bk:=D.nx } σ2 H2) (hd:∀ σ H,Pv xs.length σ H->D.nx σ H) :
  ∃ W:Nat->Nat->St->Hp->Prop,(∃ m,W 0 m σ H)/\∀ i m σ H,W i m σ H ->
   ((Itt K a).stop i H/\D.nx σ H)\/((Itt K a).go i H/\∃ N:St->Hp->Prop,(∀ σ' H',N σ' H'->∃ m',m'<m/\W (i+1) m' σ' H')/\∀ x H',(Itt K a).yld i H x H'->g x σ H' fun σ2 H2=>tb { D with nx:=N,ct:=N,bk:=D.nx } σ2 H2):=by
 refine⟨fun i m σ H=>m=xs.length-i/\i<=xs.length/\Pv i σ H,⟨xs.length,by simp,Nat.zero_le _,h0⟩,?_⟩
 rintro i m σ H ⟨rfl,hi,p⟩
 have q:=hl i σ H hi p
 by_cases hlt:i<xs.length
 ·refine .inr ⟨⟨xs,xs[i],q,by simp[hlt]⟩,Pv (i+1),fun σ' H' p'=>⟨xs.length-(i+1),by omega,rfl,hlt,p'⟩,fun x H' y=>?_⟩
  obtain⟨e,y⟩:=y
  subst e
  exact hs i x σ _ (y xs q) p
 ·have e:i=xs.length:=by lia
  subst e
  exact .inl ⟨⟨xs,q,Nat.le_refl _⟩,hd σ H p⟩
theorem for_range{lo:Int}{n:Nat}{g:TG}{tb:TS}{D:Ends}{σ:St}{H:Hp}(Pv:Nat->St->Hp->Prop)(h0:Pv 0 σ H)
  (hs:∀ i σ H,i<n->Pv i σ H->g (.int (lo+i)) σ H fun σ2 H2=>tb { D with nx:=Pv (i+1),ct:=Pv (i+1),bk:=D.nx } σ2 H2) (hd:∀ σ H,Pv n σ H->D.nx σ H) :
  ∃ W:Nat->Nat->St->Hp->Prop,(∃ m,W 0 m σ H)/\∀ i m σ H,W i m σ H ->
   ((Itr lo n).stop i H/\D.nx σ H)\/((Itr lo n).go i H/\∃ N:St->Hp->Prop,(∀ σ' H',N σ' H'->∃ m',m'<m/\W (i+1) m' σ' H')/\∀ x H',(Itr lo n).yld i H x H'->g x σ H' fun σ2 H2=>tb { D with nx:=N,ct:=N,bk:=D.nx } σ2 H2):=by
 refine⟨fun i m σ H=>m=n-i/\i<=n/\Pv i σ H,⟨n,by simp,Nat.zero_le _,h0⟩,?_⟩
 rintro i m σ H ⟨rfl,hi,p⟩
 by_cases hlt:i<n
 ·refine .inr ⟨hlt,Pv (i+1),fun σ' H' p'=>⟨n-(i+1),by omega,rfl,hlt,p'⟩,fun x H' y=>?_⟩
  obtain⟨e,y⟩:=y
  subst e y
  exact hs i σ _ hlt p
 ·have e:i=n:=by lia
  subst e
  exact .inl ⟨Nat.le_refl _,hd σ H p⟩
open PySem PySem.Spec PyProof.Rows
noncomputable abbrev R2:=V->V->Hp->VK->Prop
noncomputable def OpR(X:Cx)(f:Value->Value->Sem Value)(r:R2):Prop :=
 ∀ (pins:List (Addr×Obj)) (s:Shared) (σ:St) (H:Hp) (x y:V) (v u:Value) (Q:VK),Inv X pins σ H s->RelV x v->RelV y u->r x y H Q ->
  wpAny (model X.prog X.w) X.A (f v u) (EP X pins σ Q) X.xe s
noncomputable def UnR(X:Cx)(f:Value->Sem Value)(r:V->Hp->VK->Prop):Prop :=
 ∀ (pins:List (Addr×Obj)) (s:Shared) (σ:St) (H:Hp) (x:V) (v:Value) (Q:VK),Inv X pins σ H s->RelV x v->r x H Q ->
  wpAny (model X.prog X.w) X.A (f v) (EP X pins σ Q) X.xe s
noncomputable def CallR(X:Cx)(f:Value)(r:List V->Hp->VK->Prop):Prop :=
 ∀ (pins:List (Addr×Obj)) (s:Shared) (σ:St) (H:Hp) (xs:List V) (us:List Value) (Q:VK),Inv X pins σ H s->Vals xs us->r xs H Q ->
  wpAny (model X.prog X.w) X.A (call f us) (EP X pins σ Q) X.xe s
noncomputable def TruR(X:Cx)(r:V->Hp->(Bool->Hp->Prop)->Prop):Prop :=
 ∀ (pins:List (Addr×Obj)) (s:Shared) (σ:St) (H:Hp) (x:V) (v:Value) (Q:Bool->Hp->Prop),Inv X pins σ H s->RelV x v->r x H Q ->
  wpAny (model X.prog X.w) X.A (truthy v) (TP X pins σ Q) X.xe s
noncomputable def tOp(r:R2)(ta tb:TE):TE:=fun σ H Q=>ta σ H fun x H1=>tb σ H1 fun y H2=>r x y H2 Q
noncomputable def tUn(r:V->Hp->VK->Prop)(ta:TE):TE:=fun σ H Q=>ta σ H fun x H1=>r x H1 Q
noncomputable def rI(C:Int->Int->Prop)(g:Int->Int->V):R2:=fun x y H Q=>∃ i j,x = .int i/\y = .int j/\C i j/\Q (g i j) H
noncomputable def rI0(g:Int->Int->V):R2:=fun x y H Q=>∃ i j,x = .int i/\y = .int j/\Q (g i j) H
noncomputable def rU(g:Int->V):V->Hp->VK->Prop:=fun x H Q=>∃ i,x = .int i/\Q (g i) H
section
variable{X:Cx}{a b c:Expr}{ta tb tc:TE}{pos:Pos}
theorem binT(ha:PE X a ta)(hb:PE X b tb){pins:List (Addr×Obj)}{s:Shared}{σ:St}{H:Hp}{R:V->V->Hp->Prop}(I:Inv X pins σ H s)
  (h:ta σ H fun x H1=>tb σ H1 fun y H2=>R x y H2) {Q:Value->Shared->Prop}{f:Value->Value->Sem Value}
  (hf:∀ v u s2 x y H2,Inv X pins σ H2 s2->RelV x v->RelV y u->R x y H2->wpAny (model X.prog X.w) X.A (f v u) Q X.xe s2) :
  wpAny (model X.prog X.w) X.A (eval a X.env) (fun v s₁=>wpAny (model X.prog X.w) X.A (eval b X.env) (fun u s₂=>wpAny (model X.prog X.w) X.A (f v u) Q X.xe s₂) X.xe s₁) X.xe s:=by
 refine thn (ha pins s σ H _ I h) fun v s1 ⟨x,H1,I1,r1,q1⟩=>?_
 refine thn (hb pins s1 σ H1 _ I1 q1) fun u s2 ⟨y,H2,I2,r2,q2⟩=>?_
 exact hf v u s2 x y H2 I2 r1 r2 q2
theorem pe_op{op:Operator}{r:R2}(ho:OpR X (binaryOp op) r)(ha:PE X a ta)(hb:PE X b tb):PE X (.BinOp a op b pos) (tOp r ta tb):=by
 intro pins s σ H Q I h
 exact wpAny_BinOp (binT ha hb I h fun v u s2 x y H2 I2 rx ry q=>ho pins s2 σ H2 x y v u Q I2 rx ry q)
theorem pe_un{op:UnaryOp}{r:V->Hp->VK->Prop}(ho:UnR X (unaryOp op) r)(ha:PE X a ta):PE X (.UnaryOp op a pos) (tUn r ta):=by
 intro pins s σ H Q I h
 exact UnaryOp_ (thn (ha pins s σ H _ I h) fun v s1 ⟨x,H1,I1,r1,q1⟩=>ho pins s1 σ H1 x v Q I1 r1 q1)
theorem opI{f:Value->Value->Sem Value}{C:Int->Int->Prop}{g:Int->Int->Int}
  (rule:∀ (i j:Int) (t u:Tok) (s:Shared) (Q:Value->Shared->Prop) (E:Value->Shared->Prop),C i j->Q (.int (g i j) s.toks) { s with toks:=s.toks+1 }->wpAny (model X.prog X.w) X.A (f (.int i t) (.int j u)) Q E s) :
  OpR X f (rI C fun i j=>.int (g i j)):=by
 intro pins s σ H x y v u Q I rx ry h
 obtain⟨i,j,rfl,rfl,hc,q⟩:=h
 obtain⟨t,rfl⟩:=rx
 obtain⟨t',rfl⟩:=ry
 exact rule i j t t' s _ _ hc ⟨.int (g i j),H,I.tok _,⟨_,rfl⟩,q⟩
theorem opI0{f:Value->Value->Sem Value}{g:Int->Int->Int}
  (rule:∀ (i j:Int) (t u:Tok) (s:Shared) (Q:Value->Shared->Prop) (E:Value->Shared->Prop),Q (.int (g i j) s.toks) { s with toks:=s.toks+1 }->wpAny (model X.prog X.w) X.A (f (.int i t) (.int j u)) Q E s) :
  OpR X f (rI0 fun i j=>.int (g i j)):=by
 intro pins s σ H x y v u Q I rx ry h
 obtain⟨i,j,rfl,rfl,q⟩:=h
 obtain⟨t,rfl⟩:=rx
 obtain⟨t',rfl⟩:=ry
 exact rule i j t t' s _ _ ⟨.int (g i j),H,I.tok _,⟨_,rfl⟩,q⟩
theorem opB0{f:Value->Value->Sem Value}{g:Int->Int->Bool}
  (rule:∀ (i j:Int) (t u:Tok) (s:Shared) (Q:Value->Shared->Prop) (E:Value->Shared->Prop),Q (.bool (g i j)) s->wpAny (model X.prog X.w) X.A (f (.int i t) (.int j u)) Q E s) :
  OpR X f (rI0 fun i j=>.bl (g i j)):=by
 intro pins s σ H x y v u Q I rx ry h
 obtain⟨i,j,rfl,rfl,q⟩:=h
 obtain⟨t,rfl⟩:=rx
 obtain⟨t',rfl⟩:=ry
 exact rule i j t t' s _ _ ⟨.bl (g i j),H,I,rfl,q⟩
noncomputable def CDiv(i j:Int):Prop:=0<j/\j<1073741824
noncomputable def CPow(i j:Int):Prop:=0<=j/\j<=1000000/\i.natAbs<2 ^ 64
noncomputable def CMul(i j:Int):Prop:=(-(2 ^ 64)<i/\i<2 ^ 64)\/(-(2 ^ 64)<j/\j<2 ^ 64)
theorem CMul.ok{i j:Int}(h:CMul i j):IntMulOk i j:=by
 rcases h with⟨h1,h2⟩ |⟨h1,h2⟩
 ·exact .of_left (intBits_le_64 h1 h2)
 ·exact .of_right (intBits_le_64 h1 h2)
theorem op_add:OpR X (binaryOp .Add) (rI0 fun i j=>.int (i+j)):=opI0 fun _ _ _ _ _ _ _ q=>add_int q
theorem op_sub:OpR X (binaryOp .Sub) (rI0 fun i j=>.int (i-j)):=opI0 fun _ _ _ _ _ _ _ q=>sub_int q
theorem op_mul:OpR X (binaryOp .Mult) (rI CMul fun i j=>.int (i * j)):=opI fun _ _ _ _ _ _ _ hc q=>mul_int q hc.ok
theorem op_fdiv:OpR X (binaryOp .FloorDiv) (rI CDiv fun i j=>.int (i / j)):=opI fun i j _ _ _ _ _ hc q=>by
 have h1:(0:Int)<j:=hc.1
 have h2:j<1073741824:=hc.2
 exact floordiv_int (by lia) (by rw[Int.fdiv_eq_ediv_of_nonneg i (by lia)];exact q) (.inl (PyProof.noPylong_small (by omega)))
theorem op_mod:OpR X (binaryOp .Mod) (rI (fun _ j=>0<j) fun i j=>.int (i % j)):=opI fun i j _ _ _ _ _ hc q=>by
 have h1:(0:Int)<j:=hc
 exact mod_int' (by lia) (by rw[Int.fmod_eq_emod_of_nonneg i (by lia)];exact q)
theorem op_pow:OpR X (binaryOp .Pow) (rI CPow fun i j=>.int (i ^ j.toNat)):=opI fun _ _ _ _ _ _ _ hc q=>pow_int_small hc.1 hc.2.1 hc.2.2 q
theorem unI{f:Value->Sem Value}{g:Int->Int}
  (rule:∀ (i:Int) (t:Tok) (s:Shared) (Q:Value->Shared->Prop) (E:Value->Shared->Prop),Q (.int (g i) s.toks) { s with toks:=s.toks+1 }->wpAny (model X.prog X.w) X.A (f (.int i t)) Q E s) :
  UnR X f (rU fun i=>.int (g i)):=by
 intro pins s σ H x v Q I rx h
 obtain⟨i,rfl,q⟩:=h
 obtain⟨t,rfl⟩:=rx
 exact rule i t s _ _ ⟨.int (g i),H,I.tok _,⟨_,rfl⟩,q⟩
theorem un_neg:UnR X (unaryOp .USub) (rU fun i=>.int (-i)):=unI fun _ _ _ _ _ q=>neg_int q
end
noncomputable def scal:V->V->Bool
 | .non,.non=>true | .non,.int _=>true | .int _,.non=>true | .non,.bl _=>true | .bl _,.non=>true | .non,.str _=>true | .str _,.non=>true
 | .int _,.int _=>true | .bl _,.bl _=>true | .str _,.str _=>true | .byt _,.byt _=>true
 | .int _,.str _=>true | .str _,.int _=>true | .bl _,.str _=>true | .str _,.bl _=>true
 | _,_=>false
noncomputable def rEq:R2:=fun x y H Q=>scal x y=true/\Q (.bl (decide (x=y))) H
noncomputable def rNe:R2:=fun x y H Q=>scal x y=true/\Q (.bl (!decide (x=y))) H
theorem dec_int{i j:Int}:decide (V.int i=V.int j)=(i == j):=by
 rw[Bool.eq_iff_iff]
 simp
theorem dec_bl{i j:Bool}:decide (V.bl i=V.bl j)=(i == j):=by
 rw[Bool.eq_iff_iff]
 simp
theorem dec_str{i j:Str}:decide (V.str i=V.str j)=(i == j):=by
 rw[Bool.eq_iff_iff]
 simp
theorem dec_byt{i j:Array UInt8}:decide (V.byt i=V.byt j)=(i.toList == j.toList):=by
 rw[Bool.eq_iff_iff]
 cases i
 cases j
 simp
section
variable{X:Cx}{a b c:Expr}{ta tb tc:TE}{pos:Pos}
theorem fin_bl{pins:List (Addr×Obj)}{σ:St}{H:Hp}{s:Shared}{Q:VK}{k k':Bool}(I:Inv X pins σ H s)(q:Q (.bl k) H)(e:k=k'):EP X pins σ Q (.bool k') s:=by
 subst e
 exact⟨.bl k,H,I,rfl,q⟩
theorem op_eq:OpR X (compareOp .Eq) rEq:=by
 intro pins s σ H x y v u Q I rx ry h
 obtain⟨hs,q⟩:=h
 cases x with
 |non =>
  cases rx
  cases y with
  |non=>cases ry;exact PySem.EqNone.eq_none_none (fin_bl I q (by simp))
  |bl j=>cases ry;exact PySem.EqNone.eq_none_bool (fin_bl I q (by simp))
  |int j=>obtain⟨t',rfl⟩:=ry;exact PySem.EqNone.eq_none_int (fin_bl I q (by simp))
  |str j=>obtain⟨t',rfl⟩:=ry;exact PySem.EqNone.eq_none_str (fin_bl I q (by simp))
  | _=>exact absurd (show false=true from hs) Bool.false_ne_true
 |bl i =>
  cases rx
  cases y with
  |non=>cases ry;exact PySem.EqNone.eq_bool_none (fin_bl I q (by simp))
  |bl j=>cases ry;exact eq_bool (fin_bl I q dec_bl)
  |str j=>obtain⟨t',rfl⟩:=ry;exact PySem.EqMixed.eq_bool_str (fin_bl I q (by simp))
  | _=>exact absurd (show false=true from hs) Bool.false_ne_true
 |int i =>
  obtain⟨t,rfl⟩:=rx
  cases y with
  |non=>cases ry;exact PySem.EqNone.eq_int_none (fin_bl I q (by simp))
  |int j=>obtain⟨t',rfl⟩:=ry;exact eq_int (fin_bl I q dec_int)
  |str j=>obtain⟨t',rfl⟩:=ry;exact PySem.EqMixed.eq_int_str (fin_bl I q (by simp))
  | _=>exact absurd (show false=true from hs) Bool.false_ne_true
 |str i =>
  obtain⟨t,rfl⟩:=rx
  cases y with
  |non=>cases ry;exact PySem.EqNone.eq_str_none (fin_bl I q (by simp))
  |bl j=>cases ry;exact PySem.EqMixed.eq_str_bool (fin_bl I q (by simp))
  |int j=>obtain⟨t',rfl⟩:=ry;exact PySem.EqMixed.eq_str_int (fin_bl I q (by simp))
  |str j=>obtain⟨t',rfl⟩:=ry;exact eq_str (fin_bl I q dec_str)
  | _=>exact absurd (show false=true from hs) Bool.false_ne_true
 |byt i =>
  obtain⟨t,rfl⟩:=rx
  cases y with
  |byt j=>obtain⟨t',rfl⟩:=ry;exact PySem.W.eq_bytes (fin_bl I q dec_byt)
  | _=>exact absurd (show false=true from hs) Bool.false_ne_true
 | _=>cases y <;> exact absurd (show false=true from hs) Bool.false_ne_true
theorem op_ne:OpR X (compareOp .NotEq) rNe:=by
 intro pins s σ H x y v u Q I rx ry h
 obtain⟨hs,q⟩:=h
 cases x with
 |non =>
  cases rx
  cases y with
  |non=>cases ry;exact PySem.EqNone.ne_none_none (fin_bl I q (by simp))
  |bl j=>cases ry;exact PySem.EqNone.ne_none_bool (fin_bl I q (by simp))
  |int j=>obtain⟨t',rfl⟩:=ry;exact PySem.EqNone.ne_none_int (fin_bl I q (by simp))
  |str j=>obtain⟨t',rfl⟩:=ry;exact PySem.EqNone.ne_none_str (fin_bl I q (by simp))
  | _=>exact absurd (show false=true from hs) Bool.false_ne_true
 |bl i =>
  cases rx
  cases y with
  |non=>cases ry;exact PySem.EqNone.ne_bool_none (fin_bl I q (by simp))
  |bl j=>cases ry;exact ne_bool (fin_bl I q (congrArg not dec_bl))
  |str j=>obtain⟨t',rfl⟩:=ry;exact PySem.EqMixed.ne_bool_str (fin_bl I q (by simp))
  | _=>exact absurd (show false=true from hs) Bool.false_ne_true
 |int i =>
  obtain⟨t,rfl⟩:=rx
  cases y with
  |non=>cases ry;exact PySem.EqNone.ne_int_none (fin_bl I q (by simp))
  |int j=>obtain⟨t',rfl⟩:=ry;exact ne_int (fin_bl I q (congrArg not dec_int))
  |str j=>obtain⟨t',rfl⟩:=ry;exact PySem.EqMixed.ne_int_str (fin_bl I q (by simp))
  | _=>exact absurd (show false=true from hs) Bool.false_ne_true
 |str i =>
  obtain⟨t,rfl⟩:=rx
  cases y with
  |non=>cases ry;exact PySem.EqNone.ne_str_none (fin_bl I q (by simp))
  |bl j=>cases ry;exact PySem.EqMixed.ne_str_bool (fin_bl I q (by simp))
  |int j=>obtain⟨t',rfl⟩:=ry;exact PySem.EqMixed.ne_str_int (fin_bl I q (by simp))
  |str j=>obtain⟨t',rfl⟩:=ry;exact ne_str (fin_bl I q (congrArg not dec_str))
  | _=>exact absurd (show false=true from hs) Bool.false_ne_true
 |byt i =>
  obtain⟨t,rfl⟩:=rx
  cases y with
  |byt j=>obtain⟨t',rfl⟩:=ry;exact PySem.W.ne_bytes (fin_bl I q (congrArg not dec_byt))
  | _=>exact absurd (show false=true from hs) Bool.false_ne_true
 | _=>cases y <;> exact absurd (show false=true from hs) Bool.false_ne_true
theorem op_lt:OpR X (compareOp .Lt) (rI0 fun i j=>.bl (decide (i<j))):=opB0 fun _ _ _ _ _ _ _ q=>lt_int q
theorem op_gt:OpR X (compareOp .Gt) (rI0 fun i j=>.bl (decide (j<i))):=opB0 fun _ _ _ _ _ _ _ q=>gt_int q
theorem op_ge:OpR X (compareOp .GtE) (rI0 fun i j=>.bl (decide (j<=i))):=opB0 fun _ _ _ _ _ _ _ q=>ge_int q
theorem nomark(b:Expr){op:CmpOp}(h:op≠.In:=by decide)(h2:op≠.NotIn:=by decide):behindInMarks op b=false:=by
 have e1:(op == CmpOp.In)=false:=by cases op <;> first | rfl | exact absurd rfl h
 have e2:(op == CmpOp.NotIn)=false:=by cases op <;> first | rfl | exact absurd rfl h2
 cases b <;> simp[behindInMarks,e1,e2]
theorem pe_cmpR{op:CmpOp}{r:R2}(ho:OpR X (compareOp op) r)(ha:PE X a ta)(hb:PE X b tb)(hm:behindInMarks op b=false):PE X (.Compare a [op] [b] pos) (tOp r ta tb):=by
 intro pins s σ H Q I h
 exact wpAny_Compare1 (binT ha hb I h fun v u s2 x y H2 I2 rx ry q=>ho pins s2 σ H2 x y v u Q I2 rx ry q) hm
noncomputable def tTest(t:TE):TT:=fun σ H Q=>t σ H fun x H'=>∃ k,x = .bl k/\Q k H'
theorem pt_cmpR{op:CmpOp}{r:R2}(ho:OpR X (compareOp op) r)(ha:PE X a ta)(hb:PE X b tb)(hm:behindInMarks op b=false):PT X (.Compare a [op] [b] pos) (tTest (tOp r ta tb)):=by
 intro pins s σ H Q I h
 refine wpAny_isTrue_Compare1 (thn (ha pins s σ H _ I h) fun v s1 ⟨x,H1,I1,r1,q1⟩=>thn (hb pins s1 σ H1 _ I1 q1) fun u s2 ⟨y,H2,I2,r2,q2⟩ =>
  thn (ho pins s2 σ H2 x y v u _ I2 r1 r2 q2) fun c s3 ⟨z,H3,I3,r3,k,e,q3⟩=>?_) hm
 subst e
 cases r3
 exact wpAny_truthy_bool ⟨H3,I3,q3⟩
noncomputable def TruV(K:PySem.W.Frag)(x:V)(H:Hp)(k:Bool):Prop :=
 match x with
 | .non=>k=false
 | .bl b=>k=b
 | .int i=>k=(i != 0)
 | .str y=>y.length<=sizeLine/\k=((y.length:Int) != 0)
 | .byt y=>y.size<=sizeLine/\k=((y.size:Int) != 0)
 | .ref p=>(∃ xs,SqL K H p xs/\k = !xs.isEmpty)\/(∃ xs,SqT K H p xs/\k = !xs.isEmpty)\/∃ kvs,H p=some (.dK kvs)/\k = !kvs.isEmpty
 | _=>False
theorem isEmpty_kv{κ:Type}{kvs:List (κ×V)}{vs:List (κ×Value)}(r:KV kvs vs):(!vs.isEmpty) = !kvs.isEmpty:=by
 cases r <;> rfl
theorem isEmpty_of{xs:List V}{its:List Value}(r:Vals xs its):(!its.toArray.isEmpty) = !xs.isEmpty:=by
 cases r <;> simp
theorem line63:(sizeLine:Nat)<2 ^ 63:=by rw[sizeLine_eq];decide
theorem tru_ok:TruR X (fun x H Q=>∃ k,TruV X.K x H k/\Q k H):=by
 intro pins s σ H x v Q I rx h
 obtain⟨k,e,q⟩:=h
 have hl:=line63
 have hs:sizeLine=16777216:=sizeLine_eq
 cases x with
 |non =>
  cases rx
  have e':k=false:=e
  subst e'
  exact truthy_none ⟨H,I,q⟩
 |bl b =>
  cases rx
  have e':k=b:=e
  subst e'
  exact wpAny_truthy_bool ⟨H,I,q⟩
 |int i =>
  obtain⟨t,rfl⟩:=rx
  have e':k=(i != 0):=e
  subst e'
  exact PySem.P.truthy_int ⟨H,I,q⟩
 |str y =>
  obtain⟨t,rfl⟩:=rx
  obtain⟨hy,e'⟩:y.length<=sizeLine/\k=((y.length:Int) != 0):=e
  subst e'
  exact PySem.P.truthy_str (by lia) ⟨H,I.tok _,q⟩
 |byt y =>
  obtain⟨t,rfl⟩:=rx
  obtain⟨hy,e'⟩:y.size<=sizeLine/\k=((y.size:Int) != 0):=e
  subst e'
  exact PySem.W.truthy_bytes (by lia) ⟨H,I.tok _,q⟩
 |ref p =>
  cases rx
  have e':(∃ xs,SqL X.K H p xs/\k = !xs.isEmpty)\/(∃ xs,SqT X.K H p xs/\k = !xs.isEmpty)\/∃ kvs,H p=some (.dK kvs)/\k = !kvs.isEmpty:=e
  rcases e' with⟨xs,hx,e'⟩ |⟨xs,hx,e'⟩ |⟨kvs,hx,e'⟩
  ·subst e'
   obtain⟨its,r,pl,hz⟩:=I.list hx
   have hlen:=r.length
   exact wpAny_truthy_list pl.isList (by simp only[List.size_toArray];lia) ⟨H,I.tok _,by rw[isEmpty_of r];exact q⟩
  ·subst e'
   obtain⟨its,r,pl,hz⟩:=I.tuple hx
   have hlen:=r.length
   exact truthy_tuple pl (by simp only[List.size_toArray];lia) ⟨H,I.tok _,by rw[isEmpty_of r];exact q⟩
  ·subst e'
   obtain⟨hz,hS,vs,r,m⟩:kvs.length<=sizeLine/\(p == sysModules)=false/\∃ vs,KV kvs vs/\s.heap.DictOf (mixKind X.prog X.w) p vs:=I.hok p _ hx
   have hlen:kvs.length=vs.length:=Paired.length r
   exact wpAny_truthy_dict hS m (by lia) ⟨H,I.tok _,by rw[isEmpty_kv r];exact q⟩
 | _=>exact(show False from e).elim
theorem pt_truth(ha:PE X a ta)(he:∀ whole,isTrue a X.env whole=(do let v <- whole;standAt a.pos;holding [v] (truthy v))) :
  PT X a (fun σ H Q=>ta σ H fun x H'=>∃ k,TruV X.K x H' k/\Q k H'):=by
 intro pins s σ H Q I h
 exact isTrue_plain (thn (ha pins s σ H _ I h) fun v s1 ⟨x,H1,I1,r1,q1⟩=>tru_ok pins s1 σ H1 x v Q I1 r1 q1) (he _)
theorem vals1{x:V}{us:List Value}(r:Vals [x] us):∃ u,us=[u]/\RelV x u:=by
 cases r with
 |cons r1 r2=>cases r2;exact⟨_,rfl,r1⟩
theorem vals2{x y:V}{us:List Value}(r:Vals [x,y] us):∃ u w',us=[u,w']/\RelV x u/\RelV y w':=by
 cases r with
 |cons r1 r2 =>
  cases r2 with
  |cons r3 r4=>cases r4;exact⟨_,_,rfl,r1,r3⟩
theorem call_abs:CallR X (.builtin "abs") (fun xs H Q=>∃ i,xs=[.int i]/\Q (.int (if i<0 then -i else i)) H):=by
 intro pins s σ H xs us Q I r h
 obtain⟨i,rfl,q⟩:=h
 obtain⟨u,rfl,t,rfl⟩:=vals1 r
 exact call_abs_int fun u tk=>⟨.int (if i<0 then -i else i),H,I.tok _,⟨_,rfl⟩,q⟩
theorem call_max2(hc:X.calm=true):CallR X (.builtin "max") (fun xs H Q=>∃ i j,xs=[.int i,.int j]/\Q (.int (if j > i then j else i)) H):=by
 intro pins s σ H xs us Q I r h
 obtain⟨i,j,rfl,q⟩:=h
 obtain⟨u,w',rfl,⟨t,rfl⟩,⟨t',rfl⟩⟩:=vals2 r
 refine max_two_ints (I.ok.hd hc) fun h' tk k=>⟨_,H,I.kept k,?_,q⟩
 by_cases hj:j > i
 ·rw[if_pos hj,if_pos hj];exact⟨_,rfl⟩
 ·rw[if_neg hj,if_neg hj];exact⟨_,rfl⟩
theorem call_min2(hc:X.calm=true):CallR X (.builtin "min") (fun xs H Q=>∃ i j,xs=[.int i,.int j]/\Q (.int (if j<i then j else i)) H):=by
 intro pins s σ H xs us Q I r h
 obtain⟨i,j,rfl,q⟩:=h
 obtain⟨u,w',rfl,⟨t,rfl⟩,⟨t',rfl⟩⟩:=vals2 r
 refine min_two_ints (I.ok.hd hc) fun h' tk k=>⟨_,H,I.kept k,?_,q⟩
 by_cases hj:j<i
 ·rw[if_pos hj,if_pos hj];exact⟨_,rfl⟩
 ·rw[if_neg hj,if_neg hj];exact⟨_,rfl⟩
theorem call_int1:CallR X (.type "int") (fun xs H Q=>(∃ i,xs=[.int i]/\Q (.int i) H)\/∃ k,xs=[.bl k]/\Q (.int (if k then 1 else 0)) H):=by
 intro pins s σ H xs us Q I r h
 rcases h with⟨i,rfl,q⟩ |⟨k,rfl,q⟩
 ·obtain⟨u,rfl,t,rfl⟩:=vals1 r
  exact call_int_int ⟨.int i,H,I,⟨_,rfl⟩,q⟩
 ·obtain⟨u,rfl,r1⟩:=vals1 r
  cases r1
  exact call_int_bool ⟨.int (if k then 1 else 0),H,I.tok _,⟨_,rfl⟩,q⟩
end
open PySem PySem.Spec PyProof.Rows
theorem RelO.some_of{v:V}{o:Option Value}(r:RelO (some v) o):∃ u,o=some u/\RelV v u:=by
 cases o with
 |none=>exact(show False from r).elim
 |some u=>exact⟨u,rfl,r⟩
theorem RelO.none_of{o:Option Value}(r:RelO none o):o=none:=by
 cases o with
 |none=>rfl
 |some u=>exact(show False from r).elim
open PySem PySem.Spec PyProof.Rows
theorem deep_gd{A:Around}{env:Env}(h:A.guards=some []):(A.deeper env).guards=some []:=by
 first | exact h | simp[Around.deeper,h]
structure Room(k:Nat)(A:Around):Prop where
 hd:A.handled=none
 dp:A.depth+3 * k+5<recursionLimit
 un:A.units+16 * k+200<cLine
 gd:A.guards=some []
theorem Room.mono{j k:Nat}{A:Around}(r:Room k A)(h:j<=k):Room j A:=⟨r.hd,by have:=r.dp;lia,by have:=r.un;lia,r.gd⟩
theorem Room.deeper{k:Nat}{A:Around}(r:Room (k+1) A)(env:Env):Room k (A.deeper env) :=
 ⟨r.hd,by have:=r.dp;show A.depth+1+3 * k+5<_;lia,by have:=r.un;show A.units+3+16 * k+200<_;lia,deep_gd r.gd⟩
theorem Room.depth{k:Nat}{A:Around}(r:Room k A):A.depth<recursionLimit:=by have:=r.dp;lia
theorem Room.units{k:Nat}{A:Around}(r:Room k A):A.units+64<cLine:=by have:=r.un;lia
theorem Room.units0{k:Nat}{A:Around}(r:Room k A):A.units<cLine:=by have:=r.un;lia
noncomputable def tNil:TA:=fun _ H Q=>Q [] H
noncomputable def tCons(ta:TE)(tr:TA):TA:=fun σ H Q=>ta σ H fun x H1=>tr σ H1 fun xs H2=>Q (x :: xs) H2
section
variable{X:Cx}{e:Expr}{es:List Expr}{te:TE}{t:TA}{pos:Pos}
theorem pa_nil:PA X [] tNil:=fun _ _ _ _ H Q I h=>Calls.spliced_nil ⟨[],H,I,.nil,h⟩
theorem pa_cons(ha:PE X e te)(hr:PA X es t)(hs:starEach (e :: es) X.env=(false,eval e X.env) :: starEach es X.env:=by rfl):PA X (e :: es) (tCons te t):=by
 intro pos pins s σ H Q I h
 rw[hs]
 show wpAny _ _ (spliced ((false,eval e X.env) :: backTo pos (starEach es X.env))) _ _ s
 refine Calls.spliced_cons (thn (ha pins s σ H _ I h) fun u s1 ⟨x,H1,I1,r1,q1⟩=>?_)
 exact thn (hr pos pins s1 σ H1 _ I1 q1) fun us s2 ⟨xs,H2,I2,r2,q2⟩=>⟨x :: xs,H2,I2,.cons r1 r2,q2⟩
noncomputable def tTup(t:TA):TE:=fun σ H Q=>t σ H fun xs H1=>xs.length<=sizeLine/\∀ p,H1 p=none->Q (.ref p) (upd H1 p (.tup xs))
noncomputable def tLst(t:TA):TE:=fun σ H Q=>t σ H fun xs H1=>xs.length<=sizeLine/\∀ p,H1 p=none->Q (.ref p) (upd H1 p (.lst xs))
theorem pe_tup{x1}(h:PA X es t):PE X (.Tuple es x1 pos) (tTup t):=by
 intro pins s σ H Q I hq
 refine wpAny_Tuple_spliced (thn (h pos pins s σ H _ I hq) fun us s1 ⟨xs,H1,I1,r,z,q⟩=>⟨by rw[<- r.length];exact z,?_⟩)
 have hf:H1 s1.heap.objs.size=none:=I1.hok.fresh (Nat.le_refl _)
 refine⟨.ref s1.heap.objs.size,upd H1 s1.heap.objs.size (.tup xs),I1.laid (t':=s1.toks) (fun b u e=>Heap.get?_push_of_some _ e) (Nat.le_refl _) ?_,rfl,q _ hf⟩
 exact⟨z,us,r,⟨_,Heap.get?_push_size _ rfl,rfl,_,rfl⟩⟩
theorem pe_lst(h:PA X es t):PE X (.List es pos) (tLst t):=by
 intro pins s σ H Q I hq
 refine wpAny_List_spliced (thn (h pos pins s σ H _ I hq) fun us s1 ⟨xs,H1,I1,r,z,q⟩=>⟨by rw[<- r.length];exact z,?_⟩)
 have hf:H1 s1.heap.objs.size=none:=I1.hok.fresh (Nat.le_refl _)
 refine⟨.ref s1.heap.objs.size,upd H1 s1.heap.objs.size (.lst xs),I1.laid (t':=s1.toks) (fun b u e=>Heap.get?_push_of_some _ e) (Nat.le_refl _) ?_,rfl,q _ hf⟩
 exact⟨z,us,0,r,Heap.get?_push_size _ rfl⟩
end
noncomputable abbrev Sp:=List V->Hp->VK->XK->Prop
noncomputable abbrev CXT:=List Env->Hp->Shared->XK->Value->Shared->Prop
structure Env0(P:Program)(w:World)(K:PySem.W.Frag)(mg:Str->Option Value)(base:Heap)(A:Around)(outer:List Env)(s:Shared)(H:Hp):Prop where
 frames:A.frames=some outer
 mod:Mod K mg base
 bs:∀ b o,base.get? b=some o->s.heap.get? b=some o/\H b=none
 bsz:base.objs.size<=s.heap.objs.size
 funs:s.heap.FunFrames base outer
 frf:∀ b∈frs outer,H b=none
 hok:HOk P w H s.heap
 bare:AllBare s.gens
noncomputable def CE(outer:List Env)(P:Program)(w:World)(H:Hp)(s:Shared)(Q:VK)(u:Value)(s':Shared):Prop :=
 ∃ v H',s'.os=s.os/\AllBare s'.gens/\Un (frs outer) [] H H' s.heap s'.heap/\HOk P w H' s'.heap/\RelV v u/\Q v H'
noncomputable def CR(CX:CXT)(outer:List Env)(P:Program)(w:World)(H:Hp)(s:Shared)(Q:VK)(E:XK)(r:Result)(s':Shared):Prop :=
 match r with
 | .ok (.ret u)=>CE outer P w H s Q u s'
 | .ok _=>False
 | .error e=>CX outer H s E e s'
structure FnOk(P:Program)(w:World)(K:PySem.W.Frag)(mg:Str->Option Value)(base:Heap)(CX:CXT)(k:Nat)(f:Addr)(fd:FuncData)(ps:List Str)(sp:Sp):Prop where
 len:∀ vs H Q E,sp vs H Q E->vs.length=ps.length
 run:∀ (A:Around) (outer:List Env) (s:Shared) (H:Hp) (args:Args) (us:List Value) (vs:List V) (Q:VK) (E:XK),Room k A->Env0 P w K mg base A outer s H->BindsTo s fd args (ps.zip us)->Vals vs us->sp vs H Q E ->
  codeAny (model P w) A (.call (.ref f) args) (CR CX outer P w H s Q E) s
section
variable{X:Cx}{pins:List (Addr×Obj)}{σ:St}{H:Hp}{s s':Shared}
theorem Inv.env0(I:Inv X pins σ H s):Env0 X.prog X.w X.K X.mg X.base X.A X.stack s H :=
 ⟨I.ok.frames,I.ok.mod,I.bs,Nat.le_trans I.ok.bsz I.sz,I.stack,I.stkFree,I.hok,I.bare⟩
theorem Inv.after{Q:VK}{u:Value}(I:Inv X pins σ H s)(h:CE X.stack X.prog X.w H s Q u s'):EP X pins σ Q u s':=by
 obtain⟨v,H',os,bare,un,hok,r,q⟩:=h
 obtain⟨hh,g,d,t,os'⟩:=s'
 obtain rfl:os'=s.os:=os
 exact⟨v,H',I.call (h':=hh) (g':=g) (d':=d) (t':=t) (ch:=[]) un hok bare (fun b z=>absurd z (by simp)),r,q⟩
end
noncomputable def tCall(sp:Sp)(dvs:List V)(E:XK)(t:TA):TE:=fun σ H Q=>t σ H fun vs H1=>sp (vs++dvs) H1 Q E
noncomputable def Binds(K:PySem.W.Frag)(fd:FuncData)(ps:List Str)(ds:List Value):Prop :=
 ∀ (s:Shared) (us:List Value),K.In s.heap->(us++ds).length=ps.length->BindsTo s fd ⟨us,[]⟩ (ps.zip (us++ds))
theorem Binds.all{K:PySem.W.Frag}{fd:FuncData}{ps:List Str}(h:∀ us:List Value,us.length=ps.length->bindArgs fd ⟨us,[]⟩=pure (ps.zip us)):Binds K fd ps []:=fun s us _ hl=>by
 rw[List.append_nil]at hl ⊢
 exact .of_eq (h us hl)
noncomputable def Passes(CX:CXT)(X:Cx)(E:XK):Prop:=∀ (pins:List (Addr×Obj)) (σ:St) (H:Hp) (s:Shared) (e:Value) (s':Shared),Inv X pins σ H s->CX X.stack H s E e s'->X.xe e s'
section
variable{X:Cx}{CX:CXT}{k:Nat}{f C:Addr}{fd:FuncData}{ps:List Str}{sp:Sp}{dvs:List V}{ds:List Value}{E:XK}{x m:Str}{p pos apos:Pos}{e o:Expr}{es:List Expr}{ta:TE}{t:TA}
theorem run_fn{pins:List (Addr×Obj)}{σ:St}{H:Hp}{s:Shared}{Q:VK}{us:List Value}{vs:List V}(F:FnOk X.prog X.w X.K X.mg X.base CX k f fd ps sp)(hr:Room k X.A)(hb:Binds X.K fd ps ds)(hd:Vals dvs ds)(hx:Passes CX X E)
  (I:Inv X pins σ H s) (r:Vals vs us) (h:sp (vs++dvs) H Q E):wpAny (model X.prog X.w) X.A (call (.ref f) us) (EP X pins σ Q) X.xe s:=by
 have r2:Vals (vs++dvs) (us++ds):=r.append hd
 have hl:(us++ds).length=ps.length:=by rw[<- r2.length];exact F.len _ _ _ _ h
 refine wpAny_call (codeAny_mono (F.run X.A X.stack s H ⟨us,[]⟩ (us++ds) (vs++dvs) Q E hr I.env0 (hb s us I.kIn hl) r2 h) fun r s' hq=>?_)
 cases r with
 |error e=>exact hx pins σ H s e s' I hq
 |ok fl =>
  cases fl with
  |ret u=>exact I.after hq
  |next=>exact False.elim hq
  |brk=>exact False.elim hq
  |cont=>exact False.elim hq
theorem pe_call(F:FnOk X.prog X.w X.K X.mg X.base CX k f fd ps sp)(hr:Room k X.A)(hg:Gl X x)(hm:X.mg x=some (.ref f))(hk:PySem.W.keepIn X.K (.ref f)=true)(hb:Binds X.K fd ps ds)(hd:Vals dvs ds)(hx:Passes CX X E)
  (ha:PA X (e :: es) t) (hdb:(x ==("__debug__":Str))=false:=by decide) (he:starEach (e :: es) X.env=(false,eval e X.env) :: starEach es X.env:=by rfl) (hpl:(backTo pos (starEach es X.env)).any (·.1)=false:=by rfl) :
  PE X (.Call (.Name x p) (e :: es) [] pos) (tCall sp dvs E t):=by
 intro pins s σ H Q I h
 refine wpAny_Call_Name_kw (ld_glob I hg hm ?_ hdb)
 refine PySem.W.callWith_K (h₀:=X.base) I.ok.mod.kin hk (thn (ha pos pins s σ H _ I h) fun us s1 ⟨vs,H1,I1,r,q⟩=>⟨I1.kIn,?_⟩) he hpl
 exact run_fn F hr hb hd hx I1 r q
end
structure FnScope(N P:List Str)(sc:Scope):Prop where
 kind:sc.kind = .function
 co:sc.isCoroutine=false
 gen:sc.isGenerator=false
 nd:N.Nodup
 pre:N.take P.length=P
 par:∀ x∈P,sc.names.lookup x=some .local\/sc.names.lookup x=some .cell
 nofree:∀ y∈sc.names,y.2≠.free
theorem bindL_out{kindOf:Str->Option NameKind}{x:Str}:∀ {binds:List (Str×Value)}{m:Str->Option Value},(∀ v,(x,v)∉binds)->bindL kindOf binds m x=m x
 |[],_,_=>rfl
 |(n,v) :: r,m,h=>by
  unfold bindL
  rw[bindL_out fun w hw=>h w (List.mem_cons_of_mem _ hw)]
  split
  ·have:x≠n:=by rintro rfl;exact h v List.mem_cons_self
   simp[this]
  ·rfl
theorem bindC_out{kindOf:Str->Option NameKind}{x:Str}:∀ {binds:List (Str×Value)}{m:Str->Option Value},(∀ v,(x,v)∉binds)->bindC kindOf binds m x=m x
 |[],_,_=>rfl
 |(n,v) :: r,m,h=>by
  unfold bindC
  rw[bindC_out fun w hw=>h w (List.mem_cons_of_mem _ hw)]
  split
  ·rfl
  ·have:x≠n:=by rintro rfl;exact h v List.mem_cons_self
   simp[this]
theorem bindL_get{kindOf:Str->Option NameKind}{x:Str}{v:Value}:∀ {P:List Str}{vs:List Value}{i:Nat}{m:Str->Option Value},P.Nodup->P[i]?=some x->vs[i]?=some v->kindOf x=some .local ->
  bindL kindOf (P.zip vs) m x=some v
 |[],_,_,_,_,h,_,_=>by simp at h
 | _ :: _,[],_,_,_,_,h,_=>by simp at h
 |p :: P,w :: vs,0,m,nd,h1,h2,hk=>by
  simp at h1 h2;subst h1;subst h2
  show bindL kindOf ((p,w) :: P.zip vs) m p=_
  unfold bindL
  rw[bindL_out fun v hv=>(List.nodup_cons.mp nd).1 (List.of_mem_zip hv).1,if_pos hk]
  simp
 |p :: P,w :: vs,i+1,m,nd,h1,h2,hk=>by
  show bindL kindOf ((p,w) :: P.zip vs) m x=_
  unfold bindL
  exact bindL_get (i:=i) (List.nodup_cons.mp nd).2 (by simpa using h1) (by simpa using h2) hk
theorem bindC_get{kindOf:Str->Option NameKind}{x:Str}{v:Value}:∀ {P:List Str}{vs:List Value}{i:Nat}{m:Str->Option Value},P.Nodup->P[i]?=some x->vs[i]?=some v->kindOf x≠some .local ->
  bindC kindOf (P.zip vs) m x=some v
 |[],_,_,_,_,h,_,_=>by simp at h
 | _ :: _,[],_,_,_,_,h,_=>by simp at h
 |p :: P,w :: vs,0,m,nd,h1,h2,hk=>by
  simp at h1 h2;subst h1;subst h2
  show bindC kindOf ((p,w) :: P.zip vs) m p=_
  unfold bindC
  rw[bindC_out fun v hv=>(List.nodup_cons.mp nd).1 (List.of_mem_zip hv).1,if_neg hk]
  simp
 |p :: P,w :: vs,i+1,m,nd,h1,h2,hk=>by
  show bindC kindOf ((p,w) :: P.zip vs) m x=_
  unfold bindC
  exact bindC_get (i:=i) (List.nodup_cons.mp nd).2 (by simpa using h1) (by simpa using h2) hk
noncomputable def start(N:List Str)(vs:List V):St:=vs.map some++List.replicate (N.length-vs.length) none
noncomputable def cxOf(CX:CXT)(P:Program)(w:World)(K:PySem.W.Frag)(mg:Str->Option Value)(base:Heap)(N:List Str)(qual:Str)(scope:Scope)(f:Addr)(cd:Value)(A:Around)(outer:List Env)(s:Shared)(H:Hp)(E:XK):Cx where
 prog:=P
 w:=w
 K:=K
 mg:=mg
 base:=base
 A:=A.deeper (envOfC qual scope s.heap.objs.size f cd)
 N:=N
 s₀:=s
 H₀:=H
 env:=envOfC qual scope s.heap.objs.size f cd
 outer:=outer
 stack:=envOfC qual scope s.heap.objs.size f cd :: outer
 ex:=[]
 calm:=true
 fn:=fun _=>true
 pn:=[]
 xe:=fun e s'=>wpAny (model P w) (A.deeper (envOfC qual scope s.heap.objs.size f cd)) (leaving (envOfC qual scope s.heap.objs.size f cd) e) (fun _ s''=>CX outer H s E e s'') (fun e' s''=>CX outer H s E e' s'') s'
theorem cell_has{sc:Scope}{n:Nat}{x:Str}(h:sc.names.lookup x=some .cell):∃ c,(cellsFrom n sc.names []).lookup x=some c:=by
 have q:=PySem.W.cellsFrom_some sc.names n [] (.inl h)
 exact Option.isSome_iff_exists.mp q
theorem inv_start{CX:CXT}{P:Program}{w:World}{K:PySem.W.Frag}{mg:Str->Option Value}{base:Heap}{N ps:List Str}{qual:Str}{scope:Scope}{f:Addr}{cd:Value}{A:Around}{outer:List Env}{s s1:Shared}{H:Hp}{E:XK}{us:List Value}{vs:List V}
  (S:FnScope N ps scope) (hd:A.handled=none) (e0:Env0 P w K mg base A outer s H) (hl:vs.length=ps.length) (r:Vals vs us)
  (x:InCallC s s.heap.objs.size (bindL (envOfC qual scope s.heap.objs.size f cd).kindOf (ps.zip us) fun _=>none) (cellsFrom (s.heap.objs.size+1) scope.names []) (bindC (envOfC qual scope s.heap.objs.size f cd).kindOf (ps.zip us) fun _=>none) s1) :
  Inv (cxOf CX P w K mg base N qual scope f cd A outer s H E) [] (start N vs) H s1:=by
 have hpl:ps.length<=N.length:=by have:=congrArg List.length S.pre;rw[List.length_take]at this;lia
 obtain⟨h1,tk,rfl,hk⟩:=x.done
 have noA:∀ b:Addr,b∉(cxOf CX P w K mg base N qual scope f cd A outer s H E).ex:=fun b z=>absurd (show b∈([]:List Addr)from z) (by simp)
 refine⟨⟨e0.mod,S.kind,rfl,rfl,Nat.le_refl _,fun y z c h1 h2=>?_,fun y hy=>?_,fun y c _ h=>?_,fun _=>hd,Around.frames_deeper e0.frames,.inr ⟨rfl,rfl⟩,fun b z=>absurd z (noA b),e0.bs,e0.bsz,fun b _ _=>noA b,fun b z=>absurd z (noA b),e0.funs,e0.frf⟩,
  rfl,e0.bare,Un.kept hk,⟨_,x.toInCall.ns,fun i y v h1 h2 h3=>?_⟩,fun y c h=>⟨_,x.cell y c h⟩,e0.hok.fresh (Nat.le_refl _),fun y c h=>?_,fun p hp=>absurd (show p∈([]:List (Addr×Obj))from hp) (by simp),e0.hok.kept hk,?_⟩
 ·exact name_of_addr x.apart (PySem.mem_of_lookup h1) (PySem.mem_of_lookup h2)
 ·have hy:scope.names.lookup y=some .cell\/scope.names.lookup y=some .free:=hy
  rcases hy with hy | hy
  ·exact cell_has hy
  ·exact absurd rfl (S.nofree _ (PySem.mem_of_lookup hy))
 ·exact Nat.le_of_lt (x.above y c (PySem.mem_of_lookup h))
 ·have hi:i<vs.length:=by
   unfold start at h2
   by_cases hi:i<vs.length
   ·exact hi
   ·rw[List.getElem?_append_right (by simpa using hi)]at h2
    rw[List.getElem?_replicate]at h2
    split at h2 <;> cases h2
  have ha:vs[i]?=some v:=by
   unfold start at h2
   rw[List.getElem?_append_left (by simpa using hi),List.getElem?_map]at h2
   cases e:vs[i]? with
   |none=>rw[e]at h2;cases h2
   |some a=>rw[e]at h2;cases h2;rfl
  obtain⟨u,hu,rv⟩:=r.get ha
  have hp:ps[i]?=some y:=by
   rw[<- S.pre,List.getElem?_take_of_lt (by lia)];exact h1
  have ndP:ps.Nodup:=by rw[<- S.pre];exact S.nd.sublist (List.take_sublist _ _)
  refine⟨u,rv,?_⟩
  rcases S.par y (List.mem_of_getElem? hp)with k | k
  ·exact .inl ⟨k,bindL_get ndP hp hu k⟩
  ·obtain⟨c,e⟩:=cell_has (n:=s.heap.objs.size+1) k
   refine .inr ⟨.inl k,c,e,?_⟩
   have q:=x.cell y c e
   rw[bindC_get ndP hp hu (by show scope.names.lookup y≠_;rw[k];decide)]at q
   exact q
 ·exact e0.hok.fresh (Nat.le_of_lt (x.above y c (PySem.mem_of_lookup h)))
 ·unfold start
  show _=N.length
  rw[List.length_append,List.length_map,List.length_replicate]
  lia
theorem fn_of{CX:CXT}{P:Program}{w:World}{K:PySem.W.Frag}{mg:Str->Option Value}{base:Heap}{k:Nat}{f:Addr}{name qual:Str}{params:Arguments}{body:List Stmt}{scope:Scope}{dV kV doc pm cdv ct oc:Value}{an od:Option Addr}
  {osl:Array (Option Value)}{N ps:List Str}{sp:Sp} (lk:K.lookup f=some ⟨oc,od,.func (PySem.W.fnOf name qual params body scope dV kV doc pm an cdv ct),osl⟩) (hcd:PySem.W.codeIn K cdv qual=true) (S:FnScope N ps scope)
  (len:∀ vs H Q E,sp vs H Q E->vs.length=ps.length)
  (hbody:∀ (A:Around) (outer:List Env) (s:Shared) (H:Hp) (vs:List V) (Q:VK) (E:XK),Room k (A.deeper (envOfC qual scope s.heap.objs.size f cdv))->sp vs H Q E ->
   ∃ t,PSs (cxOf CX P w K mg base N qual scope f cdv A outer s H E) body t/\t { nx:=fun _ H'=>Q .non H',rt:=Q } (start N vs) H) :
  FnOk P w K mg base CX (k+1) f (PySem.W.fnOf name qual params body scope dV kV doc pm an cdv ct) ps sp:=by
 refine⟨len,fun A outer s H args us vs Q E hr e0 hb r hsp=>?_⟩
 have hl:=len _ _ _ _ hsp
 have KX:K.In s.heap:=e0.mod.kin.keeps fun b o e=>(e0.bs b o e).1
 have lim:s.heap.NoLimit:=e0.mod.nolimit.keeps fun b o e=>(e0.bs b o e).1
 have hkind:∀ y∈ps.zip us,scope.names.lookup y.1=some .local\/(scope.names.lookup y.1=some .cell/\((cellsFrom (s.heap.objs.size+1) scope.names []).lookup y.1).isSome=true):=fun⟨n,v⟩ hy=>by
  rcases S.par n (List.of_mem_zip hy).1 with q | q
  ·exact .inl q
  ·exact .inr ⟨q,PySem.W.cellsFrom_some _ _ _ (.inl q)⟩
 refine codeAny_call_function hr.depth (KX _ _ lk) rfl S.co S.gen rfl (PySem.W.codeRec_of KX hcd) (hb _ _ _ _ ?_)
 refine wpAny_newFunctionEnv_cells S.kind hkind fun env he s1 x=>?_
 subst he
 refine⟨lim.keeps x.toInCall.keep,codeAny_func ?_⟩
 obtain⟨t,ht,hq⟩:=hbody A outer s H vs Q E (hr.deeper _) hsp
 have I:Inv (cxOf CX P w K mg base N qual scope f cdv A outer s H E) [] (start N vs) H s1:=inv_start S hr.hd e0 hl r x
 refine wpAny_mono (ht [] s1 (start N vs) H _ I hq) (fun fl s' hs=>?_) fun e s' hs=>hs
 have fin:∀ {σ':St}{H':Hp}{v:V}{u:Value},Inv (cxOf CX P w K mg base N qual scope f cdv A outer s H E) [] σ' H' s'->RelV v u->Q v H'->CE outer P w H s Q u s' :=
  fun {σ' H' v u} J rv q=>⟨v,H',J.os,J.bare,J.base,J.hok,rv,q⟩
 cases fl with
 |ret u =>
  obtain⟨v,σ',H',J,rv,q⟩:=hs
  exact fin J rv q
 |next =>
  obtain⟨σ',H',J,q⟩:=hs
  exact fin (v:=V.non) (u:=Value.none) J rfl q
 |brk =>
  obtain⟨_,_,_,q⟩:=hs
  exact False.elim q
 |cont =>
  obtain⟨_,_,_,q⟩:=hs
  exact False.elim q
open PySem PySem.Spec PyProof.Rows
section
variable{X:Cx}{x:Str}{p pos:Pos}{e:Expr}{es:List Expr}{t:TA}{id T:String}{r:List V->Hp->VK->Prop}
noncomputable def tCB(r:List V->Hp->VK->Prop)(t:TA):TE:=fun σ H Q=>t σ H fun vs H1=>r vs H1 Q
theorem pe_callB(hc:CallR X (.builtin id) r)(hg:Gl X x)(hm:X.mg x=none)(hv:bootBuiltins x=some (.builtin id))(ha:PA X (e :: es) t)(hn:x≠"__name__":=by decide)(hdb:(x ==("__debug__":Str))=false:=by decide)
  (he:starEach (e :: es) X.env=(false,eval e X.env) :: starEach es X.env:=by rfl) (hpl:(backTo pos (starEach es X.env)).any (·.1)=false:=by rfl):PE X (.Call (.Name x p) (e :: es) [] pos) (tCB r t):=by
 intro pins s σ H Q I h
 refine wpAny_Call_Name_kw (ld_blt I hg hm hv ?_ hn hdb)
 exact PyProof.Rows.callWith_builtin1 (thn (ha pos pins s σ H _ I h) fun us s1 ⟨vs,H1,I1,r1,q1⟩=>hc pins s1 σ H1 vs us Q I1 r1 q1) he hpl
theorem pe_callTy(hc:CallR X (.type T) r)(hg:Gl X x)(hm:X.mg x=none)(hv:bootBuiltins x=some (.type T))(ha:PA X (e :: es) t)(hn:x≠"__name__":=by decide)(hdb:(x ==("__debug__":Str))=false:=by decide)
  (he:starEach (e :: es) X.env=(false,eval e X.env) :: starEach es X.env:=by rfl) (hpl:(backTo pos (starEach es X.env)).any (·.1)=false:=by rfl):PE X (.Call (.Name x p) (e :: es) [] pos) (tCB r t):=by
 intro pins s σ H Q I h
 refine wpAny_Call_Name_kw (ld_blt I hg hm hv ?_ hn hdb)
 exact PyProof.Rows.callWith_type1 (thn (ha pos pins s σ H _ I h) fun us s1 ⟨vs,H1,I1,r1,q1⟩=>hc pins s1 σ H1 vs us Q I1 r1 q1) he hpl
end
open PySem PySem.Spec PyProof.Rows
section
variable{κ:Type}[DecidableEq κ]
noncomputable def valV(kvs:List (κ×V))(k:κ):Option V:=(kvs.find? fun kv=>decide (kv.1=k)).map (·.2)
noncomputable def putK(kvs:List (κ×V))(k:κ)(v:V):List (κ×V) :=
 if(kvs.any fun kv=>decide (kv.1=k))=true then kvs.map (fun kv=>if kv.1=k then(kv.1,v)else kv)else kvs++[(k,v)]
theorem valV_nil{k:κ}:valV ([]:List (κ×V)) k=none:=rfl
theorem valV_pos{p:κ×V}{r:List (κ×V)}{k:κ}(e:p.1=k):valV (p :: r) k=some p.2:=by simp[valV,List.find?_cons,e]
theorem valV_neg{p:κ×V}{r:List (κ×V)}{k:κ}(e:¬ p.1=k):valV (p :: r) k=valV r k:=by simp[valV,List.find?_cons,e]
theorem valV_any(k:κ):∀ kvs:List (κ×V),(kvs.any fun kv=>decide (kv.1=k))=(valV kvs k).isSome
 |[]=>rfl
 |p :: r=>by
  rw[List.any_cons]
  by_cases e:p.1=k
  ·simp only[valV_pos e,decide_eq_true e,Bool.true_or,Option.isSome_some]
  ·rw[valV_neg e,decide_eq_false e,Bool.false_or];exact valV_any k r
theorem valV_map(k j:κ)(y:V):∀ kvs:List (κ×V),valV (kvs.map fun kv=>if kv.1=k then(kv.1,y)else kv) j=(valV kvs j).map fun x=>if j=k then y else x
 |[]=>rfl
 |p :: r=>by
  have ih:=valV_map k j y r
  rw[List.map_cons]
  by_cases h:p.1=k
  ·rw[if_pos h]
   by_cases e:p.1=j
   ·rw[valV_pos (p:=(p.1,y)) e,valV_pos e,Option.map_some,if_pos (e.symm.trans h)]
   ·rw[valV_neg (p:=(p.1,y)) e,valV_neg e,ih]
  ·rw[if_neg h]
   by_cases e:p.1=j
   ·rw[valV_pos (p:=p) e,valV_pos e,Option.map_some,if_neg (fun z=>h (e.trans z))]
   ·rw[valV_neg (p:=p) e,valV_neg e,ih]
theorem valV_snoc(k j:κ)(y:V):∀ kvs:List (κ×V),valV kvs k=none->valV (kvs++[(k,y)]) j=if j=k then some y else valV kvs j
 |[],_=>by
  by_cases e:k=j
  ·rw[if_pos e.symm];exact valV_pos (p:=(k,y)) e
  ·rw[if_neg (fun z=>e z.symm)];exact valV_neg (p:=(k,y)) e
 |p :: r,hn=>by
  rw[List.cons_append]
  have hk:¬ p.1=k:=fun z=>by rw[valV_pos z]at hn;cases hn
  rw[valV_neg hk]at hn
  have ih:=valV_snoc k j y r hn
  by_cases e:p.1=j
  ·rw[valV_pos e,valV_pos e,if_neg (fun z=>hk (e.trans z))]
  ·rw[valV_neg e,valV_neg e,ih]
theorem valV_put(kvs:List (κ×V))(k j:κ)(y:V):valV (putK kvs k y) j=if j=k then some y else valV kvs j:=by
 unfold putK
 by_cases a:(kvs.any fun kv=>decide (kv.1=k))=true
 ·rw[if_pos a,valV_map]
  rw[valV_any]at a
  by_cases e:j=k
  ·obtain⟨x,hx⟩:=Option.isSome_iff_exists.mp a
   rw[if_pos e,e,hx,Option.map_some,if_pos rfl]
  ·rw[if_neg e]
   cases valV kvs j with
   |none=>rfl
   |some x=>rw[Option.map_some,if_neg e]
 ·rw[if_neg a]
  refine valV_snoc k j y kvs ?_
  rw[valV_any]at a
  cases q:valV kvs k with
  |none=>rfl
  |some x=>rw[q]at a;exact(a rfl).elim
theorem length_putK(kvs:List (κ×V))(k:κ)(v:V):(putK kvs k v).length<=kvs.length+1:=by
 unfold putK
 split
 ·rw[List.length_map];lia
 ·rw[List.length_append,List.length_cons,List.length_nil];lia
theorem putK_new{kvs:List (κ×V)}{k:κ}(v:V)(h:valV kvs k=none):putK kvs k v=kvs++[(k,v)]:=by
 unfold putK
 rw[valV_any,h]
 exact if_neg (by decide)
theorem RelO.isSome_eq{o:Option V}{u:Option Value}(r:RelO o u):o.isSome=u.isSome:=by
 cases o with
 |none=>cases u with
  |none=>rfl
  |some _=>exact(show False from r).elim
 |some _=>cases u with
  |none=>exact(show False from r).elim
  |some _=>rfl
theorem RelO.getD{o:Option V}{u:Option Value}{d:V}{d':Value}(r:RelO o u)(rd:RelV d d'):RelV (o.getD d) (u.getD d'):=by
 cases o with
 |none=>cases u with
  |none=>exact rd
  |some _=>exact(show False from r).elim
 |some _=>cases u with
  |none=>exact(show False from r).elim
  |some _=>exact r
theorem KV.val{kvs:List (κ×V)}{vs:List (κ×Value)}(r:KV kvs vs)(k:κ):RelO (valV kvs k) (valueAt vs k):=by
 unfold KV at r
 induction r with
 |nil=>exact True.intro
 | @cons p q ps qs h t ih =>
  obtain⟨h1,h2⟩:=h
  by_cases e:p.1=k
  ·have e':q.1=k:=h1.symm.trans e
   have b:valueAt (q :: qs) k=some q.2:=by simp[valueAt,List.find?_cons,e']
   rw[valV_pos e,b];exact h2
  ·have e':¬ q.1=k:=fun z=>e (h1.trans z)
   have b:valueAt (q :: qs) k=valueAt qs k:=by simp[valueAt,List.find?_cons,e']
   rw[valV_neg e,b];exact ih
theorem KV.any{kvs:List (κ×V)}{vs:List (κ×Value)}(r:KV kvs vs)(k:κ):(kvs.any fun kv=>decide (kv.1=k))=vs.any fun kv=>decide (kv.1=k):=by
 unfold KV at r
 induction r with
 |nil=>rfl
 |cons h t ih=>rw[List.any_cons,List.any_cons,ih,h.1]
theorem KV.repl{kvs:List (κ×V)}{vs:List (κ×Value)}(r:KV kvs vs)(k:κ){y:V}{u:Value}(ry:RelV y u) :
  KV (kvs.map fun kv=>if kv.1=k then(kv.1,y)else kv) (vs.map fun kv=>if kv.1=k then(kv.1,u)else kv):=by
 unfold KV at r ⊢
 induction r with
 |nil=>exact .nil
 | @cons p q ps qs h t ih =>
  rw[List.map_cons,List.map_cons]
  refine .cons ?_ ih
  obtain⟨h1,h2⟩:=h
  by_cases e:p.1=k
  ·rw[if_pos e,if_pos (h1.symm.trans e)];exact⟨h1,ry⟩
  ·rw[if_neg e,if_neg (fun z=>e (h1.trans z))];exact⟨h1,h2⟩
theorem KV.put{kvs:List (κ×V)}{vs:List (κ×Value)}(r:KV kvs vs)(k:κ){y:V}{u:Value}(ry:RelV y u):KV (putK kvs k y) (stored vs k u):=by
 unfold putK stored
 rw[r.any k]
 by_cases e:(vs.any fun kv=>decide (kv.1=k))=true
 ·rw[if_pos e,if_pos e];exact r.repl k ry
 ·rw[if_neg e,if_neg e];exact Paired.snoc r ⟨rfl,ry⟩
theorem KV.length{kvs:List (κ×V)}{vs:List (κ×Value)}(r:KV kvs vs):kvs.length=vs.length:=Paired.length r
end
theorem kV_is{P:Program}{w:World}{k:Key}{u:Value}(r:RelV (kV k) u):(mixKind P w).is k u=true:=by
 cases k with
 |inl i=>obtain⟨t,e⟩:=(show ∃ t,u=Value.int i t from r);subst e;exact mixKind_int P w i t
 |inr x=>obtain⟨t,e⟩:=(show ∃ t,u=Value.str x t from r);subst e;exact mixKind_str P w x t
theorem items_are{P:Program}{w:World}:∀ {ks:List Key}{us:List Value},Vals (ks.map kV) us->ItemsAre (mixKind P w) ks us
 |[],_,r=>by rw[List.map_nil]at r;cases r;exact .nil
 |k :: ks,_,r=>by
  rw[List.map_cons]at r
  cases r with
  |cons h t=>exact .cons (kV_is h) (items_are t)
noncomputable abbrev KT(H:Hp):List (List Key×V)->List (List Key×Addr×Value)->Prop:=Paired fun p q=>p.1=q.1/\H q.2.1=some (.tup (p.1.map kV))/\RelV p.2 q.2.2
theorem KT.val{H:Hp}{kvs:List (List Key×V)}{xs:List (List Key×Addr×Value)}(r:KT H kvs xs)(k:List Key):RelO (valV kvs k) ((atKey xs k).map (·.2)):=by
 induction r with
 |nil=>exact True.intro
 | @cons p q ps qs h t ih =>
  obtain⟨h1,_,h2⟩:=h
  by_cases e:p.1=k
  ·have e':q.1=k:=h1.symm.trans e
   have b:atKey (q :: qs) k=some q.2:=by simp[atKey,List.find?_cons,e']
   rw[valV_pos e,b];exact h2
  ·have e':¬ q.1=k:=fun z=>e (h1.trans z)
   have b:atKey (q :: qs) k=atKey qs k:=by simp[atKey,List.find?_cons,e']
   rw[valV_neg e,b];exact ih
theorem KT.repl{H:Hp}{kvs:List (List Key×V)}{xs:List (List Key×Addr×Value)}(r:KT H kvs xs)(k:List Key){y:V}{u:Value}(ry:RelV y u) :
  KT H (kvs.map fun kv=>if kv.1=k then(kv.1,y)else kv) (xs.map (putAt k u)):=by
 induction r with
 |nil=>exact .nil
 | @cons p q ps qs h t ih =>
  rw[List.map_cons,List.map_cons]
  refine .cons ?_ ih
  obtain⟨h1,h2,h3⟩:=h
  unfold putAt
  by_cases e:p.1=k
  ·rw[if_pos e,if_pos (h1.symm.trans e)];exact⟨h1,h2,ry⟩
  ·rw[if_neg e,if_neg (fun z=>e (h1.trans z))];exact⟨h1,h2,h3⟩
theorem KT.put{H:Hp}{kvs:List (List Key×V)}{xs:List (List Key×Addr×Value)}(r:KT H kvs xs)(k:List Key){b:Addr}{y:V}{u:Value}(hb:H b=some (.tup (k.map kV)))(ry:RelV y u) :
  KT H (putK kvs k y) (storedH xs k b u):=by
 have e:(kvs.any fun kv=>decide (kv.1=k))=(atKey xs k).isSome:=by
  rw[valV_any,(r.val k).isSome_eq,Option.isSome_map]
 unfold putK storedH
 rw[e]
 by_cases q:(atKey xs k).isSome=true
 ·rw[if_pos q,if_pos q];exact r.repl k ry
 ·rw[if_neg q,if_neg q];exact Paired.snoc r ⟨rfl,hb,ry⟩
theorem KT.keeps{H H':Hp}{kvs:List (List Key×V)}{xs:List (List Key×Addr×Value)}(r:KT H kvs xs)(ht:∀ b ys,H b=some (.tup ys)->H' b=some (.tup ys)):KT H' kvs xs :=
 Paired.mapP r fun _ _ z=>⟨z.1,ht _ _ z.2.1,z.2.2⟩
section
variable{P:Program}{w:World}{H:Hp}{h:Heap}{a:Addr}
theorem rd_of{u:HO}(ok:HOk P w H h)(e:Rd H a u):ObjOk P w H h a u:=e.ok ok
theorem dk_rd{kvs:List (Key×V)}(ok:HOk P w H h)(e:Rd H a (.dK kvs)):kvs.length<=sizeLine/\(a == sysModules)=false/\∃ vs,KV kvs vs/\h.DictOf (mixKind P w) a vs :=
 show ObjOk P w H h a (.dK kvs)from rd_of ok e
theorem dk_of{kvs:List (Key×V)}(ok:HOk P w H h)(e:H a=some (.dK kvs)):kvs.length<=sizeLine/\(a == sysModules)=false/\∃ vs,KV kvs vs/\h.DictOf (mixKind P w) a vs:=dk_rd ok (.inl e)
theorem key_of{ks:List Key}(ok:HOk P w H h)(e:H a=some (.tup (ks.map kV))):(tupleKind (mixKind P w)).is h ks a:=by
 obtain⟨_,its,r,o,h1,h2,n,h3⟩:=(show ObjOk P w H h a (.tup (ks.map kV))from ok a _ e)
 exact⟨o,its.toArray,n,h1,h2,h3,by simpa using items_are r⟩
theorem dt_rd{kvs:List (List Key×V)}(ok:HOk P w H h)(e:Rd H a (.dT kvs)):kvs.length<=sizeLine/\(a == sysModules)=false /\
  ∃ xs,KT H kvs xs/\h.DictOfH (tupleKind (mixKind P w)) a xs:=by
 obtain⟨z,y,xs,r,o,es,ep,h1,h2,h3,h4,h5⟩:=(show ObjOk P w H h a (.dT kvs)from rd_of ok e)
 refine⟨z,y,xs,r,o,es,ep,h1,h2,h3,h4,fun x hx=>?_,h5⟩
 have all:∀ {l:List (List Key×V)}{m:List (List Key×Addr×Value)},KT H l m->∀ x∈m,(tupleKind (mixKind P w)).is h x.1 x.2.1:=by
  intro l m q
  induction q with
  |nil=>intro x hx;exact nomatch hx
  | @cons p q ps qs hq t ih =>
   intro x hx
   rcases List.mem_cons.mp hx with e | hx
   ·subst e
    exact key_of ok (by rw[<- hq.1];exact hq.2.1)
   ·exact ih x hx
 exact all r x hx
theorem dt_of{kvs:List (List Key×V)}(ok:HOk P w H h)(e:H a=some (.dT kvs)):kvs.length<=sizeLine/\(a == sysModules)=false /\
  ∃ xs,KT H kvs xs/\h.DictOfH (tupleKind (mixKind P w)) a xs:=dt_rd ok (.inl e)
end
noncomputable def DGet(H:Hp)(a:Addr)(y:V)(r:Option V):Prop :=
 (∃ kvs k,Rd H a (.dK kvs)/\y=kV k/\r=valV kvs k)\/∃ kvs k b,Rd H a (.dT kvs)/\y = .ref b/\H b=some (.tup (k.map kV))/\r=valV kvs k
noncomputable def DPut(H:Hp)(a:Addr)(y v:V)(H':Hp):Prop :=
 (∃ kvs k,H a=some (.dK kvs)/\y=kV k/\kvs.length<sizeLine/\H'=upd H a (.dK (putK kvs k v))) \/
 ∃ kvs k b,H a=some (.dT kvs)/\y = .ref b/\H b=some (.tup (k.map kV))/\kvs.length<sizeLine/\H'=upd H a (.dT (putK kvs k v))
theorem DGet.k{H:Hp}{a:Addr}{kvs:List (Key×V)}{k:Key}(e:H a=some (.dK kvs)):DGet H a (kV k) (valV kvs k):=.inl ⟨kvs,k,.inl e,rfl,rfl⟩
theorem DGet.t{H:Hp}{a b:Addr}{kvs:List (List Key×V)}{k:List Key}(e:H a=some (.dT kvs))(eb:H b=some (.tup (k.map kV))):DGet H a (.ref b) (valV kvs k):=.inr ⟨kvs,k,b,.inl e,rfl,eb,rfl⟩
theorem DPut.k{H:Hp}{a:Addr}{kvs:List (Key×V)}{k:Key}{v:V}(e:H a=some (.dK kvs))(hl:kvs.length<sizeLine):DPut H a (kV k) v (upd H a (.dK (putK kvs k v))):=.inl ⟨kvs,k,e,rfl,hl,rfl⟩
theorem DPut.t{H:Hp}{a b:Addr}{kvs:List (List Key×V)}{k:List Key}{v:V}(e:H a=some (.dT kvs))(eb:H b=some (.tup (k.map kV)))(hl:kvs.length<sizeLine) :
  DPut H a (.ref b) v (upd H a (.dT (putK kvs k v))):=.inr ⟨kvs,k,b,e,rfl,eb,hl,rfl⟩
section
variable{X:Cx}{pins:List (Addr×Obj)}{σ:St}{H:Hp}{s:Shared}{a:Addr}{y v:V}{u r:Value}{o:Option V}{A:Around}{E:Value->Shared->Prop}
theorem Inv.big(I:Inv X pins σ H s):sysModules<s.heap.objs.size:=by
 have h:mainGlobals<s.heap.objs.size:=(I.mod.glob.keeps I.bk).lt
 exact Nat.lt_trans (by decide) h
theorem d_getItem{Q:Value->Shared->Prop}(hu:A.units+1<cLine)(I:Inv X pins σ H s)(g:DGet H a y (some v))(ry:RelV y u)(h:∀ w' s',Inv X pins σ H s'->RelV v w'->Q w' s') :
  wpAny (model X.prog X.w) A (getItem (.ref a) u) Q E s:=by
 rcases g with⟨kvs,k,e,ey,l⟩ |⟨kvs,k,b,e,ey,eb,l⟩
 ·subst ey
  obtain⟨z,hd,vs,rel,dd⟩:=dk_rd I.hok e
  obtain⟨w',hw,rw'⟩:=RelO.some_of (v:=v) (o:=valueAt vs k) (by rw[l];exact rel.val k)
  exact wpAny_getItem_of (kV_is ry) dd.mapOf hw (h w' _ (I.tok _) rw')
 ·subst ey
  cases(show u=Value.ref b from ry)
  obtain⟨z,hd,xs,rel,dd⟩:=dt_rd I.hok e
  obtain⟨w',hw,rw'⟩:=RelO.some_of (v:=v) (o:=(atKey xs k).map (·.2)) (by rw[l];exact rel.val k)
  obtain⟨p,hp,hp2⟩:=Option.map_eq_some_iff.mp hw
  refine wpAny_getItem_heap (tupleKind_room_in1 hu) (key_of I.hok eb) dd hp ?_
  rw[hp2]
  exact h w' _ (I.tok _) rw'
theorem d_notIn{Q:Value->Shared->Prop}(hu:A.units+1<cLine)(I:Inv X pins σ H s)(g:DGet H a y o)(ry:RelV y u)(h:∀ s',Inv X pins σ H s'->Q (.bool (!o.isSome)) s') :
  wpAny (model X.prog X.w) A (compareOp .NotIn u (.ref a)) Q E s:=by
 rcases g with⟨kvs,k,e,ey,l⟩ |⟨kvs,k,b,e,ey,eb,l⟩
 ·subst ey
  obtain⟨z,hd,vs,rel,dd⟩:=dk_rd I.hok e
  refine wpAny_notIn_of (kV_is ry) hd dd.mapOf ?_
  rw[<-(rel.val k).isSome_eq,<- l]
  exact h _ (I.tok _)
 ·subst ey
  cases(show u=Value.ref b from ry)
  obtain⟨z,hd,xs,rel,dd⟩:=dt_rd I.hok e
  refine wpAny_notIn_heap (tupleKind_room_in1 hu) (key_of I.hok eb) hd dd ?_
  have q:=(rel.val k).isSome_eq
  rw[Option.isSome_map]at q
  rw[<- q,<- l]
  exact h _ (I.tok _)
theorem d_write{h':Heap}{t':Nat}{ob:HO}(I:Inv X pins σ H s)(mu:Mut (H a))(hs:Heap.SameBut a s.heap h')(he:∃ q,h'.get? a=some q)(new:ObjOk X.prog X.w (upd H a ob) h' a ob) :
  Inv X pins σ (upd H a ob) { s with heap:=h',toks:=t' } :=
 I.write (x:=a) (e:=a) mu (.inl rfl) (fun b q hb z=>(hs.2 b hb).trans z) he new
theorem dk_new{P:Program}{w:World}{H':Hp}{h':Heap}{kvs:List (Key×V)}{vs:List (Key×Value)}(z:kvs.length<=sizeLine)(hd:(a == sysModules)=false)(rel:KV kvs vs)(dd:h'.DictOf (mixKind P w) a vs) :
  ObjOk P w H' h' a (.dK kvs):=⟨z,hd,vs,rel,dd⟩
theorem d_setItem{H':Hp}{Q:Unit->Shared->Prop}(hu:A.units+1<cLine)(I:Inv X pins σ H s)(g:DPut H a y v H')(ry:RelV y u)(rv:RelV v r)(h:∀ s',Inv X pins σ H' s'->Q () s') :
  wpAny (model X.prog X.w) A (setItem (.ref a) u r) Q E s:=by
 rcases g with⟨kvs,k,e,ey,l,eH⟩ |⟨kvs,k,b,e,ey,eb,l,eH⟩
 ·subst ey eH
  obtain⟨z,hd,vs,rel,dd⟩:=dk_of I.hok e
  have hz:vs.length<=sizeLine:=by rw[<- rel.length];exact z
  have hl:(putK kvs k v).length<=sizeLine:=by have:=length_putK kvs k v;lia
  refine wpAny_setItem_pairs (hsz:=hz) (kV_is ry) dd fun h' dd' hs=>h _ ?_
  have he:∃ q,h'.get? a=some q:=let ⟨q,_,_,hq,_⟩:=dd';⟨q,hq⟩
  exact d_write I (by rw[e];exact True.intro) hs he (dk_new hl hd (rel.put k rv) dd')
 ·subst ey eH
  cases(show u=Value.ref b from ry)
  obtain⟨z,hd,xs,rel,dd⟩:=dt_of I.hok e
  have hz:xs.length<=sizeLine:=by rw[<- Paired.length rel];exact z
  have hl:(putK kvs k v).length<=sizeLine:=by have:=length_putK kvs k v;lia
  refine wpAny_setItem_heap (hsz:=hz) (tupleKind_room_in1 hu) (key_of I.hok eb) dd fun h' dd' hs=>h _ ?_
  obtain⟨q,es,ep,hq,h2,h3,h4,_,h5⟩:=dd'
  refine d_write I (by rw[e];exact True.intro) hs ⟨q,hq⟩ ⟨hl,hd,_,(rel.put k eb rv).keeps fun c ys ec=>?_,q,es,ep,hq,h2,h3,h4,h5⟩
  rw[upd_ne (ne_of ec e (fun z=>nomatch z))]
  exact ec
end
section
variable{X:Cx}{pins:List (Addr×Obj)}{σ:St}{H:Hp}{s:Shared}{a:Addr}{kvs:List (Key×V)}{k:Key}{u:Value}{A:Around}{E:Value->Shared->Prop}
theorem d_len{Q:Value->Shared->Prop}(I:Inv X pins σ H s)(e:Rd H a (.dK kvs))(h:∀ t s',Inv X pins σ H s'->Q (.int kvs.length t) s'):wpAny (model X.prog X.w) A (call (.builtin "len") [.ref a]) Q E s:=by
 obtain⟨z,hd,vs,rel,dd⟩:=dk_rd I.hok e
 refine call_len_dict hd dd (by rw[<- rel.length];rw[sizeLine_eq]at z;lia) ?_
 rw[<- rel.length]
 exact h _ _ (I.tok _)
end
noncomputable def NoSl(i:Expr):Prop:=∀ ov iv,subscripted i false ov iv=operate [ov,iv] (getItem ov iv)
theorem subD_of{prog:Program}{w:World}{A:Around}{E:Value->Shared->Prop}{s:Shared}{env:Env}{value slice:Expr}{pos:Pos}{T id:String}{Q:Value->Shared->Prop}
  (hl:typeLookup (.type T) "__getitem__" = pure (some (.builtin id))) (hs:NoSl slice)
  (h:wpAny (model prog w) A (eval value env) (fun o s₁=>wpAny (model prog w) A (eval slice env) (fun i s₂=>s₂.TypeIs o T/\wpAny (model prog w) A (getItem o i) Q E s₂) E s₁) E s) :
  wpAny (model prog w) A (eval (.Subscript value slice pos) env) Q E s:=by
 refine Subscript_ (wpAny_mono h (fun o s₁ h₁=>wpAny_mono h₁ (fun i s₂ h₂=>?_) fun _ _ x=>x) fun _ _ x=>x)
 obtain⟨hT,h₂⟩:=h₂
 unfold subscriptTail
 refine wpAny_bind ?_
 rw[getitemInPython_of_ne hT.not_modules]
 refine wpAny_bind (wpAny_specialOf hT hl ?_)
 have fin:wpAny (model prog w) A (subscripted slice false o i) (fun r s₃=>wpAny (model prog w) A (letTemporaryGo value o r >>= fun _=>pure r) Q E s₃) E s₂:=by
  rw[hs o i]
  exact wpAny_operating (wpAny_mono h₂ (fun r s₃ h₃=>wpAny_bind (wpAny_letTemporaryGo (wpAny_pure h₃))) fun _ _ x=>x)
 first
  |exact wpAny_pure (wpAny_bind fin)
  |exact wpAny_bind (wpAny_pure (wpAny_bind fin))
  |exact wpAny_bind fin
theorem dict_typeIs{X:Cx}{pins:List (Addr×Obj)}{σ:St}{H:Hp}{s:Shared}{a:Addr}{y:V}{o:Option V}(I:Inv X pins σ H s)(g:DGet H a y o):s.TypeIs (.ref a) "dict":=by
 rcases g with⟨kvs,k,e,_,_⟩ |⟨kvs,k,b,e,_,_,_⟩
 ·obtain⟨_,_,vs,_,dd⟩:=dk_rd I.hok e
  exact dd.typeIs
 ·obtain⟨_,_,xs,_,dd⟩:=dt_rd I.hok e
  exact dd.typeIs
noncomputable def tDGet(td ty:TE):TE:=fun σ H Q=>td σ H fun x H1=>ty σ H1 fun y H2=>∃ a v,x = .ref a/\DGet H2 a y (some v)/\Q v H2
noncomputable def tDNotIn(ty td:TE):TE:=fun σ H Q=>ty σ H fun y H1=>td σ H1 fun x H2=>∃ a o,x = .ref a/\DGet H2 a y o/\Q (.bl (!o.isSome)) H2
noncomputable def sDPut(td ty tv:TE):TS:=fun D σ H=>tv σ H fun v H1=>td σ H1 fun x H2=>ty σ H2 fun y H3=>∃ a H4,x = .ref a/\DPut H3 a y v H4/\D.nx σ H4
section
variable{X:Cx}{o i e value:Expr}{pos pos' tpos:Pos}{td ty tv:TE}
theorem pe_dget(hu:X.A.units+1<cLine)(ho:PE X o td)(hi:PE X i ty)(hs:NoSl i):PE X (.Subscript o i pos) (tDGet td ty):=by
 intro pins s σ H Q I h
 refine subD_of PySem.F.slot_dict_getitem.lookup hs (thn (ho pins s σ H _ I h) fun u s1 ⟨x,H1,I1,rx,q1⟩=>thn (hi pins s1 σ H1 _ I1 q1) fun iv s2 ⟨y,H2,I2,ry,a,v,ex,g,q2⟩=>?_)
 subst ex
 obtain rfl:u=Value.ref a:=rx
 exact⟨dict_typeIs I2 g,d_getItem hu I2 g ry fun w' s3 I3 rw'=>⟨v,H2,I3,rw',q2⟩⟩
theorem pc_dnotin(hu:X.A.units+1<cLine)(hi:PE X i ty)(ho:PE X o td):PC X .NotIn i o (tDNotIn ty td):=by
 intro pins s σ H Q I h
 refine thn (hi pins s σ H _ I h) fun iv s1 ⟨y,H1,I1,ry,q1⟩=>thn (ho pins s1 σ H1 _ I1 q1) fun u s2 ⟨x,H2,I2,rx,a,ov,ex,g,q2⟩=>?_
 subst ex
 obtain rfl:u=Value.ref a:=rx
 exact d_notIn hu I2 g ry fun s3 I3=>⟨.bl (!ov.isSome),H2,I3,rfl,q2⟩
theorem ps_dput(hu:X.A.units+1<cLine)(ho:PE X o td)(hi:PE X i ty)(hv:PE X value tv)(hs:swapsWith value (some (.Subscript o i pos')) pos.line X.env=pure false) :
  PS X (.Assign [.Subscript o i pos'] value pos) (sDPut td ty tv):=by
 intro pins s σ H D I h
 refine wpAny_Assign_Subscript (thn (hv pins s σ H _ I h) fun r s1 ⟨v,H1,I1,rv,q1⟩=>thn (ho pins s1 σ H1 _ I1 q1) fun u s2 ⟨x,H2,I2,rx,q2⟩=>thn (hi pins s2 σ H2 _ I2 q2) fun iv s3 ⟨y,H3,I3,ry,a,H4,ex,g,q3⟩=>?_) hs
 subst ex
 obtain rfl:u=Value.ref a:=rx
 exact d_setItem hu I3 g ry rv fun s4 I4=>⟨σ,H4,I4,q3⟩
end
theorem dk_empty{P:Program}{w:World}{H:Hp}(h:Heap)(hb:sysModules<h.objs.size):ObjOk P w H (h.push { cls:=.type "dict",data:=.dict #[] }) h.objs.size (.dK []) :=
 ⟨Nat.zero_le _,beq_eq_false_iff_ne.mpr (Ne.symm (Nat.ne_of_lt hb)),[],.nil,Heap.DictOf.new h⟩
theorem dt_empty{P:Program}{w:World}{H:Hp}(h:Heap)(hb:sysModules<h.objs.size):ObjOk P w H (h.push { cls:=.type "dict",data:=.dict #[] }) h.objs.size (.dT []) :=
 ⟨Nat.zero_le _,beq_eq_false_iff_ne.mpr (Ne.symm (Nat.ne_of_lt hb)),[],.nil,_,#[],0,Heap.get?_push_size _ rfl,⟨rfl,rfl,rfl⟩,rfl,rfl,List.nodup_nil⟩
noncomputable def tDNewK:TE:=fun _ H Q=>∀ p,H p=none->Q (.ref p) (upd H p (.dK []))
noncomputable def tDNewT:TE:=fun _ H Q=>∀ p,H p=none->Q (.ref p) (upd H p (.dT []))
section
variable{X:Cx}{pos:Pos}
theorem pe_dnewK:PE X (.Dict [] [] pos) tDNewK:=fun pins s σ H Q I h =>
 wpAny_Dict_empty ⟨.ref s.heap.objs.size,_,I.laid (a:=s.heap.objs.size) (o:=.dK []) (t':=s.toks) (fun _ _ q=>Heap.get?_push_of_some _ q) (Nat.le_refl _) (dk_empty s.heap I.big),rfl,h _ (I.hok.fresh (Nat.le_refl _))⟩
theorem pe_dnewT:PE X (.Dict [] [] pos) tDNewT:=fun pins s σ H Q I h =>
 wpAny_Dict_empty ⟨.ref s.heap.objs.size,_,I.laid (a:=s.heap.objs.size) (o:=.dT []) (t':=s.toks) (fun _ _ q=>Heap.get?_push_of_some _ q) (Nat.le_refl _) (dt_empty s.heap I.big),rfl,h _ (I.hok.fresh (Nat.le_refl _))⟩
end
structure M2(X:Cx)(o:Expr)(m:Str)(apos:Pos)(e f:Expr)(cpos:Pos):Prop where
 base:attributeBase o m X.env (eval o X.env)=eval o X.env
 few:((backTo cpos (starEach [e,f] X.env)).all (fun x=>!x.1) && (backToKw cpos (keywordEach [] X.env)).all (fun x=>x.1.isSome)
  && decide (([e,f]:List Expr).length+([]:List Keyword).length+(if([]:List Keyword).isEmpty then 0 else 1)<30))=true
 line:(apos.endLine == cpos.line)=true
 trees:backTo cpos (starEach [e,f] X.env)=[(false,eval e X.env),(false,eval f X.env)]
noncomputable def IsD(H:Hp)(a:Addr):Prop:=(∃ kvs,Rd H a (.dK kvs))\/∃ kvs,Rd H a (.dT kvs)
theorem isD_at{X:Cx}{pins:List (Addr×Obj)}{σ:St}{H:Hp}{s:Shared}{a:Addr}(I:Inv X pins σ H s)(d:IsD H a) :
  s.TypeIs (.ref a) "dict"/\(∀ b,Value.ref a = .ref b->∃ ob,s.heap.get? b=some ob/\ob.dict=none)/\(a == sysModules)=false:=by
 rcases d with⟨kvs,e⟩ |⟨kvs,e⟩
 ·obtain⟨_,hd,vs,_,dd⟩:=dk_rd I.hok e
  refine⟨dd.typeIs,fun b q=>?_,hd⟩
  cases q
  obtain⟨ob,_,_,h1,h2,_⟩:=dd
  exact⟨ob,h1,h2.2.1⟩
 ·obtain⟨_,hd,xs,_,dd⟩:=dt_rd I.hok e
  refine⟨dd.typeIs,fun b q=>?_,hd⟩
  cases q
  obtain⟨ob,_,_,h1,h2,_⟩:=dd
  exact⟨ob,h1,h2.2.1⟩
section
variable{X:Cx}{pins:List (Addr×Obj)}{σ:St}{H:Hp}{s:Shared}{a:Addr}{y d:V}{u r:Value}{o:Option V}{A:Around}{E:Value->Shared->Prop}
theorem d_get2{Q:Value->Shared->Prop}(hu:A.units+1<cLine)(I:Inv X pins σ H s)(g:DGet H a y o)(ry:RelV y u)(rd:RelV d r)(h:∀ w' s',Inv X pins σ H s'->RelV (o.getD d) w'->Q w' s') :
  wpAny (model X.prog X.w) A (call (.builtin "dict.get") [.ref a,u,r]) Q E s:=by
 rcases g with⟨kvs,k,e,ey,l⟩ |⟨kvs,k,b,e,ey,eb,l⟩
 ·subst ey
  obtain⟨z,hd,vs,rel,dd⟩:=dk_rd I.hok e
  refine call_meetsIn PySem.F.slot_dict_get dd.typeIs PySem.F.entry_dict_get (PySem.F.args_dict_get_3 _ _ _) (meets_dict_get_default (mixKind X.prog X.w) a (kV_is ry) hd r) ⟨_,dd.mapOf,h _ _ (I.tok _) ?_⟩
  rw[l]
  exact(rel.val k).getD rd
 ·subst ey
  cases(show u=Value.ref b from ry)
  obtain⟨z,hd,xs,rel,dd⟩:=dt_rd I.hok e
  refine call_meetsIn PySem.F.slot_dict_get dd.typeIs PySem.F.entry_dict_get (PySem.F.args_dict_get_3 _ _ _) (meetsH_dict_get_default (tupleKind (mixKind X.prog X.w)) a b hd r) ⟨tupleKind_room_in1 hu,k,xs,key_of I.hok eb,dd,h _ _ (I.tok _) ?_⟩
  rw[l]
  exact(rel.val k).getD rd
end
noncomputable def tDGet2(td ty tx:TE):TE:=fun σ H Q=>td σ H fun x H1=>∃ a,x = .ref a/\IsD H1 a/\ty σ H1 fun y H2=>tx σ H2 fun z H3=>∃ o,DGet H3 a y o/\Q (o.getD z) H3
section
variable{X:Cx}{o e f:Expr}{apos cpos:Pos}{td ty tx:TE}
theorem pe_dget2(hu:X.A.units+1<cLine)(ho:PE X o td)(he:PE X e ty)(hf:PE X f tx)(m:M2 X o "get" apos e f cpos):PE X (.Call (.Attribute o "get" apos) [e,f] [] cpos) (tDGet2 td ty tx):=by
 intro pins s σ H Q I h
 refine wpAny_Call_method m.base m.few m.line PySem.F.plainAttrs_dict PySem.F.slot_dict_get PySem.F.type_dict_get (thn (ho pins s σ H _ I h) fun u s1 ⟨x,H1,I1,rx,a,ex,d,q1⟩=>?_)
 subst ex
 obtain rfl:u=Value.ref a:=rx
 obtain⟨t1,t2,_⟩:=isD_at I1 d
 refine⟨t1,t2,?_⟩
 rw[m.trees]
 refine Calls.callWith_builtin rfl (Calls.evalArgs_plain (Calls.spliced_cons (thn (he pins s1 σ H1 _ I1 q1) fun iv s2 ⟨y,H2,I2,ry,q2⟩ =>
  Calls.spliced_cons (thn (hf pins s2 σ H2 _ I2 q2) fun fv s3 ⟨z,H3,I3,rz,ov,g,q3⟩=>Calls.spliced_nil ?_))))
 exact d_get2 hu I3 g ry rz fun w' s4 I4 rw'=>⟨_,H3,I4,rw',q3⟩
end
end L2
namespace HT
open PySem PyProof.Rows
section
open PySem.SeqAt
open PySem.AutoSeq1 (wpAny_loadPart')
open PySem.MeetsSeq PySem.MeetsSeq2 PySem.MeetsSeq3
end
section
variable{prog:Program}{w:World}{A:Around}{E:Value->Shared->Prop}{s:Shared}
theorem cat_tup{t b:Addr}{vs ws:List Value}{Q:Value->Shared->Prop}(ht:IsTup s.heap t vs.toArray)(hb:IsTup s.heap b ws.toArray)(hv:vs≠[])
  (h1:ws=[]->Q (.ref t) s) (h2:ws≠[]->Q (.ref s.heap.objs.size) { s with heap:=s.heap.push { cls:=.type "tuple",data:=.seq (vs++ws).toArray } })
  (hsz:vs.length+ws.length<=sizeLine):wpAny (model prog w) A (binaryOp .Add (.ref t) (.ref b)) Q E s:=by
 obtain⟨⟨cls,dd,data,sl⟩,ho,hc,n,hd⟩:=id ht
 obtain⟨⟨cls2,dd2,data2,sl2⟩,ho2,hc2,n2,hd2⟩:=id hb
 simp only at hc hd hc2 hd2
 subst hc hd hc2 hd2
 have e:vs.toArray++ws.toArray=(vs++ws).toArray:=by simp
 by_cases hw:ws=[]
 ·exact concat_meets ⟨_,ho,rfl⟩ ⟨_,ho2,rfl⟩ noFill_tuple_add seq_tuple_add PySem.F.slot_tuple_add PySem.F.entry_tuple_add (PySem.F.args_tuple_add_2 _ _)
   (tuple_addW1 t b vs.toArray ws.toArray n n2 dd dd2 sl sl2 (by simpa using hv) (by simp[hw])) ⟨ho,ho2,h1 hw⟩
 ·refine concat_meets ⟨_,ho,rfl⟩ ⟨_,ho2,rfl⟩ noFill_tuple_add seq_tuple_add PySem.F.slot_tuple_add PySem.F.entry_tuple_add (PySem.F.args_tuple_add_2 _ _)
   (tuple_addW2 t b vs.toArray ws.toArray n n2 dd dd2 sl sl2 (by simpa using hv) (by simpa using hw) (by rw[List.size_toArray,List.size_toArray];exact hsz)) ⟨ho,ho2,?_⟩
  rw[e]
  exact h2 hw
noncomputable def sIx(n d:Nat):Option Int->Nat
 |none=>d
 |some v=>if v<0 then(v+(n:Int)).toNat else min v.toNat n
theorem sIx_none(n d:Nat):sIx n d none=d:=rfl
theorem sIx_nat(n d k:Nat):sIx n d (some (k:Int))=min k n:=by
 show(if(k:Int)<0 then((k:Int)+(n:Int)).toNat else min (k:Int).toNat n)=min k n
 rw[if_neg (by lia),Int.toNat_natCast]
end
end HT
namespace L2
open PySem PySem.Spec PyProof.Rows
noncomputable abbrev TO:=St->Hp->(Option Int->Hp->Prop)->Prop
noncomputable def PO(X:Cx)(e:Option Expr)(t:TO):Prop :=
 ∀ (pins:List (Addr×Obj)) (s:Shared) (σ:St) (H:Hp) (Q:Option Int->Hp->Prop),Inv X pins σ H s->t σ H Q ->
  wpAny (model X.prog X.w) X.A (evalPart e X.env) (fun u s'=>∃ o H',Inv X pins σ H' s'/\IsPart u o/\Q o H') X.xe s
noncomputable def tNoPart:TO:=fun _ H Q=>Q none H
noncomputable def tPart(t:TE):TO:=fun σ H Q=>t σ H fun x H1=>∃ i,x = .int i/\Q (some i) H1
theorem intsAre_of{ns:List Int}:∀ {us:List Value},Vals (ns.map V.int) us->IntsAre us ns:=by
 induction ns with
 |nil=>intro us r;rw[List.map_nil]at r;cases r;exact .nil
 |cons n ns ih =>
  intro us r
  rw[List.map_cons]at r
  cases r with
  |cons r1 r2 =>
   obtain⟨t,e⟩:=r1
   subst e
   exact .cons n t (ih r2)
section
variable{X:Cx}{e:Expr}{te:TE}{lo hi:Option Expr}{tl th:TO}{pos p2:Pos}
theorem po_none:PO X none tNoPart:=by
 intro pins s σ H Q I h
 rw[evalPart_none]
 exact wpAny_pure ⟨none,H,I,.none,h⟩
theorem po_some(h:PE X e te):PO X (some e) (tPart te):=by
 intro pins s σ H Q I hw
 rw[evalPart_some]
 refine thn (h pins s σ H _ I hw) fun u s1 ⟨x,H1,I1,r1,q1⟩=>?_
 obtain⟨i,rfl,q⟩:=q1
 obtain⟨t,rfl⟩:=r1
 exact⟨some i,H1,I1,.int i t,q⟩
noncomputable def SlR(X:Cx)(r:V->Option Int->Option Int->Hp->VK->Prop):Prop :=
 ∀ (pins:List (Addr×Obj)) (s:Shared) (σ:St) (H:Hp) (x:V) (v vl vu:Value) (lo hi:Option Int) (sl:Addr) (Q:VK),Inv X pins σ H s->RelV x v->s.heap.IsSliceOf sl vl vu .none->IsPart vl lo->IsPart vu hi->r x lo hi H Q ->
  ∃ T id,typeLookup (.type T) "__getitem__" = pure (some (.builtin id))/\s.TypeIs v T/\wpAny (model X.prog X.w) X.A (getItem v (.ref sl)) (EP X pins σ Q) X.xe s
noncomputable def tSl(r:V->Option Int->Option Int->Hp->VK->Prop)(te:TE)(tl th:TO):TE:=fun σ H Q=>te σ H fun x H1=>tl σ H1 fun l H2=>th σ H2 fun u H3=>r x l u H3 Q
theorem pe_slice{r:V->Option Int->Option Int->Hp->VK->Prop}(hr:SlR X r)(he:PE X e te)(hl:PO X lo tl)(hu:PO X hi th):PE X (.Subscript e (.Slice lo hi none p2) pos) (tSl r te tl th):=by
 intro pins s σ H Q I h
 refine Subscript_ (thn (he pins s σ H _ I h) fun v s1 ⟨x,H1,I1,r1,q1⟩=>?_)
 refine wpAny_Slice (thn (hl pins s1 σ H1 _ I1 q1) fun vl s2 ⟨l,H2,I2,pl,q2⟩=>thn (hu pins s2 σ H2 _ I2 q2) fun vu s3 ⟨u,H3,I3,pu,q3⟩=>?_)
 rw[evalPart_none]
 refine wpAny_pure ?_
 have I4:Inv X pins σ H3 { s3 with heap:=s3.heap.push { cls:=.type "slice",data:=.fields #[vl,vu,.none] } }:=I3.kept (t':=s3.toks) fun b ob q=>Heap.get?_push_of_some _ q
 obtain⟨T,id,hT,ht,hg⟩:=hr pins { s3 with heap:=s3.heap.push { cls:=.type "slice",data:=.fields #[vl,vu,.none] } } σ H3 x v vl vu l u s3.heap.objs.size Q I4 r1 (Heap.IsSliceOf.new ..) pl pu q3
 show wpAny (model X.prog X.w) X.A (subscriptTail e (.Slice lo hi none p2) v (.ref s3.heap.objs.size)) (EP X pins σ Q) X.xe { s3 with heap:=s3.heap.push { cls:=.type "slice",data:=.fields #[vl,vu,.none] } }
 exact tail_any (ops:=[.ref s3.heap.objs.size,v]) ht hT hg (by with_unfolding_all rfl)
noncomputable def cutV(xs:List V)(lo hi:Option Int):List V:=(xs.drop (HT.sIx xs.length 0 lo)).take (HT.sIx xs.length xs.length hi-HT.sIx xs.length 0 lo)
theorem cutV_length(xs:List V)(lo hi:Option Int):(cutV xs lo hi).length<=xs.length:=by
 unfold cutV
 rw[List.length_take,List.length_drop]
 omega
noncomputable def rCatT(K:PySem.W.Frag):R2:=fun x y H Q=>∃ a b xs ys,x = .ref a/\y = .ref b/\SqT K H a xs/\SqT K H b ys/\xs≠[]/\xs.length+ys.length<=sizeLine /\
 (ys=[]->Q (.ref a) H)/\(ys≠[]->∀ p,H p=none->Q (.ref p) (upd H p (.tup (xs++ys))))
theorem Vals.nil_iff{xs:List V}{us:List Value}(r:Vals xs us):us=[]↔xs=[]:=by
 cases r with
 |nil=>simp
 |cons _ _=>simp
theorem op_catT:OpR X (binaryOp .Add) (rCatT X.K):=by
 intro pins s σ H x y v u Q I rx ry h
 obtain⟨a,b,xs,ys,rfl,rfl,ha,hb,hx,hz,q1,q2⟩:=h
 cases rx
 cases ry
 obtain⟨its,r1,p1,_⟩:=I.tuple ha
 obtain⟨its2,r2,p2,_⟩:=I.tuple hb
 refine HT.cat_tup p1 p2 (fun z=>hx (r1.nil_iff.mp z)) (fun z=>⟨.ref a,H,I,rfl,q1 (r2.nil_iff.mp z)⟩) (fun z=>?_) (by rw[<- r1.length,<- r2.length];exact hz)
 refine⟨.ref s.heap.objs.size,_,I.laid (t':=s.toks) (o:=.tup (xs++ys)) (fun b ob q=>Heap.get?_push_of_some _ q) (Nat.le_refl _) ?_,rfl,q2 (fun w=>z (r2.nil_iff.mpr w)) _ (I.hok.fresh (Nat.le_refl _))⟩
 exact⟨by rw[List.length_append];exact hz,_,r1.append r2,IsTup.new _ _⟩
end
open PySem PySem.Spec PyProof.Rows
noncomputable def ixN(n:Nat)(i:Int):Option Nat:=if 0<=i then(if i<n then some i.toNat else none)else if -(n:Int)<=i then some (i+n).toNat else none
noncomputable def atI{α:Type}(xs:List α)(i:Int):Option α:=(ixN xs.length i).bind fun j=>xs[j]?
theorem ixN_seq{n:Nat}{i:Int}{j:Nat}(h:ixN n i=some j):seqIndex? i n=some j/\j<n/\-(n:Int)<=i/\i<n:=by
 unfold ixN at h
 by_cases h0:0<=i
 ·rw[if_pos h0]at h
  by_cases h1:i<n
  ·rw[if_pos h1]at h
   have e:i.toNat=j:=Option.some.inj h
   exact⟨by rw[seqIndex_of h0 h1,e],by omega,by lia,h1⟩
  ·rw[if_neg h1]at h;cases h
 ·rw[if_neg h0]at h
  by_cases h1:-(n:Int)<=i
  ·rw[if_pos h1]at h
   have e:(i+n).toNat=j:=Option.some.inj h
   exact⟨by rw[seqIndex_neg (by lia) h1,e],by lia,h1,by lia⟩
  ·rw[if_neg h1]at h;cases h
theorem atI_get{α:Type}{xs:List α}{i:Int}{v:α}(h:atI xs i=some v):∃ j,seqIndex? i xs.length=some j/\xs[j]?=some v/\j<xs.length/\-(xs.length:Int)<=i/\i<xs.length:=by
 unfold atI at h
 cases e:ixN xs.length i with
 |none=>rw[e]at h;cases h
 |some j =>
  rw[e]at h
  obtain⟨h1,h2,h3,h4⟩:=ixN_seq e
  exact⟨j,h1,h,h2,h3,h4⟩
theorem atI_nat{α:Type}{xs:List α}{j:Nat}{v:α}(h:xs[j]?=some v):atI xs (j:Int)=some v:=by
 have hj:j<xs.length:=(List.getElem?_eq_some_iff.mp h).1
 have e:ixN xs.length (j:Int)=some j:=by
  unfold ixN
  rw[if_pos (by lia),if_pos (by lia)];simp
 unfold atI;rw[e];exact h
noncomputable def PlainIx(b:Expr):Prop:=∀ o i,subscripted b false o i=operate [o,i] (getItem o i)
noncomputable def IxR(X:Cx)(r:R2):Prop :=
 ∀ (value slice:Expr) (pins:List (Addr×Obj)) (s:Shared) (σ:St) (H:Hp) (x y:V) (v u:Value) (Q:VK),Inv X pins σ H s->RelV x v->RelV y u->r x y H Q ->
  subscripted slice false v u=operate [v,u] (getItem v u)->wpAny (model X.prog X.w) X.A (subscriptTail value slice v u) (EP X pins σ Q) X.xe s
noncomputable def MtR(X:Cx)(id:String)(r:V->List V->Hp->VK->Prop):Prop :=
 ∀ (pins:List (Addr×Obj)) (s:Shared) (σ:St) (H:Hp) (x:V) (xs:List V) (v:Value) (us:List Value) (Q:VK),Inv X pins σ H s->RelV x v->Vals xs us->r x xs H Q ->
  wpAny (model X.prog X.w) X.A (call (.builtin id) (v :: us)) (EP X pins σ Q) X.xe s
section
variable{X:Cx}{a b:Expr}{ta tb:TE}{pos:Pos}
theorem pe_ix{r:R2}(hr:IxR X r)(ha:PE X a ta)(hb:PE X b tb)(hs:PlainIx b):PE X (.Subscript a b pos) (tOp r ta tb):=by
 intro pins s σ H Q I h
 exact Subscript_ (binT ha hb I h fun v u s2 x y H2 I2 rx ry q=>hr a b pins s2 σ H2 x y v u Q I2 rx ry q (hs _ _))
noncomputable def rIxL(K:PySem.W.Frag):R2:=fun x y H Q=>∃ p xs i v,x = .ref p/\y = .int i/\SqL K H p xs/\atI xs i=some v/\Q v H
noncomputable def rIxT(K:PySem.W.Frag):R2:=fun x y H Q=>∃ p xs i v,x = .ref p/\y = .int i/\SqT K H p xs/\atI xs i=some v/\Q v H
theorem ix_list:IxR X (rIxL X.K):=by
 intro value slice pins s σ H x y v u Q I rx ry h hs
 obtain⟨p,xs,i,z,rfl,rfl,hq,he,q⟩:=h
 cases rx
 obtain⟨t,rfl⟩:=ry
 obtain⟨its,r,pl,hz⟩:=I.list hq
 obtain⟨j,h1,h2,h3,h4,h5⟩:=atI_get he
 obtain⟨w,ew,rw'⟩:=r.get h2
 have hl:=r.length
 have hn:=line63
 have fin:EP X pins σ Q w s:=⟨z,H,I,rw',q⟩
 by_cases h0:0<=i
 ·have hj:i.toNat=j:=by
   rw[seqIndex_of h0 h5]at h1
   exact Option.some.inj h1
  exact item_listR pl.isList h0 (by lia) (by rw[hj];simpa using ew) fin hs
 ·have hj:(i+(its.toArray.size:Int)).toNat=j:=by
   rw[seqIndex_neg (by lia) h4]at h1
   rw[List.size_toArray,<- hl]
   exact Option.some.inj h1
  exact subscriptTail_builtinR (x:=w) pl.isList.typeIs slot_list_getitem.lookup
   (wpAny_getItem_list_neg (Q:=fun r s'=>r=w/\EP X pins σ Q r s') pl.isList (by lia) (by rw[List.size_toArray] <;> lia) (by lia) (by rw[hj];simpa using ew) ⟨rfl,fin⟩) hs
theorem ix_tup:IxR X (rIxT X.K):=by
 intro value slice pins s σ H x y v u Q I rx ry h hs
 obtain⟨p,xs,i,z,rfl,rfl,hq,he,q⟩:=h
 cases rx
 obtain⟨t,rfl⟩:=ry
 obtain⟨its,r,pl,hz⟩:=I.tuple hq
 obtain⟨j,h1,h2,h3,h4,h5⟩:=atI_get he
 obtain⟨w,ew,rw'⟩:=r.get h2
 have hl:=r.length
 have hn:=line63
 have fin:EP X pins σ Q w s:=⟨z,H,I,rw',q⟩
 exact subscriptTail_builtinR (x:=w) pl.typeIs slot_tuple_getitem.lookup
  (getItem_tuple (j:=j) (Q:=fun r s'=>r=w/\EP X pins σ Q r s') pl (by lia) (by lia) (by rw[List.size_toArray,<- hl];exact h1) (by simpa using ew) ⟨rfl,fin⟩) hs
theorem mapSeq_set(its:List Value)(n j:Nat)(u:Value):Obj.mapSeq (·.setIfInBounds j u) { cls:=.type "list",data:=.seq its.toArray n } = { cls:=.type "list",data:=.seq (its.set j u).toArray n }:=by
 simp[Obj.mapSeq]
theorem Inv.lst{pins:List (Addr×Obj)}{σ:St}{H:Hp}{s:Shared}{p:Addr}{xs:List V}(I:Inv X pins σ H s)(h:H p=some (.lst xs)) :
  ∃ (its:List Value) (n:Nat),Vals xs its/\s.heap.get? p=some { cls:=.type "list",data:=.seq its.toArray n }/\xs.length<=sizeLine:=by
 obtain⟨z,its,n,r,e⟩:=I.hok p _ h
 exact⟨its,n,r,e,z⟩
theorem Inv.lstUpd{pins:List (Addr×Obj)}{σ:St}{H:Hp}{s:Shared}{p:Addr}{xs ys:List V}{its its':List Value}{n n':Nat}{f:Obj->Obj}(I:Inv X pins σ H s)(h:H p=some (.lst xs))
  (ho:s.heap.get? p=some { cls:=.type "list",data:=.seq its.toArray n }) (hf:f { cls:=.type "list",data:=.seq its.toArray n } = { cls:=.type "list",data:=.seq its'.toArray n' }) (r:Vals ys its') (hz:ys.length<=sizeLine) (t:Nat) :
  Inv X pins σ (upd H p (.lst ys)) { s with heap:=s.heap.update p f,toks:=t }:=by
 have e:(s.heap.update p f).get? p=some { cls:=.type "list",data:=.seq its'.toArray n' }:=by
  rw[Heap.get?_update_self f ho (by rw[hf] <;> rfl),hf]
 refine I.write (x:=p) (e:=p) (by rw[h];trivial) (.inl rfl) (fun b u hb q=>(Heap.get?_update_other _ _ (Ne.symm hb)).trans q) ⟨_,e⟩ ?_
 exact⟨hz,its',n',r,e⟩
noncomputable def rSetL:V->V->V->Hp->(Hp->Prop)->Prop:=fun o i v H Q=>∃ p xs k j,o = .ref p/\i = .int k/\H p=some (.lst xs)/\ixN xs.length k=some j/\Q (upd H p (.lst (xs.set j v)))
theorem set_list:PSet X rSetL:=by
 intro pins s σ H o i v ov iv u Q I ro ri rv h
 obtain⟨p,xs,k,j,rfl,rfl,hp,hj,q⟩:=h
 cases ro
 obtain⟨t,rfl⟩:=ri
 obtain⟨its,n,r,ho,hz⟩:=I.lst hp
 obtain⟨h1,h2,h3,h4⟩:=ixN_seq hj
 have hl:=r.length
 have hn:=line63
 have I':Inv X pins σ (upd H p (.lst (xs.set j v))) { s with heap:=s.heap.update p (Obj.mapSeq (·.setIfInBounds j u)) } :=
  I.lstUpd hp ho (mapSeq_set its n j u) (r.set rv j) (by rw[List.length_set];exact hz) s.toks
 by_cases h0:0<=k
 ·have hk:k.toNat=j:=by
   rw[seqIndex_of h0 h4]at h1
   exact Option.some.inj h1
  exact PySem.W.ki_setAt ho h0 (by lia) (by rw[List.size_toArray,<- hl];exact h4) (by rw[hk];exact⟨_,I',q⟩)
 ·have hk:(k+(its.toArray.size:Int)).toNat=j:=by
   rw[seqIndex_neg (by lia) h3]at h1
   rw[List.size_toArray,<- hl]
   exact Option.some.inj h1
  exact PySem.W.ki_setBack ho (by lia) (by rw[List.size_toArray,<- hl];exact h3) (by lia) (by rw[hk];exact⟨_,I',q⟩)
theorem slice_bounds(lo hi:Option Int)(n:Nat):(sliceBounds lo hi none n).1=((HT.sIx n 0 lo:Nat):Int)/\(sliceBounds lo hi none n).2.1=((HT.sIx n n hi:Nat):Int)/\(sliceBounds lo hi none n).2.2=1:=by
 refine⟨?_,?_,rfl⟩
 ·cases lo with
  |none=>simp[sliceBounds,HT.sIx]
  |some i =>
   simp only[sliceBounds,HT.sIx,Option.getD_none,show(1:Int) > 0 by decide,if_true]
   by_cases h:i<0
   ·simp only[h,if_true] <;> lia
   ·simp only[h,if_false] <;> lia
 ·cases hi with
  |none=>simp[sliceBounds,HT.sIx]
  |some i =>
   simp only[sliceBounds,HT.sIx,Option.getD_none,show(1:Int) > 0 by decide,if_true]
   by_cases h:i<0
   ·simp only[h,if_true] <;> lia
   ·simp only[h,if_false] <;> lia
theorem slicePick_cut(its:List Value)(lo hi:Option Int):slicePick its.toArray lo hi none=((its.drop (HT.sIx its.length 0 lo)).take (HT.sIx its.length its.length hi-HT.sIx its.length 0 lo)).toArray:=by
 obtain⟨h1,h2,h3⟩:=slice_bounds lo hi its.toArray.size
 unfold slicePick
 rw[h1,h2,h3]
 simp only[sliceRange_one,pick_run,List.size_toArray] <;> rfl
noncomputable def rSlL(K:PySem.W.Frag):V->Option Int->Option Int->Hp->VK->Prop:=fun x lo hi H Q=>∃ a xs,x = .ref a/\SqL K H a xs/\∀ p,H p=none->Q (.ref p) (upd H p (.lst (cutV xs lo hi)))
theorem sl_list:SlR X (rSlL X.K):=by
 intro pins s σ H x v vl vu lo hi sl Q I rx hs pl pu h
 obtain⟨a,xs,rfl,hx,q⟩:=h
 cases rx
 obtain⟨its,r,ht,hz⟩:=I.list hx
 have hlen:=r.length
 refine⟨"list",_,slot_list_getitem.lookup,ht.isList.typeIs,?_⟩
 refine wpAny_getItem_list_slice ht.isList hs pl pu .none (by simp) ?_ (by rw[List.size_toArray] <;> lia)
 rw[slicePick_cut,<- hlen]
 refine⟨.ref s.heap.objs.size,_,I.laid (t':=s.toks) (o:=.lst (cutV xs lo hi)) (fun b ob q=>Heap.get?_push_of_some _ q) (Nat.le_refl _) ?_,rfl,q _ (I.hok.fresh (Nat.le_refl _))⟩
 exact⟨Nat.le_trans (cutV_length xs lo hi) hz,_,0,(r.drop (HT.sIx xs.length 0 lo)).take (HT.sIx xs.length xs.length hi-HT.sIx xs.length 0 lo),Heap.get?_push_size _ rfl⟩
noncomputable def flatV:V->Bool
 | .non=>true
 | .bl _=>true
 | .int _=>true
 | .str _=>true
 | _=>false
noncomputable def eqV:V->V->Bool
 | .non,.non=>true
 | .bl a,.bl b=>a == b
 | .bl a,.int b=>(if a then 1 else 0) == b
 | .int a,.bl b=>a ==(if b then 1 else 0)
 | .int a,.int b=>a == b
 | .str a,.str b=>a == b
 | _,_=>false
theorem eqAt_V{A:Around}{s:Shared}{y x:V}{u v:Value}(ry:RelV y u)(rx:RelV x v)(fy:flatV y=true)(fx:flatV x=true):SeqAt.EqAt A s u v (eqV y x):=by
 cases y with
 |non =>
  cases ry
  cases x with
  |non=>cases rx;exact SeqAt.EqAt.same _
  |bl b=>cases rx;exact SeqAt.EqAt.none_bool b
  |int b=>obtain⟨t,rfl⟩:=rx;exact SeqAt.EqAt.none_int b t
  |str b=>obtain⟨t,rfl⟩:=rx;exact SeqAt.EqAt.none_str b t
  | _=>exact absurd (show false=true from fx) Bool.false_ne_true
 |bl a =>
  cases ry
  cases x with
  |non=>cases rx;exact SeqAt.EqAt.bool_none a
  |bl b=>cases rx;exact SeqAt.EqAt.bool_bool a b
  |int b=>obtain⟨t,rfl⟩:=rx;exact SeqAt.EqAt.bool_int a b t
  |str b=>obtain⟨t,rfl⟩:=rx;exact SeqAt.EqAt.bool_str a b t
  | _=>exact absurd (show false=true from fx) Bool.false_ne_true
 |int a =>
  obtain⟨t',rfl⟩:=ry
  cases x with
  |non=>cases rx;exact SeqAt.EqAt.int_none a t'
  |bl b=>cases rx;exact SeqAt.EqAt.int_bool a t' b
  |int b=>obtain⟨t,rfl⟩:=rx;exact SeqAt.EqAt.int_int a t' b t
  |str b=>obtain⟨t,rfl⟩:=rx;exact SeqAt.EqAt.int_str a t' b t
  | _=>exact absurd (show false=true from fx) Bool.false_ne_true
 |str a =>
  obtain⟨t',rfl⟩:=ry
  cases x with
  |non=>cases rx;exact SeqAt.EqAt.str_none a t'
  |bl b=>cases rx;exact SeqAt.EqAt.str_bool a t' b
  |int b=>obtain⟨t,rfl⟩:=rx;exact SeqAt.EqAt.str_int a t' b t
  |str b=>obtain⟨t,rfl⟩:=rx;exact SeqAt.EqAt.str_str a t' b t
  | _=>exact absurd (show false=true from fx) Bool.false_ne_true
 | _=>exact absurd (show false=true from fy) Bool.false_ne_true
noncomputable def eqU(x:V)(u:Value):Bool:=match u with
 | .none=>eqV .non x
 | .bool b=>eqV (.bl b) x
 | .int i _=>eqV (.int i) x
 | .str z _=>eqV (.str z) x
 | _=>false
theorem eqU_of{x y:V}{u:Value}(r:RelV y u)(f:flatV y=true):eqU x u=eqV y x:=by
 cases y with
 |non=>cases r;rfl
 |bl b=>cases r;rfl
 |int i=>obtain⟨t,rfl⟩:=r;rfl
 |str z=>obtain⟨t,rfl⟩:=r;rfl
 | _=>exact absurd (show false=true from f) Bool.false_ne_true
theorem any_eqU{x:V}:∀ {xs:List V}{us:List Value},Vals xs us->xs.all flatV=true->us.any (eqU x)=xs.any fun y=>eqV y x
 | _,_,.nil,_=>rfl
 |y :: xs,u :: us,.cons r t,f=>by
  rw[List.all_cons,Bool.and_eq_true]at f
  rw[List.any_cons,List.any_cons,eqU_of r f.1,any_eqU t f.2]
theorem mem_eqAt{A:Around}{s:Shared}{x:V}{v:Value}(rx:RelV x v)(fx:flatV x=true):∀ {xs:List V}{us:List Value},Vals xs us->xs.all flatV=true->∀ u∈us,SeqAt.EqAt A s u v (eqU x u)
 | _,_,.nil,_=>fun u hu=>by cases hu
 |y :: xs,u :: us,.cons r t,f=>fun u' hu=>by
  rw[List.all_cons,Bool.and_eq_true]at f
  rcases List.mem_cons.mp hu with rfl | hu
  ·rw[eqU_of r f.1];exact eqAt_V r rx f.1 fx
  ·exact mem_eqAt rx fx t f.2 u' hu
noncomputable def inV(x:V)(xs:List V):Bool:=xs.any fun y=>eqV y x
noncomputable def rIn(K:PySem.W.Frag)(neg:Bool):R2:=fun x y H Q=>∃ p xs,y = .ref p/\(SqL K H p xs\/SqT K H p xs)/\flatV x=true/\xs.all flatV=true/\Q (.bl (if neg then !inV x xs else inV x xs)) H
theorem op_in_seq:OpR X (compareOp .In) (rIn X.K false):=by
 intro pins s σ H x y v u Q I rx ry h
 obtain⟨p,xs,rfl,hq,fx,fs,q⟩:=h
 cases ry
 rcases hq with hq | hq
 ·obtain⟨its,r,pl,hz⟩:=I.list hq
  refine SeqAt.in_listAt (eqU x) pl.isList (fun w hw=>mem_eqAt rx fx r fs w (by simpa using hw)) ⟨.bl _,H,I,rfl,?_⟩
  rw[show its.toArray.any (eqU x)=its.any (eqU x) by simp,any_eqU r fs]
  exact q
 ·obtain⟨its,r,pl,hz⟩:=I.tuple hq
  refine SeqAt.in_tupleAt (eqU x) pl (fun w hw=>mem_eqAt rx fx r fs w (by simpa using hw)) ⟨.bl _,H,I,rfl,?_⟩
  rw[show its.toArray.any (eqU x)=its.any (eqU x) by simp,any_eqU r fs]
  exact q
theorem op_notIn_seq:OpR X (compareOp .NotIn) (rIn X.K true):=by
 intro pins s σ H x y v u Q I rx ry h
 obtain⟨p,xs,rfl,hq,fx,fs,q⟩:=h
 cases ry
 rcases hq with hq | hq
 ·obtain⟨its,r,pl,hz⟩:=I.list hq
  refine SeqAt.notIn_listAt (eqU x) pl.isList (fun w hw=>mem_eqAt rx fx r fs w (by simpa using hw)) ⟨.bl _,H,I,rfl,?_⟩
  rw[show its.toArray.any (eqU x)=its.any (eqU x) by simp,any_eqU r fs]
  exact q
 ·obtain⟨its,r,pl,hz⟩:=I.tuple hq
  refine SeqAt.notIn_tupleAt (eqU x) pl (fun w hw=>mem_eqAt rx fx r fs w (by simpa using hw)) ⟨.bl _,H,I,rfl,?_⟩
  rw[show its.toArray.any (eqU x)=its.any (eqU x) by simp,any_eqU r fs]
  exact q
theorem call_len_seq:CallR X (.builtin "len") (fun xs H Q=>∃ p ys,xs=[.ref p]/\(SqL X.K H p ys\/SqT X.K H p ys)/\Q (.int ys.length) H):=by
 intro pins s σ H xs us Q I r h
 obtain⟨p,ys,rfl,hq,q⟩:=h
 obtain⟨u,rfl,rx⟩:=vals1 r
 cases rx
 have hn:=line63
 rcases hq with hq | hq
 ·obtain⟨its,r',pl,hz⟩:=I.list hq
  have hlen:=r'.length
  exact Calls.call_len_list pl.isList (by simp only[List.size_toArray] <;> lia) ⟨.int ys.length,H,I.tok _,⟨s.toks+1,by rw[List.size_toArray,hlen]⟩,q⟩
 ·obtain⟨its,r',pl,hz⟩:=I.tuple hq
  have hlen:=r'.length
  exact len_tuple pl (by simp only[List.size_toArray] <;> lia) ⟨.int ys.length,H,I.tok _,⟨s.toks+1,by rw[List.size_toArray,hlen]⟩,q⟩
theorem call_list_of:CallR X (.type "list") (fun xs H Q=>∃ p ys,xs=[.ref p]/\(SqL X.K H p ys\/SqT X.K H p ys)/\∀ l,H l=none->Q (.ref l) (upd H l (.lst ys))):=by
 intro pins s σ H xs us Q I r h
 obtain⟨p,ys,rfl,hq,q⟩:=h
 obtain⟨u,rfl,rx⟩:=vals1 r
 cases rx
 have fin:∀ (its:List Value),Vals ys its->ys.length<=sizeLine->∀ (h':Heap) (c':Nat),(∀ b o',s.heap.get? b=some o'->h'.get? b=some o') ->
   h'.get? s.heap.objs.size=some { cls:=.type "list",dict:=none,data:=.seq its.toArray c',slots:=#[] }->EP X pins σ Q (.ref s.heap.objs.size) { s with heap:=h' }:=fun its r' hz h' c' kp e =>
  ⟨.ref s.heap.objs.size,_,I.laid (t':=s.toks) kp (Nat.le_refl _) (show ObjOk X.prog X.w _ h' _ (.lst ys)from⟨hz,its,c',r',e⟩),rfl,q _ (I.hok.fresh (Nat.le_refl _))⟩
 rcases hq with hq | hq
 ·obtain⟨its,r',pl,hz⟩:=I.list hq
  have hlen:=r'.length
  obtain⟨o,ho,hc,n,hd⟩:=pl.isList
  exact call_list_seq p (.inl rfl) ho hc hd (fun h' c' kp e=>fin its r' hz h' c' kp e) (by simp only[List.size_toArray] <;> lia)
 ·obtain⟨its,r',pl,hz⟩:=I.tuple hq
  have hlen:=r'.length
  obtain⟨o,ho,hc,n,hd⟩:=pl
  exact call_list_seq p (.inr rfl) ho hc hd (fun h' c' kp e=>fin its r' hz h' c' kp e) (by simp only[List.size_toArray] <;> lia)
theorem call_tuple_of:CallR X (.type "tuple") (fun xs H Q=>∃ p ys,xs=[.ref p]/\((SqL X.K H p ys/\∀ l,H l=none->Q (.ref l) (upd H l (.tup ys)))\/(SqT X.K H p ys/\Q (.ref p) H))):=by
 intro pins s σ H xs us Q I r h
 obtain⟨p,ys,rfl,h⟩:=h
 obtain⟨u,rfl,rx⟩:=vals1 r
 cases rx
 rcases h with⟨hq,q⟩ |⟨hq,q⟩
 ·obtain⟨its,r',pl,hz⟩:=I.list hq
  have hlen:=r'.length
  refine call_tuple_list pl.isList (fun h' kp=>?_) (by simp only[List.size_toArray] <;> lia)
  have I1:Inv X pins σ H { s with heap:=h' }:=I.kept (t':=s.toks) kp
  have I2:Inv X pins σ (upd H h'.objs.size (.tup ys)) { s with heap:=h'.push { cls:=.type "tuple",data:=.seq its.toArray } } :=
   I1.laid (t':=s.toks) (fun b o e=>Heap.get?_push_of_some _ e) (Nat.le_refl _) (show ObjOk X.prog X.w _ _ _ (.tup ys)from⟨hz,its,r',IsTup.new _ _⟩)
  exact⟨.ref h'.objs.size,_,I2,rfl,q _ (I1.hok.fresh (Nat.le_refl _))⟩
 ·obtain⟨its,r',pl,hz⟩:=I.tuple hq
  exact call_tuple_same pl ⟨.ref p,H,I,rfl,q⟩
noncomputable def tyV(K:PySem.W.Frag)(T:String)(x:V)(H:Hp):Prop:=match x with
 | .str _=>T = "str"
 | .int _=>T = "int"
 | .ref p=>(T = "list"/\∃ xs,SqL K H p xs)\/(T = "tuple"/\∃ o,K.lookup p=some o/\o.cls = .type "tuple"/\o.dict=none) \/
   (T = "dict"/\((∃ kvs,H p=some (.dK kvs))\/∃ kvs,H p=some (.dT kvs)))\/(T = "set"/\∃ S n,H p=some (.set S n))
 | _=>False
theorem tyV_is{pins:List (Addr×Obj)}{σ:St}{H:Hp}{s:Shared}{T:String}{x:V}{v:Value}(I:Inv X pins σ H s)(r:RelV x v)(ty:tyV X.K T x H) :
  s.TypeIs v T/\∀ a,v = .ref a->∃ ob,s.heap.get? a=some ob/\ob.dict=none:=by
 cases x with
 |str z =>
  obtain⟨t,rfl⟩:=r
  cases(show T = "str" from ty)
  exact⟨typeIs_str s z t,fun _ e=>nomatch e⟩
 |int i =>
  obtain⟨t,rfl⟩:=r
  cases(show T = "int" from ty)
  exact⟨typeIs_int s i t,fun _ e=>nomatch e⟩
 |ref p =>
  cases r
  rcases ty with⟨rfl,xs,hq⟩ |⟨rfl,o,hk,hc,hd⟩ |⟨rfl,hk⟩ |⟨rfl,S,n,hk⟩
  ·obtain⟨its,_,pl,_⟩:=I.list hq
   refine⟨pl.isList.typeIs,fun a e=>?_⟩
   cases e
   obtain⟨o,n,e,c,hd,_⟩:=pl
   exact⟨o,e,hd⟩
  ·refine⟨⟨o,I.kIn p o hk,hc⟩,fun a e=>?_⟩
   cases e
   exact⟨o,I.kIn _ o hk,hd⟩
  ·have z:∃ o,s.heap.get? p=some o/\o.ExactDict:=by
    rcases hk with⟨kvs,hk⟩ |⟨kvs,hk⟩
    ·obtain⟨_,_,_,_,o,_,_,e,ex,_⟩:=I.hok p _ hk
     exact⟨o,e,ex⟩
    ·obtain⟨_,_,_,_,o,_,_,e,ex,_⟩:=I.hok p _ hk
     exact⟨o,e,ex⟩
   obtain⟨o,e,ex⟩:=z
   refine⟨⟨o,e,ex.1⟩,fun a e2=>?_⟩
   cases e2
   exact⟨o,e,ex.2.1⟩
  ·obtain⟨o,_,_,_,e,ex,_⟩:=I.hok p _ hk
   refine⟨⟨o,e,ex.1⟩,fun a e2=>?_⟩
   cases e2
   exact⟨o,e,ex.2.1⟩
 | _=>exact False.elim ty
noncomputable def tBM(K:PySem.W.Frag)(T:String)(r:V->List V->Hp->VK->Prop)(to:TE)(t:TA):TE:=fun σ H Q=>to σ H fun x H1=>tyV K T x H1/\t σ H1 fun xs H2=>r x xs H2 Q
variable{o e:Expr}{es:List Expr}{to:TE}{t:TA}{name:Str}{apos cpos:Pos}{T id:String}{r:V->List V->Hp->VK->Prop}
theorem pe_bm(pa:PlainAttrs T)(slot:Slot T name id)(hty:typeOf (.builtin id)=pure (.type "method_descriptor"))(hm:MtR X id r)(ho:PE X o to)(ha:PA X (e :: es) t)
  (hbase:attributeBase o name X.env (eval o X.env)=eval o X.env:=by rfl)
  (hfew:((backTo cpos (starEach (e :: es) X.env)).all (fun x=>!x.1) && (backToKw cpos (keywordEach [] X.env)).all (fun x=>x.1.isSome)
   && decide ((e :: es).length+([]:List Keyword).length+(if([]:List Keyword).isEmpty then 0 else 1)<30))=true:=by rfl)
  (hline:(apos.endLine == cpos.line)=true:=by rfl) (hs:starEach (e :: es) X.env=(false,eval e X.env) :: starEach es X.env:=by rfl) (hplain:(backTo cpos (starEach es X.env)).any (·.1)=false:=by rfl) :
  PE X (.Call (.Attribute o name apos) (e :: es) [] cpos) (tBM X.K T r to t):=by
 intro pins s σ H Q I h
 refine wpAny_Call_method_late hbase hfew hline rfl (thn (ho pins s σ H _ I h) fun v s1 ⟨x,H1,I1,r1,ty,q1⟩=>?_)
 obtain⟨h1,h2⟩:=tyV_is I1 r1 ty
 refine⟨T,id,pa,slot,hty,h1,h2,?_⟩
 have hA:=ha cpos pins s1 σ H1 _ I1 q1
 rw[hs]at hA ⊢
 refine Calls.callWith_builtin (by show(false ||(backTo cpos (starEach es X.env)).any (·.1))=false;rw[hplain] <;> rfl) (Calls.evalArgs_plain ?_)
 exact thn hA fun us s2 ⟨vs,H2,I2,r2,q2⟩=>hm pins s2 σ H2 x vs v us Q I2 r1 r2 q2
end
open PySem PySem.Spec PyProof.Rows
noncomputable def MtM(X:Cx)(id:String)(r:V->List V->Hp->VK->Prop):Prop :=
 ∀ (pins:List (Addr×Obj)) (s:Shared) (σ:St) (H:Hp) (x:V) (xs:List V) (v:Value) (us:List Value) (Q:VK),Inv X pins σ H s->RelV x v->Vals xs us->r x xs H Q ->
  wpAny (model X.prog X.w) X.A (call (.builtin id) (v :: us)) (EP X pins σ Q) X.xe s
theorem Vals.one{x:V}{us:List Value}(h:Vals [x] us):∃ u,us=[u]/\RelV x u:=by
 cases h with | cons r q=>cases q;exact⟨_,rfl,r⟩
theorem Vals.two{x y:V}{us:List Value}(h:Vals [x,y] us):∃ u v,us=[u,v]/\RelV x u/\RelV y v:=by
 cases h with | cons r q=>cases q with | cons q z=>cases z;exact⟨_,_,rfl,r,q⟩
theorem Vals.eraseIdx:∀ {xs:List V}{us:List Value} (i:Nat),Vals xs us->Vals (xs.eraseIdx i) (us.eraseIdx i)
 | _,_,_,.nil=>.nil
 | _,_,0,.cons _ t=>t
 | _,_,i+1,.cons r t=>.cons r (Vals.eraseIdx i t)
theorem Vals.rep{xs:List V}{us:List Value}(h:Vals xs us):∀ k:Nat,Vals (List.replicate k xs).flatten (List.replicate k us).flatten
 | 0=>.nil
 |k+1=>by
  rw[List.replicate_succ,List.replicate_succ,List.flatten_cons,List.flatten_cons]
  exact Vals.append h (Vals.rep h k)
theorem len_erase{α:Type}:∀ (l:List α) (i:Nat),(l.eraseIdx i).length<=l.length
 |[],_=>Nat.le_refl _
 | _ :: _,0=>Nat.le_succ _
 | _ :: r,i+1=>Nat.succ_le_succ (len_erase r i)
theorem foldl_rep(its:List Value):∀ (k:Nat) (acc:List Value),
  List.foldl (fun x1 x2=>x1++x2) acc.toArray (List.replicate k its.toArray)=(acc++(List.replicate k its).flatten).toArray
 | 0,acc=>by simp
 |k+1,acc=>by
  have e:acc.toArray++its.toArray=(acc++its).toArray:=by simp
  have e2:(acc++its)++(List.replicate k its).flatten=acc++(List.replicate (k+1) its).flatten:=by
   rw[List.replicate_succ,List.flatten_cons,List.append_assoc]
  rw[<- e2,<- foldl_rep its k (acc++its),<- e,List.replicate_succ,List.foldl_cons]
section
variable{X:Cx}{pins:List (Addr×Obj)}{σ:St}{H:Hp}{s:Shared}{l b:Addr}{xs ys zs:List V}
theorem Inv.lset{its its':List Value}{n:Nat}{f:Array Value->Array Value}{t':Nat}(I:Inv X pins σ H s)(hH:H l=some (.lst xs))
  (e:s.heap.get? l=some { cls:=.type "list",data:=.seq its.toArray n }) (hf:f its.toArray=its'.toArray) (hv:Vals ys its') (hz:ys.length<=sizeLine) :
  Inv X pins σ (upd H l (.lst ys)) { s with heap:=s.heap.update l (Obj.mapSeq f),toks:=t' }:=by
 have q:=PySem.IsL.update e f
 rw[hf]at q
 refine I.write (x:=l) (e:=l) (by rw[hH];exact trivial) (.inl rfl) (fun b' u hb hu=>(Heap.get?_update_other s.heap (Obj.mapSeq f) (Ne.symm hb)).trans hu) ⟨_,q⟩ ?_
 exact⟨hz,its',_,hv,q⟩
theorem Inv.lnew{its:List Value}{t':Nat}(I:Inv X pins σ H s)(hv:Vals ys its)(hz:ys.length<=sizeLine) :
  Inv X pins σ (upd H s.heap.objs.size (.lst ys)) { s with heap:=s.heap.push { cls:=.type "list",data:=.seq its.toArray },toks:=t' } :=
 I.laid (fun _ _ q=>Heap.get?_push_of_some _ q) (Nat.le_refl _) ⟨hz,its,0,hv,Heap.get?_push_size _ rfl⟩
theorem Inv.fresh(I:Inv X pins σ H s):H s.heap.objs.size=none:=I.hok.fresh (Nat.le_refl _)
theorem Inv.lstM(I:Inv X pins σ H s)(hH:H l=some (.lst xs)):xs.length<=sizeLine/\∃ (its:List Value) (n:Nat),Vals xs its/\xs.length=its.length/\s.heap.get? l=some { cls:=.type "list",data:=.seq its.toArray n }:=by
 obtain⟨z,its,n,r,e⟩:=I.hok l _ hH
 exact⟨z,its,n,r,r.length,e⟩
theorem notLongL{n:Nat}(h:n<=sizeLine):Builtin.List.listTooLong n=false:=by
 unfold Builtin.List.listTooLong
 exact decide_eq_false (by lia)
end
section
variable{X:Cx}
noncomputable def rAppend:V->List V->Hp->VK->Prop:=fun x vs H Q=>∃ l xs y,x = .ref l/\vs=[y]/\H l=some (.lst xs)/\xs.length<sizeLine/\Q .non (upd H l (.lst (xs++[y])))
theorem mt_append:MtM X "list.append" rAppend:=by
 intro pins s σ H x vs v us Q I rx rv h
 obtain⟨l,xs,y,rfl,rfl,hH,hz,q⟩:=h
 cases rx
 obtain⟨u,rfl,ru⟩:=rv.one
 obtain⟨z,its,n,r,hl,e⟩:=I.lstM hH
 refine call_meets F.slot_list_append ⟨_,e,rfl⟩ F.entry_list_append (F.args_list_append_2 _ _) (PySem.list_append l its.toArray n u (by rw[List.size_toArray];lia)) ⟨e,?_⟩
 refine⟨.non,_,I.lset (its':=its++[u]) hH e (by simp) (r.append (.cons ru .nil)) ?_,rfl,q⟩
 rw[List.length_append,List.length_singleton]
 lia
noncomputable def rExtend:V->List V->Hp->VK->Prop:=fun x vs H Q=>∃ l b xs zs,x = .ref l/\vs=[.ref b]/\H l=some (.lst xs)/\H b=some (.lst zs)/\xs.length+zs.length<=sizeLine/\Q .non (upd H l (.lst (xs++zs)))
theorem mt_extend:MtM X "list.extend" rExtend:=by
 intro pins s σ H x vs v us Q I rx rv h
 obtain⟨l,b,xs,zs,rfl,rfl,hH,hB,hz,q⟩:=h
 cases rx
 obtain⟨u,rfl,ru⟩:=rv.one
 cases ru
 obtain⟨z,its,n,r,hl,e⟩:=I.lstM hH
 obtain⟨z2,its2,n2,r2,hl2,e2⟩:=I.lstM hB
 have hsz:its.toArray.size+its2.toArray.size<=sizeLine:=by rw[List.size_toArray,List.size_toArray];lia
 have hlong:¬(!its.toArray.isEmpty && Builtin.List.listTooLong (its.toArray.size+its2.toArray.size))=true:=by
  rw[notLongL hsz,Bool.and_false]
  exact Bool.false_ne_true
 refine call_meets F.slot_list_extend ⟨_,e,rfl⟩ F.entry_list_extend (F.args_list_extend_2 _ _)
  (AutoSeq1.list_extend_list_list_0 l its.toArray n b its2.toArray n2 hlong (by rw[List.size_toArray];lia) (by lia)) ⟨e,e2,?_⟩
 refine⟨.non,_,I.lset (its':=its++its2) hH e (by simp) (r.append r2) ?_,rfl,q⟩
 rw[List.length_append]
 omega
noncomputable def rPopAt:V->List V->Hp->VK->Prop:=fun x vs H Q=>∃ l xs i k y,x = .ref l/\vs=[.int i]/\H l=some (.lst xs)/\-(2 ^ 63)<=i/\i<2 ^ 63/\seqIndex? i xs.length=some k/\xs[k]?=some y/\Q y (upd H l (.lst (xs.eraseIdx k)))
theorem mt_popAt:MtM X "list.pop" rPopAt:=by
 intro pins s σ H x vs v us Q I rx rv h
 obtain⟨l,xs,i,k,y,rfl,rfl,hH,h1,h2,hk,hy,q⟩:=h
 cases rx
 obtain⟨u,rfl,ru⟩:=rv.one
 obtain⟨t,rfl⟩:=ru
 obtain⟨z,its,n,r,hl,e⟩:=I.lstM hH
 obtain⟨w,hw,rw'⟩:=r.get hy
 refine call_meets F.slot_list_pop ⟨_,e,rfl⟩ F.entry_list_pop (F.args_list_pop_2 _ _)
  (MeetsSeq.list_pop_at l its.toArray n i t k w (fitsIndex_both h1 h2) (by rw[List.size_toArray,<- hl];exact hk) (by rw[<- Array.getElem?_toList];exact hw) (by rw[List.size_toArray];lia)) ⟨e,?_⟩
 refine⟨y,_,I.lset (its':=its.eraseIdx k) hH e ?_ (r.eraseIdx k) ?_,rw',q⟩
 ·show its.toArray.eraseIdxIfInBounds k=(its.eraseIdx k).toArray
  rw[List.eraseIdxIfInBounds_toArray]
 ·have:=len_erase xs k
  lia
noncomputable def rCat:R2:=fun x y H Q=>∃ l b xs zs,x = .ref l/\y = .ref b/\H l=some (.lst xs)/\H b=some (.lst zs)/\xs.length+zs.length<=sizeLine/\∀ p,H p=none->Q (.ref p) (upd H p (.lst (xs++zs)))
theorem op_cat:OpR X (binaryOp .Add) rCat:=by
 intro pins s σ H x y v u Q I rx ry h
 obtain⟨l,b,xs,zs,rfl,rfl,hH,hB,hz,q⟩:=h
 cases rx
 cases ry
 obtain⟨z,its,n,r,hl,e⟩:=I.lstM hH
 obtain⟨z2,its2,n2,r2,hl2,e2⟩:=I.lstM hB
 refine PySem.P.add_list e e2 ?_ (by rw[List.size_toArray,List.size_toArray];lia)
 have ea:its.toArray++its2.toArray=(its++its2).toArray:=by simp
 rw[ea]
 exact⟨.ref _,_,I.lnew (t':=s.toks) (r.append r2) (by rw[List.length_append];omega),rfl,q _ I.fresh⟩
noncomputable def rRep:R2:=fun x y H Q=>∃ l k xs,x = .ref l/\y = .int k/\H l=some (.lst xs)/\-(2 ^ 63)<=k/\k<2 ^ 63/\xs.length * k.toNat<=sizeLine /\
 ∀ p,H p=none->Q (.ref p) (upd H p (.lst (List.replicate k.toNat xs).flatten))
theorem len_rep{α:Type}(xs:List α)(k:Nat):(List.replicate k xs).flatten.length=k * xs.length:=by
 induction k with
 |zero=>simp
 |succ k ih=>rw[List.replicate_succ,List.flatten_cons,List.length_append,ih,Nat.succ_mul,Nat.add_comm]
theorem op_rep:OpR X (binaryOp .Mult) rRep:=by
 intro pins s σ H x y v u Q I rx ry h
 obtain⟨l,k,xs,rfl,rfl,hH,h1,h2,hz,q⟩:=h
 cases rx
 obtain⟨t,rfl⟩:=ry
 obtain⟨z,its,n,r,hl,e⟩:=I.lstM hH
 have hlen:its.toArray.size * k.toNat<=sizeLine:=by rw[List.size_toArray,<- hl];exact hz
 have hcap:¬ its.toArray.size * k.toNat > (2 ^ 63-1) / 8:=by
  have:(sizeLine:Nat)<=(2 ^ 63-1) / 8:=by decide
  lia
 have hfit:¬(!Builtin.List.listFitsIndex k)=true:=by
  rw[fitsIndex_both h1 h2]
  exact Bool.false_ne_true
 have hlong:¬ Builtin.List.listTooLong (its.toArray.size * k.toNat)=true:=by
  rw[notLongL hlen]
  exact Bool.false_ne_true
 have hnew:List.foldl (fun x1 x2=>x1++x2) #[] (List.replicate (if its.toArray.isEmpty=true then 0 else k.toNat) its.toArray)=(List.replicate k.toNat its).flatten.toArray:=by
  have f0:∀ m:Nat,List.foldl (fun x1 x2=>x1++x2) #[] (List.replicate m its.toArray)=(List.replicate m its).flatten.toArray:=fun m=>by
   have:=foldl_rep its m []
   rw[List.nil_append]at this
   exact this
  rw[f0]
  cases its with
  |nil=>simp
  |cons a r'=>rw[if_neg (by simp)]
 refine wpAny_binaryOp_repeat_ref (T:="list") (U:="int") (by decide) ⟨_,e,rfl⟩ (fun s'=>typeIs_int s' k t) noFill_list_mul F.fills_int_mul F.slot_int_rmul repeat_list F.slot_int_index.lookup
  (call_meets F.slot_int_rmul (typeIs_int s k t) F.entry_int_rmul (F.args_int_rmul_2 _ _) (int___rmul___int_list k t l its.toArray n)
   ⟨e,rfl,⟨_,e,rfl⟩,call_meets F.slot_list_mul ⟨_,e,rfl⟩ F.entry_list_mul (F.args_list_mul_2 _ _) (AutoListH.list___mul___list_int_3 l its.toArray n k t hfit hcap hlong) ⟨e,?_⟩⟩)
 rw[hnew]
 exact⟨.ref _,_,I.lnew (t':=s.toks) (r.rep k.toNat) (by rw[len_rep,Nat.mul_comm];exact hz),rfl,q _ I.fresh⟩
end
end L2
namespace Att
open PySem PySem.W PySem.Calls PyProof.Rows
theorem ints_of_wellAll{P:Params}{h:Heap}:∀ (ns:List Int) (vs:List Value),WellAll P h vs (ns.map WData.int)->IntsAre vs ns:=by
 intro ns
 induction ns with
 |nil =>
  intro vs w
  rw[List.map_nil]at w
  cases w
  exact .nil
 |cons n ns ih =>
  intro vs w
  rw[List.map_cons]at w
  cases w with
  |cons a b =>
   cases a
   exact .cons _ _ (ih _ b)
theorem script_of{l:OpenLaw}{n:Nat}(hn:l.most=some n){P:Params}{h:Heap}{args:List WData}{vals:List Value}
  (hpre:l.row.toRowW.claim.pre args=true) (hwl:WellAll P h vals args) :
  ∃ a vs ns,vals=[Value.ref a]/\args=[WData.list (ns.map WData.int)]/\h.get? a=some { cls:=.type "list",data:=.seq vs.toArray }/\IntsAre vs ns/\ns.length<=n:=by
 have hsh:WShape.hasAll [] args [.list .int]=true:=(pre_splitW hpre).1
 have hc:l.pre.holds [] { args:=args } = true:=(pre_splitW hpre).2
 obtain⟨d,r,rfl,h1,h2⟩:=hasAllW_cons hsh
 obtain rfl:=hasAllW_nil h2
 obtain⟨xs,rfl,h3⟩:=hasW_list h1
 obtain⟨ns,rfl⟩:=items_int h3
 have hlen:ns.length<=n:=by
  unfold OpenLaw.pre at hc
  have h4:(WTm.not (.lt (.lit (.int (n:Int))) (.len (.arg 0)))).holds [] { args:=[.list (ns.map .int)] } = true:=by
   have h4:=(holds_andW hc).1
   rw[hn]at h4
   exact h4
  have h5:=condW_of h4 (w_not (w_lt w_lit (w_len_list (w_arg rfl))))
  rw[List.length_map]at h5
  refine Nat.le_of_not_lt fun q=>?_
  have q':(n:Int) <((ns.length:Nat):Int):=by omega
  first
   |(rw[decide_eq_true q']at h5;exact absurd h5 (by decide))
   |(simp at h5;omega)
 cases hwl with
 |cons w1 w2 =>
  cases w2
  cases w1 with
  |list ho hall=>exact⟨_,_,ns,rfl,rfl,ho,ints_of_wellAll ns _ hall,hlen⟩
theorem post_true(l:OpenLaw)(args:List WData):l.row.toRowW.claim.post args (.bool true) args=true :=
 postW_of (r:=l.row.toRowW) (X:=(true == true))
  (show WShape.has [] (.bool true) .bool=true by first | rfl | decide | simp[WShape.has,WShape.arms,WShape.armsAll])
  (show(WTm.eq .res (.lit (.bool true))).value [] { args:=args,res:=some (.bool true),after:=args } = some (.bool (true == true))from w_eq_bool (w_res rfl) w_lit) rfl
theorem attach_call{l:OpenLaw}{n:Nat}{q:Program}{loose:List Str}{XP:(Str->Option Value)->Heap->Prop}{YP:World->Heap->Prop}{d:DefRec}
  (hn:l.most=some n) (hdf:d.params.defaults=[])
  (call:∀ (w:World) (s₀ s₁:Shared) (mg mb:Str->Option Value) (fa:Addr) (o:Obj) (pm cd doc:Value) (a:Addr) (vs:List Value) (ns:List Int),
   Ground q loose [] XP w s₀ mg mb s₁.heap->YP w s₁.heap ->
   s₁.heap.get? fa=some o->o.data = .func (docDef d.name d.params d.body d.scope pm cd doc)->s₁.heap.CodeRec cd d.name->mg d.name=some (.ref fa) ->
   s₁.heap.get? a=some { cls:=.type "list",data:=.seq vs.toArray }->IntsAre vs ns->ns.length<=n->s₁.gens = #[] ->
   codeAny (model l.prog w) callerA (.call (.ref fa) ⟨[.ref a],[]⟩) (fun r s'=>r = .ok (.ret (.bool true))/\OldK s₁.heap s'.heap/\s'.os=s₁.os/\AllBare s'.gens) s₁) :
  WalkO q loose XP YP l.row.toRowW d [] (fun f vs=>PySem.call f vs):=by
 intro w s₀ s₁ mg mb G Y fa o pm cd doc dV kV ho hd hcd hD hmg hg args vals as hpre hlay hrd hwl hlo
 obtain rfl:dV = .none:=Dflts.none hD hdf
 obtain rfl:kV = .none:=Dflts.noKw hD
 obtain⟨a,vs,ns,rfl,rfl,hobj,hints,hlen⟩:=script_of hn hpre hwl
 refine enter_call (codeAny_mono (call w s₀ s₁ mg mb fa o pm cd doc a vs ns G Y ho (fd_plain hd) hcd hmg hobj hints hlen hg) fun r s' hq=>?_)
 obtain⟨rfl,h2,h3,h4⟩:=hq
 exact⟨.inl ⟨.bool true,.bool true,[],rfl,fun _=>rfl,.bool true,post_true l _,fun _=>⟨List.Pairwise.nil,fun _ hm=>(nomatch hm)⟩⟩,h2,h3,h4⟩
end Att
namespace L2
open PySem PySem.Spec PyProof.Rows
theorem vals_ints:∀ {vs:List Value}{ns:List Int},IntsAre vs ns->Vals (ns.map V.int) vs
 | _,_,.nil=>.nil
 | _,_,.cons n t h=>.cons ⟨t,rfl⟩ (vals_ints h)
noncomputable def Only(H:Hp):Prop:=∀ b,H b=none\/∃ o xs,H b=some (.frz o (.lst xs))
theorem law_call{P:Program}{w:World}{K:PySem.W.Frag}{mg mb:Str->Option Value}{CX:CXT}{k:Nat}{fa a:Addr}{fd:FuncData}{x:Str}{sp:Sp}{s₁:Shared}{vs:List Value}{ns:List Int}
  (KX:K.In s₁.heap) (hns:s₁.heap.Ns mainGlobals mg) (hb:s₁.heap.Ns builtinsNs mb) (hbb:∀ x:Str,x≠"__name__"->mb x=bootBuiltins x) (hlim:s₁.heap.NoLimit) (hg:s₁.gens = #[])
  (ha:s₁.heap.get? a=some { cls:=.type "list",data:=.seq vs.toArray }) (hi:IntsAre vs ns) (hl:ns.length<=sizeLine) (hr:Room k callerA)
  (F:∀ base:Heap,K.In base->base.Ns mainGlobals mg->FnOk P w K mg base CX k fa fd [x] sp) (hbind:∀ (s:Shared) (u:Value),BindsTo s fd ⟨[u],[]⟩ [(x,u)])
  (hsp:∀ H:Hp,Only H->SqL K H a (ns.map V.int)->sp [.ref a] H (fun v _=>v = .bl true) fun _ _ _=>False)
  (hCX:∀ H e s',CX [] H s₁ (fun _ _ _=>False) e s'->False) :
  codeAny (model P w) callerA (.call (.ref fa) ⟨[.ref a],[]⟩) (fun r s'=>r = .ok (.ret (.bool true))/\OldK s₁.heap s'.heap/\s'.os=s₁.os/\AllBare s'.gens) s₁:=by
 have rv:=vals_ints hi
 have lenV:=hi.length
 -- from an abstract heap in which nothing but the script may be tracked
 have core:∀ H:Hp,Only H->SqL K H a (ns.map V.int)->HOk P w H s₁.heap->(∀ b,H b≠none->b=a)->(H a≠none->K.lookup a=none) ->
   codeAny (model P w) callerA (.call (.ref fa) ⟨[.ref a],[]⟩) (fun r s'=>r = .ok (.ret (.bool true))/\OldK s₁.heap s'.heap/\s'.os=s₁.os/\AllBare s'.gens) s₁:=by
  intro H hO hS hok hA hK
  have base_of:∀ {b:Addr}{o:Obj},s₁.heap.get? b=some o->H b=none->(hidT s₁.heap H).get? b=some o:=fun e n=>hidT_get e n
  have noA:∀ {b:Addr}{o:Obj}{es:Array DictEntry}{ep:Nat},s₁.heap.get? b=some o->o.data = .dict es ep->H b=none:=fun {b o es ep} e d=>by
   cases q:H b with
   |none=>rfl
   |some u =>
    have e':b=a:=hA b (by rw[q];simp)
    subst e'
    rw[ha]at e;cases e
    have d':Data.seq vs.toArray _=Data.dict es ep:=d
    cases d'
  have nsK:∀ {b:Addr}{m:Str->Option Value},s₁.heap.Ns b m->(hidT s₁.heap H).Ns b m:=fun {b m} ⟨o,es,ep,e,d,r⟩=>⟨o,es,ep,base_of e (noA e d),d,r⟩
  have hKb:K.In (hidT s₁.heap H):=fun b o e=>base_of (KX b o e) (by
   cases q:H b with
   |none=>rfl
   |some u =>
    have e':b=a:=hA b (by rw[q];simp)
    subst e'
    rw[hK (by rw[q];simp)]at e;cases e)
  have hM:Mod K mg (hidT s₁.heap H):=⟨hKb,nsK hns,⟨mb,nsK hb,hbb⟩,let ⟨mc,h1,h2⟩:=hlim;⟨mc,nsK h1,h2⟩⟩
  have e0:Env0 P w K mg (hidT s₁.heap H) callerA [] s₁ H:=⟨rfl,hM,fun b o e=>of_hidT e,Nat.le_of_eq (hidT_size _ _),trivial,fun b hb=>absurd (show b∈([]:List Addr)from hb) (by simp),hok,.of_eq hg⟩
  refine codeAny_mono ((F _ hKb (nsK hns)).run callerA [] s₁ H ⟨[.ref a],[]⟩ [.ref a] [.ref a] _ _ hr e0 (hbind s₁ (.ref a)) (.cons rfl .nil) (hsp H hO hS)) fun r s' h=>?_
  cases r with
  |error e=>exact(hCX H e s' h).elim
  |ok fl =>
   cases fl with
   |next=>exact False.elim h
   |brk=>exact False.elim h
   |cont=>exact False.elim h
   |ret u =>
    obtain⟨v,H',os,bare,un,hok',r',q⟩:=h
    have q':v = .bl true:=q
    subst q'
    obtain rfl:u=Value.bool true:=r'
    refine⟨rfl,OldK.of_keep fun b o e=>?_,os,bare⟩
    cases q:H b with
    |none=>exact un.keep b o e q (by intro z;exact absurd (show b∈([]:List Addr)from z) (by simp)) (by simp)
    |some u =>
     rcases hO b with z |⟨ob,xs,z⟩
     ·rw[q]at z;cases z
     ·have z2:=un.frzs b ob _ z
      obtain⟨e1,_⟩:=hok b _ z
      obtain⟨e2,_⟩:=hok' b _ z2
      rw[e]at e1;cases e1
      exact e2
 cases hk:K.lookup a with
 |some o =>
  -- the script is one of the module's own objects
  have e:=KX a o hk
  rw[ha]at e
  cases e
  refine core (fun _=>none) (fun _=>.inl rfl) (.inr ⟨_,vs.toArray,_,hk,rfl,rfl,rfl,by rw[List.size_toArray,lenV];exact hl,by simpa using rv⟩) (fun b u z=>by have z':(none:Option HO)=some u:=z;cases z') (fun b z=>absurd rfl z) fun z=>absurd rfl z
 |none =>
  refine core (fun b=>if b=a then some (.frz { cls:=.type "list",data:=.seq vs.toArray } (.lst (ns.map V.int)))else none) (fun b=>?_) (.inl (.inr ⟨{ cls:=.type "list",data:=.seq vs.toArray },if_pos rfl⟩)) (fun b u z=>?_) (fun b z=>?_) fun _=>hk
  ·by_cases hb:b=a
   ·exact .inr ⟨_,_,if_pos hb⟩
   ·exact .inl (if_neg hb)
  ·by_cases hb:b=a
   ·have z':=(if_pos hb).symm.trans z
    cases z'
    subst hb
    exact⟨ha,by rw[List.length_map];exact hl,vs,_,rv,ha⟩
   ·have z':=(if_neg hb).symm.trans z
    cases z'
  ·by_cases hb:b=a
   ·exact hb
   ·exact absurd (if_neg hb) z
open PySem PySem.Spec PyProof.Rows
theorem walk_of{l:PySem.W.OpenLaw}{n k:Nat}{q:Program}{loose:List Str}{XP:(Str->Option Value)->Heap->Prop}{YP:World->Heap->Prop}{d:DefRec}{K:Params->PySem.W.Frag}{CX:World->CXT}{sp:World->Sp}{x:Str}
  (hn:l.most=some n) (hn2:n<=sizeLine) (hdf:d.params.defaults=[]) (hr:Room k callerA)
  (hY:∀ (w:World) (h:Heap),YP w h->(K w.params).In h)
  (F:∀ (w:World) (mg:Str->Option Value) (fa:Addr) (h:Heap),(K w.params).In h->h.Ns mainGlobals mg->mg d.name=some (.ref fa) ->
   ∃ fd:FuncData,(∀ (s:Shared) (u:Value),BindsTo s fd ⟨[u],[]⟩ [(x,u)]) /\
    ∀ base:Heap,(K w.params).In base->base.Ns mainGlobals mg->FnOk l.prog w (K w.params) mg base (CX w) k fa fd [x] (sp w))
  (hsp:∀ (w:World) (H:Hp) (a:Addr) (ns:List Int),ns.length<=n->Only H->SqL (K w.params) H a (ns.map V.int)->sp w [.ref a] H (fun v _=>v = .bl true) fun _ _ _=>False)
  (hCX:∀ (w:World) (H:Hp) (s:Shared) (e:Value) (s':Shared),CX w [] H s (fun _ _ _=>False) e s'->False) :
  PySem.W.WalkO q loose XP YP l.row.toRowW d [] (fun f vs=>PySem.call f vs):=by
 refine Att.attach_call hn hdf fun w s₀ s₁ mg mb fa o pm cd doc a vs ns G Y ho hd hcd hmg hobj hints hlen hg=>?_
 have KX:=hY w _ Y
 obtain⟨fd,hb,hF⟩:=F w mg fa _ KX G.T.g hmg
 exact law_call KX G.T.g G.T.b G.T.builtins G.T.nolimit hg hobj hints (Nat.le_trans hlen hn2) hr hF hb (fun H hO hS=>hsp w H a ns hlen hO hS) fun H e s'=>hCX w H s₁ e s'
open PySem PySem.Spec PyProof.Rows
noncomputable def defArgs(s:Stmt):Arguments:=match s with
 | .FunctionDef _ a _ _ _ _ _ _ _ _=>a
 | _=>{ posonlyargs:=[],args:=[],vararg:=none,kwonlyargs:=[],kw_defaults:=[],kwarg:=none,defaults:=[] }
noncomputable def defBody(s:Stmt):List Stmt:=match s with
 | .FunctionDef _ _ b _ _ _ _ _ _ _=>b
 | _=>[]
noncomputable def defScope(s:Stmt):Scope:=match s with
 | .FunctionDef _ _ _ _ _ _ sc _ _ _=>sc
 | _=>{ kind:=.function,names:=[],isGenerator:=false,isCoroutine:=false }
noncomputable abbrev CX0:CXT:=fun _ _ _ _ _ _=>False
noncomputable abbrev E0:XK:=fun _ _ _=>False
theorem pass0{X:Cx}:Passes CX0 X E0:=fun _ _ _ _ _ _ _ h=>h.elim
structure Fun(K:PySem.W.Frag)(x qual:Str)(st:Stmt)(f:Addr)(fd:FuncData):Prop where
 ex:∃ (oc:Value) (od:Option Addr) (kV doc pm:Value) (an:Option Addr) (cdv ct:Value) (osl:Array (Option Value)),
  fd=PySem.W.fnOf x qual (defArgs st) (defBody st) (defScope st) .none kV doc pm an cdv ct/\K.lookup f=some ⟨oc,od,.func fd,osl⟩/\PySem.W.codeIn K cdv qual=true
 kp:PySem.W.keepIn K (.ref f)=true
section
variable{P:Program}{w:World}{K:PySem.W.Frag}{mg:Str->Option Value}{base:Heap}
theorem Fun.ok{x qual:Str}{st:Stmt}{f:Addr}{fd:FuncData}{N ps:List Str}{k:Nat}{sp:Sp}(F:Fun K x qual st f fd)(S:FnScope N ps (defScope st))(len:∀ vs H Q E,sp vs H Q E->vs.length=ps.length)
  (hbody:∀ (cdv:Value) (A:Around) (outer:List Env) (s:Shared) (H:Hp) (vs:List V) (Q:VK) (E:XK),Room k (A.deeper (envOfC qual (defScope st) s.heap.objs.size f cdv))->sp vs H Q E ->
   ∃ t,PSs (cxOf CX0 P w K mg base N qual (defScope st) f cdv A outer s H E).nox (defBody st) t/\t { nx:=fun _ H'=>Q .non H',rt:=Q } (start N vs) H):FnOk P w K mg base CX0 (k+1) f fd ps sp:=by
 obtain⟨oc,od,kV,doc,pm,an,cdv,ct,osl,rfl,lk,hcd⟩:=F.ex
 refine fn_of lk hcd S len fun A outer s H vs Q E hr hsp=>?_
 obtain⟨t,h,q⟩:=hbody cdv A outer s H vs Q E hr hsp
 exact⟨t,h.nox,q⟩
theorem Fun.binds{x qual:Str}{st:Stmt}{f:Addr}{fd:FuncData}{ps:List Str}(F:Fun K x qual st f fd)
  (h:∀ (kV doc pm:Value) (an:Option Addr) (cdv ct:Value) (us:List Value),us.length=ps.length->bindArgs (PySem.W.fnOf x qual (defArgs st) (defBody st) (defScope st) .none kV doc pm an cdv ct) ⟨us,[]⟩=pure (ps.zip us)):Binds K fd ps []:=by
 obtain⟨oc,od,kV,doc,pm,an,cdv,ct,osl,rfl,lk,hcd⟩:=F.ex
 exact .all (h kV doc pm an cdv ct)
theorem fun_mk{x qual:Str}{st:Stmt}{f:Addr}{oc:Value}{od an:Option Addr}{osl:Array (Option Value)}{kV doc pm cdv ct:Value}(l:K.lookup f=some ⟨oc,od,.func (PySem.W.fnOf x qual (defArgs st) (defBody st) (defScope st) .none kV doc pm an cdv ct),osl⟩)
  (c:PySem.W.codeIn K cdv qual=true) (k:PySem.W.keepIn K (.ref f)=true):Fun K x qual st f (PySem.W.fnOf x qual (defArgs st) (defBody st) (defScope st) .none kV doc pm an cdv ct):=⟨⟨oc,od,kV,doc,pm,an,cdv,ct,osl,rfl,l,c⟩,k⟩
end
theorem hu_of{A:Around}{k:Nat}(hr:Room k A):A.units+1<cLine:=Nat.lt_of_le_of_lt (Nat.add_le_add_left (by decide:1<=64) _) hr.units
section
variable{X:Cx}
theorem pv(i:Nat){x:Str}{pos:Pos}(hN:X.N[i]?=some x:=by rfl)(hv:Vis X.env.scope x:=by first | exact Or.inl rfl | exact Or.inr (Or.inl rfl) | exact Or.inr (Or.inr rfl))(hd:(x ==("__debug__":Str))=false:=by decide)
  (hcd:(x ==("__classdict__":Str))=false:=by decide):PE X (.Name x pos) (tVar i):=pe_var hN hv hd hcd
end
theorem iteF{A B:Prop}(h:B):if false=true then A else B:=by
 rw[if_neg Bool.false_ne_true]
 exact h
theorem iteT{A B:Prop}(h:A):if true=true then A else B:=by
 rw[if_pos rfl]
 exact h
theorem ite2{c A B:Prop}[Decidable c](h1:c->A)(h2:¬ c->B):if c then A else B:=by
 by_cases h:c
 ·rw[if_pos h]
  exact h1 h
 ·rw[if_neg h]
  exact h2 h
theorem iteNS{c A B:Prop}[Decidable c](hc:c)(h:B):if(!decide c)=true then A else B:=by
 rw[decide_eq_true hc]
 exact iteF h
noncomputable def Same(H H':Hp):Prop:=∀ b o,H b=some o->H' b=some o
theorem Same.refl(H:Hp):Same H H:=fun _ _ h=>h
theorem Same.trans{H H1 H2:Hp}(a:Same H H1)(b:Same H1 H2):Same H H2:=fun c o h=>b c o (a c o h)
theorem Same.free{H H':Hp}(e:Same H H'){l:Addr}(h:H' l=Option.none):H l=Option.none:=by
 cases q:H l with
 |none=>rfl
 |some o =>
  rw[e l o q]at h
  cases h
theorem Same.seq{K:PySem.W.Frag}{H H':Hp}{a:Addr}{xs:List V}(e:Same H H')(h:SqL K H a xs):SqL K H' a xs:=by
 rcases h with(h |⟨o,h⟩) | h
 ·exact .inl (.inl (e _ _ h))
 ·exact .inl (.inr ⟨o,e _ _ h⟩)
 ·exact .inr h
open PySem PySem.Spec PyProof.Rows
section
variable{X:Cx}
theorem call_lenD:CallR X (.builtin "len") (fun xs H Q=>∃ a kvs,xs=[V.ref a]/\H a=some (.dK kvs)/\Q (.int kvs.length) H):=by
 intro pins s σ H xs us Q I r h
 obtain⟨a,kvs,rfl,ha,q⟩:=h
 obtain⟨u,rfl,ru⟩:=vals1 r
 cases ru
 exact d_len I (.inl ha) fun t s' I'=>⟨.int kvs.length,H,I',⟨t,rfl⟩,q⟩
end
end L2
set_option maxHeartbeats 4000000
namespace L2
open PySem PySem.Spec PyProof.Rows
noncomputable def closCl(cells:List (Str×Addr)):List (Str×NameKind)->List (Str×Addr)->List (Str×Addr)
 |[],acc=>acc
 |(n,k) :: r,acc=>closCl cells r (if k == .free then(n,(cells.lookup n).getD 0) :: acc else acc)
theorem closureFor_cells{scope:Scope}{env:Env}(h:∀ x∈scope.names,x.2 = .free->∃ c,env.cells.lookup x.1=some c) :
  closureFor scope env=pure (closCl env.cells scope.names []):=by
 have gen:∀ (l:List (Str×NameKind)) (acc:List (Str×Addr)),(∀ x∈l,x.2 = .free->∃ c,env.cells.lookup x.1=some c) ->
   (forIn l acc fun(x:Str×NameKind) (cs:List (Str×Addr))=>(do
    if x.2 == .free then
     let c <- cellOf env x.1
     pure (ForInStep.yield ((x.1,c) :: cs))
    else pure (ForInStep.yield cs):Sem (ForInStep (List (Str×Addr)))))=pure (closCl env.cells l acc):=by
  intro l
  induction l with
  |nil=>intro acc _;rfl
  |cons x r ih =>
   intro acc hx
   obtain⟨n,k⟩:=x
   rw[List.forIn_cons]
   have hr:=fun y hy=>hx y (List.mem_cons_of_mem _ hy)
   by_cases hk:k = .free
   ·subst hk
    obtain⟨c,hc⟩:=hx (n,.free) List.mem_cons_self rfl
    have e1:cellOf env n=pure c:=by unfold cellOf;rw[hc]
    simp only[e1,beq_self_eq_true,if_true,pure_bind]
    rw[ih _ hr]
    have hc':env.cells.lookup n=some c:=hc
    simp[closCl,hc']
   ·have hb:(k == NameKind.free)=false:=by simpa using hk
    simp only[hb,Bool.false_eq_true,if_false,pure_bind]
    rw[ih _ hr]
    simp[closCl,hb]
 have g:=gen scope.names [] h
 unfold closureFor
 simp only[bind_pure]
 exact g
theorem closCl_sound{cells:List (Str×Addr)}:∀ (l:List (Str×NameKind)) (acc:List (Str×Addr)),(∀ x∈l,x.2 = .free->∃ c,cells.lookup x.1=some c) ->
  (∀ y c,acc.lookup y=some c->cells.lookup y=some c)->∀ y c,(closCl cells l acc).lookup y=some c->cells.lookup y=some c
 |[],_,_,ha,y,c,e=>ha y c e
 |(n,k) :: r,acc,h,ha,y,c,e=>by
  refine closCl_sound r _ (fun x hx=>h x (List.mem_cons_of_mem _ hx)) ?_ y c e
  intro y c e
  by_cases hk:k = .free
  ·subst hk
   obtain⟨c',hc⟩:=h (n,.free) List.mem_cons_self rfl
   have hc:cells.lookup n=some c':=hc
   simp only[beq_self_eq_true,if_true,List.lookup_cons]at e
   by_cases hy:y == n
   ·have:y=n:=by simpa using hy
    subst this
    simp[hc]at e
    rw[hc,e]
   ·simp only[hy]at e
    exact ha y c e
  ·have hb:(k == NameKind.free)=false:=by simpa using hk
   rw[hb,if_neg (by simp)]at e
   exact ha y c e
theorem closCl_acc{cells:List (Str×Addr)}:∀ (l:List (Str×NameKind)) (acc:List (Str×Addr)) (y:Str),(∃ c,acc.lookup y=some c)->∃ c,(closCl cells l acc).lookup y=some c
 |[],_,_,h=>h
 |(n,k) :: r,acc,y,h=>by
  refine closCl_acc r _ y ?_
  by_cases hk:(k == NameKind.free)=true
  ·rw[if_pos hk,List.lookup_cons]
   by_cases hy:(y == n)=true
   ·rw[hy];exact⟨_,rfl⟩
   ·rw[Bool.eq_false_iff.mpr hy];exact h
  ·rw[if_neg hk];exact h
theorem closCl_has{cells:List (Str×Addr)}:∀ (l:List (Str×NameKind)) (acc:List (Str×Addr)) (y:Str),(y,NameKind.free)∈l->∃ c,(closCl cells l acc).lookup y=some c
 |[],_,_,h=>nomatch h
 |(n,k) :: r,acc,y,h=>by
  rcases List.mem_cons.mp h with e | h
  ·have e1:n=y:=(congrArg Prod.fst e).symm
   have e2:k=NameKind.free:=(congrArg Prod.snd e).symm
   subst e1 e2
   refine closCl_acc r _ n ?_
   rw[if_pos (by rfl),List.lookup_cons,beq_self_eq_true]
   exact⟨_,rfl⟩
  ·exact closCl_has r _ y h
theorem relabel_mem{scope:Scope}{env:Env}:∀ {l:List (Str×NameKind)}{x:Str}{k':NameKind},
  (l.map fun(n,k)=>if(k == NameKind.free && env.scope.kind == .function && env.kindOf n == some .cell)then(n,NameKind.cell)else(n,k)).lookup x=some k' ->
  ∃ k,(x,k)∈l/\(k=k'\/(k = .free/\k' = .cell))
 |[],_,_,h=>by simp at h
 |(n,k) :: r,x,k',h=>by
  rw[List.map_cons]at h
  dsimp only at h
  by_cases hc:(k == NameKind.free && env.scope.kind == .function && env.kindOf n == some .cell)=true
  ·simp only[hc,if_true,List.lookup_cons]at h
   by_cases hx:(x == n)=true
   ·rw[hx]at h
    have:x=n:=by simpa using hx
    subst this
    have hk:k = .free:=by
     rw[Bool.and_eq_true,Bool.and_eq_true]at hc
     simpa using hc.1.1
    exact⟨k,List.mem_cons_self,.inr ⟨hk,by cases h;rfl⟩⟩
   ·rw[Bool.eq_false_iff.mpr hx]at h
    obtain⟨k1,h1,h2⟩:=relabel_mem (scope:=scope) h
    exact⟨k1,List.mem_cons_of_mem _ h1,h2⟩
  ·rw[if_neg hc,List.lookup_cons]at h
   by_cases hx:(x == n)=true
   ·rw[hx]at h
    have:x=n:=by simpa using hx
    subst this
    exact⟨k,List.mem_cons_self,.inl (by cases h;rfl)⟩
   ·rw[Bool.eq_false_iff.mpr hx]at h
    obtain⟨k1,h1,h2⟩:=relabel_mem (scope:=scope) h
    exact⟨k1,List.mem_cons_of_mem _ h1,h2⟩
theorem relabel_free{env:Env}:∀ {l:List (Str×NameKind)}{x:Str},l.lookup x=some .free ->
  (l.map fun(n,k)=>if(k == NameKind.free && env.scope.kind == .function && env.kindOf n == some .cell)then(n,NameKind.cell)else(n,k)).lookup x=some .cell \/
  (l.map fun(n,k)=>if(k == NameKind.free && env.scope.kind == .function && env.kindOf n == some .cell)then(n,NameKind.cell)else(n,k)).lookup x=some .free
 |[],_,h=>by simp at h
 |(n,k) :: r,x,h=>by
  rw[List.map_cons]
  dsimp only
  rw[List.lookup_cons]at h
  by_cases hx:(x == n)=true
  ·rw[hx]at h
   have hk:k = .free:=by cases h;rfl
   by_cases hc:(k == NameKind.free && env.scope.kind == .function && env.kindOf n == some .cell)=true
   ·left;rw[if_pos hc,List.lookup_cons,hx]
   ·right;rw[if_neg hc,List.lookup_cons,hx,hk]
  ·rw[Bool.eq_false_iff.mpr hx]at h
   have ih:=relabel_free (env:=env) h
   by_cases hc:(k == NameKind.free && env.scope.kind == .function && env.kindOf n == some .cell)=true
   ·rw[if_pos hc,List.lookup_cons,Bool.eq_false_iff.mpr hx];exact ih
   ·rw[if_neg hc,List.lookup_cons,Bool.eq_false_iff.mpr hx];exact ih
theorem lookup_mem{α:Type}[BEq α][LawfulBEq α]{β:Type}:∀ {l:List (α×β)}{x:α}{k:β},l.lookup x=some k->(x,k)∈l
 |[],_,_,h=>by simp at h
 |(n,k') :: r,x,k,h=>by
  rw[List.lookup_cons]at h
  by_cases hx:(x == n)=true
  ·rw[hx]at h
   have:x=n:=by simpa using hx
   subst this
   cases h
   exact List.mem_cons_self
  ·rw[Bool.eq_false_iff.mpr hx]at h
   exact List.mem_cons_of_mem _ (lookup_mem h)
noncomputable def cxIn(X:Cx)(N':List Str)(scope:Scope)(C:Addr)(s2:Shared)(H2:Hp)(fp:List Addr):Cx :=
 { X with N:=N',s₀:=s2,H₀:=H2,env:=compEnvC scope (closCl X.env.cells scope.names []) C X.env,outer:=X.stack,ex:=fp,fn:=fun _=>false,xe:=fun _ _=>False }
noncomputable def capt(cap:List (Option Nat))(σ:St):St:=cap.map fun o=>o.bind fun j=>(σ[j]?).join
structure CompScope(N':List Str)(cap:List (Option Nat))(N:List Str)(sc0 scope:Scope):Prop where
 kind:scope.kind = .function
 nocell:∀ x∈scope.names,x.2≠.cell
 loc:∀ x∈scope.names,x.2 = .local->scope.names.lookup x.1=some .local
 fre:∀ x∈scope.names,x.2 = .free->sc0.names.lookup x.1=some .cell\/sc0.names.lookup x.1=some .free
 len:cap.length=N'.length
 cap:∀ j∈List.range cap.length,match cap[j]? with
  |some (some i)=>match N'[j]? with
   |some x=>N[i]?=some x/\scope.names.lookup x=some .free
   |none=>False
  | _=>True
section
variable{X:Cx}{N':List Str}{cap:List (Option Nat)}{scope:Scope}{C:Addr}{s2 s4:Shared}{H2:Hp}{fp:List Addr}{pins:List (Addr×Obj)}{σ:St}
theorem CompScope.clos(S:CompScope N' cap X.N X.env.scope scope)(I:Inv X pins σ H2 s2):∀ x∈scope.names,x.2 = .free->∃ c,X.env.cells.lookup x.1=some c :=
 fun x hx hf=>I.ok.has x.1 (S.fre x hx hf)
theorem cxIn_ok(S:CompScope N' cap X.N X.env.scope scope)(I:Inv X pins σ H2 s2)(hC:s2.heap.objs.size<=C)(hfp:∀ b∈fp,FpOk X pins H2 b)(hfo:∀ b∈fp,∃ o,s2.heap.get? b=some o):(cxIn X N' scope C s2 H2 fp).Ok where
 mod:=I.ok.mod
 kind:=S.kind
 glob:=I.ok.glob
 blt:=I.ok.blt
 above:=hC
 inj:=fun x y c e1 e2=>I.ok.inj x y c (closCl_sound _ _ (S.clos I) (fun y c e=>by simp at e) x c e1) (closCl_sound _ _ (S.clos I) (fun y c e=>by simp at e) y c e2)
 has:=fun x h=>by
  have hm:(x,NameKind.free)∈scope.names:=by
   rcases h with h | h
   ·obtain⟨k,hk,e |⟨e,_⟩⟩:=relabel_mem (scope:=scope) (l:=scope.names) h
    ·subst e;exact absurd rfl (S.nocell _ hk)
    ·subst e;exact hk
   ·obtain⟨k,hk,e |⟨_,e⟩⟩:=relabel_mem (scope:=scope) (l:=scope.names) h
    ·subst e;exact hk
    ·cases e
  exact closCl_has _ _ x hm
 cab:=fun _ _ h _=>nomatch h
 hd:=I.ok.hd
 frames:=I.ok.frames
 stk:=.inl rfl
 exf:=fun b hb=>⟨fun z=>by
   obtain⟨o,ho⟩:=hfo b hb
   have h1:=Nat.lt_of_lt_of_le (Heap.lt_size ho) hC
   have z:b=C:=z
   rw[z]at h1
   exact Nat.lt_irrefl _ h1,fun x c e=>(hfp b hb).2.2.2.2.1 x c (closCl_sound _ _ (S.clos I) (fun y c e=>by simp at e) x c e)⟩
 bs:=I.bs
 bsz:=Nat.le_trans I.ok.bsz I.sz
 noex:=fun b o e hb=>by
  rcases(hfp b hb).2.2.2.1 with z | z
  ·exact I.ok.noex b o e z
  ·exact absurd (Nat.lt_of_lt_of_le (Heap.lt_size e) (Nat.le_trans I.ok.bsz z)) (Nat.lt_irrefl _)
 exfs:=fun b hb z=>by
  rcases List.mem_cons.mp (I.stkSub b z)with e | e
  ·exact(hfp b hb).2.1 e
  ·exact(hfp b hb).2.2.1 e
 funs:=I.stack
 frf:=I.stkFree
theorem cxIn_inv(S:CompScope N' cap X.N X.env.scope scope)(I:Inv X pins σ H2 s2)(hC:s2.heap.objs.size<=C)(hfp:∀ b∈fp,FpOk X pins H2 b)(hfo:∀ b∈fp,∃ o,s2.heap.get? b=some o)
  (ho:s4.os=s2.os) (hg:s4.gens=s2.gens) (k:∀ b o,s2.heap.get? b=some o->s4.heap.get? b=some o) {m:Str->Option Value} (hn:s4.heap.Ns C m) {D:Addr}{oD:Obj}
  (hD:s4.heap.get? D=some oD) (hDs:s2.heap.objs.size<=D) (hDC:D≠C) (hDc:∀ v,oD.data≠.cell v) :
  Inv (cxIn X N' scope C s2 H2 fp) (pins++[(D,oD)]) (capt cap σ) H2 s4 where
 ok:=cxIn_ok S I hC hfp hfo
 os:=ho
 bare:=by rw[hg];exact I.bare
 base:=Un.kept k
 loc:=by
  refine⟨m,hn,fun j x v e1 e2 _=>?_⟩
  have hj:j<cap.length:=by rw[S.len];exact(List.getElem?_eq_some_iff.mp e1).1
  have e1:N'[j]?=some x:=e1
  have hc:=S.cap j (List.mem_range.mpr hj)
  unfold capt at e2
  rw[List.getElem?_map]at e2
  cases hq:cap[j]? with
  |none=>rw[hq]at e2;cases e2
  |some o =>
   rw[hq]at e2 hc
   cases o with
   |none=>cases e2
   |some i =>
    simp only[e1]at hc
    obtain⟨hN,hfr⟩:=hc
    have e3:σ[i]?=some (some v):=by
     have e2:(σ[i]?).join=some v:=Option.some.inj e2
     cases hs:σ[i]? with
     |none=>rw[hs]at e2;cases e2
     |some w=>rw[hs]at e2;have e2:w=some v:=e2;rw[e2]
    have hm:=lookup_mem hfr
    have hk:=S.fre _ hm rfl
    obtain⟨m0,hn0,hl0⟩:=I.loc
    obtain⟨u,r,l⟩:=hl0 i x v hN e3 (.inr hk)
    refine⟨u,r,?_⟩
    rcases l with⟨l,_⟩ |⟨_,c,e,z⟩
    ·rcases hk with hk | hk
     ·rw[show X.env.kindOf x=some .cell from hk]at l;cases l
     ·rw[show X.env.kindOf x=some .free from hk]at l;cases l
    ·obtain⟨c',hc'⟩:=closCl_has (cells:=X.env.cells) scope.names [] x hm
     have hs:=closCl_sound scope.names [] (S.clos I) (fun y c e=>by simp at e) x c' hc'
     rw[e]at hs
     cases hs
     refine .inr ⟨relabel_free hfr,c,hc',?_⟩
     obtain⟨oc,ho',hd'⟩:=z
     exact⟨oc,k _ _ ho',hd'⟩
 cell:=fun x c e=>by
  obtain⟨v,oc,ho',hd'⟩:=I.cell x c (closCl_sound scope.names [] (S.clos I) (fun y c e=>by simp at e) x c e)
  exact⟨v,oc,k _ _ ho',hd'⟩
 free:=I.hok.fresh hC
 freeC:=fun x c e=>I.freeC x c (closCl_sound scope.names [] (S.clos I) (fun y c e=>by simp at e) x c e)
 pin:=fun p hp=>by
  have hp:p∈X.pn++(pins++[(D,oD)]):=hp
  have cne:∀ b o,s2.heap.get? b=some o->b≠C:=fun b o e z=>by
   have h1:=Nat.lt_of_lt_of_le (Heap.lt_size e) hC
   rw[z]at h1
   exact Nat.lt_irrefl _ h1
  rw[<- List.append_assoc]at hp
  rcases List.mem_append.mp hp with hp | hp
  ·obtain⟨e,n,ne,nf,d⟩:=I.pin p hp
   exact⟨k _ _ e,n,cne _ _ e,fun z=>by
    rcases List.mem_cons.mp (I.stkSub p.1 z)with e | e
    ·exact ne e
    ·exact nf e,d⟩
  ·have e:p=(D,oD):=by simpa using hp
   subst e
   refine⟨hD,I.hok.fresh hDs,hDC,fun z=>?_,hDc⟩
   rcases List.mem_cons.mp (I.stkSub D z)with e | e
   ·have h1:=Nat.lt_of_lt_of_le I.lt hDs
    rw[e]at h1
    exact Nat.lt_irrefl _ h1
   ·exact I.nofs hDs e
 hok:=I.hok.kept k
 len:=by unfold capt;rw[List.length_map];exact S.len
end
noncomputable def PF(X:Cx)(ifs:List Expr)(t:TT):Prop :=
 ∀ (pins:List (Addr×Obj)) (s:Shared) (σ:St) (H:Hp) (Q:Bool->Hp->Prop),Inv X pins σ H s->t σ H Q ->
  wpAny (model X.prog X.w) X.A (forIn ifs true fun c r=>if r=true then do let ok <- isTrue c X.env (eval c X.env);pure (ForInStep.yield ok)else pure (ForInStep.yield r)) (TP X pins σ Q) X.xe s
noncomputable def tTru:TT:=fun _ H Q=>Q true H
theorem pf_nil{X:Cx}:PF X [] tTru:=fun _ _ _ H _ I h=>wpAny_tests_nil ⟨H,I,h⟩
theorem pf_one{X:Cx}{c:Expr}{t:TT}(h:PT X c t):PF X [c] t:=fun pins s σ H Q I q=>wpAny_tests_one (h pins s σ H Q I q)
section
variable{prog:Program}{w:World}{A:Around}{E:Value->Shared->Prop}{R:Result->Shared->Prop}{s:Shared}
theorem codeAny_compLoop_any{elt target iter:Expr}{ifs:List Expr}{scope:Scope}{pos:Pos}{it acc:Value}{env:Env}(I:Nat->Shared->Prop)
  (turn:∀ n s,I n s->wpAny (model prog w) A (pyNext it) (fun r s₁=>match r with
   |none=>R (.ok .next) s₁
   |some v=>wpAny (model prog w) A (letOwnedTupleGo target it v) (fun _ s₁'=>wpAny (model prog w) A (assign target env v) (fun _ s₂ =>
     wpAny (model prog w) A (forIn ifs true fun c r=>if r=true then do let ok <- isTrue c env (eval c env);pure (ForInStep.yield ok)else pure (ForInStep.yield r)) (fun ok s₃ =>
      if ok=true then wpAny (model prog w) A (eval elt env) (fun x s₄ =>
       wpAny (model prog w) A (call (.builtin "list.append") [acc,x]) (fun _ s₅=>∃ m,m<n/\I m s₅) (fun _ _=>False) s₄) (fun _ _=>False) s₃
      else ∃ m,m<n/\I m s₃) (fun _ _=>False) s₂) (fun _ _=>False) s₁') (fun _ _=>False) s₁) (fun _ _=>False) s)
  (n:Nat) (h:I n s) :
  codeAny (model prog w) A (.compLoop (.ListComp elt [⟨target,iter,ifs,0⟩] scope pos) 0 it acc env) R s:=by
 refine codeAny_loop rfl I (fun n s hI=>?_) n h
 show wpAny _ A ((compTurn (.ListComp elt [⟨target,iter,ifs,0⟩] scope pos) 0 it acc env).onRaise (fun x=>do noteFrame x env;theTreesLotGoes x)) _ _ s
 refine wpAny_noted ?_
 rw[compTurn_list]
 refine wpAny_bind (wpAny_standAt (wpAny_bind (wpAny_mono (turn n s hI) (fun r s₁ h₁=>?_) fun _ _ h'=>h'.elim)))
 cases r with
 |none=>exact wpAny_pure h₁
 |some v =>
  refine wpAny_bind (wpAny_mono h₁ (fun _ s₁' h₁'=>?_) fun _ _ h'=>h'.elim)
  refine wpAny_bind (wpAny_mono h₁' (fun _ s₂ h₂=>wpAny_bind (wpAny_mono h₂ (fun ok s₃ h₃=>?_) fun _ _ h'=>h'.elim)) fun _ _ h'=>h'.elim)
  cases ok with
  |false=>exact wpAny_pure ⟨rfl,h₃⟩
  |true =>
   exact wpAny_bind (wpAny_bind (wpAny_mono h₃ (fun x s₄ h₄=>wpAny_bind (wpAny_mono h₄ (fun _ s₅ h₅=>wpAny_pure (wpAny_pure ⟨rfl,h₅⟩)) fun _ _ h'=>h'.elim)) fun _ _ h'=>h'.elim))
end
noncomputable def Kp:St->St->Prop
 |[],[]=>True
 |none :: r,_ :: r'=>Kp r r'
 |some v :: r,o :: r'=>o=some v/\Kp r r'
 | _,_=>False
theorem Kp.length:∀ {a b:St},Kp a b->a.length=b.length
 |[],[],_=>rfl
 |none :: r,_ :: r',h=>congrArg (· + 1) (Kp.length (a:=r) (b:=r') h)
 |some v :: r,o :: r',h=>congrArg (· + 1) (Kp.length (a:=r) (b:=r') h.2)
 |[],_ :: _,h=>h.elim
 |none :: _,[],h=>h.elim
 |some _ :: _,[],h=>h.elim
theorem Kp.get:∀ {a b:St},Kp a b->∀ (i:Nat) (v:V),a[i]?=some (some v)->b[i]?=some (some v)
 |[],[],_,i,v,e=>e
 |none :: r,_ :: r',h,0,v,e=>by simp at e
 |none :: r,_ :: r',h,i+1,v,e=>by simpa using Kp.get (a:=r) (b:=r') h i v (by simpa using e)
 |some w :: r,o :: r',h,0,v,e=>by rw[h.1];simpa using e
 |some w :: r,o :: r',h,i+1,v,e=>by simpa using Kp.get (a:=r) (b:=r') h.2 i v (by simpa using e)
 |[],_ :: _,h,_,_,_=>h.elim
 |none :: _,[],h,_,_,_=>h.elim
 |some _ :: _,[],h,_,_,_=>h.elim
noncomputable def compTurns(J:It)(cap:List (Option Nat))(σ:St)(H1:Hp)(Q:VK)(g:TG)(tc:TT)(te:TE):Prop:=∃ (n:Nat) (P:Nat->List V->Hp->Prop),n<=sizeLine/\P 0 [] H1 /\
 ∀ i ys H,ys.length<=i->i<=n->P i ys H->(J.stop i H/\∀ D,H D=none->Q (.ref D) (upd H D (.lst ys))) \/
  (i<n/\J.go i H/\∀ x H',J.yld i H x H'->g x (capt cap σ) H' fun σ2 H2=>Kp (capt cap σ) σ2/\tc σ2 H2 fun b H3=>if b=true then te σ2 H3 fun y H4=>P (i+1) (ys++[y]) H4 else P (i+1) ys H3)
noncomputable def tComp(cap:List (Option Nat))(wi:TI)(g:TG)(tc:TT)(te:TE):TE:=fun σ H Q=>wi σ H fun J H1=>compTurns J cap σ H1 Q g tc te
noncomputable def CompEnd(X:Cx)(pins:List (Addr×Obj))(σ:St)(Q:VK)(acc:Value)(C:Addr)(r:Result)(s':Shared):Prop :=
 match r with
 | .ok _=>∃ v H',Inv X pins σ H' s'/\RelV v acc/\Q v H'/\(∃ m,s'.heap.Ns C m)/\FpOk X pins H' C
 | .error _=>False
section
variable{X:Cx}{elt tg iter:Expr}{ifs:List Expr}{scope:Scope}{pos:Pos}{N':List Str}{cap:List (Option Nat)}{wi:TI}{g:TG}{tc:TT}{te:TE}
theorem comp_run(hc:X.calm=true)(S:CompScope N' cap X.N X.env.scope scope)(hi:PI X tg iter wi)(hg:∀ C s H fp,PG (cxIn X N' scope C s H fp) tg g)
  (ht:∀ C s H fp,PF (cxIn X N' scope C s H fp) ifs tc) (he:∀ C s H fp,PE (cxIn X N' scope C s H fp) elt te)
  {pins:List (Addr×Obj)}{s:Shared}{σ:St}{H:Hp}{Q:VK} (I:Inv X pins σ H s) (h:tComp cap wi g tc te σ H Q) :
  wpAny (model X.prog X.w) X.A (eval iter X.env) (fun x s₁=>wpAny (model X.prog X.w) X.A (pyIter x) (fun it s₂=>wpAny (model X.prog X.w) X.A (newList []) (fun acc s₃ =>
   wpAny (model X.prog X.w) X.A (newFunctionEnv scope X.env.globals (closCl X.env.cells scope.names []) [] X.env.qual none .none (some X.env)) (fun cenv s₄ =>
    codeAny (model X.prog X.w) X.A (.compStart (.ListComp elt [⟨tg,iter,ifs,0⟩] scope pos) 0 it acc { cenv with scope:=relabel scope X.env }) (CompEnd X pins σ Q acc cenv.locals) s₄) X.xe s₃) X.xe s₂) X.xe s₁) X.xe s:=by
 refine thn (hi pins s σ H _ I h) fun v s1 h1=>thn h1 fun itv s2 h2=>?_
 obtain⟨it,fp,tn,J,H2,e,I2,T,st2,f2,n,P,hn,p0,turn⟩:=h2
 subst e
 refine wpAny_newObj_type (wpAny_newFunctionEnv S.nocell (by intro y hy;simp at hy) (fun h₁ hns₁ hsb₁=>?_) S.kind)
 dsimp only at hns₁ hsb₁ ⊢
 generalize hHp:s2.heap.push { cls:=.type "list",dict:=none,data:=.seq ([]:List Value).toArray } = Hq at hns₁ hsb₁ ⊢
 have hC:Hq.objs.size=s2.heap.objs.size+1:=by rw[<- hHp,Heap.size_push]
 have hDC:s2.heap.objs.size≠Hq.objs.size:=by rw[hC];exact Nat.ne_of_lt (Nat.lt_succ_self _)
 have hCle:s2.heap.objs.size<=Hq.objs.size:=by rw[hC];exact Nat.le_succ _
 have old:∀ b o,s2.heap.get? b=some o->h₁.get? b=some o:=fun b o e =>
  hsb₁.extBut b o (by rw[hC];exact Nat.ne_of_lt (Nat.lt_succ_of_lt (Heap.lt_size e))) (Heap.get?_push_of_some _ (hHp▸Heap.get?_push_of_some _ e))
 have hacc:h₁.PlainList s2.heap.objs.size #[]:=⟨_,hsb₁.extBut _ _ hDC (Heap.get?_push_of_some _ (hHp▸Heap.get?_push_size _ rfl))⟩
 have hfo:∀ b∈fp,∃ o,s2.heap.get? b=some o:=fun b hb=>let ⟨o,e,_⟩:=T.obj _ _ st2 b hb;⟨o,e⟩
 have st4:tn 0 h₁:=T.keep _ _ _ st2 fun b _ o e=>old b o e
 let D:Addr:=s2.heap.objs.size
 let C:Addr:=Hq.objs.size
 let Y:Cx:=cxIn X N' scope C s2 H2 fp
 have hDfp:D∉fp:=fun hb=>by
  obtain⟨o,e⟩:=hfo D hb
  exact Nat.lt_irrefl _ (Heap.lt_size e)
 -- the iterator's objects,seen from within
 have stat:∀ {H':Hp}{oD:Obj},(∀ b∈fp,H' b=none)->∀ b∈fp,FpOk Y (pins++[(D,oD)]) H' b:=fun {H' oD} hn b hb=>by
  obtain⟨f0,f1,fx,f3,f4,f5⟩:=f2 b hb
  obtain⟨o,e⟩:=hfo b hb
  refine⟨hn b hb,fun z=>?_,fun z=>?_,.inl hb,fun x c e=>f4 x c (closCl_sound _ _ (S.clos I2) (fun y c e=>by simp at e) x c e),fun p hp=>?_⟩
  ·have h1:=Nat.lt_of_lt_of_le (Heap.lt_size e) hCle
   have z:b=Hq.objs.size:=z
   rw[z]at h1
   exact Nat.lt_irrefl _ h1
  ·rcases List.mem_cons.mp (I2.stkSub b z)with e | e
   ·exact f1 e
   ·exact fx e
  ·have hp:p∈X.pn++(pins++[(D,oD)]):=hp
   rw[<- List.append_assoc]at hp
   rcases List.mem_append.mp hp with hp | hp
   ·exact f5 p hp
   ·have q:p=(D,oD):=by simpa using hp
    subst q
    exact fun z=>hDfp (by rw[show D=b from z];exact hb)
 have loop:∀ s₃:Shared,s₃ = { s2 with heap:=h₁,toks:=s2.toks+([]:List (Str×Value)).length } ->
   codeAny (model X.prog X.w) X.A (.compLoop (.ListComp elt [⟨tg,iter,ifs,0⟩] scope pos) 0 (.ref it) (.ref s2.heap.objs.size) (compEnvC scope (closCl X.env.cells scope.names []) Hq.objs.size X.env))
    (CompEnd X pins σ Q (.ref s2.heap.objs.size) Hq.objs.size) s₃:=by
  rintro s₃ rfl
  have cellD:∀ x c,Y.env.cells.lookup x=some c->c≠D:=fun x c e z=>by
   obtain⟨v,q⟩:=I2.cell x c (closCl_sound _ _ (S.clos I2) (fun y c e=>by simp at e) x c e)
   have h1:=q.lt
   rw[show c=s2.heap.objs.size from z]at h1
   exact Nat.lt_irrefl _ h1
  have pinD:∀ p∈X.pn++pins,p.1≠D:=fun p hp z=>by
   have h1:=Heap.lt_size (I2.pin p hp).1
   rw[show p.1=s2.heap.objs.size from z]at h1
   exact Nat.lt_irrefl _ h1
  have inD:∀ {pl:List (Addr×Obj)}{oD:Obj},(D,oD)∈Y.pn++((pins++[(D,oD)])++pl):=fun {pl oD}=>List.mem_append_right _ (List.mem_append_left _ (List.mem_append_right _ (by simp)))
  have inF:∀ {pl:List (Addr×Obj)}{oD:Obj}{p:Addr×Obj},p∈pl->p∈Y.pn++((pins++[(D,oD)])++pl):=fun {pl oD p} hp=>List.mem_append_right _ (List.mem_append_right _ hp)
  refine codeAny_compLoop_any (fun m s'=>∃ i ys H' its ep,m=n-i/\i<=n/\ys.length<=i/\Vals ys its/\Inv Y (pins++[(D,{ cls:=.type "list",data:=.seq its.toArray ep })]) (capt cap σ) H' s'/\tn i s'.heap/\(∀ b∈fp,H' b=none)/\P i ys H') ?_ n ?_
  ·rintro m s3 ⟨i,ys,H3,its,ep,rfl,hin,hyl,rv,I3,st3,fr3,p3⟩
   rcases turn i ys H3 hyl hin p3 with⟨stop,q⟩ |⟨hlt,go,step⟩
   ·refine thn (T.done Y rfl rfl rfl hc i _ s3 _ H3 (fun _ _=>False) I3 (stat fr3) st3 stop) fun r s4 ⟨hr,I4⟩=>?_
    subst hr
    obtain⟨eD,nD,_⟩:=I4.pin (D,{ cls:=.type "list",data:=.seq its.toArray ep }) (List.mem_append_right _ (List.mem_append_right _ (by simp)))
    have nD:H3 D=none:=nD
    have okn:ObjOk X.prog X.w (upd H3 D (.lst ys)) s4.heap D (.lst ys):=⟨Nat.le_trans hyl (Nat.le_trans hin hn),its,ep,rv,eD⟩
    have hok:HOk X.prog X.w (upd H3 D (.lst ys)) s4.heap:=fun b u e=>by
     by_cases hb:b=D
     ·subst hb;rw[upd_same]at e;cases e;exact okn
     ·rw[upd_ne hb]at e
      exact(I4.hok b u e).stay (fun c v _ q=>q) (fun c q=>by rw[upd_ne (ne_of_none q nD)];exact q) fun c xs q=>by rw[upd_ne (ne_of_none q nD)];exact q
    have B:=I4.base
    have u:Un (frs X.stack) fp H2 (upd H3 D (.lst ys)) s2.heap s4.heap :=
     ⟨B.keep,B.slot,fun b o e n hx=>by rw[upd_ne (Nat.ne_of_lt (Heap.lt_size e))];exact B.free b o e n hx,B.there,fun b xs e=>by rw[upd_ne (ne_of_none (B.tups b xs e) nD)];exact B.tups b xs e,
      fun b o xs e=>by rw[upd_ne (ne_of_none (B.frzs b o xs e) nD)];exact B.frzs b o xs e,fun b ps e=>by
       obtain⟨more,z⟩:=B.tbls b ps e
       exact⟨more,by rw[upd_ne (ne_of_none z nD)];exact z⟩⟩
    have IX:Inv X pins σ (upd H3 D (.lst ys)) s4:=I2.call' (ch:=fp) I4.os u hok I4.bare fun b hb=>by
     obtain⟨f0,f1,fx,f3,f4,f5⟩:=f2 b hb
     exact⟨f3,f1,f4,f5⟩
    have nC:(upd H3 D (.lst ys)) Hq.objs.size=none:=by rw[upd_ne (Ne.symm hDC)];exact I4.free
    obtain⟨m',hm',_⟩:=I4.loc
    exact⟨.ref D,_,IX,rfl,q D nD,⟨m',hm'⟩,I2.fpOk hCle nC⟩
   ·refine thn (T.item Y rfl rfl rfl hc i _ s3 _ H3 (fun _ _=>False) I3 (stat fr3) st3 go) fun r s4 ⟨u,hr,h4⟩=>?_
    subst hr
    refine thn h4 fun _ s5 ⟨x,H5,I5,r5,y5,st5,fr5⟩=>?_
    have I5':=I5.pinned (stat fr5) (T.obj _ _ st5)
    refine thn (hg C s2 H2 fp _ s5 _ H5 x u _ I5' r5 (step x H5 y5)) fun _ s6 ⟨σ6,H6,I6,kp,q6⟩=>?_
    refine thn (ht C s2 H2 fp _ s6 σ6 H6 _ I6 q6) fun b s7 ⟨H7,I7,q7⟩=>?_
    cases b with
    |false =>
     rw[if_neg Bool.false_ne_true]at q7 ⊢
     refine⟨n-(i+1),Nat.sub_succ_lt_self n i hlt,i+1,ys,H7,its,ep,rfl,hlt,Nat.le_succ_of_le hyl,rv,I7.unpinned.weak kp.length kp.get,?_,fun b hb=>?_,q7⟩
     ·exact T.keep _ _ _ st5 fun b hb o e=>(I7.pin (b,o) (inF (mem_pinsAt hb e))).1
     ·obtain⟨o,e,d⟩:=T.obj _ _ st5 b hb
      exact(I7.pin (b,o) (inF (mem_pinsAt hb e))).2.1
    |true =>
     rw[if_pos rfl]at q7 ⊢
     refine thn (he C s2 H2 fp _ s7 σ6 H7 _ I7 q7) fun yv s8 ⟨y,H8,I8,r8,q8⟩=>?_
     obtain⟨eD,nD,_⟩:=I8.pin (D,{ cls:=.type "list",data:=.seq its.toArray ep }) inD
     have hsz:its.toArray.size<=sizeLine:=by
      rw[List.size_toArray,<- rv.length]
      exact Nat.le_trans hyl (Nat.le_trans hin hn)
     refine wpAny_list_append_plain (items:=its.toArray) ⟨ep,eD⟩ (fun h9 pl9 sb9=>?_) hsz
     obtain⟨ep',e9⟩:=pl9
     have e9:h9.get? D=some { cls:=.type "list",data:=.seq (its++[yv]).toArray ep' }:=by rw[e9];simp
     have Ia:Inv Y pins σ6 H8 s8:=I8.pins_of fun p hp=>I8.pin p (List.mem_append_right _ (List.mem_append_left _ (List.mem_append_left _ hp)))
     have Ib:Inv Y pins σ6 H8 { s8 with heap:=h9 }:=Ia.turned (it:=D) (t':=s8.toks) (fun b o hb e=>(sb9.2 b hb).trans e) nD hDC (.inr (Nat.le_refl _)) cellD pinD
     have Ic:Inv Y (pins++[(D,{ cls:=.type "list",data:=.seq (its++[yv]).toArray ep' })]) σ6 H8 { s8 with heap:=h9 }:=Ib.pins_of fun p hp=>by
      rcases List.mem_append.mp hp with hp | hp
      ·exact Ib.pin p (List.mem_append_right _ hp)
      ·have q:p=(D,{ cls:=.type "list",data:=.seq (its++[yv]).toArray ep' }):=by simpa using hp
       subst q
       obtain⟨_,_,z1,z2,_⟩:=I8.pin (D,{ cls:=.type "list",data:=.seq its.toArray ep }) inD
       exact⟨e9,nD,z1,z2,fun v z=>by cases z⟩
     refine⟨n-(i+1),Nat.sub_succ_lt_self n i hlt,i+1,ys++[y],H8,its++[yv],ep',rfl,hlt,by simp;omega,Vals.append rv (.cons r8 .nil),Ic.weak kp.length kp.get,?_,fun b hb=>?_,q8⟩
     ·exact T.keep _ _ _ st5 fun b hb o e=>sb9.extBut b o (fun z=>hDfp (by rw[show D=b from Eq.symm z];exact hb)) (I8.pin (b,o) (inF (mem_pinsAt hb e))).1
     ·obtain⟨o,e,d⟩:=T.obj _ _ st5 b hb
      exact(I8.pin (b,o) (inF (mem_pinsAt hb e))).2.1
  ·obtain⟨ep,e⟩:=hacc
   refine⟨0,[],H2,[],ep,rfl,Nat.zero_le _,Nat.le_refl _,.nil,?_,st4,fun b hb=>(f2 b hb).1,p0⟩
   exact cxIn_inv (s4:={ s2 with heap:=h₁,toks:=s2.toks+([]:List (Str×Value)).length }) S I2 hCle f2 hfo rfl rfl old hns₁ e (Nat.le_refl _) hDC fun v z=>by cases z
 exact codeAny_compStart_list (loop _ rfl) (T.self X.A 0 _ _ _ st4 (loop _ rfl))
theorem pe_comp(hc:X.calm=true)(S:CompScope N' cap X.N X.env.scope scope)(hi:PI X tg iter wi)(hg:∀ C s H fp,PG (cxIn X N' scope C s H fp) tg g)
  (ht:∀ C s H fp,PF (cxIn X N' scope C s H fp) ifs tc) (he:∀ C s H fp,PE (cxIn X N' scope C s H fp) elt te)
  (hs:∀ x,foldedSetIterable iter X.env x=pure x:=by intro _;rfl):PE X (.ListComp elt [⟨tg,iter,ifs,0⟩] scope pos) (tComp cap wi g tc te):=by
 intro pins s σ H Q I h
 rw[eval_ListComp]
 refine wpAny_comprehension_free (use:=none) rfl hs (closureFor_cells (S.clos I)) S.kind S.loc (thn (comp_run (pos:=pos) hc S hi hg ht he I h) fun x s1 h1=>thn h1 fun it s2 h2=>thn h2 fun acc s3 h3=>thn h3 fun cenv s4 h4=>?_)
 refine codeAny_mono h4 fun r s' hr=>?_
 cases r with
 |error x=>exact hr.elim
 |ok f =>
  obtain⟨v,H',I',rv,q,⟨m,hn⟩,f0,f1,f2,f3,f4,f5⟩:=hr
  refine⟨m,hn,fun h' sb=>⟨v,H',I'.turned (it:=cenv.locals) (t':=s'.toks) (fun b o hb e=>(sb.2 b hb).trans e) f0 f1 f3 f4 f5,rv,q⟩⟩
theorem ps_comp{i:Nat}{x:Str}{pos' spos:Pos}(hN:X.N.Nodup)(hx:X.N[i]?=some x)(hl:Loc X.env.scope x)(hc:X.calm=true)(S:CompScope N' cap X.N X.env.scope scope)(hi:PI X tg iter wi)(hg:∀ C s H fp,PG (cxIn X N' scope C s H fp) tg g)
  (ht:∀ C s H fp,PF (cxIn X N' scope C s H fp) ifs tc) (he:∀ C s H fp,PE (cxIn X N' scope C s H fp) elt te)
  (hs:∀ x,foldedSetIterable iter X.env x=pure x:=by intro _;rfl) (hsw:swapsWith (.ListComp elt [⟨tg,iter,ifs,0⟩] scope pos) (some (.Name x pos')) spos.line X.env=pure true:=by rfl)
  (hf:X.fn x=true\/X.env.scope.names.lookup x=some .local:=by first | exact .inl rfl | exact .inr rfl | assumption) :
  PS X (.Assign [.Name x pos'] (.ListComp elt [⟨tg,iter,ifs,0⟩] scope pos) spos) (tAsg (tComp cap wi g tc te) (gName i)):=by
 intro pins s σ H D I h
 rw[exec_Assign_Name_used _ _ _ _ hsw]
 refine wpAny_bind (wpAny_standAt (wpAny_bind ?_))
 show wpAny _ _ (do let _ <- comprehension (.ListComp elt [⟨tg,iter,ifs,0⟩] scope pos) scope X.env _ (newList []) false (eval iter X.env) (some (assign (.Name x pos') X.env))) _ _ s
 refine wpAny_bind (wpAny_mono (wpAny_comprehension_free (use:=some (assign (.Name x pos') X.env)) (Q:=fun _ s'=>SP X pins D .next s') rfl hs (closureFor_cells (S.clos I)) S.kind S.loc
  (thn (comp_run (pos:=pos) hc S hi hg ht he I h) fun x s1 h1=>thn h1 fun it s2 h2=>thn h2 fun acc s3 h3=>thn h3 fun cenv s4 h4=>?_)) (fun _ s' hq=>wpAny_pure (wpAny_pure hq)) fun _ _ e=>e)
 refine codeAny_mono h4 fun r s' hr=>?_
 cases r with
 |error x=>exact hr.elim
 |ok f =>
  obtain⟨v,H',I',rv,q,⟨m,hn⟩,f0,f1,f2,f3,f4,f5⟩:=hr
  show wpAny _ _ (assign (.Name _ pos') X.env acc) _ _ _
  refine wpAny_assign_Name (store_ok2 I' hN hx hl rv (fun s'' I'' ⟨a,sb,ha⟩=>?_) hf)
  have hac:cenv.locals≠a:=by
   rcases ha with ha | ha
   ·rw[ha];exact f1
   ·exact Ne.symm (f4 _ a ha)
  refine⟨m,hn.sameBut sb hac,fun h' sb'=>⟨_,H',I''.turned (it:=cenv.locals) (t':=s''.toks) (fun b o hb e=>(sb'.2 b hb).trans e) f0 f1 f3 f4 f5,q⟩⟩
end
end L2
namespace Srt
open PySem PyProof.Rows
noncomputable def LtOk(κ:KeyKind)(kd:SortKind)(prog:Program)(w:World)(A:Around)(s:Shared):Prop :=
 ∀ (E:Value->Shared->Prop) (x y:Keyed) (a b:κ.α) (Q:Option Bool->SortSt->Prop) (st:SortSt),kindOf st=kd->κ.keyOf x.1=some a->κ.keyOf y.1=some b ->
  Q (some (κ.blt a b)) st->wpS (model prog w) A E s (lt' x y) Q st
structure SB(kd:SortKind)(a₀ b:Array Keyed)(lo:Nat)(pd:Array (Nat×Nat×Nat))(st:SortSt):Prop where
 perm:(arrOf st).Perm a₀
 kind:kindOf st=kd
 failed:failedOf st=none
 pend:pendingOf st=pd
 low:∀ k,k<lo->(arrOf st)[k]?=b[k]?
noncomputable def SIn(κ:KeyKind)(xs:Array Keyed)(lo n:Nat):Prop:=∀ i j,i<=j->j<n->κ.kle (KK κ xs (lo+i)) (KK κ xs (lo+j))
noncomputable def DIn(κ:KeyKind)(xs:Array Keyed)(lo n:Nat):Prop:=∀ i j,i<=j->j<n->κ.kle (KK κ xs (lo+j)) (KK κ xs (lo+i))
theorem at_key{κ:KeyKind}{a₀ xs:Array Keyed}(hp:xs.Perm a₀)(h0:KeysOf κ a₀){i:Nat}(hi:i<xs.size):∃ p a,xs[i]?=some p/\κ.keyOf p.1=some a/\KK κ xs i=a:=by
 have hm:xs[i]∈a₀.toList:=(Array.perm_iff_toList_perm.mp hp).mem_iff.mp (by simp)
 obtain⟨a,ha⟩:=h0 _ hm
 have e:xs[i]?=some xs[i]:=getElem?_pos _ i hi
 refine⟨xs[i],a,e,ha,?_⟩
 unfold KK;rw[e];simp[ha]
section
variable{prog:Program}{w:World}{A:Around}{E:Value->Shared->Prop}{s:Shared}{a₀ b:Array Keyed}{κ:KeyKind}{kd:SortKind}{lo:Nat}{pd:Array (Nat×Nat×Nat)}
theorem SB.size{st:SortSt}(h:SB kd a₀ b lo pd st):(arrOf st).size=a₀.size:=h.perm.size_eq
theorem SB.arr{st:SortSt}(h:SB kd a₀ b lo pd st){xs:Array Keyed}(hp:xs.Perm (arrOf st))(hl:∀ k,k<lo->xs[k]?=(arrOf st)[k]?):SB kd a₀ b lo pd (setArr st xs) :=
 ⟨hp.trans h.perm,h.kind,h.failed,h.pend,fun k hk=>(hl k hk).trans (h.low k hk)⟩
theorem SB.mirror{st:SortSt}(h:SB kd a₀ b lo pd st){i j:Nat}(hi:lo<=i)(hj:j<=a₀.size):SB kd a₀ b lo pd (setArr st (mirror (arrOf st) i j ((j-i) / 2))) :=
 h.arr (mirror_perm _ _ _ _) fun k hk=>by rw[getElem?_mirror_all (by rw[h.size];exact hj),if_neg (by lia)]
theorem elem_ok{arr:Array Keyed}{i:Nat}{p:Keyed}{Q:Keyed->SortSt->Prop}{st:SortSt}(h:arr[i]?=some p)(hq:Q p st):wpS (model prog w) A E s (elem' arr i) Q st:=by
 rw[elem'_eq,h];exact wpS_pure hq
theorem ltAt_ok{st:SortSt}{i j:Nat}{Q:Option Bool->SortSt->Prop}(hO:LtOk κ kd prog w A s)(hB:SB kd a₀ b lo pd st)(h0:KeysOf κ a₀)(hi:i<a₀.size)(hj:j<a₀.size)
  (h:Q (some (κ.blt (KK κ (arrOf st) i) (KK κ (arrOf st) j))) st):wpS (model prog w) A E s (ltAt' i j) Q st:=by
 obtain⟨x,a,e1,ha,ka⟩:=at_key hB.perm h0 (i:=i) (by rw[hB.size];exact hi)
 obtain⟨y,c,e2,hc,kc⟩:=at_key hB.perm h0 (i:=j) (by rw[hB.size];exact hj)
 rw[ka,kc]at h
 rw[ltAt'_eq]
 refine wpS_bind (wpS_get (wpS_bind (elem_ok e1 (wpS_bind (elem_ok e2 ?_)))))
 exact hO E x y a c Q st hB.kind ha hc h
theorem rev_ok{st:SortSt}{i j:Nat}{Q:Unit->SortSt->Prop}(h:Q () (setArr st (mirror (arrOf st) i j ((j-i) / 2)))):wpS (model prog w) A E s (reverseSlice' i j) Q st:=by
 rw[reverseSlice'_eq];exact wpS_modify h
theorem bcong{σ α β:Type}{m m':StateT σ Sem α}{f f':α->StateT σ Sem β}(h:m=m')(hf:∀ a,f a=f' a):(m >>= f)=(m' >>= f'):=by
 subst h
 rw[show f=f' from funext hf]
noncomputable def asc(lo a nrem:Nat):StateT SortSt Sem AscSt :=
 forIn [a:nrem] ((none,a):AscSt) fun _ c=>do
  let x <- ltAt' (lo+c.2) (lo+c.2-1)
  match x with
  |some sm=>if sm=true then pure (ForInStep.done (none,c.2))else pure (ForInStep.yield (none,c.2+1))
  | _=>pure (ForInStep.done (some none,c.2))
noncomputable def tl3(lo n nrem:Nat):StateT SortSt Sem (Option Nat):=do
 reverseSlice' lo (lo+n)
 let c <- asc lo n nrem
 match c.1 with
 |some r=>pure r
 |none=>pure (some c.2)
noncomputable def dsc(lo n nrem:Nat):StateT SortSt Sem DescSt :=
 forIn [n:nrem] ((none,n,0):DescSt) fun _ c=>do
  let x <- ltAt' (lo+c.2.1) (lo+c.2.1-1)
  match x with
  |some sm =>
   if sm=true then
    if c.2.2 > 0 then do
     reverseSlice' (lo+c.2.1-(c.2.2+1)) (lo+c.2.1)
     pure (ForInStep.yield (none,c.2.1+1,0))
    else pure (ForInStep.yield (none,c.2.1+1,0))
   else do
    let x <- ltAt' (lo+c.2.1-1) (lo+c.2.1)
    match x with
    |some la =>
     if la=true then pure (ForInStep.done (none,c.2.1,c.2.2))
     else pure (ForInStep.yield (none,c.2.1+1,c.2.2+1))
    | _=>pure (ForInStep.done (some none,c.2.1,c.2.2))
  | _=>pure (ForInStep.done (some none,c.2.1,c.2.2))
noncomputable def dpt(lo n nrem:Nat):StateT SortSt Sem (Option Nat):=do
 liftM (rule "list.sort.descending-run")
 let c <- dsc lo (n+1) nrem
 match c.1 with
 |some r=>pure r
 |none =>
  if c.2.2 > 0 then do
   reverseSlice' (lo+c.2.1-(c.2.2+1)) (lo+c.2.1)
   tl3 lo c.2.1 nrem
  else tl3 lo c.2.1 nrem
theorem count_eq(lo nrem:Nat):countRun' lo nrem=(do
  let c <- asc lo 1 nrem
  match c.1 with
  |some r=>pure r
  |none =>
   if(c.2 == nrem)=true then pure (some c.2)
   else if c.2 > 1 then do
    let x <- ltAt' lo (lo+c.2-1)
    match x with
    |some rose=>if rose=true then pure (some c.2)else do
      reverseSlice' lo (lo+c.2)
      dpt lo c.2 nrem
    | _=>pure none
   else dpt lo c.2 nrem):=by
 rw[countRun'_eq]
 unfold dpt tl3 dsc asc
 refine bcong rfl fun c=>?_
 obtain⟨r,n⟩:=c
 cases r with
 |some r=>rfl
 |none =>
  dsimp only
  split
  ·rfl
  ·split
   ·refine bcong rfl fun x=>?_
    cases x with
    |none=>rfl
    |some rose =>
     dsimp only
     split
     ·rfl
     ·refine bcong rfl fun _=>bcong rfl fun _=>bcong rfl fun s2=>?_
      obtain⟨r2,n2,q2⟩:=s2
      cases r2 with
      |some r2=>rfl
      |none =>
       dsimp only
       split
       ·refine bcong rfl fun _=>bcong rfl fun _=>bcong rfl fun s3=>?_
        obtain⟨r3,n3⟩:=s3
        cases r3 <;> rfl
       ·refine bcong rfl fun _=>bcong rfl fun s3=>?_
        obtain⟨r3,n3⟩:=s3
        cases r3 <;> rfl
   ·refine bcong rfl fun _=>bcong rfl fun s2=>?_
    obtain⟨r2,n2,q2⟩:=s2
    cases r2 with
    |some r2=>rfl
    |none =>
     dsimp only
     split
     ·refine bcong rfl fun _=>bcong rfl fun _=>bcong rfl fun s3=>?_
      obtain⟨r3,n3⟩:=s3
      cases r3 <;> rfl
     ·refine bcong rfl fun _=>bcong rfl fun s3=>?_
      obtain⟨r3,n3⟩:=s3
      cases r3 <;> rfl
theorem asc_ok{st:SortSt}{a nrem:Nat}{Q:AscSt->SortSt->Prop}(hO:LtOk κ kd prog w A s)(h0:KeysOf κ a₀)(hn:lo+nrem<=a₀.size)(ha:1<=a)(han:a<=nrem)(hB:SB kd a₀ b lo pd st)(hs:SIn κ (arrOf st) lo a)
  (h:∀ n,a<=n->n<=nrem->SIn κ (arrOf st) lo n->(n=nrem\/κ.klt (KK κ (arrOf st) (lo+n)) (KK κ (arrOf st) (lo+n-1)))->Q (none,n) st):wpS (model prog w) A E s (asc lo a nrem) Q st:=by
 unfold asc
 refine wpS_forRange (I:=fun x c st'=>st'=st/\c=(none,x)/\SIn κ (arrOf st) lo x) ?step ?fin ⟨rfl,rfl,hs⟩
 case fin =>
  rintro c st' ⟨rfl,rfl,g⟩
  rw[show max a nrem=nrem by lia]at g ⊢
  exact h nrem han (Nat.le_refl _) g (.inl rfl)
 case step =>
  rintro x c st' hax hxn ⟨rfl,rfl,g⟩
  dsimp only
  refine wpS_bind (ltAt_ok hO hB h0 (by lia) (by omega) ?_)
  cases q:κ.blt (KK κ (arrOf st') (lo+x)) (KK κ (arrOf st') (lo+x-1))with
  |true=>exact wpS_pure (h x hax (by lia) g (.inr q))
  |false =>
   refine wpS_pure ⟨rfl,rfl,fun i j hij hj=>?_⟩
   by_cases z:j<x
   ·exact g i j hij z
   ·have z:j=x:=by lia
    subst z
    by_cases y:i=j
    ·subst y;exact KeyOrd.kle_refl _
    ·have u:=g i (j-1) (by lia) (by lia)
     rw[show lo+(j-1)=lo+j-1 by lia]at u
     exact KeyOrd.kle_trans u q
theorem tl3_ok{st:SortSt}{n nrem:Nat}{Q:Option Nat->SortSt->Prop}(hO:LtOk κ kd prog w A s)(h0:KeysOf κ a₀)(hn:lo+nrem<=a₀.size)(h1:1<=n)(hnn:n<=nrem)(hB:SB kd a₀ b lo pd st)(hs:DIn κ (arrOf st) lo n)
  (h:∀ m st',SB kd a₀ b lo pd st'->1<=m->m<=nrem->SIn κ (arrOf st') lo m->Q (some m) st'):wpS (model prog w) A E s (tl3 lo n nrem) Q st:=by
 unfold tl3
 have hsz:lo+n<=(arrOf st).size:=by rw[hB.size];lia
 have hB':=hB.mirror (i:=lo) (j:=lo+n) (Nat.le_refl _) (by lia)
 refine wpS_bind (rev_ok (wpS_bind (asc_ok hO h0 hn h1 hnn hB' ?_ fun m p1 p2 p3 _=>wpS_pure (h m _ hB' (by lia) p2 p3))))
 intro i j hij hj
 show κ.kle (KK κ (mirror (arrOf st) lo (lo+n) ((lo+n-lo) / 2)) (lo+i)) (KK κ (mirror (arrOf st) lo (lo+n) ((lo+n-lo) / 2)) (lo+j))
 rw[KK_mirror hsz,KK_mirror hsz,if_pos (by lia),if_pos (by lia),show lo+(lo+n)-1-(lo+i)=lo+(n-1-i) by lia,show lo+(lo+n)-1-(lo+j)=lo+(n-1-j) by omega]
 exact hs _ _ (by omega) (by omega)
theorem dsc_ok{st:SortSt}{n nrem:Nat}{Q:DescSt->SortSt->Prop}(hO:LtOk κ kd prog w A s)(h0:KeysOf κ a₀)(hn:lo+nrem<=a₀.size)(h1:1<=n)(hnn:n<=nrem)(hB:SB kd a₀ b lo pd st)(hs:DIn κ (arrOf st) lo n)
  (h:∀ m q st',SB kd a₀ b lo pd st'->n<=m->m<=nrem->DIn κ (arrOf st') lo m->q+1<=m->(∀ i,m-(q+1)<=i->i<m->KK κ (arrOf st') (lo+i)=KK κ (arrOf st') (lo+m-1))->Q (none,m,q) st') :
  wpS (model prog w) A E s (dsc lo n nrem) Q st:=by
 unfold dsc
 refine wpS_forRange (I:=fun x c st'=>∃ q,c=(none,x,q)/\SB kd a₀ b lo pd st'/\DIn κ (arrOf st') lo x/\q+1<=x/\(∀ i,x-(q+1)<=i->i<x->KK κ (arrOf st') (lo+i)=KK κ (arrOf st') (lo+x-1))) ?step ?fin
  ⟨0,rfl,hB,hs,by omega,fun i h1 h2=>by rw[show lo+i=lo+n-1 by lia]⟩
 case fin =>
  rintro c st' ⟨q,rfl,g1,g2,g3,g4⟩
  rw[show max n nrem=nrem by lia]at g2 g3 g4 ⊢
  exact h nrem q st' g1 hnn (Nat.le_refl _) g2 g3 g4
 case step =>
  rintro x c st' hax hxn ⟨q,rfl,g1,g2,g3,g4⟩
  dsimp only
  have hsz:lo+x<=(arrOf st').size:=by rw[g1.size];lia
  refine wpS_bind (ltAt_ok hO g1 h0 (by lia) (by lia) ?_)
  cases t:κ.blt (KK κ (arrOf st') (lo+x)) (KK κ (arrOf st') (lo+x-1))with
  |true =>
   have step1:∀ xs:Array Keyed,(∀ k,KK κ xs k=KK κ (arrOf st') k)->DIn κ xs lo (x+1):=by
    intro xs hk i j hij hj
    rw[hk,hk]
    by_cases z:j<x
    ·exact g2 i j hij z
    ·have z:j=x:=by lia
     subst z
     by_cases y:i=j
     ·subst y;exact KeyOrd.kle_refl _
     ·have u:=g2 i (j-1) (by lia) (by lia)
      rw[show lo+(j-1)=lo+j-1 by lia]at u
      exact KeyOrd.kle_trans (KeyOrd.kle_of_klt t) u
   dsimp only
   rw[if_pos rfl]
   by_cases y:q > 0
   ·rw[if_pos y]
    have eqs:∀ k,lo+x-(q+1)<=k->k<lo+x->KK κ (arrOf st') k=KK κ (arrOf st') (lo+x-1):=fun k k1 k2=>by
     have u:=g4 (k-lo) (by omega) (by lia)
     rwa [show lo+(k-lo)=k by lia]at u
    refine wpS_bind (rev_ok (wpS_pure ⟨0,rfl,g1.mirror (by omega) (by lia),step1 _ (KK_mirror_equal hsz eqs),by lia,fun i h1 h2=>by rw[show lo+i=lo+(x+1)-1 by lia]⟩))
   ·rw[if_neg y]
    exact wpS_pure ⟨0,rfl,g1,step1 _ (fun _=>rfl),by lia,fun i h1 h2=>by rw[show lo+i=lo+(x+1)-1 by lia]⟩
  |false =>
   dsimp only
   rw[if_neg Bool.false_ne_true]
   refine wpS_bind (ltAt_ok hO g1 h0 (by lia) (by lia) ?_)
   cases u:κ.blt (KK κ (arrOf st') (lo+x-1)) (KK κ (arrOf st') (lo+x))with
   |true=>exact wpS_pure (h x q st' g1 hax (by lia) g2 g3 g4)
   |false =>
    have ex:KK κ (arrOf st') (lo+x)=KK κ (arrOf st') (lo+x-1):=KeyOrd.kle_antisymm u t
    refine wpS_pure ⟨q+1,rfl,g1,fun i j hij hj=>?_,by lia,fun i h1 h2=>?_⟩
    ·by_cases z:j<x
     ·exact g2 i j hij z
     ·have z:j=x:=by lia
      subst z
      by_cases y:i=j
      ·subst y;exact KeyOrd.kle_refl _
      ·rw[ex]
       have v:=g2 i (j-1) (by lia) (by lia)
       rwa [show lo+(j-1)=lo+j-1 by lia]at v
    ·rw[show lo+(x+1)-1=lo+x by lia]
     by_cases z:i=x
     ·subst z;rfl
     ·rw[ex];exact g4 i (by lia) (by lia)
theorem dpt_ok{st:SortSt}{n nrem:Nat}{Q:Option Nat->SortSt->Prop}(hO:LtOk κ kd prog w A s)(h0:KeysOf κ a₀)(hn:lo+nrem<=a₀.size)(hnn:n+1<=nrem)(hB:SB kd a₀ b lo pd st)(hs:DIn κ (arrOf st) lo (n+1))
  (h:∀ m st',SB kd a₀ b lo pd st'->1<=m->m<=nrem->SIn κ (arrOf st') lo m->Q (some m) st'):wpS (model prog w) A E s (dpt lo n nrem) Q st:=by
 unfold dpt
 refine wpS_bind (wpS_lift (wpAny_rule ⟨rfl,wpS_bind (dsc_ok hO h0 hn (by lia) hnn hB hs fun m q st' g1 m1 m2 g2 g3 g4=>?_)⟩))
 dsimp only
 have hsz:lo+m<=(arrOf st').size:=by rw[g1.size];lia
 by_cases y:q > 0
 ·rw[if_pos y]
  have eqs:∀ k,lo+m-(q+1)<=k->k<lo+m->KK κ (arrOf st') k=KK κ (arrOf st') (lo+m-1):=fun k k1 k2=>by
   have u:=g4 (k-lo) (by omega) (by lia)
   rwa [show lo+(k-lo)=k by lia]at u
  refine wpS_bind (rev_ok (tl3_ok hO h0 hn (by lia) m2 (g1.mirror (by omega) (by lia)) (fun i j hij hj=>?_) h))
  show κ.kle (KK κ (mirror (arrOf st') _ _ _) (lo+j)) (KK κ (mirror (arrOf st') _ _ _) (lo+i))
  rw[KK_mirror_equal hsz eqs,KK_mirror_equal hsz eqs]
  exact g2 i j hij hj
 ·rw[if_neg y]
  exact tl3_ok hO h0 hn (by lia) m2 g1 g2 h
theorem count_ok{st:SortSt}{nrem:Nat}{Q:Option Nat->SortSt->Prop}(hO:LtOk κ kd prog w A s)(h0:KeysOf κ a₀)(hn:lo+nrem<=a₀.size)(h1:1<=nrem)(hB:SB kd a₀ b lo pd st)
  (h:∀ m st',SB kd a₀ b lo pd st'->1<=m->m<=nrem->SIn κ (arrOf st') lo m->Q (some m) st'):wpS (model prog w) A E s (countRun' lo nrem) Q st:=by
 rw[count_eq]
 refine wpS_bind (asc_ok hO h0 hn (Nat.le_refl 1) h1 hB (fun i j hij hj=>by rw[show i=j by lia];exact KeyOrd.kle_refl _) fun n n1 n2 g1 g2=>?_)
 dsimp only
 by_cases z:n=nrem
 ·rw[if_pos (by simpa using z)]
  exact wpS_pure (h n st hB n1 n2 g1)
 ·rw[if_neg (by simpa using z)]
  have t:=g2.resolve_left z
  by_cases y:n > 1
  ·rw[if_pos y]
   refine wpS_bind (ltAt_ok hO hB h0 (by lia) (by omega) ?_)
   cases u:κ.blt (KK κ (arrOf st) lo) (KK κ (arrOf st) (lo+n-1))with
   |true=>exact wpS_pure (h n st hB n1 n2 g1)
   |false =>
    have hsz:lo+n<=(arrOf st).size:=by rw[hB.size];lia
    have eqs:∀ k,lo<=k->k<lo+n->KK κ (arrOf st) k=KK κ (arrOf st) (lo+n-1):=fun k k1 k2=>by
     have a1:=g1 0 (k-lo) (by lia) (by omega)
     have a2:=g1 (k-lo) (n-1) (by lia) (by omega)
     rw[show lo+(k-lo)=k by lia]at a1 a2
     rw[show lo+(n-1)=lo+n-1 by lia]at a2
     exact KeyOrd.kle_antisymm a2 (KeyOrd.kle_trans u a1)
    dsimp only
    rw[if_neg Bool.false_ne_true]
    refine wpS_bind (rev_ok (dpt_ok hO h0 hn (by lia) (hB.mirror (Nat.le_refl _) (by lia)) (fun i j hij hj=>?_) h))
    show κ.kle (KK κ (mirror (arrOf st) _ _ _) (lo+j)) (KK κ (mirror (arrOf st) _ _ _) (lo+i))
    rw[KK_mirror_equal hsz eqs,KK_mirror_equal hsz eqs]
    by_cases v:j<n
    ·rw[eqs (lo+i) (by lia) (by lia),eqs (lo+j) (by lia) (by lia)];exact KeyOrd.kle_refl _
    ·have v:j=n:=by lia
     subst v
     by_cases v:i=j
     ·subst v;exact KeyOrd.kle_refl _
     ·rw[eqs (lo+i) (by lia) (by lia)];exact KeyOrd.kle_of_klt t
  ·rw[if_neg y]
   have z:n=1:=by lia
   subst z
   refine dpt_ok hO h0 hn (by lia) hB (fun i j hij hj=>?_) h
   by_cases v:i=j
   ·subst v;exact KeyOrd.kle_refl _
   ·have e1:i=0:=by lia
    have e2:j=1:=by lia
    subst e1 e2
    exact KeyOrd.kle_of_klt t
theorem bin_ok{st:SortSt}{n ok:Nat}{Q:Bool->SortSt->Prop}(hO:LtOk κ kd prog w A s)(h0:KeysOf κ a₀)(hn:lo+n<=a₀.size)(hok:ok<=n)(hB:SB kd a₀ b lo pd st)(hs:SIn κ (arrOf st) lo ok)
  (h:∀ st',SB kd a₀ b lo pd st'->SIn κ (arrOf st') lo n->Q true st'):wpS (model prog w) A E s (binarySort' lo n ok) Q st:=by
 rw[binarySort'_eq]
 refine wpS_bind (wpS_mono (wpS_forRange (I:=fun k c st'=>c=(none,())/\SB kd a₀ b lo pd st'/\SIn κ (arrOf st') lo (min k n)) (Q:=fun c st'=>c=(none,())/\SB kd a₀ b lo pd st'/\SIn κ (arrOf st') lo n) ?step ?fin ?init) ?post)
 case post =>
  rintro c st' ⟨rfl,g1,g2⟩
  exact wpS_pure (h st' g1 g2)
 case init =>
  refine⟨rfl,hB,fun i j hij hj=>?_⟩
  by_cases h1:ok=0
  ·rw[show i=j by lia];exact KeyOrd.kle_refl _
  ·exact hs i j hij (by lia)
 case fin =>
  rintro c st' ⟨g0,g1,g2⟩
  refine⟨g0,g1,?_⟩
  rwa [show min (max (max ok 1) n) n=n by lia]at g2
 case step =>
  rintro k c st' hak hkn ⟨rfl,g1,g2⟩
  rw[show min k n=k by lia]at g2
  have hk:lo+k<a₀.size:=by lia
  refine wpS_bind (wpS_mono (wpS_forRange (I:=fun x c st''=>st''=st'/\∃ l r,c=(none,l,r)/\l<=r/\r<=k/\r-l<=k-x/\(∀ i,i<l->κ.kle (KK κ (arrOf st') (lo+i)) (KK κ (arrOf st') (lo+k))) /\
     (∀ i,r<=i->i<k->κ.klt (KK κ (arrOf st') (lo+k)) (KK κ (arrOf st') (lo+i))))
   (Q:=fun c st''=>st''=st'/\∃ l r,c=(none,l,r)/\l<=k/\(∀ i,i<l->κ.kle (KK κ (arrOf st') (lo+i)) (KK κ (arrOf st') (lo+k)))/\(∀ i,l<=i->i<k->κ.klt (KK κ (arrOf st') (lo+k)) (KK κ (arrOf st') (lo+i)))) ?istep ?ifin ?iinit) ?ipost)
  case iinit=>exact⟨rfl,0,k,rfl,by lia,by lia,by lia,fun i hi=>by lia,fun i h1 h2=>by lia⟩
  case ifin =>
   rintro c st'' ⟨rfl,l,r,rfl,i1,i2,i3,i4,i5⟩
   have z:l=r:=by lia
   subst z
   exact⟨rfl,l,l,rfl,i2,i4,i5⟩
  case istep =>
   rintro x c st'' _ hxk ⟨rfl,l,r,rfl,i1,i2,i3,i4,i5⟩
   dsimp only
   by_cases y:l >= r
   ·rw[if_pos y]
    have z:l=r:=by lia
    subst z
    exact wpS_pure ⟨rfl,l,l,rfl,i2,i4,i5⟩
   ·rw[if_neg y]
    refine wpS_bind (ltAt_ok hO g1 h0 hk (by lia) ?_)
    cases t:κ.blt (KK κ (arrOf st'') (lo+k)) (KK κ (arrOf st'') (lo+(l+r) / 2))with
    |true =>
     refine wpS_pure ⟨rfl,l,(l+r) / 2,rfl,by lia,by lia,by omega,i4,fun i h1 h2=>?_⟩
     exact KeyOrd.klt_of_klt_of_kle t (g2 _ _ h1 h2)
    |false =>
     refine wpS_pure ⟨rfl,(l+r) / 2+1,r,rfl,by lia,by omega,by omega,fun i h1=>?_,i5⟩
     exact KeyOrd.kle_trans (g2 i ((l+r) / 2) (by lia) (by lia)) (show κ.kle _ _ from t)
  case ipost =>
   rintro c st'' ⟨rfl,l,r,rfl,i2,i4,i5⟩
   show wpS _ _ _ _ (do moveDown' (lo+k) (lo+l);pure (ForInStep.yield (none,()))) _ _
   rw[moveDown'_eq]
   have hks:lo+k <(arrOf st'').size:=by rw[g1.size];exact hk
   refine wpS_bind (wpS_modify (wpS_pure ⟨rfl,g1.arr (bubble_perm _ _ _) fun m hm=>?_,?_⟩))
   ·rw[getElem?_bubble hks _ (by omega),if_neg (by omega),if_neg (by omega)]
   rw[show min (k+1) n=k+1 by lia]
   intro i j hij hj
   show κ.kle (KK κ (bubble (arrOf st'') (lo+k) (lo+k-(lo+l))) (lo+i)) (KK κ (bubble (arrOf st'') (lo+k) (lo+k-(lo+l))) (lo+j))
   rw[KK_bubble hks (by omega),KK_bubble hks (by omega),show lo+k-(lo+k-(lo+l))=lo+l by lia]
   have sh:∀ m,lo+l<lo+m->lo+m-1=lo+(m-1):=fun m hm=>by lia
   repeat' split
   all_goals first
    |(exfalso;lia)
    |exact KeyOrd.kle_refl _
    |exact i4 _ (by lia)
    |(rw[sh _ (by lia)];exact KeyOrd.kle_of_klt (i5 _ (by lia) (by lia)))
    |exact KeyOrd.kle_of_klt (i5 _ (by omega) (by omega))
    |exact g2 _ _ (by omega) (by lia)
    |(rw[sh _ (by lia),sh _ (by lia)];exact g2 _ _ (by omega) (by lia))
    |(rw[sh _ (by lia)];exact g2 _ _ (by lia) (by omega))
end
open PySem PyProof.Rows
noncomputable def gallopP:Bool->Keyed->Array Keyed->Nat->Nat->Nat->StateT SortSt Sem (Option Nat):=sortPriv% PySem.Builtin.gallop
noncomputable def bey(left:Bool)(key:Keyed)(arr:Array Keyed)(base i:Nat):StateT SortSt Sem (Option Bool):=do
 let x <- elem' arr (base+i)
 if left then lt' x key else return (<- lt' key x).map (!·)
noncomputable def gUp(left:Bool)(key:Keyed)(arr:Array Keyed)(base n hint maxofs:Nat):StateT SortSt Sem (Option (Option Nat)×Nat×Nat) :=
 forIn [0:n] ((none,0,1):Option (Option Nat)×Nat×Nat) fun _ c=>do
  if c.2.2 >= maxofs then pure (.done (none,c.2.1,c.2.2))else do
   let x <- bey left key arr base (hint+c.2.2)
   match x with
   |some more=>if(!more)=true then pure (.done (none,c.2.1,c.2.2))else pure (.yield (none,c.2.2,2 * c.2.2+1))
   | _=>pure (.done (some none,c.2.1,c.2.2))
noncomputable def gDn(left:Bool)(key:Keyed)(arr:Array Keyed)(base n hint maxofs:Nat):StateT SortSt Sem (Option (Option Nat)×Nat×Nat) :=
 forIn [0:n] ((none,0,1):Option (Option Nat)×Nat×Nat) fun _ c=>do
  if c.2.2 >= maxofs then pure (.done (none,c.2.1,c.2.2))else do
   let x <- bey left key arr base (hint-c.2.2)
   match x with
   |some found=>if found=true then pure (.done (none,c.2.1,c.2.2))else pure (.yield (none,c.2.2,2 * c.2.2+1))
   | _=>pure (.done (some none,c.2.1,c.2.2))
noncomputable def gBin(left:Bool)(key:Keyed)(arr:Array Keyed)(base n lo hi:Nat):StateT SortSt Sem (Option Nat):=do
 let c <- forIn [0:n] ((none,lo,hi):Option (Option Nat)×Nat×Nat) fun _ c=>do
  if c.2.1 >= c.2.2 then pure (.done (none,c.2.1,c.2.2))else do
   let x <- bey left key arr base (c.2.1+(c.2.2-c.2.1) / 2)
   match x with
   |some more=>if more=true then pure (.yield (none,c.2.1+(c.2.2-c.2.1) / 2+1,c.2.2))else pure (.yield (none,c.2.1,c.2.1+(c.2.2-c.2.1) / 2))
   | _=>pure (.done (some none,c.2.1,c.2.2))
 match c.1 with
 |some r=>pure r
 |none=>pure (some c.2.2)
theorem gallop_eq(left:Bool)(key:Keyed)(arr:Array Keyed)(base n hint:Nat):gallopP left key arr base n hint=(do
  let x <- bey left key arr base hint
  match x with
  |some right =>
   if right=true then do
    let c <- gUp left key arr base n hint (n-hint)
    match c.1 with
    |some r=>pure r
    |none=>gBin left key arr base n (hint+c.2.1+1) (hint+min c.2.2 (n-hint))
   else do
    let c <- gDn left key arr base n hint (hint+1)
    match c.1 with
    |some r=>pure r
    |none=>gBin left key arr base n (hint+1-min c.2.2 (hint+1)) (hint-c.2.1)
  | _=>pure none):=by
 refine bcong (m:=bey left key arr base hint) rfl fun x=>?_
 cases x with
 |none=>rfl
 |some right =>
  dsimp only
  split
  ·refine bcong rfl fun c=>?_
   obtain⟨r,l,o⟩:=c
   cases r with
   |some r=>rfl
   |none =>
    refine bcong rfl fun c=>?_
    obtain⟨r,l,o⟩:=c
    cases r <;> rfl
  ·refine bcong rfl fun c=>?_
   obtain⟨r,l,o⟩:=c
   cases r with
   |some r=>rfl
   |none =>
    refine bcong rfl fun c=>?_
    obtain⟨r,l,o⟩:=c
    cases r <;> rfl
section
variable{prog:Program}{w:World}{A:Around}{E:Value->Shared->Prop}{s:Shared}{kd:SortKind}{left:Bool}{key:Keyed}{arr:Array Keyed}{base n hint:Nat}{Pr:Nat->Bool}{st:SortSt}
noncomputable def BeyOk(prog:Program)(w:World)(A:Around)(s:Shared)(kd:SortKind)(left:Bool)(key:Keyed)(arr:Array Keyed)(base n:Nat)(Pr:Nat->Bool):Prop :=
 ∀ (i:Nat) (E:Value->Shared->Prop) (Q:Option Bool->SortSt->Prop) (st:SortSt),i<n->kindOf st=kd->Q (some (Pr i)) st->wpS (model prog w) A E s (bey left key arr base i) Q st
theorem gBin_ok{lo hi:Nat}{Q:Option Nat->SortSt->Prop}(hb:BeyOk prog w A s kd left key arr base n Pr)(hk:kindOf st=kd)(mono:∀ i j,i<=j->j<n->Pr j=true->Pr i=true)(h1:lo<=hi)(h2:hi<=n)
  (hl:∀ i,i<lo->Pr i=true) (hh:∀ i,hi<=i->i<n->Pr i=false) (h:∀ r,r<=n->(∀ i,i<r->Pr i=true)->(∀ i,r<=i->i<n->Pr i=false)->Q (some r) st) :
  wpS (model prog w) A E s (gBin left key arr base n lo hi) Q st:=by
 unfold gBin
 refine wpS_bind (wpS_mono (wpS_forRange (I:=fun x c st'=>st'=st/\∃ l r,c=(none,l,r)/\l<=r/\r<=n/\r-l<=n-x/\(∀ i,i<l->Pr i=true)/\(∀ i,r<=i->i<n->Pr i=false))
  (Q:=fun c st'=>st'=st/\∃ l r,c=(none,l,r)/\r<=n/\(∀ i,i<r->Pr i=true)/\(∀ i,r<=i->i<n->Pr i=false)) ?step ?fin ⟨rfl,lo,hi,rfl,h1,h2,by lia,hl,hh⟩) ?post)
 case post =>
  rintro c st' ⟨rfl,l,r,rfl,r1,r2,r3⟩
  exact wpS_pure (h r r1 r2 r3)
 case fin =>
  rintro c st' ⟨rfl,l,r,rfl,r1,r2,r3,r4,r5⟩
  have e:l=r:=by lia
  subst e
  exact⟨rfl,l,l,rfl,r2,r4,r5⟩
 case step =>
  rintro x c st' _ hx ⟨rfl,l,r,rfl,r1,r2,r3,r4,r5⟩
  dsimp only
  by_cases y:l >= r
  ·rw[if_pos y]
   have e:l=r:=by lia
   subst e
   exact wpS_pure ⟨rfl,l,l,rfl,r2,r4,r5⟩
  ·rw[if_neg y]
   refine wpS_bind (hb _ _ _ _ (by lia) hk ?_)
   cases t:Pr (l+(r-l) / 2)with
   |true=>exact wpS_pure ⟨rfl,_,_,rfl,by lia,by omega,by omega,fun i hi=>mono i _ (by lia) (by lia) t,r5⟩
   |false =>
    refine wpS_pure ⟨rfl,_,_,rfl,by lia,by lia,by omega,r4,fun i i1 i2=>?_⟩
    cases u:Pr i with
    |false=>rfl
    |true=>rw[mono _ i i1 i2 u]at t;cases t
theorem gallop_ok{Q:Option Nat->SortSt->Prop}(hb:BeyOk prog w A s kd left key arr base n Pr)(hk:kindOf st=kd)(mono:∀ i j,i<=j->j<n->Pr j=true->Pr i=true)(hh:hint<n)
  (h:∀ r,r<=n->(∀ i,i<r->Pr i=true)->(∀ i,r<=i->i<n->Pr i=false)->Q (some r) st):wpS (model prog w) A E s (gallopP left key arr base n hint) Q st:=by
 have anti:∀ i j,i<=j->j<n->Pr i=false->Pr j=false:=fun i j a b c=>by
  cases u:Pr j with
  |false=>rfl
  |true=>rw[mono i j a b u]at c;cases c
 rw[gallop_eq]
 refine wpS_bind (hb _ _ _ _ hh hk ?_)
 cases t:Pr hint with
 |true =>
  dsimp only
  rw[if_pos rfl]
  unfold gUp
  refine wpS_bind (wpS_mono (wpS_forRange (I:=fun x c st'=>st'=st/\∃ l o,c=(none,l,o)/\l<o/\x<o/\l<n-hint/\Pr (hint+l)=true)
   (Q:=fun c st'=>st'=st/\∃ l o,c=(none,l,o)/\l<o/\l<n-hint/\Pr (hint+l)=true/\(o >= n-hint\/(o<n-hint/\Pr (hint+o)=false))) ?step ?fin ⟨rfl,0,1,rfl,by lia,by lia,by omega,t⟩) ?post)
  case post =>
   rintro c st' ⟨rfl,l,o,rfl,c1,c2,c3,c4⟩
   dsimp only
   refine gBin_ok hb hk mono (by omega) (by omega) (fun i hi=>mono i _ (by lia) (by lia) c3) (fun i i1 i2=>?_) h
   rcases c4 with c4 |⟨c4,c5⟩
   ·omega
   ·exact anti _ i (by omega) i2 c5
  case fin =>
   rintro c st' ⟨rfl,l,o,rfl,c1,c2,c3,c4⟩
   exact⟨rfl,l,o,rfl,c1,c3,c4,.inl (by lia)⟩
  case step =>
   rintro x c st' _ hx ⟨rfl,l,o,rfl,c1,c2,c3,c4⟩
   dsimp only
   by_cases y:o >= n-hint
   ·rw[if_pos y]
    exact wpS_pure ⟨rfl,l,o,rfl,c1,c3,c4,.inl y⟩
   ·rw[if_neg y]
    refine wpS_bind (hb _ _ _ _ (by lia) hk ?_)
    cases u:Pr (hint+o)with
    |true=>exact wpS_pure ⟨rfl,o,_,rfl,by lia,by lia,by lia,u⟩
    |false=>exact wpS_pure ⟨rfl,l,o,rfl,c1,c3,c4,.inr ⟨by lia,u⟩⟩
 |false =>
  dsimp only
  rw[if_neg Bool.false_ne_true]
  unfold gDn
  refine wpS_bind (wpS_mono (wpS_forRange (I:=fun x c st'=>st'=st/\∃ l o,c=(none,l,o)/\l<o/\x<o/\l<=hint/\Pr (hint-l)=false)
   (Q:=fun c st'=>st'=st/\∃ l o,c=(none,l,o)/\l<o/\l<=hint/\Pr (hint-l)=false/\(o >= hint+1\/(o<hint+1/\Pr (hint-o)=true))) ?dstep ?dfin ⟨rfl,0,1,rfl,by lia,by lia,by lia,t⟩) ?dpost)
  case dpost =>
   rintro c st' ⟨rfl,l,o,rfl,c1,c2,c3,c4⟩
   dsimp only
   refine gBin_ok hb hk mono (by omega) (by omega) (fun i hi=>?_) (fun i i1 i2=>anti _ i i1 i2 c3) h
   rcases c4 with c4 |⟨c4,c5⟩
   ·omega
   ·exact mono i _ (by omega) (by omega) c5
  case dfin =>
   rintro c st' ⟨rfl,l,o,rfl,c1,c2,c3,c4⟩
   exact⟨rfl,l,o,rfl,c1,c3,c4,.inl (by lia)⟩
  case dstep =>
   rintro x c st' _ hx ⟨rfl,l,o,rfl,c1,c2,c3,c4⟩
   dsimp only
   by_cases y:o >= hint+1
   ·rw[if_pos y]
    exact wpS_pure ⟨rfl,l,o,rfl,c1,c3,c4,.inl y⟩
   ·rw[if_neg y]
    refine wpS_bind (hb _ _ _ _ (by omega) hk ?_)
    cases u:Pr (hint-o)with
    |false=>exact wpS_pure ⟨rfl,o,_,rfl,by lia,by lia,by lia,u⟩
    |true=>exact wpS_pure ⟨rfl,l,o,rfl,c1,c3,c4,.inr ⟨by lia,u⟩⟩
end
noncomputable def mergeLoP:Array Keyed->Array Keyed->StateT SortSt Sem (Array Keyed):=sortPriv% PySem.Builtin.mergeLo
noncomputable def mergeHiP:Array Keyed->Array Keyed->StateT SortSt Sem (Array Keyed):=sortPriv% PySem.Builtin.mergeHi
open PySem PyProof.Rows
noncomputable def kk(κ:KeyKind)(p:Keyed):κ.α:=(κ.keyOf p.1).getD κ.dflt
noncomputable def kL(κ:KeyKind)(p q:Keyed):Prop:=κ.kle (kk κ p) (kk κ q)
theorem KK_of{κ:KeyKind}{xs:Array Keyed}{i:Nat}{p:Keyed}(h:xs[i]?=some p):KK κ xs i=kk κ p:=by unfold KK;rw[h];rfl
structure MI(κ:KeyKind)(T o A B:List Keyed):Prop where
 perm:(o++(A++B)).Perm T
 so:o.Pairwise (kL κ)
 cr:∀ x∈o,∀ y∈A++B,kL κ x y
 sA:A.Pairwise (kL κ)
 sB:B.Pairwise (kL κ)
section
variable{κ:KeyKind}{T o A A' B B' blk:List Keyed}
theorem MI.a(h:MI κ T o (blk++A') B)(hx:∀ x∈blk,∀ y∈B,kL κ x y):MI κ T (o++blk) A' B:=by
 obtain⟨s1,s2,s3⟩:=List.pairwise_append.mp h.sA
 refine⟨?_,List.pairwise_append.mpr ⟨h.so,s1,fun x hx y hy=>h.cr x hx y (by simp[hy])⟩,fun x hx' y hy=>?_,s2,h.sB⟩
 ·have e:=h.perm
  simp only[List.append_assoc]at e ⊢
  exact e
 ·rcases List.mem_append.mp hx' with z | z
  ·exact h.cr x z y (by rcases List.mem_append.mp hy with q | q <;> simp[q])
  ·rcases List.mem_append.mp hy with q | q
   ·exact s3 x z y q
   ·exact hx x z y q
theorem MI.b(h:MI κ T o A (blk++B'))(hx:∀ x∈blk,∀ y∈A,kL κ x y):MI κ T (o++blk) A B':=by
 obtain⟨s1,s2,s3⟩:=List.pairwise_append.mp h.sB
 refine⟨?_,List.pairwise_append.mpr ⟨h.so,s1,fun x hx y hy=>h.cr x hx y (by simp[hy])⟩,fun x hx' y hy=>?_,h.sA,s2⟩
 ·refine List.Perm.trans ?_ h.perm
  rw[List.append_assoc]
  refine List.Perm.append_left o ?_
  rw[<- List.append_assoc,<- List.append_assoc]
  exact List.Perm.append_right B' List.perm_append_comm
 ·rcases List.mem_append.mp hx' with z | z
  ·exact h.cr x z y (by rcases List.mem_append.mp hy with q | q <;> simp[q])
  ·rcases List.mem_append.mp hy with q | q
   ·exact hx x z y q
   ·exact s3 x z y q
noncomputable def Good(κ:KeyKind)(T:List Keyed)(R:Array Keyed):Prop:=R.toList.Perm T/\R.toList.Pairwise (kL κ)
theorem MI.endB{R:Array Keyed}(h:MI κ T o A [])(e:R.toList=o++A):Good κ T R:=by
 refine⟨by rw[e];simpa using h.perm,?_⟩
 rw[e]
 exact List.pairwise_append.mpr ⟨h.so,h.sA,fun x hx y hy=>h.cr x hx y (by simp[hy])⟩
theorem MI.endA{R:Array Keyed}(h:MI κ T o [] B)(e:R.toList=o++B):Good κ T R:=by
 refine⟨by rw[e];simpa using h.perm,?_⟩
 rw[e]
 exact List.pairwise_append.mpr ⟨h.so,h.sB,fun x hx y hy=>h.cr x hx y (by simp[hy])⟩
theorem MI.last{R:Array Keyed}{l:Keyed}(h:MI κ T o [l] B)(hl:∀ y∈B,kL κ y l)(e:R.toList=o++B++[l]):Good κ T R:=by
 have h2:MI κ T (o++B) [l] []:=MI.b (blk:=B) (B':=[]) (by simpa using h) fun x hx y hy=>by
  rw[List.mem_singleton.mp hy]
  exact hl x hx
 exact h2.endB e
structure MH(κ:KeyKind)(T o A B:List Keyed):Prop where
 perm:(A++B++o).Perm T
 so:o.Pairwise (kL κ)
 cr:∀ x∈o,∀ y∈A++B,kL κ y x
 sA:A.Pairwise (kL κ)
 sB:B.Pairwise (kL κ)
theorem MH.a(h:MH κ T o (A'++blk) B)(hx:∀ x∈blk,∀ y∈B,kL κ y x):MH κ T (blk++o) A' B:=by
 obtain⟨s1,s2,s3⟩:=List.pairwise_append.mp h.sA
 refine⟨?_,List.pairwise_append.mpr ⟨s2,h.so,fun x hx y hy=>h.cr y hy x (by simp[hx])⟩,fun x hx' y hy=>?_,s1,h.sB⟩
 ·refine List.Perm.trans ?_ h.perm
  simp only[List.append_assoc]
  refine List.Perm.append_left A' ?_
  rw[<- List.append_assoc,<- List.append_assoc]
  exact List.Perm.append_right o List.perm_append_comm
 ·rcases List.mem_append.mp hx' with z | z
  ·rcases List.mem_append.mp hy with q | q
   ·exact s3 y q x z
   ·exact hx x z y q
  ·exact h.cr x z y (by rcases List.mem_append.mp hy with q | q <;> simp[q])
theorem MH.b(h:MH κ T o A (B'++blk))(hx:∀ x∈blk,∀ y∈A,kL κ y x):MH κ T (blk++o) A B':=by
 obtain⟨s1,s2,s3⟩:=List.pairwise_append.mp h.sB
 refine⟨?_,List.pairwise_append.mpr ⟨s2,h.so,fun x hx y hy=>h.cr y hy x (by simp[hx])⟩,fun x hx' y hy=>?_,h.sA,s1⟩
 ·have e:=h.perm
  simp only[List.append_assoc]at e ⊢
  exact e
 ·rcases List.mem_append.mp hx' with z | z
  ·rcases List.mem_append.mp hy with q | q
   ·exact hx x z y q
   ·exact s3 y q x z
  ·exact h.cr x z y (by rcases List.mem_append.mp hy with q | q <;> simp[q])
theorem MH.endA{R:Array Keyed}(h:MH κ T o [] B)(e:R.toList=B++o):Good κ T R:=by
 refine⟨by rw[e];simpa using h.perm,?_⟩
 rw[e]
 exact List.pairwise_append.mpr ⟨h.sB,h.so,fun x hx y hy=>h.cr y hy x (by simp[hx])⟩
theorem MH.endB{R:Array Keyed}(h:MH κ T o A [])(e:R.toList=A++o):Good κ T R:=by
 refine⟨by rw[e];simpa using h.perm,?_⟩
 rw[e]
 exact List.pairwise_append.mpr ⟨h.sA,h.so,fun x hx y hy=>h.cr y hy x (by simp[hx])⟩
theorem MH.first{R:Array Keyed}{l:Keyed}(h:MH κ T o A [l])(hl:∀ y∈A,kL κ l y)(e:R.toList=[l]++A++o):Good κ T R:=by
 have h2:MH κ T (A++o) [] [l]:=MH.a (blk:=A) (A':=[]) (by simpa using h) fun x hx y hy=>by
  rw[List.mem_singleton.mp hy]
  exact hl x hx
 exact h2.endA (by rw[e,List.append_assoc])
end
theorem drop_at{xs:Array Keyed}{i:Nat}{p:Keyed}(h:xs[i]?=some p):xs.toList.drop i=[p]++xs.toList.drop (i+1):=by
 have hi:i<xs.toList.length:=by
  have:=(Array.getElem?_eq_some_iff.mp h).1
  simpa using this
 rw[List.drop_eq_getElem_cons hi]
 have e:xs.toList[i]=p:=by
  have:=(Array.getElem?_eq_some_iff.mp h).2
  simpa using this
 rw[e];rfl
theorem take_at{xs:Array Keyed}{i:Nat}{p:Keyed}(h:xs[i]?=some p):xs.toList.take (i+1)=xs.toList.take i++[p]:=by
 rw[List.take_add_one]
 have e:xs.toList[i]?=some p:=by rw[<- h];simp
 rw[e];rfl
theorem mem_drop{xs:Array Keyed}{i:Nat}{y:Keyed}(h:y∈xs.toList.drop i):∃ j,i<=j/\j<xs.size/\xs[j]?=some y:=by
 obtain⟨j,hj,e⟩:=List.getElem_of_mem h
 rw[List.length_drop]at hj
 refine⟨i+j,by lia,?_,?_⟩
 ·have:xs.toList.length=xs.size:=by simp
  omega
 ·rw[List.getElem_drop]at e
  have:xs.toList[i+j]?=some y:=by rw[<- e];exact List.getElem?_eq_getElem (by omega)
  rw[<- this];simp
theorem mem_take{xs:Array Keyed}{i:Nat}{y:Keyed}(h:y∈xs.toList.take i):∃ j,j<i/\j<xs.size/\xs[j]?=some y:=by
 obtain⟨j,hj,e⟩:=List.getElem_of_mem h
 rw[List.length_take]at hj
 have hl:xs.toList.length=xs.size:=by simp
 refine⟨j,by lia,by omega,?_⟩
 rw[List.getElem_take]at e
 have:xs.toList[j]?=some y:=by rw[<- e];exact List.getElem?_eq_getElem (by lia)
 rw[<- this];simp
theorem get_of_lt{xs:Array Keyed}{i:Nat}(h:i<xs.size):∃ p,xs[i]?=some p:=⟨xs[i],getElem?_pos _ i h⟩
structure Sm(st st':SortSt):Prop where
 k:kindOf st'=kindOf st
 a:arrOf st'=arrOf st
 p:pendingOf st'=pendingOf st
 f:failedOf st'=failedOf st
theorem Sm.refl(st:SortSt):Sm st st:=⟨rfl,rfl,rfl,rfl⟩
theorem Sm.min{st st':SortSt}(h:Sm st st')(g:Nat):Sm st (SortSt.mk' (kindOf st') (arrOf st') (pendingOf st') g (failedOf st')):=⟨h.k,h.a,h.p,h.f⟩
section
variable{prog:Program}{w:World}{A:Around}{E:Value->Shared->Prop}{s:Shared}{κ:KeyKind}{kd:SortKind}{st:SortSt}
theorem lt_ok{x y:Keyed}{Q:Option Bool->SortSt->Prop}(hO:LtOk κ kd prog w A s)(hk:kindOf st=kd)(hx:∃ a,κ.keyOf x.1=some a)(hy:∃ a,κ.keyOf y.1=some a)(h:Q (some (κ.blt (kk κ x) (kk κ y))) st) :
  wpS (model prog w) A E s (lt' x y) Q st:=by
 obtain⟨a,ha⟩:=hx
 obtain⟨c,hc⟩:=hy
 refine hO E x y a c Q st hk ha hc ?_
 have e1:kk κ x=a:=by unfold kk;rw[ha];rfl
 have e2:kk κ y=c:=by unfold kk;rw[hc];rfl
 rwa [e1,e2]at h
noncomputable def Keyd(κ:KeyKind)(xs:Array Keyed):Prop:=∀ (i:Nat) (p:Keyed),xs[i]?=some p->∃ a,κ.keyOf p.1=some a
theorem bey_left{key:Keyed}{arr:Array Keyed}{base n:Nat}(hO:LtOk κ kd prog w A s)(hk:∃ a,κ.keyOf key.1=some a)(ha:Keyd κ arr)(hn:base+n<=arr.size) :
  BeyOk prog w A s kd true key arr base n fun i=>κ.blt (KK κ arr (base+i)) (kk κ key):=by
 intro i E Q st hi hs h
 obtain⟨p,hp⟩:=get_of_lt (xs:=arr) (i:=base+i) (by lia)
 unfold bey
 refine wpS_bind (elem_ok hp ?_)
 rw[if_pos rfl]
 refine lt_ok hO hs (ha _ _ hp) hk ?_
 dsimp only at h
 rwa [KK_of hp]at h
theorem bey_right{key:Keyed}{arr:Array Keyed}{base n:Nat}(hO:LtOk κ kd prog w A s)(hk:∃ a,κ.keyOf key.1=some a)(ha:Keyd κ arr)(hn:base+n<=arr.size) :
  BeyOk prog w A s kd false key arr base n fun i=>!(κ.blt (kk κ key) (KK κ arr (base+i))):=by
 intro i E Q st hi hs h
 obtain⟨p,hp⟩:=get_of_lt (xs:=arr) (i:=base+i) (by lia)
 unfold bey
 refine wpS_bind (elem_ok hp ?_)
 rw[if_neg Bool.false_ne_true]
 refine wpS_bind (lt_ok hO hs hk (ha _ _ hp) (wpS_pure ?_))
 dsimp only at h
 rwa [KK_of hp]at h
end
open PySem PyProof.Rows
theorem ext_drop(xs:Array Keyed)(i:Nat):(xs.extract i xs.size).toList=xs.toList.drop i:=by
 simp[Array.toList_extract,List.extract_eq_drop_take]
 rw[List.take_of_length_le]
 simp
theorem ext_blk(xs:Array Keyed)(i k:Nat):(xs.extract i (i+k)).toList=(xs.toList.drop i).take k:=by
 simp[Array.toList_extract,List.extract_eq_drop_take]
theorem ext_take(xs:Array Keyed)(k:Nat):(xs.extract 0 k).toList=xs.toList.take k:=by
 simp[Array.toList_extract,List.extract_eq_drop_take]
theorem blk_drop(xs:Array Keyed)(i k:Nat):xs.toList.drop i=(xs.toList.drop i).take k++xs.toList.drop (i+k):=by
 rw[<- List.drop_drop,List.take_append_drop]
theorem drop_all(xs:Array Keyed):xs.toList.drop xs.size=[]:=by simp
section
variable{κ:KeyKind}{a b out:Array Keyed}{T:List Keyed}{ia ib k:Nat}{p:Keyed}
theorem fin_b(h:MI κ T out.toList (a.toList.drop ia) (b.toList.drop ib))(e:ib=b.size):Good κ T (out++a.extract ia a.size++b.extract ib b.size):=by
 subst e
 rw[drop_all]at h
 exact h.endB (by rw[Array.toList_append,Array.toList_append,ext_drop,ext_drop,drop_all,List.append_nil])
theorem fin_a(h:MI κ T out.toList (a.toList.drop ia) (b.toList.drop ib))(e:ia=a.size):Good κ T (out++a.extract ia a.size++b.extract ib b.size):=by
 subst e
 rw[drop_all]at h
 exact h.endA (by rw[Array.toList_append,Array.toList_append,ext_drop,ext_drop,drop_all,List.append_nil])
theorem fin_l(h:MI κ T out.toList (a.toList.drop ia) (b.toList.drop ib))(e:ia+1=a.size)(hl:∀ j,j<b.size->κ.kle (KK κ b j) (KK κ a (a.size-1))):Good κ T (out++b.extract ib b.size++a.extract ia a.size):=by
 obtain⟨l,hl'⟩:=get_of_lt (xs:=a) (i:=ia) (by lia)
 have ed:a.toList.drop ia=[l]:=by rw[drop_at hl',e,drop_all];rfl
 rw[ed]at h
 refine h.last (fun y hy=>?_) (by rw[Array.toList_append,Array.toList_append,ext_drop,ext_drop,ed])
 obtain⟨j,_,j2,j3⟩:=mem_drop hy
 have q:=hl j j2
 rw[show a.size-1=ia by lia,KK_of j3,KK_of hl']at q
 exact q
theorem mv_b(h:MI κ T out.toList (a.toList.drop ia) (b.toList.drop ib))(hp:b[ib]?=some p)(hx:∀ i,ia<=i->i<a.size->κ.kle (KK κ b ib) (KK κ a i)):MI κ T (out.push p).toList (a.toList.drop ia) (b.toList.drop (ib+1)):=by
 rw[drop_at hp]at h
 rw[Array.toList_push]
 refine h.b fun x hx' y hy=>?_
 rw[List.mem_singleton.mp hx']
 obtain⟨j,j1,j2,j3⟩:=mem_drop hy
 have q:=hx j j1 j2
 rw[KK_of hp,KK_of j3]at q
 exact q
theorem mv_a(h:MI κ T out.toList (a.toList.drop ia) (b.toList.drop ib))(hp:a[ia]?=some p)(hx:∀ j,ib<=j->j<b.size->κ.kle (KK κ a ia) (KK κ b j)):MI κ T (out.push p).toList (a.toList.drop (ia+1)) (b.toList.drop ib):=by
 rw[drop_at hp]at h
 rw[Array.toList_push]
 refine h.a fun x hx' y hy=>?_
 rw[List.mem_singleton.mp hx']
 obtain⟨j,j1,j2,j3⟩:=mem_drop hy
 have q:=hx j j1 j2
 rw[KK_of hp,KK_of j3]at q
 exact q
theorem mem_blk{xs:Array Keyed}{i k:Nat}{y:Keyed}(h:y∈(xs.toList.drop i).take k):∃ j,i<=j/\j<i+k/\j<xs.size/\xs[j]?=some y:=by
 obtain⟨j,hj,e⟩:=List.getElem_of_mem h
 rw[List.length_take,List.length_drop]at hj
 have hl:xs.toList.length=xs.size:=by simp
 refine⟨i+j,by lia,by lia,by omega,?_⟩
 rw[List.getElem_take,List.getElem_drop]at e
 have:xs.toList[i+j]?=some y:=by rw[<- e];exact List.getElem?_eq_getElem (by omega)
 rw[<- this];simp
theorem blk_a(h:MI κ T out.toList (a.toList.drop ia) (b.toList.drop ib))(hx:∀ i,ia<=i->i<ia+k->i<a.size->∀ j,ib<=j->j<b.size->κ.kle (KK κ a i) (KK κ b j)) :
  MI κ T (out++a.extract ia (ia+k)).toList (a.toList.drop (ia+k)) (b.toList.drop ib):=by
 rw[blk_drop a ia k]at h
 rw[Array.toList_append,ext_blk]
 refine h.a fun x hx' y hy=>?_
 obtain⟨i,i1,i2,i3,i4⟩:=mem_blk hx'
 obtain⟨j,j1,j2,j3⟩:=mem_drop hy
 have q:=hx i i1 i2 i3 j j1 j2
 rw[KK_of i4,KK_of j3]at q
 exact q
theorem blk_b(h:MI κ T out.toList (a.toList.drop ia) (b.toList.drop ib))(hx:∀ j,ib<=j->j<ib+k->j<b.size->∀ i,ia<=i->i<a.size->κ.kle (KK κ b j) (KK κ a i)) :
  MI κ T (out++b.extract ib (ib+k)).toList (a.toList.drop ia) (b.toList.drop (ib+k)):=by
 rw[blk_drop b ib k]at h
 rw[Array.toList_append,ext_blk]
 refine h.b fun x hx' y hy=>?_
 obtain⟨i,i1,i2,i3,i4⟩:=mem_blk hx'
 obtain⟨j,j1,j2,j3⟩:=mem_drop hy
 have q:=hx i i1 i2 i3 j j1 j2
 rw[KK_of i4,KK_of j3]at q
 exact q
end
theorem wpS_if{M:Model}{A:Around}{E:Value->Shared->Prop}{s:Shared}{σ α:Type}{c:Prop}[Decidable c]{x y:StateT σ Sem α}{Q:α->σ->Prop}{st:σ}(h1:c->wpS M A E s x Q st)(h2:¬ c->wpS M A E s y Q st):wpS M A E s (if c then x else y) Q st:=by
 by_cases h:c
 ·rw[if_pos h];exact h1 h
 ·rw[if_neg h];exact h2 h
theorem pw_of{κ:KeyKind}{xs:Array Keyed}(h:∀ i j,i<=j->j<xs.size->κ.kle (KK κ xs i) (KK κ xs j)):xs.toList.Pairwise (kL κ):=by
 rw[List.pairwise_iff_getElem]
 intro i j hi hj hij
 have hl:xs.toList.length=xs.size:=by simp
 have q:=h i j (by lia) (by omega)
 rw[KK_of (p:=xs.toList[i]) (by rw[<- List.getElem?_eq_getElem hi];simp),KK_of (p:=xs.toList[j]) (by rw[<- List.getElem?_eq_getElem hj];simp)]at q
 exact q
section
variable{prog:Program}{w:World}{A:Around}{E:Value->Shared->Prop}{s:Shared}{κ:KeyKind}{kd:SortKind}{st:SortSt}
variable{a b:Array Keyed}
@[elab_as_elim] theorem el4{α0 α1 α2 α3 ε:Type}{P:α0->α1->α2->α3->Prop}{motive:Option ε×α0×α1×α2×α3->Prop}(c:Option ε×α0×α1×α2×α3)(h:∃ x0 x1 x2 x3,c=(none,x0,x1,x2,x3)/\P x0 x1 x2 x3)(k:∀ x0 x1 x2 x3,P x0 x1 x2 x3->motive (none,x0,x1,x2,x3)):motive c:=by
 obtain⟨x0,x1,x2,x3,rfl,p⟩:=h
 exact k x0 x1 x2 x3 p
@[elab_as_elim] theorem el5{α0 α1 α2 α3 α4 ε:Type}{P:α0->α1->α2->α3->α4->Prop}{motive:Option ε×α0×α1×α2×α3×α4->Prop}(c:Option ε×α0×α1×α2×α3×α4)(h:∃ x0 x1 x2 x3 x4,c=(none,x0,x1,x2,x3,x4)/\P x0 x1 x2 x3 x4)(k:∀ x0 x1 x2 x3 x4,P x0 x1 x2 x3 x4->motive (none,x0,x1,x2,x3,x4)):motive c:=by
 obtain⟨x0,x1,x2,x3,x4,rfl,p⟩:=h
 exact k x0 x1 x2 x3 x4 p
@[elab_as_elim] theorem eo5{α0 α1 α2 α3 α4 ε:Type}{P:α0->α1->α2->α3->α4->Prop}{G:ε->Prop}{motive:Option ε×α0×α1×α2×α3×α4->Prop}(c:Option ε×α0×α1×α2×α3×α4)(h:(∃ R r,c=(some R,r)/\G R)\/∃ x0 x1 x2 x3 x4,c=(none,x0,x1,x2,x3,x4)/\P x0 x1 x2 x3 x4)(k1:∀ R r,G R->motive (some R,r))(k:∀ x0 x1 x2 x3 x4,P x0 x1 x2 x3 x4->motive (none,x0,x1,x2,x3,x4)):motive c:=by
 obtain⟨R,r,rfl,g⟩ | h:=h
 ·exact k1 R r g
 ·exact el5 c h k
@[elab_as_elim] theorem el6{α0 α1 α2 α3 α4 α5 ε:Type}{P:α0->α1->α2->α3->α4->α5->Prop}{motive:Option ε×α0×α1×α2×α3×α4×α5->Prop}(c:Option ε×α0×α1×α2×α3×α4×α5)(h:∃ x0 x1 x2 x3 x4 x5,c=(none,x0,x1,x2,x3,x4,x5)/\P x0 x1 x2 x3 x4 x5)(k:∀ x0 x1 x2 x3 x4 x5,P x0 x1 x2 x3 x4 x5->motive (none,x0,x1,x2,x3,x4,x5)):motive c:=by
 obtain⟨x0,x1,x2,x3,x4,x5,rfl,p⟩:=h
 exact k x0 x1 x2 x3 x4 x5 p
@[elab_as_elim] theorem eo6{α0 α1 α2 α3 α4 α5 ε:Type}{P:α0->α1->α2->α3->α4->α5->Prop}{G:ε->Prop}{motive:Option ε×α0×α1×α2×α3×α4×α5->Prop}(c:Option ε×α0×α1×α2×α3×α4×α5)(h:(∃ R r,c=(some R,r)/\G R)\/∃ x0 x1 x2 x3 x4 x5,c=(none,x0,x1,x2,x3,x4,x5)/\P x0 x1 x2 x3 x4 x5)(k1:∀ R r,G R->motive (some R,r))(k:∀ x0 x1 x2 x3 x4 x5,P x0 x1 x2 x3 x4 x5->motive (none,x0,x1,x2,x3,x4,x5)):motive c:=by
 obtain⟨R,r,rfl,g⟩ | h:=h
 ·exact k1 R r g
 ·exact el6 c h k
structure Shd(P:Prop):Prop where
 out:P
theorem wpS_ifS{c:Prop}[Decidable c]{σ α:Type}{M:Model}{x y:StateT σ Sem α}{Q:α->σ->Prop}{t:σ}{P:Prop}(g:P)(h1:c->Shd P->wpS M A E s x Q t)(h2:¬ c->Shd P->wpS M A E s y Q t):wpS M A E s (if c then x else y) Q t:=by
 split
 ·exact h1 (by assumption) ⟨g⟩
 ·exact h2 (by assumption) ⟨g⟩
theorem mergeLo_ok{Q:Array Keyed->SortSt->Prop}(hO:LtOk κ kd prog w A s)(hk:kindOf st=kd)(ka:Keyd κ a)(kb:Keyd κ b)(hA:∀ i j,i<=j->j<a.size->κ.kle (KK κ a i) (KK κ a j))(hB:∀ i j,i<=j->j<b.size->κ.kle (KK κ b i) (KK κ b j))
  (ha:0<a.size) (hb:0<b.size) (h1:κ.kle (KK κ b 0) (KK κ a 0)) (h2:κ.kle (KK κ b (b.size-1)) (KK κ a (a.size-1)))
  (h:∀ R st',Sm st st'->Good κ (a.toList++b.toList) R->Q R st'):wpS (model prog w) A E s (mergeLoP a b) Q st:=by
 obtain⟨b0,e0⟩:=get_of_lt hb
 generalize hT:a.toList++b.toList=T at h
 have hl:∀ j,j<b.size->κ.kle (KK κ b j) (KK κ a (a.size-1)):=fun j hj=>KeyOrd.kle_trans (hB j (b.size-1) (by omega) (by omega)) h2
 have m0:MI κ T (#[]:Array Keyed).toList (a.toList.drop 0) (b.toList.drop 0):=⟨by rw[<- hT];simp,.nil,fun x hx=>by simp at hx,by simpa using pw_of hA,by simpa using pw_of hB⟩
 have m1:MI κ T (#[b0]:Array Keyed).toList (a.toList.drop 0) (b.toList.drop 1):=mv_b m0 e0 fun i _ hi=>KeyOrd.kle_trans h1 (hA 0 i (by omega) hi)
 refine wpS_bind (wpS_lift (wpAny_rule ⟨rfl,wpS_bind (elem_ok e0 ?_)⟩))
 dsimp only
 by_cases y1:1=b.size
 ·rw[if_pos (by simpa using y1)]
  exact wpS_pure (h _ _ (Sm.refl _) (fin_b m1 y1))
 rw[if_neg (by simpa using y1)]
 by_cases y2:0+1=a.size
 ·rw[if_pos (by simpa using y2)]
  exact wpS_pure (h _ _ (Sm.refl _) (fin_l m1 y2 hl))
 rw[if_neg (by simpa using y2)]
 refine wpS_bind (wpS_get ?_)
 refine wpS_bind (wpS_mono (wpS_forRange (I:=fun x c st'=>Sm st st'/\∃ out ia ib mg,c=(none,out,ia,ib,mg)/\MI κ T out.toList (a.toList.drop ia) (b.toList.drop ib)/\ia+1<a.size/\ib<b.size/\x<ia+ib)
  (Q:=fun c st'=>Sm st st'/\∃ R r,c=(some R,r)/\Good κ T R) ?ostep ?ofin ⟨Sm.refl _,_,_,_,_,rfl,m1,by lia,by lia,by lia⟩) ?opost)
 case opost =>
  rintro c st' ⟨sm,R,r,rfl,g⟩
  exact wpS_pure (h R st' sm g)
 case ofin =>
  rintro c st' ⟨sm,out,ia,ib,mg,rfl,m,q1,q2,q3⟩
  lia
 case ostep =>
  intro x c st1 _ hx hI
  have sm1:=hI.1
  refine el4 c hI.2 fun out ia ib mg hP=>?_
  have m:=hP.1
  have q1:=hP.2.1
  have q2:=hP.2.2.1
  have q3:=hP.2.2.2
  clear hI hP
  dsimp only
  refine wpS_bind (wpS_mono (wpS_forRange (I:=fun y c st'=>Sm st st'/\∃ out ia ib ac bc,c=(none,out,ia,ib,ac,bc)/\MI κ T out.toList (a.toList.drop ia) (b.toList.drop ib)/\ia+1<a.size/\ib<b.size/\x+min y 1<ia+ib)
   (Q:=fun c st'=>Sm st st'/\((∃ R r,c=(some R,r)/\Good κ T R)\/∃ out ia ib ac bc,c=(none,out,ia,ib,ac,bc)/\MI κ T out.toList (a.toList.drop ia) (b.toList.drop ib)/\ia+1<a.size/\ib<b.size/\x+1<ia+ib))
   ?istep ?ifin ⟨sm1,_,_,_,_,_,rfl,m,q1,q2,by lia⟩) ?ipost)
  case ifin =>
   rintro c st' ⟨sm,out,ia,ib,ac,bc,rfl,m,q1,q2,q3⟩
   exact⟨sm,.inr ⟨out,ia,ib,ac,bc,rfl,m,q1,q2,by lia⟩⟩
  case istep =>
   intro y c st2 _ hy hI
   have sm:=hI.1
   refine el5 c hI.2 fun out ia ib ac bc hP=>?_
   have m:=hP.1
   have q1:=hP.2.1
   have q2:=hP.2.2.1
   have q3:=hP.2.2.2
   clear hI hP
   dsimp only
   obtain⟨pb,eb⟩:=get_of_lt q2
   obtain⟨pa,ea⟩:=get_of_lt (xs:=a) (i:=ia) (by lia)
   refine wpS_bind (elem_ok eb (wpS_bind (elem_ok ea (wpS_bind (lt_ok hO (sm.k.trans hk) (kb _ _ eb) (ka _ _ ea) ?_)))))
   cases t:κ.blt (kk κ pb) (kk κ pa)with
   |true =>
    dsimp only
    rw[if_pos rfl]
    have tk:κ.kle (KK κ b ib) (KK κ a ia):=by rw[KK_of eb,KK_of ea];exact KeyOrd.kle_of_klt t
    have m':=mv_b m eb fun i i1 i2=>KeyOrd.kle_trans tk (hA ia i i1 i2)
    refine wpS_bind (elem_ok eb ?_)
    by_cases z:ib+1=b.size
    ·rw[if_pos (by simpa using z)]
     exact wpS_pure ⟨sm,.inl ⟨_,_,rfl,fin_b m' z⟩⟩
    ·rw[if_neg (by simpa using z)]
     split
     ·exact wpS_pure ⟨sm,.inr ⟨_,_,_,_,_,rfl,m',q1,by lia,by lia⟩⟩
     ·exact wpS_pure ⟨sm,_,_,_,_,_,rfl,m',q1,by lia,by lia⟩
   |false =>
    dsimp only
    rw[if_neg Bool.false_ne_true]
    have tk:κ.kle (KK κ a ia) (KK κ b ib):=by rw[KK_of eb,KK_of ea];exact t
    have m':=mv_a m ea fun i i1 i2=>KeyOrd.kle_trans tk (hB ib i i1 i2)
    refine wpS_bind (elem_ok ea ?_)
    by_cases z:ia+1+1=a.size
    ·rw[if_pos (by simpa using z)]
     exact wpS_pure ⟨sm,.inl ⟨_,_,rfl,fin_l m' z hl⟩⟩
    ·rw[if_neg (by simpa using z)]
     split
     ·exact wpS_pure ⟨sm,.inr ⟨_,_,_,_,_,rfl,m',by lia,q2,by lia⟩⟩
     ·exact wpS_pure ⟨sm,_,_,_,_,_,rfl,m',by lia,q2,by lia⟩
  case ipost =>
   intro c st2 hI
   have sm2:=hI.1
   refine eo5 c hI.2 (fun R r g=>?_) fun out ia ib ac bc hP=>?_
   ·exact wpS_pure ⟨sm2,R,_,rfl,g⟩
   have m:=hP.1
   have q1:=hP.2.1
   have q2:=hP.2.2.1
   have q3:=hP.2.2.2
   clear hI hP
   dsimp only
   refine wpS_bind (wpS_lift (wpAny_rule ⟨rfl,?_⟩))
   refine wpS_bind (wpS_mono (wpS_forRange (I:=fun y c st'=>Sm st st'/\∃ out ia ib mg ac bc,c=(none,out,ia,ib,mg,ac,bc)/\MI κ T out.toList (a.toList.drop ia) (b.toList.drop ib)/\ia+1<a.size/\ib<b.size/\x+1<ia+ib)
    (Q:=fun c st'=>Sm st st'/\((∃ R r,c=(some R,r)/\Good κ T R)\/∃ out ia ib mg ac bc,c=(none,out,ia,ib,mg,ac,bc)/\MI κ T out.toList (a.toList.drop ia) (b.toList.drop ib)/\ia+1<a.size/\ib<b.size/\x+1<ia+ib))
    ?gstep ?gfin ⟨sm2,_,_,_,_,_,_,rfl,m,q1,q2,q3⟩) ?gpost)
   case gfin =>
    exact fun c st' hI=>⟨hI.1,.inr hI.2⟩
   case gpost =>
    intro c st3 hI
    have sm3:=hI.1
    refine eo6 c hI.2 (fun R r g=>?_) fun out ia ib mg ac bc hP=>?_
    ·exact wpS_pure ⟨sm3,R,_,rfl,g⟩
    dsimp only
    exact wpS_bind (wpS_modify (wpS_pure ⟨sm3.min _,_,_,_,_,rfl,hP⟩))
   case gstep =>
    intro y c st3 _ hy hI
    have sm:=hI.1
    refine el6 c hI.2 fun out ia ib mg ac bc hP=>?_
    have m:=hP.1
    have q1:=hP.2.1
    have q2:=hP.2.2.1
    have q3:=hP.2.2.2
    clear hI hP
    dsimp only
    obtain⟨pb,eb⟩:=get_of_lt q2
    refine' wpS_ifS (P:=_) ?A0 (fun _ H=>?A1) fun _ H=>?A2
    case A1=>generalize mg-1=z;revert z;exact H.out
    case A2=>exact H.out _
    intro mg
    refine wpS_bind (wpS_modify ?_)
    refine wpS_bind (elem_ok eb (wpS_bind (gallop_ok (bey_right hO (kb _ _ eb) ka (base:=ia) (n:=a.size-ia) (by omega)) ((sm.min _).k.trans hk) (fun i j hij hj t=>?_) (by omega) fun k k1 k2 k3=>?_)))
    ·have t1:κ.kle (KK κ a (ia+j)) (kk κ pb):=by simpa[KeyOrd.kle]using t
     have t2:=KeyOrd.kle_trans (hA (ia+i) (ia+j) (by lia) (by omega)) t1
     simpa[KeyOrd.kle]using t2
    dsimp only
    have low:∀ i,ia<=i->i<ia+k->κ.kle (KK κ a i) (KK κ b ib):=fun i i1 i2=>by
     have q:=k2 (i-ia) (by omega)
     rw[show ia+(i-ia)=i by omega]at q
     rw[KK_of eb]
     simpa[KeyOrd.kle]using q
    have hi0:∀ i,ia+k<=i->i<a.size->κ.kle (KK κ b ib) (KK κ a i):=fun i i1 i2=>by
     have q:=k3 (i-ia) (by omega) (by omega)
     rw[show ia+(i-ia)=i by lia]at q
     rw[KK_of eb]
     exact KeyOrd.kle_of_klt (show κ.blt _ _=true by simpa using q)
    refine' wpS_ifS (P:=_) ?B0 (fun kz H=>?B1) fun kz H=>?B2
    case B1 =>
     have mk:=blk_a (k:=k) m fun i i1 i2 _ j j1 j2=>KeyOrd.kle_trans (low i i1 i2) (hB ib j j1 j2)
     by_cases w1:ia+k+1=a.size
     ·rw[if_pos (by simpa using w1)]
      exact wpS_pure ⟨sm.min _,.inl ⟨_,_,rfl,fin_l mk w1 hl⟩⟩
     rw[if_neg (by simpa using w1)]
     by_cases w2:ia+k=a.size
     ·rw[if_pos (by simpa using w2)]
      exact wpS_pure ⟨sm.min _,.inl ⟨_,_,rfl,fin_a mk w2⟩⟩
     rw[if_neg (by simpa using w2)]
     have pr:x+1<ia+k+ib:=by lia
     have p1:ia+k+1<a.size:=by lia
     have hi1:=hi0
     revert pr p1 hi1 mk
     generalize out++a.extract ia (ia+k)=out1
     generalize ia+k=ia1
     revert out1 ia1
     exact H.out
    case B2 =>
     have k0:k=0:=by lia
     exact H.out _ _ m q3 q1 (fun i i1 i2=>hi0 i (by lia) i2)
    clear low hi0 k1 k2 k3 m q3 q1
    intro out1 ia1 m1 pr p1 hi1
    refine wpS_bind (elem_ok eb ?_)
    have m2:=mv_b m1 eb hi1
    by_cases z:ib+1=b.size
    ·rw[if_pos (by simpa using z)]
     exact wpS_pure ⟨sm.min _,.inl ⟨_,_,rfl,fin_b m2 z⟩⟩
    rw[if_neg (by simpa using z)]
    obtain⟨pa,ea⟩:=get_of_lt (xs:=a) (i:=ia1) (by lia)
    refine wpS_bind (elem_ok ea (wpS_bind (gallop_ok (bey_left hO (ka _ _ ea) kb (base:=ib+1) (n:=b.size-(ib+1)) (by omega)) ((sm.min _).k.trans hk) (fun i j hij hj t=>?_) (by omega) fun k2 l1 l2 l3=>?_)))
    ·exact KeyOrd.klt_of_kle_of_klt (hB (ib+1+i) (ib+1+j) (by lia) (by omega)) t
    dsimp only
    have low2:∀ j,ib+1<=j->j<ib+1+k2->κ.kle (KK κ b j) (KK κ a ia1):=fun j j1 j2=>by
     have q:=l2 (j-(ib+1)) (by omega)
     rw[show ib+1+(j-(ib+1))=j by omega]at q
     rw[KK_of ea]
     exact KeyOrd.kle_of_klt q
    have high2:∀ j,ib+1+k2<=j->j<b.size->κ.kle (KK κ a ia1) (KK κ b j):=fun j j1 j2=>by
     have q:=l3 (j-(ib+1)) (by omega) (by omega)
     rw[show ib+1+(j-(ib+1))=j by omega]at q
     rw[KK_of ea]
     exact q
    refine' wpS_ifS (P:=_) ?C0 (fun kz2 H=>?C1) fun kz2 H=>?C2
    case C1 =>
     have m3:=blk_b (k:=k2) m2 fun j j1 j2 _ i i1 i2=>KeyOrd.kle_trans (low2 j j1 j2) (hA ia1 i i1 i2)
     by_cases z2:ib+1+k2=b.size
     ·rw[if_pos (by simpa using z2)]
      exact wpS_pure ⟨sm.min _,.inl ⟨_,_,rfl,fin_b m3 z2⟩⟩
     rw[if_neg (by simpa using z2)]
     have e1:ib+1+k2<b.size:=by omega
     have e2:x+1<ia1+1+(ib+1+k2):=by lia
     have hi2:=high2
     revert e1 e2 hi2 m3
     generalize out1.push pb++b.extract (ib+1) (ib+1+k2)=out2
     generalize ib+1+k2=ib2
     generalize k2=bc
     revert out2 ib2 bc
     exact H.out
    case C2 =>
     have k0:k2=0:=by lia
     exact H.out _ _ _ m2 (by lia) (by lia) (fun j j1 j2=>high2 j (by lia) j2)
    clear low2 high2 l1 l2 l3 m2 m1
    intro out2 ib2 bc m3 e1 e2 high2
    refine wpS_bind (elem_ok ea ?_)
    have m4:=mv_a m3 ea high2
    by_cases z3:ia1+1+1=a.size
    ·rw[if_pos (by simpa using z3)]
     exact wpS_pure ⟨sm.min _,.inl ⟨_,_,rfl,fin_l m4 z3 hl⟩⟩
    rw[if_neg (by simpa using z3)]
    have e3:ia1+1+1<a.size:=by lia
    refine wpS_if (fun _=>?_) fun _=>?_
    ·exact wpS_pure ⟨sm.min _,.inr ⟨_,_,_,_,_,_,rfl,m4,e3,e1,e2⟩⟩
    ·exact wpS_pure ⟨sm.min _,_,_,_,_,_,_,rfl,m4,e3,e1,e2⟩
end
open PySem PyProof.Rows
section
variable{κ:KeyKind}{a b out:Array Keyed}{T:List Keyed}{na nb k:Nat}{p:Keyed}
theorem rev_out(xs ys out:Array Keyed):(xs++ys++out.reverse).toList=xs.toList++ys.toList++out.toList.reverse:=by simp
theorem hf_a(h:MH κ T out.toList.reverse (a.toList.take na) (b.toList.take nb))(e:na=0):Good κ T (a.extract 0 na++b.extract 0 nb++out.reverse):=by
 subst e
 rw[List.take_zero]at h
 exact h.endA (by rw[rev_out,ext_take,ext_take,List.take_zero,List.nil_append])
theorem hf_b(h:MH κ T out.toList.reverse (a.toList.take na) (b.toList.take nb))(e:nb=0):Good κ T (a.extract 0 na++b.extract 0 nb++out.reverse):=by
 subst e
 rw[List.take_zero]at h
 exact h.endB (by rw[rev_out,ext_take,ext_take,List.take_zero,List.append_nil])
theorem hf_f(h:MH κ T out.toList.reverse (a.toList.take na) (b.toList.take nb))(e:nb=1)(hb:0<b.size)(hl:∀ i,i<a.size->κ.kle (KK κ b 0) (KK κ a i)):Good κ T (b.extract 0 nb++a.extract 0 na++out.reverse):=by
 subst e
 obtain⟨l,hl'⟩:=get_of_lt hb
 have ed:b.toList.take 1=[l]:=by rw[take_at hl'];rfl
 rw[ed]at h
 refine h.first (fun y hy=>?_) (by rw[rev_out,ext_take,ext_take,ed])
 obtain⟨j,_,j2,j3⟩:=mem_take hy
 have q:=hl j j2
 rw[KK_of j3,KK_of hl']at q
 exact q
theorem hm_a(h:MH κ T out.toList.reverse (a.toList.take (na+1)) (b.toList.take nb))(hp:a[na]?=some p)(hx:∀ j,j<nb->j<b.size->κ.kle (KK κ b j) (KK κ a na)):MH κ T (out.push p).toList.reverse (a.toList.take na) (b.toList.take nb):=by
 rw[take_at hp]at h
 have e:(out.push p).toList.reverse=[p]++out.toList.reverse:=by simp
 rw[e]
 refine h.a fun x hx' y hy=>?_
 rw[List.mem_singleton.mp hx']
 obtain⟨j,j1,j2,j3⟩:=mem_take hy
 have q:=hx j j1 j2
 rw[KK_of hp,KK_of j3]at q
 exact q
theorem hm_b(h:MH κ T out.toList.reverse (a.toList.take na) (b.toList.take (nb+1)))(hp:b[nb]?=some p)(hx:∀ i,i<na->i<a.size->κ.kle (KK κ a i) (KK κ b nb)):MH κ T (out.push p).toList.reverse (a.toList.take na) (b.toList.take nb):=by
 rw[take_at hp]at h
 have e:(out.push p).toList.reverse=[p]++out.toList.reverse:=by simp
 rw[e]
 refine h.b fun x hx' y hy=>?_
 rw[List.mem_singleton.mp hx']
 obtain⟨j,j1,j2,j3⟩:=mem_take hy
 have q:=hx j j1 j2
 rw[KK_of hp,KK_of j3]at q
 exact q
theorem take_blk(xs:Array Keyed){i n:Nat}(h:i<=n):xs.toList.take n=xs.toList.take i++(xs.toList.drop i).take (n-i):=by
 rw[<- List.take_add,Nat.add_sub_cancel' h]
theorem out_blk(out xs:Array Keyed){i n:Nat}(h:i<=n):(out++(xs.extract i n).reverse).toList.reverse=(xs.toList.drop i).take (n-i)++out.toList.reverse:=by
 have e:=ext_blk xs i (n-i)
 rw[Nat.add_sub_cancel' h]at e
 rw[<- e]
 simp
theorem hb_a{i:Nat}(hi:i<=na)(h:MH κ T out.toList.reverse (a.toList.take na) (b.toList.take nb))(hx:∀ m,i<=m->m<na->m<a.size->∀ j,j<nb->j<b.size->κ.kle (KK κ b j) (KK κ a m)) :
  MH κ T (out++(a.extract i na).reverse).toList.reverse (a.toList.take i) (b.toList.take nb):=by
 rw[take_blk a hi]at h
 rw[out_blk _ _ hi]
 refine h.a fun x hx' y hy=>?_
 obtain⟨m,i1,i2,i3,i4⟩:=mem_blk hx'
 obtain⟨j,j1,j2,j3⟩:=mem_take hy
 have q:=hx m i1 (by lia) i3 j j1 j2
 rw[KK_of i4,KK_of j3]at q
 exact q
theorem hb_b{i:Nat}(hi:i<=nb)(h:MH κ T out.toList.reverse (a.toList.take na) (b.toList.take nb))(hx:∀ m,i<=m->m<nb->m<b.size->∀ j,j<na->j<a.size->κ.kle (KK κ a j) (KK κ b m)) :
  MH κ T (out++(b.extract i nb).reverse).toList.reverse (a.toList.take na) (b.toList.take i):=by
 rw[take_blk b hi]at h
 rw[out_blk _ _ hi]
 refine h.b fun x hx' y hy=>?_
 obtain⟨m,i1,i2,i3,i4⟩:=mem_blk hx'
 obtain⟨j,j1,j2,j3⟩:=mem_take hy
 have q:=hx m i1 (by lia) i3 j j1 j2
 rw[KK_of i4,KK_of j3]at q
 exact q
end
section
variable{prog:Program}{w:World}{A:Around}{E:Value->Shared->Prop}{s:Shared}{κ:KeyKind}{kd:SortKind}{st:SortSt}
variable{a b:Array Keyed}
theorem mergeHi_ok{Q:Array Keyed->SortSt->Prop}(hO:LtOk κ kd prog w A s)(hk:kindOf st=kd)(ka:Keyd κ a)(kb:Keyd κ b)(hA:∀ i j,i<=j->j<a.size->κ.kle (KK κ a i) (KK κ a j))(hB:∀ i j,i<=j->j<b.size->κ.kle (KK κ b i) (KK κ b j))
  (ha:0<a.size) (hb:0<b.size) (h1:κ.kle (KK κ b 0) (KK κ a 0)) (h2:κ.kle (KK κ b (b.size-1)) (KK κ a (a.size-1)))
  (h:∀ R st',Sm st st'->Good κ (a.toList++b.toList) R->Q R st'):wpS (model prog w) A E s (mergeHiP a b) Q st:=by
 obtain⟨al,el⟩:=get_of_lt (xs:=a) (i:=a.size-1) (by omega)
 generalize hT:a.toList++b.toList=T at h
 have hf:∀ i,i<a.size->κ.kle (KK κ b 0) (KK κ a i):=fun i hi=>KeyOrd.kle_trans h1 (hA 0 i (by lia) hi)
 have m0:MH κ T (#[]:Array Keyed).toList.reverse (a.toList.take (a.size-1+1)) (b.toList.take b.size):=by
  rw[show a.size-1+1=a.size by lia]
  rw[List.take_of_length_le (l:=a.toList) (by simp),List.take_of_length_le (l:=b.toList) (by simp)]
  exact⟨by rw[<- hT];simp,by simp,fun x hx=>by simp at hx,pw_of hA,pw_of hB⟩
 have m1:MH κ T (#[al]:Array Keyed).toList.reverse (a.toList.take (a.size-1)) (b.toList.take b.size):=hm_a m0 el fun j _ hj=>KeyOrd.kle_trans (hB j (b.size-1) (by omega) (by omega)) h2
 refine wpS_bind (wpS_lift (wpAny_rule ⟨rfl,wpS_bind (elem_ok el ?_)⟩))
 dsimp only
 by_cases y1:a.size-1=0
 ·rw[if_pos (by simpa using y1)]
  exact wpS_pure (h _ _ (Sm.refl _) (hf_a m1 y1))
 rw[if_neg (by simpa using y1)]
 by_cases y2:b.size=1
 ·rw[if_pos (by simpa using y2)]
  exact wpS_pure (h _ _ (Sm.refl _) (hf_f m1 y2 hb hf))
 rw[if_neg (by simpa using y2)]
 refine wpS_bind (wpS_get ?_)
 refine wpS_bind (wpS_mono (wpS_forRange (I:=fun x c st'=>Sm st st'/\∃ na nb out mg,c=(none,na,nb,out,mg)/\MH κ T out.toList.reverse (a.toList.take na) (b.toList.take nb)/\0<na/\na<=a.size/\1<nb/\nb<=b.size/\x+na+nb<a.size+b.size)
  (Q:=fun c st'=>Sm st st'/\∃ R r,c=(some R,r)/\Good κ T R) ?ostep ?ofin ⟨Sm.refl _,_,_,_,_,rfl,m1,by lia,by omega,by lia,by lia,by omega⟩) ?opost)
 case opost =>
  rintro c st' ⟨sm,R,r,rfl,g⟩
  exact wpS_pure (h R st' sm g)
 case ofin =>
  rintro c st' ⟨sm,na,nb,out,mg,rfl,m,q1,q1',q2,q2',q3⟩
  lia
 case ostep =>
  intro x c st1 _ hx hI
  have sm1:=hI.1
  refine el4 c hI.2 fun na nb out mg hP=>?_
  have m:=hP.1
  have q1:=hP.2.1
  have q1':=hP.2.2.1
  have q2:=hP.2.2.2.1
  have q2':=hP.2.2.2.2.1
  have q3:=hP.2.2.2.2.2
  clear hI hP
  dsimp only
  refine wpS_bind (wpS_mono (wpS_forRange (I:=fun y c st'=>Sm st st'/\∃ na nb out ac bc,c=(none,na,nb,out,ac,bc)/\MH κ T out.toList.reverse (a.toList.take na) (b.toList.take nb)/\0<na/\na<=a.size/\1<nb/\nb<=b.size/\x+min y 1+na+nb<a.size+b.size)
   (Q:=fun c st'=>Sm st st'/\((∃ R r,c=(some R,r)/\Good κ T R)\/∃ na nb out ac bc,c=(none,na,nb,out,ac,bc)/\MH κ T out.toList.reverse (a.toList.take na) (b.toList.take nb)/\0<na/\na<=a.size/\1<nb/\nb<=b.size/\x+1+na+nb<a.size+b.size))
   ?istep ?ifin ⟨sm1,_,_,_,_,_,rfl,m,q1,q1',q2,q2',by lia⟩) ?ipost)
  case ifin =>
   rintro c st' ⟨sm,na,nb,out,ac,bc,rfl,m,q1,q1',q2,q2',q3⟩
   exact⟨sm,.inr ⟨na,nb,out,ac,bc,rfl,m,q1,q1',q2,q2',by lia⟩⟩
  case istep =>
   intro y c st2 _ hy hI
   have sm:=hI.1
   refine el5 c hI.2 fun na nb out ac bc hP=>?_
   have m:=hP.1
   have q1:=hP.2.1
   have q1':=hP.2.2.1
   have q2:=hP.2.2.2.1
   have q2':=hP.2.2.2.2.1
   have q3:=hP.2.2.2.2.2
   clear hI hP
   dsimp only
   obtain⟨n,rfl⟩:∃ n,na=n+1:=⟨na-1,by omega⟩
   obtain⟨l,rfl⟩:∃ l,nb=l+1:=⟨nb-1,by omega⟩
   obtain⟨pb,eb⟩:=get_of_lt (xs:=b) (i:=l) (by lia)
   obtain⟨pa,ea⟩:=get_of_lt (xs:=a) (i:=n) (by lia)
   refine wpS_bind (elem_ok eb (wpS_bind (elem_ok ea (wpS_bind (lt_ok hO (sm.k.trans hk) (kb _ _ eb) (ka _ _ ea) ?_)))))
   cases t:κ.blt (kk κ pb) (kk κ pa)with
   |true =>
    dsimp only
    rw[if_pos rfl]
    have tk:κ.kle (KK κ b l) (KK κ a n):=by rw[KK_of eb,KK_of ea];exact KeyOrd.kle_of_klt t
    have m':=hm_a m ea fun j j1 j2=>KeyOrd.kle_trans (hB j l (by lia) (by lia)) tk
    refine wpS_bind (elem_ok ea ?_)
    by_cases z:n=0
    ·rw[if_pos (by simpa using z)]
     exact wpS_pure ⟨sm,.inl ⟨_,_,rfl,hf_a m' z⟩⟩
    ·rw[if_neg (by simpa using z)]
     refine wpS_if (fun _=>?_) fun _=>?_
     ·exact wpS_pure ⟨sm,.inr ⟨_,_,_,_,_,rfl,m',by lia,by lia,by omega,by omega,by lia⟩⟩
     ·exact wpS_pure ⟨sm,_,_,_,_,_,rfl,m',by lia,by lia,by omega,by omega,by lia⟩
   |false =>
    dsimp only
    rw[if_neg Bool.false_ne_true]
    have tk:κ.kle (KK κ a n) (KK κ b l):=by rw[KK_of eb,KK_of ea];exact t
    have m':=hm_b m eb fun j j1 j2=>KeyOrd.kle_trans (hA j n (by lia) (by lia)) tk
    refine wpS_bind (elem_ok eb ?_)
    by_cases z:l=1
    ·rw[if_pos (by simpa using z)]
     exact wpS_pure ⟨sm,.inl ⟨_,_,rfl,hf_f m' z hb hf⟩⟩
    ·rw[if_neg (by simpa using z)]
     refine wpS_if (fun _=>?_) fun _=>?_
     ·exact wpS_pure ⟨sm,.inr ⟨_,_,_,_,_,rfl,m',by omega,by omega,by lia,by lia,by lia⟩⟩
     ·exact wpS_pure ⟨sm,_,_,_,_,_,rfl,m',by omega,by omega,by lia,by lia,by lia⟩
  case ipost =>
   intro c st2 hI
   have sm2:=hI.1
   refine eo5 c hI.2 (fun R r g=>?_) fun na nb out ac bc hP=>?_
   ·exact wpS_pure ⟨sm2,R,_,rfl,g⟩
   have m:=hP.1
   have q1:=hP.2.1
   have q1':=hP.2.2.1
   have q2:=hP.2.2.2.1
   have q2':=hP.2.2.2.2.1
   have q3:=hP.2.2.2.2.2
   clear hI hP
   dsimp only
   refine wpS_bind (wpS_lift (wpAny_rule ⟨rfl,?_⟩))
   refine wpS_bind (wpS_mono (wpS_forRange (I:=fun y c st'=>Sm st st'/\∃ na nb out mg ac bc,c=(none,na,nb,out,mg,ac,bc)/\MH κ T out.toList.reverse (a.toList.take na) (b.toList.take nb)/\0<na/\na<=a.size/\1<nb/\nb<=b.size/\x+1+na+nb<a.size+b.size)
    (Q:=fun c st'=>Sm st st'/\((∃ R r,c=(some R,r)/\Good κ T R)\/∃ na nb out mg ac bc,c=(none,na,nb,out,mg,ac,bc)/\MH κ T out.toList.reverse (a.toList.take na) (b.toList.take nb)/\0<na/\na<=a.size/\1<nb/\nb<=b.size/\x+1+na+nb<a.size+b.size))
    ?gstep ?gfin ⟨sm2,_,_,_,_,_,_,rfl,m,q1,q1',q2,q2',q3⟩) ?gpost)
   case gfin =>
    exact fun c st' hI=>⟨hI.1,.inr hI.2⟩
   case gpost =>
    intro c st3 hI
    have sm3:=hI.1
    refine eo6 c hI.2 (fun R r g=>?_) fun na nb out mg ac bc hP=>?_
    ·exact wpS_pure ⟨sm3,R,_,rfl,g⟩
    dsimp only
    have m:=hP.1
    have q1:=hP.2.1
    have q1':=hP.2.2.1
    have q2:=hP.2.2.2.1
    have q2':=hP.2.2.2.2.1
    have q3:=hP.2.2.2.2.2
    clear hI hP
    exact wpS_bind (wpS_modify (wpS_pure ⟨sm3.min _,_,_,_,_,rfl,m,q1,q1',q2,q2',by omega⟩))
   case gstep =>
    intro y c st3 _ hy hI
    have sm:=hI.1
    refine el6 c hI.2 fun na nb out mg ac bc hP=>?_
    have m:=hP.1
    have q1:=hP.2.1
    have q1':=hP.2.2.1
    have q2:=hP.2.2.2.1
    have q2':=hP.2.2.2.2.1
    have q3:=hP.2.2.2.2.2
    clear hI hP
    dsimp only
    obtain⟨l,rfl⟩:∃ l,nb=l+1:=⟨nb-1,by omega⟩
    obtain⟨pb,eb⟩:=get_of_lt (xs:=b) (i:=l) (by lia)
    refine' wpS_ifS (P:=_) ?A0 (fun _ H=>?A1) fun _ H=>?A2
    case A1=>generalize mg-1=z;revert z;exact H.out
    case A2=>exact H.out _
    intro mg
    refine wpS_bind (wpS_modify ?_)
    refine wpS_bind (elem_ok eb (wpS_bind (gallop_ok (bey_right hO (kb _ _ eb) ka (base:=0) (n:=na) (by lia)) ((sm.min _).k.trans hk) (fun i j hij hj t=>?_) (by omega) fun k k1 k2 k3=>?_)))
    ·have t1:κ.kle (KK κ a (0+j)) (kk κ pb):=by simpa[KeyOrd.kle]using t
     have t2:=KeyOrd.kle_trans (hA (0+i) (0+j) (by lia) (by lia)) t1
     simpa[KeyOrd.kle]using t2
    dsimp only
    have lowk:∀ i,i<k->κ.kle (KK κ a i) (KK κ b l):=fun i i1=>by
     have q:=k2 i i1
     rw[Nat.zero_add]at q
     rw[KK_of eb]
     simpa[KeyOrd.kle]using q
    have upk:∀ i,k<=i->i<na->κ.kle (KK κ b l) (KK κ a i):=fun i i1 i2=>by
     have q:=k3 i i1 i2
     rw[Nat.zero_add]at q
     rw[KK_of eb]
     exact KeyOrd.kle_of_klt (show κ.blt _ _=true by simpa using q)
    refine' wpS_ifS (P:=_) ?B0 (fun kz H=>?B1) fun kz H=>?B2
    case B1 =>
     have mk:=hb_a k1 m fun i i1 i2 _ j j1 j2=>KeyOrd.kle_trans (hB j l (by lia) (by lia)) (upk i i1 i2)
     by_cases w1:k=0
     ·rw[if_pos (by simpa using w1)]
      exact wpS_pure ⟨sm.min _,.inl ⟨_,_,rfl,hf_a mk w1⟩⟩
     rw[if_neg (by simpa using w1)]
     have lo1:=lowk
     have p1:0<k:=by lia
     have p2:k<=a.size:=by lia
     have p3:x+1+k+(l+1)<a.size+b.size:=by lia
     revert mk lo1 p1 p2 p3
     generalize out++(a.extract k na).reverse=out1
     generalize na-k=ac1
     generalize k=na1
     revert out1 ac1 na1
     exact H.out
    case B2 =>
     have k0:k=na:=by omega
     exact H.out _ _ _ m (fun i i1=>lowk i (by lia)) q1 q1' q3
    clear lowk upk k1 k2 k3 m q1 q1' q3
    intro out1 ac1 na1 m1 lo1 p1 p2 p3
    refine wpS_bind (elem_ok eb ?_)
    have m2:=hm_b m1 eb fun i i1 _=>lo1 i i1
    by_cases z:l=1
    ·rw[if_pos (by simpa using z)]
     exact wpS_pure ⟨sm.min _,.inl ⟨_,_,rfl,hf_f m2 z hb hf⟩⟩
    rw[if_neg (by simpa using z)]
    obtain⟨n,rfl⟩:∃ n,na1=n+1:=⟨na1-1,by omega⟩
    obtain⟨pa,ea⟩:=get_of_lt (xs:=a) (i:=n) (by lia)
    refine wpS_bind (elem_ok ea (wpS_bind (gallop_ok (bey_left hO (ka _ _ ea) kb (base:=0) (n:=l) (by lia)) ((sm.min _).k.trans hk) (fun i j hij hj t=>?_) (by omega) fun k2 l1 l2 l3=>?_)))
    ·exact KeyOrd.klt_of_kle_of_klt (hB (0+i) (0+j) (by lia) (by lia)) t
    dsimp only
    have low2:∀ j,j<k2->κ.kle (KK κ b j) (KK κ a n):=fun j j1=>by
     have q:=l2 j j1
     rw[Nat.zero_add]at q
     rw[KK_of ea]
     exact KeyOrd.kle_of_klt q
    have up2:∀ j,k2<=j->j<l->κ.kle (KK κ a n) (KK κ b j):=fun j j1 j2=>by
     have q:=l3 j j1 j2
     rw[Nat.zero_add]at q
     rw[KK_of ea]
     exact q
    refine' wpS_ifS (P:=_) ?C0 (fun kz2 H=>?C1) fun kz2 H=>?C2
    case C1 =>
     have m3:=hb_b l1 m2 fun j j1 j2 _ i i1 i2=>KeyOrd.kle_trans (hA i n (by lia) (by lia)) (up2 j j1 j2)
     by_cases z2:k2=1
     ·rw[if_pos (by simpa using z2)]
      exact wpS_pure ⟨sm.min _,.inl ⟨_,_,rfl,hf_f m3 z2 hb hf⟩⟩
     rw[if_neg (by simpa using z2)]
     by_cases z4:k2=0
     ·rw[if_pos (by simpa using z4)]
      exact wpS_pure ⟨sm.min _,.inl ⟨_,_,rfl,hf_b m3 z4⟩⟩
     rw[if_neg (by simpa using z4)]
     have lo2:=low2
     have e1:1<k2:=by lia
     have e2:k2<=b.size:=by lia
     have e3:x+1+n+k2<a.size+b.size:=by lia
     revert m3 lo2 e1 e2 e3
     generalize out1.push pb++(b.extract k2 (l+1-1)).reverse=out2
     generalize l+1-1-k2=bc2
     generalize k2=nb2
     revert out2 bc2 nb2
     exact H.out
    case C2 =>
     have k0:k2=l:=by lia
     exact H.out _ _ _ m2 (fun j j1=>low2 j (by lia)) (by lia) (by lia) (by lia)
    clear low2 up2 l1 l2 l3 m2 m1 p1 p3
    intro out2 bc2 nb2 m3 lo2 e1 e2 e3
    refine wpS_bind (elem_ok ea ?_)
    have m4:=hm_a m3 ea fun j j1 _=>lo2 j j1
    by_cases z3:n=0
    ·rw[if_pos (by simpa using z3)]
     exact wpS_pure ⟨sm.min _,.inl ⟨_,_,rfl,hf_a m4 z3⟩⟩
    rw[if_neg (by simpa using z3)]
    have e4:0<n:=by lia
    have e5:n<=a.size:=by lia
    refine wpS_if (fun _=>?_) fun _=>?_
    ·exact wpS_pure ⟨sm.min _,.inr ⟨_,_,_,_,_,_,rfl,m4,e4,e5,e1,e2,e3⟩⟩
    ·exact wpS_pure ⟨sm.min _,_,_,_,_,_,_,rfl,m4,e4,e5,e1,e2,e3⟩
end
open PySem PyProof.Rows
theorem write_blk:∀ (m:List Keyed) (xs:Array Keyed) (sa j0:Nat),sa+j0+m.length<=xs.size ->
  ((m.zipIdx j0).foldl (fun(a:Array Keyed) (q:Keyed×Nat)=>a.setIfInBounds (sa+q.2) q.1) xs).toList=xs.toList.take (sa+j0)++m++xs.toList.drop (sa+j0+m.length)
 |[],xs,sa,j0,h=>by simp
 |p :: r,xs,sa,j0,h=>by
  rw[List.length_cons]at h
  rw[List.zipIdx_cons,List.foldl_cons,write_blk r _ sa (j0+1) (by rw[Array.size_setIfInBounds];lia)]
  have hl:xs.toList.length=xs.size:=by simp
  rw[Array.toList_setIfInBounds]
  have e1:(xs.toList.set (sa+j0) p).take (sa+(j0+1))=xs.toList.take (sa+j0)++[p]:=by
   rw[show sa+(j0+1)=sa+j0+1 by lia,List.take_add_one,List.take_set_of_le (Nat.le_refl _),List.getElem?_set_self (by lia)]
   rfl
  have e2:(xs.toList.set (sa+j0) p).drop (sa+(j0+1)+r.length)=xs.toList.drop (sa+j0+(p :: r).length):=by
   rw[List.drop_set_of_lt (by lia),List.length_cons]
   congr 1
   lia
  rw[e1,e2]
  simp
theorem SIn.pw{κ:KeyKind}{xs:Array Keyed}{lo n:Nat}(h:SIn κ xs lo n):((xs.toList.drop lo).take n).Pairwise (kL κ):=by
 rw[List.pairwise_iff_getElem]
 intro i j hi hj hij
 rw[List.length_take,List.length_drop]at hi hj
 have hl:xs.toList.length=xs.size:=by simp
 have q:=h i j (by lia) (by lia)
 have g:∀ m,(hm:m<min n (xs.toList.length-lo))->xs[lo+m]?=some (((xs.toList.drop lo).take n)[m]'(by rw[List.length_take,List.length_drop];exact hm)):=fun m hm=>by
  rw[List.getElem_take,List.getElem_drop,<- List.getElem?_eq_getElem (by omega)]
  simp
 rw[KK_of (g i hi),KK_of (g j hj)]at q
 exact q
theorem SIn.of_pw{κ:KeyKind}{xs:Array Keyed}(h:xs.toList.Pairwise (kL κ)):SIn κ xs 0 xs.size:=by
 intro i j hij hj
 rw[Nat.zero_add,Nat.zero_add]
 by_cases e:i=j
 ·subst e;exact KeyOrd.kle_refl _
 obtain⟨p,hp⟩:=get_of_lt (xs:=xs) (i:=i) (by lia)
 obtain⟨q,hq⟩:=get_of_lt (xs:=xs) (i:=j) (by omega)
 rw[KK_of hp,KK_of hq]
 have hl:xs.toList.length=xs.size:=by simp
 have z:=(List.pairwise_iff_getElem.mp h) i j (by lia) (by omega) (by lia)
 have ep:xs.toList[i]'(by lia)=p:=by
  have:=(Array.getElem?_eq_some_iff.mp hp).2
  simpa using this
 have eq:xs.toList[j]'(by omega)=q:=by
  have:=(Array.getElem?_eq_some_iff.mp hq).2
  simpa using this
 rw[ep,eq]at z
 exact z
section
variable{prog:Program}{w:World}{A:Around}{E:Value->Shared->Prop}{s:Shared}{κ:KeyKind}{kd:SortKind}{st:SortSt}{a₀:Array Keyed}{n1 n2 pw:Nat}
theorem keyd_of{xs:Array Keyed}(hp:xs.Perm a₀)(h0:KeysOf κ a₀):Keyd κ xs:=fun i p hi=>by
 have hm:p∈a₀.toList:=(Array.perm_iff_toList_perm.mp hp).mem_iff.mp (by
  have:=Array.mem_of_getElem? hi
  simpa using this)
 exact h0 p hm
theorem keyd_ext{xs:Array Keyed}(h:Keyd κ xs)(i j:Nat):Keyd κ (xs.extract i j):=fun m p hm=>by
 rw[Array.getElem?_extract]at hm
 split at hm
 ·exact h _ _ hm
 ·cases hm
theorem KK_ext{xs:Array Keyed}{i j m:Nat}(hm:m<min j xs.size-i):KK κ (xs.extract i j) m=KK κ xs (i+m):=by
 apply KK_congr
 rw[Array.getElem?_extract,if_pos hm]
theorem wpS_set{σ:Type}{M:Model}{x st:σ}{Q:PUnit->σ->Prop}(h:Q ⟨⟩ x):wpS M A E s (set x:StateT σ Sem PUnit) Q st:=by
 unfold wpS
 rw[StateT.run_set]
 exact wpAny_pure ⟨rfl,h⟩
theorem glue{L P X Y S M:List Keyed}(hL:L=P++X++(Y++S))(hM:M.Perm (X++Y))(sM:M.Pairwise (kL κ))(sa:(P++X).Pairwise (kL κ))(sb:(Y++S).Pairwise (kL κ))(hPY:∀ x∈P,∀ y∈Y++S,kL κ x y)(hXS:∀ x∈X,∀ y∈S,kL κ x y) :
  (P++M++S).Perm L/\(P++M++S).Pairwise (kL κ):=by
 obtain⟨p1,p2,p3⟩:=List.pairwise_append.mp sa
 obtain⟨r1,r2,r3⟩:=List.pairwise_append.mp sb
 constructor
 ·rw[hL]
  simp only[List.append_assoc]
  refine List.Perm.append_left P ?_
  rw[<- List.append_assoc X]
  exact List.Perm.append_right S hM
 ·refine List.pairwise_append.mpr ⟨List.pairwise_append.mpr ⟨p1,sM,fun x hx y hy=>?_⟩,r2,fun x hx y hy=>?_⟩
  ·rcases List.mem_append.mp (hM.mem_iff.mp hy)with q | q
   ·exact p3 x hx y q
   ·exact hPY x hx y (List.mem_append_left _ q)
  ·rcases List.mem_append.mp hx with q | q
   ·exact hPY x q y (List.mem_append_right _ hy)
   ·rcases List.mem_append.mp (hM.mem_iff.mp q)with q | q
    ·exact hXS x q y hy
    ·exact r3 x q y hy
theorem mergeAt_ok{Q:Bool->SortSt->Prop}(hO:LtOk κ kd prog w A s)(h0:KeysOf κ a₀)(hk:kindOf st=kd)(hp:(arrOf st).Perm a₀)(hf:failedOf st=none)(hpd:pendingOf st = #[(0,n1,pw),(n1,n2,0)])(hsz:n1+n2=a₀.size)(h1:0<n1)(h2:0<n2)
  (s1:SIn κ (arrOf st) 0 n1) (s2:SIn κ (arrOf st) n1 n2) (h:∀ st',(arrOf st').Perm a₀->failedOf st'=none->pendingOf st' = #[(0,n1+n2,pw)]->SIn κ (arrOf st') 0 (n1+n2)->kindOf st'=kd->Q true st'):wpS (model prog w) A E s (mergeAt' 0) Q st:=by
 obtain⟨kd',xs,pend,mg,fl⟩:=st
 change kd'=kd at hk
 change xs.Perm a₀ at hp
 change fl=none at hf
 change pend=_ at hpd
 change SIn κ xs 0 n1 at s1
 change SIn κ xs n1 n2 at s2
 subst hk hf hpd
 have hs:xs.size=n1+n2:=by rw[hp.size_eq,hsz]
 have hl:xs.toList.length=n1+n2:=by rw[<- hs];simp
 have kd0:=keyd_of hp h0
 obtain⟨pb,eb⟩:=get_of_lt (xs:=xs) (i:=n1) (by lia)
 have ePd:(#[(0,n1,pw),(n1,n2,0)].setIfInBounds 0 (0,n1+n2,pw)).eraseIdxIfInBounds (0+1) = #[(0,n1+n2,pw)]:=by simp[Array.eraseIdxIfInBounds]
 refine wpS_bind (wpS_get (wpS_bind (wpS_set ?_)))
 dsimp only
 rw[ePd]
 refine wpS_bind (elem_ok eb (wpS_bind (gallop_ok (kd:=kd') (bey_right (arr:=xs) hO (kd0 _ _ eb) kd0 (base:=0) (n:=n1) (by rw[hs,Nat.zero_add];exact Nat.le_add_right n1 n2)) rfl (fun i j hij hj t=>?_) h1 fun k k1 k2 k3=>?_)))
 ·have t1:κ.kle (KK κ xs (0+j)) (kk κ pb):=by simpa[KeyOrd.kle]using t
  have t2:=KeyOrd.kle_trans (s1 i j hij hj) t1
  simpa[KeyOrd.kle]using t2
 dsimp only
 have lowk:∀ i,i<k->κ.kle (KK κ xs i) (KK κ xs n1):=fun i hi=>by
  have q:=k2 i hi
  rw[Nat.zero_add]at q
  rw[KK_of eb]
  simpa[KeyOrd.kle]using q
 have upk:∀ i,k<=i->i<n1->κ.kle (KK κ xs n1) (KK κ xs i):=fun i i1 i2=>by
  have q:=k3 i i1 i2
  rw[Nat.zero_add]at q
  rw[KK_of eb]
  exact KeyOrd.kle_of_klt (show κ.blt _ _=true by simpa using q)
 have hA:∀ i j,i<=j->j<n1->κ.kle (KK κ xs i) (KK κ xs j):=fun i j hij hj=>by simpa using s1 i j hij hj
 have hB:∀ i j,n1<=i->i<=j->j<n1+n2->κ.kle (KK κ xs i) (KK κ xs j):=fun i j h1 hij hj=>by
  have q:=s2 (i-n1) (j-n1) (Nat.sub_le_sub_right hij n1) (Nat.sub_lt_left_of_lt_add (Nat.le_trans h1 hij) hj)
  rwa [Nat.add_sub_cancel' h1,Nat.add_sub_cancel' (Nat.le_trans h1 hij)]at q
 -- nothing to do: all is in order
 have calm:(∀ i j,i<n1->n1<=j->j<n1+n2->κ.kle (KK κ xs i) (KK κ xs j))->SIn κ xs 0 (n1+n2):=fun hc i j hij hj=>by
  rw[Nat.zero_add,Nat.zero_add]
  by_cases j1:j<n1
  ·exact hA i j hij j1
  ·by_cases i1:i<n1
   ·exact hc i j i1 (by lia) hj
   ·exact hB i j (by lia) hij hj
 by_cases z1:n1-k=0
 ·rw[if_pos (by simpa using z1)]
  exact wpS_pure (h _ hp rfl rfl (calm fun i j i1 j1 j2=>KeyOrd.kle_trans (lowk i (Nat.lt_of_lt_of_le i1 (Nat.le_of_sub_eq_zero z1))) (hB n1 j (Nat.le_refl _) j1 j2)) rfl)
 rw[if_neg (by simpa using z1)]
 have pk:0<n1-k:=Nat.pos_of_ne_zero z1
 have eL:0+k+(n1-k)-1=n1-1:=by rw[Nat.zero_add,Nat.add_sub_cancel' k1]
 obtain⟨pa,ea'⟩:=get_of_lt (xs:=xs) (i:=n1-1) (Nat.lt_of_lt_of_le (Nat.sub_lt h1 Nat.one_pos) (hs▸Nat.le_add_right n1 n2))
 have ea:xs[0+k+(n1-k)-1]?=some pa:=by rw[eL];exact ea'
 refine wpS_bind (elem_ok ea (wpS_bind (gallop_ok (kd:=kd') (bey_left (arr:=xs) hO (kd0 _ _ ea) kd0 (base:=n1) (n:=n2) (Nat.le_of_eq hs.symm)) rfl (fun i j hij hj t=>?_) (Nat.sub_lt h2 Nat.one_pos) fun m m1 m2 m3=>?_)))
 ·exact KeyOrd.klt_of_kle_of_klt (s2 i j hij hj) t
 dsimp only
 have lowm:∀ j,n1<=j->j<n1+m->κ.kle (KK κ xs j) (KK κ xs (n1-1)):=fun j j1 j2=>by
  have q:=m2 (j-n1) (Nat.sub_lt_left_of_lt_add j1 j2)
  rw[Nat.add_sub_cancel' j1]at q
  rw[KK_of ea']
  exact KeyOrd.kle_of_klt q
 have upm:∀ j,n1+m<=j->j<n1+n2->κ.kle (KK κ xs (n1-1)) (KK κ xs j):=fun j j1 j2=>by
  have q:=m3 (j-n1) (Nat.le_sub_of_add_le (Nat.add_comm n1 m▸j1)) (Nat.sub_lt_left_of_lt_add (Nat.le_trans (Nat.le_add_right n1 m) j1) j2)
  rw[Nat.add_sub_cancel' (Nat.le_trans (Nat.le_add_right n1 m) j1)]at q
  rw[KK_of ea']
  exact q
 by_cases z2:m=0
 ·rw[if_pos (by simpa using z2)]
  exact wpS_pure (h _ hp rfl rfl (calm fun i j i1 j1 j2=>KeyOrd.kle_trans (hA i (n1-1) (by lia) (by lia)) (upm j (by lia) j2)) rfl)
 rw[if_neg (by simpa using z2)]
 -- the two blocks
 have pm:0<m:=Nat.pos_of_ne_zero z2
 have hn1:n1<=xs.size:=hs▸Nat.le_add_right n1 n2
 have hnm:n1+m<=xs.size:=hs▸Nat.add_le_add_left m1 n1
 have zx:(xs.extract (0+k) n1).size=n1-k:=by rw[Array.size_extract,Nat.min_eq_left hn1,Nat.zero_add]
 have zy:(xs.extract n1 (n1+m)).size=m:=by rw[Array.size_extract,Nat.min_eq_left hnm,Nat.add_sub_cancel_left]
 have kx:=keyd_ext kd0 (0+k) n1
 have ky:=keyd_ext kd0 n1 (n1+m)
 have KX:∀ i,i<n1-k->KK κ (xs.extract (0+k) n1) i=KK κ xs (k+i):=fun i hi=>by
  rw[KK_ext (by rw[Nat.min_eq_left hn1,Nat.zero_add];exact hi),Nat.zero_add]
 have KY:∀ i,i<m->KK κ (xs.extract n1 (n1+m)) i=KK κ xs (n1+i):=fun i hi=>by rw[KK_ext (by rw[Nat.min_eq_left hnm,Nat.add_sub_cancel_left];exact hi)]
 have sX:∀ i j,i<=j->j <(xs.extract (0+k) n1).size->κ.kle (KK κ (xs.extract (0+k) n1) i) (KK κ (xs.extract (0+k) n1) j):=fun i j hij hj=>by
  rw[zx]at hj
  rw[KX i (Nat.lt_of_le_of_lt hij hj),KX j hj]
  exact hA _ _ (Nat.add_le_add_left hij k) (Nat.add_lt_of_lt_sub' hj)
 have sY:∀ i j,i<=j->j <(xs.extract n1 (n1+m)).size->κ.kle (KK κ (xs.extract n1 (n1+m)) i) (KK κ (xs.extract n1 (n1+m)) j):=fun i j hij hj=>by
  rw[zy]at hj
  rw[KY i (Nat.lt_of_le_of_lt hij hj),KY j hj]
  exact hB _ _ (Nat.le_add_right n1 i) (Nat.add_le_add_left hij n1) (Nat.add_lt_add_left (Nat.lt_of_lt_of_le hj m1) n1)
 have f1:κ.kle (KK κ (xs.extract n1 (n1+m)) 0) (KK κ (xs.extract (0+k) n1) 0):=by
  rw[KX 0 pk,KY 0 pm]
  exact upk k (Nat.le_refl _) (Nat.lt_of_sub_pos pk)
 have f2:κ.kle (KK κ (xs.extract n1 (n1+m)) ((xs.extract n1 (n1+m)).size-1)) (KK κ (xs.extract (0+k) n1) ((xs.extract (0+k) n1).size-1)):=by
  rw[zx,zy,KX _ (Nat.sub_lt pk Nat.one_pos),KY _ (Nat.sub_lt pm Nat.one_pos),<- Nat.add_sub_assoc pk,Nat.add_sub_cancel' k1]
  exact lowm _ (Nat.le_add_right n1 _) (Nat.add_lt_add_left (Nat.sub_lt pm Nat.one_pos) n1)
 have eX:(xs.extract (0+k) n1).toList=(xs.toList.drop k).take (n1-k):=by
  have e:=ext_blk xs k (n1-k)
  rw[show k+(n1-k)=n1 by lia]at e
  rw[Nat.zero_add]
  exact e
 have eY:(xs.extract n1 (n1+m)).toList=(xs.toList.drop n1).take m:=ext_blk xs n1 m
 -- behind the merge
 have behind:∀ (R:Array Keyed) (st':SortSt),Sm (SortSt.mk' kd' xs #[(0,n1+n2,pw)] mg none) st'->Good κ ((xs.extract (0+k) n1).toList++(xs.extract n1 (n1+m)).toList) R ->
   Q true (setArr st' ((R.toList.zipIdx).foldl (fun(a:Array Keyed) (q:Keyed×Nat)=>a.setIfInBounds (0+k+q.2) q.1) (arrOf st')))/\failedOf st'=none:=by
  intro R st' sm g
  have ea1:arrOf st'=xs:=sm.a
  have zR:R.toList.length=n1-k+m:=by
   rw[g.1.length_eq,List.length_append,Array.length_toList,Array.length_toList,zx,zy]
  have W:=write_blk R.toList xs (0+k) 0 (by lia)
  have gl:=glue (κ:=κ) (L:=xs.toList) (P:=xs.toList.take k) (X:=(xs.toList.drop k).take (n1-k)) (Y:=(xs.toList.drop n1).take m) (S:=xs.toList.drop (n1+m)) (M:=R.toList)
   (by rw[<- blk_drop xs n1 m,<- take_blk xs (by omega:k<=n1),List.take_append_drop]) (by rw[<- eX,<- eY];exact g.1) g.2
   (by
    rw[<- take_blk xs (by omega:k<=n1)]
    have q:=SIn.pw s1
    rwa [List.drop_zero]at q)
   (by
    rw[<- blk_drop xs n1 m]
    have q:=SIn.pw s2
    rwa [List.take_of_length_le (by rw[List.length_drop];lia)]at q)
   (fun x hx y hy=>by
    rw[<- blk_drop xs n1 m]at hy
    obtain⟨i,i1,i2,i3⟩:=mem_take hx
    obtain⟨j,j1,j2,j3⟩:=mem_drop hy
    have q:=KeyOrd.kle_trans (lowk i i1) (hB n1 j (Nat.le_refl _) j1 (by lia))
    rw[KK_of i3,KK_of j3]at q
    exact q)
   (fun x hx y hy=>by
    obtain⟨i,i1,i2,i3,i4⟩:=mem_blk hx
    obtain⟨j,j1,j2,j3⟩:=mem_drop hy
    have q:=KeyOrd.kle_trans (hA i (n1-1) (by lia) (by omega)) (upm j j1 (by lia))
    rw[KK_of i4,KK_of j3]at q
    exact q)
  have eW:((R.toList.zipIdx).foldl (fun(a:Array Keyed) (q:Keyed×Nat)=>a.setIfInBounds (0+k+q.2) q.1) xs).toList=xs.toList.take k++R.toList++xs.toList.drop (n1+m):=by
   rw[W,zR,show 0+k+0=k by lia,show k+(n1-k+m)=n1+m by lia]
  refine⟨?_,sm.f⟩
  rw[ea1]
  have pp:((R.toList.zipIdx).foldl (fun(a:Array Keyed) (q:Keyed×Nat)=>a.setIfInBounds (0+k+q.2) q.1) xs).Perm a₀:=by
   refine Array.Perm.trans ?_ hp
   rw[Array.perm_iff_toList_perm,eW]
   exact gl.1
  refine h _ pp sm.f sm.p ?_ sm.k
  have q:=SIn.of_pw (κ:=κ) (xs:=(R.toList.zipIdx).foldl (fun(a:Array Keyed) (q:Keyed×Nat)=>a.setIfInBounds (0+k+q.2) q.1) xs) (by rw[eW];exact gl.2)
  rw[pp.size_eq,<- hsz]at q
  exact q
 refine wpS_if (fun _=>?_) fun _=>?_
 ·refine wpS_bind (mergeLo_ok (kd:=kd') hO rfl kx ky sX sY (Nat.lt_of_lt_of_eq pk zx.symm) (Nat.lt_of_lt_of_eq pm zy.symm) f1 f2 fun R st' sm g=>?_)
  obtain⟨q1,q2⟩:=behind R st' sm g
  refine wpS_bind (wpS_modify (wpS_bind (wpS_get (wpS_pure ?_))))
  show Q (failedOf st').isNone _
  rw[q2]
  exact q1
 ·refine wpS_bind (mergeHi_ok (kd:=kd') hO rfl kx ky sX sY (Nat.lt_of_lt_of_eq pk zx.symm) (Nat.lt_of_lt_of_eq pm zy.symm) f1 f2 fun R st' sm g=>?_)
  obtain⟨q1,q2⟩:=behind R st' sm g
  refine wpS_bind (wpS_modify (wpS_bind (wpS_get (wpS_pure ?_))))
  show Q (failedOf st').isNone _
  rw[q2]
  exact q1
end
open PySem PyProof.Rows
theorem minRun_le{n:Nat}(h2:2<=n)(h:n<128):1<=minRun' n n 0/\minRun' n n 0<=n/\n<=2 * minRun' n n 0:=by
 obtain⟨f,hf⟩:∃ f,n=f+1:=⟨n-1,by lia⟩
 have e:minRun' n n 0=if n<64 then n+0 else minRun' f (n / 2) (max 0 (n % 2)):=by
  conv=>lhs;rw[hf]
  rw[minRun'_succ,<- hf]
  all_goals rfl
 rw[e]
 by_cases h6:n<64
 ·rw[if_pos h6];lia
 ·rw[if_neg h6]
  obtain⟨f',hf'⟩:∃ f',f=f' + 1:=⟨f-1,by lia⟩
  rw[hf',minRun'_succ,if_pos (by lia)]
  lia
section
variable{prog:Program}{w:World}{A:Around}{E:Value->Shared->Prop}{s:Shared}{κ:KeyKind}{kd:SortKind}{st:SortSt}{a₀:Array Keyed}
structure One(κ:KeyKind)(kd:SortKind)(a₀:Array Keyed)(st:SortSt):Prop where
 perm:(arrOf st).Perm a₀
 kind:kindOf st=kd
 failed:failedOf st=none
 pend:∃ pw,pendingOf st = #[(0,a₀.size,pw)]
 sort:SIn κ (arrOf st) 0 a₀.size
structure Two(κ:KeyKind)(kd:SortKind)(a₀:Array Keyed)(m1 m2 pw:Nat)(st:SortSt):Prop where
 perm:(arrOf st).Perm a₀
 kind:kindOf st=kd
 failed:failedOf st=none
 pend:pendingOf st = #[(0,m1,pw),(m1,m2,0)]
 len:m1+m2=a₀.size
 p1:0<m1
 p2:0<m2
 s1:SIn κ (arrOf st) 0 m1
 s2:SIn κ (arrOf st) m1 m2
theorem SIn.low{xs ys:Array Keyed}{m:Nat}(h:SIn κ xs 0 m)(e:∀ k,k<m->ys[k]?=xs[k]?):SIn κ ys 0 m:=fun i j hij hj=>by
 rw[KK_congr (ys:=xs) (e (0+i) (by lia)),KK_congr (ys:=xs) (e (0+j) (by lia))]
 exact h i j hij hj
theorem twoP{st:SortSt}{m n pw:Nat}(e:pendingOf st = #[(0,m,0)]):((pendingOf st).modify ((pendingOf st).size-1) fun x=>(x.1,x.2.1,pw)).push (m,n,0) = #[(0,m,pw),(m,n,0)]:=by
 rw[e]
 rfl
theorem runs_ok{Q:Unit->SortSt->Prop}(hO:LtOk κ kd prog w A s)(h0:KeysOf κ a₀)(hB:SB kd a₀ a₀ 0 #[] st)(h2:2<=a₀.size)(h128:a₀.size<128)
  (h:∀ st',(arrOf st').Perm a₀->failedOf st'=none->SIn κ (arrOf st') 0 a₀.size->Q () st'):wpS (model prog w) A E s sortRuns' Q st:=by
 obtain⟨r1,r2,r3⟩:=minRun_le h2 h128
 rw[sortRuns'_eq]
 refine wpS_bind (wpS_get ?_)
 dsimp only
 simp only[hB.size]
 generalize hmr:minRun' a₀.size a₀.size 0=mr at r1 r2 r3 ⊢
 refine wpS_bind (wpS_mono (wpS_forRange
  (I:=fun x c st'=>(x=0/\c=(none,0)/\SB kd a₀ a₀ 0 #[] st')\/(x=1/\∃ m,c=(none,m)/\mr<=m/\m<a₀.size/\SB kd a₀ (arrOf st') m #[(0,m,0)] st'/\SIn κ (arrOf st') 0 m)\/(1<=x/\c=(none,a₀.size)/\(One κ kd a₀ st'\/∃ m1 m2 pw,Two κ kd a₀ m1 m2 pw st')))
  (Q:=fun c st'=>c=(none,a₀.size)/\(One κ kd a₀ st'\/∃ m1 m2 pw,Two κ kd a₀ m1 m2 pw st')) ?step ?fin (.inl ⟨rfl,rfl,hB⟩)) ?post)
 case fin =>
  rintro c st' (⟨hx,_,_⟩ |⟨hx,_⟩ |⟨_,hc,hD⟩)
  ·lia
  ·lia
  ·exact⟨hc,hD⟩
 case step =>
  rintro x c st1 _ hx (⟨rfl,rfl,B1⟩ |⟨rfl,m,rfl,m1,m2,B1,S1⟩ |⟨hx1,rfl,hD⟩)
  ·dsimp only
   rw[if_neg (by lia)]
   refine wpS_bind (count_ok hO h0 (by lia) (by lia) B1 fun m st2 B2 m1 m2 S2=>?_)
   dsimp only
   have done:∀ m' st',SB kd a₀ a₀ 0 #[] st'->mr<=m'->m'<=a₀.size->SIn κ (arrOf st') 0 m' ->
     (x0:Nat)->x0=0+1->(x0=0/\((none,0+m'):Option Unit×Nat)=(none,0)/\SB kd a₀ a₀ 0 #[] (setPending st' ((pendingOf st').push (0,m',0)))) \/
      (x0=1/\∃ m,((none,0+m'):Option Unit×Nat)=(none,m)/\mr<=m/\m<a₀.size/\SB kd a₀ (arrOf (setPending st' ((pendingOf st').push (0,m',0)))) m #[(0,m,0)] (setPending st' ((pendingOf st').push (0,m',0)))/\SIn κ (arrOf (setPending st' ((pendingOf st').push (0,m',0)))) 0 m) \/
      (1<=x0/\((none,0+m'):Option Unit×Nat)=(none,a₀.size)/\(One κ kd a₀ (setPending st' ((pendingOf st').push (0,m',0)))\/∃ m1 m2 pw,Two κ kd a₀ m1 m2 pw (setPending st' ((pendingOf st').push (0,m',0))))):=by
    intro m' st' B a1 a2 S x0 e0
    have ep:(pendingOf st').push (0,m',0) = #[(0,m',0)]:=by rw[B.pend];rfl
    by_cases e:m'=a₀.size
    ·refine .inr (.inr ⟨by lia,by rw[Nat.zero_add,e],.inl ⟨B.perm,B.kind,B.failed,⟨0,?_⟩,by rw[<- e];exact S⟩⟩)
     rw[<- e];exact ep
    ·refine .inr (.inl ⟨by omega,m',by rw[Nat.zero_add],a1,by lia,⟨B.perm,B.kind,B.failed,ep,fun k hk=>rfl⟩,S⟩)
   by_cases hlt:m<mr
   ·rw[if_pos hlt]
    refine wpS_bind (wpS_lift (wpAny_rule ⟨rfl,?_⟩))
    refine wpS_bind (bin_ok hO h0 (by lia) (by lia) B2 S2 fun st3 B3 S3=>?_)
    refine wpS_if (fun z=>absurd z (by simp)) fun _=>?_
    refine wpS_bind (wpS_get ?_)
    have hb:(pendingOf st3).back?=none:=by rw[B3.pend];rfl
    rw[hb]
    dsimp only
    refine wpS_bind (wpS_modify (wpS_pure (done _ _ B3 (by lia) (by lia) S3 _ rfl)))
   ·rw[if_neg hlt]
    refine wpS_bind (wpS_get ?_)
    have hb:(pendingOf st2).back?=none:=by rw[B2.pend];rfl
    rw[hb]
    dsimp only
    refine wpS_bind (wpS_modify (wpS_pure (done _ _ B2 (by lia) (by omega) S2 _ rfl)))
  ·dsimp only
   rw[if_neg (by lia)]
   refine wpS_bind (count_ok hO h0 (by lia) (by lia) B1 fun n st2 B2 n1 n2 S2=>?_)
   dsimp only
   by_cases hlt:n<mr
   ·rw[if_pos hlt]
    refine wpS_bind (wpS_lift (wpAny_rule ⟨rfl,wpS_bind (bin_ok hO h0 (by omega) (by omega) B2 S2 fun st3 B3 S3=>?_)⟩))
    refine wpS_if (fun z=>absurd z (by simp)) fun _=>?_
    refine wpS_bind (wpS_get ?_)
    have hb:(pendingOf st3).back?=some (0,m,0):=by rw[B3.pend];rfl
    rw[hb]
    dsimp only
    refine wpS_bind (wpS_mono (wpS_forRange (I:=fun x c st'=>c=(none,())/\st'=st3) (Q:=fun c st'=>c=(none,())/\st'=st3) ?a ?b ⟨rfl,rfl⟩) ?c)
    case b=>exact fun c st' h=>h
    case a =>
     rintro x c st' _ _ ⟨rfl,rfl⟩
     refine wpS_bind (wpS_get ?_)
     rw[if_neg (by rw[B3.pend];simp)]
     exact wpS_pure ⟨rfl,rfl⟩
    case c =>
     rintro c st' ⟨rfl,rfl⟩
     refine wpS_bind (wpS_modify (wpS_bind (wpS_modify (wpS_pure ?_))))
     exact .inr (.inr ⟨by lia,by rw[show m+min (a₀.size-m) mr=a₀.size by lia],.inr ⟨m,min (a₀.size-m) mr,_,B3.perm,B3.kind,B3.failed,twoP B3.pend,by lia,by lia,by omega,S1.low B3.low,S3⟩⟩)
   ·rw[if_neg hlt]
    refine wpS_bind (wpS_get ?_)
    have hb:(pendingOf st2).back?=some (0,m,0):=by rw[B2.pend];rfl
    rw[hb]
    dsimp only
    refine wpS_bind (wpS_mono (wpS_forRange (I:=fun x c st'=>c=(none,())/\st'=st2) (Q:=fun c st'=>c=(none,())/\st'=st2) ?a ?b ⟨rfl,rfl⟩) ?c)
    case b=>exact fun c st' h=>h
    case a =>
     rintro x c st' _ _ ⟨rfl,rfl⟩
     refine wpS_bind (wpS_get ?_)
     rw[if_neg (by rw[B2.pend];simp)]
     exact wpS_pure ⟨rfl,rfl⟩
    case c =>
     rintro c st' ⟨rfl,rfl⟩
     refine wpS_bind (wpS_modify (wpS_bind (wpS_modify (wpS_pure ?_))))
     exact .inr (.inr ⟨by lia,by rw[show m+n=a₀.size by lia],.inr ⟨m,n,_,B2.perm,B2.kind,B2.failed,twoP B2.pend,by lia,by lia,by lia,S1.low B2.low,S2⟩⟩)
  ·dsimp only
   rw[if_pos (Nat.le_refl _)]
   exact wpS_pure ⟨rfl,hD⟩
 case post =>
  rintro c st1 ⟨rfl,hD⟩
  dsimp only
  refine wpS_bind (wpS_mono (wpS_forRange (I:=fun x c st'=>c=(none,())/\(One κ kd a₀ st'\/(x=0/\∃ m1 m2 pw,Two κ kd a₀ m1 m2 pw st'))) (Q:=fun c st'=>c=(none,())/\One κ kd a₀ st') ?lstep ?lfin ⟨rfl,hD.imp id fun z=>⟨rfl,z⟩⟩) ?lpost)
  case lfin =>
   rintro c st' ⟨hc,z |⟨hx,_⟩⟩
   ·exact⟨hc,z⟩
   ·lia
  case lpost =>
   rintro c st' ⟨rfl,z⟩
   exact wpS_pure (h _ z.perm z.failed z.sort)
  case lstep =>
   rintro x c st2 _ hx ⟨rfl,z |⟨rfl,m1,m2,pw,z⟩⟩
   ·refine wpS_bind (wpS_get ?_)
    obtain⟨pw,ep⟩:=z.pend
    rw[if_pos (by rw[ep];exact Nat.le_refl 1)]
    exact wpS_pure ⟨rfl,z⟩
   ·refine wpS_bind (wpS_get ?_)
    rw[if_neg (by rw[z.pend];simp)]
    have e2:(pendingOf st2).size-2=0:=by rw[z.pend];rfl
    rw[e2]
    refine wpS_bind (mergeAt_ok (pw:=pw) hO h0 z.kind z.perm z.failed z.pend z.len z.p1 z.p2 z.s1 z.s2 fun st3 a1 a2 a3 a4 a5=>?_)
    refine wpS_if (fun z=>absurd z (by simp)) fun _=>?_
    exact wpS_pure ⟨rfl,.inl ⟨a1,a5,a2,⟨pw,by rw[a3,z.len]⟩,by rw[<- z.len];exact a4⟩⟩
end
open PySem PySem.W PyProof.Rows
noncomputable def RawD(d:Addr)(ks:List Value)(ep:Nat)(g:Heap):Prop:=∃ ob en,g.get? d=some ob/\ob.ExactDict/\ob.data = .dict en ep/\en.toList.map (fun r=>r.key)=ks
section
variable{d it:Addr}{ks:List Value}{ep i:Nat}{g g':Heap}{prog:Program}{w:World}{A:Around}{E:Value->Shared->Prop}{s:Shared}
theorem RawD.to(x:RawD d ks ep g)(k:∀ u,g.get? d=some u->g'.get? d=some u):RawD d ks ep g':=by
 obtain⟨ob,en,a,r⟩:=x
 exact⟨ob,en,k _ a,r⟩
theorem RawD.ty(x:RawD d ks ep s.heap):s.TypeIs (.ref d) "dict":=by
 obtain⟨ob,en,a,c,r⟩:=x
 exact⟨ob,a,c.1⟩
theorem RawD.lt(x:RawD d ks ep g):d<g.objs.size:=by
 obtain⟨ob,en,a,c,r⟩:=x
 exact Heap.lt_size a
theorem rawIter{Q:Value->Shared->Prop}(nd:(d == sysModules)=false)(x:RawD d ks ep s.heap)
  (q:Q (.ref s.heap.objs.size) { s with heap:=s.heap.push { cls:=.type "dict_keyiterator",data:=.fields #[.ref d,.int 0 0,.int ks.length 0,.int ep 0] } }) :
  wpAny (model prog w) A (pyIter (.ref d)) Q E s:=by
 have ty:=x.ty
 obtain⟨ob,en,a,c,dt,ke⟩:=x
 have len:en.size=ks.length:=by rw[<- ke];simp
 refine wpAny_pyIter_slot ty F.slot_dict_iter (wpAny_call_entry F.slot_dict_iter ty F.entry_dict_iter ?_ (F.args_dict_iter_1 _))
 unfold Builtin.«dict.__iter__»;refine wpAny_bind ?_
 unfold Builtin.Dict.dictSlotNone;refine wpAny_bind (wpAny_notOrdered_dict ty ?_)
 show wpAny _ _ (pure (Value.ref d)) _ _ s;refine wpAny_pure ?_
 show wpAny _ _ (Builtin.Dict.showsAll d >>= _) _ _ s;unfold Builtin.Dict.showsAll
 rw[if_neg (fun e=>Bool.false_ne_true (nd.symm.trans e))];refine wpAny_bind (wpAny_pure (wpAny_bind (wpAny_dictEntries a dt (wpAny_bind (wpAny_dictEpoch a dt ?_)))))
 refine wpAny_bind (wpAny_newObj_type (wpAny_pure ⟨_,rfl,"dict_keyiterator",_,⟨_,Heap.get?_push_size _ rfl,rfl⟩,F.slot_dict_keyiterator_next.lookup,?_⟩));simpa[rawInt,len]using q
theorem rawItem{v:Value}{Q:Option Value->Shared->Prop}(hI:s.heap.IsKeyIter it d i ks.length ep)(x:RawD d ks ep s.heap)(hv:ks[i]?=some v)
  (q:∀ g',g'.IsKeyIter it d (i+1) ks.length ep->Heap.SameBut it s.heap g'->Q (some v) { s with heap:=g' }):wpAny (model prog w) A (pyNext (.ref it)) Q E s:=by
 obtain⟨io,a0,c0,d0⟩:=id hI
 obtain⟨ob,en,a,c,dt,ke⟩:=x
 have len:en.size=ks.length:=by rw[<- ke];simp
 unfold pyNext;refine wpAny_bind (wpAny_attempt (wpAny_callSpecial?_slot (name:=Str.ofString "__next__") hI.typeIs F.slot_dict_keyiterator_next (wpAny_call_entry F.slot_dict_keyiterator_next hI.typeIs F.entry_dict_keyiterator_next ?_ (F.args_dict_keyiterator_next_1 _))))
 refine wpAny_bind (wpAny_pure (wpAny_bind (wpAny_bind ?_)))
 first | refine wpAny_bind (wpAny_typeNameOfWhole_keyiter hI.typeIs (wpAny_pure ?_)) | refine wpAny_bind (wpAny_typeNameOf_keyiter hI.typeIs (wpAny_pure ?_))
 refine wpAny_bind (wpAny_fieldsOf a0 d0 ?_);have own:Builtin.Dict_items.ownsTuple "dict_keyiterator" = false:=by decide
 simp only[own,Bool.false_eq_true,if_false];show wpAny _ _ (if(Value.ref d == Value.none)=true then _ else _) _ _ s
 rw[if_neg (show ¬((Value.ref d == Value.none)=true)from Bool.false_ne_true)];refine wpAny_bind (wpAny_pure (wpAny_bind (wpAny_dictEntries a dt ?_)))
 rw[if_neg (by rw[len];simp)];refine wpAny_bind (wpAny_pure (wpAny_bind (wpAny_dictEpoch a dt ?_)))
 rw[if_neg (by simp)];refine wpAny_pure ?_
 have il:i<en.size:=by rw[len];exact(List.getElem?_eq_some_iff.mp hv).1
 have iv:en[i].key=v:=by
  have z:(en.toList.map (fun r=>r.key))[i]?=some en[i].key:=by rw[List.getElem?_map,Array.getElem?_toList,Array.getElem?_eq_getElem il];rfl
  rw[ke,hv]at z
  exact(Option.some.inj z).symm
 simp only[show ¬((i:Int)<0)from by lia,if_false,Int.toNat_natCast,Array.getElem?_eq_getElem il];refine wpAny_bind ?_
 first | refine wpAny_bind (wpAny_typeNameOfWhole_keyiter hI.typeIs (wpAny_pure ?_)) | refine wpAny_bind (wpAny_typeNameOf_keyiter hI.typeIs (wpAny_pure ?_))
 refine wpAny_bind (wpAny_isOneOf_keyiter hI.typeIs ?_);show wpAny _ _ (setField (.ref it) 1 (rawInt ((i:Int)+1)) >>= _) _ _ s
 refine wpAny_bind (wpAny_setField a0 d0 (by simp) ?_)
 have hI':(s.heap.update it (Obj.mapFields (·.setIfInBounds 1 (rawInt ((i:Int)+1))))).IsKeyIter it d (i+1) ks.length ep:=⟨_,Heap.get?_update_self _ a0 (Obj.isFreed_of_fields (Obj.data_mapFields d0 _)),(Obj.cls_mapFields ..).trans c0,by rw[Obj.data_mapFields d0];simp[rawInt]⟩
 refine wpAny_bind (wpAny_holding (wpAny_bind (wpAny_isOneOf_keyiter (s:={ s with heap:=s.heap.update it (Obj.mapFields (·.setIfInBounds 1 (rawInt ((i:Int)+1)))) }) hI'.typeIs ?_)))
 show wpAny _ _ (pure en[i].key) _ _ _;rw[iv]
 exact wpAny_pure (wpAny_pure ⟨_,rfl,wpAny_pure (q _ hI' (Heap.SameBut.update ..))⟩)
theorem rawEnd{Q:Option Value->Shared->Prop}(hh:A.handled=none)(hI:s.heap.IsKeyIter it d i ks.length ep)(x:RawD d ks ep s.heap)(hv:ks.length<=i)
  (q:∀ g',Heap.ExtBut it s.heap g'->Q none { s with heap:=g' }):wpAny (model prog w) A (pyNext (.ref it)) Q E s:=by
 obtain⟨io,a0,c0,d0⟩:=id hI
 obtain⟨ob,en,a,c,dt,ke⟩:=x
 have len:en.size=ks.length:=by rw[<- ke];simp
 unfold pyNext;refine wpAny_bind (wpAny_attempt (wpAny_callSpecial?_slot (name:=Str.ofString "__next__") hI.typeIs F.slot_dict_keyiterator_next (wpAny_call_entry F.slot_dict_keyiterator_next hI.typeIs F.entry_dict_keyiterator_next ?_ (F.args_dict_keyiterator_next_1 _))))
 refine wpAny_bind (wpAny_pure (wpAny_bind (wpAny_bind ?_)))
 first | refine wpAny_bind (wpAny_typeNameOfWhole_keyiter hI.typeIs (wpAny_pure ?_)) | refine wpAny_bind (wpAny_typeNameOf_keyiter hI.typeIs (wpAny_pure ?_))
 refine wpAny_bind (wpAny_fieldsOf a0 d0 ?_);have own:Builtin.Dict_items.ownsTuple "dict_keyiterator" = false:=by decide
 simp only[own,Bool.false_eq_true,if_false];show wpAny _ _ (if(Value.ref d == Value.none)=true then _ else _) _ _ s
 rw[if_neg (show ¬((Value.ref d == Value.none)=true)from Bool.false_ne_true)];refine wpAny_bind (wpAny_pure (wpAny_bind (wpAny_dictEntries a dt ?_)))
 rw[if_neg (by rw[len];simp)];refine wpAny_bind (wpAny_pure (wpAny_bind (wpAny_dictEpoch a dt ?_)))
 rw[if_neg (by simp)];refine wpAny_pure ?_
 have il:en.size<=i:=by rw[len];exact hv
 simp only[show ¬((i:Int)<0)from by lia,if_false,Int.toNat_natCast,Array.getElem?_eq_none il];refine wpAny_bind ?_
 first | refine wpAny_bind (wpAny_typeNameOfWhole_keyiter hI.typeIs (wpAny_pure ?_)) | refine wpAny_bind (wpAny_typeNameOf_keyiter hI.typeIs (wpAny_pure ?_))
 show wpAny _ _ (setField (.ref it) 0 .none >>= _) _ _ s;refine wpAny_bind (wpAny_setField a0 d0 (by simp) ?_)
 show wpAny _ _ (newExc (.type "StopIteration") [] >>= _) _ _ _;refine wpAny_bind ?_
 simp only[newExc,newTuple];refine wpAny_bind (wpAny_newObj_type ?_ (by size_fits))
 refine wpAny_bind (m:=firstArgMember _ _) (wpAny_of_eq (a:=Value.none) (by first | rfl |(simp only[firstArgMember];rfl)) (wpAny_newObj_type ?_ (by size_fits)))
 simp only[raiseNew];refine wpAny_bind (wpAny_handled ?_)
 rw[show A.in1.handled=none from hh];refine wpAny_bind (wpAny_pure (wpAny_throw ?_))
 refine wpAny_bind (wpAny_isInstance (T:="StopIteration") (b:=true) ⟨_,Heap.get?_push_size _ rfl,rfl⟩ isSubtype_stop ?_)
 exact wpAny_pure (q _ (((Heap.SameBut.update ..).extBut.push _).push _))
theorem rawWalks(hh:A.handled=none)(I d:Addr)(ne:d≠I)(ks:List Value)(ep:Nat) :
  Walks prog w A I [I,d] [I] ks.length (fun i v=>ks[i]?=some v) (fun i g=>g.IsKeyIter I d i ks.length ep/\RawD d ks ep g)where
 sub:=fun b z=>by simp at z;simp[z]
 frame:=fun _ _ _ st k=>⟨st.1.at fun o e=>k I (by simp) o e,st.2.to fun o e=>k d (by simp) o e⟩
 item:=fun i s Q E hi st hQ=>by
  obtain⟨v,hx⟩:∃ p,ks[i]?=some p:=⟨ks[i],by simp[hi]⟩
  refine rawItem st.1 st.2 hx fun g' it' sb=>?_
  exact hQ v g' s.toks hx ⟨it',st.2.to fun o e=>sb.extBut d o ne e⟩ fun b o z e=>sb.extBut b o (fun h=>z (by simp[h])) e
 done:=fun s Q E st hQ=>rawEnd hh st.1 st.2 (Nat.le_refl _) fun g' e'=>hQ g' s.toks fun b o z e=>e' b o (fun h=>z (by simp[h])) e
 self:=fun _ _ _ _ st hQ=>wpAny_pyIter_keyiter st.1 hQ
theorem rawSrc(nd:(d == sysModules)=false):KdlSrc prog w "dict" d d ks.length (fun i v=>ks[i]?=some v) (RawD d ks ep)where
 type:=fun _ x=>x.ty
 there:=fun _ x=>⟨x.lt,x.lt⟩
 keep:=fun _ _ x k=>x.to fun o e=>k d (.inl rfl) o e
 notList:=by decide
 notTuple:=by decide
 hint:=fun _ _ _ _ x q=>kdl_hint_dict x.ty q
 iter:=fun _ _ hh x=>⟨_,_,(fun _ _ q=>rawIter nd x q),rawWalks hh _ d (Nat.ne_of_lt x.lt) ks ep,⟨⟨_,Heap.get?_push_size _ rfl,rfl,rfl⟩,x.to fun o e=>Heap.get?_push_of_some _ e⟩⟩
end
open PySem PySem.W PyProof.Rows
noncomputable def lexlt:List Int->List Int->Bool
 | _,[]=>false
 |[],_ :: _=>true
 |a :: x,b :: y=>decide (a<b) ||(decide (a=b) && lexlt x y)
theorem lexlt_irrefl:∀ x,lexlt x x=false
 |[]=>rfl
 |a :: x=>by simp[lexlt,lexlt_irrefl x]
theorem lexlt_trans:∀ x y z,lexlt x y=true->lexlt y z=true->lexlt x z=true
 | _,_,[],_,h=>by simp[lexlt]at h
 | _,[],_ :: _,h,_=>by simp[lexlt]at h
 |[],_ :: _,_ :: _,_,_=>rfl
 |a :: x,b :: y,c :: z,h,k=>by
  simp only[lexlt,Bool.or_eq_true,Bool.and_eq_true,decide_eq_true_eq]at h k ⊢
  rcases h with h |⟨h,h'⟩ <;> rcases k with k |⟨k,k'⟩
  ·left;lia
  ·left;lia
  ·left;lia
  ·right;exact⟨by lia,lexlt_trans x y z h' k'⟩
theorem lexlt_neg:∀ x y z,lexlt x z=true->lexlt x y=true\/lexlt y z=true
 | _,_,[],h=>by simp[lexlt]at h
 | _,[],_ :: _,_=>.inr rfl
 |[],_ :: _,_ :: _,_=>.inl rfl
 |a :: x,b :: y,c :: z,h=>by
  simp only[lexlt,Bool.or_eq_true,Bool.and_eq_true,decide_eq_true_eq]at h ⊢
  rcases h with h |⟨h,h'⟩
  ·by_cases e:a<b
   ·exact .inl (.inl e)
   ·exact .inr (.inl (by lia))
  ·rcases lexlt_neg x y z h' with q | q
   ·by_cases e:a<b
    ·exact .inl (.inl e)
    ·by_cases e':a=b
     ·exact .inl (.inr ⟨e',q⟩)
     ·exact .inr (.inl (by lia))
   ·by_cases e:a<b
    ·exact .inl (.inl e)
    ·by_cases e':b=c
     ·exact .inr (.inr ⟨e',q⟩)
     ·exact .inr (.inl (by lia))
theorem lexlt_total:∀ x y,lexlt x y=false->lexlt y x=false->x=y
 |[],[],_,_=>rfl
 |[],_ :: _,h,_=>by simp[lexlt]at h
 | _ :: _,[],_,h=>by simp[lexlt]at h
 |a :: x,b :: y,h,k=>by
  simp only[lexlt,Bool.or_eq_false_iff,Bool.and_eq_false_iff,decide_eq_false_iff_not]at h k
  have e:a=b:=by lia
  subst e
  rw[lexlt_total x y (by simpa using h.2) (by simpa using k.2)]
noncomputable abbrev IntsV(ns:List Int)(us:List Value):Prop:=Paired (fun(i:Int) (u:Value)=>∃ t,u=Value.int i t) ns us
theorem IntsV.inj:∀ {ns ms:List Int}{us:List Value},IntsV ns us->IntsV ms us->ns=ms:=by
 intro ns ms us h
 induction h generalizing ms with
 |nil=>intro h';cases h';rfl
 |cons h r ih =>
  intro h'
  cases h' with
  |cons h2 r' =>
   obtain⟨t,e⟩:=h
   obtain⟨t',e'⟩:=h2
   rw[e]at e'
   cases e'
   rw[ih r']
noncomputable def TupI(g:Heap)(v:Value)(ns:List Int):Prop:=∃ a ob its n,v=Value.ref a/\g.get? a=some ob/\ob.cls = .type "tuple"/\ob.data = .seq its n/\IntsV ns its.toList
theorem TupI.inj{g:Heap}{v:Value}{ns ms:List Int}(x:TupI g v ns)(y:TupI g v ms):ns=ms:=by
 obtain⟨a,ob,its,n,rfl,e,_,d,p⟩:=x
 obtain⟨a',ob',its',n',e',q,_,d',p'⟩:=y
 cases e'
 rw[e]at q
 cases q
 rw[d]at d'
 cases d'
 exact p.inj p'
theorem TupI.to{g g':Heap}{v:Value}{ns:List Int}(x:TupI g v ns)(k:∀ b u,v = .ref b->g.get? b=some u->g'.get? b=some u):TupI g' v ns:=by
 obtain⟨a,ob,its,n,rfl,e,r⟩:=x
 exact⟨a,ob,its,n,rfl,k a ob rfl e,r⟩
open Classical in
noncomputable def κT(g:Heap):KeyKind where
 α:=List Int
 blt:=lexlt
 irrefl:=lexlt_irrefl
 trans:=lexlt_trans
 negTrans:=lexlt_neg
 total:=lexlt_total
 keyOf v:=if h:∃ ns,TupI g v ns then some h.choose else none
 dflt:=[]
open Classical in
theorem κT_key{g:Heap}{v:Value}{ns:List Int}(x:TupI g v ns):(κT g).keyOf v=some ns:=by
 have h:∃ ns,TupI g v ns:=⟨ns,x⟩
 show(if h:∃ ns,TupI g v ns then some h.choose else none)=some ns
 rw[dif_pos h,h.choose_spec.inj x]
open Classical in
theorem κT_of{g:Heap}{v:Value}{ns:List Int}(e:(κT g).keyOf v=some ns):TupI g v ns:=by
 have e':(if h:∃ ns,TupI g v ns then some h.choose else none)=some ns:=e
 by_cases h:∃ ns,TupI g v ns
 ·rw[dif_pos h]at e'
  rw[<- Option.some.inj e']
  exact h.choose_spec
 ·rw[dif_neg h]at e'
  cases e'
section
variable{prog:Program}{w:World}{A:Around}{E:Value->Shared->Prop}{s:Shared}
theorem lex_ok{b fin:Bool}{Q:Bool->Shared->Prop}:∀ {ns ms:List Int}{us vs:List Value} (i:Nat),IntsV ns us->IntsV ms vs->fin=decide (ns.length<ms.length)->Q (lexlt ns ms) s->KatLex prog w A b fin Q (us.zip vs) i s:=by
 intro ns ms us vs i h
 induction h generalizing ms vs i with
 |nil =>
  intro h' e q
  rw[e]
  cases h' with
  |nil=>exact kat_nil q
  |cons _ _=>exact kat_nil (show Q (decide (0<_+1)) s by simpa[lexlt]using q)
 | @cons n u ns us h r ih =>
  intro h' e q
  cases h' with
  |nil=>rw[e];exact kat_nil (by simpa[lexlt]using q)
  | @cons m v ms vs h2 r' =>
   obtain⟨t,e1⟩:=h
   obtain⟨t',e2⟩:=h2
   subst e1 e2
   refine kat_cons (wpAny_eqBool_int (kat_go (fun z=>kat_yes ?_) fun z=>kat_no ?_))
   ·have z':n=m:=by simpa using z
    refine ih (i+1) r' (by rw[e];simp) ?_
    have l:lexlt (n :: ns) (m :: ms)=lexlt ns ms:=by simp[lexlt,z']
    rw[<- l]
    exact q
   ·have z':n≠m:=by simpa using z
    have l:lexlt (n :: ns) (m :: ms)=decide (n<m):=by simp[lexlt,z']
    rw[l]at q
    cases hb:(b && i == 0)with
    |true=>exact oneLt_int q
    |false=>exact kat_one _ _ (lt_int q)
theorem ltT_ok{h₁:Heap}{b:Bool}(kp:∀ v ns,TupI h₁ v ns->TupI s.heap v ns):LtOk (κT h₁) (tuples' b) prog w A s:=by
 intro E x y ka kb Q st hk ha hb q
 obtain⟨a,ob,its,n,e1,g1,_,d1,p1⟩:=kp _ _ (κT_of ha)
 obtain⟨a',ob',its',n',e2,g2,_,d2,p2⟩:=kp _ _ (κT_of hb)
 rw[lt'_eq]
 refine wpS_bind (wpS_get ?_)
 rw[hk,e1,e2]
 have l1:ka.length=its.size:=by rw[p1.length];simp
 have l2:kb.length=its'.size:=by rw[p2.length];simp
 refine wpS_bind (wpS_lift (wpAny_attempt (kat_lt g1 d1 g2 d2 (lex_ok (ns:=ka) (ms:=kb) 0 p1 p2 (by rw[l1,l2]) ⟨rfl,?_⟩))))
 exact wpS_pure q
theorem map2_pairs:∀ {l:List Keyed},(∀ p∈l,p.1=p.2)->(l.map (·.2)).zip (l.map (·.2))=l
 |[],_=>rfl
 |p :: l,h=>by
  have e:p.1=p.2:=h p (List.mem_cons_self ..)
  show(p.2,p.2) :: (l.map (·.2)).zip (l.map (·.2))=_
  rw[map2_pairs fun q hq=>h q (List.mem_cons_of_mem _ hq)]
  congr 1
  exact Prod.ext e.symm rfl
theorem mem_zip_self:∀ {l:List Value}{p:Keyed},p∈l.zip l->p.1=p.2/\p.2∈l
 |[],p,h=>by simp at h
 |v :: l,p,h=>by
  rcases List.mem_cons.mp (show p∈(v,v) :: l.zip l from h)with e | e
  ·rw[e];exact⟨rfl,List.mem_cons_self ..⟩
  ·exact⟨(mem_zip_self e).1,List.mem_cons_of_mem _ (mem_zip_self e).2⟩
theorem map2_zip:∀ {l:List Value},(l.zip l).map (·.2)=l
 |[]=>rfl
 |v :: l=>by show v :: (l.zip l).map (·.2)=_;rw[map2_zip]
theorem back_pairs{xs:Array Keyed}{vs:List Value}(hp:xs.Perm (pairsOf vs)):xs=pairsOf (xs.toList.map (·.2))/\(xs.toList.map (·.2)).Perm vs:=by
 have hp':xs.toList.Perm (vs.zip vs):=by
  have:=Array.perm_iff_toList_perm.mp hp
  rw[pairsOf_toList]at this
  exact this
 refine⟨?_,?_⟩
 ·apply Array.ext'
  rw[pairsOf_toList,map2_pairs fun p hq=>(mem_zip_self (hp'.mem_iff.mp hq)).1]
 ·have:=hp'.map (·.2)
  rw[map2_zip]at this
  exact this
theorem sort_at{κ:KeyKind}{kd:SortKind}{a:Addr}{vs:List Value}{n:Nat}{P:Fin->Shared->Prop}(ho:s.heap.get? a=some (seqObj "list" vs.toArray n))(h0:KeysOf κ (pairsOf vs))(hl:vs.length<128)
  (hk:2<=vs.length->∀ g:Heap,(∀ b u,b≠a->s.heap.get? b=some u->g.get? b=some u)->LtOk κ kd prog w A { s with heap:=g }/\∀ R:SortKind->Shared->Prop,R kd { s with heap:=g }->wpAny (model prog w) A (keyKind' vs.toArray) R E { s with heap:=g })
  (h:∀ (ws:List Value) (g:Heap) (c:Nat),ws.Perm vs->SortedToK κ (pairsOf ws) ws.length->(∀ b u,b≠a->s.heap.get? b=some u->g.get? b=some u)->g.get? a=some (seqObj "list" ws.toArray c)->P (.done (.ret .none)) { s with heap:=g }) :
  wpAny (model prog w) A (Builtin.«list.sort» ⟨[.ref a],[]⟩) P E s:=by
 have lt0:a<s.heap.objs.size:=Heap.lt_size ho
 have k1:∀ b u,b≠a->s.heap.get? b=some u->(s.heap.update a (Obj.mapSeq fun _=>#[])).get? b=some u:=fun b u ne e=>by rw[Heap.get?_update_ne _ _ _ _ ne];exact e
 obtain⟨c1,g1⟩:∃ c1,(s.heap.update a (Obj.mapSeq fun _=>#[])).get? a=some (seqObj "list" #[] c1):=⟨_,get?_update_seq ho _⟩
 generalize hg1:s.heap.update a (Obj.mapSeq fun _=>#[])=G1 at k1 g1
 have k2:∀ b u,b≠a->s.heap.get? b=some u->((G1.push (seqObj "tuple" vs.toArray 0)).push (seqObj "list" #[] 0)).get? b=some u:=fun b u ne e=>Heap.get?_push_of_some _ (Heap.get?_push_of_some _ (k1 b u ne e))
 have g2:((G1.push (seqObj "tuple" vs.toArray 0)).push (seqObj "list" #[] 0)).get? a=some (seqObj "list" #[] c1):=Heap.get?_push_of_some _ (Heap.get?_push_of_some _ g1)
 rw[list_sort_plain]
 refine wpAny_bind (listItems_at ho rfl (wpAny_bind (listUpdate_at ho rfl ?_ (hsz:=by rw[List.size_toArray,sizeLine_eq];lia))))
 rw[hg1]
 refine wpAny_bind (seqEpoch_at g1 rfl (wpAny_bind (wpAny_newTuple ?_ (by show vs.length<=_;rw[sizeLine_eq];lia))))
 refine wpAny_bind (wpAny_newList (wpAny_holding ?_))
 show wpAny (model prog w) A _ P E { s with heap:=(G1.push (seqObj "tuple" vs.toArray 0)).push (seqObj "list" #[] 0) }
 generalize (G1.push (seqObj "tuple" vs.toArray 0)).push (seqObj "list" #[] 0)=G2 at k2 g2
 dsimp only
 have fin:∀ st':SortSt,(arrOf st').Perm (pairsOf vs)->SortedToK κ (arrOf st') (pairsOf vs).size->P (.done (.ret .none)) { s with heap:=G2.update a (Obj.mapSeq fun _=>(arrOf st').map (·.2)) }:=fun st' hp hs=>by
  obtain⟨e,p⟩:=back_pairs hp
  obtain⟨c3,g3⟩:∃ c3,(G2.update a (Obj.mapSeq fun _=>(arrOf st').map (·.2))).get? a=some (seqObj "list" ((arrOf st').map (·.2)) c3):=⟨_,get?_update_seq g2 _⟩
  refine h ((arrOf st').toList.map (·.2)) _ c3 p ?_ (fun b u ne z=>by rw[Heap.get?_update_ne _ _ _ _ ne];exact k2 b u ne z) ?_
  ·rw[<- e]
   have l2:(pairsOf vs).size=((arrOf st').toList.map (·.2)).length:=by rw[pairsOf_size,p.length_eq]
   rw[<- l2]
   exact hs
  ·rw[g3]
   congr 2
   apply Array.ext'
   simp
 by_cases h2:vs.toArray.size<2
 ·rw[if_pos h2,if_pos h2]
  refine wpAny_bind (wpAny_pure ?_)
  rw[StateT.run_pure]
  refine wpAny_bind (wpAny_pure ?_)
  dsimp only
  refine wpAny_bind (seqEpoch_at g2 rfl (wpAny_bind (listUpdate_at g2 rfl ?_ (hsz2:=by rw[Array.size_map];show(pairsOf vs).size<=_;rw[pairsOf_size,sizeLine_eq];lia))))
  simp only[bne_self_eq_false,Bool.false_eq_true,if_false]
  refine wpAny_pure (fin (SortSt.mk' general' (vs.toArray.zip vs.toArray) #[] 7 none) (Array.Perm.refl _) fun i j ij jl=>?_)
  have e:i=j:=by
   rw[pairsOf_size]at jl
   simp only[List.size_toArray]at h2
   lia
  rw[e]
  exact KeyOrd.kle_refl _
 ·have h2':2<=vs.length:=by simpa using h2
  obtain⟨lo,kk⟩:=hk h2' G2 k2
  rw[if_neg h2,if_neg h2]
  refine wpAny_bind (kk _ ?_)
  refine wpAny_bind (wpAny_mono (runs_ok (κ:=κ) (kd:=kd) (a₀:=pairsOf vs) (st:=SortSt.mk' kd (vs.toArray.zip vs.toArray) #[] 7 none) (Q:=fun _ st'=>(arrOf st').Perm (pairsOf vs)/\failedOf st'=none/\SortedToK κ (arrOf st') (pairsOf vs).size)
   lo h0 ⟨Array.Perm.refl _,rfl,rfl,rfl,fun k z=>absurd z (Nat.not_lt_zero _)⟩ (by rw[pairsOf_size];exact h2') (by rw[pairsOf_size];exact hl) fun st' a1 a2 a3=>⟨a1,a2,fun i j ij jl=>by
    have:=a3 i j ij jl
    rw[Nat.zero_add,Nat.zero_add]at this
    exact this⟩) ?_ fun _ _ e=>e)
  rintro⟨⟨⟩,st'⟩ s' ⟨rfl,hp,hf,hs⟩
  dsimp only
  refine wpAny_bind (seqEpoch_at g2 rfl (wpAny_bind (listUpdate_at g2 rfl ?_ (hsz2:=by refine Nat.le_trans (Nat.le_of_eq ((Array.size_map ..).trans (hp.size_eq.trans (pairsOf_size _)))) ?_;rw[sizeLine_eq];lia))))
  rw[hf]
  simp only[bne_self_eq_false,Bool.false_eq_true,if_false]
  exact wpAny_pure (fin st' hp hs)
end
end Srt
namespace L2
open PySem PySem.W PyProof.Rows Srt
theorem intsV_of:∀ {ns:List Int}{us:List Value},Vals (ns.map V.int) us->IntsV ns us
 |[],_,.nil=>.nil
 |n :: ns,_,.cons r t=>.cons r (intsV_of t)
noncomputable def keyA(g:Heap)(a:Addr):List Int:=(show Option (List Int)from(κT g).keyOf (.ref a)).getD []
theorem keyA_eq{g:Heap}{a:Addr}{k:List Int}(x:TupI g (.ref a) k):keyA g a=k:=by
 unfold keyA
 rw[κT_key x]
 rfl
noncomputable def unref:Value->Addr
 | .ref a=>a
 | _=>(0:Nat)
section
variable{X:Cx}{pins:List (Addr×Obj)}{σ:St}{H:Hp}{s:Shared}
theorem tupI_of(I:Inv X pins σ H s){a:Addr}{ns:List Int}(h:H a=some (.tup (ns.map V.int))):TupI s.heap (.ref a) ns:=by
 obtain⟨its,r,⟨o,e,c,n,d⟩,_⟩:=I.tuple (SqT.of h)
 exact⟨a,o,_,n,rfl,e,c,d,intsV_of r⟩
theorem looks_int{M:Model}{h:Heap}{i:Int}{t:Tok}:Looks M h (typeOf (.int i t)) (Value.type "int"):=Looks.now
theorem tups_of{g:Heap}:∀ {as:List Addr}{ks:List (List Int)},Paired (fun a k=>TupI g (.ref a) k/\k≠[]) as ks->∃ fs:List Value,KatTups g (as.map .ref) fs/\fs.length=as.length/\∀ v∈fs,∃ i t,v=Value.int i t:=by
 intro as ks h
 induction h with
 |nil=>exact⟨[],trivial,rfl,fun _ h=>nomatch h⟩
 | @cons a k as ks h r ih =>
  obtain⟨⟨a',o,its,n,e,g1,c,d,p⟩,ne⟩:=h
  cases e
  obtain⟨fs,t,l,z⟩:=ih
  cases k with
  |nil=>exact absurd rfl ne
  |cons i k =>
   obtain⟨il⟩:=its
   cases p with
   |cons r1 r2 =>
    obtain⟨tk,rfl⟩:=r1
    refine⟨_ :: fs,KatTups.cons g1 c d rfl t,by simp[l],fun v hv=>?_⟩
    rcases List.mem_cons.mp hv with e | e
    ·exact⟨i,tk,e⟩
    ·exact z v e
theorem sort_new{L:Addr}{A:Around}{E:Value->Shared->Prop}{as:List Addr}{ks:List (List Int)}{P:Fin->Shared->Prop}(ho:s.heap.get? L=some (seqObj "list" (as.map Value.ref).toArray 0))(hT:Paired (fun a k=>TupI s.heap (.ref a) k/\k≠[]) as ks)(hl:as.length<128)
  (h:∀ (bs:List Addr) (ns:List (List Int)) (g:Heap) (c:Nat),bs.Perm as->ns.Perm ks->ns.Pairwise (fun x y=>lexlt y x=false)->Paired (fun a k=>TupI s.heap (.ref a) k) bs ns->(∀ b u,b≠L->s.heap.get? b=some u->g.get? b=some u)->g.get? L=some (seqObj "list" (bs.map Value.ref).toArray c) ->
   P (.done (.ret .none)) { s with heap:=g }):wpAny (model X.prog X.w) A (Builtin.«list.sort» ⟨[.ref L],[]⟩) P E s:=by
 have neL:∀ v ns,TupI s.heap v ns->v≠.ref L:=fun v ns x e=>by
  obtain⟨a,o,its,n,rfl,g1,c,_⟩:=x
  cases e
  rw[ho]at g1
  cases g1
  exact absurd (show Value.type "list" = Value.type "tuple" from c) (by decide)
 have lenk:as.length=ks.length:=hT.length
 have kp:∀ g:Heap,(∀ b u,b≠L->s.heap.get? b=some u->g.get? b=some u)->∀ v ns,TupI s.heap v ns->TupI g v ns:=fun g k v ns x=>x.to fun b u e z=>k b u (fun q=>neL v ns x (by rw[e,q])) z
 have memk:∀ v∈as.map Value.ref,∃ k,TupI s.heap v k:=fun v hv=>by
  obtain⟨a,ha,rfl⟩:=List.mem_map.mp hv
  clear h ho neL kp hl lenk hv
  induction hT with
  |nil=>cases ha
  |cons r _ ih =>
   rcases List.mem_cons.mp ha with e | e
   ·rw[e];exact⟨_,r.1⟩
   ·exact ih e
 refine sort_at (κ:=κT s.heap) (kd:=tuples' true) ho (fun p hp=>?_) (by rw[List.length_map];exact hl) (fun l2 g k=>⟨ltT_ok (kp g k),fun R hR=>?_⟩) fun ws g c pw sw k gL=>?_
 ·rw[pairsOf_toList]at hp
  obtain⟨e1,e2⟩:=Srt.mem_zip_self hp
  obtain⟨kk,x⟩:=memk p.2 e2
  rw[e1]
  exact⟨kk,κT_key x⟩
 ·have hT':Paired (fun a k=>TupI g (.ref a) k/\k≠[]) as ks:=Paired.mapP hT fun a b z=>⟨kp g k _ _ z.1,z.2⟩
  obtain⟨fs,t,l,z⟩:=tups_of hT'
  by_cases e0:fs=[]
  ·rw[e0]at l
   rw[List.length_map]at l2
   simp at l
   lia
  ·refine kat_kind (T:=Value.type "int") t (List.length_pos_iff.mpr e0) (fun v hv=>?_) (by decide) ?_
   ·obtain⟨i,tk,rfl⟩:=z v hv
    exact looks_int
   ·have e:(Value.type "int" != Value.type "tuple")=true:=by decide
    rw[e]
    exact hR
 ·-- the values are refs again,the keys a permutation
  have unr:∀ l:List Value,(∀ v∈l,∃ a,v=Value.ref a)->(l.map unref).map Value.ref=l:=fun l hl=>by
   induction l with
   |nil=>rfl
   |cons v l ih =>
    obtain⟨a,rfl⟩:=hl v (List.mem_cons_self ..)
    rw[List.map_cons,List.map_cons,ih fun v hv=>hl v (List.mem_cons_of_mem _ hv)]
    rfl
  have eb:(ws.map unref).map Value.ref=ws:=unr ws fun v hv=>by
   obtain⟨a,_,rfl⟩:=List.mem_map.mp (pw.mem_iff.mp hv)
   exact⟨a,rfl⟩
  have pb:(ws.map unref).Perm as:=by
   have:=pw.map unref
   rw[List.map_map]at this
   have e:(as.map (unref ∘ Value.ref))=as:=by
    rw[show(unref ∘ Value.ref)=id from rfl,List.map_id]
   rw[e]at this
   exact this
  generalize ws.map unref=bs at eb pb
  subst eb
  have ek:ks=as.map (keyA s.heap):=by
   clear h ho neL kp hl lenk memk pw sw pb
   induction hT with
   |nil=>rfl
   |cons r _ ih=>rw[List.map_cons,keyA_eq r.1,<- ih]
  have kb:∀ b∈bs,TupI s.heap (.ref b) (keyA s.heap b):=fun b hb=>by
   obtain⟨k,x⟩:=memk (.ref b) (List.mem_map.mpr ⟨b,pb.mem_iff.mp hb,rfl⟩)
   rw[keyA_eq x]
   exact x
  refine h bs (bs.map (keyA s.heap)) g c pb (by rw[ek];exact pb.map _) ?_ ?_ k gL
  ·rw[List.pairwise_iff_getElem]
   intro i j hi hj ij
   rw[List.length_map]at hi hj
   have z:=sw i j (Nat.le_of_lt ij) (by rw[List.length_map];exact hj)
   have kk:∀ m (hm:m<bs.length),KK (κT s.heap) (pairsOf (bs.map Value.ref)) m=keyA s.heap bs[m]:=fun m hm=>by
    have e:(pairsOf (bs.map Value.ref))[m]?=some (Value.ref bs[m],Value.ref bs[m]):=by simp[pairsOf,hm]
    unfold KK
    rw[e]
    rfl
   rw[kk i hi,kk j hj]at z
   rw[List.getElem_map,List.getElem_map]
   exact z
  ·clear h ho neL kp hl lenk memk pw sw pb gL
   induction bs with
   |nil=>exact .nil
   |cons b bs ih=>exact .cons (kb b (List.mem_cons_self ..)) (ih fun b hb=>kb b (List.mem_cons_of_mem _ hb))
theorem call_sortedD(hc:X.calm=true):CallR X (.builtin "sorted") (fun xs H Q=>∃ d kvs ks,xs=[V.ref d]/\H d=some (.dT kvs)/\kvs.map (·.1)=List.map (List.map Sum.inl) ks/\(∀ k∈ks,k≠[])/\kvs.length<128 /\
  ∀ (l:Addr) (as:List Addr) (ns:List (List Int)),H l=none->ns.Perm ks->ns.Pairwise (fun x y=>lexlt y x=false)->Paired (fun a n=>H a=some (.tup (n.map V.int))) as ns->Q (.ref l) (upd H l (.lst (as.map V.ref)))):=by
 intro pins s σ H xs us Q I r h
 obtain⟨d,kvs,ks,rfl,hd,hks,hne,hlen,q⟩:=h
 obtain⟨u,rfl,rx⟩:=vals1 r
 cases rx
 obtain⟨z,nsys,xs,pr,o,es,ep,go,ex,dt,ee,nd⟩:=I.hok d _ hd
 have hpl:xs.length=kvs.length:=pr.length.symm
 have hT:Paired (fun a k=>(H a=some (.tup (k.map V.int))/\k≠[])) (xs.map fun q=>q.2.1) ks:=by
  clear q hd hlen z nd go ex dt ee hpl
  induction pr generalizing ks with
  |nil =>
   cases ks with
   |nil=>exact .nil
   |cons _ _=>simp at hks
  | @cons p x l1 l2 r1 r2 ih =>
   cases ks with
   |nil=>simp at hks
   |cons k ks =>
    simp only[List.map_cons,List.cons.injEq]at hks
    refine .cons ⟨?_,hne k (List.mem_cons_self ..)⟩ (ih ks hks.2 fun k hk=>hne k (List.mem_cons_of_mem _ hk))
    rw[r1.2.1,hks.1,List.map_map]
    rfl
 have raw:RawD d (xs.map fun q=>Value.ref q.2.1) ep s.heap:=⟨o,es,go,ex,dt,by rw[ee,List.map_map];rfl⟩
 refine Calls.call_function_entry kind_sorted plain_sorted entry_sorted (args_sorted1 _) ?_
 unfold Builtin.«sorted»
 refine wpAny_bind (m:=checkCount "sorted" 1 1 _) (wpAny_pure (wpAny_bind (kdu_collect (A:=X.A.in1) (rawSrc nsys) (show X.A.handled=none from I.ok.hd hc) raw (by rw[List.length_map,hpl,sizeLine_eq];lia) fun h' tk acc kp hacc=>?_)))
 have eacc:acc.toList=(xs.map fun q=>q.2.1).map Value.ref:=by
  apply List.ext_getElem?
  intro i
  by_cases hi:i<acc.size
  ·have e1:acc.toList[i]?=some acc[i]:=by rw[Array.getElem?_toList,Array.getElem?_eq_getElem hi]
   have e2:=hacc.2 i acc[i] (Array.getElem?_eq_getElem hi)
   rw[e1,List.map_map]
   exact e2.symm
  ·have l0:=hacc.1
   rw[List.length_map]at l0
   rw[List.getElem?_eq_none (by rw[Array.length_toList];omega),List.getElem?_eq_none (by rw[List.length_map,List.length_map];lia)]
 rw[eacc]
 generalize exs:(xs.map fun q=>q.2.1)=as0 at hT
 have las:as0.length<128:=by rw[<- exs,List.length_map];lia
 refine wpAny_bind (wpAny_newList ?_ (by rw[List.length_map,sizeLine_eq];lia))
 have gL:(h'.push (seqObj "list" (as0.map Value.ref).toArray 0)).get? h'.objs.size=some (seqObj "list" (as0.map Value.ref).toArray 0):=Heap.get?_push_size _ rfl
 have I1:Inv X pins σ H { s with heap:=h',toks:=tk }:=I.kept kp
 have kp2:∀ b u,h'.get? b=some u->(h'.push (seqObj "list" (as0.map Value.ref).toArray 0)).get? b=some u:=fun b u e=>Heap.get?_push_of_some _ e
 have tT:Paired (fun a k=>TupI (h'.push (seqObj "list" (as0.map Value.ref).toArray 0)) (.ref a) k/\k≠[]) as0 ks:=Paired.mapP hT fun a k z=>⟨(tupI_of I1 z.1).to fun b u _ e=>kp2 b u e,z.2⟩
 have memH:∀ a∈as0,∃ k:List Int,H a=some (.tup (k.map V.int)):=fun a ha=>by
  clear q exs eacc raw gL tT kp2 las hks hne hlen
  induction hT with
  |nil=>cases ha
  |cons r _ ih =>
   rcases List.mem_cons.mp ha with e | e
   ·rw[e];exact⟨_,r.1⟩
   ·exact ih e
 refine wpAny_bind (wpAny_holding (wpAny_call_entry slot_list_sort ⟨_,gL,rfl⟩ entry_list_sort (sort_new (X:=X) (s:={ s with heap:=h'.push (seqObj "list" (as0.map Value.ref).toArray 0),toks:=tk }) gL tT las fun bs ns g c pb pn pw pt kp3 gg=>⟨_,rfl,?_⟩) (args_list_sort _)))
 refine wpAny_pure ⟨_,rfl,.ref h'.objs.size,_,I1.laid (t':=tk) (a:=h'.objs.size) (o:=.lst (bs.map V.ref)) (fun b u e=>kp3 b u (Nat.ne_of_lt (Heap.lt_size e)) (kp2 b u e)) (Nat.le_refl _) (show ObjOk X.prog X.w _ g _ (.lst (bs.map V.ref))from⟨?_,bs.map Value.ref,c,?_,gg⟩),rfl,q _ bs ns (I1.hok.fresh (Nat.le_refl _)) pn pw ?_⟩
 ·rw[List.length_map,pb.length_eq,sizeLine_eq];lia
 ·clear pb pt gg
  induction bs with
  |nil=>exact .nil
  |cons b bs ih=>exact .cons rfl ih
 ·have memB:∀ a∈bs,∃ k:List Int,H a=some (.tup (k.map V.int)):=fun a ha=>memH a (pb.mem_iff.mp ha)
  clear pb gg pn pw
  induction pt with
  |nil=>exact .nil
  | @cons a k l1 l2 r1 _ ih =>
   refine .cons ?_ (ih fun a ha=>memB a (List.mem_cons_of_mem _ ha))
   obtain⟨k',e⟩:=memB a (List.mem_cons_self ..)
   rw[e,r1.inj ((tupI_of I1 e).to fun b u _ z=>kp2 b u z)]
end
open PySem PySem.W PyProof.Rows
section
variable{X:Cx}
theorem call_sum(hc:X.calm=true):CallR X (.builtin "sum") (fun xs H Q=>∃ (l:Addr) (ns:List Int),xs=[V.ref l]/\SqL X.K H l (ns.map V.int)/\Q (.int ns.sum) H):=by
 intro pins s σ H xs us Q I r h
 obtain⟨l,ns,rfl,hq,q⟩:=h
 obtain⟨u,rfl,rx⟩:=vals1 r
 cases rx
 obtain⟨its,r',pl,hz⟩:=I.list hq
 have hi:=intsAre_of r'
 obtain⟨ys,hx⟩:=hi.allInts.items
 have pl':s.heap.IsList l (intItems ys):=hx▸pl.isList
 refine sum_intListG (I.ok.hd hc) pl' fun h' tk t' hk=>?_
 have e1:ns=ys.toList.map (·.1):=by
  rw[<- nums_intItems,<- hx]
  exact(show numsOf its.toArray.toList=ns from hi.numsOf).symm
 have e2:preSum (numAt ys) ys.size=ns.sum:=by rw[preSum_eq,List.take_of_length_le (by simp),e1]
 rw[e2]
 exact⟨.int ns.sum,H,I.kept hk,⟨t',rfl⟩,q⟩
theorem call_range(X:Cx):CallR X (.type "range") (fun xs H Q=>∃ j:Int,xs=[V.int j]/\∀ p,H p=none->Q (.ref p) (upd H p (.rng 0 j))):=by
 intro pins s σ H xs us Q I r h
 obtain⟨j,rfl,q⟩:=h
 obtain⟨u,rfl,t,rfl⟩:=vals1 r
 refine call_range_1 ⟨.ref s.heap.objs.size,_,I.laid (t':=s.toks+1+1) (a:=s.heap.objs.size) (o:=.rng 0 j) (fun b o e=>Heap.get?_push_of_some _ e) (Nat.le_refl _) ⟨_,_,_,Heap.get?_push_size _ rfl⟩,rfl,q _ (I.hok.fresh (Nat.le_refl _))⟩
noncomputable def upto(n:Nat):List Int:=(List.range n).map fun(i:Nat)=>(i:Int)
theorem upto_length(n:Nat):(upto n).length=n:=by simp[upto]
theorem call_list_rng(hc:X.calm=true):CallR X (.type "list") (fun xs H Q=>∃ p j,xs=[V.ref p]/\H p=some (.rng 0 j)/\-(2 ^ 62)<=j/\j<=1000000/\∀ l,H l=none->Q (.ref l) (upd H l (.lst ((upto j.toNat).map V.int)))):=by
 intro pins s σ H xs us Q I r h
 obtain⟨p,j,rfl,hp,h1,h2,q⟩:=h
 obtain⟨u,rfl,rx⟩:=vals1 r
 cases rx
 obtain⟨t,u,v,e⟩:=I.hok p _ hp
 have rs:Builtin.Range.rangeSize 0 j 1=((j.toNat:Nat):Int):=by rw[rangeSize_one];split <;> lia
 refine call_list_range (I.ok.hd hc) (show IsRange s.heap p 0 j 1 t u v from e) (small_one (by lia) (by lia) h1 (by lia)) rs (by lia) fun h' tk acc c kp hD hI=>?_
 refine⟨.ref s.heap.objs.size,_,I.laid (t':=tk) (a:=s.heap.objs.size) (o:=.lst ((upto j.toNat).map V.int)) kp (Nat.le_refl _) (show ObjOk X.prog X.w _ h' _ (.lst ((upto j.toNat).map V.int))from⟨?_,acc.toList,c,?_,by rw[Array.toArray_toList];exact hD⟩),rfl,q _ (I.hok.fresh (Nat.le_refl _))⟩
 ·rw[List.length_map,upto_length,sizeLine_eq];lia
 ·have len:acc.toList.length=j.toNat:=by rw[Array.length_toList];exact hI.1
  have key:∀ (n:Nat) (a:List Value) (b:Nat),a.length=n->(∀ i u,a[i]?=some u->∃ t,u=Value.int ((b+i:Nat):Int) t)->Vals (((List.range' b n).map fun(i:Nat)=>(i:Int)).map V.int) a:=by
   intro n
   induction n with
   |zero=>intro a b e _;rw[List.eq_nil_of_length_eq_zero e];exact .nil
   |succ n ih =>
    intro a b e f
    cases a with
    |nil=>simp at e
    |cons u a =>
     rw[List.range'_succ,List.map_cons,List.map_cons]
     refine .cons (f 0 u rfl) (ih a (b+1) (by simpa using e) fun i u hu=>?_)
     obtain⟨t,z⟩:=f (i+1) u (by simpa using hu)
     exact⟨t,by rw[z];congr 1;lia⟩
  have:=key j.toNat acc.toList 0 len fun i u hu=>by
   obtain⟨t,z⟩:=hI.2 i u (by rw[<- Array.getElem?_toList];exact hu)
   exact⟨t,by rw[z];congr 1;lia⟩
  rw[<- List.range_eq_range']at this
  exact this
end
theorem star_sub{a b:Expr}{pos:Pos}{rest:List Expr}{env:Env}:starEach (.Subscript a b pos :: rest) env=(false,eval (.Subscript a b pos) env) :: starEach rest env:=rfl
theorem star_call{f:Expr}{args:List Expr}{ks:List Keyword}{pos:Pos}{rest:List Expr}{env:Env}:starEach (.Call f args ks pos :: rest) env=(false,eval (.Call f args ks pos) env) :: starEach rest env:=rfl
theorem star_bin{a b:Expr}{op:Operator}{pos:Pos}{rest:List Expr}{env:Env}:starEach (.BinOp a op b pos :: rest) env=(false,eval (.BinOp a op b pos) env) :: starEach rest env:=rfl
theorem star_comp{e:Expr}{gs:List Comprehension}{sc:Scope}{pos:Pos}{rest:List Expr}{env:Env}:starEach (.ListComp e gs sc pos :: rest) env=(false,eval (.ListComp e gs sc pos) env) :: starEach rest env:=rfl
theorem star_lst{es:List Expr}{pos:Pos}{rest:List Expr}{env:Env}:starEach (.List es pos :: rest) env=(false,eval (.List es pos) env) :: starEach rest env:=rfl
theorem star_tup{es:List Expr}{k:Nat}{pos:Pos}{rest:List Expr}{env:Env}:starEach (.Tuple es k pos :: rest) env=(false,eval (.Tuple es k pos) env) :: starEach rest env:=rfl
section
variable{X:Cx}{es:List Expr}{te:TE}{t:TA}{pos:Pos}
theorem pa_sub{a b:Expr}(ha:PE X (.Subscript a b pos) te)(hr:PA X es t):PA X (.Subscript a b pos :: es) (tCons te t):=pa_cons ha hr (hs:=star_sub)
theorem pa_call{f:Expr}{args:List Expr}{ks:List Keyword}(ha:PE X (.Call f args ks pos) te)(hr:PA X es t):PA X (.Call f args ks pos :: es) (tCons te t):=pa_cons ha hr (hs:=star_call)
theorem pa_bin{a b:Expr}{op:Operator}(ha:PE X (.BinOp a op b pos) te)(hr:PA X es t):PA X (.BinOp a op b pos :: es) (tCons te t):=pa_cons ha hr (hs:=star_bin)
theorem pa_comp{e:Expr}{gs:List Comprehension}{sc:Scope}(ha:PE X (.ListComp e gs sc pos) te)(hr:PA X es t):PA X (.ListComp e gs sc pos :: es) (tCons te t):=pa_cons ha hr (hs:=star_comp)
theorem pa_lst{xs:List Expr}(ha:PE X (.List xs pos) te)(hr:PA X es t):PA X (.List xs pos :: es) (tCons te t):=pa_cons ha hr (hs:=star_lst)
theorem pa_tup{xs:List Expr}{k:Nat}(ha:PE X (.Tuple xs k pos) te)(hr:PA X es t):PA X (.Tuple xs k pos :: es) (tCons te t):=pa_cons ha hr (hs:=star_tup)
theorem star_cst{c:Const}{k:Nat}{pos:Pos}{rest:List Expr}{env:Env}:starEach (.Constant c k pos :: rest) env=(false,eval (.Constant c k pos) env) :: starEach rest env:=rfl
theorem star_nam{x:Str}{pos:Pos}{rest:List Expr}{env:Env}:starEach (.Name x pos :: rest) env=(false,eval (.Name x pos) env) :: starEach rest env:=rfl
theorem pa_cst{c:Const}{k:Nat}(ha:PE X (.Constant c k pos) te)(hr:PA X es t):PA X (.Constant c k pos :: es) (tCons te t):=pa_cons ha hr (hs:=star_cst)
theorem pa_nam{x:Str}(ha:PE X (.Name x pos) te)(hr:PA X es t):PA X (.Name x pos :: es) (tCons te t):=pa_cons ha hr (hs:=star_nam)
end
end L2
namespace Srt
open PySem PySem.W PyProof.Rows
noncomputable def SeqK(b:Bool)(g:Heap)(l:Addr)(xs:Array Value):Prop:=match b with
 |true=>g.IsTuple l xs
 |false=>g.IsList l xs
noncomputable def ItK(b:Bool)(g:Heap)(it l:Addr)(i:Nat):Prop:=match b with
 |true=>g.IsTupleIter it l i
 |false=>g.IsListIter it l i
noncomputable def itO(b:Bool)(l:Addr):Obj:=match b with
 |true=>{ cls:=.type "tuple_iterator",data:=.fields #[.ref l,.int 0 0] }
 |false=>{ cls:=.type "list_iterator",data:=.fields #[.ref l,.int 0 0] }
theorem SeqK.to{b:Bool}{g g':Heap}{l:Addr}{xs:Array Value}(x:SeqK b g l xs)(k:∀ o,g.get? l=some o->g'.get? l=some o):SeqK b g' l xs:=by
 cases b
 ·exact Heap.IsList.at x k
 ·exact Heap.IsTuple.at x k
theorem ItK.to{b:Bool}{g g':Heap}{it l:Addr}{i:Nat}(x:ItK b g it l i)(k:∀ o,g.get? it=some o->g'.get? it=some o):ItK b g' it l i:=by
 cases b
 ·exact Heap.IsListIter.at x k
 ·obtain⟨o,e,r⟩:=(show g.IsTupleIter it l i from x)
  exact⟨o,k o e,r⟩
theorem ItK.lt{b:Bool}{g:Heap}{it l:Addr}{i:Nat}(x:ItK b g it l i):∃ o,g.get? it=some o/\∀ v,o.data≠.cell v:=by
 cases b
 ·obtain⟨o,e,c,d⟩:=(show g.IsListIter it l i from x)
  exact⟨o,e,fun v z=>by rw[d]at z;cases z⟩
 ·obtain⟨o,e,c,d⟩:=(show g.IsTupleIter it l i from x)
  exact⟨o,e,fun v z=>by rw[d]at z;cases z⟩
section
variable{prog:Program}{w:World}{A:Around}{E:Value->Shared->Prop}{s:Shared}
theorem nextK_item{b:Bool}{it l:Addr}{i:Nat}{xs:Array Value}{x:Value}{Q:Value->Shared->Prop}(hit:ItK b s.heap it l i)(hl:SeqK b s.heap l xs)(hx:xs[i]?=some x)
  (q:∀ g,ItK b g it l (i+1)->Heap.SameBut it s.heap g->Q x { s with heap:=g }):wpAny (model prog w) A (Builtin.SmallTypes.nextOf (.ref it)) Q E s:=by
 cases b
 ·exact wpAny_nextOf_list_item hit hl hx q
 ·have ty:s.TypeIs (.ref it) "tuple_iterator":=by
   obtain⟨o,e,c,_⟩:=(show s.heap.IsTupleIter it l i from hit)
   exact⟨o,e,c⟩
  obtain⟨o,e,c,d⟩:=(show s.heap.IsTupleIter it l i from hit)
  obtain⟨o2,e2,_,n2,d2⟩:=(show s.heap.IsTuple l xs from hl)
  unfold Builtin.SmallTypes.nextOf;refine wpAny_bind (wpAny_callSpecial?_slot (name:=Str.ofString "__next__") ty F.slot_tuple_iterator_next (wpAny_call_entry F.slot_tuple_iterator_next ty F.entry_tuple_iterator_next ?_ (F.args_tuple_iterator_next_1 _)))
  show wpAny _ _ (field (.ref it) 0 >>= _) _ _ s;refine wpAny_bind (wpAny_field e d (x:=.ref l) rfl ?_)
  show wpAny _ _ (if(Value.ref l == Value.none)=true then _ else _) _ _ s;rw[if_neg (show ¬((Value.ref l == Value.none)=true)from Bool.false_ne_true)]
  show wpAny _ _ (field (.ref it) 1 >>= _) _ _ s;refine wpAny_bind (wpAny_field e d (x:=.int i 0) rfl ?_)
  show wpAny _ _ (seqItems? (.ref l) >>= _) _ _ s;refine wpAny_bind (wpAny_seqItems e2 d2 ?_)
  simp only[Int.toNat_natCast,hx]
  refine wpAny_bind (wpAny_setField e d (by simp) (wpAny_pure ⟨x,rfl,wpAny_pure (q _ ?_ (Heap.SameBut.update ..))⟩))
  exact(show Heap.IsTupleIter _ it l (i+1)from⟨_,Heap.get?_update_self _ e (Obj.isFreed_of_fields (Obj.data_mapFields d _)),(Obj.cls_mapFields ..).trans c,by rw[Obj.data_mapFields d];simp[rawInt]⟩)
theorem nextK_end{b:Bool}{it l:Addr}{i:Nat}{xs:Array Value}{Q:Value->Shared->Prop}(hh:A.handled=none)(hit:ItK b s.heap it l i)(hl:SeqK b s.heap l xs)(hx:xs[i]?=none)
  (q:∀ g e,Heap.ExtBut it s.heap g->(∃ o,g.get? e=some o/\o.cls = .type "StopIteration")->E (.ref e) { s with heap:=g }):wpAny (model prog w) A (Builtin.SmallTypes.nextOf (.ref it)) Q E s:=by
 cases b
 ·exact wpAny_nextOf_list_end hh hit hl hx q
 ·have ty:s.TypeIs (.ref it) "tuple_iterator":=by
   obtain⟨o,e,c,_⟩:=(show s.heap.IsTupleIter it l i from hit)
   exact⟨o,e,c⟩
  obtain⟨o,e,c,d⟩:=(show s.heap.IsTupleIter it l i from hit)
  obtain⟨o2,e2,_,n2,d2⟩:=(show s.heap.IsTuple l xs from hl)
  unfold Builtin.SmallTypes.nextOf;refine wpAny_bind (wpAny_callSpecial?_slot (name:=Str.ofString "__next__") ty F.slot_tuple_iterator_next (wpAny_call_entry F.slot_tuple_iterator_next ty F.entry_tuple_iterator_next ?_ (F.args_tuple_iterator_next_1 _)))
  show wpAny _ _ (field (.ref it) 0 >>= _) _ _ s;refine wpAny_bind (wpAny_field e d (x:=.ref l) rfl ?_)
  show wpAny _ _ (if(Value.ref l == Value.none)=true then _ else _) _ _ s;rw[if_neg (show ¬((Value.ref l == Value.none)=true)from Bool.false_ne_true)]
  show wpAny _ _ (field (.ref it) 1 >>= _) _ _ s;refine wpAny_bind (wpAny_field e d (x:=.int i 0) rfl ?_)
  show wpAny _ _ (seqItems? (.ref l) >>= _) _ _ s;refine wpAny_bind (wpAny_seqItems e2 d2 ?_)
  simp only[Int.toNat_natCast,hx];refine wpAny_bind (wpAny_rule (wpAny_bind (wpAny_setField e d (by simp) ?_)))
  show wpAny _ _ (newExc (.type "StopIteration") [] >>= _) _ _ _;refine wpAny_bind ?_
  simp only[newExc,newTuple];refine wpAny_bind (wpAny_newObj_type ?_ (by size_fits))
  refine wpAny_bind (m:=firstArgMember _ _) (wpAny_of_eq (a:=Value.none) (by first | rfl |(simp only[firstArgMember];rfl)) (wpAny_newObj_type ?_ (by size_fits)))
  simp only[raiseNew];refine wpAny_bind (wpAny_handled ?_)
  rw[show A.in1.handled=none from hh];refine wpAny_bind (wpAny_pure (wpAny_throw ?_))
  exact q _ _ (((Heap.SameBut.update ..).extBut.push _).push _) ⟨_,Heap.get?_push_size _ rfl,rfl⟩
structure ZA(z ti to i1 i2:Addr):Prop where
 a1:ti≠z
 a2:to≠z
 a3:i1≠z
 a4:i2≠z
 a5:ti≠to
 a6:ti≠i1
 a7:ti≠i2
 a8:to≠i1
 a9:to≠i2
 a10:i1≠i2
noncomputable def Off(z to i1 i2 l:Addr):Prop:=l≠z/\l≠to/\l≠i1/\l≠i2
theorem zipK_item{b1 b2:Bool}{z ti to i1 i2 l1 l2:Addr}{k:Nat}{xs ys:Array Value}{x y a b:Value}{Q:Value->Shared->Prop}(D:ZA z ti to i1 i2)(o1:Off z to i1 i2 l1)(o2:Off z to i1 i2 l2)
  (hz:IsZip s.heap z ti to .none) (hTI:IsPair s.heap ti (.ref i1) (.ref i2)) (hTO:IsPair s.heap to a b) (h1:ItK b1 s.heap i1 l1 k) (h2:ItK b2 s.heap i2 l2 k) (hl1:SeqK b1 s.heap l1 xs) (hl2:SeqK b2 s.heap l2 ys) (hx:xs[k]?=some x) (hy:ys[k]?=some y)
  (q:∀ g,IsZip g z ti to (rawInt s.heap.objs.size)->IsPair g to x y->ItK b1 g i1 l1 (k+1)->ItK b2 g i2 l2 (k+1)->IsPair g s.heap.objs.size x y->(∀ c o,c≠z->c≠to->c≠i1->c≠i2->s.heap.get? c=some o->g.get? c=some o)->Q (.ref s.heap.objs.size) { s with heap:=g }) :
  wpAny (model prog w) A (Builtin.«zip.__next__» ⟨[.ref z],[]⟩) (fun fin s'=>∃ v,fin = .done (.ret v)/\Q v s') E s:=by
 show wpAny _ _ (field (.ref z) 2 >>= _) _ _ _;refine wpAny_bind (wpAny_field hz rfl (x:=.bool false) rfl ?_)
 show wpAny _ _ (field (.ref z) 3 >>= _) _ _ _;refine wpAny_bind (wpAny_field hz rfl (x:=.ref ti) rfl (wpAny_bind (wpAny_seqItems hTI rfl ?_)))
 show wpAny _ _ (Builtin.SmallTypes.ownedTupleIsFree (.ref z) >>= _) _ _ _;refine wpAny_bind ?_
 unfold Builtin.SmallTypes.ownedTupleIsFree;refine wpAny_bind (wpAny_field hz rfl (x:=.none) rfl (wpAny_pure ?_))
 simp only[if_true];refine wpAny_bind (wpAny_rule (wpAny_bind (wpAny_field hz rfl (x:=.ref to) rfl (wpAny_bind (wpAny_setField_rec hz (by simp) fun g1 z1 e1=>?_)))))
 replace z1:IsZip g1 z ti to .ellipsis:=z1
 refine wpAny_bind ?_;simp only[List.zipIdx_cons,List.zipIdx_nil,List.forIn_cons,List.forIn_nil]
 refine wpAny_bind (wpAny_bind (wpAny_onRaise ?_));show wpAny _ _ (Builtin.SmallTypes.nextOf (.ref i1) >>= _) _ _ _
 refine wpAny_bind (nextK_item (h1.to fun o e=>e1.extBut _ _ D.a3 e) (hl1.to fun o e=>e1.extBut _ _ o1.1 e) hx fun g2 n2 e2=>wpAny_pure ?_)
 have t2:IsPair g2 to a b:=e2.extBut _ _ D.a8 (e1.extBut _ _ D.a2 hTO)
 refine wpAny_bind (wpAny_seqItems t2 rfl (wpAny_bind (wpAny_updateSeq_pair t2 fun g3 t3 e3=>?_)))
 replace t3:IsPair g3 to x b:=t3
 refine wpAny_bind (wpAny_letGo (wpAny_pure (wpAny_bind (wpAny_bind (wpAny_onRaise ?_)))));show wpAny _ _ (Builtin.SmallTypes.nextOf (.ref i2) >>= _) _ _ _
 refine wpAny_bind (nextK_item (((h2.to fun o e=>e1.extBut _ _ D.a4 e).to fun o e=>e2.extBut _ _ (Ne.symm D.a10) e).to fun o e=>e3.extBut _ _ (Ne.symm D.a9) e) (((hl2.to fun o e=>e1.extBut _ _ o2.1 e).to fun o e=>e2.extBut _ _ o2.2.2.1 e).to fun o e=>e3.extBut _ _ o2.2.1 e) hy fun g4 n4 e4=>wpAny_pure ?_)
 have t4:IsPair g4 to x b:=e4.extBut _ _ D.a9 t3
 refine wpAny_bind (wpAny_seqItems t4 rfl (wpAny_bind (wpAny_updateSeq_pair t4 fun g5 t5 e5=>?_)))
 replace t5:IsPair g5 to x y:=t5
 refine wpAny_bind (wpAny_letGo (wpAny_pure (wpAny_pure (wpAny_bind (wpAny_seqItems t5 rfl (wpAny_bind (wpAny_newTuple ?_)))))))
 have sz:g5.objs.size=s.heap.objs.size:=by rw[e5.1,e4.1,e3.1,e2.1,e1.1]
 have z5:IsZip g5 z ti to .ellipsis:=e5.extBut _ _ (Ne.symm D.a2) (e4.extBut _ _ (Ne.symm D.a4) (e3.extBut _ _ (Ne.symm D.a2) (e2.extBut _ _ (Ne.symm D.a3) z1)))
 have k5:∀ c o,c≠z->c≠to->c≠i1->c≠i2->s.heap.get? c=some o->g5.get? c=some o:=fun c o c1 c2 c3 c4 e=>e5.extBut _ _ c2 (e4.extBut _ _ c4 (e3.extBut _ _ c2 (e2.extBut _ _ c3 (e1.extBut _ _ c1 e))))
 have n15:ItK b1 g5 i1 l1 (k+1):=((n2.to fun o e=>e3.extBut _ _ (Ne.symm D.a8) e).to fun o e=>e4.extBut _ _ D.a10 e).to fun o e=>e5.extBut _ _ (Ne.symm D.a8) e
 have n25:ItK b2 g5 i2 l2 (k+1):=n4.to fun o e=>e5.extBut _ _ (Ne.symm D.a9) e
 show wpAny _ _ (Builtin.SmallTypes.ownedTupleHandOut (.ref z) (.ref g5.objs.size) >>= _) _ _ _;refine wpAny_bind ?_
 unfold Builtin.SmallTypes.ownedTupleHandOut
 have z6:IsZip (g5.push { cls:=.type "tuple",data:=.seq #[x,y] }) z ti to .ellipsis:=Heap.get?_push_of_some _ z5
 refine wpAny_bind (wpAny_setField_rec z6 (by simp) fun g7 z7 e7=>?_)
 replace z7:IsZip g7 z ti to (rawInt g5.objs.size):=z7
 refine wpAny_setField_rec z7 (by simp) fun g8 z8 e8=>?_
 replace z8:IsZip g8 z ti to (rawInt g5.objs.size):=z8
 have up:∀ c o,c≠z->g5.get? c=some o->g8.get? c=some o:=fun c o c1 e=>e8.extBut _ _ c1 (e7.extBut _ _ c1 (Heap.get?_push_of_some _ e))
 have zlt:z<g5.objs.size:=Heap.lt_size z5
 have p8:IsPair g8 g5.objs.size x y:=e8.extBut _ _ (Nat.ne_of_gt zlt) (e7.extBut _ _ (Nat.ne_of_gt zlt) (Heap.get?_push_size _ rfl))
 rw[sz]at z8 p8
 refine wpAny_pure ⟨_,rfl,?_⟩
 show Q (.ref g5.objs.size) _;rw[sz]
 exact q g8 z8 (up _ _ D.a2 t5) (n15.to fun o e=>up _ o D.a3 e) (n25.to fun o e=>up _ o D.a4 e) p8 fun c o c1 c2 c3 c4 e=>up c o c1 (k5 c o c1 c2 c3 c4 e)
theorem zipK_end{b1 b2:Bool}{z ti to i1 i2 l1 l2:Addr}{k:Nat}{xs ys:Array Value}{a b:Value}{Q:Fin->Shared->Prop}(hh:A.handled=none)(D:ZA z ti to i1 i2)(o1:Off z to i1 i2 l1)(o2:Off z to i1 i2 l2)
  (hz:IsZip s.heap z ti to .none) (hTI:IsPair s.heap ti (.ref i1) (.ref i2)) (hTO:IsPair s.heap to a b) (h1:ItK b1 s.heap i1 l1 k) (h2:ItK b2 s.heap i2 l2 k) (hl1:SeqK b1 s.heap l1 xs) (hl2:SeqK b2 s.heap l2 ys) (he:xs[k]?=none\/ys[k]?=none)
  (q:∀ g e,(∀ c o,c≠z->c≠to->c≠i1->c≠i2->s.heap.get? c=some o->g.get? c=some o)->(∃ o,g.get? e=some o/\o.cls = .type "StopIteration")->E (.ref e) { s with heap:=g }) :
  wpAny (model prog w) A (Builtin.«zip.__next__» ⟨[.ref z],[]⟩) Q E s:=by
 show wpAny _ _ (field (.ref z) 2 >>= _) _ _ _;refine wpAny_bind (wpAny_field hz rfl (x:=.bool false) rfl ?_)
 show wpAny _ _ (field (.ref z) 3 >>= _) _ _ _;refine wpAny_bind (wpAny_field hz rfl (x:=.ref ti) rfl (wpAny_bind (wpAny_seqItems hTI rfl ?_)))
 show wpAny _ _ (Builtin.SmallTypes.ownedTupleIsFree (.ref z) >>= _) _ _ _;refine wpAny_bind ?_
 unfold Builtin.SmallTypes.ownedTupleIsFree;refine wpAny_bind (wpAny_field hz rfl (x:=.none) rfl (wpAny_pure ?_))
 simp only[if_true];refine wpAny_bind (wpAny_rule (wpAny_bind (wpAny_field hz rfl (x:=.ref to) rfl (wpAny_bind (wpAny_setField_rec hz (by simp) fun g1 z1 e1=>?_)))))
 replace z1:IsZip g1 z ti to .ellipsis:=z1
 refine wpAny_bind ?_;simp only[List.zipIdx_cons,List.zipIdx_nil,List.forIn_cons,List.forIn_nil]
 refine wpAny_bind (wpAny_bind (wpAny_onRaise ?_));show wpAny _ _ (Builtin.SmallTypes.nextOf (.ref i1) >>= _) _ _ _
 cases hx:xs[k]? with
 |none =>
  refine wpAny_bind (nextK_end hh (h1.to fun o e=>e1.extBut _ _ D.a3 e) (hl1.to fun o e=>e1.extBut _ _ o1.1 e) hx fun g2 e e2 he=>?_)
  obtain⟨oe,hoe,hce⟩:=he
  have z2:IsZip g2 z ti to .ellipsis:=e2 _ _ (Ne.symm D.a3) z1
  have ez:e≠z:=fun x=>by subst x;rw[z2]at hoe;cases hoe;simp at hce
  refine wpAny_setField_rec z2 (by simp) fun g3 _ e3=>q g3 e (fun c o c1 _ c3 _ x=>e3.extBut _ _ c1 (e2 _ _ c3 (e1.extBut _ _ c1 x))) ⟨oe,e3.extBut _ _ ez hoe,hce⟩
 |some x =>
  have hy:ys[k]?=none:=by
   rcases he with h | h
   ·rw[hx]at h;cases h
   ·exact h
  refine wpAny_bind (nextK_item (h1.to fun o e=>e1.extBut _ _ D.a3 e) (hl1.to fun o e=>e1.extBut _ _ o1.1 e) hx fun g2 n2 e2=>wpAny_pure ?_)
  have t2:IsPair g2 to a b:=e2.extBut _ _ D.a8 (e1.extBut _ _ D.a2 hTO)
  refine wpAny_bind (wpAny_seqItems t2 rfl (wpAny_bind (wpAny_updateSeq_pair t2 fun g3 t3 e3=>wpAny_bind (wpAny_letGo (wpAny_pure (wpAny_bind (wpAny_bind (wpAny_onRaise ?_))))))))
  show wpAny _ _ (Builtin.SmallTypes.nextOf (.ref i2) >>= _) _ _ _
  refine wpAny_bind (nextK_end hh (((h2.to fun o e=>e1.extBut _ _ D.a4 e).to fun o e=>e2.extBut _ _ (Ne.symm D.a10) e).to fun o e=>e3.extBut _ _ (Ne.symm D.a9) e) (((hl2.to fun o e=>e1.extBut _ _ o2.1 e).to fun o e=>e2.extBut _ _ o2.2.2.1 e).to fun o e=>e3.extBut _ _ o2.2.1 e) hy fun g4 e e4 he=>?_)
  obtain⟨oe,hoe,hce⟩:=he
  have z4:IsZip g4 z ti to .ellipsis:=e4 _ _ (Ne.symm D.a4) (e3.extBut _ _ (Ne.symm D.a2) (e2.extBut _ _ (Ne.symm D.a3) z1))
  have ez:e≠z:=fun x=>by subst x;rw[z4]at hoe;cases hoe;simp at hce
  refine wpAny_setField_rec z4 (by simp) fun g5 _ e5=>q g5 e (fun c o c1 c2 c3 c4 x=>e5.extBut _ _ c1 (e4 _ _ c4 (e3.extBut _ _ c2 (e2.extBut _ _ c3 (e1.extBut _ _ c1 x))))) ⟨oe,e5.extBut _ _ ez hoe,hce⟩
theorem pyIterK{b:Bool}{l:Addr}{xs:Array Value}{Q:Value->Shared->Prop}(h:SeqK b s.heap l xs)(q:Q (.ref s.heap.objs.size) { s with heap:=s.heap.push (itO b l) }):wpAny (model prog w) A (pyIter (.ref l)) Q E s:=by
 cases b
 ·exact wpAny_pyIter_list h q
 ·exact wpAny_pyIter_tuple h q
theorem ItK.new{b:Bool}{l:Addr}(g:Heap):ItK b (g.push (itO b l)) g.objs.size l 0:=by
 cases b
 ·exact(show Heap.IsListIter _ _ _ _ from⟨_,Heap.get?_push_size _ rfl,rfl,rfl⟩)
 ·exact(show Heap.IsTupleIter _ _ _ _ from⟨_,Heap.get?_push_size _ rfl,rfl,rfl⟩)
noncomputable abbrev zK2(g:Heap)(b1 b2:Bool)(l1 l2:Addr):Heap:=(g.push (itO b1 l1)).push (itO b2 l2)
noncomputable abbrev zK3(g:Heap)(b1 b2:Bool)(l1 l2:Addr):Heap:=(zK2 g b1 b2 l1 l2).push { cls:=.type "tuple",data:=.seq #[.ref g.objs.size,.ref (g.push (itO b1 l1)).objs.size] }
noncomputable abbrev zK4(g:Heap)(b1 b2:Bool)(l1 l2:Addr):Heap:=(zK3 g b1 b2 l1 l2).push { cls:=.type "tuple",data:=.seq #[.none,.none] }
noncomputable abbrev zK5(g:Heap)(b1 b2:Bool)(l1 l2:Addr):Heap:=(zK4 g b1 b2 l1 l2).push { cls:=.type "zip",data:=.fields #[.none,.bool false,.bool false,.ref (zK2 g b1 b2 l1 l2).objs.size,.ref (zK3 g b1 b2 l1 l2).objs.size] }
theorem zipK_new(b1 b2:Bool)(l1 l2:Addr)(xs ys:Array Value):Meets (Builtin.«zip.__new__» ⟨[.type "zip",.ref l1,.ref l2],[]⟩) (fun _ R s=>SeqK b1 s.heap l1 xs/\SeqK b2 s.heap l2 ys/\R (.ok (.ret (.ref (zK4 s.heap b1 b2 l1 l2).objs.size))) { s with heap:=zK5 s.heap b1 b2 l1 l2 }) :=
 .of_wp fun prog w A R s h=>by
  obtain⟨hp,g,d,tk,os⟩:=s
  obtain⟨hl1,hl2,h⟩:=h
  have hsub:=sub_zip
  have hL1:SeqK b1 (Shared.heap ⟨hp,g,d,tk,os⟩) l1 xs:=hl1
  have hL2:SeqK b2 (Shared.heap ⟨hp.push (itO b1 l1),g,d,tk,os⟩) l2 ys:=hl2.to fun o e=>Heap.get?_push_of_some _ e
  wp_walk using pyIterK hL1,pyIterK hL2
  exact⟨_,rfl,h⟩
end
end Srt
namespace L2
open PySem PySem.W PyProof.Rows Srt
noncomputable def SqB(b:Bool)(K:PySem.W.Frag)(H:Hp)(l:Addr)(xs:List V):Prop:=match b with
 |true=>SqT K H l xs
 |false=>SqL K H l xs
section
variable{X:Cx}{pins:List (Addr×Obj)}{σ:St}{H:Hp}{s:Shared}{h':Heap}
theorem Inv.seqB(I:Inv X pins σ H s){b:Bool}{l:Addr}{xs:List V}(h:SqB b X.K H l xs):∃ its:List Value,Vals xs its/\SeqK b s.heap l its.toArray/\xs.length<=sizeLine:=by
 cases b
 ·obtain⟨its,r,p,z⟩:=I.list h
  exact⟨its,r,p.isList,z⟩
 ·obtain⟨its,r,p,z⟩:=I.tuple h
  exact⟨its,r,p,z⟩
theorem Inv.seqB_inj(I:Inv X pins σ H s){b:Bool}{l:Addr}{xs ys:List V}(h:SqB b X.K H l xs)(h':SqB b X.K H l ys):xs=ys:=by
 cases b
 ·exact I.list_inj h h'
 ·exact I.tuple_inj h h'
theorem Inv.offB(I:Inv X pins σ H s){b:Bool}{l c:Addr}{xs:List V}(h:SqB b X.K H l xs)(f:FpOk X pins H c):l≠c:=by
 intro e
 subst e
 obtain⟨f0,_,_,f3,_,_⟩:=f
 have base:∀ o,X.K.lookup l=some o->False:=fun o hk=>by
  have eb:=I.ok.mod.kin l o hk
  rcases f3 with f3 | f3
  ·exact I.ok.noex l o eb f3
  ·exact absurd (Nat.lt_of_lt_of_le (Heap.lt_size eb) (Nat.le_trans I.ok.bsz f3)) (Nat.lt_irrefl _)
 cases b
 ·rcases(show SqL X.K H l xs from h)with(z |⟨o,z⟩) |⟨o,_,_,hk,_⟩
  ·rw[f0]at z;cases z
  ·rw[f0]at z;cases z
  ·exact base o hk
 ·rcases(show SqT X.K H l xs from h)with(z |⟨o,z⟩) |⟨o,_,_,hk,_⟩
  ·rw[f0]at z;cases z
  ·rw[f0]at z;cases z
  ·exact base o hk
theorem Inv.turnedL{t':Nat}{ch:List Addr}(I:Inv X pins σ H s)(hf:∀ b∈ch,FpOk X pins H b)(k:∀ b o,b∉ch->s.heap.get? b=some o->h'.get? b=some o):Inv X pins σ H { s with heap:=h',toks:=t' }:=by
 have nit:∀ b u,H b=some u->b∉ch:=fun b u e z=>by rw[(hf b z).1]at e;cases e
 have loc:X.env.locals∉ch:=fun z=>(hf _ z).2.1 rfl
 refine I.step (g':=s.gens) (d':=s.drawn) (ch:=ch) (fun b hb=>?_) (fun b o _ _ hc e _=>k b o hc e) (fun b o _ _ hc e _=>⟨o.slots,k b o hc e⟩) (fun _ _ _ _ n=>n) (fun b o hc e=>⟨o,k b o hc e⟩) (fun _ _ e=>e) (fun _ _ _ e=>e) (fun b ps e=>⟨#[],by rw[e];simp⟩) (fun m hm=>?_) (fun b u e=>?_) I.bare
 ·obtain⟨_,f1,_,f3,f4,f5⟩:=hf b hb
  exact⟨f3,f1,f4,f5⟩
 ·obtain⟨o,es,ep,ho,r⟩:=hm
  exact⟨o,es,ep,k _ o loc ho,r⟩
 ·refine(I.hok b u e).stay (fun c v hc q=>k c v ?_ q) (fun _ q=>q) fun _ _ q=>q
  rcases hc with z | z
  ·rw[z];exact nit b u e
  ·exact nit c _ z
theorem Inv.turnedN{t':Nat}{ch:List Addr}{a:Addr}{ob:HO}(I:Inv X pins σ H s)(hf:∀ b∈ch,FpOk X pins H b)(k:∀ b o,b∉ch->s.heap.get? b=some o->h'.get? b=some o)(ha:s.heap.objs.size<=a)(new:ObjOk X.prog X.w (upd H a ob) h' a ob) :
  Inv X pins σ (upd H a ob) { s with heap:=h',toks:=t' }:=by
 have hn:H a=none:=I.hok.fresh ha
 have nit:∀ b u,H b=some u->b∉ch:=fun b u e z=>by rw[(hf b z).1]at e;cases e
 have loc:X.env.locals∉ch:=fun z=>(hf _ z).2.1 rfl
 have old:∀ b o,s.heap.get? b=some o->b≠a:=fun b o e=>Nat.ne_of_lt (Nat.lt_of_lt_of_le (Heap.lt_size e) ha)
 refine I.step (g':=s.gens) (d':=s.drawn) (ch:=ch) (fun b hb=>?_) (fun b o _ _ hc e _=>k b o hc e) (fun b o _ _ hc e _=>⟨o.slots,k b o hc e⟩) (fun b o _ e n=>by rw[upd_ne (old b o e)];exact n) (fun b o hc e=>⟨o,k b o hc e⟩)
  (fun b xs e=>by rw[upd_ne (ne_of_none e hn)];exact e) (fun b o u e=>by rw[upd_ne (ne_of_none e hn)];exact e) (fun b ps e=>⟨#[],by rw[upd_ne (ne_of_none e hn),e];simp⟩) (fun m hm=>?_) (fun b u e=>?_) I.bare
 ·obtain⟨_,f1,_,f3,f4,f5⟩:=hf b hb
  exact⟨f3,f1,f4,f5⟩
 ·obtain⟨o,es,ep,ho,r⟩:=hm
  exact⟨o,es,ep,k _ o loc ho,r⟩
 ·by_cases hb:b=a
  ·subst hb
   rw[upd_same]at e
   cases e
   exact new
  ·rw[upd_ne hb]at e
   refine(I.hok b u e).stay (fun c v hc q=>k c v ?_ q) (fun c q=>by rw[upd_ne (ne_of_none q hn)];exact q) fun c xs q=>by rw[upd_ne (ne_of_none q hn)];exact q
   rcases hc with z | z
   ·rw[z];exact nit b u e
   ·exact nit c _ z
end
noncomputable def Itz(K:PySem.W.Frag)(b1 b2:Bool)(l1 l2:Addr):It :=
  ⟨fun i H=>∃ xs ys x y,SqB b1 K H l1 xs/\SqB b2 K H l2 ys/\xs[i]?=some x/\ys[i]?=some y,
   fun i H v H'=>∃ T x y,v = .ref T/\H T=none/\H'=upd H T (.tup [x,y])/\(∀ xs,SqB b1 K H l1 xs->xs[i]?=some x)/\∀ ys,SqB b2 K H l2 ys->ys[i]?=some y,
   fun i H=>∃ xs ys,SqB b1 K H l1 xs/\SqB b2 K H l2 ys/\(xs.length<=i\/ys.length<=i)⟩
theorem turn_zip{P:Program}{w:World}{K:PySem.W.Frag}{es:List Expr}{kk:Nat}{pos:Pos}(b1 b2:Bool)(z ti to i1 i2 l1 l2:Addr)(D:ZA z ti to i1 i2):Turn P w K (.Tuple es kk pos) (Itz K b1 b2 l1 l2) [z,ti,to,i1,i2] z
  (fun i h=>IsZip h z ti to .none/\IsPair h ti (.ref i1) (.ref i2)/\(∃ a b,IsPair h to a b)/\ItK b1 h i1 l1 i/\ItK b2 h i2 l2 i)where
 mem:=by simp
 obj:=fun i h st b hb=>by
  obtain⟨hz,hti,⟨a,c,hto⟩,h1,h2⟩:=st
  simp only[List.mem_cons,List.not_mem_nil,or_false]at hb
  rcases hb with e | e | e | e | e
  ·rw[e];exact⟨_,hz,fun v z=>by cases z⟩
  ·rw[e];exact⟨_,hti,fun v z=>by cases z⟩
  ·rw[e];exact⟨_,hto,fun v z=>by cases z⟩
  ·rw[e];exact h1.lt
  ·rw[e];exact h2.lt
 keep:=fun i h h' st k=>by
  obtain⟨hz,hti,⟨a,c,hto⟩,h1,h2⟩:=st
  exact⟨k z (by simp) _ hz,k ti (by simp) _ hti,⟨a,c,k to (by simp) _ hto⟩,h1.to fun o e=>k i1 (by simp) o e,h2.to fun o e=>k i2 (by simp) o e⟩
 item:=by
  intro X hP hw hK hc i pins s σ H E I hf st hg
  subst hP hw hK
  obtain⟨hz,hti,⟨a,c,hto⟩,h1,h2⟩:=st
  obtain⟨xs,ys,x,y,q1,q2,hx,hy⟩:=hg
  obtain⟨us,r1,p1,_⟩:=I.seqB q1
  obtain⟨ws,r2,p2,_⟩:=I.seqB q2
  obtain⟨u,hu,ru⟩:=r1.get hx
  obtain⟨v,hv,rv⟩:=r2.get hy
  have off1:Off z to i1 i2 l1:=⟨I.offB q1 (hf z (by simp)),I.offB q1 (hf to (by simp)),I.offB q1 (hf i1 (by simp)),I.offB q1 (hf i2 (by simp))⟩
  have off2:Off z to i1 i2 l2:=⟨I.offB q2 (hf z (by simp)),I.offB q2 (hf to (by simp)),I.offB q2 (hf i1 (by simp)),I.offB q2 (hf i2 (by simp))⟩
  have hT:s.TypeIs (.ref z) "zip":=⟨_,hz,rfl⟩
  have hn:H s.heap.objs.size=none:=I.hok.fresh (Nat.le_refl _)
  unfold pyNext
  refine wpAny_bind (wpAny_attempt (wpAny_callSpecial?_slot (name:=Str.ofString "__next__") hT F.slot_zip_next (wpAny_call_entry F.slot_zip_next hT F.entry_zip_next
   (zipK_item D off1 off2 hz hti hto h1 h2 p1 p2 (x:=u) (y:=v) (by simpa using hu) (by simpa using hv) fun g z1 t1 n1 n2 pp kp=>wpAny_pure ⟨_,rfl,?_⟩) (F.args_zip_next_1 _))))
  refine wpAny_letOwnedTupleGo_zip z1 fun g' z2 sb=>?_
  have zlt:z≠s.heap.objs.size:=Nat.ne_of_lt (Heap.lt_size hz)
  have kp2:∀ b o,b∉[z,ti,to,i1,i2]->s.heap.get? b=some o->g'.get? b=some o:=fun b o nb e=>by
   simp only[List.mem_cons,List.not_mem_nil,or_false,not_or]at nb
   exact sb.extBut _ _ nb.1 (kp b o nb.1 nb.2.2.1 nb.2.2.2.1 nb.2.2.2.2 e)
  have I2:Inv X pins σ (upd H s.heap.objs.size (.tup [x,y])) { s with heap:=g' }:=I.turnedN (t':=s.toks) (ch:=[z,ti,to,i1,i2]) (a:=s.heap.objs.size) (ob:=.tup [x,y]) hf kp2 (Nat.le_refl _) (show ObjOk X.prog X.w _ g' _ (.tup [x,y])from⟨by show 2<=sizeLine;decide,[u,v],.cons ru (.cons rv .nil),⟨_,sb.extBut _ _ (Ne.symm zlt) pp,rfl,0,rfl⟩⟩)
  refine⟨.ref s.heap.objs.size,_,I2,rfl,⟨_,x,y,rfl,hn,rfl,fun xs' h=>by rw[I.seqB_inj h q1];exact hx,fun ys' h=>by rw[I.seqB_inj h q2];exact hy⟩,⟨z2,sb.extBut _ _ D.a1 (kp _ _ D.a1 D.a5 D.a6 D.a7 hti),⟨_,_,sb.extBut _ _ D.a2 t1⟩,n1.to fun o e=>sb.extBut _ _ D.a3 e,n2.to fun o e=>sb.extBut _ _ D.a4 e⟩,fun b hb=>?_⟩
  have bo:∃ o,s.heap.get? b=some o:=by
   simp only[List.mem_cons,List.not_mem_nil,or_false]at hb
   rcases hb with e | e | e | e | e
   ·rw[e];exact⟨_,hz⟩
   ·rw[e];exact⟨_,hti⟩
   ·rw[e];exact⟨_,hto⟩
   ·rw[e];obtain⟨o,e,_⟩:=h1.lt;exact⟨o,e⟩
   ·rw[e];obtain⟨o,e,_⟩:=h2.lt;exact⟨o,e⟩
  obtain⟨o,e⟩:=bo
  rw[upd_ne (Nat.ne_of_lt (Heap.lt_size e))]
  exact(hf b hb).1
 done:=by
  intro X hP hw hK hc i pins s σ H E I hf st hg
  subst hP hw hK
  obtain⟨hz,hti,⟨a,c,hto⟩,h1,h2⟩:=st
  obtain⟨xs,ys,q1,q2,he⟩:=hg
  obtain⟨us,r1,p1,_⟩:=I.seqB q1
  obtain⟨ws,r2,p2,_⟩:=I.seqB q2
  have e1:=r1.length
  have e2:=r2.length
  have off1:Off z to i1 i2 l1:=⟨I.offB q1 (hf z (by simp)),I.offB q1 (hf to (by simp)),I.offB q1 (hf i1 (by simp)),I.offB q1 (hf i2 (by simp))⟩
  have off2:Off z to i1 i2 l2:=⟨I.offB q2 (hf z (by simp)),I.offB q2 (hf to (by simp)),I.offB q2 (hf i1 (by simp)),I.offB q2 (hf i2 (by simp))⟩
  have hT:s.TypeIs (.ref z) "zip":=⟨_,hz,rfl⟩
  unfold pyNext
  refine wpAny_bind (wpAny_attempt (wpAny_callSpecial?_slot (name:=Str.ofString "__next__") hT F.slot_zip_next (wpAny_call_entry F.slot_zip_next hT F.entry_zip_next (zipK_end (I.ok.hd hc) D off1 off2 hz hti hto h1 h2 p1 p2 ?_ fun g e kp he=>?_) (F.args_zip_next_1 _))))
  ·rcases he with h | h
   ·exact .inl (by simp;lia)
   ·exact .inr (by simp;lia)
  ·obtain⟨o,ho,hcl⟩:=he
   refine wpAny_bind (wpAny_isInstance (T:="StopIteration") (b:=true) ⟨o,ho,hcl⟩ isSubtype_stop (wpAny_pure ⟨rfl,?_⟩))
   refine I.turnedL (t':=s.toks) (ch:=[z,ti,to,i1,i2]) hf fun b o nb e=>?_
   simp only[List.mem_cons,List.not_mem_nil,or_false,not_or]at nb
   exact kp b o nb.1 nb.2.2.1 nb.2.2.2.1 nb.2.2.2.2 e
 self:=fun _ _ _ _ _ st h=>wpAny_pyIter_zip st.1 h
theorem za_new(n:Addr):ZA (n+4) (n+2) (n+3) n (n+1)where
 a1:=Nat.ne_of_lt (Nat.add_lt_add_left (by decide) n)
 a2:=Nat.ne_of_lt (Nat.add_lt_add_left (by decide) n)
 a3:=Nat.ne_of_lt (Nat.lt_add_of_pos_right (by decide))
 a4:=Nat.ne_of_lt (Nat.add_lt_add_left (by decide) n)
 a5:=Nat.ne_of_lt (Nat.add_lt_add_left (by decide) n)
 a6:=Nat.ne_of_gt (Nat.lt_add_of_pos_right (by decide))
 a7:=Nat.ne_of_gt (Nat.add_lt_add_left (by decide) n)
 a8:=Nat.ne_of_gt (Nat.lt_add_of_pos_right (by decide))
 a9:=Nat.ne_of_gt (Nat.add_lt_add_left (by decide) n)
 a10:=Nat.ne_of_lt (Nat.lt_add_of_pos_right (by decide))
noncomputable def iZip(b1 b2:Bool)(K:PySem.W.Frag)(ta:TA):TI:=fun σ H R=>ta σ H fun vs H1=>∃ l1 l2,vs=[.ref l1,.ref l2]/\(∃ xs,SqB b1 K H1 l1 xs)/\(∃ ys,SqB b2 K H1 l2 ys)/\R (Itz K b1 b2 l1 l2) H1
theorem pi_zip{X:Cx}{es:List Expr}{kk:Nat}{tpos:Pos}(b1 b2:Bool){a b:Expr}{ta:TA}{p pos:Pos}(hg:Gl X "zip")(hm:X.mg "zip" = none)(ha:PA X [a,b] ta)(hs:starEach [a,b] X.env=[(false,eval a X.env),(false,eval b X.env)]:=by rfl)(hs2:starEach [b] X.env=[(false,eval b X.env)]:=by rfl) :
  PI X (.Tuple es kk tpos) (.Call (.Name "zip" p) [a,b] [] pos) (iZip b1 b2 X.K ta):=by
 intro pins s σ H R I h
 refine Call_ (ld_blt I hg hm boot_zip (PyProof.Rows.callWith_type1 (thn (ha pos pins s σ H _ I h) fun us s1 ⟨vs,H1,I1,r1,q1⟩=>?_) (by rw[hs,hs2]) (by rw[hs2];rfl)))
 obtain⟨l1,l2,e,⟨xs,q1⟩,⟨ys,q2⟩,q⟩:=q1
 subst e
 obtain⟨u,u',rfl,rx,ry⟩:=vals2 r1
 cases rx
 cases ry
 obtain⟨us,_,p1,_⟩:=I1.seqB q1
 obtain⟨ws,_,p2,_⟩:=I1.seqB q2
 have z1:(s1.heap.push (itO b1 l1)).objs.size=s1.heap.objs.size+1:=Heap.size_push ..
 have z2:(zK2 s1.heap b1 b2 l1 l2).objs.size=s1.heap.objs.size+2:=by rw[Heap.size_push,z1]
 have z3:(zK3 s1.heap b1 b2 l1 l2).objs.size=s1.heap.objs.size+3:=by rw[Heap.size_push,z2]
 have z4:(zK4 s1.heap b1 b2 l1 l2).objs.size=s1.heap.objs.size+4:=by rw[Heap.size_push,z3]
 have g5:(zK5 s1.heap b1 b2 l1 l2).get? (zK4 s1.heap b1 b2 l1 l2).objs.size=some _:=Heap.get?_push_size _ rfl
 have g4:(zK5 s1.heap b1 b2 l1 l2).get? (zK3 s1.heap b1 b2 l1 l2).objs.size=some _:=Heap.get?_push_of_some _ (Heap.get?_push_size _ rfl)
 have g3:(zK5 s1.heap b1 b2 l1 l2).get? (zK2 s1.heap b1 b2 l1 l2).objs.size=some _:=Heap.get?_push_of_some _ (Heap.get?_push_of_some _ (Heap.get?_push_size _ rfl))
 have g2:ItK b2 (zK5 s1.heap b1 b2 l1 l2) (s1.heap.push (itO b1 l1)).objs.size l2 0:=(ItK.new (b:=b2) (l:=l2) (s1.heap.push (itO b1 l1))).to fun o e=>Heap.get?_push_of_some _ (Heap.get?_push_of_some _ (Heap.get?_push_of_some _ e))
 have g1:ItK b1 (zK5 s1.heap b1 b2 l1 l2) s1.heap.objs.size l1 0:=(ItK.new (b:=b1) (l:=l1) s1.heap).to fun o e=>Heap.get?_push_of_some _ (Heap.get?_push_of_some _ (Heap.get?_push_of_some _ (Heap.get?_push_of_some _ e)))
 rw[z2,z3,z4]at g5
 rw[z1,z2]at g3
 rw[z3]at g4
 rw[z1]at g2
 refine callType_new F.called_zip (by decide) (F.typeCall_zip_2 _ _) (F.newCall_zip_2 _ _) (fun obj=>F.args_object_init_3 obj _ _) F.entry_zip_new (zipK_new b1 b2 l1 l2 us.toArray ws.toArray) ⟨p1,p2,?_⟩
 show _/\_
 rw[z4]
 have kp:∀ c o,s1.heap.get? c=some o->(zK5 s1.heap b1 b2 l1 l2).get? c=some o:=fun c o x=>Heap.get?_push_of_some _ (Heap.get?_push_of_some _ (Heap.get?_push_of_some _ (Heap.get?_push_of_some _ (Heap.get?_push_of_some _ x))))
 refine⟨⟨_,g5,rfl⟩,wpAny_pyIter_zip g5 ⟨s1.heap.objs.size+4,_,_,_,H1,rfl,I1.kept (t':=s1.toks) kp,turn_zip b1 b2 _ (s1.heap.objs.size+2) (s1.heap.objs.size+3) s1.heap.objs.size (s1.heap.objs.size+1) l1 l2 (za_new _),⟨g5,g3,⟨_,_,g4⟩,g1,g2⟩,fun b hb=>?_,q⟩⟩
 have le:s1.heap.objs.size<=b:=by
  simp only[List.mem_cons,List.not_mem_nil,or_false]at hb
  rcases hb with e | e | e | e | e
  ·rw[e];exact Nat.le_add_right _ 4
  ·rw[e];exact Nat.le_add_right _ 2
  ·rw[e];exact Nat.le_add_right _ 3
  ·rw[e];exact Nat.le_refl _
  ·rw[e];exact Nat.le_add_right _ 1
 exact I1.fpOk le (I1.hok.fresh le)
open PySem PySem.W PyProof.Rows Srt
section
variable{X:Cx}{pins:List (Addr×Obj)}{σ:St}{H:Hp}{s:Shared}{a:Addr}{y v:V}{u r:Value}{A:Around}{E:Value->Shared->Prop}
theorem d_set{H':Hp}{Q:Unit->Shared->Prop}(hu:A.units<cLine)(I:Inv X pins σ H s)(g:DPut H a y v H')(ry:RelV y u)(rv:RelV v r)(h:∀ s',Inv X pins σ H' s'->Q () s'):wpAny (model X.prog X.w) A (dictSet a u r) Q E s:=by
 rcases g with⟨kvs,k,e,ey,l,eH⟩ |⟨kvs,k,b,e,ey,eb,l,eH⟩
 ·subst ey eH
  obtain⟨z,hd,vs,rel,dd⟩:=dk_of I.hok e
  have hz:vs.length<=sizeLine:=by rw[<- rel.length];exact z
  have hl:(putK kvs k v).length<=sizeLine:=by have:=length_putK kvs k v;lia
  refine wpAny_dictSet_pairs (hsz:=hz) (kV_is ry) dd fun h' dd' hs=>h _ ?_
  have he:∃ q,h'.get? a=some q:=let ⟨q,_,_,hq,_⟩:=dd';⟨q,hq⟩
  exact d_write I (by rw[e];exact True.intro) hs he (dk_new hl hd (rel.put k rv) dd')
 ·subst ey eH
  cases(show u=Value.ref b from ry)
  obtain⟨z,hd,xs,rel,dd⟩:=dt_of I.hok e
  have hz:xs.length<=sizeLine:=by rw[<- Paired.length rel];exact z
  have hl:(putK kvs k v).length<=sizeLine:=by have:=length_putK kvs k v;lia
  refine wpAny_dictSet_heap (hsz:=hz) (knd:=tupleKind (mixKind X.prog X.w)) hu (key_of I.hok eb) dd fun h' dd' hs=>h _ ?_
  obtain⟨q,es,ep,hq,h2,h3,h4,_,h5⟩:=dd'
  refine d_write I (by rw[e];exact True.intro) hs ⟨q,hq⟩ ⟨hl,hd,_,(rel.put k eb rv).keeps fun c ys ec=>?_,q,es,ep,hq,h2,h3,h4,h5⟩
  rw[upd_ne (ne_of ec e (fun z=>nomatch z))]
  exact ec
theorem Inv.track{D:Addr}{ob:HO}(I:Inv X pins σ H s)(f:FpOk X pins H D)(new:ObjOk X.prog X.w (upd H D ob) s.heap D ob):Inv X pins σ (upd H D ob) s:=by
 have hn:H D=none:=f.1
 have:=I.step (h':=s.heap) (H':=upd H D ob) (g':=s.gens) (t':=s.toks) (d':=s.drawn) (ch:=[D]) (fun b hb=>?_) (fun b o _ _ _ e _=>e) (fun b o _ _ _ e _=>⟨o.slots,e⟩) (fun b o nb _ n=>by
  rw[upd_ne (fun z=>nb (by simp[z]))];exact n) (fun b o _ e=>⟨o,e⟩) (fun b xs e=>by rw[upd_ne (ne_of_none e hn)];exact e) (fun b o u e=>by rw[upd_ne (ne_of_none e hn)];exact e) (fun b ps e=>⟨#[],by rw[upd_ne (ne_of_none e hn),e];simp⟩) (fun m hm=>hm) (fun b u e=>?_) I.bare
 ·exact this
 ·have e:b=D:=by simpa using hb
  subst e
  obtain⟨_,f1,_,f3,f4,f5⟩:=f
  exact⟨f3,f1,f4,f5⟩
 ·by_cases hb:b=D
  ·subst hb;rw[upd_same]at e;cases e;exact new
  ·rw[upd_ne hb]at e
   exact(I.hok b u e).stay (fun c v _ q=>q) (fun c q=>by rw[upd_ne (ne_of_none q hn)];exact q) fun c xs q=>by rw[upd_ne (ne_of_none q hn)];exact q
end
section
variable{prog:Program}{w:World}{A:Around}{R:Result->Shared->Prop}{s:Shared}
theorem dcompLoop{kx vx target iter:Expr}{ifs:List Expr}{scope:Scope}{pos:Pos}{it:Value}{D:Addr}{env:Env}(I:Nat->Shared->Prop)
  (turn:∀ n s,I n s->wpAny (model prog w) A (pyNext it) (fun r s₁=>match r with
   |none=>R (.ok .next) s₁
   |some v=>wpAny (model prog w) A (letOwnedTupleGo target it v) (fun _ s₁'=>wpAny (model prog w) A (assign target env v) (fun _ s₂ =>
     wpAny (model prog w) A (forIn ifs true fun c r=>if r=true then do let ok <- isTrue c env (eval c env);pure (ForInStep.yield ok)else pure (ForInStep.yield r)) (fun ok s₃ =>
      if ok=true then wpAny (model prog w) A (eval kx env) (fun kv s₄=>wpAny (model prog w) A (eval vx env) (fun vv s₅=>wpAny (model prog w) A (dictSet D kv vv) (fun _ s₆=>∃ m,m<n/\I m s₆) (fun _ _=>False) s₅) (fun _ _=>False) s₄) (fun _ _=>False) s₃
      else ∃ m,m<n/\I m s₃) (fun _ _=>False) s₂) (fun _ _=>False) s₁') (fun _ _=>False) s₁) (fun _ _=>False) s)
  (n:Nat) (h:I n s):codeAny (model prog w) A (.compLoop (.DictComp kx vx [⟨target,iter,ifs,0⟩] scope pos) 0 it (.ref D) env) R s:=by
 refine codeAny_loop rfl I (fun n s hI=>?_) n h
 show wpAny _ A ((compTurn (.DictComp kx vx [⟨target,iter,ifs,0⟩] scope pos) 0 it (.ref D) env).onRaise (fun x=>do noteFrame x env;theTreesLotGoes x)) _ _ s
 refine wpAny_noted ?_
 rw[compTurn_dict];refine wpAny_bind (wpAny_standAt (wpAny_bind (wpAny_mono (turn n s hI) (fun r s₁ h₁=>?_) fun _ _ h'=>h'.elim)))
 cases r with
 |none=>exact wpAny_pure h₁
 |some v =>
  refine wpAny_bind (wpAny_mono h₁ (fun _ s₁' h₁'=>?_) fun _ _ h'=>h'.elim);refine wpAny_bind (wpAny_mono h₁' (fun _ s₂ h₂=>wpAny_bind (wpAny_mono h₂ (fun ok s₃ h₃=>?_) fun _ _ h'=>h'.elim)) fun _ _ h'=>h'.elim)
  cases ok with
  |false=>exact wpAny_pure ⟨rfl,h₃⟩
  |true =>
   exact wpAny_bind (wpAny_bind (wpAny_mono h₃ (fun kv s₄ h₄=>wpAny_bind (wpAny_holding (wpAny_mono h₄ (fun vv s₅ h₅=>wpAny_bind (wpAny_standAt (wpAny_holding (wpAny_mono h₅ (fun _ s₆ h₆=>wpAny_pure ⟨rfl,h₆⟩) fun _ _ h'=>h'.elim)))) fun _ _ h'=>h'.elim))) fun _ _ h'=>h'.elim))
end
noncomputable def dcompTurns(J:It)(cap:List (Option Nat))(σ:St)(H1:Hp)(D:Addr)(Q:VK)(g:TG)(tc:TT)(tk tv:TE):Prop:=∃ (n:Nat) (P:Nat->Hp->Prop),P 0 H1 /\
 ∀ i H,i<=n->P i H->(J.stop i H/\Q (.ref D) H) \/
  (i<n/\J.go i H/\∀ x H',J.yld i H x H'->g x (capt cap σ) H' fun σ2 H2=>Kp (capt cap σ) σ2/\tc σ2 H2 fun b H3=>if b=true then tk σ2 H3 fun k H4=>tv σ2 H4 fun y H5=>∃ H6,DPut H5 D k y H6/\P (i+1) H6 else P (i+1) H3)
noncomputable def dEmp:Bool->HO
 |true=>.dT []
 |false=>.dK []
noncomputable def tDComp(t:Bool)(cap:List (Option Nat))(wi:TI)(g:TG)(tc:TT)(tk tv:TE):TE:=fun σ H Q=>wi σ H fun J H1=>∀ D,H1 D=none->dcompTurns J cap σ (upd H1 D (dEmp t)) D Q g tc tk tv
section
variable{X:Cx}{kx vx tg iter:Expr}{ifs:List Expr}{scope:Scope}{pos:Pos}{N':List Str}{cap:List (Option Nat)}{wi:TI}{g:TG}{tc:TT}{tk tv:TE}
theorem dcomp_run(t:Bool)(hu:X.A.units<cLine)(hc:X.calm=true)(S:CompScope N' cap X.N X.env.scope scope)(hi:PI X tg iter wi)(hg:∀ C s H fp,PG (cxIn X N' scope C s H fp) tg g)
  (ht:∀ C s H fp,PF (cxIn X N' scope C s H fp) ifs tc) (hk:∀ C s H fp,PE (cxIn X N' scope C s H fp) kx tk) (he:∀ C s H fp,PE (cxIn X N' scope C s H fp) vx tv)
  {pins:List (Addr×Obj)}{s:Shared}{σ:St}{H:Hp}{Q:VK} (I:Inv X pins σ H s) (h:tDComp t cap wi g tc tk tv σ H Q) :
  wpAny (model X.prog X.w) X.A (eval iter X.env) (fun x s₁=>wpAny (model X.prog X.w) X.A (pyIter x) (fun it s₂=>wpAny (model X.prog X.w) X.A newDict (fun acc s₃ =>
   wpAny (model X.prog X.w) X.A (newFunctionEnv scope X.env.globals (closCl X.env.cells scope.names []) [] X.env.qual none .none (some X.env)) (fun cenv s₄ =>
    codeAny (model X.prog X.w) X.A (.compStart (.DictComp kx vx [⟨tg,iter,ifs,0⟩] scope pos) 0 it acc { cenv with scope:=relabel scope X.env }) (CompEnd X pins σ Q acc cenv.locals) s₄) X.xe s₃) X.xe s₂) X.xe s₁) X.xe s:=by
 refine thn (hi pins s σ H _ I h) fun v s1 h1=>thn h1 fun itv s2 h2=>?_
 obtain⟨it,fp,tn,J,H2,e,I2,T,st2,f2,turns⟩:=h2
 subst e
 obtain⟨n,P,p0,turn⟩:=turns s2.heap.objs.size (I2.hok.fresh (Nat.le_refl _))
 refine wpAny_newObj_type (wpAny_newFunctionEnv S.nocell (by intro y hy;simp at hy) (fun h₁ hns₁ hsb₁=>?_) S.kind)
 dsimp only at hns₁ hsb₁ ⊢
 generalize hHp:s2.heap.push { cls:=.type "dict",dict:=none,data:=.dict #[] } = Hq at hns₁ hsb₁ ⊢
 have hC:Hq.objs.size=s2.heap.objs.size+1:=by rw[<- hHp,Heap.size_push]
 have hDC:s2.heap.objs.size≠Hq.objs.size:=by rw[hC];exact Nat.ne_of_lt (Nat.lt_succ_self _)
 have hCle:s2.heap.objs.size<=Hq.objs.size:=by rw[hC];exact Nat.le_succ _
 have old:∀ b o,s2.heap.get? b=some o->h₁.get? b=some o:=fun b o e =>
  hsb₁.extBut b o (by rw[hC];exact Nat.ne_of_lt (Nat.lt_succ_of_lt (Heap.lt_size e))) (Heap.get?_push_of_some _ (hHp▸Heap.get?_push_of_some _ e))
 have hacc:h₁.get? s2.heap.objs.size=some { cls:=.type "dict",dict:=none,data:=.dict #[] }:=hsb₁.extBut _ _ hDC (Heap.get?_push_of_some _ (hHp▸Heap.get?_push_size _ rfl))
 have hfo:∀ b∈fp,∃ o,s2.heap.get? b=some o:=fun b hb=>let ⟨o,e,_⟩:=T.obj _ _ st2 b hb;⟨o,e⟩
 have st4:tn 0 h₁:=T.keep _ _ _ st2 fun b _ o e=>old b o e
 let D:Addr:=s2.heap.objs.size
 let C:Addr:=Hq.objs.size
 let Y:Cx:=cxIn X N' scope C s2 H2 fp
 have hDfp:D∉fp:=fun hb=>by
  obtain⟨o,e⟩:=hfo D hb
  exact Nat.lt_irrefl _ (Heap.lt_size e)
 have stat:∀ {H':Hp},(∀ b∈fp,H' b=none)->∀ b∈fp,FpOk Y pins H' b:=fun {H'} hn b hb=>by
  obtain⟨f0,f1,fx,f3,f4,f5⟩:=f2 b hb
  obtain⟨o,e⟩:=hfo b hb
  refine⟨hn b hb,fun z=>?_,fun z=>?_,.inl hb,fun x c e=>f4 x c (closCl_sound _ _ (S.clos I2) (fun y c e=>by simp at e) x c e),f5⟩
  ·have h1:=Nat.lt_of_lt_of_le (Heap.lt_size e) hCle
   have z:b=Hq.objs.size:=z
   rw[z]at h1
   exact Nat.lt_irrefl _ h1
  ·rcases List.mem_cons.mp (I2.stkSub b z)with e | e
   ·exact f1 e
   ·exact fx e
 have loop:∀ s₃:Shared,s₃ = { s2 with heap:=h₁,toks:=s2.toks+([]:List (Str×Value)).length } ->
   codeAny (model X.prog X.w) X.A (.compLoop (.DictComp kx vx [⟨tg,iter,ifs,0⟩] scope pos) 0 (.ref it) (.ref s2.heap.objs.size) (compEnvC scope (closCl X.env.cells scope.names []) Hq.objs.size X.env))
    (CompEnd X pins σ Q (.ref s2.heap.objs.size) Hq.objs.size) s₃:=by
  rintro s₃ rfl
  have inF:∀ {pl:List (Addr×Obj)}{p:Addr×Obj},p∈pl->p∈Y.pn++(pins++pl):=fun {pl p} hp=>List.mem_append_right _ (List.mem_append_right _ hp)
  refine dcompLoop (fun m s'=>∃ i H',m=n-i/\i<=n/\Inv Y pins (capt cap σ) H' s'/\tn i s'.heap/\(∀ b∈fp,H' b=none)/\P i H') ?_ n ?_
  ·rintro m s3 ⟨i,H3,rfl,hin,I3,st3,fr3,p3⟩
   rcases turn i H3 hin p3 with⟨stop,q⟩ |⟨hlt,go,step⟩
   ·refine thn (T.done Y rfl rfl rfl hc i _ s3 _ H3 (fun _ _=>False) I3 (stat fr3) st3 stop) fun r s4 ⟨hr,I4⟩=>?_
    subst hr
    have IX:Inv X pins σ H3 s4:=I2.call' (ch:=fp) I4.os I4.base I4.hok I4.bare fun b hb=>by
     obtain⟨f0,f1,fx,f3,f4,f5⟩:=f2 b hb
     exact⟨f3,f1,f4,f5⟩
    obtain⟨m',hm',_⟩:=I4.loc
    exact⟨.ref D,_,IX,rfl,q,⟨m',hm'⟩,I2.fpOk hCle I4.free⟩
   ·refine thn (T.item Y rfl rfl rfl hc i _ s3 _ H3 (fun _ _=>False) I3 (stat fr3) st3 go) fun r s4 ⟨u,hr,h4⟩=>?_
    subst hr
    refine thn h4 fun _ s5 ⟨x,H5,I5,r5,y5,st5,fr5⟩=>?_
    have I5':=I5.pinned (stat fr5) (T.obj _ _ st5)
    refine thn (hg C s2 H2 fp _ s5 _ H5 x u _ I5' r5 (step x H5 y5)) fun _ s6 ⟨σ6,H6,I6,kp,q6⟩=>?_
    refine thn (ht C s2 H2 fp _ s6 σ6 H6 _ I6 q6) fun b s7 ⟨H7,I7,q7⟩=>?_
    cases b with
    |false =>
     rw[if_neg Bool.false_ne_true]at q7 ⊢
     refine⟨n-(i+1),Nat.sub_succ_lt_self n i hlt,i+1,H7,rfl,hlt,I7.unpinned.weak kp.length kp.get,?_,fun b hb=>?_,q7⟩
     ·exact T.keep _ _ _ st5 fun b hb o e=>(I7.pin (b,o) (inF (mem_pinsAt hb e))).1
     ·obtain⟨o,e,d⟩:=T.obj _ _ st5 b hb
      exact(I7.pin (b,o) (inF (mem_pinsAt hb e))).2.1
    |true =>
     rw[if_pos rfl]at q7 ⊢
     refine thn (hk C s2 H2 fp _ s7 σ6 H7 _ I7 q7) fun kv s8 ⟨k,H8,I8,r8,q8⟩=>thn (he C s2 H2 fp _ s8 σ6 H8 _ I8 q8) fun yv s9 ⟨y,H9,I9,r9,H10,dp,q9⟩=>?_
     refine d_set (X:=Y) hu I9 dp r8 r9 fun s10 I10=>?_
     refine⟨n-(i+1),Nat.sub_succ_lt_self n i hlt,i+1,H10,rfl,hlt,I10.unpinned.weak kp.length kp.get,?_,fun b hb=>?_,q9⟩
     ·exact T.keep _ _ _ st5 fun b hb o e=>(I10.pin (b,o) (inF (mem_pinsAt hb e))).1
     ·obtain⟨o,e,d⟩:=T.obj _ _ st5 b hb
      exact(I10.pin (b,o) (inF (mem_pinsAt hb e))).2.1
  ·have I4:=cxIn_inv (s4:={ s2 with heap:=h₁,toks:=s2.toks+([]:List (Str×Value)).length }) S I2 hCle f2 hfo rfl rfl old hns₁ hacc (Nat.le_refl _) hDC fun v z=>by cases z
   obtain⟨_,pD1,pD2,pD3,_⟩:=I4.pin (D,{ cls:=.type "dict",dict:=none,data:=.dict #[] }) (List.mem_append_right _ (List.mem_append_right _ (List.mem_singleton.mpr rfl)))
   have I5:Inv Y pins (capt cap σ) H2 { s2 with heap:=h₁,toks:=s2.toks+([]:List (Str×Value)).length }:=I4.pins_of fun p hp=>I4.pin p (List.mem_append_right _ (List.mem_append_left _ hp))
   have fD:FpOk Y pins H2 D:=⟨pD1,pD2,pD3,.inr (Nat.le_refl _),fun x c e z=>by
    obtain⟨v,q⟩:=I2.cell x c (closCl_sound _ _ (S.clos I2) (fun y c e=>by simp at e) x c e)
    have h1:=q.lt
    rw[show c=s2.heap.objs.size from z]at h1
    exact Nat.lt_irrefl _ h1,fun p hp z=>by
    have h1:=Heap.lt_size (I2.pin p hp).1
    rw[show p.1=s2.heap.objs.size from z]at h1
    exact Nat.lt_irrefl _ h1⟩
   have nsys:(D == sysModules)=false:=by
    have:=I2.big
    exact Bool.eq_false_iff.mpr fun z=>by
     have e:D=sysModules:=by simpa using z
     have h1:sysModules<D:=this
     rw[<- e]at h1
     exact Nat.lt_irrefl _ h1
   have new:ObjOk X.prog X.w (upd H2 D (dEmp t)) h₁ D (dEmp t):=by
    cases t
    ·exact⟨Nat.zero_le _,nsys,[],.nil,_,#[],0,hacc,⟨rfl,rfl,rfl⟩,rfl,fun e he=>by simp at he,.nil,List.nodup_nil⟩
    ·exact⟨Nat.zero_le _,nsys,[],.nil,_,#[],0,hacc,⟨rfl,rfl,rfl⟩,rfl,rfl,List.nodup_nil⟩
   refine⟨0,upd H2 D (dEmp t),rfl,Nat.zero_le _,I5.track fD new,st4,fun b hb=>?_,p0⟩
   rw[upd_ne (fun z=>hDfp (by rw[<- z];exact hb))]
   exact(f2 b hb).1
 exact codeAny_compStart_dict (loop _ rfl) (T.self X.A 0 _ _ _ st4 (loop _ rfl))
theorem pe_dcomp(t:Bool)(hu:X.A.units<cLine)(hc:X.calm=true)(S:CompScope N' cap X.N X.env.scope scope)(hi:PI X tg iter wi)(hg:∀ C s H fp,PG (cxIn X N' scope C s H fp) tg g)
  (ht:∀ C s H fp,PF (cxIn X N' scope C s H fp) ifs tc) (hk:∀ C s H fp,PE (cxIn X N' scope C s H fp) kx tk) (he:∀ C s H fp,PE (cxIn X N' scope C s H fp) vx tv)
  (hs:∀ x,foldedSetIterable iter X.env x=pure x:=by intro _;rfl):PE X (.DictComp kx vx [⟨tg,iter,ifs,0⟩] scope pos) (tDComp t cap wi g tc tk tv):=by
 intro pins s σ H Q I h
 rw[arm_eval_DictComp]
 refine wpAny_comprehension_free (use:=none) rfl hs (closureFor_cells (S.clos I)) S.kind S.loc (thn (dcomp_run (pos:=pos) t hu hc S hi hg ht hk he I h) fun x s1 h1=>thn h1 fun it s2 h2=>thn h2 fun acc s3 h3=>thn h3 fun cenv s4 h4=>?_)
 refine codeAny_mono h4 fun r s' hr=>?_
 cases r with
 |error x=>exact hr.elim
 |ok f =>
  obtain⟨v,H',I',rv,q,⟨m,hn⟩,f0,f1,f2,f3,f4,f5⟩:=hr
  refine⟨m,hn,fun h' sb=>⟨v,H',I'.turned (it:=cenv.locals) (t':=s'.toks) (fun b o hb e=>(sb.2 b hb).trans e) f0 f1 f3 f4 f5,rv,q⟩⟩
end
open PySem PySem.W PyProof.Rows Srt
open PySem PySem.W PyProof.Rows Srt
inductive Dt where
 |non | bl (b:Bool) | int (i:Int) | str (x:Str) | lst (ds:List Dt) | tup (ds:List Dt)
noncomputable def Dat(H:Hp):Nat->V->Dt->Prop
 | _,v,.non=>v = .non
 | _,v,.bl b=>v = .bl b
 | _,v,.int i=>v = .int i
 | _,v,.str x=>v = .str x
 | 0,_,.lst _=>False
 | 0,_,.tup _=>False
 |n+1,v,.lst ds=>∃ a xs,v = .ref a/\xs.length<=1000/\H a=some (.lst xs)/\Paired (Dat H n) xs ds
 |n+1,v,.tup ds=>∃ a xs,v = .ref a/\xs.length<=1000/\H a=some (.tup xs)/\Paired (Dat H n) xs ds
open PySem PyProof.Rows
section
variable{K:PySem.W.Frag}{a:Addr}{xs:List V}{g:TG}{tc:TT}{te:TE}{cap:List (Option Nat)}{σ:St}{H1:Hp}{Q:VK}
theorem comp_tup(P:Nat->List V->Hp->Prop)(hz:xs.length<=sizeLine)(p0:P 0 [] H1)(hl:∀ i ys H,i<=xs.length->P i ys H->SqT K H a xs)
  (hs:∀ i x ys H,xs[i]?=some x->P i ys H->g x (capt cap σ) H fun σ2 H2=>Kp (capt cap σ) σ2/\tc σ2 H2 fun b H3=>if b=true then te σ2 H3 fun y H4=>P (i+1) (ys++[y]) H4 else P (i+1) ys H3)
  (hd:∀ ys H,ys.length<=xs.length->P xs.length ys H->∀ D,H D=none->Q (.ref D) (upd H D (.lst ys))):compTurns (Itt K a) cap σ H1 Q g tc te:=by
 refine⟨xs.length,P,hz,p0,fun i ys H yl il p=>?_⟩
 have q:=hl i ys H il p
 by_cases hlt:i<xs.length
 ·refine .inr ⟨hlt,⟨xs,xs[i],q,by simp[hlt]⟩,fun x H' y=>?_⟩
  obtain⟨e,y⟩:=y
  subst e
  exact hs i x ys _ (y xs q) p
 ·have e:i=xs.length:=by lia
  subst e
  exact .inl ⟨⟨xs,q,Nat.le_refl _⟩,hd ys H yl p⟩
theorem comp_list(P:Nat->List V->Hp->Prop)(hz:xs.length<=sizeLine)(p0:P 0 [] H1)(hl:∀ i ys H,i<=xs.length->P i ys H->SqL K H a xs)
  (hs:∀ i x ys H,xs[i]?=some x->P i ys H->g x (capt cap σ) H fun σ2 H2=>Kp (capt cap σ) σ2/\tc σ2 H2 fun b H3=>if b=true then te σ2 H3 fun y H4=>P (i+1) (ys++[y]) H4 else P (i+1) ys H3)
  (hd:∀ ys H,ys.length<=xs.length->P xs.length ys H->∀ D,H D=none->Q (.ref D) (upd H D (.lst ys))):compTurns (Itl K a) cap σ H1 Q g tc te:=by
 refine⟨xs.length,P,hz,p0,fun i ys H yl il p=>?_⟩
 have q:=hl i ys H il p
 by_cases hlt:i<xs.length
 ·refine .inr ⟨hlt,⟨xs,xs[i],q,by simp[hlt]⟩,fun x H' y=>?_⟩
  obtain⟨e,y⟩:=y
  subst e
  exact hs i x ys _ (y xs q) p
 ·have e:i=xs.length:=by lia
  subst e
  exact .inl ⟨⟨xs,q,Nat.le_refl _⟩,hd ys H yl p⟩
theorem comp_range{lo:Int}{n:Nat}(P:Nat->List V->Hp->Prop)(hz:n<=sizeLine)(p0:P 0 [] H1)
  (hs:∀ i ys H,i<n->P i ys H->g (.int (lo+i)) (capt cap σ) H fun σ2 H2=>Kp (capt cap σ) σ2/\tc σ2 H2 fun b H3=>if b=true then te σ2 H3 fun y H4=>P (i+1) (ys++[y]) H4 else P (i+1) ys H3)
  (hd:∀ ys H,ys.length<=n->P n ys H->∀ D,H D=none->Q (.ref D) (upd H D (.lst ys))):compTurns (Itr lo n) cap σ H1 Q g tc te:=by
 refine⟨n,P,hz,p0,fun i ys H yl il p=>?_⟩
 by_cases hlt:i<n
 ·refine .inr ⟨hlt,hlt,fun x H' y=>?_⟩
  obtain⟨e,y⟩:=y
  subst e y
  exact hs i ys _ hlt p
 ·have e:i=n:=by lia
  subst e
  exact .inl ⟨Nat.le_refl _,hd ys H yl p⟩
end
noncomputable def capB(cap:List (Option Nat))(N' N:List Str)(names:List (Str×NameKind)):Bool:=(List.range cap.length).all fun j=>match cap[j]? with
 |some (some i)=>(match N'[j]? with
  |some x=>decide (N[i]?=some x/\names.lookup x=some .free)
  |none=>false)
 | _=>true
theorem capB_ok{cap:List (Option Nat)}{N' N:List Str}{names:List (Str×NameKind)}(h:capB cap N' N names=true):∀ j∈List.range cap.length,match cap[j]? with
  |some (some i)=>match N'[j]? with
   |some x=>N[i]?=some x/\names.lookup x=some .free
   |none=>False
  | _=>True:=by
 intro j hj
 have z:=List.all_eq_true.mp h j hj
 revert z
 cases e1:cap[j]? with
 |none=>intro _;trivial
 |some o =>
  cases o with
  |none=>intro _;trivial
  |some i =>
   cases e2:N'[j]? with
   |none =>
    intro z
    dsimp only at z
    exact absurd z Bool.false_ne_true
   |some x =>
    intro z
    dsimp only at z
    exact of_decide_eq_true z
theorem op_catTK{X:Cx}(K:PySem.W.Frag)(e:X.K=K):OpR X (binaryOp .Add) (rCatT K):=e▸op_catT
theorem pg_tupK{X:Cx}{pos:Pos}(K:PySem.W.Frag)(e:X.K=K){es:List Expr}{k:Nat}{t:TGs}{n:Nat}(hc:X.calm=true)(h:PGs X es t)
  (hn:(assignEach es X.env).length=n) (hst:(assignEach es X.env).findIdx? (·.1)=none):PG X (.Tuple es k pos) (gTup K n t):=e▸pg_tup hc h hn hst
theorem Paired.at{α β:Type}{F:α->β->Prop}:∀ {l₁:List α}{l₂:List β},Paired F l₁ l₂->∀ (i:Nat) (h1:i<l₁.length) (h2:i<l₂.length),F l₁[i] l₂[i]:=by
 intro l ks h
 induction h with
 |nil=>intro i h1;exact absurd h1 (Nat.not_lt_zero _)
 |cons h t ih =>
  intro i h1 h2
  cases i with
  |zero=>exact h
  |succ i=>exact ih i (Nat.lt_of_succ_lt_succ h1) (Nat.lt_of_succ_lt_succ h2)
theorem Same.tupq{K:PySem.W.Frag}{H H':Hp}{a:Addr}{xs:List V}(e:Same H H')(h:SqT K H a xs):SqT K H' a xs:=by
 rcases h with(h |⟨o,h⟩) | h
 ·exact .inl (.inl (e _ _ h))
 ·exact .inl (.inr ⟨o,e _ _ h⟩)
 ·exact .inr h
theorem Same.new{q:Addr}{H:Hp}{o:HO}(h:H q=none):Same H (upd H q o):=fun b u e=>by rw[upd_ne (ne_of_none e h)];exact e
section
variable{K:PySem.W.Frag}{l1 l2:Addr}{xs ys:List V}{b1 b2:Bool}{g:TG}{tc:TT}{te:TE}{cap:List (Option Nat)}{σ:St}{H1:Hp}{Q:VK}
theorem comp_zip(P:Nat->List V->Hp->Prop)(hz:min xs.length ys.length<=sizeLine)(p0:P 0 [] H1)(hl:∀ i zs H,i<=min xs.length ys.length->P i zs H->SqB b1 K H l1 xs/\SqB b2 K H l2 ys)
  (hs:∀ i x y zs H T,xs[i]?=some x->ys[i]?=some y->P i zs H->H T=none->g (.ref T) (capt cap σ) (upd H T (.tup [x,y])) fun σ2 H2=>Kp (capt cap σ) σ2/\tc σ2 H2 fun b H3=>if b=true then te σ2 H3 fun y H4=>P (i+1) (zs++[y]) H4 else P (i+1) zs H3)
  (hd:∀ zs H,zs.length<=min xs.length ys.length->P (min xs.length ys.length) zs H->∀ D,H D=none->Q (.ref D) (upd H D (.lst zs))):compTurns (Itz K b1 b2 l1 l2) cap σ H1 Q g tc te:=by
 refine⟨min xs.length ys.length,P,hz,p0,fun i zs H yl il p=>?_⟩
 obtain⟨q1,q2⟩:=hl i zs H il p
 by_cases hlt:i<min xs.length ys.length
 ·have h1:i<xs.length:=by lia
  have h2:i<ys.length:=by omega
  refine .inr ⟨hlt,⟨xs,ys,xs[i],ys[i],q1,q2,by simp[h1],by simp[h2]⟩,fun v H' y=>?_⟩
  obtain⟨T,x,y,rfl,hT,rfl,f1,f2⟩:=y
  exact hs i x y zs _ T (f1 xs q1) (f2 ys q2) p hT
 ·have e:i=min xs.length ys.length:=by lia
  subst e
  exact .inl ⟨⟨xs,ys,q1,q2,by lia⟩,hd zs H yl p⟩
theorem for_zip{tb:TS}{D:Ends}{σ:St}{H:Hp}(Pv:Nat->St->Hp->Prop)(h0:Pv 0 σ H)(hl:∀ i σ H,i<=min xs.length ys.length->Pv i σ H->SqB b1 K H l1 xs/\SqB b2 K H l2 ys)
  (hs:∀ i x y σ H T,xs[i]?=some x->ys[i]?=some y->Pv i σ H->H T=none->g (.ref T) σ (upd H T (.tup [x,y])) fun σ2 H2=>tb { D with nx:=Pv (i+1),ct:=Pv (i+1),bk:=D.nx } σ2 H2) (hd:∀ σ H,Pv (min xs.length ys.length) σ H->D.nx σ H) :
  ∃ W:Nat->Nat->St->Hp->Prop,(∃ m,W 0 m σ H)/\∀ i m σ H,W i m σ H ->
   ((Itz K b1 b2 l1 l2).stop i H/\D.nx σ H)\/((Itz K b1 b2 l1 l2).go i H/\∃ N:St->Hp->Prop,(∀ σ' H',N σ' H'->∃ m',m'<m/\W (i+1) m' σ' H')/\∀ x H',(Itz K b1 b2 l1 l2).yld i H x H'->g x σ H' fun σ2 H2=>tb { D with nx:=N,ct:=N,bk:=D.nx } σ2 H2):=by
 refine⟨fun i m σ H=>m=min xs.length ys.length-i/\i<=min xs.length ys.length/\Pv i σ H,⟨min xs.length ys.length,by simp,Nat.zero_le _,h0⟩,?_⟩
 rintro i m σ H ⟨rfl,hi,p⟩
 obtain⟨q1,q2⟩:=hl i σ H hi p
 by_cases hlt:i<min xs.length ys.length
 ·have h1:i<xs.length:=by lia
  have h2:i<ys.length:=by omega
  refine .inr ⟨⟨xs,ys,xs[i],ys[i],q1,q2,by simp[h1],by simp[h2]⟩,Pv (i+1),fun σ' H' p'=>⟨min xs.length ys.length-(i+1),by omega,rfl,hlt,p'⟩,fun v H' y=>?_⟩
  obtain⟨T,x,y,rfl,hT,rfl,f1,f2⟩:=y
  exact hs i x y σ _ T (f1 xs q1) (f2 ys q2) p hT
 ·have e:i=min xs.length ys.length:=by lia
  subst e
  exact .inl ⟨⟨xs,ys,q1,q2,by lia⟩,hd σ H p⟩
end
end L2
namespace K23
open PySem L2 PyProof.Rows
noncomputable def top(i:Nat):Stmt:=PySem.Challenge.pw_partedweb_k23_made_less_and_as_light.main.body.getD i (.Pass ⟨0,0,0,0⟩)
noncomputable abbrev sFlow:Stmt:=top 1
noncomputable abbrev sWideSide:Stmt:=top 2
noncomputable abbrev sGivenAt:Stmt:=top 3
noncomputable abbrev sValueOf:Stmt:=top 4
noncomputable abbrev sArcsOf:Stmt:=top 5
noncomputable abbrev sGreatestAmounts:Stmt:=top 6
noncomputable abbrev sSend:Stmt:=top 7
noncomputable abbrev sTrailsFrom:Stmt:=top 8
noncomputable abbrev sWayTo:Stmt:=top 9
noncomputable abbrev sPush:Stmt:=top 10
noncomputable abbrev sTieWeights:Stmt:=top 12
noncomputable abbrev sWeightOf:Stmt:=top 13
noncomputable abbrev sMerged:Stmt:=top 14
noncomputable abbrev sShrunk:Stmt:=top 16
noncomputable abbrev sDrawnIn:Stmt:=top 17
noncomputable abbrev sNumbered:Stmt:=top 18
noncomputable abbrev sCutBy:Stmt:=top 20
noncomputable abbrev sSingles:Stmt:=top 22
noncomputable abbrev sSingleEnds:Stmt:=top 23
noncomputable abbrev sCell:Stmt:=top 25
noncomputable abbrev sBox:Stmt:=top 26
noncomputable abbrev sTake:Stmt:=top 27
noncomputable abbrev sWeight:Stmt:=top 29
noncomputable abbrev sWeb:Stmt:=top 30
noncomputable abbrev sPosts:Stmt:=top 31
noncomputable abbrev sLeast:Stmt:=top 32
noncomputable abbrev sRight:Stmt:=top 33
noncomputable abbrev sLaw:Stmt:=top 34
noncomputable def Kept(p:Addr)(H H':Hp):Prop:=∀ b o,b≠p->H b=some o->H' b=some o
theorem Kept.refl{p:Addr}{H:Hp}:Kept p H H:=fun _ _ _ e=>e
theorem Kept.trans{p:Addr}{H H' H'':Hp}(a:Kept p H H')(b:Kept p H' H''):Kept p H H'':=fun c o n e=>b c o n (a c o n e)
theorem Kept.new{p q:Addr}{H:Hp}{o:HO}(h:H q=none):Kept p H (upd H q o):=fun b u _ e=>by rw[upd_ne (ne_of_none e h)];exact e
theorem Kept.at{p:Addr}{H:Hp}{o:HO}:Kept p H (upd H p o):=fun b u n e=>by rw[upd_ne n];exact e
noncomputable def BoxAt(H:Hp)(p:Addr)(N:Nat):Prop:=∃ a b c:Int,H p=some (.lst [.int a,.int b,.int c])/\0<=a/\0<=c/\c<=(N:Int)
theorem BoxAt.mono{H:Hp}{p:Addr}{N M:Nat}(x:BoxAt H p N)(h:N<=M):BoxAt H p M:=by
 obtain⟨a,b,c,e,h1,h2,h3⟩:=x
 exact⟨a,b,c,e,h1,h2,by lia⟩
theorem BoxAt.new{H:Hp}{p q:Addr}{N:Nat}{o:HO}(x:BoxAt H p N)(h:H q=none):BoxAt (upd H q o) p N:=by
 obtain⟨a,b,c,e,r⟩:=x
 exact⟨a,b,c,by rw[upd_ne (ne_of_none e h)];exact e,r⟩
theorem b01(b:Bool):-(2 ^ 64) <(if b=true then 1 else 0:Int)/\(if b=true then 1 else 0:Int)<2 ^ 64:=by cases b <;> decide
theorem b0(b:Bool):(0:Int)<=(if b=true then 1 else 0:Int):=by cases b <;> decide
noncomputable def spCell(K:PySem.W.Frag):Sp:=fun vs H Q _=>∃ (a:Addr) (ns:List Int) (k:Nat),vs=[.ref a,.int k]/\SqL K H a (ns.map V.int)/\∀ z,Q (.int z) H
noncomputable def spBox(K:PySem.W.Frag):Sp:=fun vs H Q _=>∃ (a:Addr) (ns:List Int) (k:Nat),vs=[.ref a,.int k]/\SqL K H a (ns.map V.int)/\∀ p H',H p=none->BoxAt H' p 0->Kept p H H'->Q (.ref p) H'
noncomputable def spTake:Sp:=fun vs H Q _=>∃ (p:Addr) (m:Int) (N:Nat),vs=[.ref p,.int m]/\BoxAt H p N/\N<2 ^ 40/\0<m/\m<1073741824/\∀ z H',0<=z->z<m->BoxAt H' p (N+1)->Kept p H H'->Q (.int z) H'
noncomputable def spWeight:Sp:=fun vs H Q _=>∃ (p:Addr) (h:Nat) (N:Nat),vs=[.ref p,.int h]/\h<4/\BoxAt H p N/\N+2<2 ^ 40/\∀ z H',1<=z->BoxAt H' p (N+2)->Kept p H H'->Q (.int z) H'
structure Txt(mg:Str->Option Value):Prop where
 abs:mg "abs" = none
 int:mg "int" = none
 len:mg "len" = none
 range:mg "range" = none
 min:mg "min" = none
 max:mg "max" = none
 tuple:mg "tuple" = none
 sorted:mg "sorted" = none
 isinst:mg "isinstance" = none
 list:mg "list" = none
 str:mg "str" = none
 bool:mg "bool" = none
 sum:mg "sum" = none
section
variable{P:Program}{w:World}{K:PySem.W.Frag}{mg:Str->Option Value}{base:Heap}
theorem scCell:FnScope ["_law_script","_law_k"] ["_law_script","_law_k"] (defScope sCell):=⟨rfl,rfl,rfl,by decide +kernel,rfl,by decide +kernel,by decide +kernel⟩
theorem ok_cell{f:Addr}{fd:FuncData}(F:Fun K "_law_cell_at" "_law_cell_at" sCell f fd)(T:Txt mg):FnOk P w K mg base CX0 1 f fd ["_law_script","_law_k"] (spCell K):=by
 refine F.ok scCell (fun vs H Q E h=>?_) (fun cdv A outer s H vs Q E hr h=>?_)
 ·obtain⟨a,ns,k,rfl,_⟩:=h
  rfl
 ·obtain⟨a,ns,k,rfl,hS,q⟩:=h
  refine⟨_,pss_cons (ps_if (pt_cmpR op_lt (pv 1) (pe_callB call_len_seq (by rfl) T.len PySem.boot_len (pa_cons (pv 0) pa_nil)) (nomark _)) (pss_one (ps_ret (pe_ix ix_list (pv 0) (pv 1) (fun _ _=>rfl)))) pss_nil) (pss_one (ps_ret pe_int)),?_⟩
  refine⟨_,rfl,_,rfl,a,_,rfl,.inl hS,_,_,rfl,rfl,_,rfl,?_⟩
  refine ite2 (fun hk=>?_) (fun _=>?_)
  ·have hk':k<ns.length:=by
    have:=of_decide_eq_true hk
    rw[List.length_map]at this
    lia
   exact⟨_,rfl,_,rfl,a,_,_,_,rfl,rfl,hS,atI_nat (v:=V.int ns[k]) (by rw[List.getElem?_map,List.getElem?_eq_getElem hk'];rfl),q _⟩
  ·exact q _
theorem scBox:FnScope ["_law_script","_law_k","_law_cell"] ["_law_script","_law_k"] (defScope sBox):=⟨rfl,rfl,rfl,by decide +kernel,rfl,by decide +kernel,by decide +kernel⟩
theorem ok_box{f g:Addr}{fd gd:FuncData}(F:Fun K "_law_box" "_law_box" sBox f fd)(T:Txt mg)(G:Fun K "_law_cell_at" "_law_cell_at" sCell g gd)(mG:mg "_law_cell_at" = some (.ref g))(bG:Binds K gd ["_law_script","_law_k"] []):FnOk P w K mg base CX0 2 f fd ["_law_script","_law_k"] (spBox K):=by
 refine F.ok scBox (fun vs H Q E h=>?_) (fun cdv A outer s H vs Q E hr h=>?_)
 ·obtain⟨a,ns,k,rfl,_⟩:=h
  rfl
 ·obtain⟨a,ns,k,rfl,hS,q⟩:=h
  have GG:FnOk P w K mg base CX0 1 g gd ["_law_script","_law_k"] (spCell K):=ok_cell G T
  refine⟨_,pss_cons (ps_set (i:=2) scBox.nd rfl (Or.inl rfl) (pe_call GG hr rfl mG G.kp bG .nil pass0 (pa_cons (pv 0) (pa_cons (pv 1) pa_nil))))
   (pss_one (ps_ret (pe_lst (pa_cons (pe_op op_mul (pe_callB call_abs (by rfl) T.abs boot_abs (pa_cons (pv 2) pa_nil)) (pe_callTy call_int1 (by rfl) T.int boot_int (pa_cons (pe_cmpR op_ge (pe_callB call_abs (by rfl) T.abs boot_abs (pa_cons (pv 2) pa_nil)) (pe_op op_pow pe_int pe_int) (nomark _)) pa_nil)))
    (pa_cons (pe_op op_add (pe_op op_add (pe_op op_mod (pv 2) pe_int) (pe_op op_mul pe_int (pv 1))) pe_int) (pa_cons pe_int pa_nil)))))),?_⟩
  refine⟨_,rfl,_,rfl,a,ns,k,rfl,hS,fun z=>?_⟩
  refine⟨_,rfl,_,rfl,_,rfl,_,rfl,_,_,rfl,rfl,⟨by decide,by decide,by decide⟩,_,_,rfl,rfl,.inr ⟨_,rfl,_,_,rfl,rfl,.inr ?_,_,rfl,_,_,rfl,rfl,(by show(0:Int)<2305843009213693951;decide),_,rfl,_,_,rfl,rfl,.inl ⟨by decide,by decide⟩,_,_,rfl,rfl,_,_,rfl,rfl,(by show 3<=sizeLine;decide),fun p hp=>?_⟩⟩
  ·exact b01 _
  ·refine q p _ hp ⟨_,_,_,upd_same,?_,by decide,by decide⟩ (Kept.new hp)
   refine Int.mul_nonneg ?_ ?_
   ·split <;> lia
   ·exact b0 _
theorem scTake:FnScope ["_law_box_here","_law_many_here","_law_found","_law_once","_law_twice"] ["_law_box_here","_law_many_here"] (defScope sTake):=⟨rfl,rfl,rfl,by decide +kernel,rfl,by decide +kernel,by decide +kernel⟩
theorem ok_take{f:Addr}{fd:FuncData}(F:Fun K "_law_take" "_law_take" sTake f fd):FnOk P w K mg base CX0 1 f fd ["_law_box_here","_law_many_here"] spTake:=by
 refine F.ok scTake (fun vs H Q E h=>?_) (fun cdv A outer s H vs Q E hr h=>?_)
 ·obtain⟨p,m,N,rfl,_⟩:=h
  rfl
 ·obtain⟨p,m,N,rfl,⟨a,b,c,hp,a0,c0,cN⟩,hN,m0,m1,q⟩:=h
  have hS:∀ {x y z:Int}{G:Hp},G p=some (.lst [.int x,.int y,.int z])->SqL K G p [.int x,.int y,.int z]:=fun e=>SqL.of e
  refine⟨_,pss_cons (ps_if (pt_cmpR op_gt (pe_ix ix_list (pv 0) pe_int (fun _ _=>rfl)) pe_int (nomark _))
    (pss_cons (ps_set (i:=2) scTake.nd rfl (Or.inl rfl) (pe_op op_mod (pe_ix ix_list (pv 0) pe_int (fun _ _=>rfl)) (pv 1)))
     (pss_cons (ps_asg (pe_op op_fdiv (pe_ix ix_list (pv 0) pe_int (fun _ _=>rfl)) (pv 1)) (pg_sub (pv 0) pe_int set_list))
     (pss_one (ps_ret (pv 2))))) pss_nil)
   (pss_cons (ps_asg (pe_op op_add (pe_ix ix_list (pv 0) pe_int (fun _ _=>rfl)) pe_int) (pg_sub (pv 0) pe_int set_list))
   (pss_cons (ps_set (i:=3) scTake.nd rfl (Or.inl rfl) (pe_op op_mod (pe_op op_mul (pe_op op_add (pe_ix ix_list (pv 0) pe_int (fun _ _=>rfl)) (pe_op op_mul pe_int (pe_ix ix_list (pv 0) pe_int (fun _ _=>rfl)))) (pe_op op_add pe_int (pe_ix ix_list (pv 0) pe_int (fun _ _=>rfl)))) pe_int))
   (pss_cons (ps_set (i:=4) scTake.nd rfl (Or.inl rfl) (pe_op op_mod (pe_op op_mul (pe_op op_add (pv 3) (pe_ix ix_list (pv 0) pe_int (fun _ _=>rfl))) (pe_op op_add (pe_op op_mod (pv 3) pe_int) pe_int)) pe_int))
   (pss_one (ps_ret (pe_op op_mod (pe_op op_fdiv (pe_op op_mod (pe_op op_add (pe_op op_mul (pv 4) pe_int) (pv 3)) pe_int) pe_int) (pv 1))))))),?_⟩
  refine⟨_,rfl,p,_,_,_,rfl,rfl,hS hp,rfl,_,_,rfl,rfl,_,rfl,?_⟩
  refine ite2 (fun hk=>?_) (fun _=>?_)
  ·have pos:0<a:=of_decide_eq_true hk
   refine⟨_,rfl,p,_,_,_,rfl,rfl,hS hp,rfl,_,rfl,_,_,rfl,rfl,m0,?_⟩
   refine⟨_,rfl,p,_,_,_,rfl,rfl,hS hp,rfl,_,rfl,_,_,rfl,rfl,⟨m0,m1⟩,_,rfl,p,_,_,_,rfl,rfl,hp,rfl,_,rfl,?_⟩
   refine q _ _ (Int.emod_nonneg _ (by lia)) (Int.emod_lt_of_pos _ m0) ⟨_,_,_,upd_same,Int.ediv_nonneg a0 (by lia),c0,by lia⟩ Kept.at
  ·refine⟨_,rfl,p,_,_,_,rfl,rfl,hS hp,rfl,_,_,rfl,rfl,_,rfl,p,_,_,_,rfl,rfl,hp,rfl,?_⟩
   have g1:(upd H p (.lst [.int a,.int b,.int (c+1)])) p=some (.lst [.int a,.int b,.int (c+1)]):=upd_same
   refine⟨_,rfl,p,_,_,_,rfl,rfl,hS g1,rfl,_,rfl,p,_,_,_,rfl,rfl,hS g1,rfl,_,_,rfl,rfl,.inl ⟨by decide,by decide⟩,_,_,rfl,rfl,_,rfl,p,_,_,_,rfl,rfl,hS g1,rfl,_,_,rfl,rfl,_,_,rfl,rfl,.inr ⟨by lia,by lia⟩,_,_,rfl,rfl,(by show(0:Int)<2147483647;decide),?_⟩
   generalize ho:(b+48271 * (c+1)) * (39373+(c+1)) % 2147483647=once
   have o0:0<=once:=by rw[<- ho];exact Int.emod_nonneg _ (by decide)
   have o1:once<2147483647:=by rw[<- ho];exact Int.emod_lt_of_pos _ (by decide)
   refine⟨_,rfl,_,rfl,p,_,_,_,rfl,rfl,hS g1,rfl,_,_,rfl,rfl,_,rfl,_,_,rfl,rfl,(by show(0:Int)<40009;decide),_,_,rfl,rfl,_,_,rfl,rfl,.inl ⟨by lia,by lia⟩,_,_,rfl,rfl,(by show(0:Int)<2147483629;decide),?_⟩
   generalize ht:(once+(c+1)) * (once % 40009+7) % 2147483629=twice
   have t0:0<=twice:=by rw[<- ht];exact Int.emod_nonneg _ (by decide)
   have t1:twice<2147483629:=by rw[<- ht];exact Int.emod_lt_of_pos _ (by decide)
   refine⟨_,rfl,_,_,rfl,rfl,.inl ⟨by omega,by omega⟩,_,rfl,_,_,rfl,rfl,_,_,rfl,rfl,(by show(0:Int)<2147483587;decide),_,_,rfl,rfl,⟨by decide,by decide⟩,_,rfl,_,_,rfl,rfl,m0,?_⟩
   exact q _ _ (Int.emod_nonneg _ (by lia)) (Int.emod_lt_of_pos _ m0) ⟨_,_,_,g1,a0,by lia,by lia⟩ Kept.at
structure TakeF(P:Program)(w:World)(K:PySem.W.Frag)(mg:Str->Option Value)(base:Heap)(g:Addr)(gd:FuncData):Prop where
 ok:FnOk P w K mg base CX0 1 g gd ["_law_box_here","_law_many_here"] spTake
 mg:mg "_law_take" = some (.ref g)
 kp:PySem.W.keepIn K (.ref g)=true
 bd:Binds K gd ["_law_box_here","_law_many_here"] []
theorem scWeight:FnScope ["_law_box_here","_law_heavy"] ["_law_box_here","_law_heavy"] (defScope sWeight):=⟨rfl,rfl,rfl,by decide +kernel,rfl,by decide +kernel,by decide +kernel⟩
theorem ok_weight{f g:Addr}{fd gd:FuncData}(F:Fun K "_law_weight" "_law_weight" sWeight f fd)(G:TakeF P w K mg base g gd):FnOk P w K mg base CX0 2 f fd ["_law_box_here","_law_heavy"] spWeight:=by
 refine F.ok scWeight (fun vs H Q E h=>?_) (fun cdv A outer s H vs Q E hr h=>?_)
 ·obtain⟨p,h,N,rfl,_⟩:=h
  rfl
 ·obtain⟨p,h,N,rfl,h4,B,hN,q⟩:=h
  refine⟨_,pss_one (ps_ret (pe_op op_add pe_int (pe_call G.ok hr rfl G.mg G.kp G.bd .nil pass0 (pa_cons (pv 0) (@pa_sub _ _ _ _ _ _ _
   (@pe_ix _ _ _ _ _ _ _ ix_list (@pe_lst _ _ _ _ (@pa_cst _ _ _ _ _ _ _ pe_int (@pa_cst _ _ _ _ _ _ _ pe_int (@pa_cst _ _ _ _ _ _ _ pe_int (@pa_sub _ _ _ _ _ _ _ (@pe_ix _ _ _ _ _ _ _ ix_list (@pe_lst _ _ _ _ (@pa_cst _ _ _ _ _ _ _ pe_int (@pa_cst _ _ _ _ _ _ _ pe_int (@pa_bin _ _ _ _ _ _ _ _ (pe_op op_pow pe_int pe_int) pa_nil)))) (pe_call G.ok hr rfl G.mg G.kp G.bd .nil pass0 (pa_cons (pv 0) (pa_cons pe_int pa_nil))) (fun _ _=>rfl)) pa_nil))))) (pv 1) (fun _ _=>rfl)) pa_nil))))),?_⟩
  refine⟨_,rfl,10,9,rfl,rfl,⟨by decide,by decide,by decide⟩,?_⟩
  refine⟨(by show 3<=sizeLine;decide),fun l hl=>?_⟩
  refine⟨_,rfl,p,_,N,rfl,B.new hl,by lia,by decide,by decide,fun z H1 z0 z1 B1 k1=>?_⟩
  have lp:l≠p:=fun e=>by
   obtain⟨a,b,c,e1,_⟩:=B
   rw[e,e1]at hl
   cases hl
  have el:=k1 l _ lp upd_same
  obtain⟨zn,rfl⟩:∃ zn:Nat,z=(zn:Int):=⟨z.toNat,by lia⟩
  have e9:((10:Int) ^ (Int.toNat 9))=1000000000:=by decide +kernel
  dsimp only at el
  rw[e9]at el
  have h3:zn<3:=by lia
  obtain⟨v,hv,v0,v1⟩:∃ v:Int,[V.int 10,V.int 100,V.int 1000000000][zn]?=some (V.int v)/\0<v/\v<1073741824:=by
   match zn,h3 with
   | 0,_=>exact⟨_,rfl,by decide,by decide⟩
   | 1,_=>exact⟨_,rfl,by decide,by decide⟩
   | 2,_=>exact⟨_,rfl,by decide,by decide⟩
  refine⟨l,_,_,_,rfl,rfl,SqL.of el,atI_nat hv,(by show 4<=sizeLine;decide),fun l2 hl2=>?_⟩
  obtain⟨v',hv',v0',v1'⟩:∃ v':Int,[V.int 1,V.int 3,V.int 9,V.int v][h]?=some (V.int v')/\0<v'/\v'<1073741824:=by
   match h,h4 with
   | 0,_=>exact⟨_,rfl,by decide,by decide⟩
   | 1,_=>exact⟨_,rfl,by decide,by decide⟩
   | 2,_=>exact⟨_,rfl,by decide,by decide⟩
   | 3,_=>exact⟨_,rfl,v0,v1⟩
  refine⟨_,rfl,l2,_,_,_,rfl,rfl,SqL.of upd_same,atI_nat hv',p,_,N+1,rfl,B1.new hl2,by lia,v0',v1',fun y H2 y0 y1 B2 k2=>⟨_,_,rfl,rfl,?_⟩⟩
  exact q _ _ (by lia) B2 ((Kept.new hl).trans (k1.trans ((Kept.new hl2).trans k2)))
end
noncomputable abbrev Tie:=Int×Int×Int
noncomputable def tieV(x:Tie):List V:=[.int x.1,.int x.2.1,.int x.2.2]
structure WebAt(H:Hp)(t:Addr)(n:Nat)(ties:List Tie):Prop where
 ex:∃ (ts:Addr) (as:List Addr),H t=some (.tup [.int n,.ref ts])/\H ts=some (.tup (as.map V.ref))/\Paired (fun a x=>H a=some (.tup (tieV x))) as ties
 len:ties.length<=120
theorem WebAt.same{H H':Hp}{t:Addr}{n:Nat}{ties:List Tie}(W:WebAt H t n ties)(s:Same H H'):WebAt H' t n ties:=by
 obtain⟨⟨ts,as,h1,h2,h3⟩,l⟩:=W
 exact⟨⟨ts,as,s _ _ h1,s _ _ h2,Paired.mapP h3 fun a x e=>s _ _ e⟩,l⟩
theorem flat_ints(ns:List Int):(ns.map V.int).all flatV=true:=by
 rw[List.all_map,List.all_eq_true]
 intro x _
 rfl
theorem inV_ints(z:Int):∀ ns:List Int,inV (V.int z) (ns.map V.int)=ns.contains z
 |[]=>rfl
 |n :: ns=>by
  have ih:=inV_ints z ns
  unfold inV at ih ⊢
  rw[List.map_cons,List.any_cons,ih,List.contains_cons]
  congr 1
  show(n == z)=(z == n)
  exact Bool.beq_comm
theorem Kept.free{p l:Addr}{H H':Hp}{M:Nat}(k:Kept p H H')(B:BoxAt H' p M)(h:H' l=none):H l=none:=by
 cases e:H l with
 |none=>rfl
 |some o =>
  by_cases lp:l=p
  ·obtain⟨a,b,c,e1,_⟩:=B
   rw[lp,e1]at h
   cases h
  ·rw[k l o lp e]at h
   cases h
theorem BoxAt.ne{H:Hp}{p l:Addr}{N:Nat}(B:BoxAt H p N)(h:H l=none):l≠p:=fun e=>by
 obtain⟨a,b,c,e1,_⟩:=B
 rw[e,e1]at h
 cases h
theorem Kept.put{p d:Addr}{H H':Hp}{o:HO}(k:Kept p H H')(h:H d=none):Kept p H (upd H' d o):=fun b u n e=>by
 rw[upd_ne (ne_of_none e h)]
 exact k b u n e
theorem BoxAt.put{H:Hp}{p d:Addr}{N:Nat}{o:HO}(B:BoxAt H p N)(h:d≠p):BoxAt (upd H d o) p N:=by
 obtain⟨a,b,c,e,r⟩:=B
 exact⟨a,b,c,by rw[upd_ne (Ne.symm h)];exact e,r⟩
theorem tTru_if{σ:L2.St}{H:Hp}{A B:Hp->Prop}(h:A H):tTru σ H (fun b H3=>if b=true then A H3 else B H3):=by
 show if true=true then A H else B H
 exact iteT h
theorem Paired.snoc{α β:Type}{F:α->β->Prop}:∀ {l₁:List α}{l₂:List β}{a:α}{b:β},Paired F l₁ l₂->F a b->Paired F (l₁++[a]) (l₂++[b]):=by
 intro l ks a b h r
 induction h with
 |nil=>exact .cons r .nil
 |cons q t ih=>exact .cons q ih
noncomputable def TieOk(n:Nat)(x:Tie):Prop:=0<=x.1/\x.1<x.2.1/\x.2.1<n/\1<=x.2.2
noncomputable def tieLt(x y:Tie):Prop:=Srt.lexlt [x.1,x.2.1] [y.1,y.2.1]=true
noncomputable def KeyOk(n:Nat)(kv:List Key×V):Prop:=∃ a b c:Int,kv=([Sum.inl a,Sum.inl b],V.int c)/\TieOk n (a,b,c)
noncomputable def DInv(n:Nat)(kvs:List (List Key×V)):Prop:=(∀ kv∈kvs,KeyOk n kv)/\(kvs.map (·.1)).Nodup
theorem DInv.put{n:Nat}{kvs:List (List Key×V)}(h:DInv n kvs){a b c:Int}(ok:TieOk n (a,b,c)):DInv n (putK kvs [Sum.inl a,Sum.inl b] (V.int c))/\(putK kvs [Sum.inl a,Sum.inl b] (V.int c)).length<=kvs.length+1:=by
 unfold putK
 by_cases ex:(kvs.any fun kv=>decide (kv.1=[Sum.inl a,Sum.inl b]))=true
 ·rw[if_pos ex]
  refine⟨⟨fun kv hk=>?_,?_⟩,by rw[List.length_map];lia⟩
  ·obtain⟨q,hq,e⟩:=List.mem_map.mp hk
   by_cases z:q.1=[Sum.inl a,Sum.inl b]
   ·rw[if_pos z,z]at e
    exact⟨a,b,c,e.symm,ok⟩
   ·rw[if_neg z]at e
    rw[<- e]
    exact h.1 q hq
  ·have e:(kvs.map fun kv=>if kv.1=[Sum.inl a,Sum.inl b]then(kv.1,V.int c)else kv).map (·.1)=kvs.map (·.1):=by
    rw[List.map_map]
    refine List.map_congr_left fun q _=>?_
    show(if q.1=[Sum.inl a,Sum.inl b]then(q.1,V.int c)else q).1=q.1
    split <;> rfl
   rw[e]
   exact h.2
 ·rw[if_neg ex]
  refine⟨⟨fun kv hk=>?_,?_⟩,by rw[List.length_append];exact Nat.le_refl _⟩
  ·rcases List.mem_append.mp hk with z | z
   ·exact h.1 kv z
   ·exact⟨a,b,c,List.mem_singleton.mp z,ok⟩
  ·rw[List.map_append,List.nodup_append]
   refine⟨h.2,by simp,fun x hx y hy=>?_⟩
   have ey:y=[Sum.inl a,Sum.inl b]:=by simpa using hy
   subst ey
   intro z
   subst z
   obtain⟨q,hq,e⟩:=List.mem_map.mp hx
   exact ex (List.any_eq_true.mpr ⟨q,hq,decide_eq_true e⟩)
noncomputable def unkey(k:List Key):List Int:=k.map fun x=>match x with
 | .inl i=>i
 | .inr _=>0
theorem keys_of{n:Nat}:∀ {kvs:List (List Key×V)},(∀ kv∈kvs,KeyOk n kv)->kvs.map (·.1)=List.map (List.map Sum.inl) (kvs.map fun kv=>unkey kv.1)
 |[],_=>rfl
 |kv :: kvs,h=>by
  obtain⟨a,b,c,e,_⟩:=h kv (List.mem_cons_self ..)
  rw[List.map_cons,List.map_cons,List.map_cons,keys_of fun q hq=>h q (List.mem_cons_of_mem _ hq),e]
  rfl
theorem DInv.keys{n:Nat}{kvs:List (List Key×V)}(h:DInv n kvs):kvs.map (·.1)=List.map (List.map Sum.inl) (kvs.map fun kv=>unkey kv.1):=keys_of h.1
theorem DInv.nodup{n:Nat}{kvs:List (List Key×V)}(h:DInv n kvs):(kvs.map fun kv=>unkey kv.1).Nodup:=by
 have:=h.2
 rw[h.keys]at this
 unfold List.Nodup at this ⊢
 rw[List.pairwise_map]at this
 exact this.imp fun {x y} z e=>z (by rw[e])
theorem valV_mem{kvs:List (List Key×V)}{k:List Key}(h:k∈kvs.map (·.1)):∃ v,valV kvs k=some v/\(k,v)∈kvs:=by
 induction kvs with
 |nil=>cases h
 |cons q r ih =>
  by_cases e:q.1=k
  ·exact⟨q.2,valV_pos e,by rw[<- e];exact List.mem_cons_self ..⟩
  ·rw[List.map_cons]at h
   rcases List.mem_cons.mp h with z | z
   ·exact absurd z.symm e
   ·obtain⟨v,h1,h2⟩:=ih z
    exact⟨v,(valV_neg e).trans h1,List.mem_cons_of_mem _ h2⟩
noncomputable def spWeb:Sp:=fun vs H Q _=>∃ (p:Addr) (n N:Nat),vs=[.ref p,.int n]/\BoxAt H p N/\N+1000<2 ^ 40/\1<=n/\n<=30 /\
 ∀ (t:Addr) (ties:List Tie) (H':Hp),H t=none->WebAt H' t n ties->(∀ x∈ties,TieOk n x)->ties.Pairwise tieLt->BoxAt H' p (N+1000)->Kept p H H'->Q (.ref t) H'
structure WeightF(P:Program)(w:World)(K:PySem.W.Frag)(mg:Str->Option Value)(base:Heap)(g:Addr)(gd:FuncData):Prop where
 ok:FnOk P w K mg base CX0 2 g gd ["_law_box_here","_law_heavy"] spWeight
 mg:mg "_law_weight" = some (.ref g)
 kp:PySem.W.keepIn K (.ref g)=true
 bd:Binds K gd ["_law_box_here","_law_heavy"] []
structure WI(H:Hp)(p d:Addr)(n M c:Nat)(kvs:List (List Key×V))(H':Hp):Prop where
 box:BoxAt H' p M
 dic:H' d=some (.dT kvs)
 inv:DInv n kvs
 len:kvs.length<=c
 kep:Kept p H H'
theorem WI.keep{H H' H'':Hp}{p d:Addr}{n M M' c:Nat}{kvs:List (List Key×V)}(W:WI H p d n M c kvs H')(dp:d≠p)(k:Kept p H' H'')(B:BoxAt H'' p M'):WI H p d n M' c kvs H'' :=
 ⟨B,k d _ dp W.dic,W.inv,W.len,W.kep.trans k⟩
theorem WI.mono{H H':Hp}{p d:Addr}{n M M' c c':Nat}{kvs:List (List Key×V)}(W:WI H p d n M c kvs H')(h:M<=M')(h2:c<=c'):WI H p d n M' c' kvs H' :=
 ⟨W.box.mono h,W.dic,W.inv,Nat.le_trans W.len h2,W.kep⟩
theorem WI.new{H H':Hp}{p d q:Addr}{n M c:Nat}{kvs:List (List Key×V)}{o:HO}(W:WI H p d n M c kvs H')(h:H' q=none):WI H p d n M c kvs (upd H' q o) :=
 ⟨W.box.new h,by rw[upd_ne (ne_of_none W.dic h)];exact W.dic,W.inv,W.len,W.kep.trans (Kept.new h)⟩
theorem WI.put{H H':Hp}{p d:Addr}{n M c:Nat}{kvs:List (List Key×V)}(W:WI H p d n M c kvs H')(dp:d≠p)(hd:H d=none){a b x:Int}(ok:TieOk n (a,b,x)):WI H p d n M (c+1) (putK kvs [Sum.inl a,Sum.inl b] (V.int x)) (upd H' d (.dT (putK kvs [Sum.inl a,Sum.inl b] (V.int x)))) :=
 ⟨W.box.put dp,upd_same,(W.inv.put ok).1,Nat.le_trans (W.inv.put ok).2 (Nat.succ_le_succ W.len),W.kep.put hd⟩
section
variable{P:Program}{w:World}{K:PySem.W.Frag}{mg:Str->Option Value}{base:Heap}
noncomputable abbrev nWeb:List Str:=["_law_box_here","_law_many_here","_law_heavy","_law_ties","_law_place","_law_turn","_law_one","_law_other"]
theorem scWeb:FnScope nWeb ["_law_box_here","_law_many_here"] (defScope sWeb):=⟨rfl,rfl,rfl,by decide +kernel,rfl,by decide +kernel,by decide +kernel⟩
theorem csWeb:CompScope ["_law_pair","_law_ties"] [none,some 3] nWeb (defScope sWeb) { kind:=.function,names:=[(".0",.local),("_law_pair",.local),("_law_ties",.free)],isGenerator:=false,isCoroutine:=false } :=
 ⟨rfl,by decide +kernel,by decide +kernel,by decide +kernel,rfl,capB_ok (by decide +kernel)⟩
theorem ndWeb:(["_law_pair","_law_ties"]:List Str).Nodup:=by decide +kernel
theorem ok_web{f g g2:Addr}{fd gd gd2:FuncData}(F:Fun K "_law_web" "_law_web" sWeb f fd)(T:Txt mg)(G:TakeF P w K mg base g gd)(G2:WeightF P w K mg base g2 gd2):FnOk P w K mg base CX0 3 f fd ["_law_box_here","_law_many_here"] spWeb:=by
 refine F.ok scWeb (fun vs H Q E h=>?_) (fun cdv A outer s H vs Q E hr h=>?_)
 ·obtain⟨p,n,N,rfl,_⟩:=h
  rfl
 ·obtain⟨p,n,N,rfl,B,hN,n1,n30,q⟩:=h
  have hu:=hu_of hr
  have hr1:Room 1 _:=hr.mono (by decide)
  refine⟨_,pss_cons (ps_set (i:=2) scWeb.nd rfl (Or.inl rfl) (pe_call G.ok hr1 rfl G.mg G.kp G.bd .nil pass0 (@pa_nam _ _ _ _ _ _ (pv 0) (@pa_cst _ _ _ _ _ _ _ pe_int pa_nil))))
   (pss_cons (ps_set (i:=3) scWeb.nd rfl (Or.inr rfl) pe_dnewT)
   (pss_cons (ps_for PassesOwn.never rfl (pi_range2 rfl T.range (@pa_cst _ _ _ _ _ _ _ pe_int (@pa_nam _ _ _ _ _ _ (pv 1) pa_nil))) (pg_name (i:=4) scWeb.nd rfl (Or.inl rfl))
    (pss_one (ps_if (pt_cmpR op_gt (pe_call G.ok hr1 rfl G.mg G.kp G.bd .nil pass0 (@pa_nam _ _ _ _ _ _ (pv 0) (@pa_cst _ _ _ _ _ _ _ pe_int pa_nil))) pe_int (nomark _))
     (pss_one (ps_dput hu (pv 3) (@pe_tup _ _ _ _ _ (@pa_call _ _ _ _ _ _ _ _ (pe_call G.ok hr1 rfl G.mg G.kp G.bd .nil pass0 (@pa_nam _ _ _ _ _ _ (pv 0) (@pa_nam _ _ _ _ _ _ (pv 4) pa_nil))) (@pa_nam _ _ _ _ _ _ (pv 4) pa_nil))) (pe_call G2.ok hr rfl G2.mg G2.kp G2.bd .nil pass0 (@pa_nam _ _ _ _ _ _ (pv 0) (@pa_nam _ _ _ _ _ _ (pv 2) pa_nil))) rfl)) pss_nil)))
   (pss_cons (ps_for PassesOwn.never rfl (pi_range1 rfl T.range (@pa_call _ _ _ _ _ _ _ _ (pe_callB (call_min2 rfl) (by rfl) T.min boot_min (@pa_call _ _ _ _ _ _ _ _ (pe_call G.ok hr1 rfl G.mg G.kp G.bd .nil pass0 (@pa_nam _ _ _ _ _ _ (pv 0) (@pa_bin _ _ _ _ _ _ _ _ (pe_op op_add (pe_op op_mul pe_int (pv 1)) pe_int) pa_nil))) (@pa_bin _ _ _ _ _ _ _ _ (pe_op op_sub pe_int (pv 1)) pa_nil))) pa_nil)) (pg_name (i:=5) scWeb.nd rfl (Or.inl rfl))
    (pss_cons (ps_par rfl scWeb.nd (i:=6) (j:=7) rfl rfl (by decide) rfl rfl (@pa_call _ _ _ _ _ _ _ _ (pe_call G.ok hr1 rfl G.mg G.kp G.bd .nil pass0 (@pa_nam _ _ _ _ _ _ (pv 0) (@pa_nam _ _ _ _ _ _ (pv 1) pa_nil))) (@pa_call _ _ _ _ _ _ _ _ (pe_call G.ok hr1 rfl G.mg G.kp G.bd .nil pass0 (@pa_nam _ _ _ _ _ _ (pv 0) (@pa_nam _ _ _ _ _ _ (pv 1) pa_nil))) pa_nil)) rfl)
    (pss_one (ps_if (pt_cmpR op_ne (pv 6) (pv 7) (nomark _)) (pss_one (ps_dput hu (pv 3) (@pe_tup _ _ _ _ _ (@pa_call _ _ _ _ _ _ _ _ (pe_callB (call_min2 rfl) (by rfl) T.min boot_min (@pa_nam _ _ _ _ _ _ (pv 6) (@pa_nam _ _ _ _ _ _ (pv 7) pa_nil))) (@pa_call _ _ _ _ _ _ _ _ (pe_callB (call_max2 rfl) (by rfl) T.max boot_max (@pa_nam _ _ _ _ _ _ (pv 6) (@pa_nam _ _ _ _ _ _ (pv 7) pa_nil))) pa_nil))) (pe_call G2.ok hr rfl G2.mg G2.kp G2.bd .nil pass0 (@pa_nam _ _ _ _ _ _ (pv 0) (@pa_nam _ _ _ _ _ _ (pv 2) pa_nil))) rfl)) pss_nil))))
   (pss_one (ps_ret (@pe_tup _ _ _ _ _ (@pa_nam _ _ _ _ _ _ (pv 1) (@pa_call _ _ _ _ _ _ _ _ (pe_callTy call_tuple_of (by rfl) T.tuple boot_tuple (@pa_comp _ _ _ _ _ _ _ _ (pe_comp rfl csWeb
    (pi_list (pe_callB (call_sortedD rfl) (by rfl) T.sorted boot_sorted (@pa_nam _ _ _ _ _ _ (pv 3) pa_nil)))
    (fun C s H fp=>pg_name (i:=0) ndWeb rfl (Or.inl rfl)) (fun C s H fp=>pf_nil)
    (fun C s H fp=>pe_op (op_catTK K rfl) (pv 0) (@pe_tup _ _ _ _ _ (@pa_sub _ _ _ _ _ _ _ (pe_dget hu (pv 1) (pv 0) (fun _ _=>rfl)) pa_nil)))) pa_nil)) pa_nil)))))))),?_⟩
  refine⟨_,rfl,p,_,N,rfl,B,by lia,by decide,by decide,fun z H1 z0 z1 B1 k1=>?_⟩
  obtain⟨hh,rfl⟩:∃ hh:Nat,z=(hh:Int):=⟨z.toNat,by lia⟩
  have h4:hh<4:=by lia
  intro d hd
  have dp:d≠p:=B1.ne hd
  have hd0:H d=none:=k1.free B1 hd
  have W0:WI H p d n (N+1) 0 [] (upd H1 d (.dT [])):=⟨B1.new hd,upd_same,⟨fun _ h=>(nomatch h),List.nodup_nil⟩,Nat.le_refl _,k1.trans (Kept.new hd)⟩
  refine⟨_,rfl,1,(n:Int),rfl,⟨by decide,by decide,by lia,by lia⟩,?_⟩
  refine for_range (lo:=1) (n:=((n:Int)-1).toNat) (fun i σ H'=>∃ kvs v,σ=[some (.ref p),some (.int n),some (.int hh),some (.ref d),v,none,none,none]/\WI H p d n (N+1+4 * i) i kvs H') ⟨[],none,rfl,W0⟩ ?_ ?_
  ·rintro i σ H' hi ⟨kvs,v,rfl,W⟩
   have len:=W.len
   refine⟨_,rfl,p,_,_,rfl,W.box,by lia,by decide,by decide,fun z H3 y0 y1 B3 k3=>⟨_,_,rfl,rfl,_,rfl,?_⟩⟩
   have W3:=W.keep dp k3 B3
   refine ite2 (fun _=>?_) (fun _=>?_)
   ·refine⟨_,rfl,_,rfl,p,hh,_,rfl,h4,B3,by lia,fun x H4 x1 B4 k4=>⟨_,rfl,_,rfl,_,rfl,p,_,_,rfl,B4,by lia,by lia,by omega,fun a H5 a0 a1 B5 k5=>⟨_,rfl,(by show 2<=sizeLine;decide),fun tp htp=>?_⟩⟩⟩
    have W5:=((W3.keep dp k4 B4).keep dp k5 B5).new (o:=.tup [.int a,.int (1+(i:Int))]) htp
    refine⟨d,_,rfl,DPut.t (k:=[Sum.inl a,Sum.inl (1+(i:Int))]) W5.dic upd_same (by rw[sizeLine_eq];lia),?_⟩
    exact⟨_,_,rfl,(W5.put dp hd0 ⟨a0,by show a<1+(i:Int);omega,by show 1+(i:Int) <(n:Int);omega,x1⟩).mono (by lia) (by lia)⟩
   ·exact⟨_,_,rfl,W3.mono (by lia) (by lia)⟩
  ·rintro σ H' ⟨kvs,v,rfl,W⟩
   have len0:=W.len
   refine⟨_,rfl,_,rfl,_,_,rfl,rfl,.inl ⟨by decide,by decide⟩,_,_,rfl,rfl,p,_,_,rfl,W.box,by lia,by lia,by lia,fun z H3 y0 y1 B3 k3=>⟨_,rfl,_,_,rfl,rfl,_,_,rfl,_,rfl,?_,?_,?_⟩⟩
   ·split <;> lia
   ·split <;> lia
   have W3:=W.keep dp k3 B3
   have cb:(if 91-(n:Int)<z then 91-(n:Int)else z).toNat<=91-n:=by split <;> lia
   generalize (if 91-(n:Int)<z then 91-(n:Int)else z).toNat=cnt at cb
   refine for_range (lo:=0) (n:=cnt) (fun i σ H'=>∃ kvs v4 v5 v6 v7,σ=[some (.ref p),some (.int n),some (.int hh),some (.ref d),v4,v5,v6,v7]/\WI H p d n (N+200+4 * i) (n-1+i) kvs H') ⟨kvs,v,none,none,none,rfl,W3.mono (by lia) (by lia)⟩ ?_ ?_
   ·clear W W3 B3 k3 len0
    rintro i σ H' hi ⟨kvs,v4,v5,v6,v7,rfl,W⟩
    have len:=W.len
    refine⟨_,rfl,_,rfl,p,_,_,rfl,W.box,by lia,by lia,by lia,fun x H4 x0 x1 B4 k4=>⟨_,rfl,_,rfl,p,_,_,rfl,B4,by lia,by lia,by lia,fun y H5 w0 w1 B5 k5=>⟨_,_,rfl,?_⟩⟩⟩
    have W5:=(W.keep dp k4 B4).keep dp k5 B5
    refine⟨_,rfl,_,rfl,rfl,_,rfl,?_⟩
    refine ite2 (fun hxy=>?_) (fun _=>?_)
    ·have xy:x≠y:=fun z=>by rw[z]at hxy;simp at hxy
     refine⟨_,rfl,_,rfl,p,hh,_,rfl,h4,B5,by lia,fun c H6 c1 B6 k6=>⟨_,rfl,_,rfl,_,rfl,_,_,rfl,_,rfl,_,rfl,_,_,rfl,(by show 2<=sizeLine;decide),fun tp htp=>?_⟩⟩
     have W6:=(W5.keep dp k6 B6).new (o:=.tup [.int (if y<x then y else x),.int (if y > x then y else x)]) htp
     refine⟨d,_,rfl,DPut.t (k:=[Sum.inl (if y<x then y else x),Sum.inl (if y > x then y else x)]) W6.dic upd_same (by rw[sizeLine_eq];lia),?_⟩
     refine⟨_,_,_,_,_,rfl,(W6.put dp hd0 ⟨?_,?_,?_,c1⟩).mono (by lia) (by lia)⟩
     ·show(0:Int)<=if y<x then y else x
      split <;> omega
     ·show(if y<x then y else x) <(if y > x then y else x)
      split <;> split <;> omega
     ·show(if y > x then y else x) <(n:Int)
      split <;> omega
    ·exact⟨_,_,_,_,_,rfl,W5.mono (by lia) (by lia)⟩
   ·clear W W3 B3 k3 len0
    rintro σ H' ⟨kvs,v4,v5,v6,v7,rfl,W⟩
    have len:=W.len
    refine⟨_,rfl,_,rfl,d,kvs,kvs.map (fun kv=>unkey kv.1),rfl,W.dic,W.inv.keys,fun k hk=>?_,by lia,fun l as ns hl perm pw pt=>⟨l,rfl,⟨_,SqL.of upd_same⟩,?_⟩⟩
    ·obtain⟨kv,hkv,rfl⟩:=List.mem_map.mp hk
     obtain⟨a,b,c,e,_⟩:=W.inv.1 kv hkv
     rw[e]
     exact fun z=>nomatch z
    have W1:=W.new (o:=.lst (as.map V.ref)) hl
    have lenA:as.length=ns.length:=pt.length
    have lenN:ns.length=kvs.length:=by rw[perm.length_eq,List.length_map]
    -- each key is there
    have keyAt:∀ i (h1:i<as.length),∃ a b c:Int,H' as[i]=some (.tup [.int a,.int b])/\valV kvs [Sum.inl a,Sum.inl b]=some (V.int c)/\TieOk n (a,b,c)/\ns[i]?=some [a,b]:=fun i h1=>by
     have h2:i<ns.length:=by lia
     have e1:=Paired.at pt i h1 h2
     have m1:ns[i]∈kvs.map (fun kv=>unkey kv.1):=perm.mem_iff.mp (List.getElem_mem h2)
     obtain⟨kv,hkv,e2⟩:=List.mem_map.mp m1
     obtain⟨a,b,c,e3,ok⟩:=W.inv.1 kv hkv
     rw[e3]at e2
     have e4:ns[i]=[a,b]:=e2.symm
     rw[e4]at e1
     have m2:[Sum.inl a,Sum.inl b]∈kvs.map (·.1):=List.mem_map.mpr ⟨kv,hkv,by rw[e3]⟩
     obtain⟨v,v1,v2⟩:=valV_mem m2
     obtain⟨a',b',c',e5,ok'⟩:=W.inv.1 _ v2
     cases e5
     exact⟨a,b,c',e1,v1,ok',by rw[List.getElem?_eq_getElem h2,e4]⟩
    refine comp_list (K:=K) (a:=l) (xs:=as.map V.ref) (fun i ys G=>Same (upd H' l (.lst (as.map V.ref))) G/\∃ (bs:List Addr) (tl:List Tie),ys=bs.map V.ref/\Paired (fun b x=>G b=some (.tup (tieV x))) bs tl/\(∀ x∈tl,TieOk n x)/\tl.map (fun x=>[x.1,x.2.1])=ns.take i) (by rw[List.length_map,sizeLine_eq];lia) ⟨Same.refl _,[],[],rfl,.nil,(fun _ h=>nomatch h),rfl⟩ (fun i ys G _ pp=>pp.1.seq (SqL.of upd_same)) ?_ ?_
    ·rintro i x ys G hi ⟨sm,bs,tl,rfl,pr,oks,eks⟩
     obtain⟨il,e⟩:=List.getElem?_eq_some_iff.mp hi
     rw[List.length_map]at il
     rw[List.getElem_map]at e
     subst e
     obtain⟨a,b,c,ha,hv,ok,nsi⟩:=keyAt i il
     have ha2:G as[i]=some (.tup [.int a,.int b]):=sm _ _ (by rw[upd_ne (ne_of_none ha hl)];exact ha)
     have hd2:G d=some (.dT kvs):=sm _ _ W1.dic
     have g0:DGet G d (V.ref as[i]) (valV kvs [Sum.inl a,Sum.inl b]):=DGet.t hd2 ha2
     rw[hv]at g0
     refine⟨⟨rfl,trivial⟩,tTru_if ?_⟩
     refine⟨_,rfl,_,rfl,_,rfl,d,_,rfl,g0,(by show 1<=sizeLine;decide),fun t1 ht1=>⟨as[i],t1,[.int a,.int b],[.int c],rfl,rfl,SqT.of (by rw[upd_ne (ne_of_none ha2 ht1)];exact ha2),SqT.of upd_same,(fun z=>nomatch z),(by show 3<=sizeLine;decide),(fun z=>nomatch z),fun _ t2 ht2=>?_⟩⟩
     have sm2:Same G (upd (upd G t1 (.tup [.int c])) t2 (.tup ([.int a,.int b]++[.int c]))):=(Same.new ht1).trans (Same.new ht2)
     refine⟨sm.trans sm2,bs++[t2],tl++[(a,b,c)],by rw[List.map_append];rfl,?_,fun x hx=>?_,?_⟩
     ·refine Paired.snoc (Paired.mapP pr fun b x e=>sm2 _ _ e) upd_same
     ·rcases List.mem_append.mp hx with z | z
      ·exact oks x z
      ·rw[List.mem_singleton.mp z];exact ok
     ·obtain⟨ni,ne⟩:=List.getElem?_eq_some_iff.mp nsi
      rw[List.map_append,eks,List.take_succ_eq_append_getElem ni,ne]
      rfl
    ·rintro ys G yl ⟨sm,bs,tl,rfl,pr,oks,eks⟩ D hD
     rw[List.length_map]at yl
     refine⟨D,_,rfl,.inl ⟨SqL.of upd_same,fun ts hts=>⟨(by show 2<=sizeLine;decide),fun t ht=>?_⟩⟩⟩
     have s1:Same G (upd G D (.lst (bs.map V.ref))):=Same.new hD
     have s2:Same (upd G D (.lst (bs.map V.ref))) (upd (upd G D (.lst (bs.map V.ref))) ts (.tup (bs.map V.ref))):=Same.new hts
     have s3:=Same.new (o:=.tup [.int n,.ref ts]) ht
     have sA:=sm.trans (s1.trans (s2.trans s3))
     have kA:Kept p H (upd (upd (upd G D (.lst (bs.map V.ref))) ts (.tup (bs.map V.ref))) t (.tup [.int n,.ref ts])):=W1.kep.trans fun b o _ e=>sA b o e
     have bA:BoxAt (upd (upd (upd G D (.lst (bs.map V.ref))) ts (.tup (bs.map V.ref))) t (.tup [.int n,.ref ts])) p (N+1000):=by
      obtain⟨a,b,c,e,r1,r2,r3⟩:=W1.box
      exact⟨a,b,c,sA _ _ e,r1,r2,by lia⟩
     refine q t tl _ ?_ ⟨⟨ts,bs,upd_same,s3 _ _ upd_same,Paired.mapP pr fun b x e=>s3 _ _ (s2 _ _ (s1 _ _ e))⟩,?_⟩ oks ?_ bA kA
     ·have f1:H' t=none:=(Same.new hl).free (sm.free (s1.free (s2.free ht)))
      exact W.kep.free W.box f1
     ·have:=pr.length
      rw[List.length_map]at yl
      lia
     ·rw[List.take_of_length_le (by rw[List.length_map];lia)]at eks
      have nd:ns.Nodup:=perm.nodup_iff.mpr W.inv.nodup
      have st:ns.Pairwise (fun x y=>Srt.lexlt x y=true):=(pw.and nd).imp fun {x y} z=>by
       cases e:Srt.lexlt x y with
       |true=>rfl
       |false=>exact absurd (Srt.lexlt_total x y e z.1) z.2
      rw[<- eks,List.pairwise_map]at st
      exact st
end
end K23
namespace L2
open PySem PyProof.Rows
section
variable{K:PySem.W.Frag}{a D:Addr}{xs:List V}{b:Bool}{g:TG}{tc:TT}{tk tv:TE}{cap:List (Option Nat)}{σ:St}{H1:Hp}{Q:VK}
theorem dcomp_tup(P:Nat->Hp->Prop)(p0:P 0 H1)(hl:∀ i H,i<=xs.length->P i H->SqT K H a xs)
  (hs:∀ i x H,xs[i]?=some x->P i H->g x (capt cap σ) H fun σ2 H2=>Kp (capt cap σ) σ2/\tc σ2 H2 fun b H3=>if b=true then tk σ2 H3 fun k H4=>tv σ2 H4 fun y H5=>∃ H6,DPut H5 D k y H6/\P (i+1) H6 else P (i+1) H3)
  (hd:∀ H,P xs.length H->Q (.ref D) H):dcompTurns (Itt K a) cap σ H1 D Q g tc tk tv:=by
 refine⟨xs.length,P,p0,fun i H il p=>?_⟩
 have q:=hl i H il p
 by_cases hlt:i<xs.length
 ·refine .inr ⟨hlt,⟨xs,xs[i],q,by simp[hlt]⟩,fun x H' y=>?_⟩
  obtain⟨e,y⟩:=y
  subst e
  exact hs i x _ (y xs q) p
 ·have e:i=xs.length:=by lia
  subst e
  exact .inl ⟨⟨xs,q,Nat.le_refl _⟩,hd H p⟩
theorem dcomp_list(P:Nat->Hp->Prop)(p0:P 0 H1)(hl:∀ i H,i<=xs.length->P i H->SqL K H a xs)
  (hs:∀ i x H,xs[i]?=some x->P i H->g x (capt cap σ) H fun σ2 H2=>Kp (capt cap σ) σ2/\tc σ2 H2 fun b H3=>if b=true then tk σ2 H3 fun k H4=>tv σ2 H4 fun y H5=>∃ H6,DPut H5 D k y H6/\P (i+1) H6 else P (i+1) H3)
  (hd:∀ H,P xs.length H->Q (.ref D) H):dcompTurns (Itl K a) cap σ H1 D Q g tc tk tv:=by
 refine⟨xs.length,P,p0,fun i H il p=>?_⟩
 have q:=hl i H il p
 by_cases hlt:i<xs.length
 ·refine .inr ⟨hlt,⟨xs,xs[i],q,by simp[hlt]⟩,fun x H' y=>?_⟩
  obtain⟨e,y⟩:=y
  subst e
  exact hs i x _ (y xs q) p
 ·have e:i=xs.length:=by lia
  subst e
  exact .inl ⟨⟨xs,q,Nat.le_refl _⟩,hd H p⟩
noncomputable def ItB(b:Bool)(K:PySem.W.Frag)(a:Addr):It:=match b with
 |true=>Itt K a
 |false=>Itl K a
noncomputable def iSeq(b:Bool)(K:PySem.W.Frag)(tl:TE):TI:=fun σ H R=>tl σ H fun x H1=>∃ a,x = .ref a/\(∃ xs,SqB b K H1 a xs)/\R (ItB b K a) H1
theorem pi_seq{X:Cx}{tg l:Expr}{tl:TE}(b:Bool)(hl:PE X l tl):PI X tg l (iSeq b X.K tl):=by
 cases b
 ·exact pi_list hl
 ·exact pi_tup hl
theorem comp_seq{te:TE}{a:Addr}{xs:List V}(P:Nat->List V->Hp->Prop)(hz:xs.length<=sizeLine)(p0:P 0 [] H1)(hl:∀ i ys H,i<=xs.length->P i ys H->SqB b K H a xs)
  (hs:∀ i x ys H,xs[i]?=some x->P i ys H->g x (capt cap σ) H fun σ2 H2=>Kp (capt cap σ) σ2/\tc σ2 H2 fun b H3=>if b=true then te σ2 H3 fun y H4=>P (i+1) (ys++[y]) H4 else P (i+1) ys H3)
  (hd:∀ ys H,ys.length<=xs.length->P xs.length ys H->∀ D,H D=none->Q (.ref D) (upd H D (.lst ys))):compTurns (ItB b K a) cap σ H1 Q g tc te:=by
 cases b
 ·exact comp_list P hz p0 hl hs hd
 ·exact comp_tup P hz p0 hl hs hd
theorem dcomp_seq(P:Nat->Hp->Prop)(p0:P 0 H1)(hl:∀ i H,i<=xs.length->P i H->SqB b K H a xs)
  (hs:∀ i x H,xs[i]?=some x->P i H->g x (capt cap σ) H fun σ2 H2=>Kp (capt cap σ) σ2/\tc σ2 H2 fun b H3=>if b=true then tk σ2 H3 fun k H4=>tv σ2 H4 fun y H5=>∃ H6,DPut H5 D k y H6/\P (i+1) H6 else P (i+1) H3)
  (hd:∀ H,P xs.length H->Q (.ref D) H):dcompTurns (ItB b K a) cap σ H1 D Q g tc tk tv:=by
 cases b
 ·exact dcomp_list P p0 hl hs hd
 ·exact dcomp_tup P p0 hl hs hd
theorem valV_no{κ:Type}[DecidableEq κ]{kvs:List (κ×V)}{k:κ}(h:k∉kvs.map (·.1)):valV kvs k=none:=by
 induction kvs with
 |nil=>rfl
 |cons q r ih =>
  rw[List.map_cons,List.mem_cons,not_or]at h
  exact(valV_neg fun e=>h.1 e.symm).trans (ih h.2)
end
open PySem PySem.W PyProof.Rows Srt
open PySem PySem.Spec PySem.W PyProof.Rows
section
variable{X:Cx}{pins:List (Addr×Obj)}{σ:St}{H:Hp}{s:Shared}{a:Addr}{kvs:List (Key×V)}{k:Key}{u:Value}{A:Around}{E:Value->Shared->Prop}
theorem d_setd{z:V}{r:Value}{Q:Value->Shared->Prop}(I:Inv X pins σ H s)(e:H a=some (.dK kvs))(ry:RelV (kV k) u)(rz:RelV z r)(hl:kvs.length<sizeLine)
  (h1:∀ v w' s',valV kvs k=some v->Inv X pins σ H s'->RelV v w'->Q w' s') (h2:∀ s',valV kvs k=none->Inv X pins σ (upd H a (.dK (putK kvs k z))) s'->Q r s') :
  wpAny (model X.prog X.w) A (call (.builtin "dict.setdefault") [.ref a,u,r]) Q E s:=by
 obtain⟨zl,hd,vs,rel,dd⟩:=dk_of I.hok e
 have hz:vs.length<=sizeLine:=by rw[<- rel.length];exact zl
 have hlp:(putK kvs k z).length<=sizeLine:=by have:=length_putK kvs k z;lia
 refine call_meetsIn PySem.F.slot_dict_setdefault dd.typeIs PySem.F.entry_dict_setdefault (PySem.F.args_dict_setdefault_3 _ _ _) (kt_meets_setdefault (mixKind X.prog X.w) a (kV_is ry) hd r)
  ⟨vs,dd,hz,fun w' hw=>?_,fun hn h' dd' hs=>?_⟩
 ·cases l:valV kvs k with
  |some v =>
   obtain⟨w2,hw2,rw'⟩:=RelO.some_of (v:=v) (o:=valueAt vs k) (by rw[<- l];exact rel.val k)
   rw[hw]at hw2
   cases hw2
   exact h1 v w' _ l (I.tok _) rw'
  |none =>
   have hn:valueAt vs k=none:=RelO.none_of (by rw[<- l];exact rel.val k)
   rw[hw]at hn
   cases hn
 ·cases l:valV kvs k with
  |some v =>
   obtain⟨w2,hw2,rw'⟩:=RelO.some_of (v:=v) (o:=valueAt vs k) (by rw[<- l];exact rel.val k)
   rw[hn]at hw2
   cases hw2
  |none =>
   refine h2 _ l ?_
   have he:∃ q,h'.get? a=some q:=let ⟨q,_,_,hq,_⟩:=dd';⟨q,hq⟩
   exact d_write I (by rw[e];exact True.intro) hs he (dk_new hlp hd (rel.put k rz) dd')
end
noncomputable def tDSetD(td ty tx:TE):TE:=fun σ H Q=>td σ H fun x H1=>∃ a,x = .ref a/\IsD H1 a/\ty σ H1 fun y H2=>tx σ H2 fun z H3=>∃ kvs k,H3 a=some (.dK kvs)/\y=kV k/\kvs.length<sizeLine /\
 (∀ v,valV kvs k=some v->Q v H3)/\(valV kvs k=none->Q z (upd H3 a (.dK (putK kvs k z))))
section
variable{X:Cx}{o e f:Expr}{apos cpos:Pos}{td ty tx:TE}
theorem pe_dsetd(ho:PE X o td)(he:PE X e ty)(hf:PE X f tx)(m:M2 X o "setdefault" apos e f cpos):PE X (.Call (.Attribute o "setdefault" apos) [e,f] [] cpos) (tDSetD td ty tx):=by
 intro pins s σ H Q I h
 refine wpAny_Call_method m.base m.few m.line PySem.F.plainAttrs_dict PySem.F.slot_dict_setdefault PySem.F.type_dict_setdefault (thn (ho pins s σ H _ I h) fun u s1 ⟨x,H1,I1,rx,a,ex,d,q1⟩=>?_)
 subst ex
 obtain rfl:u=Value.ref a:=rx
 obtain⟨t1,t2,_⟩:=isD_at I1 d
 refine⟨t1,t2,?_⟩
 rw[m.trees]
 refine Calls.callWith_builtin rfl (Calls.evalArgs_plain (Calls.spliced_cons (thn (he pins s1 σ H1 _ I1 q1) fun iv s2 ⟨y,H2,I2,ry,q2⟩ =>
  Calls.spliced_cons (thn (hf pins s2 σ H2 _ I2 q2) fun fv s3 ⟨z,H3,I3,rz,kvs,k,ea,ey,hl,q3,q4⟩=>Calls.spliced_nil ?_))))
 subst ey
 exact d_setd I3 ea ry rz hl (fun v w' s4 l I4 rw'=>⟨v,_,I4,rw',q3 v l⟩) fun s4 l I4=>⟨z,_,I4,rz,q4 l⟩
end
theorem keys_list:typeLookup (.type "list") "keys" = pure none:=by rw[typeLookup_type,builtinLookup_eq_fast];kernel_rfl
theorem attrq_keys_list{prog:Program}{w:World}{A:Around}{E:Value->Shared->Prop}{s:Shared}{a:Addr}{o:Obj}{xs:Array Value}{k:Nat}{Q:Option Value->Shared->Prop}
  (hx:s.heap.get? a=some o) (hc:o.cls = .type "list") (hdat:o.data = .seq xs k) (hd:o.dict=none) (hA:A.handled=none)
  (h:∀ h' tk,(∀ b ob,s.heap.get? b=some ob->h'.get? b=some ob)->Q none { s with heap:=h',toks:=tk }):wpAny (model prog w) A (getAttr? (.ref a) "keys") Q E s:=by
 obtain⟨cc,dct,dat,sl⟩:=o
 simp only at hc hdat hd
 subst hc hdat hd
 obtain⟨hp,gg,dr,tc,oo⟩:=s
 have ty:∀ tn,(⟨hp,gg,dr,tn,oo⟩:Shared).TypeIs (.ref a) "list":=fun _=>⟨_,hx,rfl⟩
 have q1:=sub_AttributeError;have q2:=F.slot_list_getattribute.lookup;have q3:=F.slot_list_getattribute.bind (.ref a);have q4:=am_list_getattr_none
 unfold getAttr?;unfold getAttrBy?;unfold getAttrBy
 repeat (any_goals (first | assumption | exact ty _ |((with_reducible show wpAny _ _ (call (Value.builtin "list.__getattribute__") _ _) _ _ _);refine call_meets F.slot_list_getattribute (ty _) am_entry_list_getattribute (F.args_list_getattribute_2 _ _) (meets_getattribute_miss_list a xs k sl "keys" _ keys_list (by decide)) ⟨hx,hA,fun h2 tk2 e miss=>?_⟩) | wp_step))
 obtain⟨t1,u1,at1⟩:=miss.there
 show wpAny _ _ (getattributeRaised _ _ _ _ _ _ _) _ _ _;unfold getattributeRaised
 (repeat (any_goals (first | assumption | wp_step)));exact h _ _ miss.of.keeps
open PySem PySem.Spec PySem.W PyProof.Rows
open PySem PySem.Spec PySem.W PyProof.Rows
open PySem PySem.Spec PySem.W PyProof.Rows
section
variable{X:Cx}{kx vx tg iter:Expr}{ifs:List Expr}{scope:Scope}{pos:Pos}{N':List Str}{cap:List (Option Nat)}{wi:TI}{g:TG}{tc:TT}{tk tv:TE}
theorem ps_dcomp{i:Nat}{x:Str}{pos' spos:Pos}(hN:X.N.Nodup)(hx:X.N[i]?=some x)(hl:Loc X.env.scope x)(t:Bool)(hu:X.A.units<cLine)(hc:X.calm=true)(S:CompScope N' cap X.N X.env.scope scope)(hi:PI X tg iter wi)(hg:∀ C s H fp,PG (cxIn X N' scope C s H fp) tg g)
  (ht:∀ C s H fp,PF (cxIn X N' scope C s H fp) ifs tc) (hk:∀ C s H fp,PE (cxIn X N' scope C s H fp) kx tk) (he:∀ C s H fp,PE (cxIn X N' scope C s H fp) vx tv)
  (hs:∀ x,foldedSetIterable iter X.env x=pure x:=by intro _;rfl) (hsw:swapsWith (.DictComp kx vx [⟨tg,iter,ifs,0⟩] scope pos) (some (.Name x pos')) spos.line X.env=pure true:=by rfl)
  (hf:X.fn x=true\/X.env.scope.names.lookup x=some .local:=by first | exact .inl rfl | exact .inr rfl | assumption) :
  PS X (.Assign [.Name x pos'] (.DictComp kx vx [⟨tg,iter,ifs,0⟩] scope pos) spos) (tAsg (tDComp t cap wi g tc tk tv) (gName i)):=by
 intro pins s σ H D I h
 rw[exec_Assign_Name_used _ _ _ _ hsw]
 refine wpAny_bind (wpAny_standAt (wpAny_bind ?_))
 show wpAny _ _ (do let _ <- comprehension (.DictComp kx vx [⟨tg,iter,ifs,0⟩] scope pos) scope X.env _ newDict false (eval iter X.env) (some (assign (.Name x pos') X.env))) _ _ s
 refine wpAny_bind (wpAny_mono (wpAny_comprehension_free (use:=some (assign (.Name x pos') X.env)) (Q:=fun _ s'=>SP X pins D .next s') rfl hs (closureFor_cells (S.clos I)) S.kind S.loc
  (thn (dcomp_run (pos:=pos) t hu hc S hi hg ht hk he I h) fun x s1 h1=>thn h1 fun it s2 h2=>thn h2 fun acc s3 h3=>thn h3 fun cenv s4 h4=>?_)) (fun _ s' hq=>wpAny_pure (wpAny_pure hq)) fun _ _ e=>e)
 refine codeAny_mono h4 fun r s' hr=>?_
 cases r with
 |error x=>exact hr.elim
 |ok f =>
  obtain⟨v,H',I',rv,q,⟨m,hn⟩,f0,f1,f2,f3,f4,f5⟩:=hr
  show wpAny _ _ (assign (.Name _ pos') X.env acc) _ _ _
  refine wpAny_assign_Name (store_ok2 I' hN hx hl rv (fun s'' I'' ⟨a,sb,ha⟩=>?_) hf)
  have hac:cenv.locals≠a:=by
   rcases ha with ha | ha
   ·rw[ha];exact f1
   ·exact Ne.symm (f4 _ a ha)
  refine⟨m,hn.sameBut sb hac,fun h' sb'=>⟨_,H',I''.turned (it:=cenv.locals) (t':=s''.toks) (fun b o hb e=>(sb'.2 b hb).trans e) f0 f1 f3 f4 f5,q⟩⟩
end
open PySem PySem.W PyProof.Rows Srt
theorem drawsK{prog:Program}{w:World}{A:Around}(hh:A.handled=none)(b:Bool)(it l:Addr)(hne:l≠it)(items:Array Value):Draws prog w A it [it,l] items.size (fun i v=>items[i]?=some v) (fun i h=>ItK b h it l i/\SeqK b h l items)where
 live:=fun _ _ st=>let ⟨o,ho,_⟩:=st.1.lt;⟨o,ho⟩
 frame:=fun _ _ _ st hk=>⟨st.1.to fun o e=>hk it (by simp) o e,st.2.to fun o e=>hk l (by simp) o e⟩
 item:=fun i s Q E hi st hQ=>nextK_item st.1 st.2 (x:=items[i]) (by simp[hi]) fun h' hit' hs'=>hQ _ h' s.toks (by simp[hi]) ⟨hit',st.2.to fun o e=>hs'.extBut _ _ hne e⟩ hs'
 done:=fun s Q E st hE=>nextK_end hh st.1 st.2 (by simp) hE
noncomputable abbrev enO(it:Addr):Obj:={ cls:=.type "enumerate",data:=.fields #[.none,.bool false,.ref it,rawInt 0,.none,.none] }
theorem enumK_new(b:Bool)(l:Addr)(xs:Array Value):Meets (Builtin.«enumerate.__new__» ⟨[.type "enumerate",.ref l],[]⟩) (fun _ R s=>SeqK b s.heap l xs/\R (.ok (.ret (.ref (s.heap.push (itO b l)).objs.size))) { s with heap:=(s.heap.push (itO b l)).push (enO s.heap.objs.size) }) :=
 .of_wp fun prog w A R s h=>by
  obtain⟨hp,g,d,tk,os⟩:=s
  obtain⟨hl,h⟩:=h
  have hsub:=sub_enumerate
  have hL:SeqK b (Shared.heap ⟨hp,g,d,tk,os⟩) l xs:=hl
  wp_walk using pyIterK hL
  refine wpAny_stack_any fun st=>wpAny_pure ?_
  split
  ·rename_i c _ _ _ _ _
   cases(c == Value.type "enumerate") <;> (wp_walk using pyIterK hL;exact⟨_,rfl,h⟩)
  ·wp_walk using pyIterK hL
   exact⟨_,rfl,h⟩
theorem call_enumK{prog:Program}{w:World}{A:Around}{E:Value->Shared->Prop}{s:Shared}{b:Bool}{l:Addr}{items:Array Value}{Q:Value->Shared->Prop}(hL:SeqK b s.heap l items)
  (h:∀ h',IsEnum h' (s.heap.objs.size+1) s.heap.objs.size 0 .none->ItK b h' s.heap.objs.size l 0->(∀ b o,s.heap.get? b=some o->h'.get? b=some o)->Q (.ref (s.heap.objs.size+1)) { s with heap:=h' }):wpAny (model prog w) A (call (.type "enumerate") [.ref l]) Q E s:=by
 refine callType_new F.called_enumerate (by decide) (F.typeCall_enumerate_1 _) (F.newCall_enumerate_1 _) (fun obj=>F.args_object_init_2 obj _) F.entry_enumerate_new (enumK_new b l items) ⟨hL,?_⟩
 have hz:(s.heap.push (itO b l)).objs.size=s.heap.objs.size+1:=Heap.size_push ..
 show _/\_
 rw[hz]
 have he:IsEnum ((s.heap.push (itO b l)).push (enO s.heap.objs.size)) (s.heap.objs.size+1) s.heap.objs.size 0 .none:=by
  have:=Heap.get?_push_size (s.heap.push (itO b l)) (o:=enO s.heap.objs.size) rfl
  rw[hz]at this
  exact this
 exact⟨⟨_,he,rfl⟩,h _ he ((ItK.new s.heap).to fun o e=>Heap.get?_push_of_some _ e) fun b o x=>Heap.get?_push_of_some _ (Heap.get?_push_of_some _ x)⟩
theorem enumK_end{prog:Program}{w:World}{A:Around}{E:Value->Shared->Prop}{s:Shared}{b:Bool}{e it l:Addr}{i:Nat}{items:Array Value}{old:Value}{Q:Option Value->Shared->Prop}(hh:A.handled=none)(he:IsEnum s.heap e it i old)(hit:ItK b s.heap it l i)(hl:SeqK b s.heap l items)(hx:items[i]?=none)
  (q:∀ g,Heap.ExtBut it s.heap g->Q none { s with heap:=g }):wpAny (model prog w) A (pyNext (.ref e)) Q E s:=by
 have ty:s.TypeIs (.ref e) "enumerate":=⟨_,he,rfl⟩
 unfold pyNext;refine wpAny_bind (wpAny_attempt (wpAny_callSpecial?_slot (name:=Str.ofString "__next__") ty F.slot_enumerate_next (wpAny_call_entry F.slot_enumerate_next ty F.entry_enumerate_next ?_ (F.args_enumerate_next_1 _))))
 show wpAny _ _ (field (.ref e) 2 >>= _) _ _ _;refine wpAny_bind (wpAny_field he rfl (x:=.ref it) rfl (wpAny_bind (nextK_end hh hit hl hx fun g y hg hy=>?_)))
 obtain⟨o,ho,hc⟩:=hy
 refine wpAny_bind (wpAny_isInstance (T:="StopIteration") (b:=true) ⟨o,ho,hc⟩ isSubtype_stop (wpAny_pure (q _ hg)))
noncomputable def IteB(b:Bool)(K:PySem.W.Frag)(l:Addr):It :=
  ⟨fun i H=>∃ xs x,SqB b K H l xs/\xs[i]?=some x,
   fun i H v H'=>∃ T x,v = .ref T/\H T=none/\H'=upd H T (.tup [.int i,x])/\∀ xs,SqB b K H l xs->xs[i]?=some x,
   fun i H=>∃ xs,SqB b K H l xs/\xs.length<=i⟩
theorem turn_enumB(b:Bool){P:Program}{w:World}{K:PySem.W.Frag}{es:List Expr}{kk:Nat}{pos:Pos}(e it l:Addr)(ne:e≠it):Turn P w K (.Tuple es kk pos) (IteB b K l) [e,it] e
  (fun i h=>(∃ old,IsEnum h e it i old)/\ItK b h it l i)where
 mem:=by simp
 obj:=fun i h st b hb=>by
  obtain⟨⟨old,he⟩,h1⟩:=st
  simp only[List.mem_cons,or_false,List.not_mem_nil]at hb
  rcases hb with z | z
  ·rw[z];exact⟨_,he,fun v z=>by cases z⟩
  ·rw[z]
   exact h1.lt
 keep:=fun i h h' st k=>by
  obtain⟨⟨old,he⟩,h1⟩:=st
  exact⟨⟨old,k e (by simp) _ he⟩,h1.to fun o e=>k it (by simp) o e⟩
 item:=by
  intro X hP hw hK hc i pins s σ H E I hf st hg
  subst hP hw hK
  obtain⟨⟨old,he⟩,h1⟩:=st
  obtain⟨xs,x,q1,hx⟩:=hg
  obtain⟨us,r1,p1,_⟩:=I.seqB q1
  obtain⟨u,hu,ru⟩:=r1.get hx
  have hn:H s.heap.objs.size=none:=I.hok.fresh (Nat.le_refl _)
  have lit:l≠it:=I.offB q1 (hf it (by simp))
  have lee:l≠e:=I.offB q1 (hf e (by simp))
  have hlt:i<us.toArray.size:=by rw[List.size_toArray];exact(List.getElem?_eq_some_iff.mp hu).1
  refine wpAny_pyNext_enum_itemD (drawsK (A:=X.A.in1) (I.ok.hd hc) b it l lit us.toArray) he ⟨h1,p1⟩ hlt ne (by simp[ne,Ne.symm lee]) fun u' g tk hP e1 st1 t1 sz kp=>⟨_,rfl,?_⟩
  have eu:u'=u:=by
   have hP:us.toArray[i]?=some u':=hP
   rw[List.getElem?_toArray,hu]at hP
   exact(Option.some.inj hP).symm
  subst eu
  have n1:=st1.1
  refine wpAny_letOwnedTupleGo_enum e1 fun g' e2 sb=>?_
  have zlt:e≠s.heap.objs.size:=Nat.ne_of_lt (Heap.lt_size he)
  have kp2:∀ b o,b∉[e,it]->s.heap.get? b=some o->g'.get? b=some o:=fun b o nb z=>by
   simp only[List.mem_cons,List.not_mem_nil,or_false,not_or]at nb
   exact sb.extBut _ _ nb.1 (kp b o nb.1 nb.2 z)
  have I2:Inv X pins σ (upd H s.heap.objs.size (.tup [.int i,x])) { s with heap:=g',toks:=tk+1 }:=I.turnedN (t':=tk+1) (ch:=[e,it]) (a:=s.heap.objs.size) (ob:=.tup [.int i,x]) hf kp2 (Nat.le_refl _) (show ObjOk X.prog X.w _ g' _ (.tup [.int i,x])from⟨by show 2<=sizeLine;decide,[.int i tk,u'],.cons ⟨_,rfl⟩ (.cons ru .nil),⟨_,sb.extBut _ _ (Ne.symm zlt) t1,rfl,0,rfl⟩⟩)
  refine⟨.ref s.heap.objs.size,_,I2,rfl,⟨_,x,rfl,hn,rfl,fun xs' h=>by rw[I.seqB_inj h q1];exact hx⟩,⟨⟨_,by have e3:=e2;exact_mod_cast e3⟩,n1.to fun o z=>sb.extBut _ _ (Ne.symm ne) z⟩,fun b hb=>?_⟩
  have bo:∃ o,s.heap.get? b=some o:=by
   simp only[List.mem_cons,or_false,List.not_mem_nil]at hb
   rcases hb with z | z
   ·rw[z];exact⟨_,he⟩
   ·rw[z];obtain⟨o,e,_⟩:=h1.lt;exact⟨o,e⟩
  obtain⟨o,z⟩:=bo
  rw[upd_ne (Nat.ne_of_lt (Heap.lt_size z))]
  exact(hf b hb).1
 done:=by
  intro X hP hw hK hc i pins s σ H E I hf st hg
  subst hP hw hK
  obtain⟨⟨old,he⟩,h1⟩:=st
  obtain⟨xs,q1,le⟩:=hg
  obtain⟨us,r1,p1,_⟩:=I.seqB q1
  have e1:=r1.length
  refine enumK_end (I.ok.hd hc) he h1 p1 (by simp;lia) fun g kp=>⟨rfl,?_⟩
  refine I.turnedL (t':=s.toks) (ch:=[e,it]) hf fun b o nb z=>?_
  simp only[List.mem_cons,List.not_mem_nil,or_false,not_or]at nb
  exact kp b o nb.2 z
 self:=fun _ _ _ _ _ st h=>by
  obtain⟨⟨old,he⟩,h1⟩:=st
  exact wpAny_pyIter_enum he h
noncomputable def iEnumB(b:Bool)(K:PySem.W.Frag)(ta:TA):TI:=fun σ H R=>ta σ H fun vs H1=>∃ l,vs=[.ref l]/\(∃ xs,SqB b K H1 l xs)/\R (IteB b K l) H1
theorem pi_enumB(b:Bool){X:Cx}{es:List Expr}{kk:Nat}{tpos:Pos}{a:Expr}{ta:TA}{p pos:Pos}(hg:Gl X "enumerate")(hm:X.mg "enumerate" = none)(ha:PA X [a] ta)(hs:starEach [a] X.env=[(false,eval a X.env)]:=by rfl) :
  PI X (.Tuple es kk tpos) (.Call (.Name "enumerate" p) [a] [] pos) (iEnumB b X.K ta):=by
 intro pins s σ H R I h
 refine Call_ (ld_blt I hg hm boot_enumerate (PyProof.Rows.callWith_type1 (thn (ha pos pins s σ H _ I h) fun us s1 ⟨vs,H1,I1,r1,q1⟩=>?_) (by rw[hs];rfl) (by rfl)))
 obtain⟨l,e,⟨xs,q1⟩,q⟩:=q1
 subst e
 obtain⟨u,rfl,rx⟩:=Vals.one r1
 cases rx
 obtain⟨us,_,p1,_⟩:=I1.seqB q1
 refine call_enumK p1 fun g' e1 h1 kp=>?_
 refine wpAny_pyIter_enum e1 ⟨s1.heap.objs.size+1,_,_,_,H1,rfl,I1.kept (t':=s1.toks) kp,turn_enumB b _ s1.heap.objs.size l (Nat.ne_of_gt (Nat.lt_succ_self _)),⟨⟨_,e1⟩,h1⟩,fun b hb=>?_,q⟩
 have le:s1.heap.objs.size<=b:=by
  simp only[List.mem_cons,or_false,List.not_mem_nil]at hb
  rcases hb with e | e
  ·rw[e];exact Nat.le_add_right _ 1
  ·rw[e];exact Nat.le_refl _
 exact I1.fpOk le (I1.hok.fresh le)
end L2
namespace Srt
open PySem PySem.W PyProof.Rows
@[reducible] noncomputable def κI:KeyKind where
 α:=Int
 blt a b:=decide (a<b)
 irrefl a:=by simp
 trans a b c h k:=by simp at h k ⊢;lia
 negTrans a b c h:=by simp at h ⊢;lia
 total a b h k:=by simp at h k;lia
 keyOf v:=match v with
  | .int i _=>some i
  | _=>none
 dflt:=(0:Int)
theorem κI_of{v:Value}{i:Int}(h:κI.keyOf v=some i):∃ t,v = .int i t:=by
 cases v with
 |int j t =>
  have e:j=i:=Option.some.inj h
  subst e
  exact⟨t,rfl⟩
 | _=>cases h
theorem ltI_ok{prog:Program}{w:World}{A:Around}{s:Shared}:LtOk κI oneType' prog w A s:=by
 intro E x y a b Q st hk ha hb q
 obtain⟨t,e1⟩:=κI_of ha
 obtain⟨u,e2⟩:=κI_of hb
 rw[lt'_eq]
 refine wpS_bind (wpS_get ?_)
 rw[hk,keyLt'_oneType,e1,e2]
 refine wpS_bind (wpS_lift (wpAny_attempt (oneLt_int ⟨rfl,?_⟩)))
 exact wpS_pure q
end Srt
namespace L2
open PySem PySem.W PyProof.Rows Srt
section
variable{X:Cx}{pins:List (Addr×Obj)}{σ:St}{H:Hp}{s:Shared}
theorem collect_kept{g:Heap}{vs:List Value}:∀ b u,g.get? b=some u->((g.push (seqObj "list" #[] 0)).update g.objs.size (Obj.mapSeq (·++vs.toArray))).get? b=some u:=fun b u e=>by
 rw[Heap.get?_update_ne _ _ _ _ (Nat.ne_of_lt (Heap.lt_size e))]
 exact Heap.get?_push_of_some _ e
theorem ints_perm:∀ {ws vs:List Value}{ns:List Int},ws.Perm vs->Vals (ns.map V.int) vs->∃ ms:List Int,Vals (ms.map V.int) ws/\ms.Perm ns:=by
 intro ws vs ns hp r
 have hI:=intsAre_of r
 have all:∀ v∈vs,∃ i t,v=Value.int i t:=by
  intro v hv
  obtain⟨j,hj,e⟩:=List.getElem_of_mem hv
  have l:=r.length
  rw[List.length_map]at l
  obtain⟨u,e2,t,e3⟩:=r.get (i:=j) (x:=V.int (ns[j]'(by lia))) (by rw[List.getElem?_map,List.getElem?_eq_getElem (by lia)];rfl)
  rw[List.getElem?_eq_getElem hj,e]at e2
  cases e2
  exact⟨_,t,e3⟩
 let f:Value->Int:=fun v=>match v with
  | .int i _=>i
  | _=>0
 have key:∀ {us:List Value}{ks:List Int},Vals (ks.map V.int) us->us.map f=ks:=by
  intro us
  induction us with
  |nil=>intro ks r;cases ks with
   |nil=>rfl
   |cons _ _=>cases r
  |cons u us ih=>intro ks r;cases ks with
   |nil=>cases r
   |cons k ks =>
    cases r with
    |cons r1 r2 =>
     obtain⟨t,e⟩:=r1
     rw[List.map_cons,ih r2,e]
 refine⟨ws.map f,?_,?_⟩
 ·have all':∀ v∈ws,∃ i t,v=Value.int i t:=fun v hv=>all v (hp.mem_iff.mp hv)
  clear hp
  induction ws with
  |nil=>exact .nil
  |cons w ws ih =>
   obtain⟨i,t,e⟩:=all' w (List.mem_cons_self ..)
   refine .cons ⟨t,by rw[e]⟩ (ih fun v hv=>all' v (List.mem_cons_of_mem _ hv))
 ·rw[<- key r]
  exact hp.map f
theorem call_sortedI:CallR X (.builtin "sorted") (fun xs H Q=>∃ (l:Addr) (ns:List Int),xs=[V.ref l]/\SqL X.K H l (ns.map V.int)/\ns.length<128 /\
  ∀ (l':Addr) (ms:List Int),H l'=none->ms.Perm ns->ms.Pairwise (·<=·)->Q (.ref l') (upd H l' (.lst (ms.map V.int)))):=by
 intro pins s σ H xs us Q I r h
 obtain⟨l,ns,rfl,hq,hlen,q⟩:=h
 obtain⟨u,rfl,rx⟩:=vals1 r
 cases rx
 obtain⟨its,r',pl,hz⟩:=I.list hq
 have li:=r'.length
 rw[List.length_map]at li
 refine Calls.call_function_entry kind_sorted plain_sorted entry_sorted (args_sorted1 _) ?_
 unfold Builtin.«sorted»
 refine wpAny_bind (m:=checkCount "sorted" 1 1 _) (wpAny_pure (wpAny_bind (collect_list pl.isList ?_ (by rw[sizeLine_eq];lia))))
 generalize hh':(s.heap.push (seqObj "list" #[] 0)).update s.heap.objs.size (Obj.mapSeq (·++its.toArray))=h'
 have kp:∀ b u,s.heap.get? b=some u->h'.get? b=some u:=hh'▸collect_kept
 refine wpAny_bind (wpAny_newList ?_ (by rw[sizeLine_eq];lia))
 have gL:(h'.push (seqObj "list" its.toArray 0)).get? h'.objs.size=some (seqObj "list" its.toArray 0):=Heap.get?_push_size _ rfl
 have I1:Inv X pins σ H { s with heap:=h' }:=I.kept (t':=s.toks) kp
 have kp2:∀ b u,h'.get? b=some u->(h'.push (seqObj "list" its.toArray 0)).get? b=some u:=fun b u e=>Heap.get?_push_of_some _ e
 have hI:=intsAre_of r'
 have keys:KeysOf κI (pairsOf its):=fun p hp=>by
  rw[pairsOf_toList]at hp
  obtain⟨e1,e2⟩:=Srt.mem_zip_self hp
  obtain⟨j,hj,e⟩:=List.getElem_of_mem e2
  obtain⟨u,g1,t,g2⟩:=r'.get (i:=j) (x:=V.int (ns[j]'(by lia))) (by rw[List.getElem?_map,List.getElem?_eq_getElem (by lia)];rfl)
  rw[List.getElem?_eq_getElem hj,e]at g1
  cases g1
  rw[e1,g2]
  exact⟨_,rfl⟩
 refine wpAny_bind (wpAny_holding (wpAny_call_entry slot_list_sort ⟨_,gL,rfl⟩ entry_list_sort (sort_at (κ:=κI) (kd:=oneType') gL keys (by lia) (fun l2 g k=>⟨ltI_ok,fun R hR=>?_⟩) fun ws g c pw sw kp3 gg=>⟨_,rfl,?_⟩) (args_list_sort _)))
 ·match its,hI,l2 with
  |v1 :: v2 :: rest,hI,_ =>
   rw[keyKind_ints hI]
   exact wpAny_pure hR
  |[],_,l2=>simp at l2
  |[_],_,l2=>simp at l2
 ·obtain⟨ms,rm,pm⟩:=ints_perm pw r'
  have lw:=rm.length
  rw[List.length_map]at lw
  refine wpAny_pure ⟨_,rfl,.ref h'.objs.size,_,I1.laid (t':=s.toks) (a:=h'.objs.size) (o:=.lst (ms.map V.int)) (fun b u e=>kp3 b u (Nat.ne_of_lt (Heap.lt_size e)) (kp2 b u e)) (Nat.le_refl _) (show ObjOk X.prog X.w _ g _ (.lst (ms.map V.int))from⟨?_,ws,c,rm,gg⟩),rfl,q _ ms (I1.hok.fresh (Nat.le_refl _)) pm ?_⟩
  ·rw[List.length_map,pm.length_eq,sizeLine_eq];lia
  ·rw[List.pairwise_iff_getElem]
   intro i j hi hj ij
   have z:=sw i j (Nat.le_of_lt ij) (by lia)
   have kk:∀ m (hm:m<ms.length),KK κI (pairsOf ws) m=ms[m]:=fun m hm=>by
    obtain⟨u,g1,t,g2⟩:=rm.get (i:=m) (x:=V.int ms[m]) (by rw[List.getElem?_map,List.getElem?_eq_getElem hm];rfl)
    have e:(pairsOf ws)[m]?=some (u,u):=by
     have hm':m<ws.length:=by lia
     have:ws[m]=u:=by rw[List.getElem?_eq_getElem hm']at g1;exact Option.some.inj g1
     simp[pairsOf,hm',this]
    unfold KK
    rw[e,g2]
    rfl
   rw[kk i hi,kk j hj]at z
   have z':decide (ms[j]<ms[i])=false:=z
   have:=of_decide_eq_false z'
   lia
end
open PySem PySem.W PyProof.Rows
section
variable{prog:Program}{w:World}{A:Around}{E:Value->Shared->Prop}{s:Shared}{p:Addr}{ys:Array (Int×Tok)}
theorem max_ofTup{Q:Value->Shared->Prop}(calm:A.handled=none)(tp:s.heap.IsTuple p (intItems ys))(some1:0<ys.size)
  (k:∀ v h2 t2,(intItems ys)[argBest (fun i j=>decide (numAt ys i > numAt ys j)) (ys.size-1)]?=some v->(∀ b o,s.heap.get? b=some o->h2.get? b=some o)->Q v { s with heap:=h2,toks:=t2 }):wpAny (model prog w) A (call (.builtin "max") [.ref p]) Q E s:=by
 have old:p<s.heap.objs.size:=Exists.elim tp fun _ z=>Heap.lt_size z.1
 refine call_max_walk (wpAny_pyIter_tuple tp ?_)
 refine⟨_,[s.heap.objs.size,p],[s.heap.objs.size],_,_,_,_,rfl,Walks.tuple (A:=A.in1) calm s.heap.objs.size p (Nat.ne_of_lt old) (intItems ys),
  ⟨⟨_,Heap.get?_push_size _ rfl,rfl,rfl⟩,tp.push _⟩,fun b z=>?_,by simpa[intItems]using some1,CmpOf.ints_gt (numAt ys) (fun _ _=>intItems_at),fun v h2 t2 best kept=>?_⟩
 ·show b <(s.heap.push _).objs.size
  rw[Heap.size_push]
  have z:b=s.heap.objs.size\/b=p:=by simpa using z
  cases z with
  |inl z=>exact z▸Nat.lt_succ_self _
  |inr z=>exact z▸Nat.lt_succ_of_lt old
 ·refine k v h2 t2 (by simpa[intItems]using best) fun b o e=>kept b o (fun z=>?_) (Heap.get?_push_of_some _ e)
  have z:b=s.heap.objs.size:=by simpa using z
  exact Nat.lt_irrefl _ (z▸Heap.lt_size e:s.heap.objs.size<s.heap.objs.size)
end
section
variable{X:Cx}
theorem best_of{ns:List Int}{ys:Array (Int×Tok)}(e1:ns=ys.toList.map (·.1))(hs:0<ys.size){v:Value}(hv:(intItems ys)[argBest (fun i j=>decide (numAt ys i > numAt ys j)) (ys.size-1)]?=some v) :
  ∃ (m:Int) (t:Tok),v = .int m t/\m∈ns/\∀ a∈ns,a<=m:=by
 obtain⟨tk,rfl⟩:=intItems_at hv
 have best:=argBest_gt (numAt ys) (ys.size-1)
 have len:(ys.toList.map (·.1)).length=ys.size:=by simp
 refine⟨_,tk,rfl,?_,fun a ha=>?_⟩
 ·have:=best.1
  rw[numAt_eq,e1]
  exact getD_mem (by omega)
 ·subst e1
  obtain⟨i,hi,z⟩:=mem_getD ha
  have top:=best.2 i (by lia)
  rw[numAt_eq ys i,z]at top
  exact top
theorem call_maxT(hc:X.calm=true):CallR X (.builtin "max") (fun xs H Q=>∃ (l:Addr) (ns:List Int),xs=[V.ref l]/\SqT X.K H l (ns.map V.int)/\ns≠[]/\∀ m:Int,m∈ns->(∀ a∈ns,a<=m)->Q (.int m) H):=by
 intro pins s σ H xs us Q I r h
 obtain⟨l,ns,rfl,hq,hne,q⟩:=h
 obtain⟨u,rfl,rx⟩:=vals1 r
 cases rx
 obtain⟨its,r',pl,hz⟩:=I.tuple hq
 have hi:=intsAre_of r'
 obtain⟨ys,hx⟩:=hi.allInts.items
 have e1:ns=ys.toList.map (·.1):=by
  rw[<- nums_intItems,<- hx]
  exact(show numsOf its.toArray.toList=ns from hi.numsOf).symm
 have hs:0<ys.size:=by
  have:=List.length_pos_iff.mpr hne
  rw[e1,List.length_map,Array.length_toList]at this
  exact this
 refine max_ofTup (I.ok.hd hc) (hx▸pl) hs fun v h' tk hv hk=>?_
 obtain⟨m,t,rfl,hm,hb⟩:=best_of e1 hs hv
 exact⟨.int m,H,I.kept hk,⟨t,rfl⟩,q m hm hb⟩
end
open PySem PySem.W PyProof.Rows Srt
theorem keys_of_pairs{P:Program}{w:World}{es:List DictEntry}{kvs:List (Key×V)}{vs:List (Key×Value)}(h:Pairs (mixKind P w) es vs)(r:KV kvs vs):Vals (kvs.map fun kv=>kV kv.1) (es.map fun r=>r.key):=by
 induction h generalizing kvs with
 |nil=>cases r;exact .nil
 | @cons e q es vs h1 h2 h3 ih =>
  cases r with
  | @cons kv _ kvs _ r1 r2 =>
   refine .cons ?_ (ih r2)
   show RelV (kV kv.1) e.key
   rw[r1.1]
   have h1:keyIs q.1 e.key=true:=h1
   rcases keyIs_shape h1 with⟨i,t,e1,e2⟩ |⟨x,t,e1,e2⟩
   ·rw[e1,e2];exact⟨t,rfl⟩
   ·rw[e1,e2];exact⟨t,rfl⟩
theorem raw_of{P:Program}{w:World}{h:Heap}{d:Addr}{kvs:List (Key×V)}{vs:List (Key×Value)}(r:KV kvs vs)(m:h.DictOf (mixKind P w) d vs):∃ o ep us,h.get? d=some o/\(∀ g:Heap,g.get? d=some o->RawD d us ep g)/\Vals (kvs.map fun kv=>kV kv.1) us:=by
 obtain⟨o,es,ep,e,x,dt,_,ps,_⟩:=m
 exact⟨o,ep,_,e,fun g eg=>⟨o,es,eg,x,dt,rfl⟩,keys_of_pairs ps r⟩
noncomputable def Itk(d:Addr)(o:Obj)(kvs:List (Key×V)):It:=⟨fun i H=>H d=some (.frz o (.dK kvs))/\i<kvs.length,fun i H x H'=>H'=H/\∃ kv,kvs[i]?=some kv/\x=kV kv.1,fun i H=>H d=some (.frz o (.dK kvs))/\kvs.length<=i⟩
theorem turn_dk{P:Program}{w:World}{K:PySem.W.Frag}{tg:Expr}{d it:Addr}{o:Obj}{kvs:List (Key×V)}{us:List Value}{ep:Nat}(raw:∀ g:Heap,g.get? d=some o->RawD d us ep g)(rv:Vals (kvs.map fun kv=>kV kv.1) us) :
  Turn P w K tg (Itk d o kvs) [it] it (fun i h=>h.IsKeyIter it d i us.length ep)where
 mem:=by simp
 obj:=fun i h st b hb=>by
  have e:b=it:=by simpa using hb
  subst e
  obtain⟨o,e,c,d⟩:=st
  exact⟨o,e,fun v z=>by rw[d]at z;cases z⟩
 keep:=fun i h h' st k=>by
  obtain⟨o,e,r⟩:=st
  exact⟨o,k it (by simp) o e,r⟩
 item:=by
  intro X hP hw hK hc i pins s σ H E I hf st hg
  subst hP hw hK
  obtain⟨hd,hi⟩:=hg
  have ho:s.heap.get? d=some o:=(I.hok d _ hd).1
  obtain⟨u,hu,ru⟩:=rv.get (i:=i) (x:=kV kvs[i].1) (by rw[List.getElem?_map,List.getElem?_eq_getElem hi];rfl)
  obtain⟨f0,f1,f2,f3,f4,f5⟩:=hf it (by simp)
  refine rawItem st (raw _ ho) hu fun h' st' sb=>?_
  have I1:Inv X pins σ H { s with heap:=h' }:=I.turned (t':=s.toks) (fun b o hb e=>(sb.2 b hb).trans e) f0 f1 f3 f4 f5
  obtain⟨o',e,c,dd⟩:=id st'
  exact⟨u,rfl,go_of (s:={ s with heap:=h' }) e c dd (by decide) ⟨_,H,I1,ru,⟨rfl,kvs[i],List.getElem?_eq_getElem hi,rfl⟩,st',fun b hb=>(hf b hb).1⟩⟩
 done:=by
  intro X hP hw hK hc i pins s σ H E I hf st hg
  subst hP hw hK
  obtain⟨hd,hi⟩:=hg
  have ho:s.heap.get? d=some o:=(I.hok d _ hd).1
  obtain⟨f0,f1,f2,f3,f4,f5⟩:=hf it (by simp)
  have hl:=rv.length
  rw[List.length_map]at hl
  exact rawEnd (I.ok.hd hc) st (raw _ ho) (by lia) fun h' eb=>⟨rfl,I.turned (t':=s.toks) (fun b o hb e=>eb b o hb e) f0 f1 f3 f4 f5⟩
 self:=fun _ _ _ _ _ st h=>wpAny_pyIter_keyiter st h
noncomputable def iDk(tl:TE):TI:=fun σ H R=>tl σ H fun x H1=>∃ d kvs,x = .ref d/\H1 d=some (.dK kvs)/\∀ o,R (Itk d o kvs) (upd H1 d (.frz o (.dK kvs)))
section
variable{X:Cx}
theorem pi_dk{tg l:Expr}{tl:TE}(hl:PE X l tl):PI X tg l (iDk tl):=by
 intro pins s σ H R I h
 refine thn (hl pins s σ H _ I h) fun v s1 ⟨x,H1,I1,r1,q1⟩=>?_
 obtain⟨d,kvs,e,hd,q⟩:=q1
 subst e
 cases r1
 obtain⟨hz,nsys,vs,rv,m⟩:=dk_of I1.hok hd
 obtain⟨o,ep,us,ho,raw,vals⟩:=raw_of rv m
 have I2:Inv X pins σ (upd H1 d (.frz o (.dK kvs))) s1:=d_write (t':=s1.toks) (h':=s1.heap) I1 (by rw[hd];exact True.intro) ⟨rfl,fun _ _=>rfl⟩ ⟨o,ho⟩ (show ObjOk X.prog X.w _ s1.heap d (.frz o (.dK kvs))from⟨ho,hz,nsys,vs,rv,m⟩)
 refine rawIter nsys (raw _ ho) ?_
 refine⟨s1.heap.objs.size,[s1.heap.objs.size],_,_,_,rfl,I2.kept (t':=s1.toks) fun b o e=>Heap.get?_push_of_some _ e,turn_dk raw vals,⟨_,Heap.get?_push_size _ rfl,rfl,rfl⟩,fun b hb=>?_,q o⟩
 have e:b=s1.heap.objs.size:=by simpa using hb
 subst e
 exact I2.fpOk (Nat.le_refl _) (I2.hok.fresh (Nat.le_refl _))
theorem least_at{ns:List Int}{ys:Array (Int×Tok)}(e1:ns=ys.toList.map (·.1))(hs:0<ys.size){v:Value}(hv:(intItems ys)[argBest (fun i j=>decide (numAt ys i<numAt ys j)) (ys.size-1)]?=some v) :
  ∃ (m:Int) (t:Tok),v = .int m t/\m∈ns/\∀ a∈ns,m<=a:=by
 obtain⟨tk,rfl⟩:=intItems_at hv
 have best:=argBest_lt (numAt ys) (ys.size-1)
 have len:(ys.toList.map (·.1)).length=ys.size:=by simp
 refine⟨_,tk,rfl,?_,fun a ha=>?_⟩
 ·have:=best.1
  rw[numAt_eq,e1]
  exact getD_mem (by omega)
 ·subst e1
  obtain⟨i,hi,z⟩:=mem_getD ha
  have top:=best.2 i (by lia)
  rw[numAt_eq ys i,z]at top
  exact top
theorem call_minL(hc:X.calm=true):CallR X (.builtin "min") (fun xs H Q=>∃ (l:Addr) (ns:List Int),xs=[V.ref l]/\SqL X.K H l (ns.map V.int)/\ns≠[]/\∀ m:Int,m∈ns->(∀ a∈ns,m<=a)->Q (.int m) H):=by
 intro pins s σ H xs us Q I r h
 obtain⟨l,ns,rfl,hq,hne,q⟩:=h
 obtain⟨u,rfl,rx⟩:=vals1 r
 cases rx
 obtain⟨its,r',pl,hz⟩:=I.list hq
 have hi:=intsAre_of r'
 obtain⟨ys,hx⟩:=hi.allInts.items
 have e1:ns=ys.toList.map (·.1):=by
  rw[<- nums_intItems,<- hx]
  exact(show numsOf its.toArray.toList=ns from hi.numsOf).symm
 have hs:0<ys.size:=by
  have:=List.length_pos_iff.mpr hne
  rw[e1,List.length_map,Array.length_toList]at this
  exact this
 refine min_intList (I.ok.hd hc) (hx▸pl.isList) hs fun v h' tk hv hk=>?_
 obtain⟨m,t,rfl,hm,hb⟩:=least_at e1 hs hv
 exact⟨.int m,H,I.kept hk,⟨t,rfl⟩,q m hm hb⟩
end
section
variable{X:Cx}
theorem call_sortedK(hc:X.calm=true):CallR X (.builtin "sorted") (fun xs H Q=>∃ (d:Addr) (kvs:List (Key×V)) (ns:List Int),xs=[V.ref d]/\H d=some (.dK kvs)/\kvs.map (·.1)=ns.map Sum.inl/\ns.length<128 /\
  ∀ (l':Addr) (ms:List Int),H l'=none->ms.Perm ns->ms.Pairwise (·<=·)->Q (.ref l') (upd H l' (.lst (ms.map V.int)))):=by
 intro pins s0 σ H xs us0 Q I0 r h
 obtain⟨d,kvs,ns,rfl,hd,hk,hlen,q⟩:=h
 obtain⟨u,rfl,rx⟩:=vals1 r
 cases rx
 obtain⟨hz,nsys,vs,rv,m⟩:=dk_of I0.hok hd
 obtain⟨o,ep,its,ho,raw,vals⟩:=raw_of rv m
 have ev:(kvs.map fun kv=>kV kv.1)=ns.map V.int:=by
  have:=congrArg (List.map kV) hk
  rw[List.map_map,List.map_map]at this
  exact this
 rw[ev]at vals
 have r':=vals
 have li:=r'.length
 rw[List.length_map]at li
 refine Calls.call_function_entry kind_sorted plain_sorted entry_sorted (args_sorted1 _) ?_
 unfold Builtin.«sorted»
 refine wpAny_bind (m:=checkCount "sorted" 1 1 _) (wpAny_pure (wpAny_bind (kdu_collect (A:=X.A.in1) (rawSrc nsys) (show X.A.handled=none from I0.ok.hd hc) (raw _ ho) (by rw[sizeLine_eq];lia) fun h' tk acc kp hacc=>?_)))
 have eacc:acc.toList=its:=by
  apply List.ext_getElem?
  intro i
  by_cases hi:i<acc.size
  ·have e1:acc.toList[i]?=some acc[i]:=by rw[Array.getElem?_toList,Array.getElem?_eq_getElem hi]
   have e2:=hacc.2 i acc[i] (Array.getElem?_eq_getElem hi)
   rw[e1]
   exact e2.symm
  ·have l0:=hacc.1
   rw[List.getElem?_eq_none (by rw[Array.length_toList];lia),List.getElem?_eq_none (by lia)]
 rw[eacc]
 generalize hs:({ s0 with heap:=h',toks:=tk }:Shared)=s
 have es:s.heap=h':=by rw[<- hs]
 refine wpAny_bind (wpAny_newList ?_ (by rw[sizeLine_eq];lia))
 subst hs
 have gL:(h'.push (seqObj "list" its.toArray 0)).get? h'.objs.size=some (seqObj "list" its.toArray 0):=Heap.get?_push_size _ rfl
 have I1:Inv X pins σ H { s0 with heap:=h',toks:=tk }:=I0.kept kp
 have kp2:∀ b u,h'.get? b=some u->(h'.push (seqObj "list" its.toArray 0)).get? b=some u:=fun b u e=>Heap.get?_push_of_some _ e
 have hI:=intsAre_of r'
 have keys:KeysOf κI (pairsOf its):=fun p hp=>by
  rw[pairsOf_toList]at hp
  obtain⟨e1,e2⟩:=Srt.mem_zip_self hp
  obtain⟨j,hj,e⟩:=List.getElem_of_mem e2
  obtain⟨u,g1,t,g2⟩:=r'.get (i:=j) (x:=V.int (ns[j]'(by lia))) (by rw[List.getElem?_map,List.getElem?_eq_getElem (by lia)];rfl)
  rw[List.getElem?_eq_getElem hj,e]at g1
  cases g1
  rw[e1,g2]
  exact⟨_,rfl⟩
 refine wpAny_bind (wpAny_holding (wpAny_call_entry slot_list_sort ⟨_,gL,rfl⟩ entry_list_sort (sort_at (κ:=κI) (kd:=oneType') gL keys (by lia) (fun l2 g k=>⟨ltI_ok,fun R hR=>?_⟩) fun ws g c pw sw kp3 gg=>⟨_,rfl,?_⟩) (args_list_sort _)))
 ·match its,hI,l2 with
  |v1 :: v2 :: rest,hI,_ =>
   rw[keyKind_ints hI]
   exact wpAny_pure hR
  |[],_,l2=>simp at l2
  |[_],_,l2=>simp at l2
 ·obtain⟨ms,rm,pm⟩:=ints_perm pw r'
  have lw:=rm.length
  rw[List.length_map]at lw
  refine wpAny_pure ⟨_,rfl,.ref h'.objs.size,_,I1.laid (t':=tk) (a:=h'.objs.size) (o:=.lst (ms.map V.int)) (fun b u e=>kp3 b u (Nat.ne_of_lt (Heap.lt_size e)) (kp2 b u e)) (Nat.le_refl _) (show ObjOk X.prog X.w _ g _ (.lst (ms.map V.int))from⟨?_,ws,c,rm,gg⟩),rfl,q _ ms (I1.hok.fresh (Nat.le_refl _)) pm ?_⟩
  ·rw[List.length_map,pm.length_eq,sizeLine_eq];lia
  ·rw[List.pairwise_iff_getElem]
   intro i j hi hj ij
   have z:=sw i j (Nat.le_of_lt ij) (by lia)
   have kk:∀ m (hm:m<ms.length),KK κI (pairsOf ws) m=ms[m]:=fun m hm=>by
    obtain⟨u,g1,t,g2⟩:=rm.get (i:=m) (x:=V.int ms[m]) (by rw[List.getElem?_map,List.getElem?_eq_getElem hm];rfl)
    have e:(pairsOf ws)[m]?=some (u,u):=by
     have hm':m<ws.length:=by lia
     have:ws[m]=u:=by rw[List.getElem?_eq_getElem hm']at g1;exact Option.some.inj g1
     simp[pairsOf,hm',this]
    unfold KK
    rw[e,g2]
    rfl
   rw[kk i hi,kk j hj]at z
   have z':decide (ms[j]<ms[i])=false:=z
   have:=of_decide_eq_false z'
   lia
end
open PySem PySem.W PyProof.Rows HT
end L2
namespace SetA
open PySem
open PySem
open PySem
open PySem
open PySem
open PySem
open PySem
open PySem
open PySem
open PySem L2
open PySem L2
open PySem L2
open PySem PySem.W PyProof.Rows
theorem cut_perm{α:Type}:∀ (i:Nat) (l:List α) (h:i<l.length),(l[i] :: l.eraseIdx i).Perm l
 | 0,_ :: _,_=>.refl _
 |i+1,x :: l,h=>by
  show(l[i]'(Nat.lt_of_succ_lt_succ h) :: x :: l.eraseIdx i).Perm _
  exact(List.Perm.swap _ _ _).trans ((cut_perm i l (Nat.lt_of_succ_lt_succ h)).cons x)
end SetA
namespace L2
open PySem PySem.W PyProof.Rows Srt SetA
open PySem PySem.W PyProof.Rows Srt
open PySem PySem.W PyProof.Rows Srt
open PySem PySem.W PyProof.Rows
noncomputable def sqO:Bool->List V->HO
 |true,xs=>.tup xs
 |false,xs=>.lst xs
theorem sqB_of{b:Bool}{K:PySem.W.Frag}{H:Hp}{a:Addr}{xs:List V}(h:H a=some (sqO b xs)):SqB b K H a xs:=by
 cases b
 ·exact SqL.of h
 ·exact SqT.of h
theorem sq_or{b:Bool}{K:PySem.W.Frag}{H:Hp}{a:Addr}{xs:List V}(h:H a=some (sqO b xs)):SqL K H a xs\/SqT K H a xs:=by
 cases b
 ·exact .inl (SqL.of h)
 ·exact .inr (SqT.of h)
section
variable{X:Cx}
noncomputable def rIxLh:R2:=fun x y H Q=>∃ p xs i v,x = .ref p/\y = .int i/\H p=some (.lst xs)/\atI xs i=some v/\Q v H
noncomputable def rIxTh:R2:=fun x y H Q=>∃ p xs i v,x = .ref p/\y = .int i/\H p=some (.tup xs)/\atI xs i=some v/\Q v H
theorem ix_listH:IxR X rIxLh:=by
 intro value slice pins s σ H x y v u Q I rx ry h hs
 obtain⟨p,xs,i,z,rfl,rfl,hp,he,q⟩:=h
 exact ix_list value slice pins s σ H _ _ v u Q I rx ry ⟨p,xs,i,z,rfl,rfl,SqL.of hp,he,q⟩ hs
theorem ix_tupH:IxR X rIxTh:=by
 intro value slice pins s σ H x y v u Q I rx ry h hs
 obtain⟨p,xs,i,z,rfl,rfl,hp,he,q⟩:=h
 exact ix_tup value slice pins s σ H _ _ v u Q I rx ry ⟨p,xs,i,z,rfl,rfl,SqT.of hp,he,q⟩ hs
theorem get_listH:PGet X rIxLh:=by
 intro pins s σ H x y v u Q I rx ry h
 obtain⟨p,xs,i,z,rfl,rfl,hp,he,q⟩:=h
 cases rx
 obtain⟨t,rfl⟩:=ry
 obtain⟨its,r,pl,hz⟩:=I.list (SqL.of hp)
 obtain⟨j,h1,h2,h3,h4,h5⟩:=atI_get he
 obtain⟨w,ew,rw'⟩:=r.get h2
 have hl:=r.length
 have hn:=line63
 have fin:EP X pins σ Q w s:=⟨z,H,I,rw',q⟩
 by_cases h0:0<=i
 ·have hj:i.toNat=j:=by
   rw[seqIndex_of h0 h5]at h1
   exact Option.some.inj h1
  exact wpAny_getItem_list pl.isList h0 (by lia) (by rw[hj];simpa using ew) fin
 ·have hj:(i+(its.toArray.size:Int)).toNat=j:=by
   rw[seqIndex_neg (by lia) h4]at h1
   rw[List.size_toArray,<- hl]
   exact Option.some.inj h1
  exact wpAny_getItem_list_neg pl.isList (by lia) (by rw[List.size_toArray] <;> lia) (by lia) (by rw[hj];simpa using ew) fin
theorem call_lenH:CallR X (.builtin "len") (fun xs H Q=>∃ p ys,xs=[.ref p]/\H p=some (.lst ys)/\Q (.int ys.length) H):=by
 intro pins s σ H xs us Q I r h
 obtain⟨p,ys,rfl,hp,q⟩:=h
 exact call_len_seq pins s σ H _ us Q I r ⟨p,ys,rfl,.inl (SqL.of hp),q⟩
theorem call_lenTH:CallR X (.builtin "len") (fun xs H Q=>∃ p ys,xs=[.ref p]/\H p=some (.tup ys)/\Q (.int ys.length) H):=by
 intro pins s σ H xs us Q I r h
 obtain⟨p,ys,rfl,hp,q⟩:=h
 exact call_len_seq pins s σ H _ us Q I r ⟨p,ys,rfl,.inr (SqT.of hp),q⟩
theorem call_tupleH:CallR X (.type "tuple") (fun xs H Q=>∃ p ys,xs=[.ref p]/\H p=some (.lst ys)/\∀ l,H l=none->Q (.ref l) (upd H l (.tup ys))):=by
 intro pins s σ H xs us Q I r h
 obtain⟨p,ys,rfl,hp,q⟩:=h
 exact call_tuple_of pins s σ H _ us Q I r ⟨p,ys,rfl,.inl ⟨SqL.of hp,q⟩⟩
theorem call_listH(b:Bool):CallR X (.type "list") (fun xs H Q=>∃ p ys,xs=[.ref p]/\H p=some (sqO b ys)/\∀ l,H l=none->Q (.ref l) (upd H l (.lst ys))):=by
 intro pins s σ H xs us Q I r h
 obtain⟨p,ys,rfl,hp,q⟩:=h
 exact call_list_of pins s σ H _ us Q I r ⟨p,ys,rfl,sq_or hp,q⟩
theorem call_sumH(hc:X.calm=true):CallR X (.builtin "sum") (fun xs H Q=>∃ (l:Addr) (ns:List Int),xs=[V.ref l]/\H l=some (.lst (ns.map V.int))/\Q (.int ns.sum) H):=by
 intro pins s σ H xs us Q I r h
 obtain⟨p,ys,rfl,hp,q⟩:=h
 exact call_sum hc pins s σ H _ us Q I r ⟨p,ys,rfl,SqL.of hp,q⟩
theorem call_minLH(hc:X.calm=true):CallR X (.builtin "min") (fun xs H Q=>∃ (l:Addr) (ns:List Int),xs=[V.ref l]/\H l=some (.lst (ns.map V.int))/\ns≠[]/\∀ m:Int,m∈ns->(∀ a∈ns,m<=a)->Q (.int m) H):=by
 intro pins s σ H xs us Q I r h
 obtain⟨p,ys,rfl,hp,n0,q⟩:=h
 exact call_minL hc pins s σ H _ us Q I r ⟨p,ys,rfl,SqL.of hp,n0,q⟩
noncomputable def rInQ(b n:Bool):R2:=fun x y H Q=>∃ p xs,y = .ref p/\H p=some (sqO b xs)/\flatV x=true/\xs.all flatV=true/\Q (.bl (if n=true then !inV x xs else inV x xs)) H
theorem op_inQ(b:Bool):OpR X (compareOp .In) (rInQ b false):=by
 intro pins s σ H x y v u Q I rx ry h
 obtain⟨p,xs,rfl,hp,fx,fs,q⟩:=h
 exact op_in_seq pins s σ H x _ v u Q I rx ry ⟨p,xs,rfl,sq_or hp,fx,fs,q⟩
theorem op_notInQ(b:Bool):OpR X (compareOp .NotIn) (rInQ b true):=by
 intro pins s σ H x y v u Q I rx ry h
 obtain⟨p,xs,rfl,hp,fx,fs,q⟩:=h
 exact op_notIn_seq pins s σ H x _ v u Q I rx ry ⟨p,xs,rfl,sq_or hp,fx,fs,q⟩
theorem op_inH:OpR X (compareOp .In) (rInQ false false):=op_inQ false
theorem op_notInH:OpR X (compareOp .NotIn) (rInQ false true):=op_notInQ false
noncomputable def tBMh(r:V->List V->Hp->VK->Prop)(to:TE)(t:TA):TE:=fun σ H Q=>to σ H fun x H1=>(∃ p xs,x = .ref p/\H1 p=some (.lst xs))/\t σ H1 fun xs H2=>r x xs H2 Q
theorem pe_bmH{id:String}{name:Str}{r:V->List V->Hp->VK->Prop}{o e:Expr}{es:List Expr}{to:TE}{t:TA}{apos cpos:Pos}(slot:Slot "list" name id)(hty:typeOf (.builtin id)=pure (.type "method_descriptor"))(hm:MtR X id r)(ho:PE X o to)(ha:PA X (e :: es) t)(hbase:attributeBase o name X.env (eval o X.env)=eval o X.env:=by rfl)
  (hfew:((backTo cpos (starEach (e :: es) X.env)).all (fun x=>!x.1) && (backToKw cpos (keywordEach [] X.env)).all (fun x=>x.1.isSome) && decide ((e :: es).length+([]:List Keyword).length+(if([]:List Keyword).isEmpty then 0 else 1)<30))=true:=by rfl) (hline:(apos.endLine == cpos.line)=true:=by rfl)
  (hs:starEach (e :: es) X.env=(false,eval e X.env) :: starEach es X.env:=by rfl) (hplain:(backTo cpos (starEach es X.env)).any (·.1)=false:=by rfl):PE X (.Call (.Attribute o name apos) (e :: es) [] cpos) (tBMh r to t):=by
 intro pins s σ H Q I h
 refine wpAny_Call_method_late hbase hfew hline rfl (thn (ho pins s σ H _ I h) fun v s1 ⟨x,H1,I1,r1,⟨p,xs,ex,hx⟩,q1⟩=>?_)
 subst ex
 obtain⟨h1,h2⟩:=tyV_is (T:="list") I1 r1 (.inl ⟨rfl,xs,SqL.of hx⟩)
 refine⟨"list",id,PySem.F.plainAttrs_list,slot,hty,h1,h2,?_⟩;have hA:=ha cpos pins s1 σ H1 _ I1 q1
 rw[hs]at hA ⊢;refine Calls.callWith_builtin (by show(false ||(backTo cpos (starEach es X.env)).any (·.1))=false;rw[hplain] <;> rfl) (Calls.evalArgs_plain (thn hA fun us s2 ⟨vs,H2,I2,r2,q2⟩=>?_))
 exact hm pins s2 σ H2 _ vs v us Q I2 r1 r2 q2
end
open PySem PySem.W PyProof.Rows
theorem DGet.rd{H:Hp}{a:Addr}{kvs:List (Key×V)}{k:Key}(e:Rd H a (.dK kvs)):DGet H a (kV k) (valV kvs k):=.inl ⟨kvs,k,e,rfl,rfl⟩
theorem star_un{op:UnaryOp}{a:Expr}{pos:Pos}{es:List Expr}{env:Env}:starEach (.UnaryOp op a pos :: es) env=(false,eval (.UnaryOp op a pos) env) :: starEach es env:=rfl
theorem pa_un{X:Cx}{a:Expr}{op:UnaryOp}{pos:Pos}{es:List Expr}{te:TE}{t:TA}(ha:PE X (.UnaryOp op a pos) te)(hr:PA X es t):PA X (.UnaryOp op a pos :: es) (tCons te t):=pa_cons ha hr (hs:=star_un)
theorem for_enumB{b:Bool}{K:PySem.W.Frag}{l:Addr}{xs:List V}{g:TG}{tb:TS}{D:Ends}{σ:St}{H:Hp}(Pv:Nat->St->Hp->Prop)(h0:Pv 0 σ H)(hl:∀ i σ H,i<=xs.length->Pv i σ H->SqB b K H l xs)
  (hs:∀ i x σ H T,xs[i]?=some x->Pv i σ H->H T=none->g (.ref T) σ (upd H T (.tup [.int i,x])) fun σ2 H2=>tb { D with nx:=Pv (i+1),ct:=Pv (i+1),bk:=D.nx } σ2 H2) (hd:∀ σ H,Pv xs.length σ H->D.nx σ H) :
  ∃ W:Nat->Nat->St->Hp->Prop,(∃ m,W 0 m σ H)/\∀ i m σ H,W i m σ H ->
   ((IteB b K l).stop i H/\D.nx σ H)\/((IteB b K l).go i H/\∃ N:St->Hp->Prop,(∀ σ' H',N σ' H'->∃ m',m'<m/\W (i+1) m' σ' H')/\∀ x H',(IteB b K l).yld i H x H'->g x σ H' fun σ2 H2=>tb { D with nx:=N,ct:=N,bk:=D.nx } σ2 H2):=by
 refine⟨fun i m σ H=>m=xs.length-i/\i<=xs.length/\Pv i σ H,⟨xs.length,by simp,Nat.zero_le _,h0⟩,?_⟩
 rintro i m σ H ⟨rfl,hi,p⟩
 have q:=hl i σ H hi p
 by_cases hlt:i<xs.length
 ·refine .inr ⟨⟨xs,xs[i],q,by simp[hlt]⟩,Pv (i+1),fun σ' H' p'=>⟨xs.length-(i+1),by omega,rfl,hlt,p'⟩,fun x H' y=>?_⟩
  obtain⟨T,x',e1,hT,e2,y⟩:=y
  subst e1
  subst e2
  exact hs i x' σ H T (y xs q) p hT
 ·have e:i=xs.length:=by lia
  subst e
  exact .inl ⟨⟨xs,q,Nat.le_refl _⟩,hd σ H p⟩
section
variable{d:Addr}{o:Obj}{kvs:List (Key×V)}{g:TG}{tc:TT}{te:TE}{cap:List (Option Nat)}{σ:St}{H1:Hp}{Q:VK}
theorem comp_dk(P:Nat->List V->Hp->Prop)(hz:kvs.length<=sizeLine)(p0:P 0 [] H1)(hl:∀ i ys H,i<=kvs.length->P i ys H->H d=some (.frz o (.dK kvs)))
  (hs:∀ i kv ys H,kvs[i]?=some kv->P i ys H->g (kV kv.1) (capt cap σ) H fun σ2 H2=>Kp (capt cap σ) σ2/\tc σ2 H2 fun b H3=>if b=true then te σ2 H3 fun y H4=>P (i+1) (ys++[y]) H4 else P (i+1) ys H3)
  (hd:∀ ys H,ys.length<=kvs.length->P kvs.length ys H->∀ D,H D=none->Q (.ref D) (upd H D (.lst ys))):compTurns (Itk d o kvs) cap σ H1 Q g tc te:=by
 refine⟨kvs.length,P,hz,p0,fun i ys H yl il p=>?_⟩
 have q:=hl i ys H il p
 by_cases hlt:i<kvs.length
 ·refine .inr ⟨hlt,⟨q,hlt⟩,fun x H' y=>?_⟩
  obtain⟨e,kv,ek,ex⟩:=y
  subst e ex
  exact hs i kv ys _ ek p
 ·have e:i=kvs.length:=by lia
  subst e
  exact .inl ⟨⟨q,Nat.le_refl _⟩,hd ys H yl p⟩
end
open PySem PySem.W PyProof.Rows
section
variable{M:Model}{A:Around}{E:Value->Shared->Prop}{s:Shared}
theorem newEnv_cell{scope:Scope}{globals:Addr}{closure:List (Str×Addr)}{qual:Str}{func:Option Addr}{code:Value}{builtins:Addr}{env:Env}{y:Str}{Q:Env->Shared->Prop}
  (h1:∀ b acc,cellsFrom b scope.names acc=(y,b) :: acc) (h2:∀ h:Heap,pushCells h scope.names=h.push { cls:=.type "cell",data:=.cell none })
  (hQ:Q (newEnv scope s.heap.objs.size globals ((y,s.heap.objs.size+1) :: closure) qual func code (some env) builtins) { s with heap:=(s.heap.push { cls:=.type "dict",data:=.dict #[] }).push { cls:=.type "cell",data:=.cell none } }) :
  wpAny M A (newFunctionEnv scope globals closure [] qual func code (some env) builtins) Q E s:=by
 simp only[newFunctionEnv,Option.isSome_some,if_true]
 refine wpAny_bind (wpAny_alloc ?_)
 refine wpAny_bind (wpAny_layCells _ (fun name kind cells=>by cases hkc:kind == NameKind.cell <;> simp[hkc]) _ _ _ _ ?_)
 rw[h1,h2,show({ s with heap:=s.heap.push { cls:=.type "dict",data:=.dict #[] } }:Shared).heap.objs.size=s.heap.objs.size+1 from Heap.size_push ..]
 rw[List.forIn_nil]
 exact wpAny_bind (wpAny_pure (wpAny_pure hQ))
end
noncomputable def cxIc(X:Cx)(y:Str)(N':List Str)(scope:Scope)(C:Addr)(s2:Shared)(H2:Hp)(fp:List Addr):Cx :=
 { X with N:=N',s₀:=s2,H₀:=H2,env:=compEnvC scope ((y,C+1) :: closCl X.env.cells scope.names []) C X.env,outer:=X.stack,ex:=fp,fn:=fun x=>decide (x=y),xe:=fun _ _=>False }
structure CellScope(y:Str)(N':List Str)(cap:List (Option Nat))(N:List Str)(sc0 scope:Scope):Prop where
 kind:scope.kind = .function
 one:∀ b acc,cellsFrom b scope.names acc=(y,b) :: acc
 push:∀ h:Heap,pushCells h scope.names=h.push { cls:=.type "cell",data:=.cell none }
 only:∀ x∈scope.names,x.2 = .cell->x.1=y
 own:scope.names.lookup y=some .cell
 loc:∀ x∈scope.names,x.2 = .local->scope.names.lookup x.1=some .local
 fre:∀ x∈scope.names,x.2 = .free->sc0.names.lookup x.1=some .cell\/sc0.names.lookup x.1=some .free
 len:cap.length=N'.length
 cap:∀ j∈List.range cap.length,match cap[j]? with
  |some (some i)=>match N'[j]? with
   |some x=>N[i]?=some x/\scope.names.lookup x=some .free
   |none=>False
  | _=>True
section
variable{X:Cx}{y:Str}{N':List Str}{cap:List (Option Nat)}{scope:Scope}{C:Addr}{s2 s4:Shared}{H2:Hp}{fp:List Addr}{pins:List (Addr×Obj)}{σ:St}
theorem CellScope.clos(S:CellScope y N' cap X.N X.env.scope scope)(I:Inv X pins σ H2 s2):∀ x∈scope.names,x.2 = .free->∃ c,X.env.cells.lookup x.1=some c :=
 fun x hx hf=>I.ok.has x.1 (S.fre x hx hf)
theorem csC_sound(S:CellScope y N' cap X.N X.env.scope scope)(I:Inv X pins σ H2 s2){x:Str}{c:Addr}(e:((y,C+1) :: closCl X.env.cells scope.names []).lookup x=some c):(x=y/\c=C+1)\/X.env.cells.lookup x=some c:=by
 rw[List.lookup_cons]at e
 by_cases z:(x == y)=true
 ·rw[z]at e
  exact .inl ⟨by simpa using z,by cases e;rfl⟩
 ·rw[Bool.eq_false_iff.mpr z]at e
  exact .inr (closCl_sound _ _ (S.clos I) (fun y c e=>by simp at e) x c e)
theorem csC_old(I:Inv X pins σ H2 s2){x:Str}{c:Addr}(hC:s2.heap.objs.size<=C)(e:X.env.cells.lookup x=some c):c≠C+1:=fun z=>by
 obtain⟨v,q⟩:=I.cell x c e
 have h1:=q.lt
 rw[z]at h1
 exact absurd h1 (Nat.not_lt.mpr (Nat.le_succ_of_le hC))
theorem cxIc_ok(S:CellScope y N' cap X.N X.env.scope scope)(I:Inv X pins σ H2 s2)(hC:s2.heap.objs.size<=C)(hfp:∀ b∈fp,FpOk X pins H2 b)(hfo:∀ b∈fp,∃ o,s2.heap.get? b=some o):(cxIc X y N' scope C s2 H2 fp).Ok where
 mod:=I.ok.mod
 kind:=S.kind
 glob:=I.ok.glob
 blt:=I.ok.blt
 above:=hC
 inj:=fun x z c e1 e2=>by
  rcases csC_sound S I e1 with⟨a1,b1⟩ | a1 <;> rcases csC_sound S I e2 with⟨a2,b2⟩ | a2
  ·rw[a1,a2]
  ·exact absurd b1 (csC_old I hC a2)
  ·exact absurd b2 (csC_old I hC a1)
  ·exact I.ok.inj x z c a1 a2
 has:=fun x h=>by
  have key:∀ k,(x,k)∈scope.names->(k = .cell\/k = .free)->∃ c,((y,C+1) :: closCl X.env.cells scope.names []).lookup x=some c:=fun k hk hc=>by
   rw[List.lookup_cons]
   by_cases z:(x == y)=true
   ·rw[z];exact⟨_,rfl⟩
   ·rw[Bool.eq_false_iff.mpr z]
    rcases hc with e | e
    ·subst e;exact absurd (by simpa using S.only _ hk rfl) z
    ·subst e;exact closCl_has _ _ x hk
  rcases h with h | h
  ·obtain⟨k,hk,e |⟨e,_⟩⟩:=relabel_mem (scope:=scope) (l:=scope.names) h
   ·exact key k hk (.inl e)
   ·exact key k hk (.inr e)
  ·obtain⟨k,hk,e |⟨_,e⟩⟩:=relabel_mem (scope:=scope) (l:=scope.names) h
   ·exact key k hk (.inr e)
   ·cases e
 cab:=fun x c h e=>by
  have h:x=y:=of_decide_eq_true h
  rcases csC_sound S I e with⟨_,b1⟩ | a1
  ·rw[b1];exact Nat.le_succ_of_le hC
  ·subst h
   have e:((x,C+1) :: closCl X.env.cells scope.names []).lookup x=some c:=e
   rw[List.lookup_cons,beq_self_eq_true]at e
   cases e
   exact Nat.le_succ_of_le hC
 hd:=I.ok.hd
 frames:=I.ok.frames
 stk:=.inl rfl
 exf:=fun b hb=>⟨fun z=>by
   obtain⟨o,ho⟩:=hfo b hb
   have h1:=Nat.lt_of_lt_of_le (Heap.lt_size ho) hC
   have z:b=C:=z
   rw[z]at h1
   exact Nat.lt_irrefl _ h1,fun x c e=>by
   rcases csC_sound S I e with⟨_,b1⟩ | a1
   ·obtain⟨o,ho⟩:=hfo b hb
    have h1:=Nat.lt_of_lt_of_le (Heap.lt_size ho) hC
    intro z
    rw[<- z,b1]at h1
    exact absurd h1 (Nat.not_lt.mpr (Nat.le_succ _))
   ·exact(hfp b hb).2.2.2.2.1 x c a1⟩
 bs:=I.bs
 bsz:=Nat.le_trans I.ok.bsz I.sz
 noex:=fun b o e hb=>by
  rcases(hfp b hb).2.2.2.1 with z | z
  ·exact I.ok.noex b o e z
  ·exact absurd (Nat.lt_of_lt_of_le (Heap.lt_size e) (Nat.le_trans I.ok.bsz z)) (Nat.lt_irrefl _)
 exfs:=fun b hb z=>by
  rcases List.mem_cons.mp (I.stkSub b z)with e | e
  ·exact(hfp b hb).2.1 e
  ·exact(hfp b hb).2.2.1 e
 funs:=I.stack
 frf:=I.stkFree
theorem cxIc_inv(S:CellScope y N' cap X.N X.env.scope scope)(I:Inv X pins σ H2 s2)(hC:s2.heap.objs.size<=C)(hfp:∀ b∈fp,FpOk X pins H2 b)(hfo:∀ b∈fp,∃ o,s2.heap.get? b=some o)
  (ho:s4.os=s2.os) (hg:s4.gens=s2.gens) (k:∀ b o,s2.heap.get? b=some o->s4.heap.get? b=some o) {m:Str->Option Value} (hn:s4.heap.Ns C m) {D:Addr}{oD:Obj}
  (hD:s4.heap.get? D=some oD) (hDs:s2.heap.objs.size<=D) (hDC:D≠C) (hDc:∀ v,oD.data≠.cell v) (hcl:s4.heap.IsCell (C+1) none) :
  Inv (cxIc X y N' scope C s2 H2 fp) (pins++[(D,oD)]) (capt cap σ) H2 s4 where
 ok:=cxIc_ok S I hC hfp hfo
 os:=ho
 bare:=by rw[hg];exact I.bare
 base:=Un.kept k
 loc:=by
  refine⟨m,hn,fun j x v e1 e2 _=>?_⟩
  have hj:j<cap.length:=by rw[S.len];exact(List.getElem?_eq_some_iff.mp e1).1
  have e1:N'[j]?=some x:=e1
  have hc:=S.cap j (List.mem_range.mpr hj)
  unfold capt at e2
  rw[List.getElem?_map]at e2
  cases hq:cap[j]? with
  |none=>rw[hq]at e2;cases e2
  |some o =>
   rw[hq]at e2 hc
   cases o with
   |none=>cases e2
   |some i =>
    simp only[e1]at hc
    obtain⟨hN,hfr⟩:=hc
    have e3:σ[i]?=some (some v):=by
     have e2:(σ[i]?).join=some v:=Option.some.inj e2
     cases hs:σ[i]? with
     |none=>rw[hs]at e2;cases e2
     |some w=>rw[hs]at e2;have e2:w=some v:=e2;rw[e2]
    have hm:=lookup_mem hfr
    have hk:=S.fre _ hm rfl
    obtain⟨m0,hn0,hl0⟩:=I.loc
    obtain⟨u,r,l⟩:=hl0 i x v hN e3 (.inr hk)
    refine⟨u,r,?_⟩
    rcases l with⟨l,_⟩ |⟨_,c,e,z⟩
    ·rcases hk with hk | hk
     ·rw[show X.env.kindOf x=some .cell from hk]at l;cases l
     ·rw[show X.env.kindOf x=some .free from hk]at l;cases l
    ·obtain⟨c',hc'⟩:=closCl_has (cells:=X.env.cells) scope.names [] x hm
     have hs:=closCl_sound scope.names [] (S.clos I) (fun y c e=>by simp at e) x c' hc'
     rw[e]at hs
     cases hs
     have ny:(x == y)=false:=Bool.eq_false_iff.mpr fun z=>by
      have z:x=y:=by simpa using z
      rw[z,S.own]at hfr
      cases hfr
     refine .inr ⟨relabel_free hfr,c,(by show((y,C+1) :: closCl X.env.cells scope.names []).lookup x=some c;rw[List.lookup_cons,ny];exact hc'),?_⟩
     obtain⟨oc,ho',hd'⟩:=z
     exact⟨oc,k _ _ ho',hd'⟩
 cell:=fun x c e=>by
  rcases csC_sound S I e with⟨_,b1⟩ | a1
  ·rw[b1];exact⟨none,hcl⟩
  ·obtain⟨v,oc,ho',hd'⟩:=I.cell x c a1
   exact⟨v,oc,k _ _ ho',hd'⟩
 free:=I.hok.fresh hC
 freeC:=fun x c e=>by
  rcases csC_sound S I e with⟨_,b1⟩ | a1
  ·rw[b1];exact I.hok.fresh (Nat.le_succ_of_le hC)
  ·exact I.freeC x c a1
 pin:=fun p hp=>by
  have hp:p∈X.pn++(pins++[(D,oD)]):=hp
  have cne:∀ b o,s2.heap.get? b=some o->b≠C:=fun b o e z=>by
   have h1:=Nat.lt_of_lt_of_le (Heap.lt_size e) hC
   rw[z]at h1
   exact Nat.lt_irrefl _ h1
  rw[<- List.append_assoc]at hp
  rcases List.mem_append.mp hp with hp | hp
  ·obtain⟨e,n,ne,nf,d⟩:=I.pin p hp
   exact⟨k _ _ e,n,cne _ _ e,fun z=>by
    rcases List.mem_cons.mp (I.stkSub p.1 z)with e | e
    ·exact ne e
    ·exact nf e,d⟩
  ·have e:p=(D,oD):=by simpa using hp
   subst e
   refine⟨hD,I.hok.fresh hDs,hDC,fun z=>?_,hDc⟩
   rcases List.mem_cons.mp (I.stkSub D z)with e | e
   ·have h1:=Nat.lt_of_lt_of_le I.lt hDs
    rw[e]at h1
    exact Nat.lt_irrefl _ h1
   ·exact I.nofs hDs e
 hok:=I.hok.kept k
 len:=by unfold capt;rw[List.length_map];exact S.len
end
section
variable{X:Cx}{y:Str}{elt tg iter:Expr}{ifs:List Expr}{scope:Scope}{pos:Pos}{N':List Str}{cap:List (Option Nat)}{wi:TI}{g:TG}{tc:TT}{te:TE}
theorem comp_runC(hc:X.calm=true)(S:CellScope y N' cap X.N X.env.scope scope)(hi:PI X tg iter wi)(hg:∀ C s H fp,PG (cxIc X y N' scope C s H fp) tg g)
  (ht:∀ C s H fp,PF (cxIc X y N' scope C s H fp) ifs tc) (he:∀ C s H fp,PE (cxIc X y N' scope C s H fp) elt te)
  {pins:List (Addr×Obj)}{s:Shared}{σ:St}{H:Hp}{Q:VK} (I:Inv X pins σ H s) (h:tComp cap wi g tc te σ H Q) :
  wpAny (model X.prog X.w) X.A (eval iter X.env) (fun x s₁=>wpAny (model X.prog X.w) X.A (pyIter x) (fun it s₂=>wpAny (model X.prog X.w) X.A (newList []) (fun acc s₃ =>
   wpAny (model X.prog X.w) X.A (newFunctionEnv scope X.env.globals (closCl X.env.cells scope.names []) [] X.env.qual none .none (some X.env)) (fun cenv s₄ =>
    codeAny (model X.prog X.w) X.A (.compStart (.ListComp elt [⟨tg,iter,ifs,0⟩] scope pos) 0 it acc { cenv with scope:=relabel scope X.env }) (CompEnd X pins σ Q acc cenv.locals) s₄) X.xe s₃) X.xe s₂) X.xe s₁) X.xe s:=by
 refine thn (hi pins s σ H _ I h) fun v s1 h1=>thn h1 fun itv s2 h2=>?_
 obtain⟨it,fp,tn,J,H2,e,I2,T,st2,f2,n,P,hn,p0,turn⟩:=h2
 subst e
 refine wpAny_newObj_type (newEnv_cell S.one S.push ?_)
 dsimp only
 generalize hHp:s2.heap.push { cls:=.type "list",dict:=none,data:=.seq ([]:List Value).toArray } = Hq
 generalize hh1:(Hq.push { cls:=.type "dict",data:=.dict #[] }).push { cls:=.type "cell",data:=.cell none } = h₁
 have hns₁:h₁.Ns Hq.objs.size fun _=>none:=by rw[<- hh1];exact(Heap.Ns.new Hq (.type "dict")).keeps fun b o e=>Heap.get?_push_of_some _ e
 have hcl₁:h₁.IsCell (Hq.objs.size+1) none:=by
  have e:(Hq.push { cls:=.type "dict",data:=.dict #[] }).objs.size=Hq.objs.size+1:=Heap.size_push ..
  rw[<- hh1,<- e]
  exact⟨_,Heap.get?_push_size _ rfl,rfl⟩
 have up₁:∀ b o,Hq.get? b=some o->h₁.get? b=some o:=fun b o e=>by rw[<- hh1];exact Heap.get?_push_of_some _ (Heap.get?_push_of_some _ e)
 have hC:Hq.objs.size=s2.heap.objs.size+1:=by rw[<- hHp,Heap.size_push]
 have hDC:s2.heap.objs.size≠Hq.objs.size:=by rw[hC];exact Nat.ne_of_lt (Nat.lt_succ_self _)
 have hCle:s2.heap.objs.size<=Hq.objs.size:=by rw[hC];exact Nat.le_succ _
 have old:∀ b o,s2.heap.get? b=some o->h₁.get? b=some o:=fun b o e=>up₁ b o (hHp▸Heap.get?_push_of_some _ e)
 have hacc:h₁.PlainList s2.heap.objs.size #[]:=⟨_,up₁ _ _ (hHp▸Heap.get?_push_size _ rfl)⟩
 have hfo:∀ b∈fp,∃ o,s2.heap.get? b=some o:=fun b hb=>let ⟨o,e,_⟩:=T.obj _ _ st2 b hb;⟨o,e⟩
 have st4:tn 0 h₁:=T.keep _ _ _ st2 fun b _ o e=>old b o e
 let D:Addr:=s2.heap.objs.size
 let C:Addr:=Hq.objs.size
 let Y:Cx:=cxIc X y N' scope C s2 H2 fp
 have hDfp:D∉fp:=fun hb=>by
  obtain⟨o,e⟩:=hfo D hb
  exact Nat.lt_irrefl _ (Heap.lt_size e)
 -- the iterator's objects,seen from within
 have stat:∀ {H':Hp}{oD:Obj},(∀ b∈fp,H' b=none)->∀ b∈fp,FpOk Y (pins++[(D,oD)]) H' b:=fun {H' oD} hn b hb=>by
  obtain⟨f0,f1,fx,f3,f4,f5⟩:=f2 b hb
  obtain⟨o,e⟩:=hfo b hb
  refine⟨hn b hb,fun z=>?_,fun z=>?_,.inl hb,fun x c e=>by
   rcases csC_sound S I2 e with⟨_,b1⟩ | a1
   ·obtain⟨o,ho⟩:=hfo b hb
    have h1:=Nat.lt_of_lt_of_le (Heap.lt_size ho) hCle
    intro z
    rw[<- z,b1]at h1
    exact absurd h1 (Nat.not_lt.mpr (Nat.le_succ _))
   ·exact f4 x c a1,fun p hp=>?_⟩
  ·have h1:=Nat.lt_of_lt_of_le (Heap.lt_size e) hCle
   have z:b=Hq.objs.size:=z
   rw[z]at h1
   exact Nat.lt_irrefl _ h1
  ·rcases List.mem_cons.mp (I2.stkSub b z)with e | e
   ·exact f1 e
   ·exact fx e
  ·have hp:p∈X.pn++(pins++[(D,oD)]):=hp
   rw[<- List.append_assoc]at hp
   rcases List.mem_append.mp hp with hp | hp
   ·exact f5 p hp
   ·have q:p=(D,oD):=by simpa using hp
    subst q
    exact fun z=>hDfp (by rw[show D=b from z];exact hb)
 have loop:∀ s₃:Shared,s₃ = { s2 with heap:=h₁,toks:=s2.toks } ->
   codeAny (model X.prog X.w) X.A (.compLoop (.ListComp elt [⟨tg,iter,ifs,0⟩] scope pos) 0 (.ref it) (.ref s2.heap.objs.size) (compEnvC scope ((y,Hq.objs.size+1) :: closCl X.env.cells scope.names []) Hq.objs.size X.env))
    (CompEnd X pins σ Q (.ref s2.heap.objs.size) Hq.objs.size) s₃:=by
  rintro s₃ rfl
  have cellD:∀ x c,Y.env.cells.lookup x=some c->c≠D:=fun x c e z=>by
   have z:c=s2.heap.objs.size:=z
   rcases csC_sound S I2 e with⟨_,b1⟩ | a1
   ·have b1:c=Hq.objs.size+1:=b1
    rw[z,hC]at b1
    exact absurd b1 (Nat.ne_of_lt (Nat.lt_succ_of_lt (Nat.lt_succ_self _)))
   ·obtain⟨v,q⟩:=I2.cell x c a1
    have h1:=q.lt
    rw[z]at h1
    exact Nat.lt_irrefl _ h1
  have pinD:∀ p∈X.pn++pins,p.1≠D:=fun p hp z=>by
   have h1:=Heap.lt_size (I2.pin p hp).1
   rw[show p.1=s2.heap.objs.size from z]at h1
   exact Nat.lt_irrefl _ h1
  have inD:∀ {pl:List (Addr×Obj)}{oD:Obj},(D,oD)∈Y.pn++((pins++[(D,oD)])++pl):=fun {pl oD}=>List.mem_append_right _ (List.mem_append_left _ (List.mem_append_right _ (by simp)))
  have inF:∀ {pl:List (Addr×Obj)}{oD:Obj}{p:Addr×Obj},p∈pl->p∈Y.pn++((pins++[(D,oD)])++pl):=fun {pl oD p} hp=>List.mem_append_right _ (List.mem_append_right _ hp)
  refine codeAny_compLoop_any (fun m s'=>∃ i ys H' its ep,m=n-i/\i<=n/\ys.length<=i/\Vals ys its/\Inv Y (pins++[(D,{ cls:=.type "list",data:=.seq its.toArray ep })]) (capt cap σ) H' s'/\tn i s'.heap/\(∀ b∈fp,H' b=none)/\P i ys H') ?_ n ?_
  ·rintro m s3 ⟨i,ys,H3,its,ep,rfl,hin,hyl,rv,I3,st3,fr3,p3⟩
   rcases turn i ys H3 hyl hin p3 with⟨stop,q⟩ |⟨hlt,go,step⟩
   ·refine thn (T.done Y rfl rfl rfl hc i _ s3 _ H3 (fun _ _=>False) I3 (stat fr3) st3 stop) fun r s4 ⟨hr,I4⟩=>?_
    subst hr
    obtain⟨eD,nD,_⟩:=I4.pin (D,{ cls:=.type "list",data:=.seq its.toArray ep }) (List.mem_append_right _ (List.mem_append_right _ (by simp)))
    have nD:H3 D=none:=nD
    have okn:ObjOk X.prog X.w (upd H3 D (.lst ys)) s4.heap D (.lst ys):=⟨Nat.le_trans hyl (Nat.le_trans hin hn),its,ep,rv,eD⟩
    have hok:HOk X.prog X.w (upd H3 D (.lst ys)) s4.heap:=fun b u e=>by
     by_cases hb:b=D
     ·subst hb;rw[upd_same]at e;cases e;exact okn
     ·rw[upd_ne hb]at e
      exact(I4.hok b u e).stay (fun c v _ q=>q) (fun c q=>by rw[upd_ne (ne_of_none q nD)];exact q) fun c xs q=>by rw[upd_ne (ne_of_none q nD)];exact q
    have B:=I4.base
    have u:Un (frs X.stack) fp H2 (upd H3 D (.lst ys)) s2.heap s4.heap :=
     ⟨B.keep,B.slot,fun b o e n hx=>by rw[upd_ne (Nat.ne_of_lt (Heap.lt_size e))];exact B.free b o e n hx,B.there,fun b xs e=>by rw[upd_ne (ne_of_none (B.tups b xs e) nD)];exact B.tups b xs e,
      fun b o xs e=>by rw[upd_ne (ne_of_none (B.frzs b o xs e) nD)];exact B.frzs b o xs e,fun b ps e=>by
       obtain⟨more,z⟩:=B.tbls b ps e
       exact⟨more,by rw[upd_ne (ne_of_none z nD)];exact z⟩⟩
    have IX:Inv X pins σ (upd H3 D (.lst ys)) s4:=I2.call' (ch:=fp) I4.os u hok I4.bare fun b hb=>by
     obtain⟨f0,f1,fx,f3,f4,f5⟩:=f2 b hb
     exact⟨f3,f1,f4,f5⟩
    have nC:(upd H3 D (.lst ys)) Hq.objs.size=none:=by rw[upd_ne (Ne.symm hDC)];exact I4.free
    obtain⟨m',hm',_⟩:=I4.loc
    exact⟨.ref D,_,IX,rfl,q D nD,⟨m',hm'⟩,I2.fpOk hCle nC⟩
   ·refine thn (T.item Y rfl rfl rfl hc i _ s3 _ H3 (fun _ _=>False) I3 (stat fr3) st3 go) fun r s4 ⟨u,hr,h4⟩=>?_
    subst hr
    refine thn h4 fun _ s5 ⟨x,H5,I5,r5,y5,st5,fr5⟩=>?_
    have I5':=I5.pinned (stat fr5) (T.obj _ _ st5)
    refine thn (hg C s2 H2 fp _ s5 _ H5 x u _ I5' r5 (step x H5 y5)) fun _ s6 ⟨σ6,H6,I6,kp,q6⟩=>?_
    refine thn (ht C s2 H2 fp _ s6 σ6 H6 _ I6 q6) fun b s7 ⟨H7,I7,q7⟩=>?_
    cases b with
    |false =>
     rw[if_neg Bool.false_ne_true]at q7 ⊢
     refine⟨n-(i+1),Nat.sub_succ_lt_self n i hlt,i+1,ys,H7,its,ep,rfl,hlt,Nat.le_succ_of_le hyl,rv,I7.unpinned.weak kp.length kp.get,?_,fun b hb=>?_,q7⟩
     ·exact T.keep _ _ _ st5 fun b hb o e=>(I7.pin (b,o) (inF (mem_pinsAt hb e))).1
     ·obtain⟨o,e,d⟩:=T.obj _ _ st5 b hb
      exact(I7.pin (b,o) (inF (mem_pinsAt hb e))).2.1
    |true =>
     rw[if_pos rfl]at q7 ⊢
     refine thn (he C s2 H2 fp _ s7 σ6 H7 _ I7 q7) fun yv s8 ⟨y,H8,I8,r8,q8⟩=>?_
     obtain⟨eD,nD,_⟩:=I8.pin (D,{ cls:=.type "list",data:=.seq its.toArray ep }) inD
     have hsz:its.toArray.size<=sizeLine:=by
      rw[List.size_toArray,<- rv.length]
      exact Nat.le_trans hyl (Nat.le_trans hin hn)
     refine wpAny_list_append_plain (items:=its.toArray) ⟨ep,eD⟩ (fun h9 pl9 sb9=>?_) hsz
     obtain⟨ep',e9⟩:=pl9
     have e9:h9.get? D=some { cls:=.type "list",data:=.seq (its++[yv]).toArray ep' }:=by rw[e9];simp
     have Ia:Inv Y pins σ6 H8 s8:=I8.pins_of fun p hp=>I8.pin p (List.mem_append_right _ (List.mem_append_left _ (List.mem_append_left _ hp)))
     have Ib:Inv Y pins σ6 H8 { s8 with heap:=h9 }:=Ia.turned (it:=D) (t':=s8.toks) (fun b o hb e=>(sb9.2 b hb).trans e) nD hDC (.inr (Nat.le_refl _)) cellD pinD
     have Ic:Inv Y (pins++[(D,{ cls:=.type "list",data:=.seq (its++[yv]).toArray ep' })]) σ6 H8 { s8 with heap:=h9 }:=Ib.pins_of fun p hp=>by
      rcases List.mem_append.mp hp with hp | hp
      ·exact Ib.pin p (List.mem_append_right _ hp)
      ·have q:p=(D,{ cls:=.type "list",data:=.seq (its++[yv]).toArray ep' }):=by simpa using hp
       subst q
       obtain⟨_,_,z1,z2,_⟩:=I8.pin (D,{ cls:=.type "list",data:=.seq its.toArray ep }) inD
       exact⟨e9,nD,z1,z2,fun v z=>by cases z⟩
     refine⟨n-(i+1),Nat.sub_succ_lt_self n i hlt,i+1,ys++[y],H8,its++[yv],ep',rfl,hlt,by simp;omega,Vals.append rv (.cons r8 .nil),Ic.weak kp.length kp.get,?_,fun b hb=>?_,q8⟩
     ·exact T.keep _ _ _ st5 fun b hb o e=>sb9.extBut b o (fun z=>hDfp (by rw[show D=b from Eq.symm z];exact hb)) (I8.pin (b,o) (inF (mem_pinsAt hb e))).1
     ·obtain⟨o,e,d⟩:=T.obj _ _ st5 b hb
      exact(I8.pin (b,o) (inF (mem_pinsAt hb e))).2.1
  ·obtain⟨ep,e⟩:=hacc
   refine⟨0,[],H2,[],ep,rfl,Nat.zero_le _,Nat.le_refl _,.nil,?_,st4,fun b hb=>(f2 b hb).1,p0⟩
   exact cxIc_inv (s4:={ s2 with heap:=h₁,toks:=s2.toks }) S I2 hCle f2 hfo rfl rfl old hns₁ e (Nat.le_refl _) hDC (fun v z=>by cases z) hcl₁
 exact codeAny_compStart_list (loop _ rfl) (T.self X.A 0 _ _ _ st4 (loop _ rfl))
theorem pe_compC(hc:X.calm=true)(S:CellScope y N' cap X.N X.env.scope scope)(hi:PI X tg iter wi)(hg:∀ C s H fp,PG (cxIc X y N' scope C s H fp) tg g)
  (ht:∀ C s H fp,PF (cxIc X y N' scope C s H fp) ifs tc) (he:∀ C s H fp,PE (cxIc X y N' scope C s H fp) elt te)
  (hs:∀ x,foldedSetIterable iter X.env x=pure x:=by intro _;rfl):PE X (.ListComp elt [⟨tg,iter,ifs,0⟩] scope pos) (tComp cap wi g tc te):=by
 intro pins s σ H Q I h
 rw[eval_ListComp]
 refine wpAny_comprehension_free (use:=none) rfl hs (closureFor_cells (S.clos I)) S.kind S.loc (thn (comp_runC (pos:=pos) hc S hi hg ht he I h) fun x s1 h1=>thn h1 fun it s2 h2=>thn h2 fun acc s3 h3=>thn h3 fun cenv s4 h4=>?_)
 refine codeAny_mono h4 fun r s' hr=>?_
 cases r with
 |error x=>exact hr.elim
 |ok f =>
  obtain⟨v,H',I',rv,q,⟨m,hn⟩,f0,f1,f2,f3,f4,f5⟩:=hr
  refine⟨m,hn,fun h' sb=>⟨v,H',I'.turned (it:=cenv.locals) (t':=s'.toks) (fun b o hb e=>(sb.2 b hb).trans e) f0 f1 f3 f4 f5,rv,q⟩⟩
end
open PySem PySem.W PyProof.Rows
theorem Paired.atV{F:V->Dt->Prop}{xs:List V}{ds:List Dt}(h:Paired F xs ds){j:Nat}(h1:j<xs.length)(h2:j<ds.length):F xs[j] ds[j]:=Paired.at h j h1 h2
theorem eq_same{X:Cx}{pins:List (Addr×Obj)}{σ:St}{H:Hp}{s:Shared}(I:Inv X pins σ H s):∀ {n:Nat}{A:Around}{x y:V}{d:Dt}{u v:Value},Dat H n x d->Dat H n y d->RelV x u->RelV y v->A.units+n<cLine->SeqAt.EqAt A s u v true:=by
 have flat:∀ {A:Around}{x y:V}{d:Dt}{u v:Value},Dat H 0 x d->Dat H 0 y d->RelV x u->RelV y v->SeqAt.EqAt A s u v true:=by
  intro A x y d u v hx hy ru rv
  cases d with
  |non=>have ex:x = .non:=hx;have ey:y = .non:=hy;subst ex ey;cases ru;cases rv;exact SeqAt.EqAt.same _
  |bl b=>have ex:x = .bl b:=hx;have ey:y = .bl b:=hy;subst ex ey;cases ru;cases rv;exact SeqAt.EqAt.same _
  |int i =>
   have ex:x = .int i:=hx
   have ey:y = .int i:=hy
   subst ex ey
   obtain⟨t,rfl⟩:=ru
   obtain⟨t',rfl⟩:=rv
   have:=SeqAt.EqAt.int_int (A:=A) (s:=s) i t i t'
   rwa [beq_self_eq_true]at this
  |str z =>
   have ex:x = .str z:=hx
   have ey:y = .str z:=hy
   subst ex ey
   obtain⟨t,rfl⟩:=ru
   obtain⟨t',rfl⟩:=rv
   have:=SeqAt.EqAt.str_str (A:=A) (s:=s) z t z t'
   rwa [beq_self_eq_true]at this
  |lst ds=>exact(show False from hx).elim
  |tup ds=>exact(show False from hx).elim
 intro n
 induction n with
 |zero=>intro A x y d u v hx hy ru rv _;exact flat hx hy ru rv
 |succ n ih =>
  intro A x y d u v hx hy ru rv hu
  cases d with
  |non=>exact flat (d:=.non) hx hy ru rv
  |bl b=>exact flat (d:=.bl b) hx hy ru rv
  |int i=>exact flat (d:=.int i) hx hy ru rv
  |str z=>exact flat (d:=.str z) hx hy ru rv
  |lst ds =>
   obtain⟨a,xs,rfl,xl,ha,px⟩:=hx
   obtain⟨b,ys,rfl,yl,hb,py⟩:=hy
   cases ru
   cases rv
   by_cases e:a=b
   ·subst e;exact SeqAt.EqAt.same _
   ·obtain⟨its,r,pl,hz⟩:=I.list (SqL.of ha)
    obtain⟨its',r',pl',hz'⟩:=I.list (SqL.of hb)
    have l1:=r.length
    have l2:=r'.length
    have l3:xs.length=ds.length:=Paired.length px
    have l4:ys.length=ds.length:=Paired.length py
    have key:=SeqAt.RcAt.lists (A:=A) (e:=fun _=>true) pl.isList pl'.isList (by simp only[List.size_toArray];lia) (by lia) (fun j h1 h2=>by
     simp only[List.size_toArray]at h1 h2
     have jx:j<xs.length:=by lia
     have jy:j<ys.length:=by lia
     obtain⟨u,e1,q1⟩:=r.get (i:=j) (x:=xs[j]) (List.getElem?_eq_getElem jx)
     obtain⟨u',e2,q2⟩:=r'.get (i:=j) (x:=ys[j]) (List.getElem?_eq_getElem jy)
     rw[List.getElem?_eq_getElem h1]at e1
     rw[List.getElem?_eq_getElem h2]at e2
     have e1:=Option.some.inj e1
     have e2:=Option.some.inj e2
     simp only[List.getElem_toArray]
     rw[e1,e2]
     exact ih (A:=A.in1) (d:=ds[j]'(by lia)) (Paired.atV px jx (by lia)) (Paired.atV py jy (by lia)) q1 q2 (by show A.units+1+n<cLine;lia))
    have t:(List.range its.toArray.size).all (fun _=>true)=true:=by simp
    rw[t]at key
    exact SeqAt.EqAt.of_refs e key
  |tup ds =>
   obtain⟨a,xs,rfl,xl,ha,px⟩:=hx
   obtain⟨b,ys,rfl,yl,hb,py⟩:=hy
   cases ru
   cases rv
   by_cases e:a=b
   ·subst e;exact SeqAt.EqAt.same _
   ·obtain⟨its,r,pl,hz⟩:=I.tuple (SqT.of ha)
    obtain⟨its',r',pl',hz'⟩:=I.tuple (SqT.of hb)
    have l1:=r.length
    have l2:=r'.length
    have l3:xs.length=ds.length:=Paired.length px
    have l4:ys.length=ds.length:=Paired.length py
    have key:=SeqAt.RcAt.tuples (A:=A) (e:=fun _=>true) pl pl' (by lia) (fun j h1 h2=>by
     simp only[List.size_toArray]at h1 h2
     have jx:j<xs.length:=by lia
     have jy:j<ys.length:=by lia
     obtain⟨u,e1,q1⟩:=r.get (i:=j) (x:=xs[j]) (List.getElem?_eq_getElem jx)
     obtain⟨u',e2,q2⟩:=r'.get (i:=j) (x:=ys[j]) (List.getElem?_eq_getElem jy)
     rw[List.getElem?_eq_getElem h1]at e1
     rw[List.getElem?_eq_getElem h2]at e2
     have e1:=Option.some.inj e1
     have e2:=Option.some.inj e2
     simp only[List.getElem_toArray]
     rw[e1,e2]
     exact ih (A:=A.in1) (d:=ds[j]'(by lia)) (Paired.atV px jx (by lia)) (Paired.atV py jy (by lia)) q1 q2 (by show A.units+1+n<cLine;lia))
    have t:((List.range (min its.toArray.size its'.toArray.size)).all (fun _=>true) && its.toArray.size == its'.toArray.size)=true:=by
     simp only[List.size_toArray]
     rw[show its.length=its'.length by lia]
     simp
    rw[t]at key
    exact SeqAt.EqAt.of_refs e key
noncomputable def seqD:Dt->Bool
 | .lst _=>true
 | .tup _=>true
 | _=>false
noncomputable def rSame(b:Bool):R2:=fun x y H Q=>∃ n d,Dat H (n+1) x d/\Dat H (n+1) y d/\seqD d=true/\n<=50/\Q (.bl b) H
section
variable{X:Cx}
theorem items_same{pins:List (Addr×Obj)}{σ:St}{H:Hp}{s:Shared}(I:Inv X pins σ H s){n:Nat}{A:Around}{xs ys:List V}{ds:List Dt}{us vs:List Value}(px:Paired (Dat H n) xs ds)(py:Paired (Dat H n) ys ds)(r:Vals xs us)(r':Vals ys vs)(hu:A.units+n<cLine) :
  ∀ j (h1:j<us.toArray.size) (h2:j<vs.toArray.size),SeqAt.EqAt A s us.toArray[j] vs.toArray[j] true:=fun j h1 h2=>by
 have l1:=r.length
 have l2:=r'.length
 have l3:xs.length=ds.length:=Paired.length px
 have l4:ys.length=ds.length:=Paired.length py
 simp only[List.size_toArray]at h1 h2
 have jx:j<xs.length:=by lia
 have jy:j<ys.length:=by lia
 obtain⟨u,e1,q1⟩:=r.get (i:=j) (x:=xs[j]) (List.getElem?_eq_getElem jx)
 obtain⟨u',e2,q2⟩:=r'.get (i:=j) (x:=ys[j]) (List.getElem?_eq_getElem jy)
 rw[List.getElem?_eq_getElem h1]at e1
 rw[List.getElem?_eq_getElem h2]at e2
 have e1:=Option.some.inj e1
 have e2:=Option.some.inj e2
 simp only[List.getElem_toArray]
 rw[e1,e2]
 exact eq_same I (d:=ds[j]'(by lia)) (Paired.atV px jx (by lia)) (Paired.atV py jy (by lia)) q1 q2 hu
theorem op_neS(hu:X.A.units+64<cLine):OpR X (compareOp .NotEq) (rSame false):=by
 intro pins s σ H x y v u Q I rx ry h
 obtain⟨n,d,hx,hy,sd,hn,q⟩:=h
 have fin:EP X pins σ Q (.bool false) s:=⟨.bl false,H,I,rfl,q⟩
 cases d with
 |lst ds =>
  obtain⟨a,xs,rfl,xl,ha,px⟩:=hx
  obtain⟨b,ys,rfl,yl,hb,py⟩:=hy
  cases rx
  cases ry
  obtain⟨its,r,pl,hz⟩:=I.list (SqL.of ha)
  obtain⟨its',r',pl',hz'⟩:=I.list (SqL.of hb)
  have l1:=r.length
  have l2:=r'.length
  have l3:xs.length=ds.length:=Paired.length px
  have l4:ys.length=ds.length:=Paired.length py
  refine SeqAt.RcNeAt.lists (e:=fun _=>true) pl.isList pl'.isList (by simp only[List.size_toArray];lia) (by lia) (items_same I px py r r' (by show X.A.units+1+n<cLine;lia)) _ _ _ _ ?_
  rw[show(!(List.range its.toArray.size).all (fun _=>true))=false by simp]
  exact fin
 |tup ds =>
  obtain⟨a,xs,rfl,xl,ha,px⟩:=hx
  obtain⟨b,ys,rfl,yl,hb,py⟩:=hy
  cases rx
  cases ry
  obtain⟨its,r,pl,hz⟩:=I.tuple (SqT.of ha)
  obtain⟨its',r',pl',hz'⟩:=I.tuple (SqT.of hb)
  have l1:=r.length
  have l2:=r'.length
  have l3:xs.length=ds.length:=Paired.length px
  have l4:ys.length=ds.length:=Paired.length py
  refine SeqAt.RcNeAt.tuples (e:=fun _=>true) pl pl' (by lia) (items_same I px py r r' (by show X.A.units+1+n<cLine;lia)) _ _ _ _ ?_
  rw[show(!((List.range (min its.toArray.size its'.toArray.size)).all (fun _=>true) && its.toArray.size == its'.toArray.size))=false by simp only[List.size_toArray];rw[show its.length=its'.length by lia];simp]
  exact fin
 |non=>cases sd
 |bl b=>cases sd
 |int i=>cases sd
 |str z=>cases sd
end
theorem dat_ints{H:Hp}{a:Addr}{ns:List Int}(n:Nat)(h:H a=some (.lst (ns.map V.int)))(l:ns.length<=1000):Dat H (n+1) (.ref a) (.lst (ns.map Dt.int)):=by
 refine⟨a,_,rfl,by rw[List.length_map];exact l,h,?_⟩
 clear h l
 induction ns with
 |nil=>exact .nil
 |cons x r ih=>refine .cons ?_ ih;cases n <;> rfl
open PySem PySem.Spec PyProof.Rows
section
variable{X:Cx}{elt tg iter:Expr}{ifs:List Expr}{scope:Scope}{pos:Pos}{y:Str}{N':List Str}{cap:List (Option Nat)}{wi:TI}{g:TG}{tc:TT}{te:TE}
theorem call_sortedIH:CallR X (.builtin "sorted") (fun xs H Q=>∃ (l:Addr) (ns:List Int),xs=[V.ref l]/\H l=some (.lst (ns.map V.int))/\ns.length<128/\∀ (l':Addr) (ms:List Int),H l'=none->ms.Perm ns->ms.Pairwise (·<=·)->Q (.ref l') (upd H l' (.lst (ms.map V.int)))):=by
 intro pins s σ H xs us Q I r h
 obtain⟨p,ys,rfl,hp,n0,q⟩:=h
 exact call_sortedI pins s σ H _ us Q I r ⟨p,ys,rfl,SqL.of hp,n0,q⟩
end
end L2
namespace Flw
noncomputable abbrev Tie:=Int×Int×Int
noncomputable abbrev Arc:=Int×Int×Int
noncomputable abbrev Tr:=List (Int×Option (Int×Int×Int))
noncomputable def TOk(n:Nat)(x:Tie):Prop:=0<=x.1/\x.1<x.2.1/\x.2.1<n/\1<=x.2.2
noncomputable def arcsFrom:Nat->List Tie->Int->List Arc
 | _,[],_=>[]
 |i,x :: r,v=>(if v=x.1 then [((i:Int),x.2.1,1)]else [])++((if v=x.2.1 then [((i:Int),x.1,-1)]else [])++arcsFrom (i+1) r v)
noncomputable def arcAt(ties:List Tie)(v:Int):List Arc:=arcsFrom 0 ties v
theorem arcsFrom_app(v:Int):∀ (l1:List Tie) (i:Nat) (l2:List Tie),arcsFrom i (l1++l2) v=arcsFrom i l1 v++arcsFrom (i+l1.length) l2 v
 |[],i,l2=>rfl
 |x :: r,i,l2=>by
  show(if v=x.1 then [((i:Int),x.2.1,(1:Int))]else [])++((if v=x.2.1 then [((i:Int),x.1,(-1:Int))]else [])++arcsFrom (i+1) (r++l2) v)=((if v=x.1 then [((i:Int),x.2.1,(1:Int))]else [])++((if v=x.2.1 then [((i:Int),x.1,(-1:Int))]else [])++arcsFrom (i+1) r v))++_
  rw[arcsFrom_app v r (i+1) l2,List.append_assoc,List.append_assoc,List.length_cons,show i+1+r.length=i+(r.length+1) by lia]
theorem arcAt_snoc(ties:List Tie)(x:Tie)(v:Int):arcAt (ties++[x]) v=(arcAt ties v++if v=x.1 then [((ties.length:Int),x.2.1,1)]else [])++if v=x.2.1 then [((ties.length:Int),x.1,-1)]else []:=by
 unfold arcAt
 rw[arcsFrom_app]
 show _++(_++(_++[]))=_
 rw[List.append_nil,Nat.zero_add,List.append_assoc]
theorem arcsFrom_len(v:Int):∀ (l:List Tie) (i:Nat),(arcsFrom i l v).length<=2 * l.length
 |[],i=>by simp[arcsFrom]
 |x :: r,i=>by
  unfold arcsFrom
  have:=arcsFrom_len v r (i+1)
  rw[List.length_append,List.length_append,List.length_cons]
  have h1:(if v=x.1 then [((i:Int),x.2.1,(1:Int))]else []).length<=1:=by split <;> simp
  have h2:(if v=x.2.1 then [((i:Int),x.1,(-1:Int))]else []).length<=1:=by split <;> simp
  lia
theorem mem_arcs(v:Int)(y:Arc):∀ (l:List Tie) (i:Nat),y∈arcsFrom i l v↔∃ (j:Nat) (h:j<l.length),y.1=((i+j:Nat):Int)/\((v=l[j].1/\y.2=(l[j].2.1,1))\/(v=l[j].2.1/\y.2=(l[j].1,-1)))
 |[],i=>by simp[arcsFrom]
 |x :: r,i=>by
  unfold arcsFrom
  rw[List.mem_append,List.mem_append,mem_arcs v y r (i+1)]
  obtain⟨y1,y2⟩:=y
  constructor
  ·rintro(h | h |⟨j,h,e,q⟩)
   ·split at h
    ·rw[List.mem_singleton]at h
     injection h with h1 h2
     exact⟨0,by simp,by simpa using h1,.inl ⟨by simpa,by simpa using h2⟩⟩
    ·cases h
   ·split at h
    ·rw[List.mem_singleton]at h
     injection h with h1 h2
     exact⟨0,by simp,by simpa using h1,.inr ⟨by simpa,by simpa using h2⟩⟩
    ·cases h
   ·exact⟨j+1,by simpa using h,by rw[e];congr 1;lia,by simpa using q⟩
  ·rintro⟨j,h,e,q⟩
   cases j with
   |zero =>
    have e:y1=(i:Int):=by simpa using e
    rcases q with⟨q1,q2⟩ |⟨q1,q2⟩
    ·have q1:v=x.1:=q1
     have q2:y2=(x.2.1,1):=q2
     exact .inl (by rw[if_pos q1,e,q2];exact List.mem_singleton.mpr rfl)
    ·have q1:v=x.2.1:=q1
     have q2:y2=(x.1,-1):=q2
     exact .inr (.inl (by rw[if_pos q1,e,q2];exact List.mem_singleton.mpr rfl))
   |succ j =>
    refine .inr (.inr ⟨j,by simpa using h,?_,by simpa using q⟩)
    rw[e]
    congr 1
    lia
theorem mem_arc{ties:List Tie}{v:Int}{y:Arc}:y∈arcAt ties v↔∃ (j:Nat) (h:j<ties.length),y.1=(j:Int)/\((v=ties[j].1/\y.2=(ties[j].2.1,1))\/(v=ties[j].2.1/\y.2=(ties[j].1,-1))):=by
 unfold arcAt
 rw[mem_arcs]
 simp only[Nat.zero_add]
noncomputable def aAt(am:List Int)(i:Int):Int:=am.getD i.toNat 0
noncomputable def wAt(ties:List Tie)(i:Int):Int:=(ties.getD i.toNat (0,0,0)).2.2
noncomputable def room(ties:List Tie)(am:List Int)(turn:Int)(x:Arc):Int:=wAt ties x.1-turn * x.2.2 * aAt am x.1
noncomputable def keys(tr:Tr):List Int:=tr.map (·.1)
noncomputable def addA(ties:List Tie)(am:List Int)(turn pl:Int)(tr:Tr)(x:Arc):Tr:=if x.2.1∉keys tr/\0<room ties am turn x then tr++[(x.2.1,some (pl,x.1,x.2.2))]else tr
noncomputable def visit(ties:List Tie)(am:List Int)(turn pl:Int)(tr:Tr)(xs:List Arc):Tr:=xs.foldl (addA ties am turn pl) tr
noncomputable def bfs(ties:List Tie)(am:List Int)(turn:Int):Nat->Nat->Tr->Tr
 | 0,_,tr=>tr
 |f+1,met,tr=>match tr[met]? with
  |none=>tr
  |some x=>bfs ties am turn f (met+1) (visit ties am turn x.1 tr (arcAt ties x.1))
noncomputable def begin_(S:List Int):Tr:=S.map fun s=>(s,none)
noncomputable def trails(n:Nat)(ties:List Tie)(am:List Int)(turn:Int)(S:List Int):Tr:=bfs ties am turn n 0 (begin_ S)
theorem keys_begin(S:List Int):keys (begin_ S)=S:=by unfold keys begin_;rw[List.map_map];exact List.map_id _
theorem keys_app(a b:Tr):keys (a++b)=keys a++keys b:=List.map_append
inductive TrOk(ties:List Tie)(am:List Int)(turn:Int)(S:List Int):Tr->Prop
 |nil:TrOk ties am turn S []
 |start {tr s}:TrOk ties am turn S tr->s∈S->s∉keys tr->TrOk ties am turn S (tr++[(s,none)])
 |step {tr p x}:TrOk ties am turn S tr->p∈keys tr->x∈arcAt ties p->0<room ties am turn x->x.2.1∉keys tr->TrOk ties am turn S (tr++[(x.2.1,some (p,x.1,x.2.2))])
section
variable{n:Nat}{ties:List Tie}{am:List Int}{turn:Int}{S:List Int}{tr:Tr}
theorem TrOk.nd(h:TrOk ties am turn S tr):(keys tr).Nodup:=by
 induction h with
 |nil=>exact List.nodup_nil
 | @start tr s h m no ih =>
  rw[keys_app,List.nodup_append]
  exact⟨ih,by simp[keys],fun a ha b hb e=>by simp[keys]at hb;subst hb;subst e;exact no ha⟩
 | @step tr p x h m a r no ih =>
  rw[keys_app,List.nodup_append]
  exact⟨ih,by simp[keys],fun a ha b hb e=>by simp[keys]at hb;subst hb;subst e;exact no ha⟩
theorem far_ok(ok:∀ x∈ties,TOk n x){p:Int}{x:Arc}(h:x∈arcAt ties p):0<=x.2.1/\x.2.1<n:=by
 obtain⟨j,hj,e,q⟩:=mem_arc.mp h
 obtain⟨o1,o2,o3,o4⟩:=ok _ (List.getElem_mem hj)
 rcases q with⟨_,q⟩ |⟨_,q⟩
 ·rw[q];exact⟨by show 0<=ties[j].2.1;lia,o3⟩
 ·rw[q];exact⟨o1,by show ties[j].1<n;lia⟩
theorem TrOk.rng(h:TrOk ties am turn S tr)(ok:∀ x∈ties,TOk n x)(hS:∀ s∈S,0<=s/\s<n):∀ k∈keys tr,0<=k/\k<n:=by
 induction h with
 |nil=>intro k hk;cases hk
 | @start tr s h m no ih =>
  intro k hk
  rw[keys_app]at hk
  rcases List.mem_append.mp hk with hk | hk
  ·exact ih k hk
  ·simp[keys]at hk;subst hk;exact hS _ m
 | @step tr p x h m a r no ih =>
  intro k hk
  rw[keys_app]at hk
  rcases List.mem_append.mp hk with hk | hk
  ·exact ih k hk
  ·simp[keys]at hk;subst hk;exact far_ok ok a
theorem nodup_len:∀ {n:Nat}{l:List Int},l.Nodup->(∀ k∈l,0<=k/\k<n)->l.length<=n
 | 0,[],_,_=>Nat.le_refl _
 | 0,x :: r,_,h=>by have:=h x (List.mem_cons_self ..);lia
 |n+1,l,nd,h=>by
  have h1:(l.erase (n:Int)).length<=n:=nodup_len (nd.erase _) fun k hk=>by
   have k1:=(nd.mem_erase_iff.mp hk)
   have:=h k k1.2
   have:=k1.1
   lia
  have:l.length<=(l.erase (n:Int)).length+1:=by
   rw[List.length_erase]
   split <;> lia
  lia
theorem TrOk.len(h:TrOk ties am turn S tr)(ok:∀ x∈ties,TOk n x)(hS:∀ s∈S,0<=s/\s<n):tr.length<=n:=by
 have:=nodup_len h.nd (h.rng ok hS)
 unfold keys at this
 rwa [List.length_map]at this
theorem trOk_begin(nd:S.Nodup):TrOk ties am turn S (begin_ S):=by
 have gen:∀ (l1 l2:List Int),l1++l2=S->TrOk ties am turn S (begin_ l1)->TrOk ties am turn S (begin_ S):=by
  intro l1 l2
  induction l2 generalizing l1 with
  |nil=>intro e h;rw[List.append_nil]at e;subst e;exact h
  |cons x r ih =>
   intro e h
   refine ih (l1++[x]) (by rw[List.append_assoc];exact e) ?_
   have:begin_ (l1++[x])=begin_ l1++[(x,none)]:=by unfold begin_;rw[List.map_append];rfl
   rw[this]
   refine .start h (by rw[<- e];simp) ?_
   rw[keys_begin]
   intro hx
   rw[<- e,List.nodup_append]at nd
   exact nd.2.2 x hx x (List.mem_cons_self ..) rfl
 exact gen [] S rfl .nil
theorem trOk_add{pl:Int}{x:Arc}(h:TrOk ties am turn S tr)(hp:pl∈keys tr)(hx:x∈arcAt ties pl):TrOk ties am turn S (addA ties am turn pl tr x):=by
 unfold addA
 split
 ·rename_i c
  exact .step h hp hx c.2 c.1
 ·exact h
theorem add_keys{pl:Int}{x:Arc}:∃ l,addA ties am turn pl tr x=tr++l:=by
 unfold addA
 split
 ·exact⟨_,rfl⟩
 ·exact⟨[],(List.append_nil _).symm⟩
theorem add_far{pl:Int}{x:Arc}(h:0<room ties am turn x):x.2.1∈keys (addA ties am turn pl tr x):=by
 unfold addA
 split
 ·rw[keys_app];exact List.mem_append_right _ (by simp[keys])
 ·rename_i c
  exact Decidable.byContradiction fun z=>c ⟨z,h⟩
theorem visit_ok{pl:Int}:∀ {xs:List Arc}{tr:Tr},TrOk ties am turn S tr->pl∈keys tr->(∀ x∈xs,x∈arcAt ties pl)->TrOk ties am turn S (visit ties am turn pl tr xs)/\(∃ l,visit ties am turn pl tr xs=tr++l)/\∀ x∈xs,0<room ties am turn x->x.2.1∈keys (visit ties am turn pl tr xs)
 |[],tr,h,hp,hx=>⟨h,⟨[],(List.append_nil _).symm⟩,fun _ z=>nomatch z⟩
 |x :: xs,tr,h,hp,hx=>by
  obtain⟨l,el⟩:=add_keys (ties:=ties) (am:=am) (turn:=turn) (tr:=tr) (pl:=pl) (x:=x)
  have h1:=trOk_add h hp (hx x (List.mem_cons_self ..))
  have hp1:pl∈keys (addA ties am turn pl tr x):=by rw[el,keys_app];exact List.mem_append_left _ hp
  obtain⟨a1,⟨l2,a2⟩,a3⟩:=visit_ok (xs:=xs) h1 hp1 fun y hy=>hx y (List.mem_cons_of_mem _ hy)
  refine⟨a1,⟨l++l2,by show visit ties am turn pl (addA ties am turn pl tr x) xs=_;rw[a2,el,List.append_assoc]⟩,fun y hy r=>?_⟩
  rcases List.mem_cons.mp hy with e | e
  ·subst e
   show y.2.1∈keys (visit ties am turn pl (addA ties am turn pl tr y) xs)
   rw[a2,keys_app]
   exact List.mem_append_left _ (add_far r)
  ·exact a3 y e r
noncomputable def Clo(ties:List Tie)(am:List Int)(turn:Int)(tr:Tr):Prop:=∀ p∈keys tr,∀ x∈arcAt ties p,0<room ties am turn x->x.2.1∈keys tr
noncomputable def CloTo(ties:List Tie)(am:List Int)(turn:Int)(tr:Tr)(m:Nat):Prop:=∀ i p,i<m->(keys tr)[i]?=some p->∀ x∈arcAt ties p,0<room ties am turn x->x.2.1∈keys tr
theorem bfs_ok(ok:∀ x∈ties,TOk n x)(hS:∀ s∈S,0<=s/\s<n):∀ {f met:Nat}{tr:Tr},TrOk ties am turn S tr->CloTo ties am turn tr met->n<=f+met->TrOk ties am turn S (bfs ties am turn f met tr)/\(∃ l,bfs ties am turn f met tr=tr++l)/\Clo ties am turn (bfs ties am turn f met tr)
 | 0,met,tr,h,c,hn=>by
  refine⟨h,⟨[],(List.append_nil _).symm⟩,fun p hp=>?_⟩
  have hp:p∈keys tr:=hp
  obtain⟨i,hi,e⟩:=List.getElem_of_mem hp
  have:=h.len ok hS
  have li:i<tr.length:=by unfold keys at hi;rwa [List.length_map]at hi
  exact c i p (by lia) (by rw[List.getElem?_eq_getElem hi,e])
 |f+1,met,tr,h,c,hn=>by
  unfold bfs
  cases e:tr[met]? with
  |none =>
   refine⟨h,⟨[],(List.append_nil _).symm⟩,fun p hp=>?_⟩
   obtain⟨i,hi,e'⟩:=List.getElem_of_mem hp
   have li:i<tr.length:=by unfold keys at hi;rwa [List.length_map]at hi
   rw[List.getElem?_eq_none_iff]at e
   exact c i p (by lia) (by rw[List.getElem?_eq_getElem hi,e'])
  |some x =>
   obtain⟨hm,ex⟩:=List.getElem?_eq_some_iff.mp e
   have hx:x.1∈keys tr:=List.mem_map.mpr ⟨x,by rw[<- ex];exact List.getElem_mem hm,rfl⟩
   obtain⟨a1,⟨l,a2⟩,a3⟩:=visit_ok (xs:=arcAt ties x.1) h hx fun y hy=>hy
   have c1:CloTo ties am turn (visit ties am turn x.1 tr (arcAt ties x.1)) (met+1):=by
    intro i p hi ep y hy r
    by_cases im:i=met
    ·subst im
     rw[a2,keys_app]at ep
     have ep:p=x.1:=by
      rw[List.getElem?_append_left (by unfold keys;rw[List.length_map];exact hm)]at ep
      unfold keys at ep
      rw[List.getElem?_map,e]at ep
      exact(Option.some.inj ep).symm
     subst ep
     exact a3 y hy r
    ·rw[a2,keys_app]at ep ⊢
     have hl:i <(keys tr).length:=by unfold keys;rw[List.length_map];lia
     rw[List.getElem?_append_left hl]at ep
     exact List.mem_append_left _ (c i p (by lia) ep y hy r)
   obtain⟨b1,⟨l2,b2⟩,b3⟩:=bfs_ok ok hS (f:=f) a1 c1 (by lia)
   exact⟨b1,⟨l++l2,by show bfs ties am turn f (met+1) (visit ties am turn x.1 tr (arcAt ties x.1))=_;rw[b2,a2,List.append_assoc]⟩,b3⟩
theorem trails_ok(ok:∀ x∈ties,TOk n x)(hS:∀ s∈S,0<=s/\s<n)(nd:S.Nodup):TrOk ties am turn S (trails n ties am turn S)/\(∀ s∈S,s∈keys (trails n ties am turn S))/\Clo ties am turn (trails n ties am turn S):=by
 obtain⟨a,⟨l,b⟩,c⟩:=bfs_ok (am:=am) (turn:=turn) ok hS (met:=0) (trOk_begin nd) (fun i p hi=>absurd hi (Nat.not_lt_zero _)) (Nat.le_refl n)
 refine⟨a,fun s hs=>?_,c⟩
 show s∈keys (bfs ties am turn n 0 (begin_ S))
 rw[b,keys_app,keys_begin]
 exact List.mem_append_left _ hs
noncomputable def wayR:Tr->Int->List (Int×Int)
 |[],_=>[]
 |(k,o) :: r,e=>if e=k then(match o with
  |none=>[]
  |some (p,t,s)=>(t,s) :: wayR r p)else wayR r e
noncomputable def way(tr:Tr)(e:Int):List (Int×Int):=wayR tr.reverse e
theorem way_snoc(tr:Tr)(k e:Int)(o:Option (Int×Int×Int)):way (tr++[(k,o)]) e=if e=k then(match o with | none=>[] | some (p,t,s)=>(t,s) :: way tr p)else way tr e:=by
 unfold way
 rw[List.reverse_append]
 rfl
theorem wayR_len:∀ (l:Tr) (e:Int),(wayR l e).length<=l.length
 |[],_=>Nat.le_refl _
 |(k,o) :: r,e=>by
  unfold wayR
  split
  ·cases o with
   |none=>exact Nat.zero_le _
   |some q=>obtain⟨p,t,s⟩:=q;have:=wayR_len r p;simp;omega
  ·have:=wayR_len r e;simp;lia
theorem way_len(tr:Tr)(e:Int):(way tr e).length<=tr.length:=by
 have:=wayR_len tr.reverse e
 rwa [List.length_reverse]at this
theorem TrOk.par(h:TrOk ties am turn S tr):∀ e p t s,(e,some (p,t,s))∈tr->p∈keys tr:=by
 induction h with
 |nil=>intro e p t s h;cases h
 | @start tr s h m no ih =>
  intro e p t s' hm
  rw[keys_app]
  rcases List.mem_append.mp hm with hm | hm
  ·exact List.mem_append_left _ (ih e p t s' hm)
  ·rw[List.mem_singleton]at hm;injection hm with h1 h2;cases h2
 | @step tr p' x h m a r no ih =>
  intro e p t s' hm
  rw[keys_app]
  rcases List.mem_append.mp hm with hm | hm
  ·exact List.mem_append_left _ (ih e p t s' hm)
  ·rw[List.mem_singleton]at hm;injection hm with h1 h2;injection h2 with h2;injection h2 with h2 h3;subst h2
   exact List.mem_append_left _ m
theorem mem_keys{e:Int}{o:Option (Int×Int×Int)}(h:(e,o)∈tr):e∈keys tr:=List.mem_map.mpr ⟨_,h,rfl⟩
theorem way_eq(h:TrOk ties am turn S tr):∀ e o,(e,o)∈tr->way tr e=match o with
  |none=>[]
  |some (p,t,s)=>(t,s) :: way tr p:=by
 induction h with
 |nil=>intro e o h;cases h
 | @start tr s h m no ih =>
  intro e o hm
  rw[way_snoc]
  rcases List.mem_append.mp hm with hm | hm
  ·rw[if_neg fun z=>no (by rw[<- z];exact mem_keys hm),ih e o hm]
   cases o with
   |none=>rfl
   |some q =>
    obtain⟨p,t,s'⟩:=q
    dsimp only
    rw[way_snoc,if_neg fun z=>no (by rw[<- z];exact h.par e p t s' hm)]
  ·rw[List.mem_singleton]at hm;injection hm with h1 h2;subst h1 h2
   rw[if_pos rfl]
 | @step tr p' x h m a r no ih =>
  intro e o hm
  rw[way_snoc]
  rcases List.mem_append.mp hm with hm | hm
  ·rw[if_neg fun z=>no (by rw[<- z];exact mem_keys hm),ih e o hm]
   cases o with
   |none=>rfl
   |some q =>
    obtain⟨p,t,s'⟩:=q
    dsimp only
    rw[way_snoc,if_neg fun z=>no (by rw[<- z];exact h.par e p t s' hm)]
  ·rw[List.mem_singleton]at hm;injection hm with h1 h2;subst h1 h2
   rw[if_pos rfl]
   dsimp only
   rw[way_snoc,if_neg fun z=>no (by rw[<- z];exact m)]
theorem aAt_nat(am:List Int)(j:Nat):aAt am (j:Int)=am.getD j 0:=rfl
theorem wAt_nat{j:Nat}(h:j<ties.length):wAt ties (j:Int)=ties[j].2.2:=by
 unfold wAt
 rw[Int.toNat_natCast,List.getD_eq_getElem?_getD,List.getElem?_eq_getElem h]
 rfl
structure StepOk(ties:List Tie)(am:List Int)(tr:Tr)(x:Int×Int):Prop where
 ex:∃ (j:Nat) (h:j<ties.length),x.1=(j:Int)/\(x.2=1\/x.2 = -1)/\0<wAt ties x.1-x.2 * aAt am x.1/\ties[j].1∈keys tr/\ties[j].2.1∈keys tr
theorem StepOk.more{x:Int×Int}{l:Tr}(h:StepOk ties am tr x):StepOk ties am (tr++l) x:=by
 obtain⟨j,hj,e,a,b,c,d⟩:=h.ex
 exact⟨j,hj,e,a,b,by rw[keys_app];exact List.mem_append_left _ c,by rw[keys_app];exact List.mem_append_left _ d⟩
theorem way_ok(h:TrOk ties am 1 S tr):∀ e∈keys tr,(∀ x∈way tr e,StepOk ties am tr x)/\((way tr e).map (·.1)).Nodup:=by
 induction h with
 |nil=>intro e h;cases h
 | @start tr s h m no ih =>
  intro e he
  rw[way_snoc]
  by_cases z:e=s
  ·rw[if_pos z]
   exact⟨fun _ h=>(nomatch h),List.nodup_nil⟩
  ·rw[if_neg z]
   rw[keys_app]at he
   have he:e∈keys tr:=by
    rcases List.mem_append.mp he with h | h
    ·exact h
    ·simp[keys]at h;exact absurd h z
   obtain⟨a,b⟩:=ih e he
   exact⟨fun x hx=>(a x hx).more,b⟩
 | @step tr p x h m ar r no ih =>
  intro e he
  rw[way_snoc]
  by_cases z:e=x.2.1
  ·rw[if_pos z]
   dsimp only
   obtain⟨a,b⟩:=ih p m
   obtain⟨j,hj,ej,q⟩:=mem_arc.mp ar
   have kf:x.2.1∈keys (tr++[(x.2.1,some (p,x.1,x.2.2))]):=by rw[keys_app];exact List.mem_append_right _ (by simp[keys])
   have kp:p∈keys (tr++[(x.2.1,some (p,x.1,x.2.2))]):=by rw[keys_app];exact List.mem_append_left _ m
   have so:StepOk ties am (tr++[(x.2.1,some (p,x.1,x.2.2))]) (x.1,x.2.2):=by
    unfold room at r
    rw[Int.one_mul]at r
    rcases q with⟨q1,q2⟩ |⟨q1,q2⟩
    ·exact⟨j,hj,ej,.inl (by rw[q2]),r,by rw[<- q1];exact kp,by rw[show ties[j].2.1=x.2.1 by rw[q2]];exact kf⟩
    ·exact⟨j,hj,ej,.inr (by rw[q2]),r,by rw[show ties[j].1=x.2.1 by rw[q2]];exact kf,by rw[<- q1];exact kp⟩
   refine⟨fun y hy=>?_,?_⟩
   ·rcases List.mem_cons.mp hy with e | hy
    ·rw[e];exact so
    ·exact(a y hy).more
   ·rw[List.map_cons,List.nodup_cons]
    refine⟨fun hx=>?_,b⟩
    obtain⟨y,hy,ey⟩:=List.mem_map.mp hx
    obtain⟨j',hj',e',_,_,c,d⟩:=(a y hy).ex
    have:j'=j:=by
     have:(j':Int)=(j:Int):=by rw[<- e',ey,<- ej]
     lia
    subst this
    rcases q with⟨q1,q2⟩ |⟨q1,q2⟩
    ·exact no (by rw[q2];exact d)
    ·exact no (by rw[q2];exact c)
  ·rw[if_neg z]
   rw[keys_app]at he
   have he:e∈keys tr:=by
    rcases List.mem_append.mp he with h | h
    ·exact h
    ·simp[keys]at h;exact absurd h z
   obtain⟨a,b⟩:=ih e he
   exact⟨fun x hx=>(a x hx).more,b⟩
noncomputable def netT(x:Tie)(m v:Int):Int:=(if v=x.1 then m else 0)-(if v=x.2.1 then m else 0)
noncomputable def net:List Tie->List Int->Int->Int
 |x :: r,m :: ms,v=>netT x m v+net r ms v
 | _,_,_=>0
theorem netT_add(x:Tie)(m d v:Int):netT x (m+d) v=netT x m v+netT x d v:=by
 unfold netT
 split <;> split <;> lia
theorem net_set:∀ {ties:List Tie}{am:List Int}{j:Nat}{d v:Int} (h:j<ties.length),am.length=ties.length->net ties (am.set j (am.getD j 0+d)) v=net ties am v+netT ties[j] d v
 |x :: r,m :: ms,0,d,v,h,e=>by
  show netT x (m+d) v+net r ms v=netT x m v+net r ms v+netT x d v
  rw[netT_add]
  lia
 |x :: r,m :: ms,j+1,d,v,h,e=>by
  have:=net_set (ties:=r) (am:=ms) (j:=j) (d:=d) (v:=v) (by simpa using h) (by simpa using e)
  have hj:j<r.length:=by simpa using h
  show netT x m v+net r (ms.set j (ms.getD j 0+d)) v=netT x m v+net r ms v+netT r[j] d v
  rw[this]
  lia
noncomputable def push1(m:Int)(am:List Int)(x:Int×Int):List Int:=am.set x.1.toNat (aAt am x.1+x.2 * m)
noncomputable def pushA(m:Int)(am:List Int)(w:List (Int×Int)):List Int:=w.foldl (push1 m) am
theorem push_len(m:Int):∀ (w:List (Int×Int)) (am:List Int),(pushA m am w).length=am.length
 |[],am=>rfl
 |x :: r,am=>(push_len m r (push1 m am x)).trans (by unfold push1;rw[List.length_set])
theorem way_net(h:TrOk ties am turn S tr):∀ e∈keys tr,∃ s0∈S,∀ (am':List Int) (m v:Int),am'.length=ties.length->net ties (pushA m am' (way tr e)) v=net ties am' v+((if v=s0 then m else 0)-(if v=e then m else 0)):=by
 induction h with
 |nil=>intro e h;cases h
 | @start tr s h m no ih =>
  intro e he
  by_cases z:e=s
  ·refine⟨s,m,fun am' m v l=>?_⟩
   rw[way_snoc,if_pos z,z]
   show net ties am' v=_
   lia
  ·rw[keys_app]at he
   have he:e∈keys tr:=by
    rcases List.mem_append.mp he with h | h
    ·exact h
    ·simp[keys]at h;exact absurd h z
   rw[way_snoc,if_neg z]
   exact ih e he
 | @step tr p x h m ar r no ih =>
  intro e he
  by_cases z:e=x.2.1
  ·obtain⟨s0,hs,q⟩:=ih p m
   refine⟨s0,hs,fun am' m v l=>?_⟩
   rw[way_snoc,if_pos z]
   show net ties (pushA m (push1 m am' (x.1,x.2.2)) (way tr p)) v=_
   rw[q _ m v (by unfold push1;rw[List.length_set];exact l)]
   obtain⟨j,hj,ej,c⟩:=mem_arc.mp ar
   have:net ties (push1 m am' (x.1,x.2.2)) v=net ties am' v+((if v=p then m else 0)-(if v=e then m else 0)):=by
    unfold push1
    dsimp only
    rw[ej,aAt_nat,Int.toNat_natCast,net_set hj l]
    congr 1
    unfold netT
    rcases c with⟨c1,c2⟩ |⟨c1,c2⟩
    ·rw[<- c1,z,c2,Int.one_mul]
    ·rw[<- c1,z,c2]
     dsimp only
     split <;> split <;> lia
   rw[this]
   lia
  ·rw[keys_app]at he
   have he:e∈keys tr:=by
    rcases List.mem_append.mp he with h | h
    ·exact h
    ·simp[keys]at h;exact absurd h z
   rw[way_snoc,if_neg z]
   exact ih e he
structure AmOk(ties:List Tie)(am:List Int):Prop where
 len:am.length=ties.length
 cap:∀ (j:Nat) (h:j<ties.length),-ties[j].2.2<=am.getD j 0/\am.getD j 0<=ties[j].2.2
theorem push1_get{m:Int}{am:List Int}{x:Int×Int}{i j:Nat}(e:x.1=(i:Int))(hi:i<am.length):(push1 m am x).getD j 0=if j=i then am.getD j 0+x.2 * m else am.getD j 0:=by
 unfold push1
 rw[e,aAt_nat,Int.toNat_natCast,List.getD_eq_getElem?_getD,List.getElem?_set]
 by_cases z:j=i
 ·subst z
  rw[if_pos rfl,if_pos rfl,if_pos hi]
  rfl
 ·rw[if_neg (fun w=>z w.symm),if_neg z,<- List.getD_eq_getElem?_getD]
theorem push_ok{m:Int}(m0:0<=m):∀ {w:List (Int×Int)}{am:List Int},AmOk ties am->(w.map (·.1)).Nodup->(∀ x∈w,∃ (j:Nat) (h:j<ties.length),x.1=(j:Int)/\(x.2=1\/x.2 = -1)/\m<=ties[j].2.2-x.2 * am.getD j 0)->AmOk ties (pushA m am w)
 |[],am,h,_,_=>h
 |x :: w,am,h,nd,hx=>by
  obtain⟨j,hj,ej,sg,rm⟩:=hx x (List.mem_cons_self ..)
  have hl:=h.len
  rw[List.map_cons,List.nodup_cons]at nd
  refine push_ok m0 (w:=w) (am:=push1 m am x) ⟨by unfold push1;rw[List.length_set];exact h.len,fun i hi=>?_⟩ nd.2 fun y hy=>?_
  ·rw[push1_get ej (by lia)]
   have c:=h.cap i hi
   split
   ·rename_i z
    subst z
    rcases sg with s | s
    ·rw[s]at rm ⊢;omega
    ·rw[s]at rm ⊢;lia
   ·exact c
  ·obtain⟨i,hi,ei,sg',rm'⟩:=hx y (List.mem_cons_of_mem _ hy)
   refine⟨i,hi,ei,sg',?_⟩
   rw[push1_get ej (by lia),if_neg]
   ·exact rm'
   ·intro z
    subst z
    exact nd.1 (List.mem_map.mpr ⟨y,hy,by rw[ei,ej]⟩)
noncomputable def minL:List Int->Int
 |[]=>0
 |[x]=>x
 |x :: y :: r=>min x (minL (y :: r))
theorem minL_mem:∀ {l:List Int},l≠[]->minL l∈l/\∀ a∈l,minL l<=a
 |[x],_=>⟨List.mem_singleton.mpr rfl,fun a h=>by rw[List.mem_singleton.mp h];exact Int.le_refl _⟩
 |x :: y :: r,_=>by
  obtain⟨a,b⟩:=minL_mem (l:=y :: r) (by simp)
  show min x (minL (y :: r))∈_/\∀ a∈_,min x (minL (y :: r))<=a
  refine⟨?_,fun z hz=>?_⟩
  ·by_cases h:x<=minL (y :: r)
   ·rw[Int.min_eq_left h];exact List.mem_cons_self ..
   ·rw[Int.min_eq_right (by lia)];exact List.mem_cons_of_mem _ a
  ·rcases List.mem_cons.mp hz with e | e
   ·rw[e];exact Int.min_le_left ..
   ·exact Int.le_trans (Int.min_le_right ..) (b z e)
theorem minL_eq{l:List Int}{m:Int}(h:m∈l)(hm:∀ a∈l,m<=a):m=minL l:=by
 obtain⟨a,b⟩:=minL_mem (l:=l) (fun z=>by rw[z]at h;cases h)
 have:=hm _ a
 have:=b _ h
 lia
noncomputable def rooms(ties:List Tie)(am:List Int)(most:Int)(w:List (Int×Int)):List Int:=most :: w.map fun x=>wAt ties x.1-x.2 * aAt am x.1
noncomputable def more(ties:List Tie)(am:List Int)(most:Int)(w:List (Int×Int)):Int:=minL (rooms ties am most w)
noncomputable def endsOf(tr:Tr)(T:List Int):List Int:=(keys tr).filter fun k=>T.contains k
inductive Sends(n:Nat)(ties:List Tie)(S T:List Int):Int->List Int->List Int->Prop
 |stop {most am}:most<=0->Sends n ties S T most am am
 |none {most am}:0<most->endsOf (trails n ties am 1 S) T=[]->Sends n ties S T most am am
 |push {most am e r am'}:0<most->endsOf (trails n ties am 1 S) T=e :: r->Sends n ties S T (most-more ties am most (way (trails n ties am 1 S) e)) (pushA (more ties am most (way (trails n ties am 1 S) e)) am (way (trails n ties am 1 S) e)) am'->Sends n ties S T most am am'
noncomputable def total(ties:List Tie):Int:=(ties.map fun x=>x.2.2).sum
noncomputable def cross:List Tie->List Int->List Int->Int
 |x :: r,m :: ms,L=>(if x.1∈L then m else 0)-(if x.2.1∈L then m else 0)+cross r ms L
 | _,_,_=>0
theorem sum_add(f g:Int->Int):∀ L:List Int,(L.map fun v=>f v+g v).sum=(L.map f).sum+(L.map g).sum
 |[]=>rfl
 |v :: L=>by
  rw[List.map_cons,List.map_cons,List.map_cons,List.sum_cons,List.sum_cons,List.sum_cons,sum_add f g L]
  lia
theorem sum_zero(L:List Int):(L.map fun _=>(0:Int)).sum=0:=by
 induction L with
 |nil=>rfl
 |cons x r ih=>rw[List.map_cons,List.sum_cons,ih];rfl
theorem sum_pt(a m:Int):∀ {L:List Int},L.Nodup->(L.map fun v=>if v=a then m else 0).sum=if a∈L then m else 0
 |[],_=>rfl
 |v :: L,nd=>by
  rw[List.nodup_cons]at nd
  rw[List.map_cons,List.sum_cons,sum_pt a m nd.2]
  by_cases e:v=a
  ·subst e
   rw[if_pos rfl,if_neg nd.1,if_pos (List.mem_cons_self ..)]
   lia
  ·rw[if_neg e]
   by_cases h:a∈L
   ·rw[if_pos h,if_pos (List.mem_cons_of_mem _ h)];lia
   ·rw[if_neg h,if_neg (by rw[List.mem_cons];rintro(z | z);exact e z.symm;exact h z)];rfl
theorem sum_neg(f:Int->Int):∀ L:List Int,(L.map fun v=>-f v).sum = -(L.map f).sum
 |[]=>rfl
 |v :: L=>by
  rw[List.map_cons,List.map_cons,List.sum_cons,List.sum_cons,sum_neg f L]
  lia
theorem net_cross{L:List Int}(nd:L.Nodup):∀ (ties:List Tie) (am:List Int),(L.map (net ties am)).sum=cross ties am L
 |[],am=>by
  have:(net [] am)=fun _=>0:=by funext v;cases am <;> rfl
  rw[this,sum_zero]
  cases am <;> rfl
 |x :: r,[]=>by
  have:(net (x :: r) [])=fun _=>0:=by funext v;rfl
  rw[this,sum_zero]
  rfl
 |x :: r,m :: ms=>by
  have e:(net (x :: r) (m :: ms))=fun v=>((if v=x.1 then m else 0) + -(if v=x.2.1 then m else 0))+net r ms v:=by
   funext v
   show(if v=x.1 then m else 0)-(if v=x.2.1 then m else 0)+net r ms v=_
   lia
  rw[e,sum_add,sum_add,sum_neg,sum_pt _ _ nd,sum_pt _ _ nd,net_cross nd r ms]
  show _=(if x.1∈L then m else 0)-(if x.2.1∈L then m else 0)+cross r ms L
  lia
noncomputable def sideW(ties:List Tie)(L:List Int):Int:=((ties.filter fun x=>decide (x.1∈L) != decide (x.2.1∈L)).map fun x=>x.2.2).sum
theorem sideW_cons(x:Tie)(r:List Tie)(L:List Int):sideW (x :: r) L=(if(decide (x.1∈L) != decide (x.2.1∈L))=true then x.2.2 else 0)+sideW r L:=by
 unfold sideW
 rw[List.filter_cons]
 split
 ·rw[List.map_cons,List.sum_cons]
 ·lia
theorem AmOk.tail{x:Tie}{r:List Tie}{m:Int}{ms:List Int}(h:AmOk (x :: r) (m :: ms)):(-x.2.2<=m/\m<=x.2.2)/\AmOk r ms :=
 ⟨h.cap 0 (by simp),by have:=h.len;simpa using this,fun j hj=>h.cap (j+1) (by simpa using hj)⟩
theorem cross_le(L:List Int):∀ {ties:List Tie}{am:List Int},AmOk ties am->cross ties am L<=sideW ties L
 |[],am,_=>by cases am <;> exact Int.le_refl _
 |x :: r,[],h=>by have:=h.len;simp at this
 |x :: r,m :: ms,h=>by
  obtain⟨c,t⟩:=h.tail
  have:=cross_le L t
  rw[sideW_cons]
  show(if x.1∈L then m else 0)-(if x.2.1∈L then m else 0)+cross r ms L<=_
  by_cases h1:x.1∈L <;> by_cases h2:x.2.1∈L <;> simp[h1,h2] <;> omega
theorem sideW_le(L:List Int):∀ {ties:List Tie},(∀ x∈ties,0<=x.2.2)->sideW ties L<=total ties
 |[],_=>Int.le_refl _
 |x :: r,h=>by
  rw[sideW_cons]
  have:=sideW_le L (ties:=r) fun y hy=>h y (List.mem_cons_of_mem _ hy)
  have h0:=h x (List.mem_cons_self ..)
  have:total (x :: r)=x.2.2+total r:=by unfold total;rw[List.map_cons,List.sum_cons]
  split <;> lia
theorem cross_full{L:List Int}:∀ {ties:List Tie}{am:List Int},am.length=ties.length->(∀ (j:Nat) (h:j<ties.length),(ties[j].1∈L->ties[j].2.1∉L->am.getD j 0=ties[j].2.2)/\(ties[j].2.1∈L->ties[j].1∉L->am.getD j 0 = -ties[j].2.2))->cross ties am L=sideW ties L
 |[],am,_,_=>by cases am <;> rfl
 |x :: r,[],h,_=>by simp at h
 |x :: r,m :: ms,h,f=>by
  have:=cross_full (L:=L) (ties:=r) (am:=ms) (by simpa using h) fun j hj=>f (j+1) (by simpa using hj)
  rw[sideW_cons]
  show(if x.1∈L then m else 0)-(if x.2.1∈L then m else 0)+cross r ms L=_
  have f0:=f 0 (by simp)
  have f1:x.1∈L->x.2.1∉L->m=x.2.2:=f0.1
  have f2:x.2.1∈L->x.1∉L->m = -x.2.2:=f0.2
  rw[this]
  by_cases h1:x.1∈L <;> by_cases h2:x.2.1∈L <;> simp[h1,h2]
  ·exact f1 h1 h2
  ·have:=f2 h2 h1;lia
theorem perm_sum{a b:List Int}(h:a.Perm b):a.sum=b.sum:=by
 induction h with
 |nil=>rfl
 |cons x _ ih=>rw[List.sum_cons,List.sum_cons,ih]
 |swap x y l=>simp only[List.sum_cons];lia
 |trans _ _ h1 h2=>exact h1.trans h2
theorem sum_sub{f:Int->Int}:∀ {S L:List Int},S.Nodup->L.Nodup->(∀ s∈S,s∈L)->(∀ v∈L,v∉S->f v=0)->(L.map f).sum=(S.map f).sum
 |[],L,_,_,_,z=>by
  have:L.map f=L.map fun _=>0:=List.map_congr_left fun v hv=>z v hv (by simp)
  rw[this,sum_zero]
  rfl
 |s :: S,L,n1,n2,sub,z=>by
  rw[List.nodup_cons]at n1
  have hs:=sub s (List.mem_cons_self ..)
  have pe:(L.map f).sum=((s :: L.erase s).map f).sum:=perm_sum ((List.perm_cons_erase hs).map f)
  rw[pe,List.map_cons,List.map_cons,List.sum_cons,List.sum_cons,sum_sub (S:=S) n1.2 (n2.erase s)]
  ·intro x hx
   exact n2.mem_erase_iff.mpr ⟨fun e=>n1.1 (e▸hx),sub x (List.mem_cons_of_mem _ hx)⟩
  ·intro v hv hn
   obtain⟨h1,h2⟩:=n2.mem_erase_iff.mp hv
   exact z v h2 (by rw[List.mem_cons];rintro(e | e);exact h1 e;exact hn e)
structure Fl(n:Nat)(ties:List Tie)(S T:List Int)(am:List Int):Prop where
 ok:AmOk ties am
 even:∀ v:Int,0<=v->v<n->v∉S->v∉T->net ties am v=0
noncomputable def val(ties:List Tie)(am S:List Int):Int:=(S.map (net ties am)).sum
structure Ends(n:Nat)(S T:List Int):Prop where
 sn:S.Nodup
 tn:T.Nodup
 sr:∀ s∈S,0<=s/\s<n
 tr:∀ s∈T,0<=s/\s<n
 ap:∀ s∈S,s∉T
variable{T:List Int}
theorem val_le(E:Ends n S T)(F:Fl n ties S T am){L:List Int}(nd:L.Nodup)(sub:∀ s∈S,s∈L)(no:∀ v∈L,v∉T)(rg:∀ v∈L,0<=v/\v<n):val ties am S<=sideW ties L:=by
 have:(L.map (net ties am)).sum=val ties am S:=sum_sub E.sn nd sub fun v hv hn=>F.even v (rg v hv).1 (rg v hv).2 hn (no v hv)
 rw[<- this,net_cross nd]
 exact cross_le L F.ok
theorem step_in(ok:∀ x∈ties,TOk n x)(h:TrOk ties am 1 S tr){e:Int}(he:e∈keys tr){m:Int}(hm:∀ x∈way tr e,m<=wAt ties x.1-x.2 * aAt am x.1):∀ x∈way tr e,∃ (j:Nat) (h:j<ties.length),x.1=(j:Int)/\(x.2=1\/x.2 = -1)/\m<=ties[j].2.2-x.2 * am.getD j 0:=fun x hx=>by
 obtain⟨j,hj,ej,sg,_,_,_⟩:=((way_ok h e he).1 x hx).ex
 refine⟨j,hj,ej,sg,?_⟩
 have:=hm x hx
 rw[ej,wAt_nat hj,aAt_nat]at this
 exact this
theorem push_fl(ok:∀ x∈ties,TOk n x)(E:Ends n S T)(h:TrOk ties am 1 S tr)(F:Fl n ties S T am){e:Int}(he:e∈keys tr)(eT:e∈T){m:Int}(m0:0<=m)(hm:∀ x∈way tr e,m<=wAt ties x.1-x.2 * aAt am x.1) :
  Fl n ties S T (pushA m am (way tr e))/\val ties (pushA m am (way tr e)) S=val ties am S+m:=by
 obtain⟨s0,hs,q⟩:=way_net h e he
 have hq:=fun v=>q am m v F.ok.len
 have eS:e∉S:=fun z=>E.ap e z eT
 refine⟨⟨push_ok m0 F.ok (way_ok h e he).2 (step_in ok h he hm),fun v v0 v1 vS vT=>?_⟩,?_⟩
 ·have n1:v≠s0:=fun z=>vS (by rw[z];exact hs)
  have n2:v≠e:=fun z=>vT (by rw[z];exact eT)
  rw[hq v,if_neg n1,if_neg n2,F.even v v0 v1 vS vT]
  rfl
 ·unfold val
  have:S.map (net ties (pushA m am (way tr e)))=S.map fun v=>net ties am v+((if v=s0 then m else 0) + -(if v=e then m else 0)):=List.map_congr_left fun v _=>by
   rw[hq v]
   lia
  rw[this,sum_add,sum_add,sum_neg,sum_pt _ _ E.sn,sum_pt _ _ E.sn,if_pos hs,if_neg eS]
  lia
theorem way_room(h:TrOk ties am 1 S tr){e:Int}(he:e∈keys tr):∀ x∈way tr e,1<=wAt ties x.1-x.2 * aAt am x.1:=fun x hx=>by
 obtain⟨j,hj,ej,sg,r,_⟩:=((way_ok h e he).1 x hx).ex
 lia
theorem more_ok(h:TrOk ties am 1 S tr){e:Int}(he:e∈keys tr){most:Int}(m0:0<most):1<=more ties am most (way tr e)/\more ties am most (way tr e)<=most/\∀ x∈way tr e,more ties am most (way tr e)<=wAt ties x.1-x.2 * aAt am x.1:=by
 obtain⟨a,b⟩:=minL_mem (l:=rooms ties am most (way tr e)) (by unfold rooms;simp)
 refine⟨?_,b _ (List.mem_cons_self ..),fun x hx=>b _ (List.mem_cons_of_mem _ (List.mem_map.mpr ⟨x,hx,rfl⟩))⟩
 show 1<=minL _
 rcases List.mem_cons.mp a with z | z
 ·lia
 ·obtain⟨x,hx,ex⟩:=List.mem_map.mp z
  have:=way_room h he x hx
  omega
theorem mem_ends{tr:Tr}{e:Int}:e∈endsOf tr T↔e∈keys tr/\e∈T:=by
 unfold endsOf
 rw[List.mem_filter,List.contains_iff_mem]
theorem sends_fin(ok:∀ x∈ties,TOk n x)(E:Ends n S T){most:Int}{am am':List Int}(h:Sends n ties S T most am am'):Fl n ties S T am->val ties am S+most=total ties->Fl n ties S T am'/\endsOf (trails n ties am' 1 S) T=[]:=by
 induction h with
 | @stop most am h =>
  intro F ev
  refine⟨F,?_⟩
  cases z:endsOf (trails n ties am 1 S) T with
  |nil=>rfl
  |cons e r =>
   exfalso
   have he:=mem_ends.mp (show e∈endsOf (trails n ties am 1 S) T by rw[z];exact List.mem_cons_self ..)
   have tk:=(trails_ok (am:=am) (turn:=1) ok E.sr E.sn).1
   obtain⟨F',v'⟩:=push_fl ok E tk F he.1 he.2 (m:=1) (by decide) (way_room tk he.1)
   have:=val_le E F' E.sn (fun _ h=>h) E.ap E.sr
   have:=sideW_le S (ties:=ties) fun x hx=>by have:=(ok x hx).2.2.2;lia
   lia
 | @none most am h e=>exact fun F ev=>⟨F,e⟩
 | @push most am e r am' h z _ ih =>
  intro F ev
  have he:=mem_ends.mp (show e∈endsOf (trails n ties am 1 S) T by rw[z];exact List.mem_cons_self ..)
  have tk:=(trails_ok (am:=am) (turn:=1) ok E.sr E.sn).1
  obtain⟨m1,m2,m3⟩:=more_ok tk he.1 h
  obtain⟨F',v'⟩:=push_fl ok E tk F he.1 he.2 (by lia) m3
  exact ih F' (by lia)
theorem net_zero:∀ (ties:List Tie) (k:Nat) (v:Int),net ties (List.replicate k 0) v=0
 |[],k,v=>by cases k <;> rfl
 |x :: r,0,v=>rfl
 |x :: r,k+1,v=>by
  show netT x 0 v+net r (List.replicate k 0) v=0
  rw[net_zero r k v]
  unfold netT
  split <;> split <;> rfl
theorem fl_zero(ok:∀ x∈ties,TOk n x):Fl n ties S T (List.replicate ties.length 0) :=
 ⟨⟨by simp,fun j h=>by
  have:=(ok _ (List.getElem_mem h)).2.2.2
  rw[List.getD_eq_getElem?_getD,List.getElem?_replicate,if_pos h]
  show -ties[j].2.2<=0/\0<=ties[j].2.2
  lia⟩,fun v _ _ _ _=>net_zero _ _ _⟩
theorem val_zero:val ties (List.replicate ties.length 0) S=0:=by
 unfold val
 have:net ties (List.replicate ties.length 0)=fun _=>0:=funext fun v=>net_zero _ _ v
 rw[this,sum_zero]
noncomputable def Great(n:Nat)(ties:List Tie)(S T am:List Int):Prop:=Sends n ties S T (total ties) (List.replicate ties.length 0) am
theorem great_ok(ok:∀ x∈ties,TOk n x)(E:Ends n S T)(G:Great n ties S T am):Fl n ties S T am/\∀ k∈keys (trails n ties am 1 S),k∉T:=by
 obtain⟨F,e⟩:=sends_fin ok E G (fl_zero ok) (by rw[val_zero];lia)
 refine⟨F,fun k hk kT=>?_⟩
 have:=mem_ends.mpr ⟨hk,kT⟩
 rw[e]at this
 cases this
theorem val_side(ok:∀ x∈ties,TOk n x)(E:Ends n S T)(G:Great n ties S T am):val ties am S=sideW ties (keys (trails n ties am 1 S)):=by
 obtain⟨F,no⟩:=great_ok ok E G
 obtain⟨tk,st,cl⟩:=trails_ok (am:=am) (turn:=1) ok E.sr E.sn
 have rg:=tk.rng ok E.sr
 have:((keys (trails n ties am 1 S)).map (net ties am)).sum=val ties am S:=sum_sub E.sn tk.nd st fun v hv hn=>F.even v (rg v hv).1 (rg v hv).2 hn (no v hv)
 rw[<- this,net_cross tk.nd]
 refine cross_full F.ok.len fun j hj=>⟨fun h1 h2=>?_,fun h1 h2=>?_⟩
 ·have:=cl _ h1 ((j:Int),ties[j].2.1,1) (mem_arc.mpr ⟨j,hj,rfl,.inl ⟨rfl,rfl⟩⟩)
  have c:=F.ok.cap j hj
  have r:¬ 0<room ties am 1 ((j:Int),ties[j].2.1,1):=fun z=>h2 (this z)
  unfold room at r
  dsimp only at r
  rw[wAt_nat hj,aAt_nat]at r
  lia
 ·have:=cl _ h1 ((j:Int),ties[j].1,-1) (mem_arc.mpr ⟨j,hj,rfl,.inr ⟨rfl,rfl⟩⟩)
  have c:=F.ok.cap j hj
  have r:¬ 0<room ties am 1 ((j:Int),ties[j].1,-1):=fun z=>h2 (this z)
  unfold room at r
  dsimp only at r
  rw[wAt_nat hj,aAt_nat]at r
  lia
inductive Rch(R:Int->Int->Prop)(S:List Int):Int->Prop
 |base {s}:s∈S->Rch R S s
 |step {p v}:Rch R S p->R p v->Rch R S v
noncomputable def RoomR(ties:List Tie)(am:List Int)(turn:Int)(p v:Int):Prop:=∃ x∈arcAt ties p,0<room ties am turn x/\x.2.1=v
theorem TrOk.rch(h:TrOk ties am turn S tr):∀ k∈keys tr,Rch (RoomR ties am turn) S k:=by
 induction h with
 |nil=>intro k h;cases h
 | @start tr s h m no ih =>
  intro k hk
  rw[keys_app]at hk
  rcases List.mem_append.mp hk with hk | hk
  ·exact ih k hk
  ·simp[keys]at hk;subst hk;exact .base m
 | @step tr p x h m a r no ih =>
  intro k hk
  rw[keys_app]at hk
  rcases List.mem_append.mp hk with hk | hk
  ·exact ih k hk
  ·simp[keys]at hk;subst hk;exact .step (ih p m) ⟨x,a,r,rfl⟩
theorem rch_in{R:Int->Int->Prop}{L:List Int}(hS:∀ s∈S,s∈L)(cl:∀ p v,p∈L->R p v->v∈L){v:Int}(h:Rch R S v):v∈L:=by
 induction h with
 |base h=>exact hS _ h
 |step _ r ih=>exact cl _ _ ih r
theorem met_iff(ok:∀ x∈ties,TOk n x)(hS:∀ s∈S,0<=s/\s<n)(nd:S.Nodup){v:Int}:v∈keys (trails n ties am turn S)↔Rch (RoomR ties am turn) S v:=by
 obtain⟨tk,st,cl⟩:=trails_ok (am:=am) (turn:=turn) ok hS nd
 exact⟨tk.rch v,fun h=>rch_in st (fun p v hp ⟨x,hx,r,e⟩=>e▸cl p hp x hx r) h⟩
end
structure Side(n:Nat)(S T L:List Int):Prop where
 nd:L.Nodup
 sub:∀ s∈S,s∈L
 no:∀ v∈L,v∉T
 rg:∀ v∈L,0<=v/\v<n
section
variable{n:Nat}{ties:List Tie}{am:List Int}{turn:Int}{S T L:List Int}
theorem side_keys(ok:∀ x∈ties,TOk n x)(E:Ends n S T)(G:Great n ties S T am):Side n S T (keys (trails n ties am 1 S)):=by
 obtain⟨F,no⟩:=great_ok ok E G
 obtain⟨tk,st,cl⟩:=trails_ok (am:=am) (turn:=1) ok E.sr E.sn
 exact⟨tk.nd,st,no,tk.rng ok E.sr⟩
theorem side_le(ok:∀ x∈ties,TOk n x)(E:Ends n S T)(G:Great n ties S T am)(h:Side n S T L):val ties am S<=sideW ties L:=val_le E (great_ok ok E G).1 h.nd h.sub h.no h.rg
theorem full_of:∀ {ties:List Tie}{am:List Int},AmOk ties am->cross ties am L=sideW ties L->∀ (j:Nat) (h:j<ties.length),(ties[j].1∈L->ties[j].2.1∉L->am.getD j 0=ties[j].2.2)/\(ties[j].2.1∈L->ties[j].1∉L->am.getD j 0 = -ties[j].2.2)
 |[],am,_,_,j,h=>absurd h (Nat.not_lt_zero _)
 |x :: r,[],h,_,j,_=>by have:=h.len;simp at this
 |x :: r,m :: ms,h,e,j,hj=>by
  obtain⟨c,t⟩:=h.tail
  have le:=cross_le L t
  rw[sideW_cons]at e
  have e:(if x.1∈L then m else 0)-(if x.2.1∈L then m else 0)+cross r ms L=(if(decide (x.1∈L) != decide (x.2.1∈L))=true then x.2.2 else 0)+sideW r L:=e
  have le0:(if x.1∈L then m else 0)-(if x.2.1∈L then m else 0)<=(if(decide (x.1∈L) != decide (x.2.1∈L))=true then x.2.2 else 0):=by
   by_cases h1:x.1∈L <;> by_cases h2:x.2.1∈L <;> simp[h1,h2] <;> omega
  cases j with
  |zero =>
   have e0:(if x.1∈L then m else 0)-(if x.2.1∈L then m else 0)=(if(decide (x.1∈L) != decide (x.2.1∈L))=true then x.2.2 else 0):=by omega
   show(x.1∈L->x.2.1∉L->m=x.2.2)/\(x.2.1∈L->x.1∉L->m = -x.2.2)
   refine⟨fun h1 h2=>?_,fun h1 h2=>?_⟩
   ·simp[h1,h2]at e0;exact e0
   ·simp[h1,h2]at e0;omega
  |succ j =>
   have er:cross r ms L=sideW r L:=by omega
   exact full_of t er j (by simpa using hj)
theorem light_cross(E:Ends n S T)(F:Fl n ties S T am)(h:Side n S T L):cross ties am L=val ties am S:=by
 rw[<- net_cross h.nd]
 exact sum_sub E.sn h.nd h.sub fun v hv hn=>F.even v (h.rg v hv).1 (h.rg v hv).2 hn (h.no v hv)
theorem light_closed(ok:∀ x∈ties,TOk n x)(E:Ends n S T)(G:Great n ties S T am)(h:Side n S T L)(e:sideW ties L=val ties am S):∀ p v,p∈L->RoomR ties am 1 p v->v∈L:=by
 intro p v hp ⟨x,hx,r,ev⟩
 obtain⟨F,no⟩:=great_ok ok E G
 have full:=full_of F.ok (L:=L) (by rw[light_cross E F h,e])
 obtain⟨j,hj,ej,q⟩:=mem_arc.mp hx
 refine Decidable.byContradiction fun nv=>?_
 unfold room at r
 rw[ej,wAt_nat hj,aAt_nat]at r
 rcases q with⟨q1,q2⟩ |⟨q1,q2⟩
 ·have e2:x.2.1=ties[j].2.1:=by rw[q2]
  have e3:x.2.2=1:=by rw[q2]
  have:=(full j hj).1 (by rw[<- q1];exact hp) (by rw[<- e2,ev];exact nv)
  rw[e3]at r
  lia
 ·have e2:x.2.1=ties[j].1:=by rw[q2]
  have e3:x.2.2 = -1:=by rw[q2]
  have:=(full j hj).2 (by rw[<- q1];exact hp) (by rw[<- e2,ev];exact nv)
  rw[e3]at r
  lia
theorem room_back{p v:Int}(h:RoomR ties am (-1) p v):RoomR ties am 1 v p:=by
 obtain⟨x,hx,r,ev⟩:=h
 obtain⟨j,hj,ej,q⟩:=mem_arc.mp hx
 unfold room at r
 rw[ej,wAt_nat hj,aAt_nat]at r
 rcases q with⟨q1,q2⟩ |⟨q1,q2⟩
 ·refine⟨((j:Int),ties[j].1,-1),mem_arc.mpr ⟨j,hj,rfl,.inr ⟨by rw[<- ev,q2],rfl⟩⟩,?_,q1.symm⟩
  rw[q2]at r
  unfold room
  dsimp only at r ⊢
  rw[wAt_nat hj,aAt_nat]
  lia
 ·refine⟨((j:Int),ties[j].2.1,1),mem_arc.mpr ⟨j,hj,rfl,.inl ⟨by rw[<- ev,q2],rfl⟩⟩,?_,q1.symm⟩
  rw[q2]at r
  unfold room
  dsimp only at r ⊢
  rw[wAt_nat hj,aAt_nat]
  lia
theorem room_fore{p v:Int}(h:RoomR ties am 1 v p):RoomR ties am (-1) p v:=by
 obtain⟨x,hx,r,ev⟩:=h
 obtain⟨j,hj,ej,q⟩:=mem_arc.mp hx
 unfold room at r
 rw[ej,wAt_nat hj,aAt_nat]at r
 rcases q with⟨q1,q2⟩ |⟨q1,q2⟩
 ·refine⟨((j:Int),ties[j].1,-1),mem_arc.mpr ⟨j,hj,rfl,.inr ⟨by rw[<- ev,q2],rfl⟩⟩,?_,q1.symm⟩
  rw[q2]at r
  unfold room
  dsimp only at r ⊢
  rw[wAt_nat hj,aAt_nat]
  lia
 ·refine⟨((j:Int),ties[j].2.1,1),mem_arc.mpr ⟨j,hj,rfl,.inl ⟨by rw[<- ev,q2],rfl⟩⟩,?_,q1.symm⟩
  rw[q2]at r
  unfold room
  dsimp only at r ⊢
  rw[wAt_nat hj,aAt_nat]
  lia
theorem back_out(cl:∀ p v,p∈L->RoomR ties am 1 p v->v∈L)(no:∀ v∈L,v∉T){v:Int}(h:Rch (RoomR ties am (-1)) T v):v∉L:=by
 induction h with
 |base h=>exact fun z=>no _ z h
 |step _ r ih=>exact fun z=>ih (cl _ _ z (room_back r))
structure Wide(n:Nat)(ties:List Tie)(am T W:List Int):Prop where
 nd:W.Nodup
 mem:∀ v,v∈W↔(0<=v/\v<n)/\v∉keys (trails n ties am (-1) T)
variable{W:List Int}
theorem wide_side(ok:∀ x∈ties,TOk n x)(E:Ends n S T)(G:Great n ties S T am)(w:Wide n ties am T W):Side n S T W:=by
 obtain⟨F,no⟩:=great_ok ok E G
 have sk:=side_keys ok E G
 have ek:=(val_side ok E G).symm
 have cl:=light_closed ok E G sk ek
 refine⟨w.nd,fun s hs=>(w.mem s).mpr ⟨E.sr s hs,fun z=>?_⟩,fun v hv z=>?_,fun v hv=>((w.mem v).mp hv).1⟩
 ·exact back_out cl sk.no ((met_iff ok E.tr E.tn).mp z) (sk.sub s hs)
 ·exact((w.mem v).mp hv).2 ((met_iff ok E.tr E.tn).mpr (.base z))
theorem wide_val(ok:∀ x∈ties,TOk n x)(E:Ends n S T)(G:Great n ties S T am)(w:Wide n ties am T W):sideW ties W=val ties am S:=by
 obtain⟨F,no⟩:=great_ok ok E G
 have sw:=wide_side ok E G w
 rw[<- light_cross E F sw]
 symm
 have key:∀ (a b:Int) (x:Arc),x∈arcAt ties a->x.2.1=b->a∈W->b∉W->(0<=b/\b<n)->¬ 0<room ties am 1 x:=by
  intro a b x hx ex ha hb rb r
  have bB:b∈keys (trails n ties am (-1) T):=Decidable.byContradiction fun z=>hb ((w.mem b).mpr ⟨rb,z⟩)
  have aB:a∈keys (trails n ties am (-1) T):=(met_iff ok E.tr E.tn).mpr (.step ((met_iff ok E.tr E.tn).mp bB) (room_fore ⟨x,hx,r,ex⟩))
  exact((w.mem a).mp ha).2 aB
 refine cross_full F.ok.len fun j hj=>?_
 obtain⟨o1,o2,o3,o4⟩:=ok _ (List.getElem_mem hj)
 have c:=F.ok.cap j hj
 refine⟨fun h1 h2=>?_,fun h1 h2=>?_⟩
 ·have r:=key _ _ ((j:Int),ties[j].2.1,1) (mem_arc.mpr ⟨j,hj,rfl,.inl ⟨rfl,rfl⟩⟩) rfl h1 h2 ⟨by show 0<=ties[j].2.1;lia,o3⟩
  unfold room at r
  dsimp only at r
  rw[wAt_nat hj,aAt_nat]at r
  lia
 ·have r:=key _ _ ((j:Int),ties[j].1,-1) (mem_arc.mpr ⟨j,hj,rfl,.inr ⟨rfl,rfl⟩⟩) rfl h1 h2 ⟨o1,by show ties[j].1<n;lia⟩
  unfold room at r
  dsimp only at r
  rw[wAt_nat hj,aAt_nat]at r
  lia
theorem in_wide(ok:∀ x∈ties,TOk n x)(E:Ends n S T)(G:Great n ties S T am)(w:Wide n ties am T W)(h:Side n S T L)(e:sideW ties L=val ties am S):∀ v∈L,v∈W:=fun v hv =>
 (w.mem v).mpr ⟨h.rg v hv,fun z=>back_out (light_closed ok E G h e) h.no ((met_iff ok E.tr E.tn).mp z) hv⟩
variable{L':List Int}
noncomputable def rng(n:Nat):List Int:=(List.range n).map fun(i:Nat)=>(i:Int)
theorem mem_rng{v:Int}:v∈rng n↔0<=v/\v<n:=by
 unfold rng
 rw[List.mem_map]
 constructor
 ·rintro⟨i,hi,e⟩
  have:=List.mem_range.mp hi
  lia
 ·rintro⟨h0,h1⟩
  exact⟨v.toNat,List.mem_range.mpr (by omega),by lia⟩
theorem rng_asc(n:Nat):(rng n).Pairwise (· < ·):=by
 unfold rng
 rw[List.pairwise_map]
 exact List.pairwise_lt_range.imp fun {a b} h=>by lia
theorem rng_nd(n:Nat):(rng n).Nodup:=(rng_asc n).imp fun {a b} h=>by lia
theorem asc_eq:∀ {l1 l2:List Int},l1.Pairwise (· < ·)->l2.Pairwise (· < ·)->(∀ x,x∈l1↔x∈l2)->l1=l2
 |[],[],_,_,_=>rfl
 |[],y :: r,_,_,h=>nomatch (h y).mpr (List.mem_cons_self ..)
 |x :: r,[],_,_,h=>nomatch (h x).mp (List.mem_cons_self ..)
 |x :: r,y :: r',p1,p2,h=>by
  rw[List.pairwise_cons]at p1 p2
  have e:x=y:=by
   rcases List.mem_cons.mp ((h x).mp (List.mem_cons_self ..))with z | z
   ·exact z
   ·rcases List.mem_cons.mp ((h y).mpr (List.mem_cons_self ..))with z' | z'
    ·exact z'.symm
    ·have:=p2.1 _ z
     have:=p1.1 _ z'
     lia
  subst e
  rw[asc_eq p1.2 p2.2 fun z=>⟨fun hz=>?_,fun hz=>?_⟩]
  ·rcases List.mem_cons.mp ((h z).mp (List.mem_cons_of_mem _ hz))with e | e
   ·have:=p1.1 z hz;lia
   ·exact e
  ·rcases List.mem_cons.mp ((h z).mpr (List.mem_cons_of_mem _ hz))with e | e
   ·have:=p2.1 z hz;lia
   ·exact e
variable{Ls:List (List Int)}{m:Int}
end
end Flw
namespace K23
open PySem L2 PyProof.Rows
structure CalF(P:Program)(w:World)(K:PySem.W.Frag)(mg:Str->Option Value)(base:Heap)(k:Nat)(x:Str)(ps:List Str)(sp:Sp)(g:Addr)(gd:FuncData):Prop where
 ok:FnOk P w K mg base CX0 k g gd ps sp
 mg:mg x=some (.ref g)
 kp:PySem.W.keepIn K (.ref g)=true
 bd:Binds K gd ps []
structure Txt2(mg:Str->Option Value):Prop where
 all:mg "all" = none
 zip:mg "zip" = none
 enum:mg "enumerate" = none
 any:mg "any" = none
 set:mg "set" = none
noncomputable abbrev scO(l:List (Str×NameKind)):Scope:={ kind:=.function,names:=l,isGenerator:=false,isCoroutine:=false }
theorem atI_getD{gs:List Int}{j:Nat}(h:j<gs.length):atI (gs.map V.int) (j:Int)=some (V.int (gs.getD j 0)):=atI_nat (by rw[List.getElem?_map,List.getElem?_eq_getElem h,List.getD_eq_getElem?_getD,List.getElem?_eq_getElem h];rfl)
theorem ixN_nat{n j:Nat}(h:j<n):ixN n (j:Int)=some j:=by
 unfold ixN
 rw[if_pos (by lia),if_pos (by lia),Int.toNat_natCast]
theorem map_setI{gs:List Int}{j:Nat}{x:Int}:(gs.map V.int).set j (.int x)=(gs.set j x).map V.int:=by rw[List.map_set]
theorem rep_zero(n:Nat):(List.replicate n [V.int 0]).flatten=(List.replicate n (0:Int)).map V.int:=by
 induction n with
 |zero=>rfl
 |succ n ih=>rw[List.replicate_succ,List.replicate_succ,List.flatten_cons,ih];rfl
theorem getD_set{gs:List Int}{j:Nat}{x:Int}(hj:j<gs.length)(v:Nat):(gs.set j x).getD v 0=if v=j then x else gs.getD v 0:=by
 rw[List.getD_eq_getElem?_getD,List.getElem?_set]
 by_cases e:v=j
 ·subst e
  rw[if_pos rfl,if_pos rfl,if_pos hj]
  rfl
 ·rw[if_neg (fun z=>e z.symm),if_neg e,<- List.getD_eq_getElem?_getD]
theorem net_snoc:∀ {l1:List Tie}{m1:List Int} (x:Tie) (m v:Int),m1.length=l1.length->Flw.net (l1++[x]) (m1++[m]) v=Flw.net l1 m1 v+Flw.netT x m v
 |[],[],x,m,v,_=>by show Flw.netT x m v+0=0+_;lia
 |y :: l,k :: ms,x,m,v,e=>by
  show Flw.netT y k v+Flw.net (l++[x]) (ms++[m]) v=Flw.netT y k v+Flw.net l ms v+Flw.netT x m v
  rw[net_snoc x m v (by simpa using e)]
  lia
noncomputable def spGv:Sp:=fun vs H Q _=>∃ (t a:Addr) (n:Nat) (ties:List Tie) (am:List Int),vs=[.ref t,.ref a]/\WebAt H t n ties/\(∀ x∈ties,TieOk n x)/\n<=1000/\H a=some (.lst (am.map V.int))/\am.length=ties.length /\
 ∀ (p:Addr) (gs:List Int) (H':Hp),H p=none->H' p=some (.lst (gs.map V.int))->gs.length=n->(∀ v:Nat,v<n->gs.getD v 0=Flw.net ties am v)->Same H H'->Q (.ref p) H'
section
variable{P:Program}{w:World}{K:PySem.W.Frag}{mg:Str->Option Value}{base:Heap}
noncomputable abbrev nGv:List Str:=["web","amounts","many","ties","given","a","b","weight","amount"]
theorem scGv:FnScope nGv ["web","amounts"] (defScope sGivenAt):=⟨rfl,rfl,rfl,by decide +kernel,rfl,by decide +kernel,by decide +kernel⟩
theorem ok_gv{f:Addr}{fd:FuncData}(F:Fun K "given_at" "given_at" sGivenAt f fd)(T2:Txt2 mg):FnOk P w K mg base CX0 1 f fd ["web","amounts"] spGv:=by
 refine F.ok scGv (fun vs H Q E h=>?_) (fun cdv A outer s H vs Q E hr h=>?_)
 ·obtain⟨t,a,n,ties,am,rfl,_⟩:=h
  rfl
 ·obtain⟨t,a,n,ties,am,rfl,W,ok,nb,ha,al,q⟩:=h
  obtain⟨⟨ts,bs,h1,h2,h3⟩,len⟩:=id W
  have h3l:bs.length=ties.length:=h3.length
  refine⟨_,(pss_cons (ps_asg (pv 0) (pg_tup (n:=2) rfl (pgs_cons (pg_name (i:=2) scGv.nd rfl (Or.inl rfl)) (pgs_cons (pg_name (i:=3) scGv.nd rfl (Or.inl rfl)) pgs_nil))))
   (pss_cons (ps_set (i:=4) scGv.nd rfl (Or.inl rfl) (pe_op op_rep (@pe_lst _ _ _ _ (@pa_cst _ _ _ _ _ _ _ pe_int pa_nil)) (pv 2)))
   (pss_cons (ps_for PassesOwn.never rfl (pi_zip true false (by rfl) T2.zip (@pa_nam _ _ _ _ _ _ (pv 3) (@pa_nam _ _ _ _ _ _ (pv 1) pa_nil))) (pg_tup (n:=2) rfl (pgs_cons (pg_tup (n:=3) rfl (pgs_cons (pg_name (i:=5) scGv.nd rfl (Or.inl rfl)) (pgs_cons (pg_name (i:=6) scGv.nd rfl (Or.inl rfl)) (pgs_cons (pg_name (i:=7) scGv.nd rfl (Or.inl rfl)) pgs_nil)))) (pgs_cons (pg_name (i:=8) scGv.nd rfl (Or.inl rfl)) pgs_nil)))
   (pss_cons (ps_augS (pv 4) (pv 5) get_listH (pv 8) ip_add set_list)
   (pss_one (ps_augS (pv 4) (pv 6) get_listH (pv 8) ip_sub set_list))))
   (pss_one (ps_ret (pv 4)))))),?_⟩
  refine⟨_,rfl,t,_,rfl,SqT.of h1,rfl,_,_,rfl,_,_,rfl,rfl,?_⟩
  refine⟨(by show 1<=sizeLine;decide),fun l hl=>⟨_,rfl,l,_,_,rfl,rfl,upd_same,by lia,by lia,by show 1 * _<=_;rw[sizeLine_eq];lia,fun p hp=>?_⟩⟩
  rw[show((n:Int)).toNat=n by lia,rep_zero]
  have sl:=Same.new (o:=.lst [V.int 0]) hl
  have sp:=Same.new (o:=.lst ((List.replicate n (0:Int)).map V.int)) hp
  have s2:=sl.trans sp
  have hp0:H p=none:=sl.free hp
  have gp:(upd (upd H l (.lst [V.int 0])) p (.lst ((List.replicate n (0:Int)).map V.int))) p=_:=upd_same
  generalize (upd (upd H l (.lst [V.int 0])) p (.lst ((List.replicate n (0:Int)).map V.int)))=H1 at s2 gp
  refine⟨_,rfl,_,rfl,ts,a,rfl,⟨_,SqT.of (s2 _ _ h2)⟩,⟨_,SqL.of (s2 _ _ ha)⟩,?_⟩
  have ml:min (bs.map V.ref).length (am.map V.int).length=ties.length:=by rw[List.length_map,List.length_map,h3l,al];lia
  refine for_zip (K:=K) (b1:=true) (b2:=false) (l1:=ts) (l2:=a) (xs:=bs.map V.ref) (ys:=am.map V.int) (fun i σ G=>∃ (v5 v6 v7 v8:Option V) (gs:List Int),σ=[some (.ref t),some (.ref a),some (.int n),some (.ref ts),some (.ref p),v5,v6,v7,v8]/\Same H G/\G p=some (.lst (gs.map V.int))/\gs.length=n/\∀ v:Nat,v<n->gs.getD v 0=Flw.net (ties.take i) (am.take i) v)
   ⟨none,none,none,none,_,rfl,s2,gp,by simp,fun v hv=>by rw[List.take_zero,List.take_zero,List.getD_eq_getElem?_getD,List.getElem?_replicate,if_pos hv];rfl⟩ (fun i σ G _ z=>by obtain⟨_,_,_,_,_,_,s,_⟩:=z;exact⟨SqT.of (s _ _ h2),SqL.of (s _ _ ha)⟩) ?_ ?_
  ·rintro i x y σ G T hx hy ⟨v5,v6,v7,v8,gs,rfl,s3,gpG,gl,gv⟩ hT
   obtain⟨il,e⟩:=List.getElem?_eq_some_iff.mp hx
   rw[List.length_map]at il
   rw[List.getElem_map]at e
   subst e
   obtain⟨il',e⟩:=List.getElem?_eq_some_iff.mp hy
   rw[List.length_map]at il'
   rw[List.getElem_map]at e
   subst e
   have it:i<ties.length:=by lia
   have sT:=Same.new (o:=.tup [V.ref bs[i],V.int am[i]]) hT
   have hx:=sT _ _ (s3 _ _ (Paired.at h3 i il it))
   have gp1:=sT _ _ gpG
   have s4:=s3.trans sT
   obtain⟨o1,o2,o3,o4⟩:=ok _ (List.getElem_mem it)
   generalize ex:ties[i]=x at *
   obtain⟨u,v,c⟩:=x
   have o1:0<=u:=o1
   have o2:u<v:=o2
   have o3:v <(n:Int):=o3
   obtain⟨u,rfl⟩:∃ a':Nat,u=(a':Int):=⟨u.toNat,by lia⟩
   obtain⟨v,rfl⟩:∃ b':Nat,v=(b':Int):=⟨v.toNat,by lia⟩
   have uL:u<gs.length:=by lia
   have vL:v<gs.length:=by lia
   refine⟨T,_,rfl,SqT.of upd_same,rfl,_,_,rfl,bs[i],_,rfl,SqT.of hx,rfl,_,_,rfl,_,_,rfl,_,_,rfl,rfl,_,_,rfl,rfl,?_⟩
   refine⟨_,rfl,_,rfl,p,_,_,_,rfl,rfl,gp1,atI_getD uL,_,rfl,_,_,rfl,rfl,p,_,_,_,rfl,rfl,gp1,by rw[List.length_map];exact ixN_nat uL,?_⟩
   rw[map_setI]
   have vL':v <(gs.set u (gs.getD u 0+am[i])).length:=by rw[List.length_set];exact vL
   refine⟨_,rfl,_,rfl,p,_,_,_,rfl,rfl,upd_same,atI_getD vL',_,rfl,_,_,rfl,rfl,p,_,_,_,rfl,rfl,upd_same,by rw[List.length_map];exact ixN_nat vL',?_⟩
   rw[map_setI]
   refine⟨_,_,_,_,_,rfl,fun b o e=>?_,upd_same,by rw[List.length_set,List.length_set];exact gl,fun z hz=>?_⟩
   ·have bp:b≠p:=ne_of_none e hp0
    rw[upd_ne bp,upd_ne bp]
    exact s4 _ _ e
   ·rw[getD_set vL',getD_set uL,getD_set uL,List.take_succ_eq_append_getElem it,List.take_succ_eq_append_getElem il',net_snoc _ _ _ (by rw[List.length_take,List.length_take];lia),<- gv z hz,ex]
    unfold Flw.netT
    dsimp only
    by_cases e1:z=v
    ·subst e1
     rw[if_pos rfl,if_neg (by lia),if_neg (by lia),if_pos rfl]
     lia
    ·rw[if_neg e1]
     by_cases e2:z=u
     ·subst e2
      rw[if_pos rfl,if_pos rfl,if_neg (by lia)]
      lia
     ·rw[if_neg e2,if_neg (by lia),if_neg (by lia)]
      lia
  ·rintro σ G ⟨v5,v6,v7,v8,gs,rfl,s3,gpG,gl,gv⟩
   rw[ml,List.take_length,<- al,List.take_length]at gv
   exact⟨_,rfl,q p gs G hp0 gpG gl gv s3⟩
end
open PySem L2 PyProof.Rows
noncomputable abbrev tri(x:Flw.Arc):List V:=[.int x.1,.int x.2.1,.int x.2.2]
noncomputable def ArcsOf(H:Hp)(as:List Addr)(g:Int->List Flw.Arc):Prop:=∀ (i:Nat) (h:i<as.length),∃ cs:List Addr,H as[i]=some (.lst (cs.map V.ref))/\Paired (fun c x=>H c=some (.tup (tri x))) cs (g i)
noncomputable abbrev ArcsAt(H:Hp)(as:List Addr)(ties:List Tie):Prop:=ArcsOf H as (Flw.arcAt ties)
theorem ArcsOf.same{H H':Hp}{as:List Addr}{g:Int->List Flw.Arc}(B:ArcsOf H as g)(s:Same H H'):ArcsOf H' as g:=fun i h=>by
 obtain⟨cs,e,p⟩:=B i h
 exact⟨cs,s _ _ e,Paired.mapP p fun c x z=>s _ _ z⟩
theorem ArcsOf.kept{H H':Hp}{as:List Addr}{g:Int->List Flw.Arc}{p:Addr}{o:HO}(B:ArcsOf H as g)(k:Kept p H H')(hp:H p=some o)(hne:∀ xs,o≠.tup xs)(na:p∉as):ArcsOf H' as g:=fun i h=>by
 obtain⟨cs,e,q⟩:=B i h
 exact⟨cs,k _ _ (fun z=>na (z▸List.getElem_mem h)) e,Paired.mapP q fun c x z=>k _ _ (ne_of z hp (fun e=>hne _ e.symm)) z⟩
theorem map_ref_inj{a b:List Addr}(h:a.map V.ref=b.map V.ref):a=b:=List.map_inj_right (fun _ _ h=>by injection h) |>.mp h
theorem ArcsOf.put{H:Hp}{as:List Addr}{g:Int->List Flw.Arc}{j:Nat}{y:Flw.Arc}{tp:Addr}{cs0:List Addr}(nd:as.Nodup)(hj:j<as.length)(B:ArcsOf H as g)(e0:H as[j]=some (.lst (cs0.map V.ref)))(ht:H tp=some (.tup (tri y))) :
  ArcsOf (upd H as[j] (.lst (cs0.map V.ref++[.ref tp]))) as (fun i=>g i++if i=(j:Int)then [y]else []):=fun i h=>by
 obtain⟨cs,e,p⟩:=B i h
 have p2:Paired (fun c (x:Flw.Arc)=>(upd H as[j] (.lst (cs0.map V.ref++[.ref tp]))) c=some (.tup (tri x))) cs (g i):=Paired.mapP p fun c x z=>by rw[upd_ne (ne_of z e0 (by intro z;cases z))];exact z
 by_cases ij:i=j
 ·subst ij
  rw[e]at e0
  have ec:cs0=cs:=by
   injection e0 with e0
   injection e0 with e0
   exact(map_ref_inj e0).symm
  subst ec
  refine⟨cs0++[tp],by rw[upd_same,List.map_append];rfl,?_⟩
  dsimp only
  rw[if_pos rfl]
  exact Paired.snoc p2 (by rw[upd_ne (ne_of ht e (by intro z;cases z))];exact ht)
 ·have ne:as[i]≠as[j]:=fun z=>ij ((List.getElem_inj nd).mp z)
  refine⟨cs,by rw[upd_ne ne];exact e,?_⟩
  dsimp only
  rw[if_neg (by lia),List.append_nil]
  exact p2
noncomputable def spAr:Sp:=fun vs H Q _=>∃ (t:Addr) (n:Nat) (ties:List Tie),vs=[.ref t]/\WebAt H t n ties/\(∀ x∈ties,TieOk n x)/\n<=1000 /\
 ∀ (b:Addr) (as:List Addr) (H':Hp),H' b=some (.lst (as.map V.ref))->as.length=n->ArcsAt H' as ties->Same H H'->Q (.ref b) H'
section
variable{P:Program}{w:World}{K:PySem.W.Frag}{mg:Str->Option Value}{base:Heap}
noncomputable abbrev nAr:List Str:=["web","many","ties","arcs","tie","a","b","weight"]
theorem scAr:FnScope nAr ["web"] (defScope sArcsOf):=⟨rfl,rfl,rfl,by decide +kernel,rfl,by decide +kernel,by decide +kernel⟩
theorem csAr1:CompScope ["place"] [none] nAr (defScope sArcsOf) (scO [(".0",.local),("place",.local)]):=⟨rfl,by decide +kernel,by decide +kernel,by decide +kernel,rfl,capB_ok (by decide +kernel)⟩
theorem ndAr1:(["place"]:List Str).Nodup:=by decide +kernel
theorem ok_ar{f:Addr}{fd:FuncData}(F:Fun K "arcs_of" "arcs_of" sArcsOf f fd)(T:Txt mg)(T2:Txt2 mg):FnOk P w K mg base CX0 1 f fd ["web"] spAr:=by
 refine F.ok scAr (fun vs H Q E h=>?_) (fun cdv A outer s H vs Q E hr h=>?_)
 ·obtain⟨t,n,ties,rfl,_⟩:=h
  rfl
 ·obtain⟨t,n,ties,rfl,W,ok,nb,q⟩:=h
  obtain⟨⟨ts,bs,h1,h2,h3⟩,len⟩:=id W
  have h3l:bs.length=ties.length:=h3.length
  refine⟨_,(pss_cons (ps_asg (pv 0) (pg_tup (n:=2) rfl (pgs_cons (pg_name (i:=1) scAr.nd rfl (Or.inl rfl)) (pgs_cons (pg_name (i:=2) scAr.nd rfl (Or.inl rfl)) pgs_nil))))
   (pss_cons (ps_comp (i:=3) scAr.nd rfl (Or.inl rfl) rfl csAr1 (pi_range1 rfl T.range (@pa_nam _ _ _ _ _ _ (pv 1) pa_nil)) (fun C s H fp=>(pg_name (i:=0) ndAr1 rfl (Or.inl rfl))) (fun C s H fp=>pf_nil) (fun C s H fp=>(@pe_lst _ _ _ _ pa_nil)))
   (pss_cons (ps_for PassesOwn.never rfl (pi_enumB true rfl T2.enum (@pa_nam _ _ _ _ _ _ (pv 2) pa_nil)) (pg_tup (n:=2) rfl (pgs_cons (pg_name (i:=4) scAr.nd rfl (Or.inl rfl)) (pgs_cons (pg_tup (n:=3) rfl (pgs_cons (pg_name (i:=5) scAr.nd rfl (Or.inl rfl)) (pgs_cons (pg_name (i:=6) scAr.nd rfl (Or.inl rfl)) (pgs_cons (pg_name (i:=7) scAr.nd rfl (Or.inl rfl)) pgs_nil)))) pgs_nil)))
   (pss_cons (ps_expr (pe_bmH PySem.F.slot_list_append PySem.F.type_list_append mt_append (@pe_ix _ _ _ _ _ _ _ ix_listH (pv 3) (pv 5) (fun _ _=>rfl)) (@pa_tup _ _ _ _ _ _ _ (@pe_tup _ _ _ _ _ (@pa_nam _ _ _ _ _ _ (pv 4) (@pa_nam _ _ _ _ _ _ (pv 6) (@pa_cst _ _ _ _ _ _ _ pe_int pa_nil)))) pa_nil)))
   (pss_one (ps_expr (pe_bmH PySem.F.slot_list_append PySem.F.type_list_append mt_append (@pe_ix _ _ _ _ _ _ _ ix_listH (pv 3) (pv 6) (fun _ _=>rfl)) (@pa_tup _ _ _ _ _ _ _ (@pe_tup _ _ _ _ _ (@pa_nam _ _ _ _ _ _ (pv 4) (@pa_nam _ _ _ _ _ _ (pv 5) (@pa_un _ _ _ _ _ _ _ (pe_un un_neg pe_int) pa_nil)))) pa_nil))))))
   (pss_one (ps_ret (pv 3)))))),?_⟩
  refine⟨_,rfl,t,_,rfl,SqT.of h1,rfl,_,_,rfl,_,_,rfl,rfl,?_⟩
  refine⟨_,rfl,_,rfl,by lia,by lia,?_⟩
  rw[show((n:Int)).toNat=n by lia]
  refine comp_range (lo:=0) (n:=n) (fun i ys G=>Same H G/\∃ as:List Addr,ys=as.map V.ref/\as.length=i/\as.Nodup/\∀ a∈as,H a=none/\G a=some (.lst [])) (by rw[sizeLine_eq];lia) ⟨Same.refl _,[],rfl,rfl,List.nodup_nil,fun _ h=>nomatch h⟩ ?_ ?_
  ·rintro i ys G hi ⟨sm,as,rfl,al,nd,ha⟩
   refine⟨trivial,tTru_if ⟨(by show 0<=sizeLine;decide),fun l hl=>⟨sm.trans (Same.new hl),as++[l],by rw[List.map_append];rfl,by rw[List.length_append,al];rfl,?_,fun a m=>?_⟩⟩⟩
   ·rw[List.nodup_append]
    refine⟨nd,by simp,fun x hx y hy z=>?_⟩
    rw[List.mem_singleton.mp hy]at z
    have:=(ha x hx).2
    rw[z,hl]at this
    cases this
   ·rcases List.mem_append.mp m with m | m
    ·exact⟨(ha a m).1,(Same.new hl) _ _ (ha a m).2⟩
    ·rw[List.mem_singleton.mp m]
     exact⟨sm.free hl,upd_same⟩
  ·rintro ys G yl ⟨sm,as,rfl,al,nd,ha⟩ D hD
   have sD:=Same.new (o:=.lst (as.map V.ref)) hD
   have smD:=sm.trans sD
   refine⟨_,rfl,ts,rfl,⟨_,SqT.of (smD _ _ h2)⟩,?_⟩
   refine for_enumB (b:=true) (K:=K) (l:=ts) (xs:=bs.map V.ref) (fun i σ G2=>∃ (v4 v5 v6 v7:Option V),σ=[some (.ref t),some (.int n),some (.ref ts),some (.ref D),v4,v5,v6,v7]/\Same H G2/\G2 D=some (.lst (as.map V.ref))/\ArcsAt G2 as (ties.take i)) ⟨none,none,none,none,rfl,smD,upd_same,fun i h=>⟨[],sD _ _ (ha _ (List.getElem_mem h)).2,.nil⟩⟩ (fun i σ G2 _ z=>by obtain⟨_,_,_,_,_,s,_⟩:=z;exact SqT.of (s _ _ h2)) ?_ ?_
   ·rintro i x σ G0 T hx ⟨v4,v5,v6,v7,rfl,s0,gD0,B0⟩ hT
    obtain⟨il,e⟩:=List.getElem?_eq_some_iff.mp hx
    rw[List.length_map]at il
    rw[List.getElem_map]at e
    subst e
    have sT0:=Same.new (o:=.tup [V.int (i:Int),V.ref bs[i]]) hT
    have gT:(upd G0 T (.tup [V.int (i:Int),V.ref bs[i]])) T=some (.tup [V.int (i:Int),V.ref bs[i]]):=upd_same
    have s2:=s0.trans sT0
    have gD:=sT0 _ _ gD0
    have B:=B0.same sT0
    generalize (upd G0 T (.tup [V.int (i:Int),V.ref bs[i]]))=G2 at s2 gD B gT
    have it:i<ties.length:=by lia
    have hx:=s2 _ _ (Paired.at h3 i il it)
    obtain⟨o1,o2,o3,o4⟩:=ok _ (List.getElem_mem it)
    generalize ex:ties[i]=x at *
    obtain⟨a,b,c⟩:=x
    have o1:0<=a:=o1
    have o2:a<b:=o2
    have o3:b <(n:Int):=o3
    obtain⟨a,rfl⟩:∃ a':Nat,a=(a':Int):=⟨a.toNat,by lia⟩
    obtain⟨b,rfl⟩:∃ b':Nat,b=(b':Int):=⟨b.toNat,by lia⟩
    have aL:a<as.length:=by lia
    have bL:b<as.length:=by lia
    have til:(ties.take i).length=i:=by rw[List.length_take];lia
    refine⟨T,_,rfl,SqT.of gT,rfl,_,_,rfl,_,_,rfl,bs[i],_,rfl,SqT.of hx,rfl,_,_,rfl,_,_,rfl,_,_,rfl,rfl,rfl,?_⟩
    obtain⟨ca,ea,pa⟩:=B a aL
    refine⟨_,rfl,_,rfl,D,_,_,_,rfl,rfl,gD,atI_nat (v:=V.ref as[a]) (by rw[List.getElem?_map,List.getElem?_eq_getElem aL];rfl),⟨_,_,rfl,ea⟩,_,rfl,_,rfl,(by show 3<=sizeLine;decide),fun tp htp=>?_⟩
    have sT:=Same.new (o:=.tup [.int (i:Int),.int (b:Int),.int 1]) htp
    have lca:(ca.map V.ref).length<sizeLine:=by
     have l1:=pa.length
     have l2:=Flw.arcsFrom_len a (ties.take i) 0
     unfold Flw.arcAt at l1
     rw[List.length_map,sizeLine_eq]
     lia
    refine⟨as[a],_,_,rfl,rfl,sT _ _ ea,lca,?_⟩
    have B1:=ArcsOf.put (y:=((i:Int),(b:Int),1)) nd aL (B.same sT) (sT _ _ ea) upd_same
    have na:∀ (u:Addr) (o:HO),H u=some o->u≠as[a]:=fun u o e z=>by rw[z,(ha _ (List.getElem_mem aL)).1]at e;cases e
    have nb':∀ (u:Addr) (o:HO),H u=some o->u≠as[b]:=fun u o e z=>by rw[z,(ha _ (List.getElem_mem bL)).1]at e;cases e
    have nD:∀ (j:Nat) (h:j<as.length),D≠as[j]:=fun j h z=>by
     have:=(ha _ (List.getElem_mem h)).2
     rw[<- z,hD]at this
     cases this
    have gD1:(upd (upd G2 tp (.tup [.int (i:Int),.int (b:Int),.int 1])) as[a] (.lst (ca.map V.ref++[.ref tp]))) D=some (.lst (as.map V.ref)):=by rw[upd_ne (nD a aL)];exact sT _ _ gD
    have s3:Same H (upd (upd G2 tp (.tup [.int (i:Int),.int (b:Int),.int 1])) as[a] (.lst (ca.map V.ref++[.ref tp]))):=fun u o e=>by rw[upd_ne (na u o e)];exact sT _ _ (s2 _ _ e)
    generalize (upd (upd G2 tp (.tup [.int (i:Int),.int (b:Int),.int 1])) as[a] (.lst (ca.map V.ref++[.ref tp])))=G3 at B1 gD1 s3
    obtain⟨cb,eb,pb⟩:=B1 b bL
    refine⟨_,rfl,_,rfl,D,_,_,_,rfl,rfl,gD1,atI_nat (v:=V.ref as[b]) (by rw[List.getElem?_map,List.getElem?_eq_getElem bL];rfl),⟨_,_,rfl,eb⟩,_,rfl,_,rfl,_,rfl,(by show 3<=sizeLine;decide),fun tp2 htp2=>?_⟩
    have sT2:=Same.new (o:=.tup [.int (i:Int),.int (a:Int),.int (-1)]) htp2
    have lcb:(cb.map V.ref).length<sizeLine:=by
     have l1:=pb.length
     dsimp only at l1
     rw[List.length_append]at l1
     have l2:=Flw.arcsFrom_len b (ties.take i) 0
     unfold Flw.arcAt at l1
     have l3:(if(b:Int)=(a:Int)then [((i:Int),(b:Int),(1:Int))]else []).length<=1:=by split <;> simp
     rw[List.length_map,sizeLine_eq]
     lia
    refine⟨as[b],_,_,rfl,rfl,sT2 _ _ eb,lcb,?_⟩
    have B2:=ArcsOf.put (y:=((i:Int),(a:Int),-1)) nd bL (B1.same sT2) (sT2 _ _ eb) upd_same
    refine⟨_,_,_,_,rfl,fun u o e=>by rw[upd_ne (nb' u o e)];exact sT2 _ _ (s3 _ _ e),by rw[upd_ne (nD b bL)];exact sT2 _ _ gD1,fun i' h'=>?_⟩
    obtain⟨cs,e,p⟩:=B2 i' h'
    refine⟨cs,e,?_⟩
    rw[List.take_succ_eq_append_getElem it,Flw.arcAt_snoc,ex,til]
    exact p
   ·rintro σ G2 ⟨v4,v5,v6,v7,rfl,s2,gD,B⟩
    rw[List.length_map,h3l,List.take_length]at B
    exact⟨_,rfl,q D as G2 gD al B s2⟩
end
open PySem L2 PyProof.Rows
noncomputable def StepV(H:Hp)(v:V):Option (Int×Int×Int)->Prop
 |none=>v = .non
 |some x=>∃ c,v = .ref c/\H c=some (.tup (tri x))
noncomputable def TrAt(H:Hp)(kvs:List (Key×V))(tr:Flw.Tr):Prop:=Paired (fun kv x=>kv.1=Sum.inl x.1/\StepV H kv.2 x.2) kvs tr
theorem StepV.same{H H':Hp}{v:V}{o:Option (Int×Int×Int)}(h:StepV H v o)(s:∀ c xs,H c=some (.tup xs)->H' c=some (.tup xs)):StepV H' v o:=by
 cases o with
 |none=>exact h
 |some x=>obtain⟨c,e,g⟩:=h;exact⟨c,e,s _ _ g⟩
theorem TrAt.tups{H H':Hp}{kvs:List (Key×V)}{tr:Flw.Tr}(h:TrAt H kvs tr)(s:∀ c xs,H c=some (.tup xs)->H' c=some (.tup xs)):TrAt H' kvs tr:=Paired.mapP h fun _ _ z=>⟨z.1,z.2.same s⟩
theorem TrAt.keys{H:Hp}{kvs:List (Key×V)}{tr:Flw.Tr}(h:TrAt H kvs tr):kvs.map (·.1)=(Flw.keys tr).map Sum.inl:=by
 induction h with
 |nil=>rfl
 | @cons kv x kvs tr a b ih =>
  rw[List.map_cons,ih,a.1]
  rfl
theorem TrAt.none{H:Hp}{kvs:List (Key×V)}{tr:Flw.Tr}(h:TrAt H kvs tr){e:Int}(he:e∉Flw.keys tr):valV kvs (Sum.inl e)=none:=valV_no (by
 rw[h.keys]
 intro m
 obtain⟨x,hx,ex⟩:=List.mem_map.mp m
 injection ex with ex
 exact he (ex▸hx))
theorem TrAt.some{H:Hp}{kvs:List (Key×V)}{tr:Flw.Tr}(h:TrAt H kvs tr)(nd:(Flw.keys tr).Nodup){e:Int}{o:Option (Int×Int×Int)}(he:(e,o)∈tr):∃ v,valV kvs (Sum.inl e)=some v/\StepV H v o:=by
 induction h with
 |nil=>cases he
 | @cons kv x kvs tr a b ih =>
  have nd:x.1∉Flw.keys tr/\(Flw.keys tr).Nodup:=List.nodup_cons.mp nd
  rcases List.mem_cons.mp he with z | z
  ·subst z
   exact⟨kv.2,valV_pos a.1,a.2⟩
  ·rw[valV_neg]
   ·exact ih nd.2 z
   ·intro w
    rw[a.1]at w
    injection w with w
    exact nd.1 (w▸Flw.mem_keys z)
theorem TrAt.snoc{H:Hp}{kvs:List (Key×V)}{tr:Flw.Tr}(h:TrAt H kvs tr){e:Int}{v:V}{o:Option (Int×Int×Int)}(he:e∉Flw.keys tr)(hv:StepV H v o):TrAt H (putK kvs (Sum.inl e) v) (tr++[(e,o)]):=by
 rw[putK_new v (h.none he)]
 exact Paired.snoc h ⟨rfl,hv⟩
theorem same_put{H G:Hp}{d:Addr}{o:HO}(s:Same H G)(h:H d=none):Same H (upd G d o):=fun b u e=>by
 rw[upd_ne (ne_of_none e h)]
 exact s _ _ e
noncomputable def spTr:Sp:=fun vs H Q _=>∃ (t ar a q:Addr) (n:Nat) (ties:List Tie) (as:List Addr) (am:List Int) (b:Bool) (S:List Int) (turn:Int),vs=[.ref t,.ref ar,.ref a,.ref q,.int turn]/\WebAt H t n ties/\(∀ x∈ties,TieOk n x)/\n<=1000 /\
 H ar=some (.lst (as.map V.ref))/\as.length=n/\ArcsAt H as ties/\H a=some (.lst (am.map V.int))/\am.length=ties.length/\H q=some (sqO b (S.map V.int))/\(∀ s∈S,0<=s/\s<n)/\S.Nodup/\(turn=1\/turn = -1) /\
 ∀ (d:Addr) (kvs:List (Key×V)) (H':Hp),H d=none->H' d=some (.dK kvs)->TrAt H' kvs (Flw.trails n ties am turn S)->Same H H'->Q (.ref d) H'
theorem tie_at{H:Hp}{ts:Addr}{bs:List Addr}{ties:List Tie}(h3:Paired (fun a x=>H a=some (.tup (tieV x))) bs ties){j:Nat}(hj:j<ties.length):∃ c,atI (bs.map V.ref) (j:Int)=some (V.ref c)/\H c=some (.tup (tieV ties[j])):=by
 have bl:j<bs.length:=by rw[h3.length];exact hj
 exact⟨bs[j],atI_nat (by rw[List.getElem?_map,List.getElem?_eq_getElem bl];rfl),Paired.at h3 j bl hj⟩
section
variable{P:Program}{w:World}{K:PySem.W.Frag}{mg:Str->Option Value}{base:Heap}
noncomputable abbrev nTr:List Str:=["web","arcs","amounts","starts","turn","ties","trails","waiting","met","place","tie","far","sign"]
theorem scTr:FnScope nTr ["web","arcs","amounts","starts","turn"] (defScope sTrailsFrom):=⟨rfl,rfl,rfl,by decide +kernel,rfl,by decide +kernel,by decide +kernel⟩
theorem csTr1:CompScope ["start"] [none] nTr (defScope sTrailsFrom) (scO [(".0",.local),("start",.local)]):=⟨rfl,by decide +kernel,by decide +kernel,by decide +kernel,rfl,capB_ok (by decide +kernel)⟩
theorem ndTr1:(["start"]:List Str).Nodup:=by decide +kernel
theorem ok_tr{f:Addr}{fd:FuncData}(F:Fun K "trails_from" "trails_from" sTrailsFrom f fd)(T:Txt mg):FnOk P w K mg base CX0 1 f fd ["web","arcs","amounts","starts","turn"] spTr:=by
 refine F.ok scTr (fun vs H Q E h=>?_) (fun cdv A outer s H vs Q E hr h=>?_)
 ·obtain⟨t,ar,a,q,n,ties,as,am,b,S,turn,rfl,_⟩:=h
  rfl
 ·obtain⟨t,ar,a,q,n,ties,as,am,b,S,turn,rfl,W,ok,nb,har,al,B,ha,aml,hq,sr,sn,tn,fin⟩:=h
  obtain⟨⟨ts,bs,h1,h2,h3⟩,len⟩:=id W
  have h3l:bs.length=ties.length:=h3.length
  have sl:S.length<=n:=Flw.nodup_len sn sr
  have hu:=hu_of hr
  have hu0:=Nat.lt_of_succ_lt hu
  refine⟨_,(pss_cons (ps_set (i:=5) scTr.nd rfl (Or.inl rfl) (@pe_ix _ _ _ _ _ _ _ ix_tupH (pv 0) pe_int (fun _ _=>rfl)))
   (pss_cons (ps_dcomp (i:=6) scTr.nd rfl (Or.inl rfl) false hu0 rfl csTr1 (pi_seq b (pv 3)) (fun C s H fp=>(pg_name (i:=0) ndTr1 rfl (Or.inl rfl))) (fun C s H fp=>pf_nil) (fun C s H fp=>(pv 0)) (fun C s H fp=>pe_non))
   (pss_cons (ps_set (i:=7) scTr.nd rfl (Or.inl rfl) (pe_callTy (call_listH b) (by rfl) T.list boot_list (@pa_nam _ _ _ _ _ _ (pv 3) pa_nil)))
   (pss_cons (ps_set (i:=8) scTr.nd rfl (Or.inl rfl) pe_int)
   (pss_cons (ps_while PassesOwn.never (pt_cmpR op_lt (pv 8) (pe_callB call_lenH (by rfl) T.len PySem.boot_len (@pa_nam _ _ _ _ _ _ (pv 7) pa_nil)) (nomark _)) (pss_cons (ps_set (i:=9) scTr.nd rfl (Or.inl rfl) (@pe_ix _ _ _ _ _ _ _ ix_listH (pv 7) (pv 8) (fun _ _=>rfl)))
   (pss_cons (ps_aug (i:=8) scTr.nd rfl (Or.inl rfl) pe_int ip_add)
   (pss_one (ps_for PassesOwn.never rfl (pi_list (@pe_ix _ _ _ _ _ _ _ ix_listH (pv 1) (pv 9) (fun _ _=>rfl))) (pg_tup (n:=3) rfl (pgs_cons (pg_name (i:=10) scTr.nd rfl (Or.inl rfl)) (pgs_cons (pg_name (i:=11) scTr.nd rfl (Or.inl rfl)) (pgs_cons (pg_name (i:=12) scTr.nd rfl (Or.inl rfl)) pgs_nil))))
   (pss_one (ps_if (PW.pt (pw_and (pt_cmp (pc_dnotin hu (pv 11) (pv 6))) (pw_and1 (pt_cmpR op_gt (pe_op op_sub (@pe_ix _ _ _ _ _ _ _ ix_tupH (@pe_ix _ _ _ _ _ _ _ ix_tupH (pv 5) (pv 10) (fun _ _=>rfl)) pe_int (fun _ _=>rfl)) (pe_op op_mul (pe_op op_mul (pv 4) (pv 12)) (@pe_ix _ _ _ _ _ _ _ ix_listH (pv 2) (pv 10) (fun _ _=>rfl)))) pe_int (nomark _))))) (pss_cons (ps_dput hu (pv 6) (pv 11) (@pe_tup _ _ _ _ _ (@pa_nam _ _ _ _ _ _ (pv 9) (@pa_nam _ _ _ _ _ _ (pv 10) (@pa_nam _ _ _ _ _ _ (pv 12) pa_nil)))) rfl)
   (pss_one (ps_expr (pe_bmH PySem.F.slot_list_append PySem.F.type_list_append mt_append (pv 7) (@pa_nam _ _ _ _ _ _ (pv 11) pa_nil))))) pss_nil)))))))
   (pss_one (ps_ret (pv 6)))))))),?_⟩
  refine⟨_,rfl,t,_,_,_,rfl,rfl,h1,rfl,?_⟩
  refine⟨_,rfl,q,rfl,⟨_,sqB_of hq⟩,fun d hd=>?_⟩
  refine dcomp_seq (b:=b) (K:=K) (a:=q) (xs:=S.map V.int) (D:=d) (fun i G=>∃ kvs,G d=some (.dK kvs)/\TrAt G kvs (Flw.begin_ (S.take i))/\Same H G) ⟨[],upd_same,.nil,Same.new hd⟩ (fun i G _ z=>by obtain⟨_,_,_,s0⟩:=z;exact sqB_of (s0 _ _ hq)) ?_ ?_
  ·rintro i x G hx ⟨kvs,gd,tr,sG⟩
   obtain⟨il,e⟩:=List.getElem?_eq_some_iff.mp hx
   rw[List.length_map]at il
   rw[List.getElem_map]at e
   subst e
   have kl:kvs.length<=1000:=by
    have:=tr.length
    unfold Flw.begin_ at this
    rw[List.length_map,List.length_take]at this
    lia
   have no:S[i]∉Flw.keys (Flw.begin_ (S.take i)):=by
    rw[Flw.keys_begin]
    intro m
    obtain⟨j,hj,e⟩:=List.getElem_of_mem m
    rw[List.length_take]at hj
    rw[List.getElem_take]at e
    have:=(List.getElem_inj sn).mp e
    lia
   refine⟨trivial,tTru_if ⟨_,rfl,_,DPut.k (k:=Sum.inl S[i]) gd (by rw[sizeLine_eq];lia),_,upd_same,?_,same_put sG hd⟩⟩
   have tr':=TrAt.snoc (o:=none) (v:=.non) tr no rfl
   have eb:Flw.begin_ (S.take (i+1))=Flw.begin_ (S.take i)++[(S[i],none)]:=by
    unfold Flw.begin_
    rw[List.take_succ_eq_append_getElem il,List.map_append]
    rfl
   rw[eb]
   exact tr'.tups fun c xs z=>by rw[upd_ne (ne_of z gd (by intro z;cases z))];exact z
  rintro G ⟨kvs,gd,tr,sG⟩
  rw[List.length_map,List.take_length]at tr
  refine⟨_,rfl,q,_,rfl,sG _ _ hq,fun wl hwl=>?_⟩
  have sw:=Same.new (o:=.lst (S.map V.int)) hwl
  have wd:wl≠d:=fun z=>by rw[z,gd]at hwl;cases hwl
  have wl0:H wl=none:=sG.free hwl
  have TB:=Flw.trOk_begin (ties:=ties) (am:=am) (turn:=turn) sn
  refine⟨fun m σ G=>∃ (met:Nat) (tr:Flw.Tr) (kvs:List (Key×V)) (v9 v10 v11 v12:Option V),σ=[some (.ref t),some (.ref ar),some (.ref a),some (.ref q),some (.int turn),some (.ref ts),some (.ref d),some (.ref wl),some (.int met),v9,v10,v11,v12]/\m=n-met/\met<=tr.length/\G d=some (.dK kvs)/\TrAt G kvs tr/\G wl=some (.lst ((Flw.keys tr).map V.int))/\Flw.TrOk ties am turn S tr/\Flw.bfs ties am turn (n-met) met tr=Flw.trails n ties am turn S/\Same H G,
   ⟨_,0,Flw.begin_ S,kvs,none,none,none,none,rfl,rfl,Nat.zero_le _,sw _ _ gd,tr.tups fun c xs z=>sw _ _ z,by rw[upd_same,Flw.keys_begin],TB,rfl,sG.trans sw⟩,?_⟩
  clear hwl sw tr gd sG kvs TB
  rintro m σ G ⟨met,tr,kvs,v9,v10,v11,v12,rfl,rfl,mt,gd,TA,gw,TO,eb,sG⟩
  have tl:tr.length<=n:=TO.len ok sr
  have kl:(Flw.keys tr).length=tr.length:=by unfold Flw.keys;rw[List.length_map]
  refine⟨_,rfl,_,rfl,wl,_,rfl,gw,_,_,rfl,rfl,_,rfl,ite2 (fun hc=>?_) (fun hc=>?_)⟩
  ·have hc:met<tr.length:=by
    have:=of_decide_eq_true hc
    rw[List.length_map,kl]at this
    lia
   refine⟨fun σ' G'=>∃ m',m'<n-met/\∃ (met:Nat) (tr:Flw.Tr) (kvs:List (Key×V)) (v9 v10 v11 v12:Option V),σ'=[some (.ref t),some (.ref ar),some (.ref a),some (.ref q),some (.int turn),some (.ref ts),some (.ref d),some (.ref wl),some (.int met),v9,v10,v11,v12]/\m'=n-met/\met<=tr.length/\G' d=some (.dK kvs)/\TrAt G' kvs tr/\G' wl=some (.lst ((Flw.keys tr).map V.int))/\Flw.TrOk ties am turn S tr/\Flw.bfs ties am turn (n-met) met tr=Flw.trails n ties am turn S/\Same H G',fun σ' G' z=>z,?_⟩
   have pk:tr[met].1∈Flw.keys tr:=List.mem_map.mpr ⟨_,List.getElem_mem hc,rfl⟩
   obtain⟨p0,p1⟩:=TO.rng ok sr _ pk
   have eb':Flw.bfs ties am turn (n-(met+1)) (met+1) (Flw.visit ties am turn tr[met].1 tr (Flw.arcAt ties tr[met].1))=Flw.trails n ties am turn S:=by
    rw[<- eb,show n-met=(n-(met+1))+1 by lia]
    show _=(match tr[met]? with | none=>tr | some x=>Flw.bfs ties am turn (n-(met+1)) (met+1) (Flw.visit ties am turn x.1 tr (Flw.arcAt ties x.1)))
    rw[List.getElem?_eq_getElem hc]
   have atw:atI ((Flw.keys tr).map V.int) (met:Int)=some (V.int tr[met].1):=atI_nat (by rw[List.getElem?_map];unfold Flw.keys;rw[List.getElem?_map,List.getElem?_eq_getElem hc];rfl)
   refine⟨_,rfl,_,rfl,wl,_,_,_,rfl,rfl,gw,atw,?_⟩
   refine⟨_,rfl,_,_,rfl,rfl,?_⟩
   generalize tr[met].1=pl at *
   obtain⟨pl,rfl⟩:∃ j:Nat,pl=(j:Int):=⟨pl.toNat,by lia⟩
   have pL:pl<as.length:=by lia
   obtain⟨cs,ec,pc⟩:=B pl pL
   refine⟨_,rfl,_,rfl,ar,_,_,_,rfl,rfl,sG _ _ har,atI_nat (v:=V.ref as[pl]) (by rw[List.getElem?_map,List.getElem?_eq_getElem pL];rfl),as[pl],rfl,⟨_,SqL.of (sG _ _ ec)⟩,?_⟩
   have vk:∀ j,Flw.TrOk ties am turn S (Flw.visit ties am turn pl tr ((Flw.arcAt ties pl).take j))/\(∃ l,Flw.visit ties am turn pl tr ((Flw.arcAt ties pl).take j)=tr++l):=fun j=>by
    obtain⟨x,y,_⟩:=Flw.visit_ok (xs:=(Flw.arcAt ties pl).take j) TO pk fun x hx=>List.mem_of_mem_take hx
    exact⟨x,y⟩
   refine for_list (K:=K) (a:=as[pl]) (xs:=cs.map V.ref) (fun j σ' G'=>∃ (kvs:List (Key×V)) (v10 v11 v12:Option V),σ'=[some (.ref t),some (.ref ar),some (.ref a),some (.ref q),some (.int turn),some (.ref ts),some (.ref d),some (.ref wl),some (.int ((met:Int)+1)),some (.int pl),v10,v11,v12]/\G' d=some (.dK kvs)/\TrAt G' kvs (Flw.visit ties am turn pl tr ((Flw.arcAt ties pl).take j))/\G' wl=some (.lst ((Flw.keys (Flw.visit ties am turn pl tr ((Flw.arcAt ties pl).take j))).map V.int))/\Same H G')
    ⟨kvs,_,_,_,rfl,gd,TA,gw,sG⟩ (fun j σ' G' _ z=>by obtain⟨_,_,_,_,_,_,_,_,s⟩:=z;exact SqL.of (s _ _ ec)) ?_ ?_
   ·clear gd TA gw sG v10 v11 v12
    rintro j x σ' G' hx ⟨kvs,v10,v11,v12,rfl,gd,TA,gw,sG⟩
    obtain⟨il,e⟩:=List.getElem?_eq_some_iff.mp hx
    rw[List.length_map]at il
    rw[List.getElem_map]at e
    subst e
    have jl:j <(Flw.arcAt ties pl).length:=by rw[<- pc.length];exact il
    have hc':=sG _ _ (Paired.at pc j il jl)
    have mem:(Flw.arcAt ties pl)[j]∈Flw.arcAt ties pl:=List.getElem_mem jl
    obtain⟨TO1,_⟩:=vk j
    obtain⟨TO2,_⟩:=vk (j+1)
    have ev:Flw.visit ties am turn pl tr ((Flw.arcAt ties pl).take (j+1))=Flw.addA ties am turn pl (Flw.visit ties am turn pl tr ((Flw.arcAt ties pl).take j)) (Flw.arcAt ties pl)[j]:=by
     rw[List.take_succ_eq_append_getElem jl]
     unfold Flw.visit
     rw[List.foldl_append]
     rfl
    rw[ev]at TO2
    rw[ev]
    generalize Flw.visit ties am turn pl tr ((Flw.arcAt ties pl).take j)=tr1 at *
    obtain⟨i,hi,ei,q4⟩:=Flw.mem_arc.mp mem
    have fr:=Flw.far_ok (n:=n) ok mem
    generalize (Flw.arcAt ties pl)[j]=x at *
    obtain⟨x1,fa,sg⟩:=x
    have ei:x1=(i:Int):=ei
    subst ei
    have sg1:sg=1\/sg = -1:=by
     rcases q4 with⟨_,z⟩ |⟨_,z⟩
     ·exact .inl (by injection z)
     ·exact .inr (by injection z)
    obtain⟨c,atc,gc⟩:=tie_at (ts:=ts) (Paired.mapP h3 fun a x z=>sG _ _ z) hi
    have rm:Flw.room ties am turn ((i:Int),fa,sg)=ties[i].2.2-turn * sg * am.getD i 0:=by
     unfold Flw.room
     dsimp only
     rw[Flw.wAt_nat hi,Flw.aAt_nat]
    have b1:-(2 ^ 64)<turn * sg/\turn * sg<2 ^ 64:=by
     rcases tn with z | z <;> rcases sg1 with y | y <;> rw[z,y] <;> decide
    have b0:-(2 ^ 64)<turn/\turn<2 ^ 64:=by
     rcases tn with z | z <;> rw[z] <;> decide
    have tl1:tr1.length<=n:=TO1.len ok sr
    have kvl:kvs.length<=n:=by rw[TA.length];exact tl1
    refine⟨cs[j],_,rfl,SqT.of hc',rfl,_,_,rfl,_,_,rfl,_,_,rfl,rfl,?_⟩
    refine⟨_,rfl,_,rfl,d,_,rfl,DGet.k (k:=Sum.inl fa) gd,_,rfl,?_⟩
    by_cases kf:fa∈Flw.keys tr1
    ·obtain⟨y,hy,ey⟩:=List.mem_map.mp kf
     obtain⟨v,ev',_⟩:=TA.some TO1.nd (e:=fa) (o:=y.2) (by rw[<- ey];exact hy)
     rw[ev']
     refine iteF (iteF ?_)
     have:Flw.addA ties am turn pl tr1 ((i:Int),fa,sg)=tr1:=if_neg fun z=>z.1 kf
     rw[this]
     exact⟨kvs,_,_,_,rfl,gd,TA,gw,sG⟩
    ·rw[TA.none kf]
     refine iteT ?_
     refine⟨_,rfl,_,rfl,ts,_,_,_,rfl,rfl,sG _ _ h2,atc,c,_,_,_,rfl,rfl,gc,rfl,_,rfl,_,rfl,_,_,rfl,rfl,.inl b0,_,rfl,_,rfl,a,_,_,_,rfl,rfl,sG _ _ ha,atI_getD (by lia),_,_,rfl,rfl,.inl b1,_,_,rfl,rfl,_,_,rfl,rfl,_,rfl,ite2 (fun hz=>?_) (fun hz=>?_)⟩
     ·have hz:0<Flw.room ties am turn ((i:Int),fa,sg):=by rw[rm];exact of_decide_eq_true hz
      refine⟨_,rfl,_,rfl,_,rfl,(by show 3<=sizeLine;decide),fun tp htp=>?_⟩
      have sT:=Same.new (o:=.tup [.int (pl:Int),.int (i:Int),.int sg]) htp
      have gd1:=sT _ _ gd
      refine⟨_,rfl,_,rfl,d,_,rfl,DPut.k (k:=Sum.inl fa) gd1 (by rw[sizeLine_eq];lia),?_⟩
      have tpd:tp≠d:=fun z=>by rw[z,gd]at htp;cases htp
      have gw1:(upd (upd G' tp (.tup [.int (pl:Int),.int (i:Int),.int sg])) d (.dK (putK kvs (Sum.inl fa) (.ref tp)))) wl=some (.lst ((Flw.keys tr1).map V.int)):=by rw[upd_ne wd];exact sT _ _ gw
      refine⟨_,rfl,⟨_,_,rfl,gw1⟩,_,rfl,wl,_,_,rfl,rfl,gw1,by rw[List.length_map];unfold Flw.keys;rw[List.length_map,sizeLine_eq];lia,?_⟩
      have:Flw.addA ties am turn pl tr1 ((i:Int),fa,sg)=tr1++[(fa,some ((pl:Int),(i:Int),sg))]:=if_pos ⟨kf,hz⟩
      rw[this]
      refine⟨putK kvs (Sum.inl fa) (.ref tp),_,_,_,rfl,by rw[upd_ne (Ne.symm wd),upd_same],?_,by rw[upd_same,Flw.keys_app,List.map_append];rfl,same_put (same_put (sG.trans sT) hd) wl0⟩
      refine(TrAt.snoc (TA.tups fun c xs z=>sT _ _ z) kf (o:=some ((pl:Int),(i:Int),sg)) (v:=.ref tp) ⟨tp,rfl,upd_same⟩).tups fun c xs z=>?_
      rw[upd_ne (ne_of z (sT _ _ gw) (by intro z;cases z)),upd_ne (ne_of z gd1 (by intro z;cases z))]
      exact z
     ·have hz:¬ 0<Flw.room ties am turn ((i:Int),fa,sg):=by rw[rm];exact fun w=>hz (decide_eq_true w)
      have:Flw.addA ties am turn pl tr1 ((i:Int),fa,sg)=tr1:=if_neg fun z=>hz z.2
      rw[this]
      exact⟨kvs,_,_,_,rfl,gd,TA,gw,sG⟩
   ·rintro σ' G' ⟨kvs,v10,v11,v12,rfl,gd,TA,gw,sG⟩
    obtain⟨TO2,l,el⟩:=vk (cs.map V.ref).length
    have tk:(Flw.arcAt ties pl).take (cs.map V.ref).length=Flw.arcAt ties pl:=by rw[List.length_map,pc.length,List.take_length]
    rw[tk]at TA gw TO2 el
    refine⟨n-(met+1),by lia,met+1,_,kvs,_,_,_,_,rfl,rfl,by rw[el,List.length_append];lia,gd,TA,gw,TO2,eb',sG⟩
  ·have hc:tr.length<=met:=by
    have:(Flw.keys tr).length<=met:=by simpa using hc
    lia
   have e1:Flw.bfs ties am turn (n-met) met tr=tr:=by
    cases n-met with
    |zero=>rfl
    |succ k =>
     show(match tr[met]? with | none=>tr | some x=>_)=tr
     rw[List.getElem?_eq_none hc]
   rw[e1]at eb
   subst eb
   exact⟨_,rfl,fin d kvs G hd gd TA sG⟩
end
open PySem L2 PyProof.Rows
noncomputable abbrev WayAt(H:Hp)(cs:List Addr)(w:List (Int×Int)):Prop:=Paired (fun c (x:Int×Int)=>H c=some (.tup [.int x.1,.int x.2])) cs w
noncomputable def spWy:Sp:=fun vs H Q _=>∃ (d:Addr) (e:Int) (kvs:List (Key×V)) (ties:List Tie) (am S:List Int) (turn:Int) (tr:Flw.Tr),vs=[.ref d,.int e]/\Rd H d (.dK kvs)/\TrAt H kvs tr/\Flw.TrOk ties am turn S tr/\e∈Flw.keys tr/\tr.length<=1000 /\
 ∀ (wl:Addr) (cs:List Addr) (H':Hp),H wl=none->H' wl=some (.lst (cs.map V.ref))->WayAt H' cs (Flw.way tr e)->Same H H'->Q (.ref wl) H'
theorem rd_same{H H':Hp}{d:Addr}{u:HO}(h:Rd H d u)(s:Same H H'):Rd H' d u:=by
 rcases h with h |⟨o,h⟩
 ·exact .inl (s _ _ h)
 ·exact .inr ⟨o,s _ _ h⟩
theorem mem_of_key{tr:Flw.Tr}{e:Int}(h:e∈Flw.keys tr):∃ o,(e,o)∈tr:=by
 obtain⟨y,hy,ey⟩:=List.mem_map.mp h
 exact⟨y.2,by rw[<- ey];exact hy⟩
theorem getD_of{H:Hp}{d:Addr}{kvs:List (Key×V)}{e:Int}{v:V}(h:Rd H d (.dK kvs))(ev:valV kvs (Sum.inl e)=some v):DGet H d (.int e) (some v):=by
 rw[<- ev]
 exact DGet.rd (k:=Sum.inl e) h
section
variable{P:Program}{w:World}{K:PySem.W.Frag}{mg:Str->Option Value}{base:Heap}
noncomputable abbrev nWy:List Str:=["trails","end","way","step","place","tie","sign"]
theorem scWy:FnScope nWy ["trails","end"] (defScope sWayTo):=⟨rfl,rfl,rfl,by decide +kernel,rfl,by decide +kernel,by decide +kernel⟩
theorem ok_wy{f:Addr}{fd:FuncData}(F:Fun K "way_to" "way_to" sWayTo f fd):FnOk P w K mg base CX0 1 f fd ["trails","end"] spWy:=by
 refine F.ok scWy (fun vs H Q E h=>?_) (fun cdv A outer s H vs Q E hr h=>?_)
 ·obtain⟨d,e,kvs,ties,am,S,turn,tr,rfl,_⟩:=h
  rfl
 ·obtain⟨d,e,kvs,ties,am,S,turn,tr,rfl,hd,TA,TO,ek,tl,fin⟩:=h
  have hu:=hu_of hr
  refine⟨_,(pss_cons (ps_set (i:=2) scWy.nd rfl (Or.inl rfl) (@pe_lst _ _ _ _ pa_nil))
   (pss_cons (ps_set (i:=3) scWy.nd rfl (Or.inl rfl) (pe_dget hu (pv 0) (pv 1) (fun _ _=>rfl)))
   (pss_cons (ps_while PassesOwn.never (pt_cmp (pc_notN (pv 3))) (pss_cons (ps_asg (pv 3) (pg_tup (n:=3) rfl (pgs_cons (pg_name (i:=4) scWy.nd rfl (Or.inl rfl)) (pgs_cons (pg_name (i:=5) scWy.nd rfl (Or.inl rfl)) (pgs_cons (pg_name (i:=6) scWy.nd rfl (Or.inl rfl)) pgs_nil)))))
   (pss_cons (ps_expr (pe_bmH PySem.F.slot_list_append PySem.F.type_list_append mt_append (pv 2) (@pa_tup _ _ _ _ _ _ _ (@pe_tup _ _ _ _ _ (@pa_nam _ _ _ _ _ _ (pv 5) (@pa_nam _ _ _ _ _ _ (pv 6) pa_nil))) pa_nil)))
   (pss_one (ps_set (i:=3) scWy.nd rfl (Or.inl rfl) (pe_dget hu (pv 0) (pv 4) (fun _ _=>rfl)))))))
   (pss_one (ps_ret (pv 2)))))),?_⟩
  refine⟨(by show 0<=sizeLine;decide),fun wl hwl=>?_⟩
  have sw:=Same.new (o:=.lst []) hwl
  obtain⟨o,ho⟩:=mem_of_key ek
  obtain⟨sv,ev,hv⟩:=TA.some TO.nd ho
  refine⟨_,rfl,_,rfl,d,sv,rfl,getD_of (rd_same hd sw) ev,?_⟩
  refine⟨fun m σ G=>∃ (cur:Int) (o:Option (Int×Int×Int)) (sv:V) (cs:List Addr) (acc:List (Int×Int)) (v4 v5 v6:Option V),σ=[some (.ref d),some (.int e),some (.ref wl),some sv,v4,v5,v6]/\m=(Flw.way tr cur).length/\(cur,o)∈tr/\StepV H sv o/\G wl=some (.lst (cs.map V.ref))/\WayAt G cs acc/\acc++Flw.way tr cur=Flw.way tr e/\Same H G,
   ⟨_,e,o,sv,[],[],none,none,none,rfl,rfl,ho,hv,upd_same,.nil,rfl,sw⟩,?_⟩
  clear ho ev hv
  rintro m σ G ⟨cur,o,sv,cs,acc,v4,v5,v6,rfl,rfl,ho,hv,gw,wa,ew,sG⟩
  have we:=Flw.way_eq TO cur o ho
  refine⟨_,rfl,_,rfl,?_⟩
  cases o with
  |none =>
   have hv:sv = .non:=hv
   subst hv
   refine iteF ?_
   dsimp only at we
   rw[we,List.append_nil]at ew
   exact⟨_,rfl,fin wl cs G hwl gw (ew▸wa) sG⟩
  |some x =>
   obtain⟨c,rfl,gc⟩:=hv
   obtain⟨p,t,sg⟩:=x
   dsimp only at we
   refine iteT ?_
   refine⟨fun σ' G'=>∃ m',m' <(Flw.way tr cur).length/\∃ (cur:Int) (o:Option (Int×Int×Int)) (sv:V) (cs:List Addr) (acc:List (Int×Int)) (v4 v5 v6:Option V),σ'=[some (.ref d),some (.int e),some (.ref wl),some sv,v4,v5,v6]/\m'=(Flw.way tr cur).length/\(cur,o)∈tr/\StepV H sv o/\G' wl=some (.lst (cs.map V.ref))/\WayAt G' cs acc/\acc++Flw.way tr cur=Flw.way tr e/\Same H G',fun σ' G' z=>z,?_⟩
   refine⟨_,rfl,c,_,rfl,SqT.of (sG _ _ gc),rfl,_,_,rfl,_,_,rfl,_,_,rfl,rfl,?_⟩
   have cl:cs.length<=tr.length:=by
    have:=wa.length
    have h1:=congrArg List.length ew
    rw[List.length_append]at h1
    have:=Flw.way_len tr e
    lia
   refine⟨_,rfl,⟨_,_,rfl,gw⟩,_,rfl,_,rfl,(by show 2<=sizeLine;decide),fun tp htp=>?_⟩
   have sT:=Same.new (o:=.tup [.int t,.int sg]) htp
   have gw1:=sT _ _ gw
   refine⟨wl,_,_,rfl,rfl,gw1,by rw[List.length_map,sizeLine_eq];lia,?_⟩
   have s2:Same H (upd (upd G tp (.tup [.int t,.int sg])) wl (.lst (cs.map V.ref++[.ref tp]))):=fun b u z=>by
    rw[upd_ne (ne_of_none z hwl)]
    exact sT _ _ (sG _ _ z)
   have tw:tp≠wl:=fun z=>by rw[z,gw]at htp;cases htp
   have wa1:WayAt (upd (upd G tp (.tup [.int t,.int sg])) wl (.lst (cs.map V.ref++[.ref tp]))) (cs++[tp]) (acc++[(t,sg)]):=by
    refine Paired.snoc (Paired.mapP wa fun c x z=>?_) ?_
    ·rw[upd_ne (ne_of z gw (by intro z;cases z))];exact sT _ _ z
    ·rw[upd_ne tw,upd_same]
   have gw2:(upd (upd G tp (.tup [.int t,.int sg])) wl (.lst (cs.map V.ref++[.ref tp]))) wl=some (.lst ((cs++[tp]).map V.ref)):=by rw[upd_same,List.map_append];rfl
   generalize (upd (upd G tp (.tup [.int t,.int sg])) wl (.lst (cs.map V.ref++[.ref tp])))=G2 at s2 wa1 gw2
   have pk:=TO.par _ _ _ _ ho
   obtain⟨o',ho'⟩:=mem_of_key pk
   obtain⟨sv',ev',hv'⟩:=TA.some TO.nd ho'
   refine⟨_,rfl,_,rfl,d,sv',rfl,getD_of (rd_same hd s2) ev',?_⟩
   exact⟨_,by rw[we];exact Nat.lt_succ_self _,p,o',sv',cs++[tp],acc++[(t,sg)],_,_,_,rfl,rfl,ho',hv',gw2,wa1,by rw[<- ew,we,List.append_assoc];rfl,s2⟩
noncomputable def spPu:Sp:=fun vs H Q _=>∃ (t a wl:Addr) (most:Int) (n:Nat) (ties:List Tie) (am:List Int) (cs:List Addr) (wy:List (Int×Int)),vs=[.ref t,.ref a,.ref wl,.int most]/\WebAt H t n ties/\H a=some (.lst (am.map V.int))/\am.length=ties.length/\H wl=some (.lst (cs.map V.ref))/\WayAt H cs wy/\a≠wl/\wy.length<=1000 /\
 (∀ x∈wy,∃ j:Nat,j<ties.length/\x.1=(j:Int)/\(x.2=1\/x.2 = -1))/\∀ (H':Hp),H' a=some (.lst ((Flw.pushA (Flw.more ties am most wy) am wy).map V.int))->Kept a H H'->Q (.int (Flw.more ties am most wy)) H'
noncomputable abbrev nPu:List Str:=["web","amounts","way","most","more","tie","sign"]
theorem scPu:FnScope nPu ["web","amounts","way","most"] (defScope sPush):=⟨rfl,rfl,rfl,by decide +kernel,rfl,by decide +kernel,by decide +kernel⟩
theorem csPu1:CompScope ["tie","sign","web","amounts"] [none,none,some 0,some 1] nPu (defScope sPush) (scO [(".0",.local),("tie",.local),("sign",.local),("amounts",.free),("web",.free)]):=⟨rfl,by decide +kernel,by decide +kernel,by decide +kernel,rfl,capB_ok (by decide +kernel)⟩
theorem ndPu1:(["tie","sign","web","amounts"]:List Str).Nodup:=by decide +kernel
theorem ok_pu{f:Addr}{fd:FuncData}(F:Fun K "push" "push" sPush f fd)(T:Txt mg):FnOk P w K mg base CX0 1 f fd ["web","amounts","way","most"] spPu:=by
 refine F.ok scPu (fun vs H Q E h=>?_) (fun cdv A outer s H vs Q E hr h=>?_)
 ·obtain⟨t,a,wl,most,n,ties,am,cs,wy,rfl,_⟩:=h
  rfl
 ·obtain⟨t,a,wl,most,n,ties,am,cs,wy,rfl,W,ha,al,hw,wa,aw,wn,st,fin⟩:=h
  obtain⟨⟨ts,bs,h1,h2,h3⟩,len⟩:=id W
  refine⟨_,(pss_cons (ps_set (i:=4) scPu.nd rfl (Or.inl rfl) (pe_callB (call_minLH rfl) (by rfl) T.min boot_min (@pa_bin _ _ _ _ _ _ _ _ (pe_op op_cat (@pe_lst _ _ _ _ (@pa_nam _ _ _ _ _ _ (pv 3) pa_nil)) (pe_comp rfl csPu1 (pi_list (pv 2)) (fun C s H fp=>(pg_tupK K rfl (n:=2) rfl (pgs_cons (pg_name (i:=0) ndPu1 rfl (Or.inl rfl)) (pgs_cons (pg_name (i:=1) ndPu1 rfl (Or.inl rfl)) pgs_nil)) rfl rfl)) (fun C s H fp=>pf_nil) (fun C s H fp=>(pe_op op_sub (@pe_ix _ _ _ _ _ _ _ ix_tupH (@pe_ix _ _ _ _ _ _ _ ix_tupH (@pe_ix _ _ _ _ _ _ _ ix_tupH (pv 2) pe_int (fun _ _=>rfl)) (pv 0) (fun _ _=>rfl)) pe_int (fun _ _=>rfl)) (pe_op op_mul (pv 1) (@pe_ix _ _ _ _ _ _ _ ix_listH (pv 3) (pv 0) (fun _ _=>rfl))))))) pa_nil)))
   (pss_cons (ps_for PassesOwn.never rfl (pi_list (pv 2)) (pg_tup (n:=2) rfl (pgs_cons (pg_name (i:=5) scPu.nd rfl (Or.inl rfl)) (pgs_cons (pg_name (i:=6) scPu.nd rfl (Or.inl rfl)) pgs_nil)))
   (pss_one (ps_augS (pv 1) (pv 5) get_listH (pe_op op_mul (pv 6) (pv 4)) ip_add set_list)))
   (pss_one (ps_ret (pv 4))))),?_⟩
  refine⟨_,rfl,(by show 1<=sizeLine;decide),fun l1 hl1=>?_⟩
  have s1:=Same.new (o:=.lst [V.int most]) hl1
  have g1:(upd H l1 (.lst [V.int most])) l1=some (.lst [V.int most]):=upd_same
  generalize (upd H l1 (.lst [V.int most]))=H1 at s1 g1
  refine⟨_,rfl,wl,rfl,⟨_,SqL.of (s1 _ _ hw)⟩,?_⟩
  refine comp_list (K:=K) (a:=wl) (xs:=cs.map V.ref) (fun j ys G=>Same H1 G/\ys=((wy.take j).map fun x=>Flw.wAt ties x.1-x.2 * Flw.aAt am x.1).map V.int) (by rw[List.length_map,wa.length,sizeLine_eq];lia) ⟨Same.refl _,rfl⟩ (fun j ys G _ z=>SqL.of (z.1 _ _ (s1 _ _ hw))) ?_ ?_
  ·rintro j x ys G hx ⟨sG,rfl⟩
   obtain⟨il,e⟩:=List.getElem?_eq_some_iff.mp hx
   rw[List.length_map]at il
   rw[List.getElem_map]at e
   subst e
   have jl:j<wy.length:=by rw[<- wa.length];exact il
   have s2:=s1.trans sG
   have hc:=s2 _ _ (Paired.at wa j il jl)
   obtain⟨i,hi,ei,sg⟩:=st _ (List.getElem_mem jl)
   have tk:=List.take_succ_eq_append_getElem jl
   generalize wy[j]=x at *
   obtain⟨x1,sn⟩:=x
   have ei:x1=(i:Int):=ei
   subst ei
   have sg:sn=1\/sn = -1:=sg
   have b0:-(2 ^ 64)<sn/\sn<2 ^ 64:=by rcases sg with z | z <;> rw[z] <;> decide
   obtain⟨c,atc,gc⟩:=tie_at (ts:=ts) (Paired.mapP h3 fun a x z=>s2 _ _ z) hi
   refine⟨cs[j],_,rfl,SqT.of hc,rfl,_,_,rfl,_,_,rfl,rfl,⟨rfl,rfl,trivial⟩,tTru_if ?_⟩
   refine⟨_,rfl,t,_,_,_,rfl,rfl,s2 _ _ h1,rfl,_,rfl,ts,_,_,_,rfl,rfl,s2 _ _ h2,atc,c,_,_,_,rfl,rfl,gc,rfl,_,rfl,_,rfl,_,rfl,a,_,_,_,rfl,rfl,s2 _ _ ha,atI_getD (by lia),_,_,rfl,rfl,.inl b0,_,_,rfl,rfl,sG,?_⟩
   rw[tk,List.map_append,List.map_append]
   congr 1
   show [V.int (ties[i].2.2-sn * am.getD i 0)]=[V.int (Flw.wAt ties (i:Int)-sn * Flw.aAt am (i:Int))]
   rw[Flw.wAt_nat hi,Flw.aAt_nat]
  rintro ys G yl ⟨sG,rfl⟩ D hD
  rw[List.length_map,wa.length,List.take_length]
  have s2:=s1.trans sG
  have sD:=Same.new (o:=.lst ((wy.map fun x=>Flw.wAt ties x.1-x.2 * Flw.aAt am x.1).map V.int)) hD
  have gD:(upd G D (.lst ((wy.map fun x=>Flw.wAt ties x.1-x.2 * Flw.aAt am x.1).map V.int))) D=_:=upd_same
  have s3:=s2.trans sD
  have g13:=sD _ _ (sG _ _ g1)
  generalize (upd G D (.lst ((wy.map fun x=>Flw.wAt ties x.1-x.2 * Flw.aAt am x.1).map V.int)))=H3 at gD s3 g13
  refine⟨l1,D,_,_,rfl,rfl,g13,gD,by rw[List.length_map,List.length_map,sizeLine_eq];show 1+_<=_;lia,fun p hp=>?_⟩
  refine⟨p,Flw.rooms ties am most wy,rfl,by rw[upd_same];rfl,by unfold Flw.rooms;simp,fun m hm hl=>?_⟩
  have em:m=Flw.more ties am most wy:=Flw.minL_eq hm hl
  subst em
  have s4:=s3.trans (Same.new (o:=.lst ([V.int most]++(wy.map fun x=>Flw.wAt ties x.1-x.2 * Flw.aAt am x.1).map V.int)) hp)
  generalize (upd H3 p _)=H4 at s4
  generalize Flw.more ties am most wy=m at *
  refine⟨_,rfl,wl,rfl,⟨_,SqL.of (s4 _ _ hw)⟩,?_⟩
  refine for_list (K:=K) (a:=wl) (xs:=cs.map V.ref) (fun j σ G=>∃ (v5 v6:Option V),σ=[some (.ref t),some (.ref a),some (.ref wl),some (.int most),some (.int m),v5,v6]/\G a=some (.lst ((Flw.pushA m am (wy.take j)).map V.int))/\Kept a H G)
   ⟨none,none,rfl,s4 _ _ ha,fun b o _ z=>s4 _ _ z⟩ (fun j σ G _ z=>by obtain⟨_,_,_,_,k⟩:=z;exact SqL.of (k _ _ (Ne.symm aw) hw)) ?_ ?_
  ·rintro j x σ G hx ⟨v5,v6,rfl,ga,kG⟩
   obtain⟨il,e⟩:=List.getElem?_eq_some_iff.mp hx
   rw[List.length_map]at il
   rw[List.getElem_map]at e
   subst e
   have jl:j<wy.length:=by rw[<- wa.length];exact il
   have hc:=Paired.at wa j il jl
   have hc':=kG _ _ (ne_of hc ha (by intro z;cases z)) hc
   obtain⟨i,hi,ei,sg⟩:=st _ (List.getElem_mem jl)
   have tk:Flw.pushA m am (wy.take (j+1))=Flw.push1 m (Flw.pushA m am (wy.take j)) wy[j]:=by
    rw[List.take_succ_eq_append_getElem jl]
    unfold Flw.pushA
    rw[List.foldl_append]
    rfl
   rw[tk]
   have pl:i <(Flw.pushA m am (wy.take j)).length:=by rw[Flw.push_len];lia
   generalize wy[j]=x at *
   obtain⟨x1,sn⟩:=x
   have ei:x1=(i:Int):=ei
   subst ei
   have sg:sn=1\/sn = -1:=sg
   have b0:-(2 ^ 64)<sn/\sn<2 ^ 64:=by rcases sg with z | z <;> rw[z] <;> decide
   refine⟨cs[j],_,rfl,SqT.of hc',rfl,_,_,rfl,_,_,rfl,rfl,?_⟩
   refine⟨_,rfl,_,rfl,a,_,_,_,rfl,rfl,ga,atI_getD pl,_,rfl,_,rfl,_,_,rfl,rfl,.inl b0,_,_,rfl,rfl,a,_,_,_,rfl,rfl,ga,by rw[List.length_map];exact ixN_nat pl,?_⟩
   rw[map_setI]
   exact⟨_,_,rfl,upd_same,kG.trans Kept.at⟩
  ·rintro σ G ⟨v5,v6,rfl,ga,kG⟩
   rw[List.length_map,wa.length,List.take_length]at ga
   exact⟨_,rfl,fin G ga kG⟩
noncomputable def spVa:Sp:=fun vs H Q _=>∃ (t a q:Addr) (n:Nat) (ties:List Tie) (am:List Int) (b:Bool) (S:List Int),vs=[.ref t,.ref a,.ref q]/\WebAt H t n ties/\(∀ x∈ties,TieOk n x)/\n<=1000/\H a=some (.lst (am.map V.int))/\am.length=ties.length/\H q=some (sqO b (S.map V.int))/\(∀ s∈S,0<=s/\s<n)/\S.length<=1000 /\
 ∀ (H':Hp),Same H H'->Q (.int (Flw.val ties am S)) H'
noncomputable abbrev nVa:List Str:=["web","amounts","sources","given"]
theorem scVa:FnScope nVa ["web","amounts","sources"] (defScope sValueOf):=⟨rfl,rfl,rfl,by decide +kernel,rfl,by decide +kernel,by decide +kernel⟩
theorem csVa1:CompScope ["source","given"] [none,some 3] nVa (defScope sValueOf) (scO [(".0",.local),("source",.local),("given",.free)]):=⟨rfl,by decide +kernel,by decide +kernel,by decide +kernel,rfl,capB_ok (by decide +kernel)⟩
theorem ndVa1:(["source","given"]:List Str).Nodup:=by decide +kernel
theorem ok_va{f g:Addr}{fd gd:FuncData}(F:Fun K "value_of" "value_of" sValueOf f fd)(T:Txt mg)(GG:CalF P w K mg base 1 "given_at" ["web","amounts"] spGv g gd):FnOk P w K mg base CX0 2 f fd ["web","amounts","sources"] spVa:=by
 refine F.ok scVa (fun vs H Q E h=>?_) (fun cdv A outer s H vs Q E hr h=>?_)
 ·obtain⟨t,a,q,n,ties,am,b,S,rfl,_⟩:=h
  rfl
 ·obtain⟨t,a,q,n,ties,am,b,S,rfl,W,ok,nb,ha,al,hq,sr,sl,fin⟩:=h
  refine⟨_,(pss_cons (ps_set (i:=3) scVa.nd rfl (Or.inr rfl) (pe_call GG.ok hr rfl GG.mg GG.kp GG.bd .nil pass0 (@pa_nam _ _ _ _ _ _ (pv 0) (@pa_nam _ _ _ _ _ _ (pv 1) pa_nil))))
   (pss_one (ps_ret (pe_callB (call_sumH rfl) (by rfl) T.sum boot_sum (@pa_comp _ _ _ _ _ _ _ _ (pe_comp rfl csVa1 (pi_seq b (pv 2)) (fun C s H fp=>(pg_name (i:=0) ndVa1 rfl (Or.inl rfl))) (fun C s H fp=>pf_nil) (fun C s H fp=>(@pe_ix _ _ _ _ _ _ _ ix_listH (pv 1) (pv 0) (fun _ _=>rfl)))) pa_nil))))),?_⟩
  refine⟨_,rfl,_,rfl,t,a,n,ties,am,rfl,W,ok,nb,ha,al,fun p gs H1 hp gp gl gv s1=>?_⟩
  refine⟨_,rfl,q,rfl,⟨_,sqB_of (s1 _ _ hq)⟩,?_⟩
  refine comp_seq (b:=b) (K:=K) (a:=q) (xs:=S.map V.int) (fun j ys G=>Same H1 G/\ys=((S.take j).map (Flw.net ties am)).map V.int) (by rw[List.length_map,sizeLine_eq];lia) ⟨Same.refl _,rfl⟩ (fun j ys G _ z=>sqB_of (z.1 _ _ (s1 _ _ hq))) ?_ ?_
  ·rintro j x ys G hx ⟨sG,rfl⟩
   obtain⟨il,e⟩:=List.getElem?_eq_some_iff.mp hx
   rw[List.length_map]at il
   rw[List.getElem_map]at e
   subst e
   obtain⟨x0,x1⟩:=sr _ (List.getElem_mem il)
   have tk:=List.take_succ_eq_append_getElem il
   generalize S[j]=x at *
   obtain⟨x,rfl⟩:∃ j:Nat,x=(j:Int):=⟨x.toNat,by lia⟩
   refine⟨⟨rfl,trivial⟩,tTru_if ⟨_,rfl,_,rfl,p,_,_,_,rfl,rfl,sG _ _ gp,atI_getD (by lia),sG,?_⟩⟩
   rw[tk,List.map_append,List.map_append,gv x (by lia)]
   rfl
  rintro ys G yl ⟨sG,rfl⟩ D hD
  rw[List.length_map,List.take_length]
  exact⟨D,_,rfl,upd_same,fin _ (s1.trans (sG.trans (Same.new hD)))⟩
end
open PySem L2 PyProof.Rows
theorem WebAt.kept{p:Addr}{H H':Hp}{t:Addr}{n:Nat}{ties:List Tie}{o:HO}(W:WebAt H t n ties)(k:Kept p H H')(hp:H p=some o)(hne:∀ xs,o≠.tup xs):WebAt H' t n ties:=by
 obtain⟨⟨ts,as,h1,h2,h3⟩,l⟩:=W
 exact⟨⟨ts,as,k _ _ (ne_of h1 hp fun e=>hne _ e.symm) h1,k _ _ (ne_of h2 hp fun e=>hne _ e.symm) h2,Paired.mapP h3 fun a x e=>k _ _ (ne_of e hp fun e=>hne _ e.symm) e⟩,l⟩
theorem Same.kept{p:Addr}{H H':Hp}(s:Same H H'):Kept p H H':=fun b o _ e=>s b o e
noncomputable def spSe:Sp:=fun vs H Q _=>∃ (t ar a q r:Addr) (most:Int) (n:Nat) (ties:List Tie) (as:List Addr) (am:List Int) (b c:Bool) (S T:List Int),vs=[.ref t,.ref ar,.ref a,.ref q,.ref r,.int most]/\WebAt H t n ties/\(∀ x∈ties,TieOk n x)/\n<=1000 /\
 H ar=some (.lst (as.map V.ref))/\as.length=n/\ArcsAt H as ties/\H a=some (.lst (am.map V.int))/\am.length=ties.length/\H q=some (sqO b (S.map V.int))/\H r=some (sqO c (T.map V.int))/\Flw.Ends n S T/\a≠ar/\a∉as/\a≠q/\a≠r /\
 ∀ (am':List Int) (H':Hp),Flw.Sends n ties S T most am am'->H' a=some (.lst (am'.map V.int))->am'.length=ties.length->Kept a H H'->Q .non H'
section
variable{P:Program}{w:World}{K:PySem.W.Frag}{mg:Str->Option Value}{base:Heap}
noncomputable abbrev nSe:List Str:=["web","arcs","amounts","sources","sinks","most","trails","ends"]
theorem scSe:FnScope nSe ["web","arcs","amounts","sources","sinks","most"] (defScope sSend):=⟨rfl,rfl,rfl,by decide +kernel,rfl,by decide +kernel,by decide +kernel⟩
theorem csSe1:CompScope ["place","sinks"] [none,some 4] nSe (defScope sSend) (scO [(".0",.local),("place",.local),("sinks",.free)]):=⟨rfl,by decide +kernel,by decide +kernel,by decide +kernel,rfl,capB_ok (by decide +kernel)⟩
theorem ndSe1:(["place","sinks"]:List Str).Nodup:=by decide +kernel
theorem ok_se{f g1 g2 g3:Addr}{fd d1 d2 d3:FuncData}(F:Fun K "send" "send" sSend f fd)(GT:CalF P w K mg base 1 "trails_from" ["web","arcs","amounts","starts","turn"] spTr g1 d1)(GW:CalF P w K mg base 1 "way_to" ["trails","end"] spWy g2 d2)(GP:CalF P w K mg base 1 "push" ["web","amounts","way","most"] spPu g3 d3):FnOk P w K mg base CX0 2 f fd ["web","arcs","amounts","sources","sinks","most"] spSe:=by
 refine F.ok scSe (fun vs H Q E h=>?_) (fun cdv A outer s H vs Q E hr h=>?_)
 ·obtain⟨t,ar,a,q,r,most,n,ties,as,am,b,c,S,T,rfl,_⟩:=h
  rfl
 ·obtain⟨t,ar,a,q,r,most0,n,ties,as,am0,b,c,S,T,rfl,W,ok,nb,har,al,B,ha,aml0,hq,hs,E,aar,aas,aq,arr,fin⟩:=h
  refine⟨_,(pss_one (ps_while PassesOwn.never (pt_cmpR op_gt (pv 5) pe_int (nomark _)) (pss_cons (ps_set (i:=6) scSe.nd rfl (Or.inl rfl) (pe_call GT.ok hr rfl GT.mg GT.kp GT.bd .nil pass0 (@pa_nam _ _ _ _ _ _ (pv 0) (@pa_nam _ _ _ _ _ _ (pv 1) (@pa_nam _ _ _ _ _ _ (pv 2) (@pa_nam _ _ _ _ _ _ (pv 3) (@pa_cst _ _ _ _ _ _ _ pe_int pa_nil)))))))
   (pss_cons (ps_comp (i:=7) scSe.nd rfl (Or.inl rfl) rfl csSe1 (pi_dk (pv 6)) (fun C s H fp=>(pg_name (i:=0) ndSe1 rfl (Or.inl rfl))) (fun C s H fp=>(pf_one (pt_cmpR (op_inQ c) (pv 0) (pv 1) rfl))) (fun C s H fp=>(pv 0)))
   (pss_cons (ps_if (pt_not (pt_truth (pv 7) (fun _=>rfl))) (pss_one ps_break) pss_nil)
   (pss_one (ps_aug (i:=5) scSe.nd rfl (Or.inl rfl) (pe_call GP.ok hr rfl GP.mg GP.kp GP.bd .nil pass0 (@pa_nam _ _ _ _ _ _ (pv 0) (@pa_nam _ _ _ _ _ _ (pv 2) (@pa_call _ _ _ _ _ _ _ _ (pe_call GW.ok hr rfl GW.mg GW.kp GW.bd .nil pass0 (@pa_nam _ _ _ _ _ _ (pv 6) (@pa_sub _ _ _ _ _ _ _ (@pe_ix _ _ _ _ _ _ _ ix_listH (pv 7) pe_int (fun _ _=>rfl)) pa_nil))) (@pa_nam _ _ _ _ _ _ (pv 5) pa_nil))))) ip_sub))))))),?_⟩
  refine⟨fun m σ G=>∃ (most:Int) (am:List Int) (v6 v7:Option V),σ=[some (.ref t),some (.ref ar),some (.ref a),some (.ref q),some (.ref r),some (.int most),v6,v7]/\m=most.toNat/\G a=some (.lst (am.map V.int))/\am.length=ties.length/\(∀ am',Flw.Sends n ties S T most am am'->Flw.Sends n ties S T most0 am0 am')/\Kept a H G,
   ⟨_,most0,am0,none,none,rfl,rfl,ha,aml0,fun _ h=>h,Kept.refl⟩,?_⟩
  rintro m σ G ⟨most,am,v6,v7,rfl,rfl,ga,aml,sd,kG⟩
  refine⟨_,rfl,_,_,rfl,rfl,_,rfl,ite2 (fun hc=>?_) (fun hc=>?_)⟩
  ·have m0:0<most:=of_decide_eq_true hc
   refine⟨fun σ' G'=>∃ m',m'<most.toNat/\∃ (most:Int) (am:List Int) (v6 v7:Option V),σ'=[some (.ref t),some (.ref ar),some (.ref a),some (.ref q),some (.ref r),some (.int most),v6,v7]/\m'=most.toNat/\G' a=some (.lst (am.map V.int))/\am.length=ties.length/\(∀ am',Flw.Sends n ties S T most am am'->Flw.Sends n ties S T most0 am0 am')/\Kept a H G',fun σ' G' z=>z,?_⟩
   have hn:∀ xs:List V,HO.lst (am0.map V.int)≠.tup xs:=fun xs z=>by cases z
   refine⟨_,rfl,_,rfl,_,rfl,_,rfl,t,ar,a,q,n,ties,as,am,b,S,1,rfl,W.kept kG ha hn,ok,nb,kG _ _ (Ne.symm aar) har,al,B.kept kG ha hn aas,ga,aml,kG _ _ (Ne.symm aq) hq,E.sr,E.sn,.inl rfl,fun d kvs G1 hd gd TA s1=>?_⟩
   obtain⟨TO,st,_⟩:=Flw.trails_ok (am:=am) (turn:=1) ok E.sr E.sn
   have tl:=TO.len ok E.sr
   have hd0:H d=none:=by
    cases e:H d with
    |none=>rfl
    |some o =>
     by_cases z:d=a
     ·rw[z,ga]at hd;cases hd
     ·rw[kG _ _ z e]at hd;cases hd
   have ad:a≠d:=fun z=>by rw[<- z,ga]at hd;cases hd
   generalize etr:Flw.trails n ties am 1 S=tr at *
   refine⟨_,rfl,d,kvs,rfl,gd,fun o=>?_⟩
   have kk:=TA.keys
   have kl:kvs.length=tr.length:=TA.length
   have k1:Kept a H (upd G1 d (.frz o (.dK kvs))):=(kG.trans (Same.kept s1)).put hd0
   have ga1:(upd G1 d (.frz o (.dK kvs))) a=some (.lst (am.map V.int)):=by rw[upd_ne ad];exact s1 _ _ ga
   have TA1:TrAt (upd G1 d (.frz o (.dK kvs))) kvs tr:=TA.tups fun c xs z=>by rw[upd_ne (ne_of z gd (by intro z;cases z))];exact z
   have gd1:(upd G1 d (.frz o (.dK kvs))) d=some (.frz o (.dK kvs)):=upd_same
   generalize (upd G1 d (.frz o (.dK kvs)))=G2 at k1 ga1 TA1 gd1
   have hs2:=k1 _ _ (Ne.symm arr) hs
   refine comp_dk (fun i ys G=>Same G2 G/\ys=(((Flw.keys tr).take i).filter fun k=>T.contains k).map V.int) (by rw[kl,sizeLine_eq];lia) ⟨Same.refl _,rfl⟩ (fun i ys G _ z=>z.1 _ _ gd1) ?_ ?_
   ·rintro i kv ys G hkv ⟨sG,rfl⟩
    have ek:=congrArg (fun l:List Key=>l[i]?) kk
    rw[List.getElem?_map,List.getElem?_map,hkv]at ek
    have il:i <(Flw.keys tr).length:=by
     cases z:(Flw.keys tr)[i]? with
     |none=>rw[z]at ek;cases ek
     |some y=>exact(List.getElem?_eq_some_iff.mp z).1
    rw[List.getElem?_eq_getElem il]at ek
    have ek:kv.1=Sum.inl (Flw.keys tr)[i]:=Option.some.inj ek
    rw[ek]
    refine⟨⟨rfl,trivial⟩,_,rfl,_,rfl,r,_,rfl,sG _ _ hs2,rfl,flat_ints _,_,rfl,?_⟩
    rw[List.take_succ_eq_append_getElem il,List.filter_append,List.map_append]
    refine ite2 (fun z=>?_) (fun z=>?_)
    ·have z:T.contains (Flw.keys tr)[i]=true:=by rw[<- inV_ints];exact z
     refine⟨_,rfl,sG,?_⟩
     rw[List.filter_cons,if_pos z]
     rfl
    ·have z:¬ T.contains (Flw.keys tr)[i]=true:=by rw[<- inV_ints];exact z
     refine⟨sG,?_⟩
     rw[List.filter_cons,if_neg z,List.filter_nil,List.map_nil,List.append_nil]
   rintro ys G yl ⟨sG,rfl⟩ D hD
   have tk:(Flw.keys tr).take kvs.length=Flw.keys tr:=List.take_of_length_le (by unfold Flw.keys;rw[List.length_map];lia)
   rw[tk]
   have sD:=sG.trans (Same.new (o:=.lst (((Flw.keys tr).filter fun k=>T.contains k).map V.int)) hD)
   have gE:(upd G D (.lst (((Flw.keys tr).filter fun k=>T.contains k).map V.int))) D=some (.lst ((Flw.endsOf tr T).map V.int)):=upd_same
   generalize (upd G D (.lst (((Flw.keys tr).filter fun k=>T.contains k).map V.int)))=G3 at sD gE
   refine⟨_,rfl,_,.inl ⟨_,SqL.of gE,rfl⟩,?_⟩
   cases ee:Flw.endsOf tr T with
   |nil =>
    refine iteT ?_
    exact fin am G3 (sd am (.none m0 (by rw[etr];exact ee))) (sD _ _ ga1) aml (k1.trans (Same.kept sD))
   |cons e rest =>
    rw[ee]at gE
    refine iteF ?_
    have he:=Flw.mem_ends.mp (show e∈Flw.endsOf tr T by rw[ee];exact List.mem_cons_self ..)
    have wlen:=Flw.way_len tr e
    obtain⟨mo1,mo2,mo3⟩:=Flw.more_ok TO he.1 m0
    refine⟨_,rfl,_,rfl,_,rfl,_,rfl,_,rfl,D,_,_,_,rfl,rfl,gE,atI_nat (j:=0) (v:=V.int e) rfl,d,e,kvs,ties,am,S,1,tr,rfl,.inr ⟨o,sD _ _ gd1⟩,TA1.tups fun c xs z=>sD _ _ z,TO,he.1,by lia,fun wl cs G4 hwl gwl wa s4=>?_⟩
    have s24:=sD.trans s4
    have ga4:=s24 _ _ ga1
    have aw:a≠wl:=fun z=>by rw[<- z,sD _ _ ga1]at hwl;cases hwl
    have k4:=k1.trans (Same.kept s24)
    refine⟨_,rfl,t,a,wl,most,n,ties,am,cs,Flw.way tr e,rfl,W.kept k4 ha hn,ga4,aml,gwl,wa,aw,by lia,fun x hx=>?_,fun G5 ga5 k5=>?_⟩
    ·obtain⟨j,hj,ej,sg,_⟩:=((Flw.way_ok TO e he.1).1 x hx).ex
     exact⟨j,hj,ej,sg⟩
    ·refine⟨_,_,rfl,rfl,(most-Flw.more ties am most (Flw.way tr e)).toNat,by lia,_,_,_,_,rfl,rfl,ga5,by rw[Flw.push_len];exact aml,fun am' h=>sd am' (.push m0 (e:=e) (r:=rest) (by rw[etr];exact ee) (by rw[etr];exact h)),k4.trans k5⟩
  ·have m0:most<=0:=by
    have:¬ 0<most:=fun z=>hc (decide_eq_true z)
    lia
   exact fin am G (sd am (.stop m0)) ga aml kG
noncomputable def spGa:Sp:=fun vs H Q _=>∃ (t ar q r:Addr) (n:Nat) (ties:List Tie) (as:List Addr) (b c:Bool) (S T:List Int),vs=[.ref t,.ref ar,.ref q,.ref r]/\WebAt H t n ties/\(∀ x∈ties,TieOk n x)/\n<=1000 /\
 H ar=some (.lst (as.map V.ref))/\as.length=n/\ArcsAt H as ties/\H q=some (sqO b (S.map V.int))/\H r=some (sqO c (T.map V.int))/\Flw.Ends n S T /\
 ∀ (a:Addr) (am:List Int) (H':Hp),H a=none->H' a=some (.lst (am.map V.int))->Flw.Great n ties S T am->am.length=ties.length->Same H H'->Q (.ref a) H'
noncomputable abbrev nGa:List Str:=["web","arcs","sources","sinks","amounts"]
theorem scGa:FnScope nGa ["web","arcs","sources","sinks"] (defScope sGreatestAmounts):=⟨rfl,rfl,rfl,by decide +kernel,rfl,by decide +kernel,by decide +kernel⟩
theorem csGa1:CompScope ["a","b","weight"] [none,none,none] nGa (defScope sGreatestAmounts) (scO [(".0",.local),("a",.local),("b",.local),("weight",.local)]):=⟨rfl,by decide +kernel,by decide +kernel,by decide +kernel,rfl,capB_ok (by decide +kernel)⟩
theorem ndGa1:(["a","b","weight"]:List Str).Nodup:=by decide +kernel
theorem ok_ga{f g1:Addr}{fd d1:FuncData}(F:Fun K "greatest_amounts" "greatest_amounts" sGreatestAmounts f fd)(T:Txt mg)(GS:CalF P w K mg base 2 "send" ["web","arcs","amounts","sources","sinks","most"] spSe g1 d1):FnOk P w K mg base CX0 3 f fd ["web","arcs","sources","sinks"] spGa:=by
 refine F.ok scGa (fun vs H Q E h=>?_) (fun cdv A outer s H vs Q E hr h=>?_)
 ·obtain⟨t,ar,q,r,n,ties,as,b,c,S,Tk,rfl,_⟩:=h
  rfl
 ·obtain⟨t,ar,q,r,n,ties,as,b,c,S,Tk,rfl,W,ok,nb,har,al,B,hq,hs,E,fin⟩:=h
  obtain⟨⟨ts,bs,h1,h2,h3⟩,len⟩:=id W
  have h3l:bs.length=ties.length:=h3.length
  refine⟨_,(pss_cons (ps_set (i:=4) scGa.nd rfl (Or.inl rfl) (pe_op op_rep (@pe_lst _ _ _ _ (@pa_cst _ _ _ _ _ _ _ pe_int pa_nil)) (pe_callB call_lenTH (by rfl) T.len PySem.boot_len (@pa_sub _ _ _ _ _ _ _ (@pe_ix _ _ _ _ _ _ _ ix_tupH (pv 0) pe_int (fun _ _=>rfl)) pa_nil))))
   (pss_cons (ps_expr (pe_call GS.ok hr rfl GS.mg GS.kp GS.bd .nil pass0 (@pa_nam _ _ _ _ _ _ (pv 0) (@pa_nam _ _ _ _ _ _ (pv 1) (@pa_nam _ _ _ _ _ _ (pv 4) (@pa_nam _ _ _ _ _ _ (pv 2) (@pa_nam _ _ _ _ _ _ (pv 3) (@pa_call _ _ _ _ _ _ _ _ (pe_callB (call_sumH rfl) (by rfl) T.sum boot_sum (@pa_comp _ _ _ _ _ _ _ _ (pe_comp rfl csGa1 (pi_tup (@pe_ix _ _ _ _ _ _ _ ix_tupH (pv 0) pe_int (fun _ _=>rfl))) (fun C s H fp=>(pg_tupK K rfl (n:=3) rfl (pgs_cons (pg_name (i:=0) ndGa1 rfl (Or.inl rfl)) (pgs_cons (pg_name (i:=1) ndGa1 rfl (Or.inl rfl)) (pgs_cons (pg_name (i:=2) ndGa1 rfl (Or.inl rfl)) pgs_nil))) rfl rfl)) (fun C s H fp=>pf_nil) (fun C s H fp=>(pv 2))) pa_nil)) pa_nil))))))))
   (pss_one (ps_ret (pv 4))))),?_⟩
  refine⟨(by show 1<=sizeLine;decide),fun l hl=>?_⟩
  have s1:=Same.new (o:=.lst [V.int 0]) hl
  refine⟨_,rfl,t,_,_,_,rfl,rfl,s1 _ _ h1,rfl,ts,_,rfl,s1 _ _ h2,l,_,_,rfl,rfl,upd_same,by lia,by rw[List.length_map];lia,by show 1 * _<=_;rw[List.length_map,sizeLine_eq];lia,fun a ha=>?_⟩
  rw[List.length_map,h3l,Int.toNat_natCast,rep_zero]
  have s2:=s1.trans (Same.new (o:=.lst ((List.replicate ties.length (0:Int)).map V.int)) ha)
  have ha0:H a=none:=s1.free ha
  have ga:(upd (upd H l (.lst [V.int 0])) a (.lst ((List.replicate ties.length (0:Int)).map V.int))) a=_:=upd_same
  generalize (upd (upd H l (.lst [V.int 0])) a (.lst ((List.replicate ties.length (0:Int)).map V.int)))=H1 at s2 ga
  refine⟨_,rfl,_,rfl,_,rfl,_,rfl,_,rfl,_,rfl,t,_,_,_,rfl,rfl,s2 _ _ h1,rfl,ts,rfl,⟨_,SqT.of (s2 _ _ h2)⟩,?_⟩
  refine comp_tup (K:=K) (a:=ts) (xs:=bs.map V.ref) (fun j ys G=>Same H1 G/\ys=((ties.take j).map fun x=>x.2.2).map V.int) (by rw[List.length_map,sizeLine_eq];lia) ⟨Same.refl _,rfl⟩ (fun j ys G _ z=>SqT.of (z.1 _ _ (s2 _ _ h2))) ?_ ?_
  ·rintro j x ys G hx ⟨sG,rfl⟩
   obtain⟨il,e⟩:=List.getElem?_eq_some_iff.mp hx
   rw[List.length_map]at il
   rw[List.getElem_map]at e
   subst e
   have it:j<ties.length:=by lia
   have hx:=sG _ _ (s2 _ _ (Paired.at h3 j il it))
   refine⟨bs[j],_,rfl,SqT.of hx,rfl,_,_,rfl,_,_,rfl,_,_,rfl,rfl,trivial,tTru_if ⟨_,rfl,sG,?_⟩⟩
   rw[List.take_succ_eq_append_getElem it,List.map_append,List.map_append]
   rfl
  rintro ys G yl ⟨sG,rfl⟩ D hD
  rw[List.length_map,h3l,List.take_length]
  have s3:=(s2.trans sG).trans (Same.new (o:=.lst ((ties.map fun x=>x.2.2).map V.int)) hD)
  have s13:=sG.trans (Same.new (o:=.lst ((ties.map fun x=>x.2.2).map V.int)) hD)
  refine⟨D,_,rfl,upd_same,?_⟩
  generalize (upd G D (.lst ((ties.map fun x=>x.2.2).map V.int)))=H3 at s3 s13
  have nea:∀ {u:Addr}{o:HO},H u=some o->a≠u:=fun e z=>by rw[<- z,ha0]at e;cases e
  refine⟨t,ar,a,q,r,Flw.total ties,n,ties,as,List.replicate ties.length 0,b,c,S,Tk,rfl,W.same s3,ok,nb,s3 _ _ har,al,B.same s3,s13 _ _ ga,by simp,s3 _ _ hq,s3 _ _ hs,E,nea har,fun m=>?_,nea hq,nea hs,fun am' H' sd ga' aml kp=>?_⟩
  ·obtain⟨i,hi,e⟩:=List.getElem_of_mem m
   obtain⟨cs,ec,_⟩:=B i hi
   exact nea ec e.symm
  ·exact⟨_,rfl,fin a am' H' ha0 ga' sd aml fun u o e=>kp _ _ (Ne.symm (nea e)) (s3 _ _ e)⟩
structure FlowTold(n:Nat)(ties:List Tie)(S T am side:List Int):Prop where
 gr:Flw.Great n ties S T am
 len:am.length=ties.length
 pm:side.Perm (Flw.keys (Flw.trails n ties am 1 S))
 pw:side.Pairwise (·<=·)
noncomputable def spFl:Sp:=fun vs H Q _=>∃ (t q r:Addr) (n:Nat) (ties:List Tie) (b c:Bool) (S T:List Int),vs=[.ref t,.ref q,.ref r]/\WebAt H t n ties/\(∀ x∈ties,TieOk n x)/\n<=120/\H q=some (sqO b (S.map V.int))/\H r=some (sqO c (T.map V.int))/\Flw.Ends n S T /\
 ∀ (p a sd:Addr) (am side:List Int) (H':Hp),H p=none->H a=none->H sd=none->a≠sd->H' p=some (.tup [.int (Flw.val ties am S),.ref a,.ref sd])->H' a=some (.lst (am.map V.int))->H' sd=some (.lst (side.map V.int))->FlowTold n ties S T am side->Same H H'->Q (.ref p) H'
noncomputable abbrev nFl:List Str:=["web","sources","sinks","arcs","amounts","side"]
theorem scFl:FnScope nFl ["web","sources","sinks"] (defScope sFlow):=⟨rfl,rfl,rfl,by decide +kernel,rfl,by decide +kernel,by decide +kernel⟩
theorem ok_fl{f g1 g2 g3 g4:Addr}{fd d1 d2 d3 d4:FuncData}(F:Fun K "flow" "flow" sFlow f fd)(T:Txt mg)(GA:CalF P w K mg base 1 "arcs_of" ["web"] spAr g1 d1)(GG:CalF P w K mg base 3 "greatest_amounts" ["web","arcs","sources","sinks"] spGa g2 d2)(GT:CalF P w K mg base 1 "trails_from" ["web","arcs","amounts","starts","turn"] spTr g3 d3)(GV:CalF P w K mg base 2 "value_of" ["web","amounts","sources"] spVa g4 d4):FnOk P w K mg base CX0 4 f fd ["web","sources","sinks"] spFl:=by
 refine F.ok scFl (fun vs H Q E h=>?_) (fun cdv A outer s H vs Q E hr h=>?_)
 ·obtain⟨t,q,r,n,ties,b,c,S,Tk,rfl,_⟩:=h
  rfl
 ·obtain⟨t,q,r,n,ties,b,c,S,Tk,rfl,W,ok,nb,hq,hs,E,fin⟩:=h
  have hr1:Room 1 _:=hr.mono (by decide)
  have hr2:Room 2 _:=hr.mono (by decide)
  have sl:S.length<=n:=Flw.nodup_len E.sn E.sr
  refine⟨_,(pss_cons (ps_set (i:=3) scFl.nd rfl (Or.inl rfl) (pe_call GA.ok hr1 rfl GA.mg GA.kp GA.bd .nil pass0 (@pa_nam _ _ _ _ _ _ (pv 0) pa_nil)))
   (pss_cons (ps_set (i:=4) scFl.nd rfl (Or.inl rfl) (pe_call GG.ok hr rfl GG.mg GG.kp GG.bd .nil pass0 (@pa_nam _ _ _ _ _ _ (pv 0) (@pa_nam _ _ _ _ _ _ (pv 3) (@pa_nam _ _ _ _ _ _ (pv 1) (@pa_nam _ _ _ _ _ _ (pv 2) pa_nil))))))
   (pss_cons (ps_set (i:=5) scFl.nd rfl (Or.inl rfl) (pe_callB (call_sortedK rfl) (by rfl) T.sorted boot_sorted (@pa_call _ _ _ _ _ _ _ _ (pe_call GT.ok hr1 rfl GT.mg GT.kp GT.bd .nil pass0 (@pa_nam _ _ _ _ _ _ (pv 0) (@pa_nam _ _ _ _ _ _ (pv 3) (@pa_nam _ _ _ _ _ _ (pv 4) (@pa_nam _ _ _ _ _ _ (pv 1) (@pa_cst _ _ _ _ _ _ _ pe_int pa_nil)))))) pa_nil)))
   (pss_one (ps_ret (@pe_tup _ _ _ _ _ (@pa_call _ _ _ _ _ _ _ _ (pe_call GV.ok hr2 rfl GV.mg GV.kp GV.bd .nil pass0 (@pa_nam _ _ _ _ _ _ (pv 0) (@pa_nam _ _ _ _ _ _ (pv 4) (@pa_nam _ _ _ _ _ _ (pv 1) pa_nil)))) (@pa_nam _ _ _ _ _ _ (pv 4) (@pa_nam _ _ _ _ _ _ (pv 5) pa_nil))))))))),?_⟩
  refine⟨_,rfl,t,n,ties,rfl,W,ok,by lia,fun ar as H1 har al B s1=>?_⟩
  refine⟨_,rfl,_,rfl,_,rfl,_,rfl,t,ar,q,r,n,ties,as,b,c,S,Tk,rfl,W.same s1,ok,by lia,har,al,B,s1 _ _ hq,s1 _ _ hs,E,fun a am H2 ha ga gr aml s2=>?_⟩
  have s12:=s1.trans s2
  refine⟨_,rfl,_,rfl,_,rfl,_,rfl,t,ar,a,q,n,ties,as,am,b,S,1,rfl,W.same s12,ok,by lia,s2 _ _ har,al,B.same s2,ga,aml,s12 _ _ hq,E.sr,E.sn,.inl rfl,fun d kvs H3 hd gd TA s3=>?_⟩
  obtain⟨TO,_,_⟩:=Flw.trails_ok (am:=am) (turn:=1) ok E.sr E.sn
  have tl:=TO.len ok E.sr
  refine⟨d,kvs,_,rfl,gd,TA.keys,by unfold Flw.keys;rw[List.length_map];lia,fun sd side hsd pm pw=>?_⟩
  have s13:=s12.trans s3
  have s4:=Same.new (o:=.lst (side.map V.int)) hsd
  have gsd:(upd H3 sd (.lst (side.map V.int))) sd=_:=upd_same
  have s14:=s13.trans s4
  have ga4:=s4 _ _ (s3 _ _ ga)
  have asd:a≠sd:=fun z=>by rw[<- z,s3 _ _ ga]at hsd;cases hsd
  generalize (upd H3 sd (.lst (side.map V.int)))=H4 at s4 gsd s14 ga4
  refine⟨_,rfl,_,rfl,_,rfl,t,a,q,n,ties,am,b,S,rfl,W.same s14,ok,by lia,ga4,aml,s14 _ _ hq,E.sr,by lia,fun H5 s5=>?_⟩
  refine⟨_,rfl,_,rfl,(by show 3<=sizeLine;decide),fun p hp=>?_⟩
  have s15:=s14.trans s5
  have s6:=Same.new (o:=.tup [.int (Flw.val ties am S),.ref a,.ref sd]) hp
  exact fin p a sd am side _ (s15.free hp) (s1.free ha) (s13.free hsd) asd upd_same (s6 _ _ (s5 _ _ ga4)) (s6 _ _ (s5 _ _ gsd)) ⟨gr,aml,pm,pw⟩ (s15.trans s6)
noncomputable def spWi:Sp:=fun vs H Q _=>∃ (t q r:Addr) (n:Nat) (ties:List Tie) (b c:Bool) (S T:List Int),vs=[.ref t,.ref q,.ref r]/\WebAt H t n ties/\(∀ x∈ties,TieOk n x)/\n<=120/\H q=some (sqO b (S.map V.int))/\H r=some (sqO c (T.map V.int))/\Flw.Ends n S T /\
 ∀ (p:Addr) (am:List Int) (H':Hp),H p=none->H' p=some (.lst (((upto n).filter fun v=>!(Flw.keys (Flw.trails n ties am (-1) T)).contains v).map V.int))->Flw.Great n ties S T am->Same H H'->Q (.ref p) H'
theorem upto_get{n i:Nat}(h:i<n):∃ h':i <(upto n).length,(upto n)[i]=(i:Int):=by
 refine⟨by unfold upto;simpa using h,?_⟩
 unfold upto
 rw[List.getElem_map,List.getElem_range]
theorem upto_len(n:Nat):(upto n).length=n:=by unfold upto;simp
noncomputable abbrev nWi:List Str:=["web","sources","sinks","arcs","amounts","beyond"]
theorem scWi:FnScope nWi ["web","sources","sinks"] (defScope sWideSide):=⟨rfl,rfl,rfl,by decide +kernel,rfl,by decide +kernel,by decide +kernel⟩
theorem csWi1:CompScope ["place","beyond"] [none,some 5] nWi (defScope sWideSide) (scO [(".0",.local),("place",.local),("beyond",.free)]):=⟨rfl,by decide +kernel,by decide +kernel,by decide +kernel,rfl,capB_ok (by decide +kernel)⟩
theorem ndWi1:(["place","beyond"]:List Str).Nodup:=by decide +kernel
theorem ok_wi{f g1 g2 g3:Addr}{fd d1 d2 d3:FuncData}(F:Fun K "wide_side" "wide_side" sWideSide f fd)(T:Txt mg)(GA:CalF P w K mg base 1 "arcs_of" ["web"] spAr g1 d1)(GG:CalF P w K mg base 3 "greatest_amounts" ["web","arcs","sources","sinks"] spGa g2 d2)(GT:CalF P w K mg base 1 "trails_from" ["web","arcs","amounts","starts","turn"] spTr g3 d3):FnOk P w K mg base CX0 4 f fd ["web","sources","sinks"] spWi:=by
 refine F.ok scWi (fun vs H Q E h=>?_) (fun cdv A outer s H vs Q E hr h=>?_)
 ·obtain⟨t,q,r,n,ties,b,c,S,Tk,rfl,_⟩:=h
  rfl
 ·obtain⟨t,q,r,n,ties,b,c,S,Tk,rfl,W,ok,nb,hq,hs,E,fin⟩:=h
  have hr1:Room 1 _:=hr.mono (by decide)
  have hu:=hu_of hr
  obtain⟨⟨ts,bs,h1,h2,h3⟩,len⟩:=id W
  refine⟨_,(pss_cons (ps_set (i:=3) scWi.nd rfl (Or.inl rfl) (pe_call GA.ok hr1 rfl GA.mg GA.kp GA.bd .nil pass0 (@pa_nam _ _ _ _ _ _ (pv 0) pa_nil)))
   (pss_cons (ps_set (i:=4) scWi.nd rfl (Or.inl rfl) (pe_call GG.ok hr rfl GG.mg GG.kp GG.bd .nil pass0 (@pa_nam _ _ _ _ _ _ (pv 0) (@pa_nam _ _ _ _ _ _ (pv 3) (@pa_nam _ _ _ _ _ _ (pv 1) (@pa_nam _ _ _ _ _ _ (pv 2) pa_nil))))))
   (pss_cons (ps_set (i:=5) scWi.nd rfl (Or.inr rfl) (pe_call GT.ok hr1 rfl GT.mg GT.kp GT.bd .nil pass0 (@pa_nam _ _ _ _ _ _ (pv 0) (@pa_nam _ _ _ _ _ _ (pv 3) (@pa_nam _ _ _ _ _ _ (pv 4) (@pa_nam _ _ _ _ _ _ (pv 2) (@pa_un _ _ _ _ _ _ _ (pe_un un_neg pe_int) pa_nil)))))))
   (pss_one (ps_ret (pe_comp rfl csWi1 (pi_range1 rfl T.range (@pa_sub _ _ _ _ _ _ _ (@pe_ix _ _ _ _ _ _ _ ix_tupH (pv 0) pe_int (fun _ _=>rfl)) pa_nil)) (fun C s H fp=>(pg_name (i:=0) ndWi1 rfl (Or.inl rfl))) (fun C s H fp=>(pf_one (pt_cmp (pc_dnotin hu (pv 0) (pv 1))))) (fun C s H fp=>(pv 0)))))))),?_⟩
  refine⟨_,rfl,t,n,ties,rfl,W,ok,by lia,fun ar as H1 har al B s1=>?_⟩
  refine⟨_,rfl,_,rfl,_,rfl,_,rfl,t,ar,q,r,n,ties,as,b,c,S,Tk,rfl,W.same s1,ok,by lia,har,al,B,s1 _ _ hq,s1 _ _ hs,E,fun a am H2 ha ga gr aml s2=>?_⟩
  have s12:=s1.trans s2
  refine⟨_,rfl,_,rfl,_,rfl,_,rfl,_,rfl,t,ar,a,r,n,ties,as,am,c,Tk,-1,rfl,W.same s12,ok,by lia,s2 _ _ har,al,B.same s2,ga,aml,s12 _ _ hs,E.tr,E.tn,.inr rfl,fun d kvs H3 hd gd TA s3=>?_⟩
  have s13:=s12.trans s3
  obtain⟨TO,_,_⟩:=Flw.trails_ok (am:=am) (turn:=-1) ok E.tr E.tn
  refine⟨_,rfl,t,_,_,_,rfl,rfl,s13 _ _ h1,rfl,_,rfl,by lia,by lia,?_⟩
  rw[show((n:Int)).toNat=n by lia]
  refine comp_range (lo:=0) (n:=n) (fun j ys G=>Same H3 G/\ys=(((upto n).take j).filter fun v=>!(Flw.keys (Flw.trails n ties am (-1) Tk)).contains v).map V.int) (by rw[sizeLine_eq];lia) ⟨Same.refl _,rfl⟩ ?_ ?_
  ·rintro j ys G hj ⟨sG,rfl⟩
   rw[show(0:Int)+(j:Int)=(j:Int) by lia]
   obtain⟨jl,ej⟩:=upto_get hj
   refine⟨⟨rfl,trivial⟩,_,rfl,_,rfl,d,_,rfl,DGet.k (k:=Sum.inl (j:Int)) (sG _ _ gd),_,rfl,?_⟩
   rw[List.take_succ_eq_append_getElem jl,ej,List.filter_append,List.map_append]
   by_cases kf:(j:Int)∈Flw.keys (Flw.trails n ties am (-1) Tk)
   ·obtain⟨o,ho⟩:=mem_of_key kf
    obtain⟨v,ev,_⟩:=TA.some TO.nd ho
    rw[ev]
    refine iteF ⟨sG,?_⟩
    rw[List.filter_cons,if_neg (by rw[List.contains_iff_mem.mpr kf];decide),List.filter_nil,List.map_nil,List.append_nil]
   ·rw[TA.none kf]
    refine iteT ⟨_,rfl,sG,?_⟩
    have:(Flw.keys (Flw.trails n ties am (-1) Tk)).contains (j:Int)=false:=by
     cases z:(Flw.keys (Flw.trails n ties am (-1) Tk)).contains (j:Int)with
     |false=>rfl
     |true=>exact absurd (List.contains_iff_mem.mp z) kf
    rw[List.filter_cons,this]
    rfl
  rintro ys G yl ⟨sG,rfl⟩ D hD
  have tk:(upto n).take n=upto n:=List.take_of_length_le (by rw[upto_len];exact Nat.le_refl _)
  rw[tk]
  have s4:=s13.trans sG
  exact fin D am _ (s4.free hD) upd_same gr (s4.trans (Same.new hD))
end
end K23
namespace L2
open PySem PySem.W PyProof.Rows
theorem pe_bmK{X:Cx}(K:PySem.W.Frag)(eK:X.K=K){T id:String}{name:Str}{r:V->List V->Hp->VK->Prop}{o e:Expr}{es:List Expr}{to:TE}{t:TA}{apos cpos:Pos}(pa:PlainAttrs T)(slot:Slot T name id)(hty:typeOf (.builtin id)=pure (.type "method_descriptor"))(hm:MtR X id r)(ho:PE X o to)(ha:PA X (e :: es) t)
  (hbase:attributeBase o name X.env (eval o X.env)=eval o X.env:=by rfl)
  (hfew:((backTo cpos (starEach (e :: es) X.env)).all (fun x=>!x.1) && (backToKw cpos (keywordEach [] X.env)).all (fun x=>x.1.isSome) && decide ((e :: es).length+([]:List Keyword).length+(if([]:List Keyword).isEmpty then 0 else 1)<30))=true:=by rfl)
  (hline:(apos.endLine == cpos.line)=true:=by rfl) (hs:starEach (e :: es) X.env=(false,eval e X.env) :: starEach es X.env:=by rfl) (hplain:(backTo cpos (starEach es X.env)).any (·.1)=false:=by rfl):PE X (.Call (.Attribute o name apos) (e :: es) [] cpos) (tBM K T r to t):=by
 subst eK
 exact pe_bm pa slot hty hm ho ha hbase hfew hline hs hplain
theorem call_len_seqK{X:Cx}(K:PySem.W.Frag)(e:X.K=K):CallR X (.builtin "len") (fun xs H Q=>∃ p ys,xs=[.ref p]/\(SqL K H p ys\/SqT K H p ys)/\Q (.int ys.length) H):=e▸call_len_seq
theorem map_eraseI:∀ (l:List Int) (k:Nat),(l.map V.int).eraseIdx k=(l.eraseIdx k).map V.int
 |[],k=>by cases k <;> rfl
 |x :: r,0=>rfl
 |x :: r,k+1=>by
  show V.int x :: (r.map V.int).eraseIdx k=V.int x :: (r.eraseIdx k).map V.int
  rw[map_eraseI r k]
end L2
namespace K23
open PySem L2 PyProof.Rows
theorem BoxAt.same{H H':Hp}{p:Addr}{N:Nat}(B:BoxAt H p N)(s:Same H H'):BoxAt H' p N:=by
 obtain⟨a,b,c,e,r⟩:=B
 exact⟨a,b,c,s _ _ e,r⟩
theorem upto_nodup(n:Nat):(upto n).Nodup:=by
 unfold upto List.Nodup
 rw[List.pairwise_map]
 exact(List.nodup_range (n:=n)).imp fun {a b} ne e=>ne (by lia)
structure PostOk(n:Nat)(ps:List Int):Prop where
 nd:ps.Nodup
 rg:∀ x∈ps,0<=x/\x<n
 lo:1<=ps.length
 hi:ps.length<=6
noncomputable def spPo:Sp:=fun vs H Q _=>∃ (p:Addr) (n N:Nat) (mo:Int),vs=[.ref p,.int n,.int mo]/\BoxAt H p N/\N+100<2 ^ 40/\2<=n/\n<=30/\2<=mo/\mo<=6 /\
 ∀ (l:Addr) (ps:List Int) (H':Hp),H l=none->H' l=some (.lst (ps.map V.int))->l≠p->PostOk n ps->BoxAt H' p (N+20)->Kept p H H'->Q (.ref l) H'
section
variable{P:Program}{w:World}{K:PySem.W.Frag}{mg:Str->Option Value}{base:Heap}
noncomputable abbrev nPo:List Str:=["_law_box_here","_law_many_here","_law_most","_law_some","_law_found"]
theorem scPo:FnScope nPo ["_law_box_here","_law_many_here","_law_most"] (defScope sPosts):=⟨rfl,rfl,rfl,by decide +kernel,rfl,by decide +kernel,by decide +kernel⟩
theorem csPo:CompScope ["_law_turn","_law_box_here","_law_some"] [none,some 0,some 3] nPo (defScope sPosts) (scO [(".0",.local),("_law_turn",.local),("_law_take",.globalImplicit),("len",.globalImplicit),("_law_box_here",.free),("_law_some",.free)]):=⟨rfl,by decide +kernel,by decide +kernel,by decide +kernel,rfl,capB_ok (by decide +kernel)⟩
theorem ndPo:(["_law_turn","_law_box_here","_law_some"]:List Str).Nodup:=by decide +kernel
theorem ok_po{f g:Addr}{fd gd:FuncData}(F:Fun K "_law_posts" "_law_posts" sPosts f fd)(T:Txt mg)(G:TakeF P w K mg base g gd):FnOk P w K mg base CX0 2 f fd ["_law_box_here","_law_many_here","_law_most"] spPo:=by
 refine F.ok scPo (fun vs H Q E h=>?_) (fun cdv A outer s H vs Q E hr h=>?_)
 ·obtain⟨p,n,N,mo,rfl,_⟩:=h
  rfl
 ·obtain⟨p,n,N,mo,rfl,B,hN,n1,n30,mo0,mo6,q⟩:=h
  refine⟨_,pss_cons (ps_set (i:=3) scPo.nd rfl (Or.inr rfl) (pe_callTy (call_list_rng rfl) (by rfl) T.list boot_list (@pa_call _ _ _ _ _ _ _ _ (pe_callTy (call_range _) (by rfl) T.range boot_range (@pa_nam _ _ _ _ _ _ (pv 1) pa_nil)) pa_nil)))
   (pss_cons (ps_comp (i:=4) scPo.nd rfl (Or.inl rfl) rfl csPo (pi_range1 rfl T.range (@pa_call _ _ _ _ _ _ _ _ (pe_callB (call_min2 rfl) (by rfl) T.min boot_min (@pa_nam _ _ _ _ _ _ (pv 1) (@pa_bin _ _ _ _ _ _ _ _ (pe_op op_add pe_int (pe_call G.ok hr rfl G.mg G.kp G.bd .nil pass0 (@pa_nam _ _ _ _ _ _ (pv 0) (@pa_bin _ _ _ _ _ _ _ _ (pe_op op_sub (pv 2) pe_int) pa_nil)))) pa_nil))) pa_nil))
    (fun C s H fp=>pg_name (i:=0) ndPo rfl (Or.inl rfl)) (fun C s H fp=>pf_nil)
    (fun C s H fp=>pe_bmK K rfl PySem.F.plainAttrs_list PySem.F.slot_list_pop PySem.F.type_list_pop mt_popAt (pv 2) (@pa_call _ _ _ _ _ _ _ _ (pe_call G.ok hr rfl G.mg G.kp G.bd .nil pass0 (@pa_nam _ _ _ _ _ _ (pv 1) (@pa_call _ _ _ _ _ _ _ _ (pe_callB (call_len_seqK K rfl) (by rfl) T.len PySem.boot_len (@pa_nam _ _ _ _ _ _ (pv 2) pa_nil)) pa_nil))) pa_nil)))
   (pss_one (ps_ret (pe_callB call_sortedI (by rfl) T.sorted boot_sorted (@pa_nam _ _ _ _ _ _ (pv 4) pa_nil))))),?_⟩
  refine⟨_,rfl,_,rfl,fun r hr=>⟨r,_,rfl,upd_same,by lia,by lia,fun so hso=>?_⟩⟩
  rw[show((n:Int)).toNat=n by lia]
  have so0:H so=none:=(Same.new (o:=.rng 0 (n:Int)) hr).free hso
  have sop:so≠p:=B.ne so0
  have s1:=(Same.new (o:=.rng 0 (n:Int)) hr).trans (Same.new (o:=.lst ((upto n).map V.int)) hso)
  have gs:(upd (upd H r (.rng 0 (n:Int))) so (.lst ((upto n).map V.int))) so=some (.lst ((upto n).map V.int)):=upd_same
  generalize (upd (upd H r (.rng 0 (n:Int))) so (.lst ((upto n).map V.int)))=H1 at s1 gs
  have B1:=B.same s1
  refine⟨_,rfl,_,rfl,_,rfl,_,_,rfl,rfl,p,_,N,rfl,B1,by lia,by lia,by lia,fun z H2 z0 z1 B2 k2=>?_⟩
  refine⟨_,_,rfl,rfl,_,_,rfl,_,rfl,by split <;> lia,by split <;> lia,?_⟩
  obtain⟨ct,ec,c1,c2,c3⟩:∃ ct:Nat,(if 2+z <(n:Int)then 2+z else(n:Int)).toNat=ct/\ct<=n/\ct<=6/\2<=ct:=⟨_,rfl,by split <;> lia,by split <;> lia,by split <;> lia⟩
  rw[ec]
  have k1:Kept p H H1:=fun b o _ e=>s1 b o e
  refine comp_range (lo:=0) (n:=ct) (fun j ys G2=>BoxAt G2 p (N+1+j)/\Kept p H G2/\∃ (rs qs:List Int),G2 so=some (.lst (rs.map V.int))/\ys=qs.map V.int/\(qs++rs).Perm (upto n)/\qs.length=j) (by rw[sizeLine_eq];omega)
   ⟨B2,k1.trans k2,upto n,[],k2 _ _ sop gs,rfl,.refl _,rfl⟩ ?_ ?_
  ·rintro j ys G2 hj ⟨B3,k3,rs,qs,gs3,rfl,pm,ql⟩
   have rl:qs.length+rs.length=n:=by
    have:=pm.length_eq
    rw[List.length_append,upto_length]at this
    exact this
   refine⟨⟨rfl,rfl,trivial⟩,tTru_if ⟨_,rfl,.inl ⟨rfl,_,SqL.of gs3⟩,_,rfl,_,rfl,so,_,rfl,.inl (SqL.of gs3),p,_,_,rfl,B3,by lia,by rw[List.length_map];lia,by rw[List.length_map];lia,fun y G3 y0 y1 B4 k4=>?_⟩⟩
   rw[List.length_map]at y1
   obtain⟨k,rfl⟩:∃ k:Nat,y=(k:Int):=⟨y.toNat,by lia⟩
   have kl:k<rs.length:=by omega
   have gs4:=k4 _ _ sop gs3
   refine⟨so,rs.map V.int,(k:Int),k,V.int rs[k],rfl,rfl,gs4,by lia,by lia,?_,by rw[List.getElem?_map,List.getElem?_eq_getElem kl];rfl,?_⟩
   ·unfold seqIndex?
    rw[List.length_map]
    simp
    omega
   rw[map_eraseI]
   refine⟨(B4.put sop).mono (by lia),(k3.trans k4).put so0,rs.eraseIdx k,qs++[rs[k]],upd_same,by rw[List.map_append];rfl,?_,by rw[List.length_append,ql];rfl⟩
   rw[List.append_assoc]
   exact(List.Perm.append_left _ (SetA.cut_perm k rs kl)).trans pm
  ·rintro ys G2 yl ⟨B3,k3,rs,qs,gs3,rfl,pm,ql⟩ D hD
   have sD:=Same.new (o:=.lst (qs.map V.int)) hD
   refine⟨_,rfl,D,qs,rfl,SqL.of upd_same,by omega,fun l ms hl pq _=>?_⟩
   have hl2:=sD.free hl
   have sL:=Same.new (o:=.lst (ms.map V.int)) hl
   refine q l ms _ (k3.free B3 hl2) upd_same (B3.ne hl2) ?_ (((B3.same sD).same sL).mono (by lia)) (k3.trans (fun b o _ e=>sL b o (sD b o e)))
   have nd:=upto_nodup n
   have ndq:(qs++rs).Nodup:=pm.nodup_iff.mpr nd
   refine⟨pq.nodup_iff.mpr (List.nodup_append.mp ndq).1,fun x hx=>?_,by rw[pq.length_eq];lia,by rw[pq.length_eq];lia⟩
   have hx:x∈upto n:=pm.mem_iff.mp (List.mem_append_left _ (pq.mem_iff.mp hx))
   unfold upto at hx
   obtain⟨i,hi,e⟩:=List.mem_map.mp hx
   have:=List.mem_range.mp hi
   lia
end
open PySem L2 PyProof.Rows
noncomputable def nmAt(nm:List Int)(i:Int):Int:=nm.getD i.toNat 0
noncomputable def kLo(nm:List Int)(x:Tie):Int:=if nmAt nm x.2.1<nmAt nm x.1 then nmAt nm x.2.1 else nmAt nm x.1
noncomputable def kHi(nm:List Int)(x:Tie):Int:=if nmAt nm x.2.1 > nmAt nm x.1 then nmAt nm x.2.1 else nmAt nm x.1
noncomputable def wt(nm:List Int)(ties:List Tie)(a b:Int):Int:=((ties.filter fun x=>decide (kLo nm x=a/\kHi nm x=b)).map (·.2.2)).sum
theorem wt_nil{nm:List Int}{a b:Int}:wt nm [] a b=0:=rfl
theorem wt_snoc{nm:List Int}{l:List Tie}{x:Tie}{a b:Int}:wt nm (l++[x]) a b=wt nm l a b+if kLo nm x=a/\kHi nm x=b then x.2.2 else 0:=by
 unfold wt
 rw[List.filter_append,List.map_append,List.sum_append]
 by_cases h:kLo nm x=a/\kHi nm x=b
 ·rw[if_pos h,List.filter_cons_of_pos (by simpa using h)]
  simp
 ·rw[if_neg h,List.filter_cons_of_neg (by simpa using h)]
  simp
theorem wt_nonneg{nm:List Int}{l:List Tie}{n:Nat}(ok:∀ x∈l,TieOk n x)(a b:Int):0<=wt nm l a b:=by
 unfold wt
 induction l with
 |nil=>exact Int.le_refl _
 |cons x r ih =>
  have i2:=ih fun y hy=>ok y (List.mem_cons_of_mem _ hy)
  have o:=(ok x (List.mem_cons_self ..)).2.2.2
  rw[List.filter_cons]
  split
  ·rw[List.map_cons,List.sum_cons]
   lia
  ·exact i2
theorem nmAt_get{nm:List Int}{i:Int}(h0:0<=i)(h1:i<nm.length):atI (nm.map V.int) i=some (V.int (nmAt nm i))/\nmAt nm i∈nm:=by
 obtain⟨j,rfl⟩:∃ j:Nat,i=(j:Int):=⟨i.toNat,by lia⟩
 have hj:j<nm.length:=by lia
 have e:nmAt nm (j:Int)=nm[j]:=by
  unfold nmAt
  rw[Int.toNat_natCast,List.getD_eq_getElem?_getD,List.getElem?_eq_getElem hj]
  rfl
 rw[e]
 exact⟨atI_nat (by rw[List.getElem?_map,List.getElem?_eq_getElem hj];rfl),List.getElem_mem hj⟩
noncomputable def MergedIs(nm:List Int)(ties tl:List Tie):Prop:=∀ a b c,(a,b,c)∈tl↔a<b/\c=wt nm ties a b/\0<c
noncomputable def spMerged:Sp:=fun vs H Q _=>∃ (t u:Addr) (n M:Nat) (ties:List Tie) (nm:List Int),vs=[.ref t,.ref u]/\WebAt H t n ties/\(∀ x∈ties,TieOk n x)/\H u=some (.tup (nm.map V.int))/\nm.length=n /\
 (∀ y∈nm,0<=y/\y<=(M:Int))/\(M:Int)∈nm /\
 ∀ (t':Addr) (tl:List Tie) (H':Hp),WebAt H' t' (M+1) tl->(∀ x∈tl,TieOk (M+1) x)->tl.Pairwise tieLt->MergedIs nm ties tl->Same H H'->Q (.ref t') H'
structure MI(H:Hp)(d:Addr)(M:Nat)(nm:List Int)(ties:List Tie)(i:Nat)(kvs:List (List Key×V))(H':Hp):Prop where
 dic:H' d=some (.dT kvs)
 inv:DInv (M+1) kvs
 len:kvs.length<=i
 val:∀ a b:Int,a<b->valV kvs [Sum.inl a,Sum.inl b]=if 0<wt nm (ties.take i) a b then some (.int (wt nm (ties.take i) a b))else none
 sam:Same H H'
theorem MI.new{H H':Hp}{d q:Addr}{M i:Nat}{nm:List Int}{ties:List Tie}{kvs:List (List Key×V)}{o:HO}(W:MI H d M nm ties i kvs H')(h:H' q=none):MI H d M nm ties i kvs (upd H' q o) :=
 ⟨(Same.new h) _ _ W.dic,W.inv,W.len,W.val,W.sam.trans (Same.new h)⟩
theorem MI.skip{H H':Hp}{d:Addr}{M i:Nat}{nm:List Int}{ties:List Tie}{kvs:List (List Key×V)}(W:MI H d M nm ties i kvs H')(hi:i<ties.length)(e:kLo nm ties[i]=kHi nm ties[i]):MI H d M nm ties (i+1) kvs H':=by
 refine⟨W.dic,W.inv,Nat.le_succ_of_le W.len,fun a b ab=>?_,W.sam⟩
 have e2:wt nm (ties.take (i+1)) a b=wt nm (ties.take i) a b:=by
  rw[List.take_succ_eq_append_getElem hi,wt_snoc,if_neg (by lia)]
  exact Int.add_zero _
 rw[e2]
 exact W.val a b ab
theorem MI.get{H H':Hp}{d:Addr}{M i n:Nat}{nm:List Int}{ties:List Tie}{kvs:List (List Key×V)}(W:MI H d M nm ties i kvs H')(ok:∀ x∈ties,TieOk n x){a b:Int}(ab:a<b):(valV kvs [Sum.inl a,Sum.inl b]).getD (.int 0) = .int (wt nm (ties.take i) a b):=by
 have:=wt_nonneg (nm:=nm) (l:=ties.take i) (fun x hx=>ok x (List.mem_of_mem_take hx)) a b
 rw[W.val a b ab]
 split
 ·rfl
 ·have e:wt nm (ties.take i) a b=0:=by lia
  rw[e]
  rfl
theorem MI.put{H H':Hp}{d:Addr}{M i n:Nat}{nm:List Int}{ties:List Tie}{kvs:List (List Key×V)}(W:MI H d M nm ties i kvs H')(ok:∀ x∈ties,TieOk n x)(hd:H d=none)(hi:i<ties.length)(lo:0<=kLo nm ties[i])(lt:kLo nm ties[i]<kHi nm ties[i])(hb:kHi nm ties[i] <((M+1:Nat):Int)) :
  MI H d M nm ties (i+1) (putK kvs [Sum.inl (kLo nm ties[i]),Sum.inl (kHi nm ties[i])] (.int (wt nm (ties.take i) (kLo nm ties[i]) (kHi nm ties[i])+ties[i].2.2))) (upd H' d (.dT (putK kvs [Sum.inl (kLo nm ties[i]),Sum.inl (kHi nm ties[i])] (.int (wt nm (ties.take i) (kLo nm ties[i]) (kHi nm ties[i])+ties[i].2.2))))):=by
 have nn:=wt_nonneg (nm:=nm) (l:=ties.take i) (fun x hx=>ok x (List.mem_of_mem_take hx)) (kLo nm ties[i]) (kHi nm ties[i])
 have w1:=(ok _ (List.getElem_mem hi)).2.2.2
 have P:=W.inv.put (a:=kLo nm ties[i]) (b:=kHi nm ties[i]) (c:=wt nm (ties.take i) (kLo nm ties[i]) (kHi nm ties[i])+ties[i].2.2) ⟨lo,lt,hb,by show 1<=_+ties[i].2.2;lia⟩
 refine⟨upd_same,P.1,Nat.le_trans P.2 (Nat.succ_le_succ W.len),fun a b ab=>?_,fun b o e=>by rw[upd_ne (ne_of_none e hd)];exact W.sam _ _ e⟩
 rw[valV_put,List.take_succ_eq_append_getElem hi,wt_snoc]
 by_cases e:kLo nm ties[i]=a/\kHi nm ties[i]=b
 ·obtain⟨e1,e2⟩:=e
  rw[if_pos (show [Sum.inl a,Sum.inl b]=[(Sum.inl (kLo nm ties[i]):Key),Sum.inl (kHi nm ties[i])] by rw[e1,e2]),if_pos (show kLo nm ties[i]=a/\kHi nm ties[i]=b from⟨e1,e2⟩),<- e1,<- e2,if_pos (by lia)]
 ·rw[if_neg (fun z=>e (by injection z with z1 z2;injection z2 with z3 _;injection z1 with z1;injection z3 with z3;exact⟨z1.symm,z3.symm⟩)),if_neg e,Int.add_zero]
  exact W.val a b ab
section
variable{P:Program}{w:World}{K:PySem.W.Frag}{mg:Str->Option Value}{base:Heap}
noncomputable abbrev nMrg:List Str:=["web","names","weights","a","b","weight","pair"]
theorem scMrg:FnScope nMrg ["web","names"] (defScope sMerged):=⟨rfl,rfl,rfl,by decide +kernel,rfl,by decide +kernel,by decide +kernel⟩
theorem csMrg:CompScope ["a","b","weights"] [none,none,some 2] nMrg (defScope sMerged) (scO [(".0",.local),("a",.local),("b",.local),("weights",.free)]):=⟨rfl,by decide +kernel,by decide +kernel,by decide +kernel,rfl,capB_ok (by decide +kernel)⟩
theorem ndMrg:(["a","b","weights"]:List Str).Nodup:=by decide +kernel
theorem ok_merged{f:Addr}{fd:FuncData}(F:Fun K "merged" "merged" sMerged f fd)(T:Txt mg):FnOk P w K mg base CX0 1 f fd ["web","names"] spMerged:=by
 refine F.ok scMrg (fun vs H Q E h=>?_) (fun cdv A outer s H vs Q E hr h=>?_)
 ·obtain⟨t,u,n,M,ties,nm,rfl,_⟩:=h
  rfl
 ·obtain⟨t,u,n,M,ties,nm,rfl,W,ok,hnm,nl,nb,nM,q⟩:=h
  obtain⟨⟨ts,as,h1,h2,h3⟩,len⟩:=id W
  have h3l:as.length=ties.length:=h3.length
  have hu:=hu_of hr
  refine⟨_,pss_cons (ps_set (i:=2) scMrg.nd rfl (Or.inr rfl) pe_dnewT)
   (pss_cons (ps_for PassesOwn.never rfl (pi_tup (@pe_ix _ _ _ _ _ _ _ ix_tup (pv 0) pe_int (fun _ _=>rfl))) (pg_tup (n:=3) rfl (pgs_cons (pg_name (i:=3) scMrg.nd rfl (Or.inl rfl)) (pgs_cons (pg_name (i:=4) scMrg.nd rfl (Or.inl rfl)) (pgs_cons (pg_name (i:=5) scMrg.nd rfl (Or.inl rfl)) pgs_nil))))
    (pss_cons (ps_set (i:=6) scMrg.nd rfl (Or.inl rfl) (@pe_tup _ _ _ _ _ (@pa_call _ _ _ _ _ _ _ _ (pe_callB (call_min2 rfl) (by rfl) T.min boot_min (@pa_sub _ _ _ _ _ _ _ (pe_ix ix_tup (pv 1) (pv 3) (fun _ _=>rfl)) (@pa_sub _ _ _ _ _ _ _ (pe_ix ix_tup (pv 1) (pv 4) (fun _ _=>rfl)) pa_nil)))
     (@pa_call _ _ _ _ _ _ _ _ (pe_callB (call_max2 rfl) (by rfl) T.max boot_max (@pa_sub _ _ _ _ _ _ _ (pe_ix ix_tup (pv 1) (pv 3) (fun _ _=>rfl)) (@pa_sub _ _ _ _ _ _ _ (pe_ix ix_tup (pv 1) (pv 4) (fun _ _=>rfl)) pa_nil))) pa_nil))))
    (pss_one (ps_if (pt_cmpR op_ne (pe_ix ix_tup (pv 6) pe_int (fun _ _=>rfl)) (pe_ix ix_tup (pv 6) pe_int (fun _ _=>rfl)) (nomark _))
     (pss_one (ps_dput hu (pv 2) (pv 6) (pe_op op_add (pe_dget2 hu (pv 2) (pv 6) pe_int ⟨rfl,rfl,rfl,rfl⟩) (pv 5)) rfl)) pss_nil))))
   (pss_one (ps_ret (@pe_tup _ _ _ _ _ (@pa_bin _ _ _ _ _ _ _ _ (pe_op op_add (pe_callB (call_maxT rfl) (by rfl) T.max boot_max (@pa_nam _ _ _ _ _ _ (pv 1) pa_nil)) pe_int)
    (@pa_call _ _ _ _ _ _ _ _ (pe_callTy call_tuple_of (by rfl) T.tuple boot_tuple (@pa_comp _ _ _ _ _ _ _ _ (pe_comp rfl csMrg
     (pi_list (pe_callB (call_sortedD rfl) (by rfl) T.sorted boot_sorted (@pa_nam _ _ _ _ _ _ (pv 2) pa_nil)))
     (fun C s H fp=>pg_tupK K rfl (n:=2) rfl (pgs_cons (pg_name (i:=0) ndMrg rfl (Or.inl rfl)) (pgs_cons (pg_name (i:=1) ndMrg rfl (Or.inl rfl)) pgs_nil)) rfl rfl) (fun C s H fp=>pf_nil)
     (fun C s H fp=>@pe_tup _ _ _ _ _ (@pa_nam _ _ _ _ _ _ (pv 0) (@pa_nam _ _ _ _ _ _ (pv 1) (@pa_sub _ _ _ _ _ _ _ (pe_dget hu (pv 2) (@pe_tup _ _ _ _ _ (@pa_nam _ _ _ _ _ _ (pv 0) (@pa_nam _ _ _ _ _ _ (pv 1) pa_nil))) (fun _ _=>rfl)) pa_nil))))) pa_nil)) pa_nil)))))),?_⟩
  intro d hd
  have W0:MI H d M nm ties 0 [] (upd H d (.dT [])):=⟨upd_same,⟨fun _ h=>(nomatch h),List.nodup_nil⟩,Nat.le_refl _,fun a b _=>by rw[valV_nil,List.take_zero,wt_nil];rfl,Same.new hd⟩
  refine⟨_,rfl,t,_,_,_,rfl,rfl,SqT.of ((Same.new hd) _ _ h1),rfl,ts,rfl,⟨_,SqT.of ((Same.new hd) _ _ h2)⟩,?_⟩
  refine for_tup (K:=K) (a:=ts) (xs:=as.map V.ref) (fun i σ H'=>∃ kvs v3 v4 v5 v6,σ=[some (.ref t),some (.ref u),some (.ref d),v3,v4,v5,v6]/\MI H d M nm ties i kvs H') ⟨[],none,none,none,none,rfl,W0⟩ (fun i σ H' _ z=>by obtain⟨kvs,v3,v4,v5,v6,_,W⟩:=z;exact SqT.of (W.sam _ _ h2)) ?_ ?_
  ·rintro i x σ H' hx ⟨kvs,v3,v4,v5,v6,rfl,W⟩
   obtain⟨il,e⟩:=List.getElem?_eq_some_iff.mp hx
   rw[List.length_map]at il
   rw[List.getElem_map]at e
   subst e
   have it:i<ties.length:=by lia
   have hx:=W.sam _ _ (Paired.at h3 i il it)
   have hnm':=W.sam _ _ hnm
   obtain⟨o1,o2,o3,o4⟩:=ok _ (List.getElem_mem it)
   obtain⟨ga,ma⟩:=nmAt_get (nm:=nm) (i:=ties[i].1) o1 (by lia)
   obtain⟨gb,mb⟩:=nmAt_get (nm:=nm) (i:=ties[i].2.1) (by lia) (by lia)
   obtain⟨a0,a1⟩:=nb _ ma
   obtain⟨b0,b1⟩:=nb _ mb
   refine⟨as[i],_,rfl,SqT.of hx,rfl,_,_,rfl,_,_,rfl,_,_,rfl,rfl,?_⟩
   refine⟨_,rfl,_,rfl,u,_,_,_,rfl,rfl,SqT.of hnm',ga,_,rfl,_,rfl,u,_,_,_,rfl,rfl,SqT.of hnm',gb,_,_,rfl,?_⟩
   refine⟨_,rfl,_,rfl,u,_,_,_,rfl,rfl,SqT.of hnm',ga,_,rfl,_,rfl,u,_,_,_,rfl,rfl,SqT.of hnm',gb,_,_,rfl,(by show 2<=sizeLine;decide),fun tp htp=>?_⟩
   have Wt:=W.new (o:=.tup [.int (kLo nm ties[i]),.int (kHi nm ties[i])]) htp
   refine⟨_,rfl,tp,[.int (kLo nm ties[i]),.int (kHi nm ties[i])],_,_,rfl,rfl,SqT.of upd_same,rfl,_,rfl,tp,[.int (kLo nm ties[i]),.int (kHi nm ties[i])],_,_,rfl,rfl,SqT.of upd_same,rfl,rfl,_,rfl,?_⟩
   have le:kLo nm ties[i]<=kHi nm ties[i]:=by
    unfold kLo kHi
    split <;> split <;> lia
   have lo:0<=kLo nm ties[i]:=by
    unfold kLo
    split <;> omega
   have hi:kHi nm ties[i] <((M+1:Nat):Int):=by
    unfold kHi
    split <;> lia
   refine ite2 (fun hxy=>?_) (fun hxy=>?_)
   ·have xy:kLo nm ties[i]≠kHi nm ties[i]:=fun z=>by rw[z]at hxy;simp at hxy
    have lt:kLo nm ties[i]<kHi nm ties[i]:=by lia
    have g0:DGet _ d (V.ref tp) (valV kvs [Sum.inl (kLo nm ties[i]),Sum.inl (kHi nm ties[i])]):=DGet.t (k:=[Sum.inl (kLo nm ties[i]),Sum.inl (kHi nm ties[i])]) Wt.dic upd_same
    refine⟨_,rfl,d,rfl,.inr ⟨_,.inl Wt.dic⟩,_,rfl,_,g0,_,rfl,_,_,Wt.get ok lt,rfl,?_⟩
    have len2:=W.len
    refine⟨_,rfl,_,rfl,d,_,rfl,DPut.t (k:=[Sum.inl (kLo nm ties[i]),Sum.inl (kHi nm ties[i])]) Wt.dic upd_same (by rw[sizeLine_eq];lia),?_⟩
    exact⟨_,_,_,_,_,rfl,Wt.put ok hd it lo lt hi⟩
   ·have xy:kLo nm ties[i]=kHi nm ties[i]:=by
     by_cases z:kLo nm ties[i]=kHi nm ties[i]
     ·exact z
     ·exact absurd (by simpa using z) hxy
    exact⟨_,_,_,_,_,rfl,Wt.skip it xy⟩
  ·rintro σ H' ⟨kvs,v3,v4,v5,v6,rfl,W⟩
   rw[List.length_map,h3l]at W
   have len2:=W.len
   have val:∀ a b:Int,a<b->valV kvs [Sum.inl a,Sum.inl b]=if 0<wt nm ties a b then some (.int (wt nm ties a b))else none:=fun a b ab=>by
    have:=W.val a b ab
    rw[List.take_length]at this
    exact this
   have hnm':=W.sam _ _ hnm
   refine⟨_,rfl,u,nm,rfl,SqT.of hnm',(fun z=>by rw[z]at nM;cases nM),fun m hm hb=>?_⟩
   have em:m=(M:Int):=Int.le_antisymm (nb _ hm).2 (hb _ nM)
   subst em
   refine⟨_,_,rfl,rfl,_,rfl,d,kvs,kvs.map (fun kv=>unkey kv.1),rfl,W.dic,W.inv.keys,fun k hk=>?_,by lia,fun l as ns hl perm pw pt=>⟨l,rfl,⟨_,SqL.of upd_same⟩,?_⟩⟩
   ·obtain⟨kv,hkv,rfl⟩:=List.mem_map.mp hk
    obtain⟨a,b,c,e,_⟩:=W.inv.1 kv hkv
    rw[e]
    exact fun z=>nomatch z
   have W1:=W.new (o:=.lst (as.map V.ref)) hl
   have lenA:as.length=ns.length:=pt.length
   have lenN:ns.length=kvs.length:=by rw[perm.length_eq,List.length_map]
   have keyAt:∀ i (h1:i<as.length),∃ a b c:Int,H' as[i]=some (.tup [.int a,.int b])/\valV kvs [Sum.inl a,Sum.inl b]=some (V.int c)/\TieOk (M+1) (a,b,c)/\ns[i]?=some [a,b]:=fun i h1=>by
    have h2:i<ns.length:=by lia
    have e1:=Paired.at pt i h1 h2
    have m1:ns[i]∈kvs.map (fun kv=>unkey kv.1):=perm.mem_iff.mp (List.getElem_mem h2)
    obtain⟨kv,hkv,e2⟩:=List.mem_map.mp m1
    obtain⟨a,b,c,e3,ok⟩:=W.inv.1 kv hkv
    rw[e3]at e2
    have e4:ns[i]=[a,b]:=e2.symm
    rw[e4]at e1
    have m2:[Sum.inl a,Sum.inl b]∈kvs.map (·.1):=List.mem_map.mpr ⟨kv,hkv,by rw[e3]⟩
    obtain⟨v,v1,v2⟩:=valV_mem m2
    obtain⟨a',b',c',e5,ok'⟩:=W.inv.1 _ v2
    cases e5
    exact⟨a,b,c',e1,v1,ok',by rw[List.getElem?_eq_getElem h2,e4]⟩
   refine comp_list (K:=K) (a:=l) (xs:=as.map V.ref) (fun i ys G=>Same (upd H' l (.lst (as.map V.ref))) G/\∃ (bs:List Addr) (tl:List Tie),ys=bs.map V.ref/\Paired (fun b x=>G b=some (.tup (tieV x))) bs tl/\(∀ x∈tl,TieOk (M+1) x/\valV kvs [Sum.inl x.1,Sum.inl x.2.1]=some (V.int x.2.2))/\tl.map (fun x=>[x.1,x.2.1])=ns.take i) (by rw[List.length_map,sizeLine_eq];lia) ⟨Same.refl _,[],[],rfl,.nil,(fun _ h=>nomatch h),rfl⟩ (fun i ys G _ pp=>pp.1.seq (SqL.of upd_same)) ?_ ?_
   ·rintro i x ys G hi ⟨sm,bs,tl,rfl,pr,oks,eks⟩
    obtain⟨il,e⟩:=List.getElem?_eq_some_iff.mp hi
    rw[List.length_map]at il
    rw[List.getElem_map]at e
    subst e
    obtain⟨a,b,c,ha,hv,ok,nsi⟩:=keyAt i il
    have ha2:G as[i]=some (.tup [.int a,.int b]):=sm _ _ (by rw[upd_ne (ne_of_none ha hl)];exact ha)
    have hd2:G d=some (.dT kvs):=sm _ _ W1.dic
    refine⟨as[i],_,rfl,SqT.of ha2,rfl,_,_,rfl,_,_,rfl,rfl,⟨rfl,trivial⟩,tTru_if ⟨_,rfl,_,rfl,_,rfl,_,rfl,_,rfl,(by show 2<=sizeLine;decide),fun t1 ht1=>?_⟩⟩
    have g0:DGet (upd G t1 (.tup [.int a,.int b])) d (V.ref t1) (valV kvs [Sum.inl a,Sum.inl b]):=DGet.t (k:=[Sum.inl a,Sum.inl b]) ((Same.new ht1) _ _ hd2) upd_same
    rw[hv]at g0
    refine⟨d,_,rfl,g0,(by show 3<=sizeLine;decide),fun t2 ht2=>?_⟩
    have sm2:Same G (upd (upd G t1 (.tup [.int a,.int b])) t2 (.tup [.int a,.int b,.int c])):=(Same.new ht1).trans (Same.new ht2)
    refine⟨sm.trans sm2,bs++[t2],tl++[(a,b,c)],by rw[List.map_append];rfl,?_,fun x hx=>?_,?_⟩
    ·refine Paired.snoc (Paired.mapP pr fun b x e=>sm2 _ _ e) upd_same
    ·rcases List.mem_append.mp hx with z | z
     ·exact oks x z
     ·rw[List.mem_singleton.mp z];exact⟨ok,hv⟩
    ·obtain⟨ni,ne⟩:=List.getElem?_eq_some_iff.mp nsi
     rw[List.map_append,eks,List.take_succ_eq_append_getElem ni,ne]
     rfl
   ·rintro ys G yl ⟨sm,bs,tl,rfl,pr,oks,eks⟩ D hD
    rw[List.length_map]at yl
    refine⟨D,_,rfl,.inl ⟨SqL.of upd_same,fun ts hts=>⟨(by show 2<=sizeLine;decide),fun t ht=>?_⟩⟩⟩
    have s1:Same G (upd G D (.lst (bs.map V.ref))):=Same.new hD
    have s2:Same (upd G D (.lst (bs.map V.ref))) (upd (upd G D (.lst (bs.map V.ref))) ts (.tup (bs.map V.ref))):=Same.new hts
    have s3:=Same.new (o:=.tup [.int ((M:Int)+1),.ref ts]) ht
    have sA:=W1.sam.trans (sm.trans (s1.trans (s2.trans s3)))
    rw[List.take_of_length_le (by rw[List.length_map];lia)]at eks
    have nd:ns.Nodup:=perm.nodup_iff.mpr W.inv.nodup
    have st:ns.Pairwise (fun x y=>Srt.lexlt x y=true):=(pw.and nd).imp fun {x y} z=>by
     cases e:Srt.lexlt x y with
     |true=>rfl
     |false=>exact absurd (Srt.lexlt_total x y e z.1) z.2
    have st2:=st
    rw[<- eks,List.pairwise_map]at st2
    refine q t tl _ ⟨⟨ts,bs,upd_same,s3 _ _ upd_same,Paired.mapP pr fun b x e=>s3 _ _ (s2 _ _ (s1 _ _ e))⟩,?_⟩ (fun x hx=>(oks x hx).1) st2 (fun a b c=>⟨fun hm=>?_,fun hm=>?_⟩) sA
    ·have:=pr.length
     rw[List.length_map]at yl
     lia
    ·obtain⟨k1,k2⟩:=oks _ hm
     have ab:a<b:=k1.2.1
     have k3:=val a b ab
     rw[show valV kvs [Sum.inl a,Sum.inl b]=some (V.int c)from k2]at k3
     split at k3
     ·rename_i w0
      injection k3 with k3
      injection k3 with k3
      subst k3
      exact⟨ab,rfl,w0⟩
     ·cases k3
    ·obtain⟨ab,rfl,w0⟩:=hm
     have k3:=val a b ab
     rw[if_pos w0]at k3
     have an:(kvs.any fun kv=>decide (kv.1=[Sum.inl a,Sum.inl b]))=true:=by rw[valV_any,k3];rfl
     obtain⟨kv,hkv,e⟩:=List.any_eq_true.mp an
     have e:=of_decide_eq_true e
     have m1:[a,b]∈ns:=perm.mem_iff.mpr (List.mem_map.mpr ⟨kv,hkv,by rw[e];rfl⟩)
     rw[<- eks]at m1
     obtain⟨x,hx,ex⟩:=List.mem_map.mp m1
     obtain⟨x1,x2,x3⟩:=x
     injection ex with e1 e2
     injection e2 with e2 _
     have e1:x1=a:=e1
     have e2:x2=b:=e2
     subst e1
     subst e2
     have k4:=(oks _ hx).2
     rw[show valV kvs [Sum.inl x1,Sum.inl x2]=some (V.int x3)from k4]at k3
     injection k3 with k3
     injection k3 with k3
     rw[<- k3]
     exact hx
end
end K23
namespace Shk
noncomputable def fsts:List Int->List Int->List Int
 |acc,[]=>acc
 |acc,x :: l=>fsts (if x∈acc then acc else acc++[x]) l
noncomputable def fst(l:List Int):List Int:=fsts [] l
theorem fsts_snoc(x:Int):∀ (l acc:List Int),fsts acc (l++[x])=if x∈fsts acc l then fsts acc l else fsts acc l++[x]
 |[],acc=>rfl
 |y :: l,acc=>fsts_snoc x l _
theorem fst_snoc(l:List Int)(x:Int):fst (l++[x])=if x∈fst l then fst l else fst l++[x]:=fsts_snoc x l []
theorem snocInd{α:Type}{P:List α->Prop}(h0:P [])(hs:∀ l x,P l->P (l++[x])):∀ l,P l:=fun l=>by
 have:∀ n,∀ l:List α,l.length=n->P l:=by
  intro n
  induction n with
  |zero=>intro l e;rw[List.eq_nil_of_length_eq_zero e];exact h0
  |succ n ih =>
   intro l e
   have ne:l≠[]:=fun z=>by rw[z]at e;cases e
   rw[<- List.dropLast_concat_getLast ne]
   exact hs _ _ (ih _ (by rw[List.length_dropLast,e];rfl))
 exact this _ l rfl
theorem mem_fst(l:List Int):∀ x,x∈fst l↔x∈l:=snocInd (P:=fun l=>∀ x,x∈fst l↔x∈l) (fun x=>Iff.rfl) (fun l y ih x=>by
 rw[fst_snoc,List.mem_append,List.mem_singleton,<- ih]
 split
 ·constructor
  ·exact .inl
  ·rintro(z | z)
   ·exact z
   ·rw[z];assumption
 ·rw[List.mem_append,List.mem_singleton]) l
theorem fst_nd(l:List Int):(fst l).Nodup:=snocInd (P:=fun l=>(fst l).Nodup) List.nodup_nil (fun l y ih=>by
 rw[fst_snoc]
 split
 ·exact ih
 ·rw[List.nodup_append]
  refine⟨ih,by simp,fun a ha b hb=>?_⟩
  rw[List.mem_singleton.mp hb]
  intro z
  exact absurd (z▸ha) (by assumption)) l
noncomputable def numL(l:List Int):List Int:=l.map fun x=>((fst l).idxOf x:Int)
theorem numL_len(l:List Int):(numL l).length=l.length:=List.length_map _
noncomputable def at'(l:List Int)(v:Nat):Int:=l.getD v 0
theorem at_get{l:List Int}{v:Nat}(h:v<l.length):at' l v=l[v]:=by
 unfold at'
 rw[List.getD_eq_getElem?_getD,List.getElem?_eq_getElem h]
 rfl
theorem num_at{l:List Int}{v:Nat}(h:v<l.length):at' (numL l) v=((fst l).idxOf (at' l v):Int):=by
 rw[at_get (by rw[numL_len];exact h),at_get h]
 unfold numL
 rw[List.getElem_map]
theorem num_rg{l:List Int}:∀ y∈numL l,0<=y/\y <(fst l).length:=fun y hy=>by
 obtain⟨x,hx,rfl⟩:=List.mem_map.mp hy
 have:=List.idxOf_lt_length_of_mem ((mem_fst l x).mpr hx)
 lia
theorem num_all{l:List Int}{i:Nat}(h:i <(fst l).length):(i:Int)∈numL l:=by
 refine List.mem_map.mpr ⟨(fst l)[i],(mem_fst l _).mp (List.getElem_mem h),?_⟩
 rw[List.Nodup.idxOf_getElem (fst_nd l) _ h]
theorem num_inj{l:List Int}{v w:Nat}(hv:v<l.length)(hw:w<l.length):at' (numL l) v=at' (numL l) w↔at' l v=at' l w:=by
 rw[num_at hv,num_at hw]
 constructor
 ·intro h
  have h:(fst l).idxOf (at' l v)=(fst l).idxOf (at' l w):=by lia
  have mv:=(mem_fst l _).mpr (show at' l v∈l by rw[at_get hv];exact List.getElem_mem hv)
  have mw:=(mem_fst l _).mpr (show at' l w∈l by rw[at_get hw];exact List.getElem_mem hw)
  have ev:=List.getElem_idxOf (List.idxOf_lt_length_of_mem mv)
  have ew:=List.getElem_idxOf (List.idxOf_lt_length_of_mem mw)
  rw[<- ev,<- ew]
  simp only[h]
 ·intro h
  rw[h]
noncomputable def hds(l:List Int):List Nat:=(List.range l.length).filter fun v=>!decide (at' l v∈l.take v)
theorem at_app{l:List Int}{x:Int}{v:Nat}(h:v<l.length):at' (l++[x]) v=at' l v:=by
 rw[at_get (by rw[List.length_append];lia),at_get h,List.getElem_append_left h]
theorem hds_snoc(l:List Int)(x:Int):hds (l++[x])=hds l++(if x∈l then []else [l.length]):=by
 unfold hds
 rw[List.length_append,List.length_singleton,List.range_succ,List.filter_append]
 congr 1
 ·refine List.filter_congr fun v hv=>?_
  have hv:=List.mem_range.mp hv
  rw[at_app hv,List.take_append_of_le_length (by lia)]
 ·have e:at' (l++[x]) l.length=x:=by
   rw[at_get (by rw[List.length_append];simp),List.getElem_append_right (Nat.le_refl _)]
   simp
  have e2:(l++[x]).take l.length=l:=by rw[List.take_append_of_le_length (Nat.le_refl _),List.take_length]
  by_cases c:x∈l
  ·rw[if_pos c,List.filter_cons_of_neg (by rw[e,e2,decide_eq_true c];decide),List.filter_nil]
  ·rw[if_neg c,List.filter_cons_of_pos (by rw[e,e2,decide_eq_false c];rfl),List.filter_nil]
theorem fst_hds(l:List Int):fst l=(hds l).map (at' l):=snocInd (P:=fun l=>fst l=(hds l).map (at' l)) rfl (fun l x ih=>by
 rw[fst_snoc,hds_snoc,List.map_append]
 have e1:(hds l).map (at' (l++[x]))=(hds l).map (at' l):=List.map_congr_left fun v hv=>at_app (List.mem_range.mp (List.mem_filter.mp hv).1)
 have e:at' (l++[x]) l.length=x:=by
  rw[at_get (by rw[List.length_append];simp),List.getElem_append_right (Nat.le_refl _)]
  simp
 rw[e1,<- ih]
 by_cases c:x∈l
 ·rw[if_pos ((mem_fst l x).mpr c),if_pos c,List.map_nil,List.append_nil]
 ·rw[if_neg (fun z=>c ((mem_fst l x).mp z)),if_neg c]
  show fst l++[x]=fst l++[at' (l++[x]) l.length]
  rw[e]) l
noncomputable def grp(l:List Int)(h:Nat):List Int:=((List.range l.length).filter fun v=>decide (at' l v=at' l h)).map fun v:Nat=>(v:Int)
noncomputable def cls(l:List Int):List (List Int):=(hds l).map (grp l)
theorem mem_hds{l:List Int}{h:Nat}:h∈hds l↔h<l.length/\at' l h∉l.take h:=by
 unfold hds
 rw[List.mem_filter,List.mem_range]
 constructor
 ·rintro⟨a,b⟩
  exact⟨a,fun z=>by rw[decide_eq_true z]at b;cases b⟩
 ·rintro⟨a,b⟩
  exact⟨a,by rw[decide_eq_false b];rfl⟩
theorem not_take{l:List Int}{h:Nat}(hl:h<l.length):at' l h∉l.take h↔∀ w,w<h->at' l w≠at' l h:=by
 constructor
 ·intro n w hw e
  refine n ?_
  rw[<- e,at_get (by lia)]
  exact List.mem_take_iff_getElem.mpr ⟨w,by lia,rfl⟩
 ·intro n z
  obtain⟨w,hw,e⟩:=List.mem_take_iff_getElem.mp z
  exact n w (by lia) (by rw[at_get (by lia),e])
theorem hds_at{l:List Int}{h:Nat}:h∈hds l↔h<l.length/\∀ w,w<h->at' l w≠at' l h:=by
 rw[mem_hds]
 constructor
 ·rintro⟨a,b⟩;exact⟨a,(not_take a).mp b⟩
 ·rintro⟨a,b⟩;exact⟨a,(not_take a).mpr b⟩
theorem grp_congr{l m:List Int}(el:l.length=m.length)(h:∀ v w,v<l.length->w<l.length->(at' l v=at' l w↔at' m v=at' m w)){g:Nat}(hg:g<l.length):grp l g=grp m g:=by
 unfold grp
 rw[el]
 congr 1
 refine List.filter_congr fun v hv=>?_
 have:=h v g (by rw[el];exact List.mem_range.mp hv) hg
 exact decide_eq_decide.mpr this
theorem cls_congr{l m:List Int}(el:l.length=m.length)(h:∀ v w,v<l.length->w<l.length->(at' l v=at' l w↔at' m v=at' m w)):cls l=cls m:=by
 have e:hds l=hds m:=by
  unfold hds
  rw[el]
  refine List.filter_congr fun v hv=>?_
  have hv:=List.mem_range.mp hv
  have:at' l v∈l.take v↔at' m v∈m.take v:=by
   have a:=not_take (l:=l) (h:=v) (by lia)
   have b:=not_take (l:=m) (h:=v) (by omega)
   have c:(∀ w,w<v->at' l w≠at' l v)↔∀ w,w<v->at' m w≠at' m v:=⟨fun z w hw e=>z w hw ((h w v (by lia) (by lia)).mpr e),fun z w hw e=>z w hw ((h w v (by lia) (by lia)).mp e)⟩
   exact Decidable.not_iff_not.mp (a.trans (c.trans b.symm))
  rw[decide_eq_decide.mpr this]
 unfold cls
 rw[e]
 refine List.map_congr_left fun g hg=>grp_congr el h ?_
 rw[<- e]at hg
 exact(hds_at.mp hg).1
theorem cls_num(l:List Int):cls (numL l)=cls l:=cls_congr (numL_len l) fun v w hv hw=>num_inj (by rw[numL_len]at hv;exact hv) (by rw[numL_len]at hw;exact hw)
theorem cls_len(l:List Int):(cls l).length=(fst l).length:=by unfold cls;rw[fst_hds,List.length_map,List.length_map]
noncomputable def rawL(l:List Int)(side:List Int)(c:Int):List Int:=l.map fun x=>if x∈side then c else x
theorem raw_len(l side:List Int)(c:Int):(rawL l side c).length=l.length:=List.length_map _
theorem raw_at{l side:List Int}{c:Int}{v:Nat}(h:v<l.length):at' (rawL l side c) v=if at' l v∈side then c else at' l v:=by
 rw[at_get (by rw[raw_len];exact h),at_get h]
 unfold rawL
 rw[List.getElem_map]
end Shk
namespace K23
open PySem L2 PyProof.Rows
noncomputable def WideOf(n:Nat)(ties:List Tie)(S T W:List Int):Prop:=∃ am,Flw.Great n ties S T am/\W=(upto n).filter fun v=>!(Flw.keys (Flw.trails n ties am (-1) T)).contains v
theorem mem_uptoI{n:Nat}{x:Int}:x∈upto n↔0<=x/\x<n:=by
 unfold upto
 rw[List.mem_map]
 constructor
 ·rintro⟨i,hi,e⟩
  have:=List.mem_range.mp hi
  lia
 ·rintro⟨h1,h2⟩
  exact⟨x.toNat,List.mem_range.mpr (by omega),by lia⟩
theorem upto_asc(n:Nat):(upto n).Pairwise (· < ·):=by
 unfold upto
 rw[List.pairwise_map]
 exact List.pairwise_lt_range.imp fun {a b} h=>by lia
theorem wide_w{n:Nat}{ties:List Tie}{am T:List Int}:Flw.Wide n ties am T ((upto n).filter fun v=>!(Flw.keys (Flw.trails n ties am (-1) T)).contains v):=by
 refine⟨((upto_asc n).imp fun {a b} h=>by lia).filter _,fun v=>?_⟩
 rw[List.mem_filter,mem_uptoI]
 constructor
 ·rintro⟨a,b⟩
  exact⟨a,fun z=>by rw[List.contains_iff_mem.mpr z]at b;cases b⟩
 ·rintro⟨a,b⟩
  refine⟨a,?_⟩
  cases e:(Flw.keys (Flw.trails n ties am (-1) T)).contains v with
  |false=>rfl
  |true=>exact absurd (List.contains_iff_mem.mp e) b
theorem WideOf.uniq{n:Nat}{ties:List Tie}{S T W W':List Int}(ok:∀ x∈ties,TieOk n x)(E:Flw.Ends n S T)(h:WideOf n ties S T W)(h':WideOf n ties S T W'):W=W':=by
 obtain⟨a,g,rfl⟩:=h
 obtain⟨b,g',rfl⟩:=h'
 have va:=Flw.wide_val ok E g wide_w
 have vb:=Flw.wide_val ok E g' wide_w
 have sa:=Flw.wide_side ok E g wide_w
 have sb:=Flw.wide_side ok E g' wide_w
 have l1:=Flw.side_le ok E g sb
 have l2:=Flw.side_le ok E g' sa
 have ev:Flw.val ties a S=Flw.val ties b S:=by rw[vb]at l1;rw[va]at l2;lia
 refine Flw.asc_eq ((upto_asc n).filter _) ((upto_asc n).filter _) fun x=>⟨fun hx=>?_,fun hx=>?_⟩
 ·exact Flw.in_wide ok E g' wide_w sa (by rw[va,ev]) x hx
 ·exact Flw.in_wide ok E g wide_w sb (by rw[vb,ev]) x hx
open Classical in
noncomputable def wideL(n:Nat)(ties:List Tie)(S T:List Int):List Int:=if h:∃ W,WideOf n ties S T W then h.choose else []
open Classical in
theorem wideL_eq{n:Nat}{ties:List Tie}{S T W:List Int}(ok:∀ x∈ties,TieOk n x)(E:Flw.Ends n S T)(h:WideOf n ties S T W):W=wideL n ties S T:=by
 have ex:∃ W,WideOf n ties S T W:=⟨W,h⟩
 unfold wideL
 rw[dif_pos ex]
 exact h.uniq ok E ex.choose_spec
theorem WideOf.facts{n:Nat}{ties:List Tie}{S T W:List Int}(ok:∀ x∈ties,TieOk n x)(E:Flw.Ends n S T)(h:WideOf n ties S T W):(∀ s∈S,s∈W)/\(∀ t∈T,t∉W)/\∀ v∈W,0<=v/\v<n:=by
 obtain⟨a,g,rfl⟩:=h
 have sa:=Flw.wide_side ok E g wide_w
 exact⟨sa.sub,fun t ht z=>sa.no t z ht,sa.rg⟩
theorem lex_irr:∀ l:List Int,Srt.lexlt l l=false
 |[]=>rfl
 |a :: l=>by simp[Srt.lexlt,lex_irr l]
theorem lex_asym{a b:List Int}(h:Srt.lexlt a b=true):Srt.lexlt b a=false:=by
 cases e:Srt.lexlt b a with
 |false=>rfl
 |true =>
  have:=Srt.lexlt_trans a b a h e
  rw[lex_irr]at this
  cases this
theorem sorted_one:∀ {l m:List Tie},l.Pairwise tieLt->m.Pairwise tieLt->(∀ x,x∈l↔x∈m)->l=m
 |[],[],_,_,_=>rfl
 |[],y :: m,_,_,h=>nomatch (h y).mpr (List.mem_cons_self ..)
 |x :: l,[],_,_,h=>nomatch (h x).mp (List.mem_cons_self ..)
 |x :: l,y :: m,p,q,h=>by
  obtain⟨p1,p2⟩:=List.pairwise_cons.mp p
  obtain⟨q1,q2⟩:=List.pairwise_cons.mp q
  have xy:x=y:=by
   rcases List.mem_cons.mp ((h x).mp (List.mem_cons_self ..))with e | e
   ·exact e
   ·rcases List.mem_cons.mp ((h y).mpr (List.mem_cons_self ..))with f | f
    ·exact f.symm
    ·have h1:=q1 x e
     have h2:=p1 y f
     unfold tieLt at h1 h2
     rw[lex_asym h1]at h2
     cases h2
  subst xy
  congr 1
  refine sorted_one p2 q2 fun z=>?_
  constructor
  ·intro hz
   rcases List.mem_cons.mp ((h z).mp (List.mem_cons_of_mem _ hz))with e | e
   ·subst e
    have:=p1 z hz
    unfold tieLt at this
    rw[lex_irr]at this
    cases this
   ·exact e
  ·intro hz
   rcases List.mem_cons.mp ((h z).mpr (List.mem_cons_of_mem _ hz))with e | e
   ·subst e
    have:=q1 z hz
    unfold tieLt at this
    rw[lex_irr]at this
    cases this
   ·exact e
noncomputable def MrgOf(nm:List Int)(ties tl:List Tie):Prop:=tl.Pairwise tieLt/\MergedIs nm ties tl
theorem MrgOf.uniq{nm:List Int}{ties tl tl':List Tie}(h:MrgOf nm ties tl)(h':MrgOf nm ties tl'):tl=tl':=sorted_one h.1 h'.1 fun x=>by
 obtain⟨a,b,c⟩:=x
 rw[h.2 a b c,h'.2 a b c]
open Classical in
noncomputable def mrgL(nm:List Int)(ties:List Tie):List Tie:=if h:∃ tl,MrgOf nm ties tl then h.choose else []
open Classical in
theorem mrgL_eq{nm:List Int}{ties tl:List Tie}(h:MrgOf nm ties tl):tl=mrgL nm ties:=by
 have ex:∃ tl,MrgOf nm ties tl:=⟨tl,h⟩
 unfold mrgL
 rw[dif_pos ex]
 exact h.uniq ex.choose_spec
structure NOk(n:Nat)(ps nm:List Int):Prop where
 len:nm.length=n
 num:∃ l,nm=Shk.numL l
 post:∀ p∈ps,∀ q∈ps,nmAt nm p=nmAt nm q->p=q
noncomputable def kOf(nm:List Int):Nat:=(Shk.fst nm).length
theorem nm_at{nm:List Int}{v:Nat}:nmAt nm (v:Int)=Shk.at' nm v:=rfl
theorem NOk.rg{n:Nat}{ps nm:List Int}(h:NOk n ps nm):∀ y∈nm,0<=y/\y <(kOf nm:Int):=fun y hy=>by
 obtain⟨l,e⟩:=h.num
 have k:kOf nm=(Shk.fst l).length:=by unfold kOf;rw[e,<- Shk.cls_len,<- Shk.cls_len,Shk.cls_num]
 rw[k]
 rw[e]at hy
 exact Shk.num_rg y hy
theorem NOk.all{n:Nat}{ps nm:List Int}(h:NOk n ps nm){i:Nat}(hi:i<kOf nm):(i:Int)∈nm:=by
 obtain⟨l,e⟩:=h.num
 have k:kOf nm=(Shk.fst l).length:=by unfold kOf;rw[e,<- Shk.cls_len,<- Shk.cls_len,Shk.cls_num]
 rw[e]
 exact Shk.num_all (by rw[<- k];exact hi)
theorem NOk.pos{n:Nat}{ps nm:List Int}(h:NOk n ps nm)(n1:1<=n):1<=kOf nm/\kOf nm<=n:=by
 have h0:nm[0]'(by rw[h.len];lia)∈nm:=List.getElem_mem _
 have:=h.rg _ h0
 refine⟨by omega,?_⟩
 have:∀ l:List Int,(Shk.fst l).length<=l.length:=Shk.snocInd (P:=fun l=>(Shk.fst l).length<=l.length) (Nat.le_refl _) fun l x ih=>by
  rw[Shk.fst_snoc,List.length_append]
  split
  ·lia
  ·rw[List.length_append];exact Nat.succ_le_succ ih
 have h2:=this nm
 rw[h.len]at h2
 exact h2
noncomputable def oth(ps nm:List Int)(post:Int):List Int:=(ps.filter fun o=>!decide (o=post)).map (nmAt nm)
noncomputable def side(ties:List Tie)(ps nm:List Int)(post:Int):List Int:=wideL (kOf nm) (mrgL nm ties) [nmAt nm post] (oth ps nm post)
noncomputable def drw(ties:List Tie)(ps nm:List Int)(post:Int):List Int:=Shk.numL (Shk.rawL nm (side ties ps nm post) (nmAt nm post))
theorem nmAt_mem{n:Nat}{ps nm:List Int}(h:NOk n ps nm){p:Int}(r:0<=p/\p<n):nmAt nm p∈nm:=(nmAt_get r.1 (by rw[h.len];exact r.2)).2
theorem NOk.ends{n:Nat}{ps nm:List Int}(h:NOk n ps nm)(nd:ps.Nodup)(rg:∀ x∈ps,0<=x/\x<n){post:Int}(hp:post∈ps):Flw.Ends (kOf nm) [nmAt nm post] (oth ps nm post):=by
 refine⟨by simp,?_,fun s hs=>?_,fun s hs=>?_,fun s hs z=>?_⟩
 ·unfold oth
  rw[List.Nodup,List.pairwise_map]
  refine(nd.filter _).imp_of_mem fun {a b} ha hb ne e=>ne ?_
  exact h.post a (List.mem_filter.mp ha).1 b (List.mem_filter.mp hb).1 e
 ·rw[List.mem_singleton.mp hs]
  exact h.rg _ (nmAt_mem h (rg _ hp))
 ·obtain⟨o,ho,rfl⟩:=List.mem_map.mp hs
  exact h.rg _ (nmAt_mem h (rg _ (List.mem_filter.mp ho).1))
 ·rw[List.mem_singleton.mp hs]at z
  obtain⟨o,ho,e⟩:=List.mem_map.mp z
  obtain⟨m,ne⟩:=List.mem_filter.mp ho
  have:=h.post o m post hp e
  rw[this]at ne
  simp at ne
structure SideOk(ps nm:List Int)(post:Int)(sd:List Int):Prop where
 own:nmAt nm post∈sd
 no:∀ o∈ps,o≠post->nmAt nm o∉sd
theorem NOk.step{n:Nat}{ps nm sd:List Int}{post:Int}(h:NOk n ps nm)(rg:∀ x∈ps,0<=x/\x<n)(hp:post∈ps)(s:SideOk ps nm post sd):NOk n ps (Shk.numL (Shk.rawL nm sd (nmAt nm post))):=by
 have rl:(Shk.rawL nm sd (nmAt nm post)).length=n:=by rw[Shk.raw_len,h.len]
 have raw:∀ p∈ps,∃ k:Nat,p=(k:Int)/\k<n/\Shk.at' (Shk.rawL nm sd (nmAt nm post)) k=nmAt nm p:=fun p hpp=>by
  obtain⟨r0,r1⟩:=rg p hpp
  obtain⟨k,rfl⟩:∃ k:Nat,p=(k:Int):=⟨p.toNat,by lia⟩
  refine⟨k,rfl,by lia,?_⟩
  rw[Shk.raw_at (by rw[h.len];lia)]
  by_cases c:(k:Int)=post
  ·rw[if_pos (by rw[<- nm_at,c];exact s.own),c]
  ·rw[if_neg (show Shk.at' nm k∉sd from s.no _ hpp c),nm_at]
 refine⟨by rw[Shk.numL_len,rl],⟨_,rfl⟩,fun p hp1 q hq1 e=>?_⟩
 obtain⟨a,rfl,a1,a2⟩:=raw p hp1
 obtain⟨b,rfl,b1,b2⟩:=raw q hq1
 rw[nm_at,nm_at,Shk.num_inj (by lia) (by lia),a2,b2]at e
 exact h.post _ hp1 _ hq1 e
theorem fst_upto(n:Nat):Shk.fst (upto n)=upto n:=by
 induction n with
 |zero=>rfl
 |succ n ih =>
  have e:upto (n+1)=upto n++[(n:Int)]:=by unfold upto;rw[List.range_succ,List.map_append];rfl
  rw[e,Shk.fst_snoc,ih,if_neg]
  intro z
  have:=mem_uptoI.mp z
  lia
theorem num_upto(n:Nat):Shk.numL (upto n)=upto n:=by
 unfold Shk.numL
 rw[fst_upto]
 refine List.ext_getElem (List.length_map _) fun i a b=>?_
 rw[List.getElem_map,List.Nodup.idxOf_getElem ((upto_asc n).imp fun {a b} h=>by lia) _ b]
 have:(upto n)[i]=(i:Int):=by simp[upto]
 rw[this]
theorem nok_start{n:Nat}{ps:List Int}(rg:∀ x∈ps,0<=x/\x<n):NOk n ps (upto n):=by
 have at':∀ p∈ps,nmAt (upto n) p=p:=fun p hp=>by
  obtain⟨r0,r1⟩:=rg p hp
  obtain⟨k,rfl⟩:∃ k:Nat,p=(k:Int):=⟨p.toNat,by lia⟩
  have hk:k <(upto n).length:=by unfold upto;rw[List.length_map,List.length_range];lia
  rw[nm_at,Shk.at_get hk]
  simp[upto]
 refine⟨by unfold upto;rw[List.length_map,List.length_range],⟨upto n,(num_upto n).symm⟩,fun p hp q hq e=>?_⟩
 rw[at' p hp,at' q hq]at e
 exact e
end K23
namespace L2
open PySem PySem.W PyProof.Rows
section
variable{s:Shared}{prog:Program}{w:World}{A:Around}{E:Value->Shared->Prop}
theorem collect_rng{Q:List Value->Shared->Prop}{r:Addr}{a b c:Int}{t u v:Tok}{n:Nat}
  (hd:A.handled=none) (hr:IsRange s.heap r a b c t u v) (sm:Builtin.Range.small a b c=true) (hn:Builtin.Range.rangeSize a b c=n) (hl:n<=2 ^ 24)
  (hQ:∀ (h':Heap) (tk:Tok) (acc:Array Value),(∀ b o,s.heap.get? b=some o->h'.get? b=some o)->ItemsOf (fun i v=>∃ t,v = .int (a+i * c) t) acc n->Q acc.toList { s with heap:=h',toks:=tk }) :
  wpAny (model prog w) A (collect (.ref r)) Q E s:=by
 unfold collect
 refine wpAny_bind (wpAny_runValue (codeAny_builtin (F.entry_proto_collect) ?_))
 rw[Around.under_plainId (F.plain_proto_collect) _]
 refine wpAny_bind (m:=newList []) (wpAny_newObj_type (wpAny_pure ?_))
 refine⟨plainId_quiet (F.plain_list_iadd) _,codeAny_builtin (F.entry_list_iadd) ?_⟩
 rw[Around.under_plainId (F.plain_list_iadd) _]
 have e0:(s.heap.push { cls:=.type "list",data:=.seq #[] }).get? s.heap.objs.size=some { cls:=.type "list",data:=.seq #[] }:=Heap.get?_push_size _ rfl
 show wpAny (model prog w) A.in1 (Builtin.List.listExtendWith (.ref s.heap.objs.size) (.ref r) (.ref s.heap.objs.size)) _ _ _
 have fin:∀ s',(∃ (h':Heap) (tk:Tok) (acc:Array Value) (c':Nat),s' = { s with heap:=h',toks:=tk }/\(∀ b o,s.heap.get? b=some o->h'.get? b=some o) /\
   h'.get? s.heap.objs.size=some { cls:=.type "list",dict:=none,data:=.seq acc c',slots:=#[] }/\ItemsOf (fun i v=>∃ t,v = .int (a+i * c) t) acc n) ->
   wpAny (model prog w) A (load s.heap.objs.size >>= fun o=>match o.data with
    | .seq xs _=>pure xs.toList
    | _=>unsupported "internal:collect") Q E s':=by
  rintro _ ⟨h',tk,acc,c',rfl,kp,hS',hacc⟩
  exact wpAny_bind (wpAny_load hS' (wpAny_pure (hQ h' tk acc kp hacc)))
 refine wpAny_mono (wpAny_extend_range (A:=A) (s:={ s with heap:=s.heap.push { cls:=.type "list",data:=.seq #[] } }) (show A.in1.handled=none from hd) (Heap.get?_push_of_some _ hr) sm hn hl s.heap.objs.size (.ref s.heap.objs.size) _ e0
  (R:=fun res s'=>res = .ok (.ret (.ref s.heap.objs.size))/\∃ (h':Heap) (tk:Tok) (acc:Array Value) (c':Nat),s' = { s with heap:=h',toks:=tk }/\(∀ b o,s.heap.get? b=some o->h'.get? b=some o) /\
   h'.get? s.heap.objs.size=some { cls:=.type "list",dict:=none,data:=.seq acc c',slots:=#[] }/\ItemsOf (fun i v=>∃ t,v = .int (a+i * c) t) acc n)
  fun h' tk acc c' hk hS' hacc=>⟨rfl,h',tk,acc,c',rfl,fun b o e=>hk b o (Nat.ne_of_lt (Heap.lt_size e)) (Heap.get?_push_of_some _ e),hS',hacc⟩) (fun f s' z=>?_) (fun e s' z=>absurd z.1 (by simp))
 cases f with
 |done f =>
  obtain⟨e,z⟩:=z
  cases e
  exact fin s' z
 |again c' =>
  refine⟨z.1,codeAny_mono z.2 fun res s2 z2=>?_⟩
  obtain⟨rfl,z2⟩:=z2
  exact fin s2 z2
theorem call_tuple_rng'{Q:Value->Shared->Prop}{r:Addr}{a b c:Int}{t u v:Tok}{n:Nat}
  (hd:A.handled=none) (hr:IsRange s.heap r a b c t u v) (sm:Builtin.Range.small a b c=true) (hn:Builtin.Range.rangeSize a b c=n) (hl:n<=2 ^ 24)
  (hQ:∀ (h':Heap) (tk:Tok) (acc:Array Value),(∀ b o,s.heap.get? b=some o->h'.get? b=some o)->ItemsOf (fun i v=>∃ t,v = .int (a+i * c) t) acc n->Q (.ref h'.objs.size) { s with heap:=h'.push { cls:=.type "tuple",data:=.seq acc },toks:=tk }) :
  wpAny (model prog w) A (call (.type "tuple") [.ref r]) Q E s:=by
 refine callType_codes (Q₁:=fun o s₁=>s₁.TypeIs o "tuple"/\Q o s₁) F.called_tuple (F.typeCall_tuple_1 _) F.entry_object_init ?_ fun o s₁ z =>
  ⟨z.1,F.args_object_init_2 o _,object_init_meets F.called_tuple.init.lookup F.called_tuple.made (by decide) prog w A.in1 _ s₁ ⟨z.1,rfl,z.2⟩⟩
 refine codeAny_of_tree ?_
 refine wpAny_bind (m:=checkBuiltinCall "tuple.__new__" ⟨[.type "tuple",.ref r],[]⟩) (wpAny_of_eq (F.newCall_tuple_1 _) ?_)
 refine wpAny_pure ⟨plainId_quiet (F.plain_tuple_new) _,codeAny_builtin (F.entry_tuple_new) ?_⟩
 rw[Around.under_plainId (F.plain_tuple_new) _]
 have q1:=sub_tuple_self
 have q2:=init_tuple_lookup
 have q3:=madeHere_tuple
 have isR:s.TypeIs (.ref r) "range":=⟨_,hr,rfl⟩
 wp_walk using wpAny_typeOf isR,collect_rng (A:=A.in1.in1) (show A.in1.in1.handled=none from hd) hr sm hn hl
 intro h' tk acc kp hacc
 unfold Builtin.Tuple.tupleExact -- a new one
 rw[show acc.toList.toArray=acc by simp]
 have hz:acc.size<=sizeLine:=by rw[hacc.1,sizeLine_eq];omega
 refine wpAny_bind (m:=newObj (.type "tuple") (.seq acc)) (wpAny_newObj_type ?_ hz)
 refine wpAny_pure ?_
 exact⟨⟨_,Heap.get?_push_size _ rfl,rfl⟩,hQ h' tk acc kp hacc⟩
end
theorem vals_rng{j:Nat}{acc:Array Value}(hI:ItemsOf (fun i v=>∃ t,v = .int ((0:Int)+i * 1) t) acc j):Vals ((upto j).map V.int) acc.toList:=by
 have len:acc.toList.length=j:=by rw[Array.length_toList];exact hI.1
 have key:∀ (n:Nat) (a:List Value) (b:Nat),a.length=n->(∀ i u,a[i]?=some u->∃ t,u=Value.int ((b+i:Nat):Int) t)->Vals (((List.range' b n).map fun(i:Nat)=>(i:Int)).map V.int) a:=by
  intro n
  induction n with
  |zero=>intro a b e _;rw[List.eq_nil_of_length_eq_zero e];exact .nil
  |succ n ih =>
   intro a b e f
   cases a with
   |nil=>simp at e
   |cons u a =>
    rw[List.range'_succ,List.map_cons,List.map_cons]
    refine .cons (f 0 u rfl) (ih a (b+1) (by simpa using e) fun i u hu=>?_)
    obtain⟨t,z⟩:=f (i+1) u (by simpa using hu)
    exact⟨t,by rw[z];congr 1;lia⟩
 have:=key j acc.toList 0 len fun i u hu=>by
  obtain⟨t,z⟩:=hI.2 i u (by rw[<- Array.getElem?_toList];exact hu)
  exact⟨t,by rw[z];congr 1;lia⟩
 rw[<- List.range_eq_range']at this
 exact this
section
variable{X:Cx}
theorem call_tuple_rng(hc:X.calm=true):CallR X (.type "tuple") (fun xs H Q=>∃ p j,xs=[V.ref p]/\H p=some (.rng 0 j)/\-(2 ^ 62)<=j/\j<=1000000/\∀ l,H l=none->Q (.ref l) (upd H l (.tup ((upto j.toNat).map V.int)))):=by
 intro pins s σ H xs us Q I r h
 obtain⟨p,j,rfl,hp,h1,h2,q⟩:=h
 obtain⟨u,rfl,rx⟩:=vals1 r
 cases rx
 obtain⟨t,u,v,e⟩:=I.hok p _ hp
 have rs:Builtin.Range.rangeSize 0 j 1=((j.toNat:Nat):Int):=by rw[rangeSize_one];split <;> lia
 refine call_tuple_rng' (I.ok.hd hc) (show IsRange s.heap p 0 j 1 t u v from e) (small_one (by lia) (by lia) h1 (by lia)) rs (by lia) fun h' tk acc kp hI=>?_
 have I1:Inv X pins σ H { s with heap:=h',toks:=tk }:=I.kept (t':=tk) kp
 have hz:((upto j.toNat).map V.int).length<=sizeLine:=by rw[List.length_map,upto_length,sizeLine_eq];lia
 have I2:Inv X pins σ (upd H h'.objs.size (.tup ((upto j.toNat).map V.int))) { s with heap:=h'.push { cls:=.type "tuple",data:=.seq acc },toks:=tk } :=
  I1.laid (t':=tk) (fun b o e=>Heap.get?_push_of_some _ e) (Nat.le_refl _) (show ObjOk X.prog X.w _ _ _ (.tup ((upto j.toNat).map V.int))from⟨hz,acc.toList,vals_rng hI,by rw[Array.toArray_toList];exact IsTup.new _ _⟩)
 exact⟨.ref h'.objs.size,_,I2,rfl,q _ (I1.hok.fresh (Nat.le_refl _))⟩
end
end L2
namespace K23
open PySem L2 PyProof.Rows
theorem for_seq{K:PySem.W.Frag}{a:Addr}{xs:List V}{g:TG}{tb:TS}{D:Ends}{σ:L2.St}{H:Hp}(b:Bool)(Pv:Nat->L2.St->Hp->Prop)(h0:Pv 0 σ H)(hl:∀ i σ H,i<=xs.length->Pv i σ H->SqB b K H a xs)
  (hs:∀ i x σ H,xs[i]?=some x->Pv i σ H->g x σ H fun σ2 H2=>tb { D with nx:=Pv (i+1),ct:=Pv (i+1),bk:=D.nx } σ2 H2) (hd:∀ σ H,Pv xs.length σ H->D.nx σ H) :
  ∃ W:Nat->Nat->L2.St->Hp->Prop,(∃ m,W 0 m σ H)/\∀ i m σ H,W i m σ H ->
   ((ItB b K a).stop i H/\D.nx σ H)\/((ItB b K a).go i H/\∃ N:L2.St->Hp->Prop,(∀ σ' H',N σ' H'->∃ m',m'<m/\W (i+1) m' σ' H')/\∀ x H',(ItB b K a).yld i H x H'->g x σ H' fun σ2 H2=>tb { D with nx:=N,ct:=N,bk:=D.nx } σ2 H2):=by
 cases b
 ·exact for_list Pv h0 hl hs hd
 ·exact for_tup Pv h0 hl hs hd
structure NumD(F:List Int)(kvs:List (Key×V)):Prop where
 len:kvs.length=F.length
 val:∀ x,valV kvs (Sum.inl x)=if x∈F then some (.int (F.idxOf x:Int))else none
theorem NumD.snoc{F:List Int}{kvs:List (Key×V)}(h:NumD F kvs){x:Int}(n:x∉F):NumD (F++[x]) (putK kvs (Sum.inl x) (.int (F.length:Int))):=by
 have e:=h.val x
 rw[if_neg n]at e
 refine⟨by rw[putK_new _ e,List.length_append,List.length_append,h.len];rfl,fun y=>?_⟩
 rw[valV_put]
 by_cases c:y=x
 ·subst c
  rw[if_pos rfl,if_pos (List.mem_append_right _ (List.mem_singleton.mpr rfl)),List.idxOf_append,if_neg n,List.idxOf_cons_self,Nat.zero_add]
 ·rw[if_neg (fun z=>c (by injection z)),h.val]
  by_cases d:y∈F
  ·rw[if_pos d,if_pos (List.mem_append_left _ d),List.idxOf_append,if_pos d]
  ·rw[if_neg d,if_neg (fun z=>by
    rcases List.mem_append.mp z with z | z
    ·exact d z
    ·exact c (List.mem_singleton.mp z))]
noncomputable def spNu:Sp:=fun vs H Q _=>∃ (a:Addr) (l:List Int),vs=[.ref a]/\H a=some (.lst (l.map V.int))/\l.length<=1000 /\
 ∀ (t:Addr) (H':Hp),H' t=some (.tup ((Shk.numL l).map V.int))->Same H H'->Q (.ref t) H'
structure PsOk(n:Nat)(ps:List Int):Prop where
 nd:ps.Nodup
 rg:∀ x∈ps,0<=x/\x<n
 n1:1<=n
 n30:n<=30
noncomputable def spDr:Sp:=fun vs H Q _=>∃ (t q u:Addr) (n:Nat) (ties:List Tie) (b:Bool) (ps nm:List Int) (post:Int),vs=[.ref t,.ref q,.int post,.ref u]/\WebAt H t n ties/\(∀ x∈ties,TieOk n x)/\H q=some (sqO b (ps.map V.int))/\ps.length<=30/\PsOk n ps/\post∈ps/\H u=some (.tup (nm.map V.int))/\NOk n ps nm /\
 ∀ (r:Addr) (H':Hp),H' r=some (.tup ((drw ties ps nm post).map V.int))->SideOk ps nm post (side ties ps nm post)->MrgOf nm ties (mrgL nm ties)->(∀ x∈mrgL nm ties,TieOk (kOf nm) x)->WideOf (kOf nm) (mrgL nm ties) [nmAt nm post] (oth ps nm post) (side ties ps nm post)->Same H H'->Q (.ref r) H'
inductive Shr(n:Nat)(ties:List Tie)(ps:List Int):List Int->Prop
 |start:Shr n ties ps (upto n)
 |step {nm:List Int}{post:Int}:Shr n ties ps nm->NOk n ps nm->post∈ps->MrgOf nm ties (mrgL nm ties)->(∀ x∈mrgL nm ties,TieOk (kOf nm) x)->WideOf (kOf nm) (mrgL nm ties) [nmAt nm post] (oth ps nm post) (side ties ps nm post)->NOk n ps (drw ties ps nm post)->Shr n ties ps (drw ties ps nm post)
noncomputable def shr(ties:List Tie)(ps:List Int):List Int->List Int->List Int
 |[],nm=>nm
 |p :: r,nm=>shr ties ps r (drw ties ps nm p)
theorem shr_snoc(ties:List Tie)(ps:List Int)(p:Int):∀ (r nm:List Int),shr ties ps (r++[p]) nm=drw ties ps (shr ties ps r nm) p
 |[],_=>rfl
 | _ :: r,nm=>shr_snoc ties ps p r _
noncomputable def spSk:Sp:=fun vs H Q _=>∃ (t q:Addr) (n:Nat) (ties:List Tie) (b:Bool) (ps:List Int),vs=[.ref t,.ref q]/\WebAt H t n ties/\(∀ x∈ties,TieOk n x)/\H q=some (sqO b (ps.map V.int))/\ps.length<=30/\PsOk n ps /\
 ∀ (r w u:Addr) (H':Hp),H' r=some (.tup [.ref w,.ref u])->WebAt H' w (kOf (shr ties ps ps (upto n))) (mrgL (shr ties ps ps (upto n)) ties)->(∀ x∈mrgL (shr ties ps ps (upto n)) ties,TieOk (kOf (shr ties ps ps (upto n))) x)->(mrgL (shr ties ps ps (upto n)) ties).Pairwise tieLt->H' u=some (.tup ((shr ties ps ps (upto n)).map V.int))->NOk n ps (shr ties ps ps (upto n))->Shr n ties ps (shr ties ps ps (upto n))->MrgOf (shr ties ps ps (upto n)) ties (mrgL (shr ties ps ps (upto n)) ties)->Same H H'->Q (.ref r) H'
section
variable{P:Program}{w:World}{K:PySem.W.Frag}{mg:Str->Option Value}{base:Heap}{b:Bool}
noncomputable abbrev nNu:List Str:=["names","numbers","name"]
theorem scNu:FnScope nNu ["names"] (defScope sNumbered):=⟨rfl,rfl,rfl,by decide +kernel,rfl,by decide +kernel,by decide +kernel⟩
theorem csNu1:CompScope ["name","numbers"] [none,some 1] nNu (defScope sNumbered) (scO [(".0",.local),("name",.local),("numbers",.free)]):=⟨rfl,by decide +kernel,by decide +kernel,by decide +kernel,rfl,capB_ok (by decide +kernel)⟩
theorem ndNu1:(["name","numbers"]:List Str).Nodup:=by decide +kernel
theorem ok_nu{f:Addr}{fd:FuncData}(F:Fun K "numbered" "numbered" sNumbered f fd)(T:Txt mg):FnOk P w K mg base CX0 1 f fd ["names"] spNu:=by
 refine F.ok scNu (fun vs H Q E h=>?_) (fun cdv A outer s H vs Q E hr h=>?_)
 ·obtain⟨a,l,rfl,_⟩:=h
  rfl
 ·obtain⟨a,l,rfl,ha,ll,fin⟩:=h
  have hu:=hu_of hr
  refine⟨_,(pss_cons (ps_set (i:=1) scNu.nd rfl (Or.inr rfl) pe_dnewK)
   (pss_cons (ps_for PassesOwn.never rfl (pi_list (pv 0)) (pg_name (i:=2) scNu.nd rfl (Or.inl rfl))
   (pss_one (ps_expr (pe_dsetd (pv 1) (pv 2) (pe_callB call_lenD (by rfl) T.len PySem.boot_len (@pa_nam _ _ _ _ _ _ (pv 1) pa_nil)) ⟨rfl,rfl,rfl,rfl⟩))))
   (pss_one (ps_ret (pe_callTy call_tupleH (by rfl) T.tuple boot_tuple (@pa_comp _ _ _ _ _ _ _ _ (pe_comp rfl csNu1 (pi_list (pv 0)) (fun C s H fp=>(pg_name (i:=0) ndNu1 rfl (Or.inl rfl))) (fun C s H fp=>pf_nil) (fun C s H fp=>(pe_dget hu (pv 1) (pv 0) (fun _ _=>rfl)))) pa_nil)))))),?_⟩
  intro d hd
  have s0:=Same.new (o:=.dK []) hd
  refine⟨_,rfl,a,rfl,⟨_,SqL.of (s0 _ _ ha)⟩,?_⟩
  refine for_list (K:=K) (a:=a) (xs:=l.map V.int) (fun i σ G=>∃ (v2:Option V) (kvs:List (Key×V)),σ=[some (.ref a),some (.ref d),v2]/\Same H G/\G d=some (.dK kvs)/\NumD (Shk.fst (l.take i)) kvs/\kvs.length<=i) ⟨_,[],rfl,s0,upd_same,⟨rfl,fun x=>rfl⟩,Nat.le_refl _⟩ (fun i σ G _ z=>by obtain⟨_,_,_,s,_⟩:=z;exact SqL.of (s _ _ ha)) ?_ ?_
  ·rintro i x σ G hx ⟨v2,kvs,rfl,sG,gd,ND,kl⟩
   obtain⟨il,e⟩:=List.getElem?_eq_some_iff.mp hx
   rw[List.length_map]at il
   rw[List.getElem_map]at e
   subst e
   rw[List.take_succ_eq_append_getElem il,Shk.fst_snoc]
   refine⟨_,rfl,d,rfl,.inl ⟨_,.inl gd⟩,_,rfl,_,rfl,d,_,rfl,gd,kvs,Sum.inl l[i],gd,rfl,by rw[sizeLine_eq];lia,fun v hv=>?_,fun hn=>?_⟩
   ·rw[ND.val]at hv
    have m:l[i]∈Shk.fst (l.take i):=by
     by_cases c:l[i]∈Shk.fst (l.take i)
     ·exact c
     ·rw[if_neg c]at hv;cases hv
    rw[if_pos m]
    exact⟨_,kvs,rfl,sG,gd,ND,by lia⟩
   ·rw[ND.val]at hn
    have m:l[i]∉Shk.fst (l.take i):=fun c=>by rw[if_pos c]at hn;cases hn
    rw[if_neg m]
    have ND2:=ND.snoc m
    refine⟨_,putK kvs (Sum.inl l[i]) (.int (kvs.length:Int)),rfl,fun b ob hb=>?_,upd_same,by rw[ND.len];exact ND2,by have:=length_putK kvs (Sum.inl l[i]:Key) (V.int (kvs.length:Int));lia⟩
    rw[upd_ne (ne_of_none hb hd)]
    exact sG _ _ hb
  ·rintro σ G ⟨v2,kvs,rfl,sG,gd,ND,kl⟩
   rw[List.length_map,List.take_length]at ND
   refine⟨_,rfl,a,rfl,⟨_,SqL.of (sG _ _ ha)⟩,?_⟩
   refine comp_list (K:=K) (a:=a) (xs:=l.map V.int) (fun i ys G2=>Same G G2/\ys=((l.take i).map fun x=>((Shk.fst l).idxOf x:Int)).map V.int) (by rw[List.length_map,sizeLine_eq];lia) ⟨Same.refl _,rfl⟩ (fun i ys G2 _ z=>SqL.of (z.1 _ _ (sG _ _ ha))) ?_ ?_
   ·rintro i x ys G2 hx ⟨s2,rfl⟩
    obtain⟨il,e⟩:=List.getElem?_eq_some_iff.mp hx
    rw[List.length_map]at il
    rw[List.getElem_map]at e
    subst e
    have g0:DGet G2 d (V.int l[i]) (valV kvs (Sum.inl l[i])):=DGet.k (k:=Sum.inl l[i]) (s2 _ _ gd)
    rw[ND.val,if_pos ((Shk.mem_fst l _).mpr (List.getElem_mem il))]at g0
    refine⟨⟨rfl,trivial⟩,tTru_if ⟨_,rfl,_,rfl,d,_,rfl,g0,s2,?_⟩⟩
    rw[List.take_succ_eq_append_getElem il,List.map_append,List.map_append]
    rfl
   ·rintro ys G2 yl ⟨s2,rfl⟩ D hD
    rw[List.length_map,List.take_length]
    refine⟨D,_,rfl,upd_same,fun t ht=>?_⟩
    exact fin t _ upd_same (sG.trans (s2.trans ((Same.new hD).trans (Same.new ht))))
noncomputable abbrev nDr:List Str:=["web","posts","post","names","others","side"]
theorem scDr:FnScope nDr ["web","posts","post","names"] (defScope sDrawnIn):=⟨rfl,rfl,rfl,by decide +kernel,rfl,by decide +kernel,by decide +kernel⟩
theorem csDr1:CompScope ["other","names","post"] [none,some 3,some 2] nDr (defScope sDrawnIn) (scO [(".0",.local),("other",.local),("names",.free),("post",.free)]):=⟨rfl,by decide +kernel,by decide +kernel,by decide +kernel,rfl,capB_ok (by decide +kernel)⟩
theorem ndDr1:(["other","names","post"]:List Str).Nodup:=by decide +kernel
theorem csDr2:CompScope ["name","side","names","post"] [none,some 5,some 3,some 2] nDr (defScope sDrawnIn) (scO [(".0",.local),("name",.local),("names",.free),("post",.free),("side",.free)]):=⟨rfl,by decide +kernel,by decide +kernel,by decide +kernel,rfl,capB_ok (by decide +kernel)⟩
theorem ndDr2:(["name","side","names","post"]:List Str).Nodup:=by decide +kernel
theorem ok_dr{f g1 g2 g3:Addr}{fd d1 d2 d3:FuncData}(F:Fun K "drawn_in" "drawn_in" sDrawnIn f fd)(GM:CalF P w K mg base 1 "merged" ["web","names"] spMerged g1 d1)(GW:CalF P w K mg base 4 "wide_side" ["web","sources","sinks"] spWi g2 d2)(GN:CalF P w K mg base 1 "numbered" ["names"] spNu g3 d3):FnOk P w K mg base CX0 5 f fd ["web","posts","post","names"] spDr:=by
 refine F.ok scDr (fun vs H Q E h=>?_) (fun cdv A outer s H vs Q E hr h=>?_)
 ·obtain⟨t,q,u,n,ties,b,ps,nm,post,rfl,_⟩:=h
  rfl
 ·obtain⟨t,q,u,n,ties,b,ps,nm,post,rfl,W,ok,hq,pl,PO,hp,hu',NO,fin⟩:=h
  have hr1:Room 1 _:=hr.mono (by decide)
  have nl:=NO.len
  have n1:=PO.n1
  have n30:=PO.n30
  have nmat:∀ v:Int,0<=v->v<n->atI (nm.map V.int) v=some (V.int (nmAt nm v)):=fun v h0 h1=>(nmAt_get h0 (by lia)).1
  obtain⟨p0,p1⟩:=PO.rg _ hp
  obtain⟨k1,kn⟩:=NO.pos n1
  obtain⟨M,eM⟩:∃ M:Nat,kOf nm=M+1:=⟨kOf nm-1,by lia⟩
  refine⟨_,(pss_cons (ps_comp (i:=4) scDr.nd rfl (Or.inl rfl) rfl csDr1 (pi_seq b (pv 1)) (fun C s H fp=>(pg_name (i:=0) ndDr1 rfl (Or.inl rfl))) (fun C s H fp=>(pf_one (pt_cmpR op_ne (pv 0) (pv 2) (nomark _)))) (fun C s H fp=>(@pe_ix _ _ _ _ _ _ _ ix_tupH (pv 1) (pv 0) (fun _ _=>rfl))))
   (pss_cons (ps_set (i:=5) scDr.nd rfl (Or.inr rfl) (pe_call GW.ok hr rfl GW.mg GW.kp GW.bd .nil pass0 (@pa_call _ _ _ _ _ _ _ _ (pe_call GM.ok hr1 rfl GM.mg GM.kp GM.bd .nil pass0 (@pa_nam _ _ _ _ _ _ (pv 0) (@pa_nam _ _ _ _ _ _ (pv 3) pa_nil))) (@pa_lst _ _ _ _ _ _ (@pe_lst _ _ _ _ (@pa_sub _ _ _ _ _ _ _ (@pe_ix _ _ _ _ _ _ _ ix_tupH (pv 3) (pv 2) (fun _ _=>rfl)) pa_nil)) (@pa_nam _ _ _ _ _ _ (pv 4) pa_nil)))))
   (pss_one (ps_ret (pe_call GN.ok hr1 rfl GN.mg GN.kp GN.bd .nil pass0 (@pa_comp _ _ _ _ _ _ _ _ (pe_comp rfl csDr2 (pi_tup (pv 3)) (fun C s H fp=>(pg_name (i:=0) ndDr2 rfl (Or.inl rfl))) (fun C s H fp=>pf_nil) (fun C s H fp=>(pe_ifExp (pt_cmpR op_inH (pv 0) (pv 1) rfl) (@pe_ix _ _ _ _ _ _ _ ix_tupH (pv 2) (pv 3) (fun _ _=>rfl)) (pv 0)))) pa_nil)))))),?_⟩
  refine⟨_,rfl,q,rfl,⟨_,sqB_of hq⟩,?_⟩
  refine comp_seq (K:=K) (b:=b) (a:=q) (xs:=ps.map V.int) (fun i ys G=>Same H G/\ys=(((ps.take i).filter fun o=>!decide (o=post)).map (nmAt nm)).map V.int) (by rw[List.length_map,sizeLine_eq];lia) ⟨Same.refl _,rfl⟩ (fun i ys G _ z=>sqB_of (z.1 _ _ hq)) ?_ ?_
  ·rintro i x ys G hx ⟨sG,rfl⟩
   obtain⟨il,e⟩:=List.getElem?_eq_some_iff.mp hx
   rw[List.length_map]at il
   rw[List.getElem_map]at e
   subst e
   obtain⟨r0,r1⟩:=PO.rg _ (List.getElem_mem il)
   rw[List.take_succ_eq_append_getElem il,List.filter_append,List.map_append,List.map_append]
   refine⟨⟨rfl,rfl,trivial⟩,_,rfl,_,rfl,rfl,_,rfl,ite2 (fun hc=>?_) (fun hc=>?_)⟩
   ·have ne:¬ ps[i]=post:=fun z=>by rw[z]at hc;simp at hc
    refine⟨_,rfl,_,rfl,u,_,_,_,rfl,rfl,sG _ _ hu',nmat _ r0 r1,sG,?_⟩
    rw[List.filter_cons_of_pos (by rw[decide_eq_false ne];rfl)]
    rfl
   ·have ne:ps[i]=post:=by simpa using hc
    refine⟨sG,?_⟩
    rw[List.filter_cons_of_neg (by rw[decide_eq_true ne];decide),List.filter_nil,List.map_nil,List.map_nil,List.append_nil]
  rintro ys G yl ⟨sG,rfl⟩ ol hol
  rw[List.length_map,List.take_length]
  have sO:=Same.new (o:=.lst ((oth ps nm post).map V.int)) hol
  have gol:(upd G ol (.lst ((oth ps nm post).map V.int))) ol=some (.lst ((oth ps nm post).map V.int)):=upd_same
  have s1:=sG.trans sO
  have eO:upd G ol (.lst ((((ps.filter fun o=>!decide (o=post)).map (nmAt nm))).map V.int))=upd G ol (.lst ((oth ps nm post).map V.int)):=rfl
  rw[eO]
  generalize (upd G ol (.lst ((oth ps nm post).map V.int)))=H1 at *
  refine⟨_,rfl,_,rfl,t,u,n,M,ties,nm,rfl,W.same s1,ok,s1 _ _ hu',nl,fun y hy=>?_,?_,fun t' tl H2 W2 ok2 pw2 mi s2=>?_⟩
  ·have:=NO.rg y hy;lia
  ·exact NO.all (by lia)
  have etl:tl=mrgL nm ties:=mrgL_eq ⟨pw2,mi⟩
  subst etl
  rw[<- eM]at W2 ok2
  have s12:=s1.trans s2
  refine⟨_,rfl,_,rfl,u,_,_,_,rfl,rfl,s12 _ _ hu',nmat _ p0 p1,(by show 1<=sizeLine;decide),fun sl hsl=>?_⟩
  have s3:=Same.new (o:=.lst ([nmAt nm post].map V.int)) hsl
  have En:=NO.ends PO.nd PO.rg hp
  refine⟨_,rfl,t',sl,ol,kOf nm,mrgL nm ties,false,false,[nmAt nm post],oth ps nm post,rfl,W2.same s3,ok2,by lia,upd_same,s3 _ _ (s2 _ _ gol),En,fun sd am H4 _ hsd gr s4=>?_⟩
  have wo:WideOf (kOf nm) (mrgL nm ties) [nmAt nm post] (oth ps nm post) _:=⟨am,gr,rfl⟩
  have fc:=wo.facts ok2 En
  have ew:=wideL_eq ok2 En wo
  have wo2:=wo
  rw[ew]at hsd fc wo2
  have so:SideOk ps nm post (side ties ps nm post):=⟨fc.1 _ (List.mem_singleton.mpr rfl),fun o ho ne=>fc.2.1 _ (List.mem_map.mpr ⟨o,List.mem_filter.mpr ⟨ho,by rw[decide_eq_false ne];rfl⟩,rfl⟩)⟩
  have hsd:H4 sd=some (.lst ((side ties ps nm post).map V.int)):=hsd
  have s14:=s12.trans (s3.trans s4)
  refine⟨_,rfl,u,rfl,⟨_,SqT.of (s14 _ _ hu')⟩,?_⟩
  refine comp_tup (K:=K) (a:=u) (xs:=nm.map V.int) (fun i ys G=>Same H4 G/\ys=((nm.take i).map fun x=>if x∈side ties ps nm post then nmAt nm post else x).map V.int) (by rw[List.length_map,sizeLine_eq];lia) ⟨Same.refl _,rfl⟩ (fun i ys G _ z=>SqT.of (z.1 _ _ (s14 _ _ hu'))) ?_ ?_
  ·rintro i x ys G5 hx ⟨s5,rfl⟩
   obtain⟨il,e⟩:=List.getElem?_eq_some_iff.mp hx
   rw[List.length_map]at il
   rw[List.getElem_map]at e
   subst e
   rw[List.take_succ_eq_append_getElem il,List.map_append,List.map_append]
   refine⟨⟨rfl,rfl,rfl,trivial⟩,tTru_if ⟨_,rfl,_,rfl,sd,_,rfl,s5 _ _ hsd,rfl,flat_ints _,_,rfl,ite2 (fun hc=>?_) (fun hc=>?_)⟩⟩
   ·have hm:nm[i]∈side ties ps nm post:=by
     have:inV (V.int nm[i]) ((side ties ps nm post).map V.int)=true:=hc
     rw[inV_ints]at this
     exact List.contains_iff_mem.mp this
    refine⟨_,rfl,_,rfl,u,_,_,_,rfl,rfl,s5 _ _ (s14 _ _ hu'),nmat _ p0 p1,s5,?_⟩
    show _=_++[V.int (if nm[i]∈side ties ps nm post then nmAt nm post else nm[i])]
    rw[if_pos hm]
   ·have hm:nm[i]∉side ties ps nm post:=fun z=>hc (by show inV (V.int nm[i]) ((side ties ps nm post).map V.int)=true;rw[inV_ints];exact List.contains_iff_mem.mpr z)
    refine⟨_,rfl,s5,?_⟩
    show _=_++[V.int (if nm[i]∈side ties ps nm post then nmAt nm post else nm[i])]
    rw[if_neg hm]
  ·rintro ys G5 yl ⟨s5,rfl⟩ D hD
   rw[List.length_map,List.take_length]
   have s6:=Same.new (o:=.lst ((Shk.rawL nm (side ties ps nm post) (nmAt nm post)).map V.int)) hD
   refine⟨D,Shk.rawL nm (side ties ps nm post) (nmAt nm post),rfl,upd_same,by rw[Shk.raw_len];lia,fun r H7 hr7 s7=>?_⟩
   exact fin r H7 hr7 so ⟨pw2,mi⟩ ok2 wo2 (s14.trans (s5.trans (s6.trans s7)))
noncomputable abbrev nSk:List Str:=["web","posts","names","post"]
theorem scSk:FnScope nSk ["web","posts"] (defScope sShrunk):=⟨rfl,rfl,rfl,by decide +kernel,rfl,by decide +kernel,by decide +kernel⟩
theorem ok_sk{f g1 g2:Addr}{fd d1 d2:FuncData}(F:Fun K "shrunk" "shrunk" sShrunk f fd)(T:Txt mg)(GD:CalF P w K mg base 5 "drawn_in" ["web","posts","post","names"] spDr g1 d1)(GM:CalF P w K mg base 1 "merged" ["web","names"] spMerged g2 d2):FnOk P w K mg base CX0 6 f fd ["web","posts"] spSk:=by
 refine F.ok scSk (fun vs H Q E h=>?_) (fun cdv A outer s H vs Q E hr h=>?_)
 ·obtain⟨t,q,n,ties,b,ps,rfl,_⟩:=h
  rfl
 ·obtain⟨t,q,n,ties,b,ps,rfl,W,ok,hq,pl,PO,fin⟩:=h
  have hr1:Room 1 _:=hr.mono (by decide)
  have n1:=PO.n1
  have n30:=PO.n30
  obtain⟨⟨ts,bs,h1,h2,h3⟩,len⟩:=id W
  refine⟨_,(pss_cons (ps_set (i:=2) scSk.nd rfl (Or.inl rfl) (pe_callTy (call_tuple_rng rfl) (by rfl) T.tuple boot_tuple (@pa_call _ _ _ _ _ _ _ _ (pe_callTy (call_range _) (by rfl) T.range boot_range (@pa_sub _ _ _ _ _ _ _ (@pe_ix _ _ _ _ _ _ _ ix_tupH (pv 0) pe_int (fun _ _=>rfl)) pa_nil)) pa_nil)))
   (pss_cons (ps_for PassesOwn.never rfl (pi_seq b (pv 1)) (pg_name (i:=3) scSk.nd rfl (Or.inl rfl))
   (pss_one (ps_set (i:=2) scSk.nd rfl (Or.inl rfl) (pe_call GD.ok hr rfl GD.mg GD.kp GD.bd .nil pass0 (@pa_nam _ _ _ _ _ _ (pv 0) (@pa_nam _ _ _ _ _ _ (pv 1) (@pa_nam _ _ _ _ _ _ (pv 3) (@pa_nam _ _ _ _ _ _ (pv 2) pa_nil))))))))
   (pss_one (ps_ret (@pe_tup _ _ _ _ _ (@pa_call _ _ _ _ _ _ _ _ (pe_call GM.ok hr1 rfl GM.mg GM.kp GM.bd .nil pass0 (@pa_nam _ _ _ _ _ _ (pv 0) (@pa_nam _ _ _ _ _ _ (pv 2) pa_nil))) (@pa_nam _ _ _ _ _ _ (pv 2) pa_nil))))))),?_⟩
  refine⟨_,rfl,t,_,_,_,rfl,rfl,h1,rfl,_,rfl,fun r hr=>⟨r,_,rfl,upd_same,by lia,by lia,fun u0 hu0=>?_⟩⟩
  rw[show((n:Int)).toNat=n by lia]
  have s0:=(Same.new (o:=.rng 0 (n:Int)) hr).trans (Same.new (o:=.tup ((upto n).map V.int)) hu0)
  have gu0:(upd (upd H r (.rng 0 (n:Int))) u0 (.tup ((upto n).map V.int))) u0=some (.tup ((upto n).map V.int)):=upd_same
  generalize (upd (upd H r (.rng 0 (n:Int))) u0 (.tup ((upto n).map V.int)))=H0 at *
  refine⟨_,rfl,q,rfl,⟨_,sqB_of (s0 _ _ hq)⟩,?_⟩
  refine for_seq (K:=K) (a:=q) (xs:=ps.map V.int) b (fun i σ G=>∃ (u:Addr) (v3:Option V),σ=[some (.ref t),some (.ref q),some (.ref u),v3]/\Same H G/\G u=some (.tup ((shr ties ps (ps.take i) (upto n)).map V.int))/\NOk n ps (shr ties ps (ps.take i) (upto n))/\Shr n ties ps (shr ties ps (ps.take i) (upto n))) ⟨u0,_,rfl,s0,gu0,nok_start PO.rg,.start⟩ (fun i σ G _ z=>by obtain⟨_,_,_,s,_⟩:=z;exact sqB_of (s _ _ hq)) ?_ ?_
  ·rintro i x σ G hx ⟨u,v3,rfl,sG,gu,NO,SH⟩
   obtain⟨il,e⟩:=List.getElem?_eq_some_iff.mp hx
   rw[List.length_map]at il
   rw[List.getElem_map]at e
   subst e
   rw[List.take_succ_eq_append_getElem il,shr_snoc]
   refine⟨_,rfl,_,rfl,_,rfl,_,rfl,t,q,u,n,ties,b,ps,_,ps[i],rfl,W.same sG,ok,sG _ _ hq,pl,PO,List.getElem_mem il,gu,NO,fun r2 G2 hr2 so mo mk wo s2=>?_⟩
   have NO2:=NO.step PO.rg (List.getElem_mem il) so
   exact⟨r2,_,rfl,sG.trans s2,hr2,NO2,.step SH NO (List.getElem_mem il) mo mk wo NO2⟩
  ·rintro σ G ⟨u,v3,rfl,sG,gu,NO,SH⟩
   rw[List.length_map,List.take_length]at gu NO SH
   obtain⟨k1,kn⟩:=NO.pos n1
   obtain⟨M,eM⟩:∃ M:Nat,kOf (shr ties ps ps (upto n))=M+1:=⟨kOf (shr ties ps ps (upto n))-1,by lia⟩
   refine⟨_,rfl,_,rfl,t,u,n,M,ties,_,rfl,W.same sG,ok,gu,NO.len,fun y hy=>?_,NO.all (by lia),fun t' tl H2 W2 ok2 pw2 mi s2=>?_⟩
   ·have:=NO.rg y hy;lia
   have etl:tl=mrgL (shr ties ps ps (upto n)) ties:=mrgL_eq ⟨pw2,mi⟩
   subst etl
   rw[<- eM]at W2 ok2
   refine⟨_,rfl,(by show 2<=sizeLine;decide),fun r2 hr2=>?_⟩
   have s3:=Same.new (o:=.tup [V.ref t',V.ref u]) hr2
   exact fin r2 t' u _ upd_same (W2.same s3) ok2 pw2 (s3 _ _ (s2 _ _ gu)) NO SH ⟨pw2,mi⟩ (sG.trans (s2.trans s3))
end
open PySem L2 PyProof.Rows
noncomputable def others(P:List Int)(p:Int):List Int:=P.filter fun o=>decide (o≠p)
theorem mem_others{P:List Int}{p v:Int}:v∈others P p↔v∈P/\v≠p:=by
 unfold others
 rw[List.mem_filter,decide_eq_true_eq]
structure Posts(n:Nat)(P:List Int):Prop where
 nd:P.Nodup
 rg:∀ x∈P,0<=x/\x<n
theorem Posts.ends{n:Nat}{P:List Int}(h:Posts n P){p:Int}(hp:p∈P):Flw.Ends n [p] (others P p) :=
 ⟨by simp,h.nd.filter _,fun s hs=>by rw[List.mem_singleton.mp hs];exact h.rg p hp,fun s hs=>h.rg s (mem_others.mp hs).1,fun s hs z=>(mem_others.mp z).2 (List.mem_singleton.mp hs)⟩
theorem Posts.len{n:Nat}{P:List Int}(h:Posts n P):P.length<=n:=Flw.nodup_len h.nd h.rg
noncomputable abbrev EndRec:=Addr×Addr×Addr
noncomputable def EndAt(H:Hp)(P:List Int)(x:EndRec)(p:Int):Prop:=H x.1=some (.tup [.ref x.2.1,.ref x.2.2])/\H x.2.1=some (.lst [.int p])/\H x.2.2=some (.lst ((others P p).map V.int))
theorem EndAt.same{H H':Hp}{P:List Int}{x:EndRec}{p:Int}(h:EndAt H P x p)(s:Same H H'):EndAt H' P x p:=⟨s _ _ h.1,s _ _ h.2.1,s _ _ h.2.2⟩
noncomputable def spSn:Sp:=fun vs H Q _=>∃ (q:Addr) (n:Nat) (b:Bool) (P:List Int),vs=[.ref q]/\H q=some (sqO b (P.map V.int))/\Posts n P/\n<=120 /\
 ∀ (l:Addr) (xs:List EndRec) (H':Hp),H' l=some (.lst (xs.map fun x=>V.ref x.1))->Paired (EndAt H' P) xs P->Same H H'->Q (.ref l) H'
theorem PairedApp{α β:Type}{F:α->β->Prop}:∀ {l₁ m₁:List α}{l₂ m₂:List β},Paired F l₁ l₂->Paired F m₁ m₂->Paired F (l₁++m₁) (l₂++m₂)
 | _,_,_,_,.nil,r=>r
 | _,_,_,_,.cons h t,r=>.cons h (PairedApp t r)
section
variable{P:Program}{w:World}{K:PySem.W.Frag}{mg:Str->Option Value}{base:Heap}
noncomputable abbrev nSn:List Str:=["posts"]
theorem scSn:FnScope nSn ["posts"] (defScope sSingleEnds):=⟨rfl,rfl,rfl,by decide +kernel,rfl,by decide +kernel,by decide +kernel⟩
theorem csSn1:CellScope "post" ["post","posts"] [none,some 0] nSn (defScope sSingleEnds) (scO [(".0",.local),("post",.cell),("posts",.free)]):=⟨rfl,fun _ _=>rfl,fun _=>rfl,by decide +kernel,by decide +kernel,by decide +kernel,by decide +kernel,rfl,capB_ok (by decide +kernel)⟩
theorem ndSn1:(["post","posts"]:List Str).Nodup:=by decide +kernel
theorem csSn2:CompScope ["other","post"] [none,some 0] ["post","posts"] (scO [(".0",.local),("post",.cell),("posts",.cell)]) (scO [(".0",.local),("other",.local),("post",.free)]):=⟨rfl,by decide +kernel,by decide +kernel,by decide +kernel,rfl,capB_ok (by decide +kernel)⟩
theorem ndSn2:(["other","post"]:List Str).Nodup:=by decide +kernel
noncomputable abbrev teSn2(K:PySem.W.Frag)(b:Bool):TE:=tComp [none,some 0] (iSeq b K (tVar 1)) (gName 0) (tTest (tOp rNe (tVar 0) (tVar 1))) (tVar 0)
theorem ok_sn{f:Addr}{fd:FuncData}(F:Fun K "single_ends" "single_ends" sSingleEnds f fd):FnOk P w K mg base CX0 1 f fd ["posts"] spSn:=by
 refine F.ok scSn (fun vs H Q E h=>?_) (fun cdv A outer s H vs Q E hr h=>?_)
 ·obtain⟨q,n,b,ps,rfl,_⟩:=h
  rfl
 ·obtain⟨q,n,b,ps,rfl,hq,po,nb,fin⟩:=h
  have pl:=po.len
  refine⟨_,(pss_one (ps_ret (pe_compC rfl csSn1 (pi_seq b (pv 0)) (fun C s H fp=>(pg_name (i:=0) ndSn1 rfl (Or.inr rfl) (Or.inl (by rfl)))) (fun C s H fp=>pf_nil) (fun C s H fp=>(@pe_tup _ _ _ _ _ (@pa_lst _ _ _ _ _ _ (@pe_lst _ _ _ _ (@pa_nam _ _ _ _ _ _ (pv 0) pa_nil)) (@pa_comp _ _ _ _ _ _ _ _ (show PE _ _ (teSn2 K b)from pe_comp rfl csSn2 (pi_seq b (pv 1)) (fun C s H fp=>(pg_name (i:=0) ndSn2 rfl (Or.inl rfl))) (fun C s H fp=>(pf_one (pt_cmpR op_ne (pv 0) (pv 1) (nomark _)))) (fun C s H fp=>(pv 0))) pa_nil))))))),?_⟩
  refine⟨_,rfl,q,rfl,⟨_,sqB_of hq⟩,?_⟩
  refine comp_seq (b:=b) (K:=K) (a:=q) (xs:=ps.map V.int) (fun j ys G=>Same H G/\∃ xs:List EndRec,ys=xs.map (fun x=>V.ref x.1)/\Paired (EndAt G ps) xs (ps.take j)) (by rw[List.length_map,sizeLine_eq];lia) ⟨Same.refl _,[],rfl,.nil⟩ (fun j ys G _ z=>sqB_of (z.1 _ _ hq)) ?_ ?_
  ·rintro j x ys G hx ⟨sG,xs,rfl,PX⟩
   obtain⟨il,e⟩:=List.getElem?_eq_some_iff.mp hx
   rw[List.length_map]at il
   rw[List.getElem_map]at e
   subst e
   have tk:=List.take_succ_eq_append_getElem il
   generalize ps[j]=pj at tk ⊢
   refine⟨⟨rfl,trivial⟩,tTru_if ⟨_,rfl,(by show 1<=sizeLine;decide),fun l1 hl1=>?_⟩⟩
   have s1:=Same.new (o:=.lst [V.int pj]) hl1
   have g1:(upd G l1 (.lst [V.int pj])) l1=some (.lst [V.int pj]):=upd_same
   generalize (upd G l1 (.lst [V.int pj]))=G1 at s1 g1
   have hq1:=s1 _ _ (sG _ _ hq)
   refine⟨_,rfl,q,rfl,⟨_,sqB_of hq1⟩,?_⟩
   refine comp_seq (b:=b) (K:=K) (a:=q) (xs:=ps.map V.int) (fun i zs G2=>Same G1 G2/\zs=(others (ps.take i) pj).map V.int) (by rw[List.length_map,sizeLine_eq];lia) ⟨Same.refl _,rfl⟩ (fun i zs G2 _ z=>sqB_of (z.1 _ _ hq1)) ?_ ?_
   ·rintro i x zs G2 hx ⟨s2,rfl⟩
    obtain⟨il2,e⟩:=List.getElem?_eq_some_iff.mp hx
    rw[List.length_map]at il2
    rw[List.getElem_map]at e
    subst e
    refine⟨⟨rfl,trivial⟩,_,rfl,_,rfl,rfl,_,rfl,?_⟩
    unfold others
    rw[List.take_succ_eq_append_getElem il2,List.filter_append,List.map_append]
    refine ite2 (fun h=>?_) (fun h=>?_)
    ·have h:ps[i]≠pj:=fun z=>by rw[z]at h;simp at h
     refine⟨_,rfl,s2,?_⟩
     rw[List.filter_cons,if_pos (decide_eq_true h)]
     rfl
    ·have h:¬ ps[i]≠pj:=fun z=>h (by simpa using z)
     refine⟨s2,?_⟩
     rw[List.filter_cons,if_neg (by rw[decide_eq_true_eq];exact h),List.filter_nil,List.map_nil,List.append_nil]
   ·rintro zs G2 zl ⟨s2,rfl⟩ l2 hl2
    rw[List.length_map,List.take_length]
    have s3:=Same.new (o:=.lst ((others ps pj).map V.int)) hl2
    refine⟨(by show 2<=sizeLine;decide),fun tp htp=>?_⟩
    have s4:=Same.new (o:=.tup [.ref l1,.ref l2]) htp
    have s14:=s1.trans (s2.trans (s3.trans s4))
    refine⟨sG.trans s14,xs++[(tp,l1,l2)],by rw[List.map_append];rfl,?_⟩
    rw[tk]
    exact PairedApp (Paired.mapP PX fun _ _ z=>z.same s14) (.cons ⟨upd_same,s4 _ _ (s3 _ _ (s2 _ _ g1)),s4 _ _ upd_same⟩ .nil)
  rintro ys G yl ⟨sG,xs,rfl,PX⟩ D hD
  rw[List.length_map,List.take_length]at PX
  have sD:=Same.new (o:=.lst (xs.map fun x=>V.ref x.1)) hD
  exact fin D xs _ upd_same (Paired.mapP PX fun _ _ z=>z.same sD) (sG.trans sD)
structure Told where
 r:Addr
 a:Addr
 s:Addr
 am:List Int
 side:List Int
structure ToldAt(H:Hp)(n:Nat)(ties:List Tie)(P:List Int)(x:Told)(p:Int):Prop where
 gr:H x.r=some (.tup [.int (Flw.val ties x.am [p]),.ref x.a,.ref x.s])
 ga:H x.a=some (.lst (x.am.map V.int))
 gs:H x.s=some (.lst (x.side.map V.int))
 ok:FlowTold n ties [p] (others P p) x.am x.side
theorem ToldAt.same{H H':Hp}{n:Nat}{ties:List Tie}{P:List Int}{x:Told}{p:Int}(h:ToldAt H n ties P x p)(s:Same H H'):ToldAt H' n ties P x p:=⟨s _ _ h.gr,s _ _ h.ga,s _ _ h.gs,h.ok⟩
noncomputable def adds(xs:List Told):List Addr:=xs.flatMap fun x=>[x.a,x.s]
theorem adds_app(xs ys:List Told):adds (xs++ys)=adds xs++adds ys:=by unfold adds;rw[List.flatMap_append]
theorem adds_some{H:Hp}{n:Nat}{ties:List Tie}{P:List Int}{xs:List Told}{ps:List Int}(h:Paired (ToldAt H n ties P) xs ps):∀ c∈adds xs,∃ o,H c=some o:=by
 induction h with
 |nil=>intro c hc;cases hc
 | @cons x p l1 l2 r _ ih =>
  intro c hc
  have hc:c∈[x.a,x.s]++adds l1:=hc
  rcases List.mem_append.mp hc with hc | hc
  ·rcases List.mem_cons.mp hc with e | hc
   ·rw[e];exact⟨_,r.ga⟩
   ·rw[List.mem_singleton.mp hc];exact⟨_,r.gs⟩
  ·exact ih c hc
noncomputable def spSg:Sp:=fun vs H Q _=>∃ (t q:Addr) (n:Nat) (ties:List Tie) (b:Bool) (P:List Int),vs=[.ref t,.ref q]/\WebAt H t n ties/\(∀ x∈ties,TieOk n x)/\n<=120/\H q=some (sqO b (P.map V.int))/\Posts n P /\
 ∀ (l:Addr) (xs:List Told) (H':Hp),H l=none->H' l=some (.lst (xs.map fun x=>V.ref x.r))->Paired (ToldAt H' n ties P) xs P->(adds xs).Nodup->(∀ c∈adds xs,H c=none)->l∉adds xs->Same H H'->Q (.ref l) H'
noncomputable abbrev nSg:List Str:=["web","posts"]
theorem scSg:FnScope nSg ["web","posts"] (defScope sSingles):=⟨rfl,rfl,rfl,by decide +kernel,rfl,by decide +kernel,by decide +kernel⟩
theorem csSg1:CompScope ["sources","sinks","web"] [none,none,some 0] nSg (defScope sSingles) (scO [(".0",.local),("sources",.local),("sinks",.local),("flow",.globalImplicit),("web",.free)]):=⟨rfl,by decide +kernel,by decide +kernel,by decide +kernel,rfl,capB_ok (by decide +kernel)⟩
theorem ndSg1:(["sources","sinks","web"]:List Str).Nodup:=by decide +kernel
theorem ok_sg{f g1 g2:Addr}{fd d1 d2:FuncData}(F:Fun K "singles" "singles" sSingles f fd)(GE:CalF P w K mg base 1 "single_ends" ["posts"] spSn g1 d1)(GF:CalF P w K mg base 4 "flow" ["web","sources","sinks"] spFl g2 d2):FnOk P w K mg base CX0 5 f fd ["web","posts"] spSg:=by
 refine F.ok scSg (fun vs H Q E h=>?_) (fun cdv A outer s H vs Q E hr h=>?_)
 ·obtain⟨t,q,n,ties,b,ps,rfl,_⟩:=h
  rfl
 ·obtain⟨t,q,n,ties,b,ps,rfl,W,ok,nb,hq,po,fin⟩:=h
  have pl:=po.len
  have hr1:Room 1 _:=hr.mono (by decide)
  refine⟨_,(pss_one (ps_ret (pe_comp rfl csSg1 (pi_list (pe_call GE.ok hr1 rfl GE.mg GE.kp GE.bd .nil pass0 (@pa_nam _ _ _ _ _ _ (pv 1) pa_nil))) (fun C s H fp=>(pg_tupK K rfl (n:=2) rfl (pgs_cons (pg_name (i:=0) ndSg1 rfl (Or.inl rfl)) (pgs_cons (pg_name (i:=1) ndSg1 rfl (Or.inl rfl)) pgs_nil)) rfl rfl)) (fun C s H fp=>pf_nil) (fun C s H fp=>(pe_call GF.ok hr rfl GF.mg GF.kp GF.bd .nil pass0 (@pa_nam _ _ _ _ _ _ (pv 2) (@pa_nam _ _ _ _ _ _ (pv 0) (@pa_nam _ _ _ _ _ _ (pv 1) pa_nil)))))))),?_⟩
  refine⟨_,rfl,q,n,b,ps,rfl,hq,po,nb,fun l0 es H1 gl0 EA s1=>?_⟩
  have el:es.length=ps.length:=EA.length
  refine⟨l0,rfl,⟨_,SqL.of gl0⟩,?_⟩
  refine comp_list (K:=K) (a:=l0) (xs:=es.map fun x=>V.ref x.1) (fun j ys G=>Same H1 G/\∃ xs:List Told,ys=xs.map (fun x=>V.ref x.r)/\Paired (ToldAt G n ties ps) xs (ps.take j)/\(adds xs).Nodup/\∀ c∈adds xs,H1 c=none) (by rw[List.length_map,sizeLine_eq];lia) ⟨Same.refl _,[],rfl,.nil,List.nodup_nil,fun _ h=>nomatch h⟩ (fun j ys G _ z=>SqL.of (z.1 _ _ gl0)) ?_ ?_
  ·rintro j x ys G hx ⟨sG,xs,rfl,PX,ND,FR⟩
   obtain⟨il,e⟩:=List.getElem?_eq_some_iff.mp hx
   rw[List.length_map]at il
   rw[List.getElem_map]at e
   subst e
   have jl:j<ps.length:=by lia
   obtain⟨e1,e2,e3⟩:=(Paired.at EA j il jl).same sG
   refine⟨es[j].1,_,rfl,SqT.of e1,rfl,_,_,rfl,_,_,rfl,rfl,⟨rfl,trivial⟩,tTru_if ?_⟩
   refine⟨_,rfl,_,rfl,_,rfl,t,es[j].2.1,es[j].2.2,n,ties,false,false,[ps[j]],others ps ps[j],rfl,W.same (s1.trans sG),ok,nb,e2,e3,po.ends (List.getElem_mem jl),fun r a sd am side G2 hr ha hsd asd gr ga gsd FT s2=>?_⟩
   refine⟨sG.trans s2,xs++[⟨r,a,sd,am,side⟩],by rw[List.map_append];rfl,?_,?_,?_⟩
   ·rw[List.take_succ_eq_append_getElem jl]
    exact PairedApp (Paired.mapP PX fun _ _ z=>z.same s2) (.cons ⟨gr,ga,gsd,FT⟩ .nil)
   ·rw[adds_app,List.nodup_append]
    refine⟨ND,?_,fun c hc d hd' z=>?_⟩
    ·show [a,sd].Nodup
     simp[asd]
    ·obtain⟨o,ho⟩:=adds_some PX c hc
     subst z
     rcases List.mem_cons.mp (show c∈[a,sd]from hd')with e | e
     ·rw[e,ha]at ho;cases ho
     ·rw[List.mem_singleton.mp e,hsd]at ho;cases ho
   ·intro c hc
    rw[adds_app]at hc
    rcases List.mem_append.mp hc with hc | hc
    ·exact FR c hc
    ·rcases List.mem_cons.mp (show c∈[a,sd]from hc)with e | e
     ·rw[e];exact sG.free ha
     ·rw[List.mem_singleton.mp e];exact sG.free hsd
  rintro ys G yl ⟨sG,xs,rfl,PX,ND,FR⟩ D hD
  rw[List.length_map,el,List.take_length]at PX
  have sD:=Same.new (o:=.lst (xs.map fun x=>V.ref x.r)) hD
  have s2:=s1.trans sG
  refine fin D xs _ (s2.free hD) upd_same (Paired.mapP PX fun _ _ z=>z.same sD) ND (fun c hc=>s1.free (FR c hc)) (fun z=>?_) (s2.trans sD)
  obtain⟨o,ho⟩:=adds_some PX D z
  rw[hD]at ho
  cases ho
end
end K23
namespace L2
open PySem PySem.W PyProof.Rows
theorem dcomp_tup'{K:PySem.W.Frag}{a D:Addr}{xs:List V}{cap:List (Option Nat)}{σ:St}{H1:Hp}{Q:VK}{g:TG}{tc:TT}{tk tv:TE}(P:Nat->Hp->Prop)(p0:P 0 H1)(hl:∀ i H,i<=xs.length->P i H->SqT K H a xs)
  (hs:∀ i x H,xs[i]?=some x->P i H->g x (capt cap σ) H fun σ2 H2=>Kp (capt cap σ) σ2/\tc σ2 H2 fun b H3=>if b=true then tk σ2 H3 fun k H4=>tv σ2 H4 fun y H5=>∃ H6,DPut H5 D k y H6/\P (i+1) H6 else P (i+1) H3)
  (hd:∀ H,P xs.length H->Q (.ref D) H):dcompTurns (Itt K a) cap σ H1 D Q g tc tk tv:=by
 refine⟨xs.length,P,p0,fun i H il p=>?_⟩
 have q:=hl i H il p
 by_cases hlt:i<xs.length
 ·refine .inr ⟨hlt,⟨xs,xs[i],q,by simp[hlt]⟩,fun x H' y=>?_⟩
  obtain⟨e,y⟩:=y
  subst e
  exact hs i x _ (y xs q) p
 ·have e:i=xs.length:=by lia
  subst e
  exact .inl ⟨⟨xs,q,by simp⟩,hd _ p⟩
end L2
namespace K23
open PySem L2 PyProof.Rows
noncomputable abbrev pairO(x:Tie):HO:=.tup [.int x.1,.int x.2.1]
noncomputable def PairT(H:Hp)(cs:List Addr)(ts:List Tie):Prop:=Paired (fun c x=>H c=some (pairO x)) cs ts
theorem PairT.same{H H':Hp}{cs:List Addr}{ts:List Tie}(h:PairT H cs ts)(s:Same H H'):PairT H' cs ts:=Paired.mapP h fun _ _ z=>s _ _ z
noncomputable def dif(ows:List Int)(x:Tie):Bool:=!decide (ows.getD x.1.toNat 0=ows.getD x.2.1.toNat 0)
noncomputable def keyT(x:Tie):List Key:=[Sum.inl x.1,Sum.inl x.2.1]
noncomputable def spCb:Sp:=fun vs H Q _=>∃ (t o:Addr) (n:Nat) (ties:List Tie) (ows:List Int),vs=[.ref t,.ref o]/\WebAt H t n ties/\(∀ x∈ties,TieOk n x)/\H o=some (.tup (ows.map V.int))/\ows.length=n /\
 ∀ (l:Addr) (as:List Addr) (H':Hp),H' l=some (.lst (as.map V.ref))->PairT H' as (ties.filter (dif ows))->Same H H'->Q (.ref l) H'
noncomputable def spTw:Sp:=fun vs H Q _=>∃ (t:Addr) (n:Nat) (ties:List Tie),vs=[.ref t]/\WebAt H t n ties/\ties.Pairwise tieLt/\∀ (d:Addr) (kvs:List (List Key×V)) (H':Hp),H' d=some (.dT kvs)->(∀ x∈ties,valV kvs (keyT x)=some (.int x.2.2))->Same H H'->Q (.ref d) H'
noncomputable def spWg:Sp:=fun vs H Q _=>∃ (t c:Addr) (n:Nat) (ties ts:List Tie) (as:List Addr),vs=[.ref t,.ref c]/\WebAt H t n ties/\ties.Pairwise tieLt/\H c=some (.lst (as.map V.ref))/\PairT H as ts/\ts.length<=120/\(∀ x∈ts,x∈ties)/\∀ H',Same H H'->Q (.int (ts.map (·.2.2)).sum) H'
section
variable{P:Program}{w:World}{K:PySem.W.Frag}{mg:Str->Option Value}{base:Heap}
noncomputable abbrev nCb:List Str:=["web","owners"]
theorem scCb:FnScope nCb ["web","owners"] (defScope sCutBy):=⟨rfl,rfl,rfl,by decide +kernel,rfl,by decide +kernel,by decide +kernel⟩
theorem csCb1:CompScope ["a","b","weight","owners"] [none,none,none,some 1] nCb (defScope sCutBy) (scO [(".0",.local),("a",.local),("b",.local),("weight",.local),("owners",.free)]):=⟨rfl,by decide +kernel,by decide +kernel,by decide +kernel,rfl,capB_ok (by decide +kernel)⟩
theorem ndCb1:(["a","b","weight","owners"]:List Str).Nodup:=by decide +kernel
theorem ok_cb{f:Addr}{fd:FuncData}(F:Fun K "cut_by" "cut_by" sCutBy f fd):FnOk P w K mg base CX0 1 f fd ["web","owners"] spCb:=by
 refine F.ok scCb (fun vs H Q E h=>?_) (fun cdv A outer s H vs Q E hr h=>?_)
 ·obtain⟨t,o,n,ties,ows,rfl,_⟩:=h
  rfl
 ·obtain⟨t,o,n,ties,ows,rfl,W,ok,go,ol,fin⟩:=h
  obtain⟨⟨ts,bs,h1,h2,h3⟩,len⟩:=id W
  have h3l:bs.length=ties.length:=h3.length
  refine⟨_,(pss_one (ps_ret (pe_comp rfl csCb1 (pi_tup (@pe_ix _ _ _ _ _ _ _ ix_tupH (pv 0) pe_int (fun _ _=>rfl))) (fun C s H fp=>(pg_tupK K rfl (n:=3) rfl (pgs_cons (pg_name (i:=0) ndCb1 rfl (Or.inl rfl)) (pgs_cons (pg_name (i:=1) ndCb1 rfl (Or.inl rfl)) (pgs_cons (pg_name (i:=2) ndCb1 rfl (Or.inl rfl)) pgs_nil))) rfl rfl)) (fun C s H fp=>(pf_one (pt_cmpR op_ne (@pe_ix _ _ _ _ _ _ _ ix_tupH (pv 3) (pv 0) (fun _ _=>rfl)) (@pe_ix _ _ _ _ _ _ _ ix_tupH (pv 3) (pv 1) (fun _ _=>rfl)) (nomark _)))) (fun C s H fp=>(@pe_tup _ _ _ _ _ (@pa_nam _ _ _ _ _ _ (pv 0) (@pa_nam _ _ _ _ _ _ (pv 1) pa_nil))))))),?_⟩
  refine⟨_,rfl,t,_,_,_,rfl,rfl,h1,rfl,ts,rfl,⟨_,SqT.of h2⟩,?_⟩
  refine comp_tup (K:=K) (a:=ts) (xs:=bs.map V.ref) (fun j ys G=>Same H G/\∃ cs:List Addr,ys=cs.map V.ref/\PairT G cs ((ties.take j).filter (dif ows))) (by rw[List.length_map,sizeLine_eq];lia) ⟨Same.refl _,[],rfl,.nil⟩ (fun j ys G _ z=>SqT.of (z.1 _ _ h2)) ?_ ?_
  ·rintro j x ys G hx ⟨sG,cs,rfl,TC⟩
   obtain⟨il,e⟩:=List.getElem?_eq_some_iff.mp hx
   rw[List.length_map]at il
   rw[List.getElem_map]at e
   subst e
   have it:j<ties.length:=by lia
   have hx:=sG _ _ (Paired.at h3 j il it)
   obtain⟨o1,o2,o3,o4⟩:=ok _ (List.getElem_mem it)
   have go':=sG _ _ go
   rw[List.take_succ_eq_append_getElem it,List.filter_append]
   generalize ties[j]=x at *
   obtain⟨u,v,c⟩:=x
   have o1:0<=u:=o1
   have o2:u<v:=o2
   have o3:v <(n:Int):=o3
   obtain⟨u,rfl⟩:∃ a':Nat,u=(a':Int):=⟨u.toNat,by lia⟩
   obtain⟨v,rfl⟩:∃ b':Nat,v=(b':Int):=⟨v.toNat,by lia⟩
   have ed:dif ows ((u:Int),(v:Int),c) = !decide (ows.getD u 0=ows.getD v 0):=rfl
   refine⟨bs[j],_,rfl,SqT.of hx,rfl,_,_,rfl,_,_,rfl,_,_,rfl,rfl,⟨rfl,trivial⟩,?_⟩
   refine⟨_,rfl,_,rfl,o,_,_,_,rfl,rfl,go',atI_getD (by lia),_,rfl,_,rfl,o,_,_,_,rfl,rfl,go',atI_getD (by lia),rfl,_,rfl,?_⟩
   refine ite2 (fun hc=>?_) (fun hc=>?_)
   ·have ne:¬ ows.getD u 0=ows.getD v 0:=fun z=>by rw[z]at hc;simp at hc
    refine⟨_,rfl,_,rfl,(by show 2<=sizeLine;decide),fun tp htp=>?_⟩
    have sT:=Same.new (o:=pairO ((u:Int),(v:Int),c)) htp
    refine⟨sG.trans sT,cs++[tp],by rw[List.map_append];rfl,PairedApp (TC.same sT) ?_⟩
    rw[List.filter_cons_of_pos (by rw[ed,decide_eq_false ne];rfl)]
    exact .cons upd_same .nil
   ·have ne:ows.getD u 0=ows.getD v 0:=by simpa using hc
    refine⟨sG,cs,rfl,?_⟩
    rw[List.filter_cons_of_neg (by rw[ed,decide_eq_true ne];decide),List.filter_nil,List.append_nil]
    exact TC
  rintro ys G yl ⟨sG,cs,rfl,TC⟩ D hD
  rw[List.length_map,h3l,List.take_length]at TC
  have sD:=Same.new (o:=.lst (cs.map V.ref)) hD
  exact fin D cs _ upd_same (TC.same sD) (sG.trans sD)
noncomputable abbrev nTw:List Str:=["web"]
theorem scTw:FnScope nTw ["web"] (defScope sTieWeights):=⟨rfl,rfl,rfl,by decide +kernel,rfl,by decide +kernel,by decide +kernel⟩
theorem csTw1:CompScope ["a","b","weight"] [none,none,none] nTw (defScope sTieWeights) (scO [(".0",.local),("a",.local),("b",.local),("weight",.local)]):=⟨rfl,by decide +kernel,by decide +kernel,by decide +kernel,rfl,capB_ok (by decide +kernel)⟩
theorem ndTw1:(["a","b","weight"]:List Str).Nodup:=by decide +kernel
theorem ok_tw{f:Addr}{fd:FuncData}(F:Fun K "tie_weights" "tie_weights" sTieWeights f fd):FnOk P w K mg base CX0 1 f fd ["web"] spTw:=by
 refine F.ok scTw (fun vs H Q E h=>?_) (fun cdv A outer s H vs Q E hr h=>?_)
 ·obtain⟨t,n,ties,rfl,_⟩:=h
  rfl
 ·obtain⟨t,n,ties,rfl,W,pw,q⟩:=h
  obtain⟨⟨ts,as,h1,h2,h3⟩,len⟩:=id W
  have h3l:as.length=ties.length:=h3.length
  have hu0:_<cLine:=hr.units0
  refine⟨_,(pss_one (ps_ret (pe_dcomp true hu0 rfl csTw1 (pi_tup (@pe_ix _ _ _ _ _ _ _ ix_tupH (pv 0) pe_int (fun _ _=>rfl))) (fun C s H fp=>(pg_tupK K rfl (n:=3) rfl (pgs_cons (pg_name (i:=0) ndTw1 rfl (Or.inl rfl)) (pgs_cons (pg_name (i:=1) ndTw1 rfl (Or.inl rfl)) (pgs_cons (pg_name (i:=2) ndTw1 rfl (Or.inl rfl)) pgs_nil))) rfl rfl)) (fun C s H fp=>pf_nil) (fun C s H fp=>(@pe_tup _ _ _ _ _ (@pa_nam _ _ _ _ _ _ (pv 0) (@pa_nam _ _ _ _ _ _ (pv 1) pa_nil)))) (fun C s H fp=>(pv 2))))),?_⟩
  refine⟨_,rfl,t,_,_,_,rfl,rfl,h1,rfl,ts,rfl,⟨_,SqT.of h2⟩,fun D hD=>?_⟩
  refine dcomp_tup' (K:=K) (a:=ts) (xs:=as.map V.ref) (fun i G=>Same H G/\∃ kvs,G D=some (.dT kvs)/\kvs.length<=i/\∀ x∈ties.take i,valV kvs (keyT x)=some (.int x.2.2)) ⟨Same.new hD,[],upd_same,Nat.le_refl _,fun _ h=>nomatch h⟩ (fun i G _ z=>z.1.tupq (SqT.of h2)) ?_ ?_
  ·rintro i x G hx ⟨sm,kvs,gD,kl,kv⟩
   obtain⟨il,e⟩:=List.getElem?_eq_some_iff.mp hx
   rw[List.length_map]at il
   rw[List.getElem_map]at e
   subst e
   have it:i<ties.length:=by lia
   have hx:=sm _ _ (Paired.at h3 i il it)
   refine⟨as[i],_,rfl,SqT.of hx,rfl,_,_,rfl,_,_,rfl,_,_,rfl,rfl,trivial,tTru_if ⟨_,rfl,_,rfl,(by show 2<=sizeLine;decide),fun tp htp=>⟨_,rfl,?_⟩⟩⟩
   have sT:=Same.new (o:=pairO ties[i]) htp
   have gD2:=sT _ _ gD
   refine⟨_,DPut.t (k:=keyT ties[i]) gD2 upd_same (by rw[sizeLine_eq];lia),fun b o e=>?_,_,upd_same,?_,fun x hx=>?_⟩
   ·have n1:b≠D:=ne_of_none e hD
    rw[upd_ne n1]
    exact sT _ _ (sm _ _ e)
   ·have:=length_putK kvs (keyT ties[i]) (V.int ties[i].2.2)
    lia
   ·rw[valV_put]
    rw[List.take_succ_eq_append_getElem it]at hx
    rcases List.mem_append.mp hx with hx | hx
    ·obtain⟨j,hj,e⟩:=List.getElem_of_mem hx
     rw[List.length_take]at hj
     rw[List.getElem_take]at e
     have lt:=List.pairwise_iff_getElem.mp pw j i (by lia) it (by lia)
     rw[if_neg,kv x hx]
     intro z
     have z:keyT x=keyT ties[i]:=z
     rw[<- e]at z
     have z':([ties[j].1,ties[j].2.1]:List Int)=[ties[i].1,ties[i].2.1]:=by
      unfold keyT at z
      simp only[List.cons.injEq,Sum.inl.injEq,and_true]at z
      rw[z.1,z.2]
     unfold tieLt at lt
     rw[z']at lt
     have ir:∀ l:List Int,Srt.lexlt l l=false:=fun l=>by
      induction l with
      |nil=>rfl
      |cons a l ih=>simp[Srt.lexlt,ih]
     rw[ir]at lt
     cases lt
    ·have e:=List.mem_singleton.mp hx
     subst e
     rw[if_pos rfl]
  ·rintro G ⟨sm,kvs,gD,kl,kv⟩
   rw[List.length_map,h3l,List.take_length]at kv
   exact q D kvs G gD kv sm
noncomputable abbrev nWg:List Str:=["web","cut","weights"]
theorem scWg:FnScope nWg ["web","cut"] (defScope sWeightOf):=⟨rfl,rfl,rfl,by decide +kernel,rfl,by decide +kernel,by decide +kernel⟩
theorem csWg1:CompScope ["pair","weights"] [none,some 2] nWg (defScope sWeightOf) (scO [(".0",.local),("pair",.local),("weights",.free)]):=⟨rfl,by decide +kernel,by decide +kernel,by decide +kernel,rfl,capB_ok (by decide +kernel)⟩
theorem ndWg1:(["pair","weights"]:List Str).Nodup:=by decide +kernel
theorem ok_wg{f g:Addr}{fd gd:FuncData}(F:Fun K "weight_of" "weight_of" sWeightOf f fd)(T:Txt mg)(GT:CalF P w K mg base 1 "tie_weights" ["web"] spTw g gd):FnOk P w K mg base CX0 2 f fd ["web","cut"] spWg:=by
 refine F.ok scWg (fun vs H Q E h=>?_) (fun cdv A outer s H vs Q E hr h=>?_)
 ·obtain⟨t,c,n,ties,tt,as,rfl,_⟩:=h
  rfl
 ·obtain⟨t,c,n,ties,tt,as,rfl,W,pw,hc,pt,tl,sub,fin⟩:=h
  have hu:=hu_of hr
  have al:as.length=tt.length:=Paired.length pt
  refine⟨_,(pss_cons (ps_set (i:=2) scWg.nd rfl (Or.inr rfl) (pe_call GT.ok hr rfl GT.mg GT.kp GT.bd .nil pass0 (@pa_nam _ _ _ _ _ _ (pv 0) pa_nil)))
   (pss_one (ps_ret (pe_callB (call_sumH rfl) (by rfl) T.sum boot_sum (@pa_comp _ _ _ _ _ _ _ _ (pe_comp rfl csWg1 (pi_list (pv 1)) (fun C s H fp=>(pg_name (i:=0) ndWg1 rfl (Or.inl rfl))) (fun C s H fp=>pf_nil) (fun C s H fp=>(pe_dget hu (pv 1) (pv 0) (fun _ _=>rfl)))) pa_nil))))),?_⟩
  refine⟨_,rfl,t,n,ties,rfl,W,pw,fun d kvs H1 gd kv s1=>?_⟩
  refine⟨_,rfl,c,rfl,⟨_,SqL.of (s1 _ _ hc)⟩,?_⟩
  refine comp_list (K:=K) (a:=c) (xs:=as.map V.ref) (fun i ys G=>Same H1 G/\ys=((tt.take i).map (·.2.2)).map V.int) (by rw[List.length_map,sizeLine_eq];lia) ⟨Same.refl _,rfl⟩ (fun i ys G _ z=>SqL.of (z.1 _ _ (s1 _ _ hc))) ?_ ?_
  ·rintro i x ys G hx ⟨sm,rfl⟩
   obtain⟨il,e⟩:=List.getElem?_eq_some_iff.mp hx
   rw[List.length_map]at il
   rw[List.getElem_map]at e
   subst e
   have it:i<tt.length:=by lia
   have a1:=(s1.trans sm) _ _ (Paired.at pt i il it)
   have g0:DGet G d (V.ref as[i]) (valV kvs (keyT tt[i])):=DGet.t (sm _ _ gd) a1
   rw[kv _ (sub _ (List.getElem_mem it))]at g0
   refine⟨⟨rfl,trivial⟩,tTru_if ⟨_,rfl,_,rfl,d,_,rfl,g0,sm,?_⟩⟩
   rw[List.take_succ_eq_append_getElem it,List.map_append,List.map_append]
   rfl
  ·rintro ys G _ ⟨sm,rfl⟩ D hD
   rw[List.length_map,al,List.take_length]
   exact⟨D,_,rfl,upd_same,fin _ (s1.trans (sm.trans (Same.new hD)))⟩
end
end K23
namespace Flw
noncomputable def wf(ties:List Tie)(f:Tie->Bool):Int:=((ties.filter f).map fun x=>x.2.2).sum
theorem wf_cons(x:Tie)(r:List Tie)(f:Tie->Bool):wf (x :: r) f=(if f x=true then x.2.2 else 0)+wf r f:=by
 unfold wf
 rw[List.filter_cons]
 split
 ·rw[List.map_cons,List.sum_cons]
 ·lia
theorem wf_congr:∀ {ties:List Tie}{f g:Tie->Bool},(∀ x∈ties,f x=g x)->wf ties f=wf ties g
 |[],f,g,_=>rfl
 |x :: r,f,g,h=>by
  rw[wf_cons,wf_cons,h x (List.mem_cons_self ..),wf_congr fun y hy=>h y (List.mem_cons_of_mem _ hy)]
theorem sideW_wf(ties:List Tie)(L:List Int):sideW ties L=wf ties fun x=>decide (x.1∈L) != decide (x.2.1∈L):=rfl
noncomputable def two(ow:Int->Int)(x:Tie):Bool:=decide (ow x.1≠ow x.2.1)
section
variable{n:Nat}{ties:List Tie}{ow:Int->Int}{P:List Int}
theorem posi(A B A' B':List Int)(hA:∀ v,v∈A'↔v∈A/\v∉B)(hB:∀ v,v∈B'↔v∈B/\v∉A):∀ {ties:List Tie},(∀ x∈ties,0<=x.2.2)->sideW ties A' + sideW ties B'<=sideW ties A+sideW ties B:=by
 intro ties
 induction ties with
 |nil=>exact fun _=>Int.le_refl _
 |cons x r ih =>
  intro h
  have ih:=ih fun y hy=>h y (List.mem_cons_of_mem _ hy)
  have w:=h x (List.mem_cons_self ..)
  have key:∀ a1 a2 b1 b2:Bool,(((a1 && !b1) !=(a2 && !b2)).toNat+((b1 && !a1) !=(b2 && !a2)).toNat)<=((a1 != a2).toNat+(b1 != b2).toNat):=by decide
  have dn:∀ (C D C':List Int) (v:Int),(v∈C'↔v∈C/\v∉D)->decide (v∈C')=(decide (v∈C) && !decide (v∈D)):=fun C D C' v e=>by rw[decide_eq_decide.mpr e,Bool.decide_and,decide_not]
  have bn:∀ (b:Bool) (w:Int),(if b=true then w else 0)=(b.toNat:Int) * w:=fun b w=>by cases b <;> simp
  have key:=Int.mul_le_mul_of_nonneg_right (Int.ofNat_le.mpr (key (decide (x.1∈A)) (decide (x.2.1∈A)) (decide (x.1∈B)) (decide (x.2.1∈B)))) w
  rw[Int.natCast_add,Int.natCast_add,Int.add_mul,Int.add_mul]at key
  rw[sideW_cons,sideW_cons,sideW_cons,sideW_cons,dn A B A' _ (hA x.1),dn A B A' _ (hA x.2.1),dn B A B' _ (hB x.1),dn B A B' _ (hB x.2.1),bn,bn,bn,bn]
  clear hA hB dn bn
  omega
end
end Flw
namespace Shk
open Flw
noncomputable def gLo(f:Int->Int)(x:Tie):Int:=if f x.2.1<f x.1 then f x.2.1 else f x.1
noncomputable def gHi(f:Int->Int)(x:Tie):Int:=if f x.2.1 > f x.1 then f x.2.1 else f x.1
noncomputable def gwt(f:Int->Int)(ties:List Tie)(a b:Int):Int:=((ties.filter fun x=>decide (gLo f x=a/\gHi f x=b)).map (·.2.2)).sum
theorem gwt_cons{f:Int->Int}{x:Tie}{r:List Tie}{a b:Int}:gwt f (x :: r) a b=(if gLo f x=a/\gHi f x=b then x.2.2 else 0)+gwt f r a b:=by
 unfold gwt
 rw[List.filter_cons]
 by_cases h:gLo f x=a/\gHi f x=b
 ·rw[if_pos (decide_eq_true h),if_pos h,List.map_cons,List.sum_cons]
 ·rw[if_neg (by rw[decide_eq_false h];decide),if_neg h,Int.zero_add]
theorem gwt_nonneg{f:Int->Int}{a b:Int}:∀ {r:List Tie},(∀ x∈r,1<=x.2.2)->0<=gwt f r a b
 |[],_=>Int.le_refl _
 |x :: r,h=>by
  have i:=gwt_nonneg (f:=f) (a:=a) (b:=b) (r:=r) fun y hy=>h y (List.mem_cons_of_mem _ hy)
  have w:=h x (List.mem_cons_self ..)
  rw[gwt_cons]
  split <;> lia
theorem gwt_pos{f:Int->Int}:∀ {r:List Tie},(∀ x∈r,1<=x.2.2)->∀ x∈r,0<gwt f r (gLo f x) (gHi f x):=by
 intro r
 induction r with
 |nil=>intro _ x hx;cases hx
 |cons y r ih =>
  intro h x hx
  have hr:=fun z hz=>h z (List.mem_cons_of_mem y hz)
  have i:=gwt_nonneg (f:=f) (a:=gLo f x) (b:=gHi f x) hr
  have w:=h y (List.mem_cons_self ..)
  rw[gwt_cons]
  rcases List.mem_cons.mp hx with e | hx
  ·subst e
   rw[if_pos ⟨rfl,rfl⟩]
   omega
  ·have p:=ih hr x hx
   split <;> omega
structure MrgF(f:Int->Int)(ties tl:List Tie):Prop where
 pw:tl.Pairwise fun x y=>¬(x.1=y.1/\x.2.1=y.2.1)
 mem:∀ a b c,(a,b,c)∈tl↔a<b/\c=gwt f ties a b/\0<c
theorem wf_sum(tl:List Tie)(p:Tie->Bool):wf tl p=(tl.map fun y=>if p y=true then y.2.2 else 0).sum:=by
 induction tl with
 |nil=>rfl
 |cons x r ih=>rw[wf_cons,ih,List.map_cons,List.sum_cons]
theorem pick_out{a b w:Int}{g:Int->Int->Bool}:∀ {tl:List Tie},(∀ y∈tl,¬(a=y.1/\b=y.2.1))->(tl.map fun y=>if g y.1 y.2.1=true then(if a=y.1/\b=y.2.1 then w else 0)else 0).sum=0
 |[],_=>rfl
 |x :: r,h=>by
  rw[List.map_cons,List.sum_cons,pick_out fun y hy=>h y (List.mem_cons_of_mem _ hy),if_neg (h x (List.mem_cons_self ..))]
  split <;> rfl
theorem pick_in{a b w c:Int}{g:Int->Int->Bool}:∀ {tl:List Tie},tl.Pairwise (fun x y=>¬(x.1=y.1/\x.2.1=y.2.1))->(a,b,c)∈tl->(tl.map fun y=>if g y.1 y.2.1=true then(if a=y.1/\b=y.2.1 then w else 0)else 0).sum=if g a b=true then w else 0:=by
 intro tl
 induction tl with
 |nil=>intro _ h;cases h
 |cons x r ih =>
  intro pw h
  obtain⟨p1,p2⟩:=List.pairwise_cons.mp pw
  rw[List.map_cons,List.sum_cons]
  rcases List.mem_cons.mp h with e | h
  ·subst e
   rw[pick_out fun y hy=>p1 y hy,Int.add_zero]
   show(if g a b=true then(if a=a/\b=b then w else 0)else 0)=_
   rw[if_pos (show a=a/\b=b from⟨rfl,rfl⟩)]
  ·have ne:¬(a=x.1/\b=x.2.1):=fun z=>p1 _ h ⟨z.1.symm,z.2.symm⟩
   rw[ih p2 h,if_neg ne]
   split <;> exact Int.zero_add _
theorem sum_addT(p q:Tie->Int):∀ l:List Tie,(l.map fun y=>p y+q y).sum=(l.map p).sum+(l.map q).sum
 |[]=>rfl
 |x :: r=>by
  rw[List.map_cons,List.map_cons,List.map_cons,List.sum_cons,List.sum_cons,List.sum_cons,sum_addT p q r]
  lia
theorem lo_hi(f:Int->Int)(x:Tie):gLo f x<=gHi f x:=by unfold gLo gHi;split <;> split <;> lia
theorem merge_sum{f:Int->Int}{ties tl:List Tie}(M:MrgF f ties tl)(h1:∀ x∈ties,1<=x.2.2){g:Int->Int->Bool}(sy:∀ a b,g a b=g b a)(dg:∀ a,g a a=false) :
  wf tl (fun x=>g x.1 x.2.1)=wf ties (fun x=>g (f x.1) (f x.2.1)):=by
 have key:∀ r:List Tie,(∀ x∈r,gLo f x<gHi f x->∃ c,(gLo f x,gHi f x,c)∈tl)->(tl.map fun y=>if g y.1 y.2.1=true then gwt f r y.1 y.2.1 else 0).sum=wf r (fun x=>g (f x.1) (f x.2.1)):=by
  intro r
  induction r with
  |nil =>
   intro _
   have:∀ l:List Tie,(l.map fun y=>if g y.1 y.2.1=true then gwt f [] y.1 y.2.1 else 0).sum=0:=fun l=>by
    induction l with
    |nil=>rfl
    |cons x r ih=>rw[List.map_cons,List.sum_cons,ih];split <;> rfl
   exact this tl
  |cons x r ih =>
   intro hx
   have i:=ih fun y hy=>hx y (List.mem_cons_of_mem _ hy)
   have e:(tl.map fun y=>if g y.1 y.2.1=true then gwt f (x :: r) y.1 y.2.1 else 0)=tl.map fun y=>(if g y.1 y.2.1=true then(if gLo f x=y.1/\gHi f x=y.2.1 then x.2.2 else 0)else 0)+(if g y.1 y.2.1=true then gwt f r y.1 y.2.1 else 0):=by
    refine List.map_congr_left fun y _=>?_
    rw[gwt_cons]
    by_cases c:g y.1 y.2.1=true
    ·rw[if_pos c,if_pos c,if_pos c]
    ·rw[if_neg c,if_neg c,if_neg c];rfl
   rw[e,sum_addT,i,wf_cons]
   congr 1
   by_cases c:gLo f x<gHi f x
   ·obtain⟨w,hw⟩:=hx x (List.mem_cons_self ..) c
    rw[pick_in M.pw hw]
    have:g (gLo f x) (gHi f x)=g (f x.1) (f x.2.1):=by
     unfold gLo gHi
     by_cases c2:f x.2.1<f x.1
     ·rw[if_pos c2,if_neg (by lia)];exact sy _ _
     ·rw[if_neg c2]
      by_cases c3:f x.2.1 > f x.1
      ·rw[if_pos c3]
      ·rw[if_neg c3]
       have:f x.1=f x.2.1:=by lia
       rw[<- this]
    rw[this]
   ·have le:=lo_hi f x
    rw[pick_out fun y hy z=>by
     obtain⟨a,b,w⟩:=y
     have:=((M.mem a b w).mp hy).1
     have z1:gLo f x=a:=z.1
     have z2:gHi f x=b:=z.2
     lia]
    have:f x.1=f x.2.1:=by
     unfold gLo gHi at c
     split at c <;> split at c <;> lia
    rw[this,dg]
    rfl
 rw[<- key ties fun x hx lt=>⟨_,(M.mem _ _ _).mpr ⟨lt,rfl,gwt_pos h1 x hx⟩⟩,wf_sum]
 congr 1
 refine List.map_congr_left fun y hy=>?_
 obtain⟨a,b,c⟩:=y
 have:=((M.mem a b c).mp hy).2.1
 show(if g a b=true then c else 0)=if g a b=true then gwt f ties a b else 0
 rw[this]
theorem draw_bool:∀ a1 a2 b1 b2 c:Bool,(b1 && b2 && !c)=false->(b1 && !b2 && c)=false->(!b1 && b2 && c)=false ->
  (!(if a1 then(if a2 then true else b2)else(if a2 then b1 else c))).toNat+((a1 && b1) !=(a2 && b2)).toNat<=(!c).toNat+(a1 != a2).toNat:=by decide
theorem bi_nat(b:Bool)(w:Int):(if b=true then w else 0)=(b.toNat:Int) * w:=by cases b <;> simp
theorem dec_and{p q r:Prop}[Decidable p][Decidable q][Decidable r](e:p↔q/\r):decide p=(decide q && decide r):=by
 rw[Bool.eq_iff_iff,decide_eq_true_eq,Bool.and_eq_true,decide_eq_true_eq,decide_eq_true_eq]
 exact e
theorem draw_two{W:List Int}{q:Int}{h:Int->Int}(x:Tie):two (fun v=>if v∈W then q else h v) x = !(if decide (x.1∈W)then(if decide (x.2.1∈W)then true else decide (h x.2.1=q))else(if decide (x.2.1∈W)then decide (h x.1=q)else decide (h x.1=h x.2.1))):=by
 show decide ((if x.1∈W then q else h x.1)≠if x.2.1∈W then q else h x.2.1)=_
 rw[decide_not]
 congr 1
 by_cases a1:x.1∈W
 ·by_cases a2:x.2.1∈W
  ·rw[if_pos a1,if_pos a2,if_pos (decide_eq_true a1),if_pos (decide_eq_true a2),decide_eq_true rfl]
  ·rw[if_pos a1,if_neg a2,if_pos (decide_eq_true a1),if_neg (by rw[decide_eq_false a2];decide)]
   exact decide_eq_decide.mpr ⟨Eq.symm,Eq.symm⟩
 ·by_cases a2:x.2.1∈W
  ·rw[if_neg a1,if_pos a2,if_neg (by rw[decide_eq_false a1];decide),if_pos (decide_eq_true a2)]
  ·rw[if_neg a1,if_neg a2,if_neg (by rw[decide_eq_false a1];decide),if_neg (by rw[decide_eq_false a2];decide)]
theorem three(u v q:Int):(decide (u=q) && decide (v=q) && !decide (u=v))=false/\(decide (u=q) && !decide (v=q) && decide (u=v))=false/\(!decide (u=q) && decide (v=q) && decide (u=v))=false:=by
 by_cases a:u=q
 ·subst a
  rw[decide_eq_true rfl,show decide (v=u)=decide (u=v)from decide_eq_decide.mpr ⟨Eq.symm,Eq.symm⟩]
  cases decide (u=v) <;> exact⟨rfl,rfl,rfl⟩
 ·rw[decide_eq_false a]
  refine⟨rfl,rfl,?_⟩
  by_cases b:v=q
  ·rw[decide_eq_false (show ¬ u=v from fun z=>a (z.trans b)),Bool.and_false]
  ·rw[decide_eq_false b];rfl
theorem draw_cost{W A:List Int}{q:Int}{h:Int->Int}(hA:∀ v,v∈A↔v∈W/\h v=q){ties:List Tie}(h0:∀ x∈ties,0<=x.2.2):wf ties (two fun v=>if v∈W then q else h v)+sideW ties A<=wf ties (two h)+sideW ties W:=by
 induction ties with
 |nil=>exact Int.le_refl _
 |cons x r ih =>
  have ih:=ih fun y hy=>h0 y (List.mem_cons_of_mem _ hy)
  have w:=h0 x (List.mem_cons_self ..)
  obtain⟨t1,t2,t3⟩:=three (h x.1) (h x.2.1) q
  have key:=draw_bool (decide (x.1∈W)) (decide (x.2.1∈W)) _ _ _ t1 t2 t3
  have e2:two h x = !decide (h x.1=h x.2.1):=decide_not
  rw[wf_cons,wf_cons,sideW_cons,sideW_cons,dec_and (hA x.1),dec_and (hA x.2.1),draw_two,e2,bi_nat,bi_nat,bi_nat,bi_nat]
  have key:=Int.mul_le_mul_of_nonneg_right (Int.ofNat_le.mpr key) w
  rw[Int.natCast_add,Int.natCast_add,Int.add_mul,Int.add_mul]at key
  generalize wf r (two fun v=>if v∈W then q else h v)=X at ih ⊢
  omega
structure RowF(n:Nat)(ps:List Int)(h:Int->Int):Prop where
 fix:∀ p∈ps,h p=p
 inn:∀ v:Int,0<=v->v<n->h v∈ps
structure NmF(n k:Nat)(ps:List Int)(f:Int->Int):Prop where
 rg:∀ v:Int,0<=v->v<n->0<=f v/\f v<k
 all:∀ y:Int,0<=y->y<k->∃ v:Int,0<=v/\v<n/\f v=y
 post:∀ p∈ps,∀ q∈ps,f p=f q->p=q
 pr:∀ p∈ps,0<=p/\p<n
open Classical in
noncomputable def far(ps:List Int)(f:Int->Int)(y:Int):Int:=if h:∃ p,p∈ps/\f p=y then h.choose else 0
theorem far_eq{n k:Nat}{ps:List Int}{f:Int->Int}(N:NmF n k ps f){p:Int}(hp:p∈ps):far ps f (f p)=p:=by
 unfold far
 have ex:∃ q,q∈ps/\f q=f p:=⟨p,hp,rfl⟩
 rw[dif_pos ex]
 exact N.post _ ex.choose_spec.1 p hp ex.choose_spec.2
theorem far_of{n k:Nat}{ps:List Int}{f:Int->Int}(N:NmF n k ps f){y:Int}(hy:y∈ps.map f):far ps f y∈ps/\f (far ps f y)=y:=by
 obtain⟨p,hp,rfl⟩:=List.mem_map.mp hy
 rw[far_eq N hp]
 exact⟨hp,rfl⟩
noncomputable def difB(h:Int->Int)(a b:Int):Bool:=decide (h a≠h b)
theorem dif_sy(h:Int->Int)(a b:Int):difB h a b=difB h b a:=decide_eq_decide.mpr ⟨fun z e=>z e.symm,fun z e=>z e.symm⟩
theorem dif_dg(h:Int->Int)(a:Int):difB h a a=false:=decide_eq_false fun z=>z rfl
theorem two_merge{f:Int->Int}{ties tl:List Tie}(M:MrgF f ties tl)(h1:∀ x∈ties,1<=x.2.2)(h:Int->Int):wf tl (two h)=wf ties (two fun v=>h (f v)) :=
 merge_sum M h1 (g:=difB h) (dif_sy h) (dif_dg h)
section
variable{n k:Nat}{ps:List Int}{f:Int->Int}{ties tl:List Tie}
theorem row_back(ok:∀ x∈ties,TOk n x)(N:NmF n k ps f)(M:MrgF f ties tl){h:Int->Int}(R:RowF k (ps.map f) h):RowF n ps (fun v=>far ps f (h (f v)))/\wf ties (two fun v=>far ps f (h (f v)))=wf tl (two h):=by
 refine⟨⟨fun p hp=>?_,fun v v0 v1=>?_⟩,?_⟩
 ·show far ps f (h (f p))=p
  rw[R.fix _ (List.mem_map.mpr ⟨p,hp,rfl⟩),far_eq N hp]
 ·obtain⟨r0,r1⟩:=N.rg v v0 v1
  exact(far_of N (R.inn _ r0 r1)).1
 ·rw[two_merge M (fun x hx=>(ok x hx).2.2.2) h]
  refine wf_congr fun x hx=>?_
  obtain⟨o1,o2,o3,o4⟩:=ok x hx
  have a:=N.rg x.1 o1 (by lia)
  have b:=N.rg x.2.1 (by lia) o3
  have fa:=far_of N (R.inn _ a.1 a.2)
  have fb:=far_of N (R.inn _ b.1 b.2)
  show decide (far ps f (h (f x.1))≠far ps f (h (f x.2.1)))=decide (h (f x.1)≠h (f x.2.1))
  refine decide_eq_decide.mpr ⟨fun z e=>z (by rw[e]),fun z e=>z ?_⟩
  rw[<- fa.2,<- fb.2,e]
noncomputable def Good(n:Nat)(ties:List Tie)(ps:List Int)(f:Int->Int)(k:Nat)(tl:List Tie):Prop:=∀ h,RowF n ps h->∃ h',RowF k (ps.map f) h'/\wf tl (two h')<=wf ties (two h)
noncomputable def GoodS(n:Nat)(ties:List Tie)(ps:List Int)(f:Int->Int)(k:Nat)(tl:List Tie):Prop:=∀ q∈ps,∀ L,Side n [q] (ps.filter fun o=>!decide (o=q)) L->∃ L',Side k [f q] ((ps.filter fun o=>!decide (o=q)).map f) L'/\sideW tl L'<=sideW ties L
theorem good_start(ok:∀ x∈ties,TOk n x)(M:MrgF f ties tl)(id:∀ v:Int,0<=v->v<n->f v=v)(pr:∀ p∈ps,0<=p/\p<n):Good n ties ps f n tl:=fun h R=>by
 have e:ps.map f=ps:=by
  have:ps.map f=ps.map fun x=>x:=List.map_congr_left fun p hp=>id p (pr p hp).1 (pr p hp).2
  rw[this,List.map_id']
 rw[e]
 refine⟨h,R,?_⟩
 rw[two_merge M (fun x hx=>(ok x hx).2.2.2) h]
 refine Int.le_of_eq (wf_congr fun x hx=>?_)
 obtain⟨o1,o2,o3,o4⟩:=ok x hx
 show decide (h (f x.1)≠h (f x.2.1))=decide (h x.1≠h x.2.1)
 rw[id x.1 o1 (by lia),id x.2.1 (by lia) o3]
theorem side_cut{f:Int->Int}{ties tl:List Tie}(M:MrgF f ties tl)(h1:∀ x∈ties,1<=x.2.2)(L:List Int):sideW tl L=wf ties fun x=>decide (f x.1∈L) != decide (f x.2.1∈L) :=
 merge_sum M h1 (g:=fun a b=>decide (a∈L) != decide (b∈L)) (fun a b=>by cases decide (a∈L) <;> cases decide (b∈L) <;> rfl) (fun a=>by cases decide (a∈L) <;> rfl)
theorem goodS_start(ok:∀ x∈ties,TOk n x)(M:MrgF f ties tl)(id:∀ v:Int,0<=v->v<n->f v=v)(pr:∀ p∈ps,0<=p/\p<n):GoodS n ties ps f n tl:=fun q hq L S=>by
 have e:(ps.filter fun o=>!decide (o=q)).map f=ps.filter fun o=>!decide (o=q):=by
  have:(ps.filter fun o=>!decide (o=q)).map f=(ps.filter fun o=>!decide (o=q)).map fun x=>x:=List.map_congr_left fun p hp=>id p (pr p (List.mem_filter.mp hp).1).1 (pr p (List.mem_filter.mp hp).1).2
  rw[this,List.map_id']
 rw[e,id q (pr q hq).1 (pr q hq).2]
 refine⟨L,S,?_⟩
 rw[side_cut M (fun x hx=>(ok x hx).2.2.2) L,sideW_wf]
 refine Int.le_of_eq (wf_congr fun x hx=>?_)
 obtain⟨o1,o2,o3,o4⟩:=ok x hx
 rw[id x.1 o1 (by lia),id x.2.1 (by lia) o3]
structure Drawn(n k:Nat)(ps:List Int)(f f':Int->Int)(tl:List Tie)(post:Int)(W:List Int):Prop where
 mem:post∈ps
 sd:Side k [f post] ((ps.filter fun o=>!decide (o=post)).map f) W
 lst:∀ L,Side k [f post] ((ps.filter fun o=>!decide (o=post)).map f) L->sideW tl W<=sideW tl L
 nm:∀ u v:Int,0<=u->u<n->0<=v->v<n->(f' u=f' v↔(f u=f v\/(f u∈W/\f v∈W)))
open Classical in
noncomputable def pre(n:Nat)(f:Int->Int)(y:Int):Int:=if h:∃ v:Int,0<=v/\v <(n:Int)/\f v=y then h.choose else 0
theorem pre_of(N:NmF n k ps f){y:Int}(y0:0<=y)(y1:y<k):0<=pre n f y/\pre n f y<n/\f (pre n f y)=y:=by
 have ex:=N.all y y0 y1
 unfold pre
 rw[dif_pos ex]
 exact ex.choose_spec
variable{k':Nat}{f':Int->Int}{tl':List Tie}{post:Int}{W:List Int}
theorem Drawn.out(D:Drawn n k ps f f' tl post W){p:Int}(hp:p∈ps)(ne:p≠post):f p∉W:=fun z=>D.sd.no _ z (List.mem_map.mpr ⟨p,List.mem_filter.mpr ⟨hp,by rw[decide_eq_false ne];rfl⟩,rfl⟩)
theorem good_step(ok:∀ x∈ties,TOk n x)(okl:∀ x∈tl,TOk k x)(N:NmF n k ps f)(N':NmF n k' ps f')(M:MrgF f ties tl)(M':MrgF f' ties tl')(D:Drawn n k ps f f' tl post W)(G:Good n ties ps f k tl):Good n ties ps f' k' tl':=fun h R=>by
 obtain⟨h1,R1,c1⟩:=G h R
 have fpm:f post∈ps.map f:=List.mem_map.mpr ⟨post,D.mem,rfl⟩
 have own:f post∈W:=D.sd.sub _ (List.mem_singleton.mpr rfl)
 have hA:∀ v,v∈W.filter (fun v=>decide (h1 v=f post))↔v∈W/\h1 v=f post:=fun v=>by rw[List.mem_filter,decide_eq_true_eq]
 have sA:Side k [f post] ((ps.filter fun o=>!decide (o=post)).map f) (W.filter fun v=>decide (h1 v=f post)):=⟨D.sd.nd.filter _,fun s hs=>by rw[List.mem_singleton.mp hs];exact(hA _).mpr ⟨own,R1.fix _ fpm⟩,fun v hv=>D.sd.no v ((hA v).mp hv).1,fun v hv=>D.sd.rg v ((hA v).mp hv).1⟩
 have dc:=draw_cost hA (ties:=tl) fun x hx=>by have:=(okl x hx).2.2.2;lia
 have lt:=D.lst _ sA
 have c2:wf tl (two fun v=>if v∈W then f post else h1 v)<=wf tl (two h1):=by lia
 -- the new row
 have al:∀ u v:Int,0<=u->u<n->0<=v->v<n->f' u=f' v->(if f u∈W then f post else h1 (f u))=if f v∈W then f post else h1 (f v):=fun u v u0 u1 v0 v1 e=>by
  rcases(D.nm u v u0 u1 v0 v1).mp e with z | z
  ·rw[z]
  ·rw[if_pos z.1,if_pos z.2]
 have in2:∀ v:Int,0<=v->v<n->(if f v∈W then f post else h1 (f v))∈ps.map f:=fun v v0 v1=>by
  split
  ·exact fpm
  ·obtain⟨a,b⟩:=N.rg v v0 v1
   exact R1.inn _ a b
 have at3:∀ v:Int,0<=v->v<n->(if f (pre n f' (f' v))∈W then f post else h1 (f (pre n f' (f' v))))=if f v∈W then f post else h1 (f v):=fun v v0 v1=>by
  obtain⟨a,b⟩:=N'.rg v v0 v1
  obtain⟨p0,p1,p2⟩:=pre_of N' a b
  exact al _ _ p0 p1 v0 v1 p2
 refine⟨fun y=>f' (far ps f (if f (pre n f' y)∈W then f post else h1 (f (pre n f' y)))),⟨fun y hy=>?_,fun y y0 y1=>?_⟩,?_⟩
 ·obtain⟨p,hp,rfl⟩:=List.mem_map.mp hy
  obtain⟨p0,p1⟩:=N.pr p hp
  show f' (far ps f (if f (pre n f' (f' p))∈W then f post else h1 (f (pre n f' (f' p)))))=f' p
  rw[at3 p p0 p1]
  by_cases c:p=post
  ·rw[c,if_pos own,far_eq N D.mem]
  ·rw[if_neg (D.out hp c),R1.fix _ (List.mem_map.mpr ⟨p,hp,rfl⟩),far_eq N hp]
 ·obtain⟨p0,p1,_⟩:=pre_of N' y0 y1
  exact List.mem_map.mpr ⟨_,(far_of N (in2 _ p0 p1)).1,rfl⟩
 ·refine Int.le_trans ?_ (Int.le_trans c2 c1)
  have w1:=fun x hx=>(ok x hx).2.2.2
  rw[two_merge M' w1,two_merge M w1]
  refine Int.le_of_eq (wf_congr fun x hx=>?_)
  obtain⟨o1,o2,o3,o4⟩:=ok x hx
  show decide (f' (far ps f (if f (pre n f' (f' x.1))∈W then f post else h1 (f (pre n f' (f' x.1)))))≠f' (far ps f (if f (pre n f' (f' x.2.1))∈W then f post else h1 (f (pre n f' (f' x.2.1))))))=decide ((if f x.1∈W then f post else h1 (f x.1))≠if f x.2.1∈W then f post else h1 (f x.2.1))
  rw[at3 x.1 o1 (by lia),at3 x.2.1 (by lia) o3]
  have fa:=far_of N (in2 x.1 o1 (by lia))
  have fb:=far_of N (in2 x.2.1 (by lia) o3)
  refine decide_eq_decide.mpr ⟨fun z e=>z (by rw[e]),fun z e=>z ?_⟩
  rw[<- fa.2,<- fb.2,N'.post _ fa.1 _ fb.1 e]
theorem goodS_step(ok:∀ x∈ties,TOk n x)(okl:∀ x∈tl,TOk k x)(N:NmF n k ps f)(N':NmF n k' ps f')(M:MrgF f ties tl)(M':MrgF f' ties tl')(D:Drawn n k ps f f' tl post W)(G:GoodS n ties ps f k tl):GoodS n ties ps f' k' tl':=fun q hq L S=>by
 obtain⟨L1,S1,c1⟩:=G q hq L S
 have own:f post∈W:=D.sd.sub _ (List.mem_singleton.mpr rfl)
 -- a side that keeps the new names
 have key:∃ L2,Side k [f q] ((ps.filter fun o=>!decide (o=q)).map f) L2/\sideW tl L2<=sideW tl L1/\((∀ v∈W,v∈L2)\/∀ v∈W,v∉L2):=by
  by_cases c:q=post
  ·subst c
   exact⟨W,D.sd,D.lst _ S1,.inl fun _ h=>h⟩
  ·have dA:∀ v,v∈W.filter (fun v=>decide (v∉L1))↔v∈W/\v∉L1:=fun v=>by rw[List.mem_filter,decide_eq_true_eq]
   have dB:∀ v,v∈L1.filter (fun v=>decide (v∉W))↔v∈L1/\v∉W:=fun v=>by rw[List.mem_filter,decide_eq_true_eq]
   have s1:Side k [f post] ((ps.filter fun o=>!decide (o=post)).map f) (W.filter fun v=>decide (v∉L1)):=⟨D.sd.nd.filter _,fun s hs=>by
    rw[List.mem_singleton.mp hs]
    exact(dA _).mpr ⟨own,fun z=>S1.no _ z (List.mem_map.mpr ⟨post,List.mem_filter.mpr ⟨D.mem,by rw[decide_eq_false (Ne.symm c)];rfl⟩,rfl⟩)⟩,fun v hv=>D.sd.no v ((dA v).mp hv).1,fun v hv=>D.sd.rg v ((dA v).mp hv).1⟩
   have p:=posi W L1 _ _ dA dB (ties:=tl) fun x hx=>by have:=(okl x hx).2.2.2;lia
   have l1:=D.lst _ s1
   refine⟨L1.filter fun v=>decide (v∉W),⟨S1.nd.filter _,fun s hs=>?_,fun v hv=>S1.no v ((dB v).mp hv).1,fun v hv=>S1.rg v ((dB v).mp hv).1⟩,by lia,.inr fun v hv z=>((dB v).mp z).2 hv⟩
   rw[List.mem_singleton.mp hs]
   exact(dB _).mpr ⟨S1.sub _ (List.mem_singleton.mpr rfl),D.out hq c⟩
 obtain⟨L2,S2,c2,kp⟩:=key
 have al:∀ u v:Int,0<=u->u<n->0<=v->v<n->f' u=f' v->(f u∈L2↔f v∈L2):=fun u v u0 u1 v0 v1 e=>by
  rcases(D.nm u v u0 u1 v0 v1).mp e with z | z
  ·rw[z]
  ·rcases kp with k | k
   ·exact⟨fun _=>k _ z.2,fun _=>k _ z.1⟩
   ·exact⟨fun a=>absurd a (k _ z.1),fun a=>absurd a (k _ z.2)⟩
 have m3:∀ y,y∈(rng k').filter (fun y=>decide (f (pre n f' y)∈L2))↔(0<=y/\y<k')/\f (pre n f' y)∈L2:=fun y=>by rw[List.mem_filter,mem_rng,decide_eq_true_eq]
 have at3:∀ v:Int,0<=v->v<n->(f' v∈(rng k').filter (fun y=>decide (f (pre n f' y)∈L2))↔f v∈L2):=fun v v0 v1=>by
  obtain⟨a,b⟩:=N'.rg v v0 v1
  obtain⟨p0,p1,p2⟩:=pre_of N' a b
  rw[m3]
  have:=al _ _ p0 p1 v0 v1 p2
  exact⟨fun z=>this.mp z.2,fun z=>⟨⟨a,b⟩,this.mpr z⟩⟩
 refine⟨(rng k').filter fun y=>decide (f (pre n f' y)∈L2),⟨(rng_nd k').filter _,fun s hs=>?_,fun y hy z=>?_,fun y hy=>((m3 y).mp hy).1⟩,?_⟩
 ·rw[List.mem_singleton.mp hs]
  exact(at3 q (N.pr q hq).1 (N.pr q hq).2).mpr (S2.sub _ (List.mem_singleton.mpr rfl))
 ·obtain⟨o,ho,rfl⟩:=List.mem_map.mp z
  have hp:=(List.mem_filter.mp ho).1
  exact S2.no _ ((at3 o (N.pr o hp).1 (N.pr o hp).2).mp hy) (List.mem_map.mpr ⟨o,ho,rfl⟩)
 ·refine Int.le_trans ?_ (Int.le_trans c2 c1)
  have w1:=fun x hx=>(ok x hx).2.2.2
  rw[side_cut M' w1,side_cut M w1]
  refine Int.le_of_eq (wf_congr fun x hx=>?_)
  obtain⟨o1,o2,o3,o4⟩:=ok x hx
  rw[decide_eq_decide.mpr (at3 x.1 o1 (by lia)),decide_eq_decide.mpr (at3 x.2.1 (by lia) o3)]
theorem side_back(ok:∀ x∈ties,TOk n x)(N:NmF n k ps f)(M:MrgF f ties tl){q:Int}(hq:q∈ps){L:List Int}(S:Side k [f q] ((ps.filter fun o=>!decide (o=q)).map f) L):Side n [q] (ps.filter fun o=>!decide (o=q)) ((rng n).filter fun v=>decide (f v∈L))/\sideW ties ((rng n).filter fun v=>decide (f v∈L))=sideW tl L:=by
 have m:∀ v,v∈(rng n).filter (fun v=>decide (f v∈L))↔(0<=v/\v<n)/\f v∈L:=fun v=>by rw[List.mem_filter,mem_rng,decide_eq_true_eq]
 refine⟨⟨(rng_nd n).filter _,fun s hs=>?_,fun v hv z=>?_,fun v hv=>((m v).mp hv).1⟩,?_⟩
 ·rw[List.mem_singleton.mp hs]
  exact(m q).mpr ⟨N.pr q hq,S.sub _ (List.mem_singleton.mpr rfl)⟩
 ·exact S.no _ ((m v).mp hv).2 (List.mem_map.mpr ⟨v,z,rfl⟩)
 ·rw[side_cut M (fun x hx=>(ok x hx).2.2.2),sideW_wf]
  refine wf_congr fun x hx=>?_
  obtain⟨o1,o2,o3,o4⟩:=ok x hx
  rw[decide_eq_decide.mpr (show x.1∈(rng n).filter (fun v=>decide (f v∈L))↔f x.1∈L from⟨fun z=>((m _).mp z).2,fun z=>(m _).mpr ⟨⟨o1,by lia⟩,z⟩⟩),decide_eq_decide.mpr (show x.2.1∈(rng n).filter (fun v=>decide (f v∈L))↔f x.2.1∈L from⟨fun z=>((m _).mp z).2,fun z=>(m _).mpr ⟨⟨by lia,o3⟩,z⟩⟩)]
structure LeastR(n:Nat)(ties:List Tie)(ps:List Int)(m:Int):Prop where
 some:∃ h,RowF n ps h/\wf ties (two h)=m
 all:∀ h,RowF n ps h->m<=wf ties (two h)
theorem LeastR.uniq{m m':Int}(a:LeastR n ties ps m)(b:LeastR n ties ps m'):m=m':=by
 obtain⟨h,r,e⟩:=a.some
 obtain⟨h',r',e'⟩:=b.some
 have:=a.all _ r'
 have:=b.all _ r
 lia
theorem LeastR.same{m:Int}{ps':List Int}(a:LeastR n ties ps m)(e:∀ p,p∈ps↔p∈ps'):LeastR n ties ps' m:=by
 have rw1:∀ {ps ps':List Int}{h},(∀ p,p∈ps↔p∈ps')->RowF n ps h->RowF n ps' h:=fun e r=>⟨fun p hp=>r.fix p ((e p).mpr hp),fun v a b=>(e _).mp (r.inn v a b)⟩
 obtain⟨h,r,q⟩:=a.some
 exact⟨⟨h,rw1 e r,q⟩,fun h r=>a.all h (rw1 (fun p=>(e p).symm) r)⟩
theorem LeastR.less{m:Int}(ok:∀ x∈ties,TOk n x)(N:NmF n k ps f)(M:MrgF f ties tl)(G:Good n ties ps f k tl)(a:LeastR n ties ps m):LeastR k tl (ps.map f) m:=by
 have low:∀ h,RowF k (ps.map f) h->m<=wf tl (two h):=fun h r=>by
  obtain⟨r',e⟩:=row_back ok N M r
  rw[<- e]
  exact a.all _ r'
 obtain⟨h,r,e⟩:=a.some
 obtain⟨h',r',c⟩:=G h r
 have:=low _ r'
 exact⟨⟨h',r',by lia⟩,low⟩
theorem single_same(ok:∀ x∈ties,TOk n x)(okl:∀ x∈tl,TOk k x)(N:NmF n k ps f)(M:MrgF f ties tl)(G:GoodS n ties ps f k tl){q:Int}(hq:q∈ps){am am' T T':List Int}(hT:∀ v,v∈T↔v∈ps.filter fun o=>!decide (o=q))(hT':∀ v,v∈T'↔v∈(ps.filter fun o=>!decide (o=q)).map f)(E:Ends n [q] T)(E':Ends k [f q] T')(A:Great n ties [q] T am)(A':Great k tl [f q] T' am'):val ties am [q]=val tl am' [f q]:=by
 have s1:=side_keys ok E A
 have s2:=side_keys okl E' A'
 have v1:=val_side ok E A
 have v2:=val_side okl E' A'
 obtain⟨L',S',c⟩:=G q hq _ ⟨s1.nd,s1.sub,fun v hv z=>s1.no v hv ((hT v).mpr z),s1.rg⟩
 have l2:=side_le okl E' A' ⟨S'.nd,S'.sub,fun v hv z=>S'.no v hv ((hT' v).mp z),S'.rg⟩
 obtain⟨S,e⟩:=side_back ok N M hq ⟨s2.nd,s2.sub,fun v hv z=>s2.no v hv ((hT' v).mpr z),s2.rg⟩
 have l1:=side_le ok E A ⟨S.nd,S.sub,fun v hv z=>S.no v hv ((hT v).mp z),S.rg⟩
 lia
end
end Shk
namespace L2
open PySem PySem.W PyProof.Rows
theorem sl_listK{X:Cx}(K:PySem.W.Frag)(e:X.K=K):SlR X (rSlL K):=e▸sl_list
theorem cutV_frm(xs:List V)(j:Nat):cutV xs (some (j:Int)) none=xs.drop j:=by
 unfold cutV
 rw[HT.sIx_nat,HT.sIx_none]
 by_cases h:j<=xs.length
 ·rw[Nat.min_eq_left h,List.take_of_length_le (by rw[List.length_drop];lia)]
 ·rw[Nat.min_eq_right (by lia),List.drop_length,List.take_nil,List.drop_of_length_le (by lia)]
theorem cutV_til(xs:List V)(j:Nat):cutV xs none (some (j:Int))=xs.take j:=by
 unfold cutV
 rw[HT.sIx_nat,HT.sIx_none,List.drop_zero,Nat.sub_zero]
 by_cases h:j<=xs.length
 ·rw[Nat.min_eq_left h]
 ·rw[Nat.min_eq_right (by lia),List.take_length,List.take_of_length_le (by lia)]
end L2
namespace K23
open PySem L2 PyProof.Rows
noncomputable def LsAt(H:Hp)(as:List Addr)(ks:List (List Int)):Prop:=Paired (fun a k=>H a=some (.lst (k.map V.int))) as ks
theorem LsAt.same{H H':Hp}{as:List Addr}{ks:List (List Int)}(h:LsAt H as ks)(s:Same H H'):LsAt H' as ks:=Paired.mapP h fun _ _ e=>s _ _ e
theorem LsAt.upd{H:Hp}{as:List Addr}{ks:List (List Int)}{p:Addr}{o:HO}(h:LsAt H as ks)(ne:∀ a∈as,a≠p):LsAt (upd H p o) as ks:=by
 induction h with
 |nil=>exact .nil
 | @cons a k l1 l2 r _ ih=>exact .cons (by rw[upd_ne (ne a (List.mem_cons_self ..))];exact r) (ih fun b hb=>ne b (List.mem_cons_of_mem _ hb))
theorem PairedAppL{α β:Type}{F:α->β->Prop}{l₁ m₁:List α}{l₂ m₂:List β}(a:Paired F l₁ l₂)(b:Paired F m₁ m₂):Paired F (l₁++m₁) (l₂++m₂):=PairedApp a b
noncomputable def ext(ps:List Int)(v:Nat)(r:List Int):List (List Int):=ps.map fun p=>r.set v p
theorem set_cut{r:List Int}{v:Nat}{p:Int}(h:v<r.length):(r.map V.int).take v++[V.int p]++(r.map V.int).drop (v+1)=(r.set v p).map V.int:=by
 rw[List.set_eq_take_append_cons_drop,if_pos h,List.map_append,List.map_take,List.map_cons,List.map_drop,List.append_assoc]
 rfl
theorem nm_set{r:List Int}{v:Nat}{p u:Int}(h:v<r.length)(u0:0<=u):nmAt (r.set v p) u=if u=(v:Int)then p else nmAt r u:=by
 obtain⟨j,rfl⟩:∃ j:Nat,u=(j:Int):=⟨u.toNat,by lia⟩
 unfold nmAt
 rw[Int.toNat_natCast,List.getD_eq_getElem?_getD,List.getD_eq_getElem?_getD,List.getElem?_set]
 by_cases c:v=j
 ·rw[if_pos c]
  have e:(j:Int)=(v:Int):=by lia
  rw[if_pos e]
  first | rfl |(rw[if_pos h];rfl)
 ·rw[if_neg c,if_neg (by lia)]
structure RowsI(n:Nat)(ps:List Int)(fr:List Int)(rs:List (List Int)):Prop where
 sound:∀ r∈rs,r.length=n/\Shk.RowF n ps (nmAt r)
 all:∀ h,Shk.RowF n ps h->∃ r∈rs,∀ v∈fr,nmAt r v=h v
 few:rs.length<=7 ^ fr.length
theorem ext_len(ps:List Int)(v:Nat)(p7:ps.length<=7):∀ rs:List (List Int),(rs.flatMap (ext ps v)).length<=rs.length * 7
 |[]=>Nat.le_refl _
 |r :: rs=>by
  have i:=ext_len ps v p7 rs
  rw[List.flatMap_cons,List.length_append,List.length_cons]
  have:(ext ps v r).length=ps.length:=List.length_map _
  lia
theorem RowsI.step{n:Nat}{ps fr:List Int}{rs:List (List Int)}(R:RowsI n ps fr rs){v:Nat}(hv:v<n)(nv:(v:Int)∉ps)(p7:ps.length<=7)(pr:∀ p∈ps,0<=p/\p<n)(nn:∀ u∈fr,0<=u):RowsI n ps (fr++[(v:Int)]) (rs.flatMap (ext ps v)):=by
 refine⟨fun r hr=>?_,fun h hh=>?_,?_⟩
 ·obtain⟨r0,h0,hr⟩:=List.mem_flatMap.mp hr
  obtain⟨p,hp,rfl⟩:=List.mem_map.mp hr
  obtain⟨l,rf⟩:=R.sound r0 h0
  refine⟨by rw[List.length_set,l],fun q hq=>?_,fun u u0 u1=>?_⟩
  ·rw[nm_set (by lia) (pr q hq).1,if_neg (fun z=>nv (by rw[<- z];exact hq)),rf.fix q hq]
  ·rw[nm_set (by lia) u0]
   split
   ·exact hp
   ·exact rf.inn u u0 u1
 ·obtain⟨r,hr,e⟩:=R.all h hh
  obtain⟨l,rf⟩:=R.sound r hr
  refine⟨r.set v (h v),List.mem_flatMap.mpr ⟨r,hr,List.mem_map.mpr ⟨h v,hh.inn v (by lia) (by lia),rfl⟩⟩,fun u hu=>?_⟩
  have u0:0<=u:=by
   rcases List.mem_append.mp hu with z | z
   ·exact nn u z
   ·rw[List.mem_singleton.mp z];lia
  rw[nm_set (by lia) u0]
  by_cases c:u=(v:Int)
  ·rw[if_pos c,c]
  ·rw[if_neg c]
   rcases List.mem_append.mp hu with z | z
   ·exact e u z
   ·exact absurd (List.mem_singleton.mp z) c
 ·have:=ext_len ps v p7 rs
  have:=R.few
  rw[List.length_append,List.length_singleton,Nat.pow_succ]
  lia
noncomputable def rowC(ties:List Tie)(r:List Int):Int:=Flw.wf ties (Flw.two (nmAt r))
theorem RowsI.least{n:Nat}{ps fr:List Int}{ties:List Tie}{rs:List (List Int)}(R:RowsI n ps fr rs)(ok:∀ x∈ties,TieOk n x)(full:∀ v:Int,0<=v->v<n->v∈ps\/v∈fr){m:Int}(hm:m∈rs.map (rowC ties))(hl:∀ a∈rs.map (rowC ties),m<=a):Shk.LeastR n ties ps m:=by
 obtain⟨r,hr,e⟩:=List.mem_map.mp hm
 refine⟨⟨nmAt r,(R.sound r hr).2,e⟩,fun h hh=>?_⟩
 obtain⟨r',hr',e'⟩:=R.all h hh
 have rf:=(R.sound r' hr').2
 have eq:∀ v:Int,0<=v->v<n->nmAt r' v=h v:=fun v v0 v1=>by
  rcases full v v0 v1 with z | z
  ·rw[rf.fix v z,hh.fix v z]
  ·exact e' v z
 have:=hl _ (List.mem_map.mpr ⟨r',hr',rfl⟩)
 have c:rowC ties r'=Flw.wf ties (Flw.two h):=Flw.wf_congr fun x hx=>by
  obtain⟨o1,o2,o3,o4⟩:=ok x hx
  unfold Flw.two
  rw[eq x.1 o1 (by lia),eq x.2.1 (by lia) o3]
 lia
noncomputable def bas(n:Nat)(ps:List Int):List Int:=(upto n).map fun v=>if v∈ps then v else ps.headD 0
theorem base_at{n:Nat}{ps:List Int}{v:Int}(v0:0<=v)(v1:v<n):nmAt (bas n ps) v=if v∈ps then v else ps.headD 0:=by
 obtain⟨j,rfl⟩:∃ j:Nat,v=(j:Int):=⟨v.toNat,by lia⟩
 obtain⟨h,e⟩:=upto_get (n:=n) (i:=j) (by lia)
 unfold nmAt bas
 rw[Int.toNat_natCast,List.getD_eq_getElem?_getD,List.getElem?_map,List.getElem?_eq_getElem h,e]
 rfl
theorem head_mem{ps:List Int}(h:1<=ps.length):ps.headD 0∈ps:=by
 cases ps with
 |nil=>exact absurd h (by decide)
 |cons x r=>exact List.mem_cons_self ..
theorem rows_start{n:Nat}{ps:List Int}(h:1<=ps.length)(pr:∀ p∈ps,0<=p/\p<n):RowsI n ps [] [bas n ps]:=by
 refine⟨fun r hr=>?_,fun h _=>⟨_,List.mem_singleton.mpr rfl,fun v hv=>nomatch hv⟩,Nat.le_refl _⟩
 rw[List.mem_singleton.mp hr]
 refine⟨by unfold bas;rw[List.length_map,upto_len],fun p hp=>?_,fun v v0 v1=>?_⟩
 ·rw[base_at (pr p hp).1 (pr p hp).2,if_pos hp]
 ·rw[base_at v0 v1]
  split
  ·assumption
  ·exact head_mem h
noncomputable def frees(n:Nat)(ps:List Int):List Int:=(upto n).filter fun v=>!decide (v∈ps)
noncomputable def spLe:Sp:=fun vs H Q _=>∃ (t q:Addr) (n:Nat) (ties:List Tie) (ps:List Int),vs=[.ref t,.ref q]/\WebAt H t n ties/\(∀ x∈ties,TieOk n x)/\n<=7/\H q=some (.lst (ps.map V.int))/\1<=ps.length/\ps.length<=7/\(∀ p∈ps,0<=p/\p<n) /\
 ∀ (m:Int) (H':Hp),Shk.LeastR n ties ps m->Same H H'->Q (.int m) H'
theorem at0{x:V}{r:List V}:atI (x :: r) 0=some x:=atI_nat (j:=0) rfl
theorem head_at{ps:List Int}(h:1<=ps.length):atI (ps.map V.int) 0=some (V.int (ps.headD 0)):=by
 cases ps with
 |nil=>exact absurd h (by decide)
 |cons x r=>exact atI_nat (j:=0) rfl
section
variable{P:Program}{w:World}{K:PySem.W.Frag}{mg:Str->Option Value}{base:Heap}
noncomputable abbrev nLe:List Str:=["_law_web_here","_law_posts_here","_law_rows","_law_place","_law_longer","_law_row"]
theorem scLe:FnScope nLe ["_law_web_here","_law_posts_here"] (defScope sLeast):=⟨rfl,rfl,rfl,by decide +kernel,rfl,by decide +kernel,by decide +kernel⟩
theorem csLe1:CompScope ["_law_place","_law_posts_here"] [none,some 1] nLe (defScope sLeast) (scO [(".0",.local),("_law_place",.local),("_law_posts_here",.free)]):=⟨rfl,by decide +kernel,by decide +kernel,by decide +kernel,rfl,capB_ok (by decide +kernel)⟩
theorem ndLe1:(["_law_place","_law_posts_here"]:List Str).Nodup:=by decide +kernel
theorem csLe2:CompScope ["_law_place","_law_posts_here"] [none,some 1] nLe (defScope sLeast) (scO [(".0",.local),("_law_place",.local),("_law_posts_here",.free)]):=⟨rfl,by decide +kernel,by decide +kernel,by decide +kernel,rfl,capB_ok (by decide +kernel)⟩
theorem ndLe2:(["_law_place","_law_posts_here"]:List Str).Nodup:=by decide +kernel
theorem csLe3:CompScope ["_law_post","_law_row","_law_place"] [none,some 5,some 3] nLe (defScope sLeast) (scO [(".0",.local),("_law_post",.local),("_law_place",.free),("_law_row",.free)]):=⟨rfl,by decide +kernel,by decide +kernel,by decide +kernel,rfl,capB_ok (by decide +kernel)⟩
theorem ndLe3:(["_law_post","_law_row","_law_place"]:List Str).Nodup:=by decide +kernel
theorem csLe4:CellScope "_law_row" ["_law_row","_law_web_here"] [none,some 0] nLe (defScope sLeast) (scO [(".0",.local),("_law_row",.cell),("sum",.globalImplicit),("_law_web_here",.free)]):=⟨rfl,fun _ _=>rfl,fun _=>rfl,by decide +kernel,by decide +kernel,by decide +kernel,by decide +kernel,rfl,capB_ok (by decide +kernel)⟩
theorem ndLe4:(["_law_row","_law_web_here"]:List Str).Nodup:=by decide +kernel
theorem csLe5:CompScope ["_law_a","_law_b","_law_weight_here","_law_row"] [none,none,none,some 0] ["_law_row","_law_web_here"] (scO [(".0",.local),("_law_row",.cell),("sum",.globalImplicit),("_law_web_here",.cell)]) (scO [(".0",.local),("_law_a",.local),("_law_b",.local),("_law_weight_here",.local),("_law_row",.free)]):=⟨rfl,by decide +kernel,by decide +kernel,by decide +kernel,rfl,capB_ok (by decide +kernel)⟩
theorem ndLe5:(["_law_a","_law_b","_law_weight_here","_law_row"]:List Str).Nodup:=by decide +kernel
noncomputable abbrev teLe5(K:PySem.W.Frag):TE:=tComp [none,none,none,some 0] (iTup K (tOp rIxTh (tVar 1) (tC (.int 1)))) (gTup K 3 (gCons (gName 0) (gCons (gName 1) (gCons (gName 2) gNil)))) (tTest (tOp rNe (tOp rIxLh (tVar 3) (tVar 0)) (tOp rIxLh (tVar 3) (tVar 1)))) (tVar 2)
theorem ok_le{f:Addr}{fd:FuncData}(F:Fun K "_law_least" "_law_least" sLeast f fd)(T:Txt mg):FnOk P w K mg base CX0 1 f fd ["_law_web_here","_law_posts_here"] spLe:=by
 refine F.ok scLe (fun vs H Q E h=>?_) (fun cdv A outer s H vs Q E hr h=>?_)
 ·obtain⟨t,q,n,ties,ps,rfl,_⟩:=h
  rfl
 ·obtain⟨t,q,n,ties,ps,rfl,W,ok,n7,hq,p1,p7,pr,fin⟩:=h
  obtain⟨⟨ts,bs,h1,h2,h3⟩,len⟩:=id W
  have h3l:bs.length=ties.length:=h3.length
  refine⟨_,(pss_cons (ps_set (i:=2) scLe.nd rfl (Or.inl rfl) (@pe_lst _ _ _ _ (@pa_comp _ _ _ _ _ _ _ _ (pe_comp rfl csLe1 (pi_range1 rfl T.range (@pa_sub _ _ _ _ _ _ _ (@pe_ix _ _ _ _ _ _ _ ix_tupH (pv 0) pe_int (fun _ _=>rfl)) pa_nil)) (fun C s H fp=>(pg_name (i:=0) ndLe1 rfl (Or.inl rfl))) (fun C s H fp=>pf_nil) (fun C s H fp=>(pe_ifExp (pt_cmpR op_inH (pv 0) (pv 1) rfl) (pv 0) (@pe_ix _ _ _ _ _ _ _ ix_listH (pv 1) pe_int (fun _ _=>rfl))))) pa_nil)))
   (pss_cons (ps_for PassesOwn.never rfl (pi_list (pe_comp rfl csLe2 (pi_range1 rfl T.range (@pa_sub _ _ _ _ _ _ _ (@pe_ix _ _ _ _ _ _ _ ix_tupH (pv 0) pe_int (fun _ _=>rfl)) pa_nil)) (fun C s H fp=>(pg_name (i:=0) ndLe2 rfl (Or.inl rfl))) (fun C s H fp=>(pf_one (pt_cmpR op_notInH (pv 0) (pv 1) rfl))) (fun C s H fp=>(pv 0)))) (pg_name (i:=3) scLe.nd rfl (Or.inr rfl))
   (pss_cons (ps_set (i:=4) scLe.nd rfl (Or.inl rfl) (@pe_lst _ _ _ _ pa_nil))
   (pss_cons (ps_for PassesOwn.never rfl (pi_list (pv 2)) (pg_name (i:=5) scLe.nd rfl (Or.inr rfl))
   (pss_one (ps_expr (pe_bmH PySem.F.slot_list_extend PySem.F.type_list_extend mt_extend (pv 4) (@pa_comp _ _ _ _ _ _ _ _ (pe_comp rfl csLe3 (pi_list (pv 1)) (fun C s H fp=>(pg_name (i:=0) ndLe3 rfl (Or.inl rfl))) (fun C s H fp=>pf_nil) (fun C s H fp=>(pe_op op_cat (pe_op op_cat (pe_slice (sl_listK K rfl) (pv 1) po_none (po_some (pv 2))) (@pe_lst _ _ _ _ (@pa_nam _ _ _ _ _ _ (pv 0) pa_nil))) (pe_slice (sl_listK K rfl) (pv 1) (po_some (pe_op op_add (pv 2) pe_int)) po_none)))) pa_nil)))))
   (pss_one (ps_set (i:=2) scLe.nd rfl (Or.inl rfl) (pv 4))))))
   (pss_one (ps_ret (pe_callB (call_minLH rfl) (by rfl) T.min boot_min (@pa_comp _ _ _ _ _ _ _ _ (pe_compC rfl csLe4 (pi_list (pv 2)) (fun C s H fp=>(pg_name (i:=0) ndLe4 rfl (Or.inr rfl) (Or.inl (by rfl)))) (fun C s H fp=>pf_nil) (fun C s H fp=>(pe_callB (call_sumH rfl) (by rfl) T.sum boot_sum (@pa_comp _ _ _ _ _ _ _ _ (show PE _ _ (teLe5 K)from pe_comp rfl csLe5 (pi_tup (@pe_ix _ _ _ _ _ _ _ ix_tupH (pv 1) pe_int (fun _ _=>rfl))) (fun C s H fp=>(pg_tupK K rfl (n:=3) rfl (pgs_cons (pg_name (i:=0) ndLe5 rfl (Or.inl rfl)) (pgs_cons (pg_name (i:=1) ndLe5 rfl (Or.inl rfl)) (pgs_cons (pg_name (i:=2) ndLe5 rfl (Or.inl rfl)) pgs_nil))) rfl rfl)) (fun C s H fp=>(pf_one (pt_cmpR op_ne (@pe_ix _ _ _ _ _ _ _ ix_listH (pv 3) (pv 0) (fun _ _=>rfl)) (@pe_ix _ _ _ _ _ _ _ ix_listH (pv 3) (pv 1) (fun _ _=>rfl)) (nomark _)))) (fun C s H fp=>(pv 2))) pa_nil)))) pa_nil)))))),?_⟩
  refine⟨_,rfl,t,_,_,_,rfl,rfl,h1,rfl,_,rfl,by lia,by lia,?_⟩
  rw[show((n:Int)).toNat=n by lia]
  refine comp_range (lo:=0) (n:=n) (fun i ys G=>Same H G/\ys=((upto i).map fun v=>if v∈ps then v else ps.headD 0).map V.int) (by rw[sizeLine_eq];lia) ⟨Same.refl _,rfl⟩ ?_ ?_
  ·rintro v ys G hv ⟨sG,rfl⟩
   have e:upto (v+1)=upto v++[(v:Int)]:=by unfold upto;rw[List.range_succ,List.map_append];rfl
   rw[e,List.map_append,List.map_append,show(0:Int)+(v:Int)=(v:Int)from Int.zero_add _]
   refine⟨⟨rfl,trivial⟩,tTru_if ⟨_,rfl,_,rfl,q,_,rfl,sG _ _ hq,rfl,flat_ints _,_,rfl,ite2 (fun hc=>?_) (fun hc=>?_)⟩⟩
   ·have hm:(v:Int)∈ps:=by
     have:inV (V.int (v:Int)) (ps.map V.int)=true:=hc
     rw[inV_ints]at this
     exact List.contains_iff_mem.mp this
    refine⟨_,rfl,sG,?_⟩
    show _=_++[V.int (if(v:Int)∈ps then(v:Int)else ps.headD 0)]
    rw[if_pos hm]
   ·have hm:(v:Int)∉ps:=fun z=>hc (by show inV (V.int (v:Int)) (ps.map V.int)=true;rw[inV_ints];exact List.contains_iff_mem.mpr z)
    refine⟨_,rfl,q,_,_,_,rfl,rfl,sG _ _ hq,head_at p1,sG,?_⟩
    show _=_++[V.int (if(v:Int)∈ps then(v:Int)else ps.headD 0)]
    rw[if_neg hm]
  rintro ys G yl ⟨sG,rfl⟩ D hD
  have eB:((upto n).map fun v=>if v∈ps then v else ps.headD 0)=bas n ps:=rfl
  rw[eB]
  have s1:=sG.trans (Same.new (o:=.lst ((bas n ps).map V.int)) hD)
  have gD:(upd G D (.lst ((bas n ps).map V.int))) D=some (.lst ((bas n ps).map V.int)):=upd_same
  generalize (upd G D (.lst ((bas n ps).map V.int)))=H1 at s1 gD
  refine⟨(by show 1<=sizeLine;decide),fun rl hrl=>?_⟩
  have s2:=s1.trans (Same.new (o:=.lst [V.ref D]) hrl)
  have grl:(upd H1 rl (.lst [V.ref D])) rl=some (.lst [V.ref D]):=upd_same
  have gD2:=(Same.new (o:=.lst [V.ref D]) hrl) _ _ gD
  generalize (upd H1 rl (.lst [V.ref D]))=H2 at s2 grl gD2
  clear s1 gD
  refine⟨_,rfl,t,_,_,_,rfl,rfl,s2 _ _ h1,rfl,_,rfl,by lia,by lia,?_⟩
  rw[show((n:Int)).toNat=n by lia]
  refine comp_range (lo:=0) (n:=n) (fun i ys G=>Same H2 G/\ys=(frees i ps).map V.int) (by rw[sizeLine_eq];lia) ⟨Same.refl _,rfl⟩ ?_ ?_
  ·rintro v ys G hv ⟨sG,rfl⟩
   have e:upto (v+1)=upto v++[(v:Int)]:=by unfold upto;rw[List.range_succ,List.map_append];rfl
   unfold frees
   rw[e,List.filter_append,List.map_append,show(0:Int)+(v:Int)=(v:Int)from Int.zero_add _]
   refine⟨⟨rfl,trivial⟩,_,rfl,_,rfl,q,_,rfl,sG _ _ (s2 _ _ hq),rfl,flat_ints _,_,rfl,ite2 (fun hc=>?_) (fun hc=>?_)⟩
   ·have hm:(v:Int)∉ps:=fun z=>by
     have:(!inV (V.int (v:Int)) (ps.map V.int))=true:=hc
     rw[inV_ints,List.contains_iff_mem.mpr z]at this
     cases this
    refine⟨_,rfl,sG,?_⟩
    rw[List.filter_cons_of_pos (by rw[decide_eq_false hm];rfl),List.filter_nil]
    rfl
   ·have hm:(v:Int)∈ps:=by
     have c:¬(!inV (V.int (v:Int)) (ps.map V.int))=true:=hc
     rw[inV_ints]at c
     cases e:ps.contains (v:Int)with
     |true=>exact List.contains_iff_mem.mp e
     |false=>rw[e]at c;exact absurd rfl c
    refine⟨sG,?_⟩
    rw[List.filter_cons_of_neg (by rw[decide_eq_true hm];decide),List.filter_nil,List.map_nil,List.append_nil]
  rintro ys G3 yl3 ⟨sG3,rfl⟩ fl hfl
  have s3:=sG3.trans (Same.new (o:=.lst ((frees n ps).map V.int)) hfl)
  have gfl:(upd G3 fl (.lst ((frees n ps).map V.int))) fl=some (.lst ((frees n ps).map V.int)):=upd_same
  generalize (upd G3 fl (.lst ((frees n ps).map V.int)))=H4 at s3 gfl
  have fl7:(frees n ps).length<=7:=by
   have:=List.length_filter_le (fun v=>!decide (v∈ps)) (upto n)
   rw[upto_len]at this
   exact Nat.le_trans this n7
  have frm:∀ v∈frees n ps,(0<=v/\v<n)/\v∉ps:=fun v hv=>by
   obtain⟨a,b⟩:=List.mem_filter.mp hv
   refine⟨mem_uptoI.mp a,fun z=>?_⟩
   rw[decide_eq_true z]at b
   cases b
  have full:∀ v:Int,0<=v->v<n->v∈ps\/v∈frees n ps:=fun v v0 v1=>by
   by_cases c:v∈ps
   ·exact .inl c
   ·exact .inr (List.mem_filter.mpr ⟨mem_uptoI.mpr ⟨v0,v1⟩,by rw[decide_eq_false c];rfl⟩)
  have s4:=s2.trans s3
  generalize frees n ps=fr at *
  have pow:∀ i,i<=7->7 ^ i<=823543:=fun i hi=>Nat.le_trans (Nat.pow_le_pow_right (by decide) hi) (by decide)
  refine⟨fl,rfl,⟨_,SqL.of gfl⟩,?_⟩
  refine for_list (K:=K) (a:=fl) (xs:=fr.map V.int) (fun i σ G=>∃ (rl:Addr) (as:List Addr) (rs:List (List Int)) (v3 v4 v5:Option V),σ=[some (.ref t),some (.ref q),some (.ref rl),v3,v4,v5]/\Same H4 G/\G rl=some (.lst (as.map V.ref))/\LsAt G as rs/\RowsI n ps (fr.take i) rs) ⟨rl,[D],[bas n ps],_,_,_,rfl,Same.refl _,s3 _ _ grl,.cons (s3 _ _ gD2) .nil,by rw[List.take_zero];exact rows_start p1 pr⟩ (fun i σ G _ z=>by obtain⟨_,_,_,_,_,_,_,s,_⟩:=z;exact SqL.of (s _ _ gfl)) ?_ ?_
  ·rintro i x σ G hx ⟨rl,as,rs,v3,v4,v5,rfl,sG,grl,hL,R⟩
   obtain⟨il,e⟩:=List.getElem?_eq_some_iff.mp hx
   rw[List.length_map]at il
   rw[List.getElem_map]at e
   subst e
   obtain⟨⟨v0,v1⟩,nv⟩:=frm _ (List.getElem_mem il)
   have nn:∀ u∈fr.take i,0<=u:=fun u hu=>(frm u (List.mem_of_mem_take hu)).1.1
   rw[List.take_succ_eq_append_getElem il]
   obtain⟨v,ev⟩:∃ v:Nat,fr[i]=(v:Int):=⟨fr[i].toNat,by lia⟩
   rw[ev]at v0 v1 nv ⊢
   have al:as.length=rs.length:=Paired.length hL
   have few:=R.few
   have ti:(fr.take i).length=i:=by rw[List.length_take];lia
   rw[ti]at few
   have pw6:=pow i (by lia)
   have R2:=R.step (v:=v) (by lia) nv p7 pr nn
   refine⟨(by show 0<=sizeLine;decide),fun lo hlo=>?_⟩
   have lo0:G lo=none:=hlo
   have grl2:=(Same.new (o:=.lst []) hlo) _ _ grl
   refine⟨_,rfl,rl,rfl,⟨_,SqL.of grl2⟩,?_⟩
   refine for_list (K:=K) (a:=rl) (xs:=as.map V.ref) (fun j σ G2=>∃ (bs:List Addr) (v5:Option V),σ=[some (.ref t),some (.ref q),some (.ref rl),some (.int (v:Int)),some (.ref lo),v5]/\Same G G2/\G2 lo=some (.lst (bs.map V.ref))/\LsAt G2 bs ((rs.take j).flatMap (ext ps v))/\∀ b∈bs,b≠lo) ⟨[],_,rfl,Same.new hlo,upd_same,.nil,fun _ h=>nomatch h⟩ (fun j σ G2 _ z=>by obtain⟨_,_,_,s,_⟩:=z;exact SqL.of (s _ _ grl)) ?_ ?_
   ·rintro j x σ G2 hx2 ⟨bs,v5,rfl,s2',glo,hB,nb⟩
    obtain⟨jl,e⟩:=List.getElem?_eq_some_iff.mp hx2
    rw[List.length_map]at jl
    rw[List.getElem_map]at e
    subst e
    have jr:j<rs.length:=by lia
    have ga:=s2' _ _ (Paired.at hL j jl jr)
    have rlen:=(R.sound _ (List.getElem_mem jr)).1
    have gq:=s2' _ _ (sG _ _ (s4 _ _ hq))
    refine⟨_,rfl,⟨_,_,rfl,glo⟩,_,rfl,q,rfl,⟨_,SqL.of gq⟩,?_⟩
    refine comp_list (K:=K) (a:=q) (xs:=ps.map V.int) (fun i ys G3=>Same G2 G3/\∃ cs:List Addr,ys=cs.map V.ref/\LsAt G3 cs ((ps.take i).map fun p=>rs[j].set v p)/\∀ c∈cs,G2 c=none) (by rw[List.length_map,sizeLine_eq];lia) ⟨Same.refl _,[],rfl,.nil,fun _ h=>nomatch h⟩ (fun i ys G3 _ z=>SqL.of (z.1 _ _ gq)) ?_ ?_
    ·rintro i x ys G3 hx3 ⟨s3',cs,rfl,hC,fc⟩
     obtain⟨il3,e⟩:=List.getElem?_eq_some_iff.mp hx3
     rw[List.length_map]at il3
     rw[List.getElem_map]at e
     subst e
     have ga3:=s3' _ _ ga
     refine⟨⟨rfl,rfl,trivial⟩,tTru_if ⟨_,rfl,_,rfl,_,rfl,as[j],_,rfl,SqL.of ga3,fun l1 hl1=>?_⟩⟩
     rw[cutV_til]
     have s31:=Same.new (o:=.lst ((rs[j].map V.int).take v)) hl1
     have g1:(L2.upd G3 l1 (.lst ((rs[j].map V.int).take v))) l1=some (.lst ((rs[j].map V.int).take v)):=upd_same
     generalize (L2.upd G3 l1 (.lst ((rs[j].map V.int).take v)))=G4 at s31 g1
     refine⟨_,rfl,(by show 1<=sizeLine;decide),fun l2 hl2=>?_⟩
     have s42:=Same.new (o:=.lst [V.int ps[i]]) hl2
     have g2:(L2.upd G4 l2 (.lst [V.int ps[i]])) l2=some (.lst [V.int ps[i]]):=upd_same
     have g1':=s42 _ _ g1
     generalize (L2.upd G4 l2 (.lst [V.int ps[i]]))=G5 at s42 g2 g1'
     have tl:((rs[j].map V.int).take v).length<=7:=by rw[List.length_take,List.length_map];lia
     refine⟨l1,l2,_,_,rfl,rfl,g1',g2,by rw[sizeLine_eq];show _+1<=_;lia,fun l3 hl3=>?_⟩
     have s53:=Same.new (o:=.lst ((rs[j].map V.int).take v++[V.int ps[i]])) hl3
     have g3:(L2.upd G5 l3 (.lst ((rs[j].map V.int).take v++[V.int ps[i]]))) l3=some (.lst ((rs[j].map V.int).take v++[V.int ps[i]])):=upd_same
     generalize (L2.upd G5 l3 (.lst ((rs[j].map V.int).take v++[V.int ps[i]])))=G6 at s53 g3
     have s36:=s31.trans (s42.trans s53)
     refine⟨_,rfl,_,rfl,_,_,rfl,rfl,_,rfl,as[j],_,rfl,SqL.of (s36 _ _ ga3),fun l4 hl4=>?_⟩
     have ec:cutV (rs[j].map V.int) (some ((v:Int)+1)) none=(rs[j].map V.int).drop (v+1):=cutV_frm _ (v+1)
     rw[ec]
     have s64:=Same.new (o:=.lst ((rs[j].map V.int).drop (v+1))) hl4
     have g4:(L2.upd G6 l4 (.lst ((rs[j].map V.int).drop (v+1)))) l4=some (.lst ((rs[j].map V.int).drop (v+1))):=upd_same
     have g3':=s64 _ _ g3
     generalize (L2.upd G6 l4 (.lst ((rs[j].map V.int).drop (v+1))))=G7 at s64 g4 g3'
     have dl:((rs[j].map V.int).drop (v+1)).length<=7:=by rw[List.length_drop,List.length_map];lia
     refine⟨l3,l4,_,_,rfl,rfl,g3',g4,by rw[sizeLine_eq,List.length_append];show _+1+_<=_;lia,fun l5 hl5=>?_⟩
     have s37:=s36.trans (s64.trans (Same.new (o:=.lst ((rs[j].map V.int).take v++[V.int ps[i]]++(rs[j].map V.int).drop (v+1))) hl5))
     refine⟨s3'.trans s37,cs++[l5],by rw[List.map_append];rfl,?_,fun c hc=>?_⟩
     ·rw[List.take_succ_eq_append_getElem il3,List.map_append]
      refine Paired.snoc (hC.same s37) ?_
      rw[upd_same,set_cut (by lia)]
     ·rcases List.mem_append.mp hc with z | z
      ·exact fc c z
      ·rw[List.mem_singleton.mp z]
       exact(s3'.trans (s36.trans s64)).free hl5
    ·rintro ys G3 yl3 ⟨s3',cs,rfl,hC,fc⟩ cl hcl
     rw[List.length_map,List.take_length]at hC
     have hCe:LsAt G3 cs (ext ps v rs[j]):=hC
     have sC:=Same.new (o:=.lst (cs.map V.ref)) hcl
     have gcl:(L2.upd G3 cl (.lst (cs.map V.ref))) cl=some (.lst (cs.map V.ref)):=upd_same
     have sG2:=s3'.trans sC
     have hB3:=hB.same sG2
     have hC3:=hCe.same sC
     have glo3:=sG2 _ _ glo
     have lolen:bs.length<=823543 * 7:=by
      have e1:bs.length=((rs.take j).flatMap (ext ps v)).length:=Paired.length hB
      have e2:=ext_len ps v p7 (rs.take j)
      have e3:(rs.take j).length<=rs.length:=by rw[List.length_take];lia
      lia
     have clen:cs.length<=7:=by
      have e1:cs.length=(ext ps v rs[j]).length:=Paired.length hCe
      have e2:(ext ps v rs[j]).length=ps.length:=List.length_map _
      lia
     generalize (L2.upd G3 cl (.lst (cs.map V.ref)))=G4 at gcl sG2 hB3 hC3 glo3
     refine⟨lo,cl,_,_,rfl,rfl,glo3,gcl,by rw[List.length_map,List.length_map,sizeLine_eq];lia,?_⟩
     have ncs:∀ c∈cs,c≠lo:=fun c hc z=>by
      have:=fc c hc
      rw[z,glo]at this
      cases this
     refine⟨bs++cs,_,rfl,fun b o e=>?_,by rw[upd_same,List.map_append],?_,fun b hb=>?_⟩
     ·rw[upd_ne (ne_of_none e lo0)]
      exact sG2 _ _ (s2' _ _ e)
     ·rw[List.take_succ_eq_append_getElem jr,List.flatMap_append]
      refine PairedAppL (hB3.upd nb) ?_
      have:[rs[j]].flatMap (ext ps v)=ext ps v rs[j]:=by simp
      rw[this]
      exact hC3.upd ncs
     ·rcases List.mem_append.mp hb with z | z
      ·exact nb b z
      ·exact ncs b z
   ·rintro σ G2 ⟨bs,v5,rfl,s2',glo,hB,nb⟩
    rw[List.length_map,al,List.take_length]at hB
    exact⟨_,rfl,lo,bs,_,_,_,_,rfl,sG.trans s2',glo,hB,R2⟩
  ·rintro σ G ⟨rl,as,rs,v3,v4,v5,rfl,sG,grl,hL,R⟩
   rw[List.length_map,List.take_length]at R
   have al:as.length=rs.length:=Paired.length hL
   have few:=R.few
   have pw6:=pow fr.length fl7
   have sH:=s4.trans sG
   refine⟨_,rfl,rl,rfl,⟨_,SqL.of grl⟩,?_⟩
   refine comp_list (K:=K) (a:=rl) (xs:=as.map V.ref) (fun i ys G2=>Same G G2/\ys=((rs.take i).map (rowC ties)).map V.int) (by rw[List.length_map,sizeLine_eq];lia) ⟨Same.refl _,rfl⟩ (fun i ys G2 _ z=>SqL.of (z.1 _ _ grl)) ?_ ?_
   ·rintro i x ys G2 hx ⟨s2',rfl⟩
    obtain⟨il,e⟩:=List.getElem?_eq_some_iff.mp hx
    rw[List.length_map]at il
    rw[List.getElem_map]at e
    subst e
    have ir:i<rs.length:=by lia
    have rlen:=(R.sound _ (List.getElem_mem ir)).1
    have ga:=s2' _ _ (Paired.at hL i il ir)
    have sH2:=sH.trans s2'
    have h12:=sH2 _ _ h1
    have h22:=sH2 _ _ h2
    have h32:Paired (fun a x=>G2 a=some (.tup (tieV x))) bs ties:=Paired.mapP h3 fun _ _ e=>sH2 _ _ e
    rw[List.take_succ_eq_append_getElem ir,List.map_append,List.map_append]
    generalize rs[i]=r at *
    refine⟨⟨rfl,trivial⟩,tTru_if ⟨_,rfl,t,_,_,_,rfl,rfl,h12,atI_nat (j:=1) rfl,ts,rfl,⟨_,SqT.of h22⟩,?_⟩⟩
    refine comp_tup (K:=K) (a:=ts) (xs:=bs.map V.ref) (fun k zs G3=>Same G2 G3/\zs=(((ties.take k).filter (Flw.two (nmAt r))).map fun x=>x.2.2).map V.int) (by rw[List.length_map,sizeLine_eq];lia) ⟨Same.refl _,rfl⟩ (fun k zs G3 _ z=>SqT.of (z.1 _ _ h22)) ?_ ?_
    ·rintro k x zs G3 hx3 ⟨s3',rfl⟩
     obtain⟨kl,e⟩:=List.getElem?_eq_some_iff.mp hx3
     rw[List.length_map]at kl
     rw[List.getElem_map]at e
     subst e
     have kt:k<ties.length:=by lia
     have hx:=s3' _ _ (Paired.at h32 k kl kt)
     obtain⟨o1,o2,o3,o4⟩:=ok _ (List.getElem_mem kt)
     rw[List.take_succ_eq_append_getElem kt,List.filter_append,List.map_append,List.map_append]
     refine⟨bs[k],_,rfl,SqT.of hx,rfl,_,_,rfl,_,_,rfl,_,_,rfl,rfl,⟨rfl,trivial⟩,?_⟩
     refine⟨_,rfl,_,rfl,as[i],_,_,_,rfl,rfl,s3' _ _ ga,(nmAt_get o1 (by lia)).1,_,rfl,_,rfl,as[i],_,_,_,rfl,rfl,s3' _ _ ga,(nmAt_get (by lia) (by lia)).1,rfl,_,rfl,ite2 (fun hc=>?_) (fun hc=>?_)⟩
     ·have ne:Flw.two (nmAt r) ties[k]=true:=decide_eq_true (fun z=>by rw[z]at hc;simp at hc)
      refine⟨_,rfl,s3',?_⟩
      rw[List.filter_cons_of_pos ne]
      rfl
     ·have ne:¬ Flw.two (nmAt r) ties[k]=true:=fun z=>by
       have:=of_decide_eq_true z
       exact this (by simpa using hc)
      refine⟨s3',?_⟩
      rw[List.filter_cons_of_neg ne,List.filter_nil,List.map_nil,List.map_nil,List.append_nil]
    ·rintro zs G3 zl ⟨s3',rfl⟩ E hE
     have tk:ties.take (bs.map V.ref).length=ties:=by rw[List.length_map,h3l,List.take_length]
     rw[tk]
     refine⟨E,_,rfl,upd_same,s2'.trans (s3'.trans (Same.new hE)),?_⟩
     rfl
   ·rintro ys G2 yl ⟨s2',rfl⟩ D2 hD2
    rw[List.length_map,al,List.take_length]
    obtain⟨h0,hh0⟩:∃ h,Shk.RowF n ps h:=⟨_,((rows_start p1 pr).sound _ (List.mem_singleton.mpr rfl)).2⟩
    obtain⟨r0,hr0,_⟩:=R.all h0 hh0
    refine⟨D2,_,rfl,upd_same,(fun z=>?_),fun m hm hl=>fin m _ (R.least ok full hm hl) (sH.trans (s2'.trans (Same.new hD2)))⟩
    have:=List.map_eq_nil_iff.mp z
    rw[this]at hr0
    cases hr0
end
open PySem L2 PyProof.Rows
theorem nmF_of{n:Nat}{ps nm:List Int}(NO:NOk n ps nm)(pr:∀ p∈ps,0<=p/\p<n):Shk.NmF n (kOf nm) ps (nmAt nm):=by
 refine⟨fun v v0 v1=>NO.rg _ (nmAt_mem NO ⟨v0,v1⟩),fun y y0 y1=>?_,NO.post,pr⟩
 obtain⟨i,rfl⟩:∃ i:Nat,y=(i:Int):=⟨y.toNat,by lia⟩
 have hm:=NO.all (i:=i) (by lia)
 obtain⟨j,jl,e⟩:=List.mem_iff_getElem.mp hm
 have nl:=NO.len
 refine⟨(j:Int),by lia,by lia,?_⟩
 rw[nm_at,Shk.at_get jl,e]
theorem mrgF_of{nm:List Int}{ties tl:List Tie}(h:MrgOf nm ties tl):Shk.MrgF (nmAt nm) ties tl:=by
 refine⟨h.1.imp fun {x y} z e=>?_,fun a b c=>h.2 a b c⟩
 unfold tieLt at z
 rw[e.1,e.2,lex_irr]at z
 cases z
theorem wide_drawn{n:Nat}{ties:List Tie}{ps nm:List Int}{post:Int}(NO:NOk n ps nm)(nd:ps.Nodup)(pr:∀ p∈ps,0<=p/\p<n)(hp:post∈ps)(okl:∀ x∈mrgL nm ties,TieOk (kOf nm) x)(w:WideOf (kOf nm) (mrgL nm ties) [nmAt nm post] (oth ps nm post) (side ties ps nm post)) :
  Shk.Drawn n (kOf nm) ps (nmAt nm) (nmAt (drw ties ps nm post)) (mrgL nm ties) post (side ties ps nm post):=by
 have En:=NO.ends nd pr hp
 have fc:=w.facts okl En
 have own:nmAt nm post∈side ties ps nm post:=fc.1 _ (List.mem_singleton.mpr rfl)
 obtain⟨am,G,e⟩:=w
 have sd:=Flw.wide_side okl En G wide_w
 have sv:=Flw.wide_val okl En G wide_w
 rw[<- e]at sd sv
 refine⟨hp,sd,fun L hL=>?_,fun u v u0 u1 v0 v1=>?_⟩
 ·rw[sv]
  exact Flw.side_le okl En G hL
 ·obtain⟨a,rfl⟩:∃ a:Nat,u=(a:Int):=⟨u.toNat,by lia⟩
  obtain⟨b,rfl⟩:∃ b:Nat,v=(b:Int):=⟨v.toNat,by lia⟩
  have nl:=NO.len
  have al:a<nm.length:=by lia
  have bl:b<nm.length:=by lia
  unfold drw
  rw[nm_at,nm_at,nm_at,nm_at]
  rw[Shk.num_inj (by rw[Shk.raw_len];exact al) (by rw[Shk.raw_len];exact bl),Shk.raw_at al,Shk.raw_at bl]
  generalize side ties ps nm post=S at own
  by_cases ca:Shk.at' nm a∈S
  ·by_cases cb:Shk.at' nm b∈S
   ·rw[if_pos ca,if_pos cb]
    exact⟨fun _=>.inr ⟨ca,cb⟩,fun _=>rfl⟩
   ·rw[if_pos ca,if_neg cb]
    constructor
    ·intro z;exact absurd (z▸own) cb
    ·rintro(z | z)
     ·exact absurd (z▸ca) cb
     ·exact absurd z.2 cb
  ·by_cases cb:Shk.at' nm b∈S
   ·rw[if_neg ca,if_pos cb]
    constructor
    ·intro z;exact absurd (z▸own) ca
    ·rintro(z | z)
     ·exact absurd (z▸cb) ca
     ·exact absurd z.1 ca
   ·rw[if_neg ca,if_neg cb]
    constructor
    ·exact .inl
    ·rintro(z | z)
     ·exact z
     ·exact absurd z.1 ca
theorem shr_good{n:Nat}{ties:List Tie}{ps nm:List Int}(ok:∀ x∈ties,TieOk n x)(nd:ps.Nodup)(pr:∀ p∈ps,0<=p/\p<n)(S:Shr n ties ps nm):∀ tl,MrgOf nm ties tl->Shk.Good n ties ps (nmAt nm) (kOf nm) tl/\Shk.GoodS n ties ps (nmAt nm) (kOf nm) tl:=by
 induction S with
 |start =>
  intro tl M
  have id:∀ v:Int,0<=v->v<n->nmAt (upto n) v=v:=fun v v0 v1=>by
   obtain⟨a,rfl⟩:∃ a:Nat,v=(a:Int):=⟨v.toNat,by lia⟩
   obtain⟨h,e⟩:=upto_get (n:=n) (i:=a) (by lia)
   rw[nm_at,Shk.at_get h,e]
  have k:kOf (upto n)=n:=by unfold kOf;rw[fst_upto,upto_len]
  rw[k]
  exact⟨Shk.good_start ok (mrgF_of M) id pr,Shk.goodS_start ok (mrgF_of M) id pr⟩
 | @step nm post S NO hp mo okl wo NO2 ih =>
  intro tl M
  obtain⟨g,gs⟩:=ih _ mo
  have D:=wide_drawn NO nd pr hp okl wo
  have N:=nmF_of NO pr
  have N2:=nmF_of NO2 pr
  exact⟨Shk.good_step ok okl N N2 (mrgF_of mo) (mrgF_of M) D g,Shk.goodS_step ok okl N N2 (mrgF_of mo) (mrgF_of M) D gs⟩
end K23
namespace L2
open PySem PySem.Spec PySem.W PyProof.Rows
noncomputable def putPk(ps:List (Key×V)):List (Key×V):=ps.foldl (fun kvs x=>putK kvs x.1 x.2) []
theorem putPk_snoc{ps:List (Key×V)}{x:Key×V}:putPk (ps++[x])=putK (putPk ps) x.1 x.2:=by
 unfold putPk
 rw[List.foldl_append]
 rfl
theorem putPk_len:∀ (ps:List (Key×V)) (kvs:List (Key×V)),(ps.foldl (fun kvs x=>putK kvs x.1 x.2) kvs).length<=kvs.length+ps.length
 |[],kvs=>Nat.le_refl _
 |x :: r,kvs=>by
  have:=putPk_len r (putK kvs x.1 x.2)
  have:=length_putK kvs x.1 x.2
  show(r.foldl (fun kvs x=>putK kvs x.1 x.2) (putK kvs x.1 x.2)).length<=_
  rw[List.length_cons]
  lia
section
variable{X:Cx}{pins:List (Addr×Obj)}{σ:St}{H:Hp}
theorem dict_loopK(hc:X.calm=true)(hu:X.A.units+64<cLine){p d it:Addr}{bs:List Addr}{ps:List (Key×V)}{its:List Value}{R:Result->Shared->Prop}(hd0:H d=none)(hSq:SqL X.K H p (bs.map V.ref))
  (hP:Paired (fun b (x:Key×V)=>H b=some (.tup [kV x.1,x.2])) bs ps) (hl:ps.length<sizeLine) (hid:it≠d)
  (fin:∀ s',Inv X pins σ (upd H d (.dK (putPk ps))) s'->R (.ok (.ret .none)) s') :
  ∀ (m i:Nat) (s':Shared),m+i=ps.length->Inv X pins σ (upd H d (.dK (putPk (ps.take i)))) s'->FpOk X pins H it->s'.heap.IsListIter it p i ->
   codeAny (model X.prog X.w) X.A.in1 (.builtin "dict.update.loop" ⟨[.ref d,.ref it,rawInt i,.none],[]⟩) R s':=by
 intro m
 have lbs:bs.length=ps.length:=hP.length
 induction m with
 |zero =>
  intro i s' hm I fp hit
  have hS2:SqL X.K (upd H d (.dK (putPk (ps.take i)))) p (bs.map V.ref):=(Same.new hd0).seq hSq
  obtain⟨us,rv,pl,_⟩:=I.list hS2
  have ul:=rv.length
  rw[List.length_map]at ul
  refine codeAny_builtin (b:=Builtin.«dict.update.loop») (entryFor_of_tree (by kernel_rfl)) ?_
  unfold Builtin.«dict.update.loop»
  refine wpAny_bind (wpAny_pyNext_list_end (it:=it) (l:=p) (i:=i) (I.ok.hd hc) hit pl.isList (by simp;lia) fun h2 he2=>?_)
  refine wpAny_bind (wpAny_pure (wpAny_pure ?_))
  have I2:=I.turnedL (t':=s'.toks) (h':=h2) (ch:=[it]) (fun b hb=>by rw[List.mem_singleton.mp hb];exact⟨by rw[upd_ne hid];exact fp.1,fp.2⟩) (fun b o nb e=>he2 b o (fun z=>nb (by rw[z];exact List.mem_singleton.mpr rfl)) e)
  rw[List.take_of_length_le (by lia)]at I2
  exact fin _ I2
 |succ m ih =>
  intro i s' hm I fp hit
  have hS2:SqL X.K (upd H d (.dK (putPk (ps.take i)))) p (bs.map V.ref):=(Same.new hd0).seq hSq
  obtain⟨us,rv,pl,_⟩:=I.list hS2
  have ul:=rv.length
  rw[List.length_map]at ul
  have ib:i<bs.length:=by lia
  have ip:i<ps.length:=by lia
  have hb:=Paired.at hP i ib ip
  have tk:ps.take (i+1)=ps.take i++[ps[i]]:=List.take_succ_eq_append_getElem ip
  generalize ps[i]=x at hb tk
  obtain⟨kk,v⟩:=x
  obtain⟨u,hu',ru⟩:=rv.get (show(bs.map V.ref)[i]?=some (V.ref bs[i]) by rw[List.getElem?_map,List.getElem?_eq_getElem ib];rfl)
  cases ru
  refine codeAny_builtin (b:=Builtin.«dict.update.loop») (entryFor_of_tree (by kernel_rfl)) ?_
  unfold Builtin.«dict.update.loop»
  refine wpAny_bind (wpAny_pyNext_list_item (it:=it) (l:=p) (i:=i) hit pl.isList (x:=.ref bs[i]) (by simpa using hu') fun h1 hit1 sb1=>?_)
  have I1:=I.turnedL (t':=s'.toks) (h':=h1) (ch:=[it]) (fun b hb=>by rw[List.mem_singleton.mp hb];exact⟨by rw[upd_ne hid];exact fp.1,fp.2⟩) (fun b o nb e=>sb1.extBut b o (fun z=>nb (by rw[z];exact List.mem_singleton.mpr rfl)) e)
  have hb1:(upd H d (.dK (putPk (ps.take i)))) bs[i]=some (.tup [kV kk,v]):=(Same.new hd0) _ _ hb
  obtain⟨_,its2,rv2,o2,e2,c2,n2,d2⟩:=I1.hok _ _ hb1
  obtain⟨u1,u2,eu,r1,r2⟩:=Vals.two rv2
  subst eu
  refine wpAny_bind ?_
  refine wpAny_holding ?_
  unfold Builtin.Dict.pairItems
  refine wpAny_bind (wpAny_tryCatch (wpAny_bind (wpAny_typeOf (T:="tuple") ⟨o2,e2,c2⟩ ?_)))
  rw[if_pos (by decide)]
  refine wpAny_bind (wpAny_seqItems e2 d2 (wpAny_pure ?_))
  show wpAny _ _ (holding [u1,u2] (dictSet d u1 u2)) _ _ _
  refine wpAny_holding ?_
  have eH:(upd H d (.dK (putPk (ps.take i)))) d=some (.dK (putPk (ps.take i))):=upd_same
  obtain⟨z,hd,xs,rel,dd⟩:=dk_of I1.hok eH
  have hz:xs.length<=sizeLine:=by rw[<- rel.length];exact z
  have hpl:(putPk (ps.take i)).length<=i:=by
   have:=putPk_len (ps.take i) []
   rw[List.length_take]at this
   show((ps.take i).foldl (fun kvs x=>putK kvs x.1 x.2) []).length<=i
   simp only[List.length_nil]at this
   lia
  have hlp:(putK (putPk (ps.take i)) kk v).length<=sizeLine:=by have:=length_putK (putPk (ps.take i)) kk v;lia
  refine wpAny_dictSet_pairs (hsz:=hz) (kV_is r1) dd fun h2 dd' hs=>?_
  have he:∃ q,h2.get? d=some q:=let ⟨q,_,_,hq,_⟩:=dd';⟨q,hq⟩
  have I2:=d_write (t':=s'.toks+1) (ob:=.dK (putK (putPk (ps.take i)) kk v)) I1 (by rw[eH];exact True.intro) hs he (dk_new hlp hd (rel.put kk r2) dd')
  rw[upd_upd]at I2
  have pe:putK (putPk (ps.take i)) kk v=putPk (ps.take (i+1)):=by rw[tk,putPk_snoc]
  rw[pe]at I2
  exact wpAny_pure ⟨plainId_quiet (by decide +kernel) _,ih (i+1) _ (by lia) I2 fp (Heap.IsListIter.at hit1 fun o e=>hs.extBut _ o hid e)⟩
end
theorem call_dict_pairsK{X:Cx}(hc:X.calm=true)(hu:X.A.units+64<cLine):CallR X (.type "dict") (fun xs H Q=>∃ (p:Addr) (bs:List Addr) (ps:List (Key×V)),xs=[.ref p]/\SqL X.K H p (bs.map V.ref) /\
  Paired (fun b (x:Key×V)=>H b=some (.tup [kV x.1,x.2])) bs ps/\ps.length<sizeLine/\∀ l,H l=none->Q (.ref l) (upd H l (.dK (putPk ps)))):=by
 intro pins s σ H xs us Q I r h
 obtain⟨p,bs,ps,rfl,hq,hP,hl,q⟩:=h
 obtain⟨u,rfl,rx⟩:=Vals.one r
 cases rx
 obtain⟨its,r',pl,hz⟩:=I.list hq
 refine callType_codes (Q₁:=fun ob sn=>ob = .ref s.heap.objs.size/\sn = { s with heap:=s.heap.push { cls:=.type "dict",data:=.dict #[] } }) F.kt_called_dict (F.kt_typeCall_dict_1 _) F.entry_dict_init (kt_code_dict_new _ ⟨rfl,rfl⟩) ?_
 rintro ob sn ⟨rfl,rfl⟩
 have hL:(s.heap.push { cls:=.type "dict",data:=.dict #[] }).IsList p its.toArray:=Heap.IsList.at pl.isList fun o e=>Heap.get?_push_of_some _ e
 have hnew:(s.heap.push { cls:=.type "dict",data:=.dict #[] }).DictOf (mixKind X.prog X.w) s.heap.objs.size []:=Heap.DictOf.new s.heap
 refine⟨hnew.typeIs,F.args_dict_init_2 _ _,?_⟩;unfold Builtin.«dict.__init__»
 refine wpAny_bind ?_;unfold Builtin.Dict.selfAndRest;refine wpAny_bind (wpAny_notOrdered_dict hnew.typeIs ?_)
 show wpAny _ _ (pure (s.heap.objs.size,[Value.ref p])) _ _ _;refine wpAny_pure ?_
 show wpAny _ _ (Builtin.Dict.updateFrom "dict.__init__" s.heap.objs.size (.ref p) [] .none) _ _ _;unfold Builtin.Dict.updateFrom
 refine wpAny_bind (wpAny_typeOf hL.typeIs ?_)
 rw[if_pos (by decide)]
 obtain⟨ol,nl,hol,hcl,hdd,hdl⟩:=pl
 refine wpAny_bind (attrq_keys_list (Heap.get?_push_of_some _ hol) hcl hdl hdd (I.ok.hd hc) fun h' tk kp=>?_)
 simp only[Option.isNone_none,if_true]
 have hL':h'.IsList p its.toArray:=Heap.IsList.at hL fun o e=>kp _ o e
 refine wpAny_bind (wpAny_rule (wpAny_bind (wpAny_pyIter_list hL' ?_)))
 have kp1:∀ b o,s.heap.get? b=some o->(h'.push { cls:=.type "list_iterator",data:=.fields #[.ref p,.int 0 0] }).get? b=some o:=fun b o e=>Heap.get?_push_of_some _ (kp _ _ (Heap.get?_push_of_some _ e))
 have g1:h'.get? s.heap.objs.size=some { cls:=.type "dict",data:=.dict #[] }:=kp _ _ (Heap.get?_push_size _ rfl)
 have gd:(h'.push { cls:=.type "list_iterator",data:=.fields #[.ref p,.int 0 0] }).get? s.heap.objs.size=some { cls:=.type "dict",data:=.dict #[] }:=Heap.get?_push_of_some _ g1
 have I1:Inv X pins σ (upd H s.heap.objs.size (.dK [])) { s with heap:=h'.push { cls:=.type "list_iterator",data:=.fields #[.ref p,.int 0 0] },toks:=tk }:=I.laid (a:=s.heap.objs.size) (o:=.dK []) (t':=tk) kp1 (Nat.le_refl _) (dk_new (Nat.zero_le _) (beq_eq_false_iff_ne.mpr (Ne.symm (Nat.ne_of_lt I.big))) .nil (Heap.DictOf.at hnew fun o e=>Heap.get?_push_of_some _ (kp _ o e)))
 have hsz:s.heap.objs.size<h'.objs.size:=Heap.lt_size g1
 refine wpAny_pure ⟨plainId_quiet (by decide +kernel) _,?_⟩
 refine dict_loopK (H:=H) (bs:=bs) (ps:=ps) (its:=its) hc hu (I.hok.fresh (Nat.le_refl _)) hq hP hl (Nat.ne_of_gt hsz) (fun s' I'=>⟨rfl,.ref s.heap.objs.size,_,I',rfl,q _ (I.hok.fresh (Nat.le_refl _))⟩) ps.length 0 _ rfl (by rw[List.take_zero];exact I1) ?_ ⟨_,Heap.get?_push_size _ rfl,rfl,rfl⟩
 exact I.fpOk (Nat.le_of_lt hsz) (I.hok.fresh (Nat.le_of_lt hsz))
end L2
namespace K23
open PySem L2 PyProof.Rows
theorem call_dict_pairs{X:Cx}(hc:X.calm=true)(hu:X.A.units+64<cLine):CallR X (.type "dict") (fun xs H Q=>∃ (p:Addr) (bs:List Addr) (ps:List (Key×V)),xs=[.ref p]/\SqL X.K H p (bs.map V.ref) /\
  Paired (fun b (x:Key×V)=>H b=some (.tup [kV x.1,x.2])) bs ps/\ps.length<sizeLine/\∀ l,H l=none->Q (.ref l) (upd H l (.dK (putPk ps)))):=call_dict_pairsK hc hu
structure Txt3(mg:Str->Option Value):Prop where
 dict:mg "dict" = none
noncomputable def kvF(f:Int->Int)(g:Int->Int)(l:List Int):List (Key×V):=l.map fun p=>(Sum.inl (f p),V.int (g p))
theorem val_kvF{f g:Int->Int}:∀ {l:List Int},(∀ p∈l,∀ q∈l,f p=f q->p=q)->∀ p∈l,valV (putPk (kvF f g l)) (Sum.inl (f p))=some (V.int (g p)):=by
 intro l
 refine Shk.snocInd (P:=fun l=>(∀ p∈l,∀ q∈l,f p=f q->p=q)->∀ p∈l,valV (putPk (kvF f g l)) (Sum.inl (f p))=some (V.int (g p))) (fun _ p hp=>nomatch hp) (fun l x ih inj p hp=>?_) l
 have e:kvF f g (l++[x])=kvF f g l++[(Sum.inl (f x),V.int (g x))]:=by unfold kvF;rw[List.map_append];rfl
 rw[e,putPk_snoc,valV_put]
 by_cases c:f p=f x
 ·have:=inj p hp x (List.mem_append_right _ (List.mem_singleton.mpr rfl)) c
  rw[if_pos (show(Sum.inl (f p):Key)=Sum.inl (f x) by rw[c]),this]
 ·rw[if_neg (fun z=>c (by injection z))]
  rcases List.mem_append.mp hp with z | z
  ·exact ih (fun a ha b hb=>inj a (List.mem_append_left _ ha) b (List.mem_append_left _ hb)) p z
  ·exact absurd (by rw[List.mem_singleton.mp z]) c
open Classical in
noncomputable def vq(n:Nat)(ties:List Tie)(ps:List Int)(q:Int):Int:=if h:∃ am,Flw.Great n ties [q] (others ps q) am then Flw.val ties h.choose [q]else 0
theorem vq_eq{n:Nat}{ties:List Tie}{ps am:List Int}{q:Int}(ok:∀ x∈ties,TieOk n x)(E:Flw.Ends n [q] (others ps q))(G:Flw.Great n ties [q] (others ps q) am):Flw.val ties am [q]=vq n ties ps q:=by
 have ex:∃ am,Flw.Great n ties [q] (others ps q) am:=⟨am,G⟩
 unfold vq
 rw[dif_pos ex]
 have G2:=ex.choose_spec
 generalize ex.choose=am2 at *
 have a:=Flw.side_le ok E G (Flw.side_keys ok E G2)
 have b:=Flw.side_le ok E G2 (Flw.side_keys ok E G)
 have c:=Flw.val_side ok E G
 have d:=Flw.val_side ok E G2
 lia
theorem vq_same{n:Nat}{ties:List Tie}{ps nm os am am':List Int}{q:Int}(ok:∀ x∈ties,TieOk n x)(nd:ps.Nodup)(pr:∀ p∈ps,0<=p/\p<n)(NO:NOk n ps nm)(SH:Shr n ties ps nm)(MO:MrgOf nm ties (mrgL nm ties))(okl:∀ x∈mrgL nm ties,TieOk (kOf nm) x)(hos:os.Perm (ps.map (nmAt nm)))(hq:q∈ps)
  (G:Flw.Great n ties [q] (others ps q) am) (G':Flw.Great (kOf nm) (mrgL nm ties) [nmAt nm q] (others os (nmAt nm q)) am'):vq n ties ps q=vq (kOf nm) (mrgL nm ties) os (nmAt nm q):=by
 have N:=nmF_of NO pr
 have P1:Posts n ps:=⟨nd,pr⟩
 have P2:Posts (kOf nm) os:=⟨hos.nodup_iff.mpr (by
  rw[List.Nodup,List.pairwise_map]
  exact nd.imp_of_mem fun {a b} ha hb ne e=>ne (NO.post a ha b hb e)),fun x hx=>by
  obtain⟨p,hp,rfl⟩:=List.mem_map.mp (hos.mem_iff.mp hx)
  exact N.rg p (pr p hp).1 (pr p hp).2⟩
 have fm:nmAt nm q∈os:=hos.mem_iff.mpr (List.mem_map.mpr ⟨q,hq,rfl⟩)
 have E1:=P1.ends hq
 have E2:=P2.ends fm
 rw[<- vq_eq ok E1 G,<- vq_eq okl E2 G']
 refine Shk.single_same ok okl N (mrgF_of MO) (shr_good ok nd pr SH _ MO).2 hq (fun v=>?_) (fun v=>?_) E1 E2 G G'
 ·rw[mem_others,List.mem_filter]
  by_cases c:v=q
  ·simp[c]
  ·simp[c]
 ·rw[mem_others,hos.mem_iff,List.mem_map,List.mem_map]
  constructor
  ·rintro⟨⟨p,hp,e⟩,ne⟩
   refine⟨p,List.mem_filter.mpr ⟨hp,?_⟩,e⟩
   have:p≠q:=fun z=>ne (by rw[<- e,z])
   rw[decide_eq_false this]
   rfl
  ·rintro⟨p,hp,e⟩
   obtain⟨a,b⟩:=List.mem_filter.mp hp
   refine⟨⟨p,a,e⟩,fun z=>?_⟩
   have:p=q:=NO.post p a q hq (by rw[e,z])
   rw[decide_eq_true this]at b
   cases b
theorem least_same{n:Nat}{ties:List Tie}{ps nm os:List Int}{m:Int}(ok:∀ x∈ties,TieOk n x)(nd:ps.Nodup)(pr:∀ p∈ps,0<=p/\p<n)(NO:NOk n ps nm)(SH:Shr n ties ps nm)(MO:MrgOf nm ties (mrgL nm ties))(hos:os.Perm (ps.map (nmAt nm)))(L:Shk.LeastR n ties ps m):Shk.LeastR (kOf nm) (mrgL nm ties) os m :=
 (L.less ok (nmF_of NO pr) (mrgF_of MO) (shr_good ok nd pr SH _ MO).1).same fun p=>hos.mem_iff.symm
theorem os_ok{n:Nat}{ps nm os:List Int}(n1:1<=n)(n30:n<=30)(nd:ps.Nodup)(pr:∀ p∈ps,0<=p/\p<n)(NO:NOk n ps nm)(hos:os.Perm (ps.map (nmAt nm))):PsOk (kOf nm) os:=by
 have N:=nmF_of NO pr
 have kp:=NO.pos n1
 refine⟨hos.nodup_iff.mpr (by
  rw[List.Nodup,List.pairwise_map]
  exact nd.imp_of_mem fun {a b} ha hb ne e=>ne (NO.post a ha b hb e)),fun x hx=>?_,kp.1,by lia⟩
 obtain⟨p,hp,rfl⟩:=List.mem_map.mp (hos.mem_iff.mp hx)
 exact N.rg p (pr p hp).1 (pr p hp).2
theorem carried_same{n:Nat}{ties:List Tie}{ps nm os ows car:List Int}(ok:∀ x∈ties,TieOk n x)(pr:∀ p∈ps,0<=p/\p<n)(NO:NOk n ps nm)(MO:MrgOf nm ties (mrgL nm ties))(okl:∀ x∈mrgL nm ties,TieOk (kOf nm) x)(hos:os.Perm (ps.map (nmAt nm)))(R:Shk.RowF (kOf nm) os (nmAt ows))
  (hc:∀ v:Int,0<=v->v<n->nmAt car v=Shk.far ps (nmAt nm) (nmAt ows (nmAt nm v))):((ties.filter (dif car)).map (·.2.2)).sum=(((mrgL nm ties).filter (dif ows)).map (·.2.2)).sum:=by
 have R':Shk.RowF (kOf nm) (ps.map (nmAt nm)) (nmAt ows):=⟨fun p hp=>R.fix p (hos.mem_iff.mpr hp),fun v a b=>hos.mem_iff.mp (R.inn v a b)⟩
 have key:=(Shk.row_back ok (nmF_of NO pr) (mrgF_of MO) R').2
 have e1:((ties.filter (dif car)).map (·.2.2)).sum=Flw.wf ties (Flw.two fun v=>Shk.far ps (nmAt nm) (nmAt ows (nmAt nm v))):=Flw.wf_congr fun x hx=>by
  obtain⟨o1,o2,o3,o4⟩:=ok x hx
  have a:=hc x.1 o1 (by lia)
  have b:=hc x.2.1 (by lia) o3
  show dif car x=decide (Shk.far ps (nmAt nm) (nmAt ows (nmAt nm x.1))≠Shk.far ps (nmAt nm) (nmAt ows (nmAt nm x.2.1)))
  rw[<- a,<- b]
  show(!decide (nmAt car x.1=nmAt car x.2.1))=decide (nmAt car x.1≠nmAt car x.2.1)
  rw[decide_not]
 have e2:(((mrgL nm ties).filter (dif ows)).map (·.2.2)).sum=Flw.wf (mrgL nm ties) (Flw.two (nmAt ows)):=Flw.wf_congr fun x hx=>by
  show(!decide (nmAt ows x.1=nmAt ows x.2.1))=decide (nmAt ows x.1≠nmAt ows x.2.1)
  rw[decide_not]
 rw[e1,e2,key]
open PySem L2 PyProof.Rows
theorem WebAt.keptB{p:Addr}{H H':Hp}{t:Addr}{n N:Nat}{ties:List Tie}(W:WebAt H t n ties)(B:BoxAt H p N)(k:Kept p H H'):WebAt H' t n ties:=by
 obtain⟨a,b,c,e,_⟩:=B
 exact W.kept k e fun xs z=>by cases z
theorem kept_tup{p:Addr}{H H':Hp}{t:Addr}{N:Nat}{xs:List V}(B:BoxAt H p N)(k:Kept p H H')(h:H t=some (.tup xs)):H' t=some (.tup xs):=by
 obtain⟨a,b,c,e,_⟩:=B
 refine k _ _ (fun z=>?_) h
 rw[z,e]at h
 cases h
theorem same_kept{p:Addr}{H H':Hp}(s:Same H H'):Kept p H H':=fun b o _ e=>s b o e
noncomputable def spRi:Sp:=fun vs H Q _=>∃ (p t q:Addr) (n N:Nat) (ties:List Tie) (ps:List Int),vs=[.ref p,.ref t,.ref q]/\BoxAt H p N/\N+100<2 ^ 40/\WebAt H t n ties/\(∀ x∈ties,TieOk n x)/\ties.Pairwise tieLt/\1<=n/\n<=7/\H q=some (.lst (ps.map V.int))/\q≠p/\PostOk n ps /\
 ∀ H',Kept p H H'->Q (.bl true) H'
section
variable{P:Program}{w:World}{K:PySem.W.Frag}{mg:Str->Option Value}{base:Heap}
noncomputable abbrev nRi:List Str:=["_law_box_here","_law_web_here","_law_posts_here","_law_less","_law_names","_law_others","_law_least_here","_law_owners","_law_post","_law_far","_law_carried","_law_values","_law_again","_law_further"]
theorem scRi:FnScope nRi ["_law_box_here","_law_web_here","_law_posts_here"] (defScope sRight):=⟨rfl,rfl,rfl,by decide +kernel,rfl,by decide +kernel,by decide +kernel⟩
theorem csRi1:CompScope ["_law_post","_law_names"] [none,some 4] nRi (defScope sRight) (scO [(".0",.local),("_law_post",.local),("_law_names",.free)]):=⟨rfl,by decide +kernel,by decide +kernel,by decide +kernel,rfl,capB_ok (by decide +kernel)⟩
theorem ndRi1:(["_law_post","_law_names"]:List Str).Nodup:=by decide +kernel
theorem csRi2:CompScope ["_law_place","_law_others","_law_box_here"] [none,some 5,some 0] nRi (defScope sRight) (scO [(".0",.local),("_law_place",.local),("_law_take",.globalImplicit),("len",.globalImplicit),("_law_box_here",.free),("_law_others",.free)]):=⟨rfl,by decide +kernel,by decide +kernel,by decide +kernel,rfl,capB_ok (by decide +kernel)⟩
theorem ndRi2:(["_law_place","_law_others","_law_box_here"]:List Str).Nodup:=by decide +kernel
theorem csRi3:CompScope ["_law_post","_law_names"] [none,some 4] nRi (defScope sRight) (scO [(".0",.local),("_law_post",.local),("_law_names",.free)]):=⟨rfl,by decide +kernel,by decide +kernel,by decide +kernel,rfl,capB_ok (by decide +kernel)⟩
theorem ndRi3:(["_law_post","_law_names"]:List Str).Nodup:=by decide +kernel
theorem csRi4:CompScope ["_law_name","_law_far","_law_owners"] [none,some 9,some 7] nRi (defScope sRight) (scO [(".0",.local),("_law_name",.local),("_law_far",.free),("_law_owners",.free)]):=⟨rfl,by decide +kernel,by decide +kernel,by decide +kernel,rfl,capB_ok (by decide +kernel)⟩
theorem ndRi4:(["_law_name","_law_far","_law_owners"]:List Str).Nodup:=by decide +kernel
theorem csRi5:CompScope ["_law_post","_law_told","_law_names"] [none,none,some 4] nRi (defScope sRight) (scO [(".0",.local),("_law_post",.local),("_law_told",.local),("_law_names",.free)]):=⟨rfl,by decide +kernel,by decide +kernel,by decide +kernel,rfl,capB_ok (by decide +kernel)⟩
theorem ndRi5:(["_law_post","_law_told","_law_names"]:List Str).Nodup:=by decide +kernel
theorem csRi6:CompScope ["_law_told"] [none] nRi (defScope sRight) (scO [(".0",.local),("_law_told",.local)]):=⟨rfl,by decide +kernel,by decide +kernel,by decide +kernel,rfl,capB_ok (by decide +kernel)⟩
theorem ndRi6:(["_law_told"]:List Str).Nodup:=by decide +kernel
theorem csRi7:CompScope ["_law_post","_law_values"] [none,some 11] nRi (defScope sRight) (scO [(".0",.local),("_law_post",.local),("_law_values",.free)]):=⟨rfl,by decide +kernel,by decide +kernel,by decide +kernel,rfl,capB_ok (by decide +kernel)⟩
theorem ndRi7:(["_law_post","_law_values"]:List Str).Nodup:=by decide +kernel
theorem csRi8:CompScope ["_law_post","_law_further"] [none,some 13] nRi (defScope sRight) (scO [(".0",.local),("_law_post",.local),("_law_further",.free)]):=⟨rfl,by decide +kernel,by decide +kernel,by decide +kernel,rfl,capB_ok (by decide +kernel)⟩
theorem ndRi8:(["_law_post","_law_further"]:List Str).Nodup:=by decide +kernel
theorem ok_ri{f g1 g2 g3 g4 g5 g6:Addr}{fd d1 d2 d3 d4 d5 d6:FuncData}(F:Fun K "_law_right" "_law_right" sRight f fd)(T:Txt mg)(T2:Txt2 mg)(T3:Txt3 mg)(GS:CalF P w K mg base 6 "shrunk" ["web","posts"] spSk g1 d1)(GL:CalF P w K mg base 1 "_law_least" ["_law_web_here","_law_posts_here"] spLe g2 d2)(G:TakeF P w K mg base g3 d3)(GW:CalF P w K mg base 2 "weight_of" ["web","cut"] spWg g4 d4)(GB:CalF P w K mg base 1 "cut_by" ["web","owners"] spCb g5 d5)(GI:CalF P w K mg base 5 "singles" ["web","posts"] spSg g6 d6):FnOk P w K mg base CX0 7 f fd ["_law_box_here","_law_web_here","_law_posts_here"] spRi:=by
 refine F.ok scRi (fun vs H Q E h=>?_) (fun cdv A outer s H vs Q E hr h=>?_)
 ·obtain⟨p,t,q,n,N,ties,ps,rfl,_⟩:=h
  rfl
 ·obtain⟨p,t,q,n,N,ties,ps,rfl,B0,Nb,W,ok,pw,n1,n7,hq,qp,po,fin⟩:=h
  have hr1:Room 1 _:=hr.mono (by decide)
  have hr2:Room 2 _:=hr.mono (by decide)
  have hr5:Room 5 _:=hr.mono (by decide)
  have hu:=hu_of hr
  have hu64:=hr.units
  have p1:=po.lo
  have p6:=po.hi
  have PO:PsOk n ps:=⟨po.nd,po.rg,n1,by lia⟩
  refine⟨_,(pss_cons (ps_asg (pe_call GS.ok hr rfl GS.mg GS.kp GS.bd .nil pass0 (@pa_nam _ _ _ _ _ _ (pv 1) (@pa_nam _ _ _ _ _ _ (pv 2) pa_nil))) (pg_tup (n:=2) rfl (pgs_cons (pg_name (i:=3) scRi.nd rfl (Or.inl rfl)) (pgs_cons (pg_name (i:=4) scRi.nd rfl (Or.inr rfl)) pgs_nil))))
   (pss_cons (ps_set (i:=5) scRi.nd rfl (Or.inr rfl) (pe_callB call_sortedIH (by rfl) T.sorted boot_sorted (@pa_comp _ _ _ _ _ _ _ _ (pe_comp rfl csRi1 (pi_list (pv 2)) (fun C s H fp=>(pg_name (i:=0) ndRi1 rfl (Or.inl rfl))) (fun C s H fp=>pf_nil) (fun C s H fp=>(@pe_ix _ _ _ _ _ _ _ ix_tupH (pv 1) (pv 0) (fun _ _=>rfl)))) pa_nil)))
   (pss_cons (ps_set (i:=6) scRi.nd rfl (Or.inl rfl) (pe_call GL.ok hr1 rfl GL.mg GL.kp GL.bd .nil pass0 (@pa_nam _ _ _ _ _ _ (pv 1) (@pa_nam _ _ _ _ _ _ (pv 2) pa_nil))))
   (pss_cons (ps_if (pt_cmpR op_ne (pe_call GL.ok hr1 rfl GL.mg GL.kp GL.bd .nil pass0 (@pa_nam _ _ _ _ _ _ (pv 3) (@pa_nam _ _ _ _ _ _ (pv 5) pa_nil))) (pv 6) (nomark _)) pss_never pss_nil)
   (pss_cons (ps_set (i:=7) scRi.nd rfl (Or.inr rfl) (pe_comp rfl csRi2 (pi_range1 rfl T.range (@pa_sub _ _ _ _ _ _ _ (@pe_ix _ _ _ _ _ _ _ ix_tupH (pv 3) pe_int (fun _ _=>rfl)) pa_nil)) (fun C s H fp=>(pg_name (i:=0) ndRi2 rfl (Or.inl rfl))) (fun C s H fp=>pf_nil) (fun C s H fp=>(@pe_ix _ _ _ _ _ _ _ ix_listH (pv 1) (pe_call G.ok hr1 rfl G.mg G.kp G.bd .nil pass0 (@pa_nam _ _ _ _ _ _ (pv 2) (@pa_call _ _ _ _ _ _ _ _ (pe_callB call_lenH (by rfl) T.len PySem.boot_len (@pa_nam _ _ _ _ _ _ (pv 1) pa_nil)) pa_nil))) (fun _ _=>rfl)))))
   (pss_cons (ps_for PassesOwn.never rfl (pi_list (pv 5)) (pg_name (i:=8) scRi.nd rfl (Or.inl rfl))
   (pss_one (ps_asg (pv 8) (pg_sub (pv 7) (pv 8) set_list))))
   (pss_cons (ps_set (i:=9) scRi.nd rfl (Or.inr rfl) (pe_callTy (call_dict_pairs rfl hr.units) (by rfl) T3.dict PyProof.Rows.boot_dict (@pa_comp _ _ _ _ _ _ _ _ (pe_comp rfl csRi3 (pi_list (pv 2)) (fun C s H fp=>(pg_name (i:=0) ndRi3 rfl (Or.inl rfl))) (fun C s H fp=>pf_nil) (fun C s H fp=>(@pe_tup _ _ _ _ _ (@pa_sub _ _ _ _ _ _ _ (@pe_ix _ _ _ _ _ _ _ ix_tupH (pv 1) (pv 0) (fun _ _=>rfl)) (@pa_nam _ _ _ _ _ _ (pv 0) pa_nil))))) pa_nil)))
   (pss_cons (ps_set (i:=10) scRi.nd rfl (Or.inl rfl) (pe_callTy call_tupleH (by rfl) T.tuple boot_tuple (@pa_comp _ _ _ _ _ _ _ _ (pe_comp rfl csRi4 (pi_tup (pv 4)) (fun C s H fp=>(pg_name (i:=0) ndRi4 rfl (Or.inl rfl))) (fun C s H fp=>pf_nil) (fun C s H fp=>(pe_dget hu (pv 1) (@pe_ix _ _ _ _ _ _ _ ix_listH (pv 2) (pv 0) (fun _ _=>rfl)) (fun _ _=>rfl)))) pa_nil)))
   (pss_cons (ps_if (pt_cmpR op_ne (pe_call GW.ok hr2 rfl GW.mg GW.kp GW.bd .nil pass0 (@pa_nam _ _ _ _ _ _ (pv 3) (@pa_call _ _ _ _ _ _ _ _ (pe_call GB.ok hr1 rfl GB.mg GB.kp GB.bd .nil pass0 (@pa_nam _ _ _ _ _ _ (pv 3) (@pa_call _ _ _ _ _ _ _ _ (pe_callTy call_tupleH (by rfl) T.tuple boot_tuple (@pa_nam _ _ _ _ _ _ (pv 7) pa_nil)) pa_nil))) pa_nil))) (pe_call GW.ok hr2 rfl GW.mg GW.kp GW.bd .nil pass0 (@pa_nam _ _ _ _ _ _ (pv 1) (@pa_call _ _ _ _ _ _ _ _ (pe_call GB.ok hr1 rfl GB.mg GB.kp GB.bd .nil pass0 (@pa_nam _ _ _ _ _ _ (pv 1) (@pa_nam _ _ _ _ _ _ (pv 10) pa_nil))) pa_nil))) (nomark _)) pss_never pss_nil)
   (pss_cons (ps_set (i:=11) scRi.nd rfl (Or.inr rfl) (pe_callTy (call_dict_pairs rfl hr.units) (by rfl) T3.dict PyProof.Rows.boot_dict (@pa_comp _ _ _ _ _ _ _ _ (pe_comp rfl csRi5 (pi_zip false false (by rfl) T2.zip (@pa_nam _ _ _ _ _ _ (pv 2) (@pa_call _ _ _ _ _ _ _ _ (pe_call GI.ok hr5 rfl GI.mg GI.kp GI.bd .nil pass0 (@pa_nam _ _ _ _ _ _ (pv 1) (@pa_nam _ _ _ _ _ _ (pv 2) pa_nil))) pa_nil))) (fun C s H fp=>(pg_tupK K rfl (n:=2) rfl (pgs_cons (pg_name (i:=0) ndRi5 rfl (Or.inl rfl)) (pgs_cons (pg_name (i:=1) ndRi5 rfl (Or.inl rfl)) pgs_nil)) rfl rfl)) (fun C s H fp=>pf_nil) (fun C s H fp=>(@pe_tup _ _ _ _ _ (@pa_sub _ _ _ _ _ _ _ (@pe_ix _ _ _ _ _ _ _ ix_tupH (pv 2) (pv 0) (fun _ _=>rfl)) (@pa_sub _ _ _ _ _ _ _ (@pe_ix _ _ _ _ _ _ _ ix_tupH (pv 1) pe_int (fun _ _=>rfl)) pa_nil))))) pa_nil)))
   (pss_cons (ps_if (pt_cmpR (op_neS hu64) (pe_comp rfl csRi6 (pi_list (pe_call GI.ok hr5 rfl GI.mg GI.kp GI.bd .nil pass0 (@pa_nam _ _ _ _ _ _ (pv 3) (@pa_nam _ _ _ _ _ _ (pv 5) pa_nil)))) (fun C s H fp=>(pg_name (i:=0) ndRi6 rfl (Or.inl rfl))) (fun C s H fp=>pf_nil) (fun C s H fp=>(@pe_ix _ _ _ _ _ _ _ ix_tupH (pv 0) pe_int (fun _ _=>rfl)))) (pe_comp rfl csRi7 (pi_list (pv 5)) (fun C s H fp=>(pg_name (i:=0) ndRi7 rfl (Or.inl rfl))) (fun C s H fp=>pf_nil) (fun C s H fp=>(pe_dget hu (pv 1) (pv 0) (fun _ _=>rfl)))) (nomark _)) pss_never pss_nil)
   (pss_cons (ps_asg (pe_call GS.ok hr rfl GS.mg GS.kp GS.bd .nil pass0 (@pa_nam _ _ _ _ _ _ (pv 3) (@pa_nam _ _ _ _ _ _ (pv 5) pa_nil))) (pg_tup (n:=2) rfl (pgs_cons (pg_name (i:=12) scRi.nd rfl (Or.inl rfl)) (pgs_cons (pg_name (i:=13) scRi.nd rfl (Or.inr rfl)) pgs_nil))))
   (pss_one (ps_ret (pe_cmpR op_eq (pe_call GL.ok hr1 rfl GL.mg GL.kp GL.bd .nil pass0 (@pa_nam _ _ _ _ _ _ (pv 12) (@pa_call _ _ _ _ _ _ _ _ (pe_callB call_sortedIH (by rfl) T.sorted boot_sorted (@pa_comp _ _ _ _ _ _ _ _ (pe_comp rfl csRi8 (pi_list (pv 5)) (fun C s H fp=>(pg_name (i:=0) ndRi8 rfl (Or.inl rfl))) (fun C s H fp=>pf_nil) (fun C s H fp=>(@pe_ix _ _ _ _ _ _ _ ix_tupH (pv 1) (pv 0) (fun _ _=>rfl)))) pa_nil)) pa_nil))) (pv 6) (nomark _)))))))))))))))),?_⟩
  refine⟨_,rfl,_,rfl,t,q,n,ties,false,ps,rfl,W,ok,hq,by lia,PO,fun r w1 u1 H1 gr W1 ok1 pw1 gu NO SH MO s1=>?_⟩
  refine⟨r,_,rfl,SqT.of gr,rfl,_,_,rfl,_,_,rfl,rfl,?_⟩
  generalize shr ties ps ps (upto n)=nm at *
  have nl:=NO.len
  have kp:=NO.pos n1
  have nmat:∀ v:Int,0<=v->v<n->atI (nm.map V.int) v=some (V.int (nmAt nm v)):=fun v h0 h1=>(nmAt_get h0 (by lia)).1
  have N1:=nmF_of NO po.rg
  -- others
  refine⟨_,rfl,q,rfl,⟨_,SqL.of (s1 _ _ hq)⟩,?_⟩
  refine comp_list (K:=K) (a:=q) (xs:=ps.map V.int) (fun i ys G=>Same H1 G/\ys=((ps.take i).map (nmAt nm)).map V.int) (by rw[List.length_map,sizeLine_eq];lia) ⟨Same.refl _,rfl⟩ (fun i ys G _ z=>SqL.of (z.1 _ _ (s1 _ _ hq))) ?_ ?_
  ·rintro i x ys G hx ⟨sG,rfl⟩
   obtain⟨il,e⟩:=List.getElem?_eq_some_iff.mp hx
   rw[List.length_map]at il
   rw[List.getElem_map]at e
   subst e
   obtain⟨q0,q1⟩:=po.rg _ (List.getElem_mem il)
   refine⟨⟨rfl,trivial⟩,tTru_if ⟨_,rfl,_,rfl,u1,_,_,_,rfl,rfl,sG _ _ gu,nmat _ q0 q1,sG,?_⟩⟩
   rw[List.take_succ_eq_append_getElem il,List.map_append,List.map_append]
   rfl
  rintro ys G1 yl ⟨sG1,rfl⟩ D1 hD1
  rw[List.length_map,List.take_length]
  refine⟨D1,_,rfl,upd_same,by rw[List.length_map];lia,fun ol os hol pm _=>?_⟩
  have s2:=sG1.trans ((Same.new (o:=.lst ((ps.map (nmAt nm)).map V.int)) hD1).trans (Same.new (o:=.lst (os.map V.int)) hol))
  have gol:(upd (upd G1 D1 (.lst ((ps.map (nmAt nm)).map V.int))) ol (.lst (os.map V.int))) ol=some (.lst (os.map V.int)):=upd_same
  have B1:=(B0.same s1).same sG1
  have olp:ol≠p:=(B1.same (Same.new (o:=.lst ((ps.map (nmAt nm)).map V.int)) hD1)).ne hol
  generalize (upd (upd G1 D1 (.lst ((ps.map (nmAt nm)).map V.int))) ol (.lst (os.map V.int)))=H2 at s2 gol
  have ol6:os.length=ps.length:=by rw[pm.length_eq,List.length_map]
  have PO2:=os_ok n1 (by lia) po.nd po.rg NO pm
  have s12:=s1.trans s2
  -- the least
  refine⟨_,rfl,_,rfl,t,q,n,ties,ps,rfl,W.same s12,ok,n7,s12 _ _ hq,p1,by lia,po.rg,fun m H3 LR s3=>?_⟩
  have LR1:=least_same ok po.nd po.rg NO SH MO pm LR
  have s13:=s12.trans s3
  have W13:=W1.same (s2.trans s3)
  refine⟨_,rfl,_,rfl,w1,ol,kOf nm,mrgL nm ties,os,rfl,W13,ok1,by lia,s3 _ _ gol,by lia,by lia,PO2.rg,fun m2 H4 LR2 s4=>?_⟩
  have em:=LR2.uniq LR1
  subst em
  refine⟨_,rfl,rfl,_,rfl,iteNS rfl ?_⟩
  have s14:=s13.trans s4
  have W14:=W13.same s4
  have gol4:=s4 _ _ (s3 _ _ gol)
  have gu4:=s4 _ _ (s3 _ _ (s2 _ _ gu))
  have B4:=B0.same s14
  clear LR2 s4 s3 s2 gol B1 s12 s13
  obtain⟨⟨lts,lbs,l1,l2,l3⟩,llen⟩:=id W14
  refine⟨_,rfl,w1,_,_,_,rfl,rfl,l1,rfl,_,rfl,by lia,by lia,?_⟩
  rw[show((kOf nm:Int)).toNat=kOf nm by lia]
  refine comp_range (lo:=0) (n:=kOf nm) (fun i ys G=>Kept p H4 G/\BoxAt G p (N+i)/\∃ ows:List Int,ys=ows.map V.int/\ows.length=i/\∀ x∈ows,x∈os) (by rw[sizeLine_eq];lia) ⟨Kept.refl,B4,[],rfl,rfl,fun _ h=>nomatch h⟩ ?_ ?_
  ·rintro i ys G hi ⟨kG,BG,ows,rfl,wl,wm⟩
   have golG:=kG _ _ olp gol4
   refine⟨⟨rfl,rfl,trivial⟩,tTru_if ⟨_,rfl,_,rfl,_,rfl,ol,_,rfl,golG,p,_,_,rfl,BG,by lia,by rw[List.length_map];lia,by rw[List.length_map];lia,fun z G2 z0 z1 B2 k2=>?_⟩⟩
   rw[List.length_map]at z1
   obtain⟨ga,gm⟩:=nmAt_get (nm:=os) z0 z1
   refine⟨ol,_,_,_,rfl,rfl,k2 _ _ olp golG,ga,kG.trans k2,B2,ows++[nmAt os z],by rw[List.map_append];rfl,by rw[List.length_append,wl];rfl,fun x hx=>?_⟩
   rcases List.mem_append.mp hx with e | e
   ·exact wm x e
   ·rw[List.mem_singleton.mp e];exact gm
  rintro ys G5 yl5 ⟨kG5,BG5,ows0,rfl,wl0,wm0⟩ ow how
  have owp:ow≠p:=BG5.ne how
  have ow0:H ow=none:=by
   cases e:H ow with
   |none=>rfl
   |some o =>
    have:=kG5 _ _ owp (s14 _ _ e)
    rw[how]at this
    cases this
  have sw:=Same.new (o:=.lst (ows0.map V.int)) how
  have gow5:(upd G5 ow (.lst (ows0.map V.int))) ow=some (.lst (ows0.map V.int)):=upd_same
  have B5:=BG5.same sw
  have k45:Kept p H4 (upd G5 ow (.lst (ows0.map V.int))):=kG5.trans (same_kept sw)
  have olw:ol≠ow:=fun z=>by rw[<- z,kG5 _ _ olp gol4]at how;cases how
  have qw:q≠ow:=fun z=>by rw[<- z,kG5 _ _ qp (s14 _ _ hq)]at how;cases how
  generalize (upd G5 ow (.lst (ows0.map V.int)))=H5 at sw gow5 B5 k45
  have gol5:=k45 _ _ olp gol4
  have hq5:=k45 _ _ qp (s14 _ _ hq)
  have gu5:=kept_tup B4 k45 gu4
  have W5:=(W.same s14).keptB B4 k45
  have W51:=W14.keptB B4 k45
  have k05:Kept p H H5:=(same_kept s14).trans k45
  clear l1 l2 l3 W14 gu4 gol4 kG5 BG5 sw how yl5 s14 B4 k45
  refine⟨_,rfl,ol,rfl,⟨_,SqL.of gol5⟩,?_⟩
  refine for_list (K:=K) (a:=ol) (xs:=os.map V.int) (fun i σ G=>∃ (v8:Option V) (ows:List Int),σ=[some (.ref p),some (.ref t),some (.ref q),some (.ref w1),some (.ref u1),some (.ref ol),some (.int m2),some (.ref ow),v8,none,none,none,none,none]/\Kept ow H5 G/\G ow=some (.lst (ows.map V.int))/\ows.length=kOf nm/\(∀ x∈ows,x∈os)/\∀ o∈os.take i,nmAt ows o=o) ⟨_,ows0,rfl,Kept.refl,gow5,wl0,wm0,fun o ho=>by rw[List.take_zero]at ho;cases ho⟩ (fun i σ G _ z=>by obtain⟨_,_,_,k,_⟩:=z;exact SqL.of (k _ _ olw gol5)) ?_ ?_
  ·rintro i x σ G hx ⟨v8,ows,rfl,kG,gw,wl,wm,wf⟩
   obtain⟨il,e⟩:=List.getElem?_eq_some_iff.mp hx
   rw[List.length_map]at il
   rw[List.getElem_map]at e
   subst e
   have om:os[i]∈os:=List.getElem_mem il
   obtain⟨o0,o1⟩:=PO2.rg _ om
   obtain⟨j,ej⟩:∃ j:Nat,os[i]=(j:Int):=⟨os[i].toNat,by lia⟩
   rw[List.take_succ_eq_append_getElem il]
   rw[ej]at om o0 o1 ⊢
   refine⟨_,rfl,_,rfl,_,rfl,ow,_,_,j,rfl,rfl,gw,by rw[List.length_map];exact ixN_nat (by lia),?_⟩
   refine⟨_,ows.set j (j:Int),rfl,fun b o nb e=>by rw[upd_ne nb];exact kG _ _ nb e,by rw[upd_same,List.map_set],by rw[List.length_set,wl],fun x hx=>?_,fun o ho=>?_⟩
   ·rcases List.mem_or_eq_of_mem_set hx with z | z
    ·exact wm x z
    ·rw[z];exact om
   ·have o0:0<=o:=by
     rcases List.mem_append.mp ho with z | z
     ·exact(PO2.rg o (List.mem_of_mem_take z)).1
     ·rw[List.mem_singleton.mp z];omega
    rw[nm_set (by lia) o0]
    by_cases c:o=(j:Int)
    ·rw[if_pos c,c]
    ·rw[if_neg c]
     rcases List.mem_append.mp ho with z | z
     ·exact wf o z
     ·exact absurd (List.mem_singleton.mp z) c
  rintro σ H6 ⟨v8,ows,rfl,k6,gow,wl,wm,wf⟩
  rw[List.length_map,List.take_length]at wf
  have gol6:=k6 _ _ olw gol5
  have hq6:=k6 _ _ qw hq5
  have uw:u1≠ow:=fun z=>by rw[z,gow5]at gu5;cases gu5
  have gu6:=k6 _ _ uw gu5
  have W6:=W5.kept k6 gow5 (fun xs z=>by cases z)
  have W61:=W51.kept k6 gow5 (fun xs z=>by cases z)
  have k06:Kept p H H6:=fun b o nb e=>k6 _ _ (ne_of_none e ow0) (k05 b o nb e)
  clear W5 W51 gu5 hq5 gol5 B5
  have RW:Shk.RowF (kOf nm) os (nmAt ows):=⟨wf,fun v v0 v1=>wm _ (nmAt_get v0 (by lia)).2⟩
  -- far
  refine⟨_,rfl,q,rfl,⟨_,SqL.of hq6⟩,?_⟩
  refine comp_list (K:=K) (a:=q) (xs:=ps.map V.int) (fun i ys G=>Same H6 G/\∃ bs:List Addr,ys=bs.map V.ref/\Paired (fun b (x:Key×V)=>G b=some (.tup [kV x.1,x.2])) bs (kvF (nmAt nm) (fun x=>x) (ps.take i))) (by rw[List.length_map,sizeLine_eq];lia) ⟨Same.refl _,[],rfl,.nil⟩ (fun i ys G _ z=>SqL.of (z.1 _ _ hq6)) ?_ ?_
  ·rintro i x ys G hx ⟨sG,bs,rfl,PB⟩
   obtain⟨il,e⟩:=List.getElem?_eq_some_iff.mp hx
   rw[List.length_map]at il
   rw[List.getElem_map]at e
   subst e
   obtain⟨q0,q1⟩:=po.rg _ (List.getElem_mem il)
   refine⟨⟨rfl,trivial⟩,tTru_if ⟨_,rfl,_,rfl,u1,_,_,_,rfl,rfl,sG _ _ gu6,nmat _ q0 q1,_,rfl,(by show 2<=sizeLine;decide),fun tp htp=>⟨sG.trans (Same.new htp),bs++[tp],by rw[List.map_append];rfl,?_⟩⟩⟩
   have e:kvF (nmAt nm) (fun x=>x) (ps.take (i+1))=kvF (nmAt nm) (fun x=>x) (ps.take i)++[(Sum.inl (nmAt nm ps[i]),V.int ps[i])]:=by unfold kvF;rw[List.take_succ_eq_append_getElem il,List.map_append];rfl
   rw[e]
   exact Paired.snoc (Paired.mapP PB fun _ _ z=>(Same.new htp) _ _ z) upd_same
  rintro ys G7 yl7 ⟨sG7,bs7,rfl,PB7⟩ D7 hD7
  rw[List.length_map,List.take_length]at PB7
  have s7:=sG7.trans (Same.new (o:=.lst (bs7.map V.ref)) hD7)
  have kl:(kvF (nmAt nm) (fun x=>x) ps).length=ps.length:=by unfold kvF;rw[List.length_map]
  refine⟨D7,bs7,kvF (nmAt nm) (fun x=>x) ps,rfl,SqL.of upd_same,Paired.mapP PB7 fun _ _ z=>(Same.new hD7) _ _ z,by rw[kl,sizeLine_eq];lia,fun fa hfa=>?_⟩
  have s8:=s7.trans (Same.new (o:=.dK (putPk (kvF (nmAt nm) (fun x=>x) ps))) hfa)
  have gfa:(upd (upd G7 D7 (.lst (bs7.map V.ref))) fa (.dK (putPk (kvF (nmAt nm) (fun x=>x) ps)))) fa=some (.dK (putPk (kvF (nmAt nm) (fun x=>x) ps))):=upd_same
  generalize (upd (upd G7 D7 (.lst (bs7.map V.ref))) fa (.dK (putPk (kvF (nmAt nm) (fun x=>x) ps))))=H8 at s8 gfa
  clear s7 PB7
  -- carried
  have gu8:=s8 _ _ gu6
  have gow8:=s8 _ _ gow
  refine⟨_,rfl,u1,rfl,⟨_,SqT.of gu8⟩,?_⟩
  refine comp_tup (K:=K) (a:=u1) (xs:=nm.map V.int) (fun i ys G=>Same H8 G/\ys=((nm.take i).map fun y=>Shk.far ps (nmAt nm) (nmAt ows y)).map V.int) (by rw[List.length_map,sizeLine_eq];lia) ⟨Same.refl _,rfl⟩ (fun i ys G _ z=>SqT.of (z.1 _ _ gu8)) ?_ ?_
  ·rintro i x ys G hx ⟨sG,rfl⟩
   obtain⟨il,e⟩:=List.getElem?_eq_some_iff.mp hx
   rw[List.length_map]at il
   rw[List.getElem_map]at e
   subst e
   obtain⟨y0,y1⟩:=NO.rg _ (List.getElem_mem il)
   rw[List.take_succ_eq_append_getElem il,List.map_append,List.map_append]
   generalize nm[i]=y at *
   have om:=wm _ (nmAt_get (nm:=ows) y0 (by lia)).2
   obtain⟨p',hp',ep'⟩:=List.mem_map.mp (pm.mem_iff.mp om)
   have g0:DGet G fa (V.int (nmAt ows y)) (valV (putPk (kvF (nmAt nm) (fun x=>x) ps)) (Sum.inl (nmAt ows y))):=DGet.k (k:=Sum.inl (nmAt ows y)) (sG _ _ gfa)
   rw[<- ep',val_kvF NO.post p' hp']at g0
   refine⟨⟨rfl,rfl,trivial⟩,tTru_if ⟨_,rfl,_,rfl,_,rfl,ow,_,_,_,rfl,rfl,sG _ _ gow8,(nmAt_get (nm:=ows) y0 (by lia)).1,fa,_,rfl,by rw[<- ep'];exact g0,sG,?_⟩⟩
   show _=_++[V.int (Shk.far ps (nmAt nm) (nmAt ows y))]
   rw[<- ep',Shk.far_eq N1 hp']
  rintro ys G9 yl9 ⟨sG9,rfl⟩ D9 hD9
  rw[List.length_map,List.take_length]
  refine⟨D9,_,rfl,upd_same,fun ca hca=>?_⟩
  have hcar:∀ v:Int,0<=v->v<n->nmAt (nm.map fun y=>Shk.far ps (nmAt nm) (nmAt ows y)) v=Shk.far ps (nmAt nm) (nmAt ows (nmAt nm v)):=fun v v0 v1=>by
   obtain⟨j,rfl⟩:∃ j:Nat,v=(j:Int):=⟨v.toNat,by lia⟩
   have jl:j<nm.length:=by lia
   rw[nm_at,nm_at,Shk.at_get (by rw[List.length_map];exact jl),Shk.at_get jl,List.getElem_map]
  have cl:(nm.map fun y=>Shk.far ps (nmAt nm) (nmAt ows y)).length=n:=by rw[List.length_map,nl]
  generalize (nm.map fun y=>Shk.far ps (nmAt nm) (nmAt ows y))=car at *
  have s9:=sG9.trans ((Same.new (o:=.lst (car.map V.int)) hD9).trans (Same.new (o:=.tup (car.map V.int)) hca))
  have gca:(upd (upd G9 D9 (.lst (car.map V.int))) ca (.tup (car.map V.int))) ca=some (.tup (car.map V.int)):=upd_same
  generalize (upd (upd G9 D9 (.lst (car.map V.int))) ca (.tup (car.map V.int)))=H9 at s9 gca
  have s69:=s8.trans s9
  have W9:=W6.same s69
  have W91:=W61.same s69
  -- what the rows weigh
  refine⟨_,rfl,_,rfl,_,rfl,ow,_,rfl,s69 _ _ gow,fun tu htu=>?_⟩
  have sA:=Same.new (o:=.tup (ows.map V.int)) htu
  refine⟨w1,tu,kOf nm,mrgL nm ties,ows,rfl,W91.same sA,ok1,upd_same,wl,fun c1 as1 HB gc1 PT1 sB=>?_⟩
  have tl1:=W91.2
  refine⟨w1,c1,kOf nm,mrgL nm ties,_,as1,rfl,(W91.same sA).same sB,pw1,gc1,PT1,Nat.le_trans (List.length_filter_le _ _) tl1,fun x hx=>(List.mem_filter.mp hx).1,fun HC sC=>?_⟩
  have s9C:=sA.trans (sB.trans sC)
  refine⟨_,rfl,_,rfl,_,rfl,t,ca,n,ties,car,rfl,W9.same s9C,ok,s9C _ _ gca,cl,fun c2 as2 HD gc2 PT2 sD=>?_⟩
  have tl2:=W9.2
  refine⟨t,c2,n,ties,_,as2,rfl,(W9.same s9C).same sD,pw,gc2,PT2,Nat.le_trans (List.length_filter_le _ _) tl2,fun x hx=>(List.mem_filter.mp hx).1,fun HE sE=>?_⟩
  have ew:=carried_same ok po.rg NO MO ok1 pm RW hcar
  rw[ew]
  refine⟨rfl,_,rfl,iteNS rfl ?_⟩
  have sE9:=s9C.trans (sD.trans sE)
  have s6E:=s69.trans sE9
  have hqE:=s6E _ _ hq6
  have guE:=s6E _ _ gu6
  have golE:=s6E _ _ gol6
  have WE:=W6.same s6E
  have WE1:=W61.same s6E
  have k0E:Kept p H HE:=k06.trans (same_kept s6E)
  clear W9 W91 s9C sE9 s6E s69 W6 W61 gu6 hq6 gol6 gow8 gu8 gfa s8 s9 sA sB sC sD sE htu PT1 PT2 gc1 gc2 hD9 hca sG9 hD7 sG7 yl7 yl9 k6 gow5 k06 k05 gca
  -- single values
  have Po1:Posts n ps:=⟨po.nd,po.rg⟩
  have Po2:Posts (kOf nm) os:=⟨PO2.nd,PO2.rg⟩
  refine⟨_,rfl,_,rfl,_,rfl,t,q,n,ties,false,ps,rfl,WE,ok,by lia,hqE,Po1,fun sl xs HF _ gsl TA _ _ _ sF=>?_⟩
  have xl:xs.length=ps.length:=TA.length
  have hqF:=sF _ _ hqE
  have guF:=sF _ _ guE
  refine⟨q,sl,rfl,⟨_,SqL.of hqF⟩,⟨_,SqL.of gsl⟩,?_⟩
  refine comp_zip (K:=K) (b1:=false) (b2:=false) (l1:=q) (l2:=sl) (xs:=ps.map V.int) (ys:=xs.map fun x=>V.ref x.r) (fun i ys G=>Same HF G/\∃ bs:List Addr,ys=bs.map V.ref/\Paired (fun b (x:Key×V)=>G b=some (.tup [kV x.1,x.2])) bs (kvF (nmAt nm) (vq n ties ps) (ps.take i))) (by rw[List.length_map,List.length_map,sizeLine_eq];lia) ⟨Same.refl _,[],rfl,.nil⟩ (fun i ys G _ z=>⟨SqL.of (z.1 _ _ hqF),SqL.of (z.1 _ _ gsl)⟩) ?_ ?_
  ·rintro i x y zs G U hx hy ⟨sG,bs,rfl,PB⟩ hU
   obtain⟨il,e⟩:=List.getElem?_eq_some_iff.mp hx
   obtain⟨jl,e'⟩:=List.getElem?_eq_some_iff.mp hy
   rw[List.length_map]at il jl
   rw[List.getElem_map]at e e'
   subst e e'
   obtain⟨q0,q1⟩:=po.rg _ (List.getElem_mem il)
   have sU:=Same.new (o:=.tup [V.int ps[i],V.ref xs[i].r]) hU
   have sGU:=sG.trans sU
   have tj:=(Paired.at TA i jl il).same sGU
   have ev:=vq_eq ok (Po1.ends (List.getElem_mem il)) tj.ok.gr
   have gr':=tj.gr
   rw[ev]at gr'
   refine⟨U,_,rfl,SqT.of upd_same,rfl,_,_,rfl,_,_,rfl,rfl,⟨rfl,trivial⟩,tTru_if ⟨_,rfl,_,rfl,u1,_,_,_,rfl,rfl,sGU _ _ guF,nmat _ q0 q1,_,rfl,xs[i].r,_,_,_,rfl,rfl,gr',at0,(by show 2<=sizeLine;decide),fun tp htp=>⟨sGU.trans (Same.new htp),bs++[tp],by rw[List.map_append];rfl,?_⟩⟩⟩
   have e:kvF (nmAt nm) (vq n ties ps) (ps.take (i+1))=kvF (nmAt nm) (vq n ties ps) (ps.take i)++[(Sum.inl (nmAt nm ps[i]),V.int (vq n ties ps ps[i]))]:=by unfold kvF;rw[List.take_succ_eq_append_getElem il,List.map_append];rfl
   rw[e]
   exact Paired.snoc (Paired.mapP PB fun _ _ z=>(Same.new htp) _ _ (sU _ _ z)) upd_same
  rintro ys GF ylF ⟨sGF,bsF,rfl,PBF⟩ DF hDF
  rw[show min (ps.map V.int).length (xs.map fun x=>V.ref x.r).length=ps.length by rw[List.length_map,List.length_map];lia,List.take_length]at PBF
  have kl2:(kvF (nmAt nm) (vq n ties ps) ps).length=ps.length:=by unfold kvF;rw[List.length_map]
  refine⟨DF,bsF,kvF (nmAt nm) (vq n ties ps) ps,rfl,SqL.of upd_same,Paired.mapP PBF fun _ _ z=>(Same.new hDF) _ _ z,by rw[kl2,sizeLine_eq];lia,fun va hva=>?_⟩
  have sH:=sF.trans (sGF.trans ((Same.new (o:=.lst (bsF.map V.ref)) hDF).trans (Same.new (o:=.dK (putPk (kvF (nmAt nm) (vq n ties ps) ps))) hva)))
  have gva:(upd (upd GF DF (.lst (bsF.map V.ref))) va (.dK (putPk (kvF (nmAt nm) (vq n ties ps) ps)))) va=some (.dK (putPk (kvF (nmAt nm) (vq n ties ps) ps))):=upd_same
  have TAg:∀ p∈ps,∃ am,Flw.Great n ties [p] (others ps p) am:=fun p hp=>by
   obtain⟨j,jl,e⟩:=List.mem_iff_getElem.mp hp
   have:=(Paired.at TA j (by lia) jl).ok.gr
   rw[e]at this
   exact⟨_,this⟩
  generalize (upd (upd GF DF (.lst (bsF.map V.ref))) va (.dK (putPk (kvF (nmAt nm) (vq n ties ps) ps))))=HH at sH gva
  have golH:=sH _ _ golE
  have WH1:=WE1.same sH
  -- those of the less web
  refine⟨_,rfl,_,rfl,w1,ol,kOf nm,mrgL nm ties,false,os,rfl,WH1,ok1,by lia,golH,Po2,fun sl2 xs2 HI _ gsl2 TA2 _ _ _ sI=>?_⟩
  have xl2:xs2.length=os.length:=TA2.length
  refine⟨sl2,rfl,⟨_,SqL.of gsl2⟩,?_⟩
  refine comp_list (K:=K) (a:=sl2) (xs:=xs2.map fun x=>V.ref x.r) (fun i ys G=>Same HI G/\ys=((os.take i).map (vq (kOf nm) (mrgL nm ties) os)).map V.int) (by rw[List.length_map,sizeLine_eq];lia) ⟨Same.refl _,rfl⟩ (fun i ys G _ z=>SqL.of (z.1 _ _ gsl2)) ?_ ?_
  ·rintro i x ys G hx ⟨sG,rfl⟩
   obtain⟨il,e⟩:=List.getElem?_eq_some_iff.mp hx
   rw[List.length_map]at il
   rw[List.getElem_map]at e
   subst e
   have io:i<os.length:=by lia
   have tj:=(Paired.at TA2 i il io).same sG
   have ev:=vq_eq ok1 (Po2.ends (List.getElem_mem io)) tj.ok.gr
   have gr':=tj.gr
   rw[ev]at gr'
   refine⟨trivial,tTru_if ⟨_,rfl,xs2[i].r,_,_,_,rfl,rfl,gr',at0,sG,?_⟩⟩
   rw[List.take_succ_eq_append_getElem io,List.map_append,List.map_append]
   rfl
  rintro ys GI2 ylI ⟨sGI,rfl⟩ DI hDI
  rw[List.length_map,xl2,List.take_length]
  have sJ:=sI.trans (sGI.trans (Same.new (o:=.lst ((os.map (vq (kOf nm) (mrgL nm ties) os)).map V.int)) hDI))
  have gDI:(upd GI2 DI (.lst ((os.map (vq (kOf nm) (mrgL nm ties) os)).map V.int))) DI=some (.lst ((os.map (vq (kOf nm) (mrgL nm ties) os)).map V.int)):=upd_same
  have TAg2:∀ o∈os,∃ am,Flw.Great (kOf nm) (mrgL nm ties) [o] (others os o) am:=fun o ho=>by
   obtain⟨j,jl,e⟩:=List.mem_iff_getElem.mp ho
   have:=(Paired.at TA2 j (by lia) jl).ok.gr
   rw[e]at this
   exact⟨_,this⟩
  generalize (upd GI2 DI (.lst ((os.map (vq (kOf nm) (mrgL nm ties) os)).map V.int)))=HJ at sJ gDI
  have golJ:=sJ _ _ golH
  have gvaJ:=sJ _ _ gva
  refine⟨_,rfl,ol,rfl,⟨_,SqL.of golJ⟩,?_⟩
  refine comp_list (K:=K) (a:=ol) (xs:=os.map V.int) (fun i ys G=>Same HJ G/\ys=((os.take i).map (vq (kOf nm) (mrgL nm ties) os)).map V.int) (by rw[List.length_map,sizeLine_eq];lia) ⟨Same.refl _,rfl⟩ (fun i ys G _ z=>SqL.of (z.1 _ _ golJ)) ?_ ?_
  ·rintro i x ys G hx ⟨sG,rfl⟩
   obtain⟨il,e⟩:=List.getElem?_eq_some_iff.mp hx
   rw[List.length_map]at il
   rw[List.getElem_map]at e
   subst e
   have om:os[i]∈os:=List.getElem_mem il
   obtain⟨p',hp',ep'⟩:=List.mem_map.mp (pm.mem_iff.mp om)
   obtain⟨am,ga⟩:=TAg p' hp'
   obtain⟨am2,ga2⟩:=TAg2 _ om
   rw[List.take_succ_eq_append_getElem il,List.map_append,List.map_append]
   generalize os[i]=o at *
   subst ep'
   have ev:=vq_same ok po.nd po.rg NO SH MO ok1 pm hp' ga ga2
   have g0:DGet G va (V.int (nmAt nm p')) (valV (putPk (kvF (nmAt nm) (vq n ties ps) ps)) (Sum.inl (nmAt nm p'))):=DGet.k (k:=Sum.inl (nmAt nm p')) (sG _ _ gvaJ)
   rw[val_kvF NO.post p' hp',ev]at g0
   exact⟨⟨rfl,trivial⟩,tTru_if ⟨_,rfl,_,rfl,va,_,rfl,g0,sG,rfl⟩⟩
  rintro ys GK ylK ⟨sGK,rfl⟩ DK hDK
  rw[List.length_map,List.take_length]
  have sK:=sGK.trans (Same.new (o:=.lst ((os.map (vq (kOf nm) (mrgL nm ties) os)).map V.int)) hDK)
  have gDK:(upd GK DK (.lst ((os.map (vq (kOf nm) (mrgL nm ties) os)).map V.int))) DK=some (.lst ((os.map (vq (kOf nm) (mrgL nm ties) os)).map V.int)):=upd_same
  generalize (upd GK DK (.lst ((os.map (vq (kOf nm) (mrgL nm ties) os)).map V.int)))=HK at sK gDK
  refine⟨0,_,dat_ints 0 (sK _ _ gDI) (by rw[List.length_map];lia),dat_ints 0 gDK (by rw[List.length_map];lia),rfl,by decide,_,rfl,iteF ?_⟩
  -- made less again
  have sHK:=sJ.trans sK
  have golK:=sHK _ _ golH
  have WK1:=WH1.same sHK
  have k0K:Kept p H HK:=k0E.trans (same_kept (sH.trans sHK))
  clear WE WE1 WH1 TA TA2 gsl gsl2 gva gvaJ golJ golH golE guE guF hqE hqF gDI gDK TAg TAg2 k0E sJ sK sH sHK sGK sGI sGF sF sI PBF
  refine⟨_,rfl,_,rfl,w1,ol,kOf nm,mrgL nm ties,false,os,rfl,WK1,ok1,golK,by lia,PO2,fun r2 w2 u2 HL gr2 W2 ok2 pw2 gu2 NO2 SH2 MO2 sL=>?_⟩
  refine⟨r2,_,rfl,SqT.of gr2,rfl,_,_,rfl,_,_,rfl,rfl,?_⟩
  generalize shr (mrgL nm ties) os os (upto (kOf nm))=nm2 at *
  have nl2:=NO2.len
  have kp2:=NO2.pos kp.1
  have golL:=sL _ _ golK
  refine⟨_,rfl,_,rfl,ol,rfl,⟨_,SqL.of golL⟩,?_⟩
  refine comp_list (K:=K) (a:=ol) (xs:=os.map V.int) (fun i ys G=>Same HL G/\ys=((os.take i).map (nmAt nm2)).map V.int) (by rw[List.length_map,sizeLine_eq];lia) ⟨Same.refl _,rfl⟩ (fun i ys G _ z=>SqL.of (z.1 _ _ golL)) ?_ ?_
  ·rintro i x ys G hx ⟨sG,rfl⟩
   obtain⟨il,e⟩:=List.getElem?_eq_some_iff.mp hx
   rw[List.length_map]at il
   rw[List.getElem_map]at e
   subst e
   obtain⟨q0,q1⟩:=PO2.rg _ (List.getElem_mem il)
   refine⟨⟨rfl,trivial⟩,tTru_if ⟨_,rfl,_,rfl,u2,_,_,_,rfl,rfl,sG _ _ gu2,(nmAt_get q0 (by lia)).1,sG,?_⟩⟩
   rw[List.take_succ_eq_append_getElem il,List.map_append,List.map_append]
   rfl
  rintro ys GM ylM ⟨sGM,rfl⟩ DM hDM
  rw[List.length_map,List.take_length]
  refine⟨DM,_,rfl,upd_same,by rw[List.length_map];lia,fun ol2 os2 hol2 pm2 _=>?_⟩
  have sM:=sGM.trans ((Same.new (o:=.lst ((os.map (nmAt nm2)).map V.int)) hDM).trans (Same.new (o:=.lst (os2.map V.int)) hol2))
  have gol2:(upd (upd GM DM (.lst ((os.map (nmAt nm2)).map V.int))) ol2 (.lst (os2.map V.int))) ol2=some (.lst (os2.map V.int)):=upd_same
  generalize (upd (upd GM DM (.lst ((os.map (nmAt nm2)).map V.int))) ol2 (.lst (os2.map V.int)))=HM at sM gol2
  have ol7:os2.length=os.length:=by rw[pm2.length_eq,List.length_map]
  have PO3:=os_ok kp.1 (by lia) PO2.nd PO2.rg NO2 pm2
  have LR3:=least_same ok1 PO2.nd PO2.rg NO2 SH2 MO2 pm2 LR1
  refine⟨w2,ol2,kOf nm2,mrgL nm2 (mrgL nm ties),os2,rfl,W2.same sM,ok2,by lia,gol2,by lia,by lia,PO3.rg,fun m3 HN LR4 sN=>?_⟩
  have em:=LR4.uniq LR3
  subst em
  refine⟨_,rfl,rfl,?_⟩
  rw[decide_eq_true rfl]
  exact fin _ (k0K.trans (same_kept (sL.trans (sM.trans sN))))
end
open PySem L2 PyProof.Rows
theorem kept_same{p:Addr}{H H':Hp}(h:H p=none)(k:Kept p H H'):Same H H':=fun b o e=>k b o (ne_of_none e h) e
noncomputable def spLaw(K:PySem.W.Frag):Sp:=fun vs H Q _=>∃ (a:Addr) (ns:List Int),vs=[.ref a]/\SqL K H a (ns.map V.int)/\ns.length<=63/\∀ H',Q (.bl true) H'
section
variable{P:Program}{w:World}{K:PySem.W.Frag}{mg:Str->Option Value}{base:Heap}
structure Fs(P:Program)(w:World)(K:PySem.W.Frag)(mg:Str->Option Value)(base:Heap)(g1 g2 g3 g4 g5:Addr)(d1 d2 d3 d4 d5:FuncData):Prop where
 box:CalF P w K mg base 2 "_law_box" ["_law_script","_law_k"] (spBox K) g1 d1
 take:TakeF P w K mg base g2 d2
 web:CalF P w K mg base 3 "_law_web" ["_law_box_here","_law_many_here"] spWeb g3 d3
 posts:CalF P w K mg base 2 "_law_posts" ["_law_box_here","_law_many_here","_law_most"] spPo g4 d4
 right:CalF P w K mg base 7 "_law_right" ["_law_box_here","_law_web_here","_law_posts_here"] spRi g5 d5
noncomputable abbrev nLaw:List Str:=["_law_script","_law_k","_law_box_here","_law_many_here","_law_web_here","_law_posts_here"]
theorem scLaw:FnScope nLaw ["_law_script"] (defScope sLaw):=⟨rfl,rfl,rfl,by decide +kernel,rfl,by decide +kernel,by decide +kernel⟩
theorem ok_law{f g1 g2 g3 g4 g5:Addr}{fd d1 d2 d3 d4 d5:FuncData}(F:Fun K "law" "law" sLaw f fd)(T:Txt mg)(S:Fs P w K mg base g1 g2 g3 g4 g5 d1 d2 d3 d4 d5):FnOk P w K mg base CX0 8 f fd ["_law_script"] (spLaw K):=by
 refine F.ok scLaw (fun vs H Q E h=>?_) (fun cdv A outer s H vs Q E hr h=>?_)
 ·obtain⟨a,ns,rfl,_⟩:=h
  rfl
 ·obtain⟨a,ns,rfl,hS,hlen,q⟩:=h
  have hr1:Room 1 _:=hr.mono (by decide)
  have hr2:Room 2 _:=hr.mono (by decide)
  have hr3:Room 3 _:=hr.mono (by decide)
  refine⟨_,(pss_cons (ps_for PassesOwn.never rfl (pi_range1 rfl T.range (@pa_bin _ _ _ _ _ _ _ _ (pe_op op_add pe_int (pe_callB (call_min2 rfl) (by rfl) T.min boot_min (@pa_cst _ _ _ _ _ _ _ pe_int (@pa_call _ _ _ _ _ _ _ _ (pe_callB call_len_seq (by rfl) T.len PySem.boot_len (@pa_nam _ _ _ _ _ _ (pv 0) pa_nil)) pa_nil)))) pa_nil)) (pg_name (i:=1) scLaw.nd rfl (Or.inl rfl))
   (pss_cons (ps_set (i:=2) scLaw.nd rfl (Or.inl rfl) (pe_call S.box.ok hr2 rfl S.box.mg S.box.kp S.box.bd .nil pass0 (@pa_nam _ _ _ _ _ _ (pv 0) (@pa_nam _ _ _ _ _ _ (pv 1) pa_nil))))
   (pss_cons (ps_set (i:=3) scLaw.nd rfl (Or.inl rfl) (pe_op op_add pe_int (pe_call S.take.ok hr1 rfl S.take.mg S.take.kp S.take.bd .nil pass0 (@pa_nam _ _ _ _ _ _ (pv 2) (@pa_cst _ _ _ _ _ _ _ pe_int pa_nil)))))
   (pss_cons (ps_set (i:=4) scLaw.nd rfl (Or.inl rfl) (pe_call S.web.ok hr3 rfl S.web.mg S.web.kp S.web.bd .nil pass0 (@pa_nam _ _ _ _ _ _ (pv 2) (@pa_nam _ _ _ _ _ _ (pv 3) pa_nil))))
   (pss_cons (ps_set (i:=5) scLaw.nd rfl (Or.inl rfl) (pe_call S.posts.ok hr2 rfl S.posts.mg S.posts.kp S.posts.bd .nil pass0 (@pa_nam _ _ _ _ _ _ (pv 2) (@pa_nam _ _ _ _ _ _ (pv 3) (@pa_cst _ _ _ _ _ _ _ pe_int pa_nil)))))
   (pss_one (ps_if (pt_not (pt_val (pe_call S.right.ok hr rfl S.right.mg S.right.kp S.right.bd .nil pass0 (@pa_nam _ _ _ _ _ _ (pv 2) (@pa_nam _ _ _ _ _ _ (pv 4) (@pa_nam _ _ _ _ _ _ (pv 5) pa_nil)))))) pss_never pss_nil)))))))
   (pss_one (ps_ret pe_bl))),?_⟩
  refine⟨_,rfl,a,_,rfl,.inl hS,_,_,rfl,_,_,rfl,rfl,_,rfl,?_,?_,?_⟩
  ·split <;> lia
  ·split <;> lia
  generalize ((1:Int)+(if((ns.map V.int).length:Int)<5 then((ns.map V.int).length:Int)else 5)).toNat=turns
  refine for_range (lo:=0) (n:=turns) (fun i σ H'=>∃ (v1 v2 v3 v4 v5:Option V),σ=[some (.ref a),v1,v2,v3,v4,v5]/\Same H H') ⟨_,_,_,_,_,rfl,Same.refl _⟩ ?_ ?_
  ·rintro i σ H0 hi ⟨v1,v2,v3,v4,v5,rfl,s0⟩
   refine⟨_,rfl,_,rfl,a,ns,0+i,by rw[Int.zero_add,Nat.zero_add];rfl,s0.seq hS,fun p H1 hp B1 k1=>?_⟩
   refine⟨_,rfl,p,5,0,rfl,B1,by decide,by decide,by decide,fun z H2 z0 z1 B2 k2=>?_⟩
   obtain⟨n,en⟩:∃ n:Nat,3+z=(n:Int):=⟨(3+z).toNat,by lia⟩
   refine⟨3,z,rfl,rfl,?_⟩
   refine⟨_,rfl,_,rfl,p,n,_,by show [V.ref p,V.int (3+z)]=_;rw[en],B2,by decide,by lia,by lia,fun t ties H3 ht W3 ok pw B3 k3=>?_⟩
   refine⟨_,rfl,_,rfl,p,n,_,4,by show [V.ref p,V.int (3+z),V.int 4]=_;rw[en],B3,by decide,by lia,by lia,by decide,by decide,fun l ps H4 hl gl lp po B4 k4=>?_⟩
   have W4:=W3.keptB B3 k4
   have k04:Kept p H0 H4:=k1.trans (k2.trans (k3.trans k4))
   refine⟨_,rfl,_,rfl,_,rfl,p,t,l,n,_,ties,ps,rfl,B4,by decide,W4,ok,pw,by lia,by lia,gl,lp,po,fun H5 k5=>?_⟩
   refine⟨_,rfl,iteF ?_⟩
   exact⟨_,_,_,_,_,rfl,s0.trans (kept_same hp (k04.trans k5))⟩
  ·rintro σ H' ⟨v1,v2,v3,v4,v5,rfl,s0⟩
   exact q H'
end
open PySem L2 PyProof.Rows
theorem leS{k:Nat}{motive:List Value->Prop}(us:List Value)(hl:us.length=k+1)(h:∀ a t,t.length=k->motive (a :: t)):motive us:=by
 cases us with
 |nil=>cases hl
 |cons a t=>exact h a t (Nat.succ.inj hl)
theorem leZ{motive:List Value->Prop}(us:List Value)(hl:us.length=0)(h:motive []):motive us:=by
 cases us with
 |nil=>exact h
 |cons a t=>cases hl
@[elab_as_elim] theorem le1{motive:List Value->Prop}(us:List Value)(hl:us.length=1)(k:∀ a0,motive [a0]):motive us:=leS (motive:=fun u=>motive (u)) us hl fun a0 t0 h0=>leZ (motive:=fun u=>motive (a0 :: u)) t0 h0 (k a0)
@[elab_as_elim] theorem le2{motive:List Value->Prop}(us:List Value)(hl:us.length=2)(k:∀ a0 a1,motive [a0,a1]):motive us:=leS (motive:=fun u=>motive (u)) us hl fun a0 t0 h0=>leS (motive:=fun u=>motive (a0 :: u)) t0 h0 fun a1 t1 h1=>leZ (motive:=fun u=>motive (a0 :: a1 :: u)) t1 h1 (k a0 a1)
@[elab_as_elim] theorem le3{motive:List Value->Prop}(us:List Value)(hl:us.length=3)(k:∀ a0 a1 a2,motive [a0,a1,a2]):motive us:=leS (motive:=fun u=>motive (u)) us hl fun a0 t0 h0=>leS (motive:=fun u=>motive (a0 :: u)) t0 h0 fun a1 t1 h1=>leS (motive:=fun u=>motive (a0 :: a1 :: u)) t1 h1 fun a2 t2 h2=>leZ (motive:=fun u=>motive (a0 :: a1 :: a2 :: u)) t2 h2 (k a0 a1 a2)
@[elab_as_elim] theorem le4{motive:List Value->Prop}(us:List Value)(hl:us.length=4)(k:∀ a0 a1 a2 a3,motive [a0,a1,a2,a3]):motive us:=leS (motive:=fun u=>motive (u)) us hl fun a0 t0 h0=>leS (motive:=fun u=>motive (a0 :: u)) t0 h0 fun a1 t1 h1=>leS (motive:=fun u=>motive (a0 :: a1 :: u)) t1 h1 fun a2 t2 h2=>leS (motive:=fun u=>motive (a0 :: a1 :: a2 :: u)) t2 h2 fun a3 t3 h3=>leZ (motive:=fun u=>motive (a0 :: a1 :: a2 :: a3 :: u)) t3 h3 (k a0 a1 a2 a3)
@[elab_as_elim] theorem le5{motive:List Value->Prop}(us:List Value)(hl:us.length=5)(k:∀ a0 a1 a2 a3 a4,motive [a0,a1,a2,a3,a4]):motive us:=leS (motive:=fun u=>motive (u)) us hl fun a0 t0 h0=>leS (motive:=fun u=>motive (a0 :: u)) t0 h0 fun a1 t1 h1=>leS (motive:=fun u=>motive (a0 :: a1 :: u)) t1 h1 fun a2 t2 h2=>leS (motive:=fun u=>motive (a0 :: a1 :: a2 :: u)) t2 h2 fun a3 t3 h3=>leS (motive:=fun u=>motive (a0 :: a1 :: a2 :: a3 :: u)) t3 h3 fun a4 t4 h4=>leZ (motive:=fun u=>motive (a0 :: a1 :: a2 :: a3 :: a4 :: u)) t4 h4 (k a0 a1 a2 a3 a4)
@[elab_as_elim] theorem le6{motive:List Value->Prop}(us:List Value)(hl:us.length=6)(k:∀ a0 a1 a2 a3 a4 a5,motive [a0,a1,a2,a3,a4,a5]):motive us:=leS (motive:=fun u=>motive (u)) us hl fun a0 t0 h0=>leS (motive:=fun u=>motive (a0 :: u)) t0 h0 fun a1 t1 h1=>leS (motive:=fun u=>motive (a0 :: a1 :: u)) t1 h1 fun a2 t2 h2=>leS (motive:=fun u=>motive (a0 :: a1 :: a2 :: u)) t2 h2 fun a3 t3 h3=>leS (motive:=fun u=>motive (a0 :: a1 :: a2 :: a3 :: u)) t3 h3 fun a4 t4 h4=>leS (motive:=fun u=>motive (a0 :: a1 :: a2 :: a3 :: a4 :: u)) t4 h4 fun a5 t5 h5=>leZ (motive:=fun u=>motive (a0 :: a1 :: a2 :: a3 :: a4 :: a5 :: u)) t5 h5 (k a0 a1 a2 a3 a4 a5)
theorem all_mk{l:PySem.W.OpenLaw}{w:World}{K:PySem.W.Frag}{h:Heap}{mg:Str->Option Value}{fa f1 f2 f3 f4 f5 f6 f7 f8 f9 f10 f11 f12 f13 f14 f15 f16 f17 f18 f19 f20 f21 f22 f23 f24 f25 f26 f27 f28:Addr}(X:K.In h)(G:h.Ns mainGlobals mg)(hfa:mg "law" = some (.ref fa))
  {od1 an1 od2 an2 od3 an3 od4 an4 od5 an5 od6 an6 od7 an7 od8 an8 od9 an9 od10 an10 od11 an11 od12 an12 od13 an13 od14 an14 od15 an15 od16 an16 od17 an17 od18 an18 od19 an19 od20 an20 od21 an21 od22 an22 od23 an23 od24 an24 od25 an25 od26 an26 od27 an27 od28 an28:Option Addr}{sl1 sl2 sl3 sl4 sl5 sl6 sl7 sl8 sl9 sl10 sl11 sl12 sl13 sl14 sl15 sl16 sl17 sl18 sl19 sl20 sl21 sl22 sl23 sl24 sl25 sl26 sl27 sl28:Array (Option Value)}{oc1 kV1 dc1 pm1 cd1 ct1 oc2 kV2 dc2 pm2 cd2 ct2 oc3 kV3 dc3 pm3 cd3 ct3 oc4 kV4 dc4 pm4 cd4 ct4 oc5 kV5 dc5 pm5 cd5 ct5 oc6 kV6 dc6 pm6 cd6 ct6 oc7 kV7 dc7 pm7 cd7 ct7 oc8 kV8 dc8 pm8 cd8 ct8 oc9 kV9 dc9 pm9 cd9 ct9 oc10 kV10 dc10 pm10 cd10 ct10 oc11 kV11 dc11 pm11 cd11 ct11 oc12 kV12 dc12 pm12 cd12 ct12 oc13 kV13 dc13 pm13 cd13 ct13 oc14 kV14 dc14 pm14 cd14 ct14 oc15 kV15 dc15 pm15 cd15 ct15 oc16 kV16 dc16 pm16 cd16 ct16 oc17 kV17 dc17 pm17 cd17 ct17 oc18 kV18 dc18 pm18 cd18 ct18 oc19 kV19 dc19 pm19 cd19 ct19 oc20 kV20 dc20 pm20 cd20 ct20 oc21 kV21 dc21 pm21 cd21 ct21 oc22 kV22 dc22 pm22 cd22 ct22 oc23 kV23 dc23 pm23 cd23 ct23 oc24 kV24 dc24 pm24 cd24 ct24 oc25 kV25 dc25 pm25 cd25 ct25 oc26 kV26 dc26 pm26 cd26 ct26 oc27 kV27 dc27 pm27 cd27 ct27 oc28 kV28 dc28 pm28 cd28 ct28:Value}
  (a1:PySem.W.nsIn K mainGlobals "flow" = some (some (.ref f1))) (l1:K.lookup f1=some ⟨oc1,od1,.func (PySem.W.fnOf "flow" "flow" (defArgs sFlow) (defBody sFlow) (defScope sFlow) .none kV1 dc1 pm1 an1 cd1 ct1),sl1⟩) (c1:PySem.W.codeIn K cd1 "flow" = true) (k1:PySem.W.keepIn K (.ref f1)=true)
  (a2:PySem.W.nsIn K mainGlobals "wide_side" = some (some (.ref f2))) (l2:K.lookup f2=some ⟨oc2,od2,.func (PySem.W.fnOf "wide_side" "wide_side" (defArgs sWideSide) (defBody sWideSide) (defScope sWideSide) .none kV2 dc2 pm2 an2 cd2 ct2),sl2⟩) (c2:PySem.W.codeIn K cd2 "wide_side" = true) (k2:PySem.W.keepIn K (.ref f2)=true)
  (a3:PySem.W.nsIn K mainGlobals "given_at" = some (some (.ref f3))) (l3:K.lookup f3=some ⟨oc3,od3,.func (PySem.W.fnOf "given_at" "given_at" (defArgs sGivenAt) (defBody sGivenAt) (defScope sGivenAt) .none kV3 dc3 pm3 an3 cd3 ct3),sl3⟩) (c3:PySem.W.codeIn K cd3 "given_at" = true) (k3:PySem.W.keepIn K (.ref f3)=true)
  (a4:PySem.W.nsIn K mainGlobals "value_of" = some (some (.ref f4))) (l4:K.lookup f4=some ⟨oc4,od4,.func (PySem.W.fnOf "value_of" "value_of" (defArgs sValueOf) (defBody sValueOf) (defScope sValueOf) .none kV4 dc4 pm4 an4 cd4 ct4),sl4⟩) (c4:PySem.W.codeIn K cd4 "value_of" = true) (k4:PySem.W.keepIn K (.ref f4)=true)
  (a5:PySem.W.nsIn K mainGlobals "arcs_of" = some (some (.ref f5))) (l5:K.lookup f5=some ⟨oc5,od5,.func (PySem.W.fnOf "arcs_of" "arcs_of" (defArgs sArcsOf) (defBody sArcsOf) (defScope sArcsOf) .none kV5 dc5 pm5 an5 cd5 ct5),sl5⟩) (c5:PySem.W.codeIn K cd5 "arcs_of" = true) (k5:PySem.W.keepIn K (.ref f5)=true)
  (a6:PySem.W.nsIn K mainGlobals "greatest_amounts" = some (some (.ref f6))) (l6:K.lookup f6=some ⟨oc6,od6,.func (PySem.W.fnOf "greatest_amounts" "greatest_amounts" (defArgs sGreatestAmounts) (defBody sGreatestAmounts) (defScope sGreatestAmounts) .none kV6 dc6 pm6 an6 cd6 ct6),sl6⟩) (c6:PySem.W.codeIn K cd6 "greatest_amounts" = true) (k6:PySem.W.keepIn K (.ref f6)=true)
  (a7:PySem.W.nsIn K mainGlobals "send" = some (some (.ref f7))) (l7:K.lookup f7=some ⟨oc7,od7,.func (PySem.W.fnOf "send" "send" (defArgs sSend) (defBody sSend) (defScope sSend) .none kV7 dc7 pm7 an7 cd7 ct7),sl7⟩) (c7:PySem.W.codeIn K cd7 "send" = true) (k7:PySem.W.keepIn K (.ref f7)=true)
  (a8:PySem.W.nsIn K mainGlobals "trails_from" = some (some (.ref f8))) (l8:K.lookup f8=some ⟨oc8,od8,.func (PySem.W.fnOf "trails_from" "trails_from" (defArgs sTrailsFrom) (defBody sTrailsFrom) (defScope sTrailsFrom) .none kV8 dc8 pm8 an8 cd8 ct8),sl8⟩) (c8:PySem.W.codeIn K cd8 "trails_from" = true) (k8:PySem.W.keepIn K (.ref f8)=true)
  (a9:PySem.W.nsIn K mainGlobals "way_to" = some (some (.ref f9))) (l9:K.lookup f9=some ⟨oc9,od9,.func (PySem.W.fnOf "way_to" "way_to" (defArgs sWayTo) (defBody sWayTo) (defScope sWayTo) .none kV9 dc9 pm9 an9 cd9 ct9),sl9⟩) (c9:PySem.W.codeIn K cd9 "way_to" = true) (k9:PySem.W.keepIn K (.ref f9)=true)
  (a10:PySem.W.nsIn K mainGlobals "push" = some (some (.ref f10))) (l10:K.lookup f10=some ⟨oc10,od10,.func (PySem.W.fnOf "push" "push" (defArgs sPush) (defBody sPush) (defScope sPush) .none kV10 dc10 pm10 an10 cd10 ct10),sl10⟩) (c10:PySem.W.codeIn K cd10 "push" = true) (k10:PySem.W.keepIn K (.ref f10)=true)
  (a11:PySem.W.nsIn K mainGlobals "tie_weights" = some (some (.ref f11))) (l11:K.lookup f11=some ⟨oc11,od11,.func (PySem.W.fnOf "tie_weights" "tie_weights" (defArgs sTieWeights) (defBody sTieWeights) (defScope sTieWeights) .none kV11 dc11 pm11 an11 cd11 ct11),sl11⟩) (c11:PySem.W.codeIn K cd11 "tie_weights" = true) (k11:PySem.W.keepIn K (.ref f11)=true)
  (a12:PySem.W.nsIn K mainGlobals "weight_of" = some (some (.ref f12))) (l12:K.lookup f12=some ⟨oc12,od12,.func (PySem.W.fnOf "weight_of" "weight_of" (defArgs sWeightOf) (defBody sWeightOf) (defScope sWeightOf) .none kV12 dc12 pm12 an12 cd12 ct12),sl12⟩) (c12:PySem.W.codeIn K cd12 "weight_of" = true) (k12:PySem.W.keepIn K (.ref f12)=true)
  (a13:PySem.W.nsIn K mainGlobals "merged" = some (some (.ref f13))) (l13:K.lookup f13=some ⟨oc13,od13,.func (PySem.W.fnOf "merged" "merged" (defArgs sMerged) (defBody sMerged) (defScope sMerged) .none kV13 dc13 pm13 an13 cd13 ct13),sl13⟩) (c13:PySem.W.codeIn K cd13 "merged" = true) (k13:PySem.W.keepIn K (.ref f13)=true)
  (a14:PySem.W.nsIn K mainGlobals "shrunk" = some (some (.ref f14))) (l14:K.lookup f14=some ⟨oc14,od14,.func (PySem.W.fnOf "shrunk" "shrunk" (defArgs sShrunk) (defBody sShrunk) (defScope sShrunk) .none kV14 dc14 pm14 an14 cd14 ct14),sl14⟩) (c14:PySem.W.codeIn K cd14 "shrunk" = true) (k14:PySem.W.keepIn K (.ref f14)=true)
  (a15:PySem.W.nsIn K mainGlobals "drawn_in" = some (some (.ref f15))) (l15:K.lookup f15=some ⟨oc15,od15,.func (PySem.W.fnOf "drawn_in" "drawn_in" (defArgs sDrawnIn) (defBody sDrawnIn) (defScope sDrawnIn) .none kV15 dc15 pm15 an15 cd15 ct15),sl15⟩) (c15:PySem.W.codeIn K cd15 "drawn_in" = true) (k15:PySem.W.keepIn K (.ref f15)=true)
  (a16:PySem.W.nsIn K mainGlobals "numbered" = some (some (.ref f16))) (l16:K.lookup f16=some ⟨oc16,od16,.func (PySem.W.fnOf "numbered" "numbered" (defArgs sNumbered) (defBody sNumbered) (defScope sNumbered) .none kV16 dc16 pm16 an16 cd16 ct16),sl16⟩) (c16:PySem.W.codeIn K cd16 "numbered" = true) (k16:PySem.W.keepIn K (.ref f16)=true)
  (a17:PySem.W.nsIn K mainGlobals "cut_by" = some (some (.ref f17))) (l17:K.lookup f17=some ⟨oc17,od17,.func (PySem.W.fnOf "cut_by" "cut_by" (defArgs sCutBy) (defBody sCutBy) (defScope sCutBy) .none kV17 dc17 pm17 an17 cd17 ct17),sl17⟩) (c17:PySem.W.codeIn K cd17 "cut_by" = true) (k17:PySem.W.keepIn K (.ref f17)=true)
  (a18:PySem.W.nsIn K mainGlobals "singles" = some (some (.ref f18))) (l18:K.lookup f18=some ⟨oc18,od18,.func (PySem.W.fnOf "singles" "singles" (defArgs sSingles) (defBody sSingles) (defScope sSingles) .none kV18 dc18 pm18 an18 cd18 ct18),sl18⟩) (c18:PySem.W.codeIn K cd18 "singles" = true) (k18:PySem.W.keepIn K (.ref f18)=true)
  (a19:PySem.W.nsIn K mainGlobals "single_ends" = some (some (.ref f19))) (l19:K.lookup f19=some ⟨oc19,od19,.func (PySem.W.fnOf "single_ends" "single_ends" (defArgs sSingleEnds) (defBody sSingleEnds) (defScope sSingleEnds) .none kV19 dc19 pm19 an19 cd19 ct19),sl19⟩) (c19:PySem.W.codeIn K cd19 "single_ends" = true) (k19:PySem.W.keepIn K (.ref f19)=true)
  (a20:PySem.W.nsIn K mainGlobals "_law_cell_at" = some (some (.ref f20))) (l20:K.lookup f20=some ⟨oc20,od20,.func (PySem.W.fnOf "_law_cell_at" "_law_cell_at" (defArgs sCell) (defBody sCell) (defScope sCell) .none kV20 dc20 pm20 an20 cd20 ct20),sl20⟩) (c20:PySem.W.codeIn K cd20 "_law_cell_at" = true) (k20:PySem.W.keepIn K (.ref f20)=true)
  (a21:PySem.W.nsIn K mainGlobals "_law_box" = some (some (.ref f21))) (l21:K.lookup f21=some ⟨oc21,od21,.func (PySem.W.fnOf "_law_box" "_law_box" (defArgs sBox) (defBody sBox) (defScope sBox) .none kV21 dc21 pm21 an21 cd21 ct21),sl21⟩) (c21:PySem.W.codeIn K cd21 "_law_box" = true) (k21:PySem.W.keepIn K (.ref f21)=true)
  (a22:PySem.W.nsIn K mainGlobals "_law_take" = some (some (.ref f22))) (l22:K.lookup f22=some ⟨oc22,od22,.func (PySem.W.fnOf "_law_take" "_law_take" (defArgs sTake) (defBody sTake) (defScope sTake) .none kV22 dc22 pm22 an22 cd22 ct22),sl22⟩) (c22:PySem.W.codeIn K cd22 "_law_take" = true) (k22:PySem.W.keepIn K (.ref f22)=true)
  (a23:PySem.W.nsIn K mainGlobals "_law_weight" = some (some (.ref f23))) (l23:K.lookup f23=some ⟨oc23,od23,.func (PySem.W.fnOf "_law_weight" "_law_weight" (defArgs sWeight) (defBody sWeight) (defScope sWeight) .none kV23 dc23 pm23 an23 cd23 ct23),sl23⟩) (c23:PySem.W.codeIn K cd23 "_law_weight" = true) (k23:PySem.W.keepIn K (.ref f23)=true)
  (a24:PySem.W.nsIn K mainGlobals "_law_web" = some (some (.ref f24))) (l24:K.lookup f24=some ⟨oc24,od24,.func (PySem.W.fnOf "_law_web" "_law_web" (defArgs sWeb) (defBody sWeb) (defScope sWeb) .none kV24 dc24 pm24 an24 cd24 ct24),sl24⟩) (c24:PySem.W.codeIn K cd24 "_law_web" = true) (k24:PySem.W.keepIn K (.ref f24)=true)
  (a25:PySem.W.nsIn K mainGlobals "_law_posts" = some (some (.ref f25))) (l25:K.lookup f25=some ⟨oc25,od25,.func (PySem.W.fnOf "_law_posts" "_law_posts" (defArgs sPosts) (defBody sPosts) (defScope sPosts) .none kV25 dc25 pm25 an25 cd25 ct25),sl25⟩) (c25:PySem.W.codeIn K cd25 "_law_posts" = true) (k25:PySem.W.keepIn K (.ref f25)=true)
  (a26:PySem.W.nsIn K mainGlobals "_law_least" = some (some (.ref f26))) (l26:K.lookup f26=some ⟨oc26,od26,.func (PySem.W.fnOf "_law_least" "_law_least" (defArgs sLeast) (defBody sLeast) (defScope sLeast) .none kV26 dc26 pm26 an26 cd26 ct26),sl26⟩) (c26:PySem.W.codeIn K cd26 "_law_least" = true) (k26:PySem.W.keepIn K (.ref f26)=true)
  (a27:PySem.W.nsIn K mainGlobals "_law_right" = some (some (.ref f27))) (l27:K.lookup f27=some ⟨oc27,od27,.func (PySem.W.fnOf "_law_right" "_law_right" (defArgs sRight) (defBody sRight) (defScope sRight) .none kV27 dc27 pm27 an27 cd27 ct27),sl27⟩) (c27:PySem.W.codeIn K cd27 "_law_right" = true) (k27:PySem.W.keepIn K (.ref f27)=true)
  (a28:PySem.W.nsIn K mainGlobals "law" = some (some (.ref f28))) (l28:K.lookup f28=some ⟨oc28,od28,.func (PySem.W.fnOf "law" "law" (defArgs sLaw) (defBody sLaw) (defScope sLaw) .none kV28 dc28 pm28 an28 cd28 ct28),sl28⟩) (c28:PySem.W.codeIn K cd28 "law" = true) (k28:PySem.W.keepIn K (.ref f28)=true)
  (z1:PySem.W.nsIn K mainGlobals "abs" = some none) (z2:PySem.W.nsIn K mainGlobals "int" = some none) (z3:PySem.W.nsIn K mainGlobals "len" = some none) (z4:PySem.W.nsIn K mainGlobals "range" = some none) (z5:PySem.W.nsIn K mainGlobals "min" = some none) (z6:PySem.W.nsIn K mainGlobals "max" = some none) (z7:PySem.W.nsIn K mainGlobals "tuple" = some none) (z8:PySem.W.nsIn K mainGlobals "sorted" = some none) (z9:PySem.W.nsIn K mainGlobals "isinstance" = some none) (z10:PySem.W.nsIn K mainGlobals "list" = some none) (z11:PySem.W.nsIn K mainGlobals "str" = some none) (z12:PySem.W.nsIn K mainGlobals "bool" = some none) (z13:PySem.W.nsIn K mainGlobals "sum" = some none) (z14:PySem.W.nsIn K mainGlobals "all" = some none) (z15:PySem.W.nsIn K mainGlobals "zip" = some none) (z16:PySem.W.nsIn K mainGlobals "enumerate" = some none) (z17:PySem.W.nsIn K mainGlobals "any" = some none) (z18:PySem.W.nsIn K mainGlobals "set" = some none) (z19:PySem.W.nsIn K mainGlobals "dict" = some none) :
  ∃ fd:FuncData,(∀ (s:Shared) (v:Value),BindsTo s fd ⟨[v],[]⟩ [("_law_script",v)])/\∀ base:Heap,K.In base->base.Ns mainGlobals mg->FnOk l.prog w K mg base CX0 8 fa fd ["_law_script"] (spLaw K):=by
 have e:=hfa.symm.trans (PySem.W.mg_of X G a28)
 cases e
 have T:Txt mg:=⟨PySem.W.mg_none_of X G z1,PySem.W.mg_none_of X G z2,PySem.W.mg_none_of X G z3,PySem.W.mg_none_of X G z4,PySem.W.mg_none_of X G z5,PySem.W.mg_none_of X G z6,PySem.W.mg_none_of X G z7,PySem.W.mg_none_of X G z8,PySem.W.mg_none_of X G z9,PySem.W.mg_none_of X G z10,PySem.W.mg_none_of X G z11,PySem.W.mg_none_of X G z12,PySem.W.mg_none_of X G z13⟩
 have T2:Txt2 mg:=⟨PySem.W.mg_none_of X G z14,PySem.W.mg_none_of X G z15,PySem.W.mg_none_of X G z16,PySem.W.mg_none_of X G z17,PySem.W.mg_none_of X G z18⟩
 have T3:Txt3 mg:=⟨PySem.W.mg_none_of X G z19⟩
 have F1:=fun_mk (st:=sFlow) l1 c1 k1
 have F2:=fun_mk (st:=sWideSide) l2 c2 k2
 have F3:=fun_mk (st:=sGivenAt) l3 c3 k3
 have F4:=fun_mk (st:=sValueOf) l4 c4 k4
 have F5:=fun_mk (st:=sArcsOf) l5 c5 k5
 have F6:=fun_mk (st:=sGreatestAmounts) l6 c6 k6
 have F7:=fun_mk (st:=sSend) l7 c7 k7
 have F8:=fun_mk (st:=sTrailsFrom) l8 c8 k8
 have F9:=fun_mk (st:=sWayTo) l9 c9 k9
 have F10:=fun_mk (st:=sPush) l10 c10 k10
 have F11:=fun_mk (st:=sTieWeights) l11 c11 k11
 have F12:=fun_mk (st:=sWeightOf) l12 c12 k12
 have F13:=fun_mk (st:=sMerged) l13 c13 k13
 have F14:=fun_mk (st:=sShrunk) l14 c14 k14
 have F15:=fun_mk (st:=sDrawnIn) l15 c15 k15
 have F16:=fun_mk (st:=sNumbered) l16 c16 k16
 have F17:=fun_mk (st:=sCutBy) l17 c17 k17
 have F18:=fun_mk (st:=sSingles) l18 c18 k18
 have F19:=fun_mk (st:=sSingleEnds) l19 c19 k19
 have F20:=fun_mk (st:=sCell) l20 c20 k20
 have F21:=fun_mk (st:=sBox) l21 c21 k21
 have F22:=fun_mk (st:=sTake) l22 c22 k22
 have F23:=fun_mk (st:=sWeight) l23 c23 k23
 have F24:=fun_mk (st:=sWeb) l24 c24 k24
 have F25:=fun_mk (st:=sPosts) l25 c25 k25
 have F26:=fun_mk (st:=sLeast) l26 c26 k26
 have F27:=fun_mk (st:=sRight) l27 c27 k27
 have F28:=fun_mk (st:=sLaw) l28 c28 k28
 have b1:=F1.binds (ps:=["web","sources","sinks"]) fun _ _ _ _ _ _ us hl=>le3 us hl fun _ _ _=>rfl
 have b2:=F2.binds (ps:=["web","sources","sinks"]) fun _ _ _ _ _ _ us hl=>le3 us hl fun _ _ _=>rfl
 have b3:=F3.binds (ps:=["web","amounts"]) fun _ _ _ _ _ _ us hl=>le2 us hl fun _ _=>rfl
 have b4:=F4.binds (ps:=["web","amounts","sources"]) fun _ _ _ _ _ _ us hl=>le3 us hl fun _ _ _=>rfl
 have b5:=F5.binds (ps:=["web"]) fun _ _ _ _ _ _ us hl=>le1 us hl fun _=>rfl
 have b6:=F6.binds (ps:=["web","arcs","sources","sinks"]) fun _ _ _ _ _ _ us hl=>le4 us hl fun _ _ _ _=>rfl
 have b7:=F7.binds (ps:=["web","arcs","amounts","sources","sinks","most"]) fun _ _ _ _ _ _ us hl=>le6 us hl fun _ _ _ _ _ _=>rfl
 have b8:=F8.binds (ps:=["web","arcs","amounts","starts","turn"]) fun _ _ _ _ _ _ us hl=>le5 us hl fun _ _ _ _ _=>rfl
 have b9:=F9.binds (ps:=["trails","end"]) fun _ _ _ _ _ _ us hl=>le2 us hl fun _ _=>rfl
 have b10:=F10.binds (ps:=["web","amounts","way","most"]) fun _ _ _ _ _ _ us hl=>le4 us hl fun _ _ _ _=>rfl
 have b11:=F11.binds (ps:=["web"]) fun _ _ _ _ _ _ us hl=>le1 us hl fun _=>rfl
 have b12:=F12.binds (ps:=["web","cut"]) fun _ _ _ _ _ _ us hl=>le2 us hl fun _ _=>rfl
 have b13:=F13.binds (ps:=["web","names"]) fun _ _ _ _ _ _ us hl=>le2 us hl fun _ _=>rfl
 have b14:=F14.binds (ps:=["web","posts"]) fun _ _ _ _ _ _ us hl=>le2 us hl fun _ _=>rfl
 have b15:=F15.binds (ps:=["web","posts","post","names"]) fun _ _ _ _ _ _ us hl=>le4 us hl fun _ _ _ _=>rfl
 have b16:=F16.binds (ps:=["names"]) fun _ _ _ _ _ _ us hl=>le1 us hl fun _=>rfl
 have b17:=F17.binds (ps:=["web","owners"]) fun _ _ _ _ _ _ us hl=>le2 us hl fun _ _=>rfl
 have b18:=F18.binds (ps:=["web","posts"]) fun _ _ _ _ _ _ us hl=>le2 us hl fun _ _=>rfl
 have b19:=F19.binds (ps:=["posts"]) fun _ _ _ _ _ _ us hl=>le1 us hl fun _=>rfl
 have b20:=F20.binds (ps:=["_law_script","_law_k"]) fun _ _ _ _ _ _ us hl=>le2 us hl fun _ _=>rfl
 have b21:=F21.binds (ps:=["_law_script","_law_k"]) fun _ _ _ _ _ _ us hl=>le2 us hl fun _ _=>rfl
 have b22:=F22.binds (ps:=["_law_box_here","_law_many_here"]) fun _ _ _ _ _ _ us hl=>le2 us hl fun _ _=>rfl
 have b23:=F23.binds (ps:=["_law_box_here","_law_heavy"]) fun _ _ _ _ _ _ us hl=>le2 us hl fun _ _=>rfl
 have b24:=F24.binds (ps:=["_law_box_here","_law_many_here"]) fun _ _ _ _ _ _ us hl=>le2 us hl fun _ _=>rfl
 have b25:=F25.binds (ps:=["_law_box_here","_law_many_here","_law_most"]) fun _ _ _ _ _ _ us hl=>le3 us hl fun _ _ _=>rfl
 have b26:=F26.binds (ps:=["_law_web_here","_law_posts_here"]) fun _ _ _ _ _ _ us hl=>le2 us hl fun _ _=>rfl
 have b27:=F27.binds (ps:=["_law_box_here","_law_web_here","_law_posts_here"]) fun _ _ _ _ _ _ us hl=>le3 us hl fun _ _ _=>rfl
 have m1:=PySem.W.mg_of X G a1
 have m2:=PySem.W.mg_of X G a2
 have m3:=PySem.W.mg_of X G a3
 have m4:=PySem.W.mg_of X G a4
 have m5:=PySem.W.mg_of X G a5
 have m6:=PySem.W.mg_of X G a6
 have m7:=PySem.W.mg_of X G a7
 have m8:=PySem.W.mg_of X G a8
 have m9:=PySem.W.mg_of X G a9
 have m10:=PySem.W.mg_of X G a10
 have m11:=PySem.W.mg_of X G a11
 have m12:=PySem.W.mg_of X G a12
 have m13:=PySem.W.mg_of X G a13
 have m14:=PySem.W.mg_of X G a14
 have m15:=PySem.W.mg_of X G a15
 have m16:=PySem.W.mg_of X G a16
 have m17:=PySem.W.mg_of X G a17
 have m18:=PySem.W.mg_of X G a18
 have m19:=PySem.W.mg_of X G a19
 have m20:=PySem.W.mg_of X G a20
 have m21:=PySem.W.mg_of X G a21
 have m22:=PySem.W.mg_of X G a22
 have m23:=PySem.W.mg_of X G a23
 have m24:=PySem.W.mg_of X G a24
 have m25:=PySem.W.mg_of X G a25
 have m26:=PySem.W.mg_of X G a26
 have m27:=PySem.W.mg_of X G a27
 have m28:=PySem.W.mg_of X G a28
 refine⟨PySem.W.fnOf "law" "law" (defArgs sLaw) (defBody sLaw) (defScope sLaw) .none kV28 dc28 pm28 an28 cd28 ct28,fun s v=>.of_eq rfl,fun base _ _=>?_⟩
 have C__law_box:CalF l.prog w K mg base 2 "_law_box" ["_law_script","_law_k"] (spBox K) f21 _:=⟨ok_box F21 T F20 m20 b20,m21,k21,b21⟩
 have TK:TakeF l.prog w K mg base f22 _:=⟨ok_take F22,m22,k22,b22⟩
 have TW:WeightF l.prog w K mg base f23 _:=⟨ok_weight F23 TK,m23,k23,b23⟩
 have C__law_web:CalF l.prog w K mg base 3 "_law_web" ["_law_box_here","_law_many_here"] spWeb f24 _:=⟨ok_web F24 T TK TW,m24,k24,b24⟩
 have C__law_posts:CalF l.prog w K mg base 2 "_law_posts" ["_law_box_here","_law_many_here","_law_most"] spPo f25 _:=⟨ok_po F25 T TK,m25,k25,b25⟩
 have C_merged:CalF l.prog w K mg base 1 "merged" ["web","names"] spMerged f13 _:=⟨ok_merged F13 T,m13,k13,b13⟩
 have C_arcs_of:CalF l.prog w K mg base 1 "arcs_of" ["web"] spAr f5 _:=⟨ok_ar F5 T T2,m5,k5,b5⟩
 have C_trails_from:CalF l.prog w K mg base 1 "trails_from" ["web","arcs","amounts","starts","turn"] spTr f8 _:=⟨ok_tr F8 T,m8,k8,b8⟩
 have C_way_to:CalF l.prog w K mg base 1 "way_to" ["trails","end"] spWy f9 _:=⟨ok_wy F9,m9,k9,b9⟩
 have C_push:CalF l.prog w K mg base 1 "push" ["web","amounts","way","most"] spPu f10 _:=⟨ok_pu F10 T,m10,k10,b10⟩
 have C_send:CalF l.prog w K mg base 2 "send" ["web","arcs","amounts","sources","sinks","most"] spSe f7 _:=⟨ok_se F7 C_trails_from C_way_to C_push,m7,k7,b7⟩
 have C_greatest_amounts:CalF l.prog w K mg base 3 "greatest_amounts" ["web","arcs","sources","sinks"] spGa f6 _:=⟨ok_ga F6 T C_send,m6,k6,b6⟩
 have C_wide_side:CalF l.prog w K mg base 4 "wide_side" ["web","sources","sinks"] spWi f2 _:=⟨ok_wi F2 T C_arcs_of C_greatest_amounts C_trails_from,m2,k2,b2⟩
 have C_numbered:CalF l.prog w K mg base 1 "numbered" ["names"] spNu f16 _:=⟨ok_nu F16 T,m16,k16,b16⟩
 have C_drawn_in:CalF l.prog w K mg base 5 "drawn_in" ["web","posts","post","names"] spDr f15 _:=⟨ok_dr F15 C_merged C_wide_side C_numbered,m15,k15,b15⟩
 have C_shrunk:CalF l.prog w K mg base 6 "shrunk" ["web","posts"] spSk f14 _:=⟨ok_sk F14 T C_drawn_in C_merged,m14,k14,b14⟩
 have C__law_least:CalF l.prog w K mg base 1 "_law_least" ["_law_web_here","_law_posts_here"] spLe f26 _:=⟨ok_le F26 T,m26,k26,b26⟩
 have C_tie_weights:CalF l.prog w K mg base 1 "tie_weights" ["web"] spTw f11 _:=⟨ok_tw F11,m11,k11,b11⟩
 have C_weight_of:CalF l.prog w K mg base 2 "weight_of" ["web","cut"] spWg f12 _:=⟨ok_wg F12 T C_tie_weights,m12,k12,b12⟩
 have C_cut_by:CalF l.prog w K mg base 1 "cut_by" ["web","owners"] spCb f17 _:=⟨ok_cb F17,m17,k17,b17⟩
 have C_single_ends:CalF l.prog w K mg base 1 "single_ends" ["posts"] spSn f19 _:=⟨ok_sn F19,m19,k19,b19⟩
 have C_given_at:CalF l.prog w K mg base 1 "given_at" ["web","amounts"] spGv f3 _:=⟨ok_gv F3 T2,m3,k3,b3⟩
 have C_value_of:CalF l.prog w K mg base 2 "value_of" ["web","amounts","sources"] spVa f4 _:=⟨ok_va F4 T C_given_at,m4,k4,b4⟩
 have C_flow:CalF l.prog w K mg base 4 "flow" ["web","sources","sinks"] spFl f1 _:=⟨ok_fl F1 T C_arcs_of C_greatest_amounts C_trails_from C_value_of,m1,k1,b1⟩
 have C_singles:CalF l.prog w K mg base 5 "singles" ["web","posts"] spSg f18 _:=⟨ok_sg F18 C_single_ends C_flow,m18,k18,b18⟩
 have C__law_right:CalF l.prog w K mg base 7 "_law_right" ["_law_box_here","_law_web_here","_law_posts_here"] spRi f27 _:=⟨ok_ri F27 T T2 T3 C_shrunk C__law_least TK C_weight_of C_cut_by C_singles,m27,k27,b27⟩
 exact ok_law F28 T ⟨C__law_box,TK,C__law_web,C__law_posts,C__law_right⟩
theorem walk{l:PySem.W.OpenLaw}{q:Program}{loose:List Str}{XP:(Str->Option Value)->Heap->Prop}{YP:World->Heap->Prop}{d:DefRec}{K:Params->PySem.W.Frag}(hn:l.most=some 63)(hdf:d.params.defaults=[])(hY:∀ (w:World) (h:Heap),YP w h->(K w.params).In h)
  (F:∀ (w:World) (mg:Str->Option Value) (fa:Addr) (h:Heap),(K w.params).In h->h.Ns mainGlobals mg->mg d.name=some (.ref fa)->∃ fd:FuncData,(∀ (s:Shared) (u:Value),BindsTo s fd ⟨[u],[]⟩ [("_law_script",u)])/\∀ base:Heap,(K w.params).In base->base.Ns mainGlobals mg->FnOk l.prog w (K w.params) mg base CX0 8 fa fd ["_law_script"] (spLaw (K w.params))) :
  PySem.W.WalkO q loose XP YP l.row.toRowW d [] (fun f vs=>PySem.call f vs) :=
 L2.walk_of (n:=63) (k:=8) (x:="_law_script") (CX:=fun _=>CX0) (sp:=fun w=>spLaw (K w.params)) hn (by decide) hdf ⟨rfl,by decide,by decide,rfl⟩ hY F (fun _ _ a ns hl _ hS=>⟨a,ns,rfl,hS,hl,fun _=>rfl⟩) fun _ _ _ _ _ z=>z
end K23
open PySem PySem.W PyProof.Rows
set_option maxRecDepth 100000 in
set_option maxHeartbeats 0 in
theorem PySem.Challenge.cw_partedweb_k23_made_less_and_as_light_holds : PySem.Challenge.rw_partedweb_k23_made_less_and_as_light.Holds := by
  w_on; o_law; k_head; (case hw => w_witness2)
  k_fill
  refine K23.walk (l := PySem.Challenge.rw_partedweb_k23_made_less_and_as_light) rfl rfl (fun w h Y => PySem.W.kIn_of Y) ?F
  case F =>
    intro w mg fa h KX G hmg
    refine' K23.all_mk KX G hmg ?a1 ?l1 ?c1 ?k1 ?a2 ?l2 ?c2 ?k2 ?a3 ?l3 ?c3 ?k3 ?a4 ?l4 ?c4 ?k4 ?a5 ?l5 ?c5 ?k5 ?a6 ?l6 ?c6 ?k6 ?a7 ?l7 ?c7 ?k7 ?a8 ?l8 ?c8 ?k8 ?a9 ?l9 ?c9 ?k9 ?a10 ?l10 ?c10 ?k10 ?a11 ?l11 ?c11 ?k11 ?a12 ?l12 ?c12 ?k12 ?a13 ?l13 ?c13 ?k13 ?a14 ?l14 ?c14 ?k14 ?a15 ?l15 ?c15 ?k15 ?a16 ?l16 ?c16 ?k16 ?a17 ?l17 ?c17 ?k17 ?a18 ?l18 ?c18 ?k18 ?a19 ?l19 ?c19 ?k19 ?a20 ?l20 ?c20 ?k20 ?a21 ?l21 ?c21 ?k21 ?a22 ?l22 ?c22 ?k22 ?a23 ?l23 ?c23 ?k23 ?a24 ?l24 ?c24 ?k24 ?a25 ?l25 ?c25 ?k25 ?a26 ?l26 ?c26 ?k26 ?a27 ?l27 ?c27 ?k27 ?a28 ?l28 ?c28 ?k28 ?z1 ?z2 ?z3 ?z4 ?z5 ?z6 ?z7 ?z8 ?z9 ?z10 ?z11 ?z12 ?z13 ?z14 ?z15 ?z16 ?z17 ?z18 ?z19
    (case a1 => k_is); (case l1 => k_is); (case c1 => k_is); (case k1 => k_is); (case a2 => k_is); (case l2 => k_is)
    (case c2 => k_is); (case k2 => k_is); (case a3 => k_is); (case l3 => k_is); (case c3 => k_is); (case k3 => k_is)
    (case a4 => k_is); (case l4 => k_is); (case c4 => k_is); (case k4 => k_is); (case a5 => k_is); (case l5 => k_is)
    (case c5 => k_is); (case k5 => k_is); (case a6 => k_is); (case l6 => k_is); (case c6 => k_is); (case k6 => k_is)
    (case a7 => k_is); (case l7 => k_is); (case c7 => k_is); (case k7 => k_is); (case a8 => k_is); (case l8 => k_is)
    (case c8 => k_is); (case k8 => k_is); (case a9 => k_is); (case l9 => k_is); (case c9 => k_is); (case k9 => k_is)
    (case a10 => k_is); (case l10 => k_is); (case c10 => k_is); (case k10 => k_is); (case a11 => k_is); (case l11 => k_is)
    (case c11 => k_is); (case k11 => k_is); (case a12 => k_is); (case l12 => k_is); (case c12 => k_is); (case k12 => k_is)
    (case a13 => k_is); (case l13 => k_is); (case c13 => k_is); (case k13 => k_is); (case a14 => k_is); (case l14 => k_is)
    (case c14 => k_is); (case k14 => k_is); (case a15 => k_is); (case l15 => k_is); (case c15 => k_is); (case k15 => k_is)
    (case a16 => k_is); (case l16 => k_is); (case c16 => k_is); (case k16 => k_is); (case a17 => k_is); (case l17 => k_is)
    (case c17 => k_is); (case k17 => k_is); (case a18 => k_is); (case l18 => k_is); (case c18 => k_is); (case k18 => k_is)
    (case a19 => k_is); (case l19 => k_is); (case c19 => k_is); (case k19 => k_is); (case a20 => k_is); (case l20 => k_is)
    (case c20 => k_is); (case k20 => k_is); (case a21 => k_is); (case l21 => k_is); (case c21 => k_is); (case k21 => k_is)
    (case a22 => k_is); (case l22 => k_is); (case c22 => k_is); (case k22 => k_is); (case a23 => k_is); (case l23 => k_is)
    (case c23 => k_is); (case k23 => k_is); (case a24 => k_is); (case l24 => k_is); (case c24 => k_is); (case k24 => k_is)
    (case a25 => k_is); (case l25 => k_is); (case c25 => k_is); (case k25 => k_is); (case a26 => k_is); (case l26 => k_is)
    (case c26 => k_is); (case k26 => k_is); (case a27 => k_is); (case l27 => k_is); (case c27 => k_is); (case k27 => k_is)
    (case a28 => k_is); (case l28 => k_is); (case c28 => k_is); (case k28 => k_is); (case z1 => k_is); (case z2 => k_is)
    (case z3 => k_is); (case z4 => k_is); (case z5 => k_is); (case z6 => k_is); (case z7 => k_is); (case z8 => k_is)
    (case z9 => k_is); (case z10 => k_is); (case z11 => k_is); (case z12 => k_is); (case z13 => k_is); (case z14 => k_is)
    (case z15 => k_is); (case z16 => k_is); (case z17 => k_is); (case z18 => k_is); (case z19 => k_is)
#print axioms PySem.Challenge.cw_partedweb_k23_made_less_and_as_light_holds
