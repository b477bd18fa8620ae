import PyProof.Rows.All
import Wide.All
import OpenK.AllK
import Wide.FinOn
import Lean
import PyProof.EqAt
import PyProof.EqKinds
import PyProof.TupleCall
import PySem.Challenge.RW_partedweb_k07_partings_pruned
set_option Elab.async false
set_option linter.all false
set_option maxRecDepth 100000
namespace L2
open PySem PySem.Spec PyProof.Rows
noncomputable abbrev Key:=Sum Int Str
noncomputable def keyIs:Key->Value->Bool
 | .inl k,v=>Value.isInt k v
 | .inr x,v=>Value.isStrOf x v
noncomputable def keyH(w:World):Key->Int
 | .inl k=>hashInt k
 | .inr x=>hashStr w x
theorem keyIs_shape:∀ {k:Key}{v:Value},keyIs k v=true->(∃ i t,k=Sum.inl i/\v=Value.int i t)\/(∃ x t,k=Sum.inr x/\v=Value.str x t)
 | .inl i,v,h=>by
  obtain⟨t,e⟩:=Value.isInt_shape (k:=i) (v:=v) h
  exact .inl ⟨i,t,rfl,e⟩
 | .inr x,v,h=>by
  obtain⟨t,e⟩:=Value.isStrOf_shape (x:=x) (v:=v) h
  exact .inr ⟨x,t,rfl,e⟩
theorem keyIs_int(i:Int)(t:Tok):keyIs (.inl i) (.int i t)=true:=by simp[keyIs,Value.isInt]
theorem keyIs_str(x:Str)(t:Tok):keyIs (.inr x) (.str x t)=true:=by simp[keyIs,Value.isStrOf]
theorem key_ll(a b:Int):decide ((Sum.inl a:Key)=Sum.inl b)=(a == b):=by
 by_cases e:a=b
 ·subst e;simp
 ·have h:¬(Sum.inl a:Key)=Sum.inl b:=fun q=>e (Sum.inl.inj q)
  rw[decide_eq_false h]
  exact(beq_eq_false_iff_ne.mpr e).symm
theorem key_rr(a b:Str):decide ((Sum.inr a:Key)=Sum.inr b)=decide (a=b):=by
 by_cases e:a=b
 ·subst e;simp
 ·have h:¬(Sum.inr a:Key)=Sum.inr b:=fun q=>e (Sum.inr.inj q)
  rw[decide_eq_false h,decide_eq_false e]
theorem key_lr(a:Int)(b:Str):decide ((Sum.inl a:Key)=Sum.inr b)=false:=decide_eq_false (fun q=>nomatch q)
theorem key_rl(a:Str)(b:Int):decide ((Sum.inr a:Key)=Sum.inl b)=false:=decide_eq_false (fun q=>nomatch q)
noncomputable def mixKind(prog:Program)(w:World):PySem.KeyKind prog w Key where
 is:=keyIs
 hash:=keyH w
 inj:=fun v a b ha hb=>by
  rcases keyIs_shape ha with⟨i,t,rfl,rfl⟩ |⟨x,t,rfl,rfl⟩
  ·rcases keyIs_shape hb with⟨j,u,rfl,e⟩ |⟨y,u,rfl,e⟩
   ·injection e with e1 _;rw[e1]
   ·exact nomatch e
  ·rcases keyIs_shape hb with⟨j,u,rfl,e⟩ |⟨y,u,rfl,e⟩
   ·exact nomatch e
   ·injection e with e1 _;rw[e1]
 byValue:=fun k v h=>by
  rcases keyIs_shape h with⟨i,t,rfl,rfl⟩ |⟨x,t,rfl,rfl⟩ <;> rfl
 pyHash:=fun hv h=>by
  rcases keyIs_shape hv with⟨i,t,rfl,rfl⟩ |⟨x,t,rfl,rfl⟩
  ·exact wpAny_pyHash_int h
  ·exact wpAny_pyHash_str h
 eqBool:=fun hu hv h=>by
  rcases keyIs_shape hu with⟨i,t,rfl,rfl⟩ |⟨x,t,rfl,rfl⟩
  ·rcases keyIs_shape hv with⟨j,u,rfl,rfl⟩ |⟨y,u,rfl,rfl⟩
   ·rw[key_ll]at h;exact wpAny_eqBool_int h
   ·rw[key_lr]at h;exact SeqAt.EqAt.int_str i t y u _ _ _ _ h
  ·rcases keyIs_shape hv with⟨j,u,rfl,rfl⟩ |⟨y,u,rfl,rfl⟩
   ·rw[key_rl]at h;exact SeqAt.EqAt.str_int x t j u _ _ _ _ h
   ·rw[key_rr]at h;exact wpAny_eqBool_str h
 «strs»:=fun k x t v h=>by
  rcases keyIs_shape h with⟨i,u,rfl,e⟩ |⟨y,u,rfl,e⟩
  ·exact nomatch e
  ·injection e with e1 _
   subst e1
   cases v <;> rfl
theorem mixKind_int(prog:Program)(w:World)(i:Int)(t:Tok):(mixKind prog w).is (.inl i) (.int i t)=true:=keyIs_int i t
theorem mixKind_str(prog:Program)(w:World)(x:Str)(t:Tok):(mixKind prog w).is (.inr x) (.str x t)=true:=keyIs_str x t
open PySem PySem.Spec PyProof.Rows
inductive V where
 |non | bl (b:Bool) | int (i:Int) | str (x:Str) | byt (b:Array UInt8) | flt (b:UInt64) | ref (a:Addr) | ty (n:String)
 deriving DecidableEq
noncomputable def RelV:V->Value->Prop
 | .non,u=>u=Value.none
 | .bl b,u=>u=Value.bool b
 | .int i,u=>∃ t,u=Value.int i t
 | .str x,u=>∃ t,u=Value.str x t
 | .byt b,u=>∃ t,u=Value.bytes b t
 | .flt b,u=>∃ t,u=Value.float b t
 | .ref a,u=>u=Value.ref a
 | .ty n,u=>u=Value.type n
noncomputable abbrev Vals:List V->List Value->Prop:=Paired RelV
theorem Vals.length{xs:List V}{us:List Value}(r:Vals xs us):xs.length=us.length:=Paired.length r
theorem Vals.get:∀ {xs:List V}{us:List Value}{i:Nat}{x:V},Vals xs us->xs[i]?=some x->∃ u,us[i]?=some u/\RelV x u
 | _,_,_,_,.nil,e=>by simp at e
 | _,_,0,_,.cons r _,e=>by simp at e;subst e;exact⟨_,rfl,r⟩
 | _,_,i+1,x,.cons _ t,e=>by
  obtain⟨u,h1,h2⟩:=Vals.get (i:=i) (x:=x) t (by simpa using e)
  exact⟨u,by simpa using h1,h2⟩
theorem Vals.set{x:V}{u:Value}(r:RelV x u):∀ {xs:List V}{us:List Value} (i:Nat),Vals xs us->Vals (xs.set i x) (us.set i u)
 | _,_,_,.nil=>.nil
 | _,_,0,.cons _ t=>.cons r t
 | _,_,i+1,.cons q t=>.cons q (Vals.set r i t)
theorem Vals.append:∀ {xs ys:List V}{us ws:List Value},Vals xs us->Vals ys ws->Vals (xs++ys) (us++ws)
 | _,_,_,_,.nil,s=>s
 | _,_,_,_,.cons r t,s=>.cons r (Vals.append t s)
theorem Vals.take:∀ {xs:List V}{us:List Value} (n:Nat),Vals xs us->Vals (xs.take n) (us.take n)
 | _,_,0,_=>.nil
 | _,_,_+1,.nil=>.nil
 | _,_,n+1,.cons r t=>.cons r (Vals.take n t)
theorem Vals.drop:∀ {xs:List V}{us:List Value} (n:Nat),Vals xs us->Vals (xs.drop n) (us.drop n)
 | _,_,0,r=>r
 | _,_,_+1,.nil=>.nil
 | _,_,n+1,.cons _ t=>Vals.drop n t
noncomputable def RelO:Option V->Option Value->Prop
 |some v,some u=>RelV v u
 |none,none=>True
 | _,_=>False
noncomputable def KV{κ:Type}:List (κ×V)->List (κ×Value)->Prop:=Paired fun(p:κ×V) (q:κ×Value)=>p.1=q.1/\RelV p.2 q.2
noncomputable def kV:Key->V
 | .inl i=>.int i
 | .inr x=>.str x
inductive HO where
 /-- a list -/
 |lst (xs:List V)
 /-- a tuple (never changes) -/
 |tup (xs:List V)
 /-- a dict whose keys are ints and texts;one whose keys are tuples of ints and texts (the empty one is both) -/
 |dK (kvs:List (Key×V)) | dT (kvs:List (List Key×V))
 /-- a set of ints: its members,its size -/
 |set (S:Int->Bool) (n:Nat)
 /-- an instance of the class at C,its dict at dx,its attributes -/
 |ins (C dx:Addr) (fs:List (Str×V))
 /-- the dict of the instance at x -/
 |own (x:Addr)
 /-- the dict of an exception -/
 |xd (fs:List (Str×V))
 /-- a bound method,f of x -/
 |met (f x:Addr)
 /-- a range object lo,lo+1,.. below hi -/
 |rng (lo hi:Int)
 /-- a thing that is known to the object (the script;a dict while a loop walks it): read,never written while it is so -/
 |frz (o:Obj) (u:HO)
 /-- a code object's table -/
 |tbl (ps:Array Value)
 /-- any other thing,by what is true of its one object (a def of one's own: SetO a S n:=HO.ext fun h=>..) -/
 |ext (φ:Heap->Prop)
noncomputable abbrev Hp:=Addr->Option HO
noncomputable def upd(H:Hp)(a:Addr)(o:HO):Hp:=fun b=>if b=a then some o else H b
theorem upd_same{H:Hp}{a:Addr}{o:HO}:upd H a o a=some o:=by unfold upd;rw[if_pos rfl]
theorem upd_ne{H:Hp}{a b:Addr}{o:HO}(h:b≠a):upd H a o b=H b:=by unfold upd;rw[if_neg h]
theorem upd_upd{H:Hp}{a:Addr}{o u:HO}:upd (upd H a o) a u=upd H a u:=by
 funext b;unfold upd;split <;> rfl
theorem ne_of{H:Hp}{a b:Addr}{o u:HO}(h:H a=some o)(h':H b=some u)(d:o≠u):a≠b:=by
 intro e;subst e;rw[h]at h';exact d (Option.some.inj h')
theorem ne_of_none{H:Hp}{a b:Addr}{o:HO}(h:H a=some o)(h':H b=none):a≠b:=by
 intro e;subst e;rw[h]at h';cases h'
section
variable(P:Program)(w:World)
noncomputable def ObjOk(H:Hp)(h:Heap)(a:Addr):HO->Prop
 | .lst xs=>xs.length<=sizeLine/\∃ (its:List Value) (n:Nat),Vals xs its/\h.get? a=some { cls:=.type "list",data:=.seq its.toArray n }
 | .tup xs=>xs.length<=sizeLine/\∃ its:List Value,Vals xs its/\IsTup h a its.toArray
 | .dK kvs=>kvs.length<=sizeLine/\(a == sysModules)=false/\∃ vs,KV kvs vs/\h.DictOf (mixKind P w) a vs
 | .dT kvs=>kvs.length<=sizeLine/\(a == sysModules)=false/\∃ xs:List (List Key×Addr×Value),
   Paired (fun(p:List Key×V) (q:List Key×Addr×Value)=>p.1=q.1/\H q.2.1=some (.tup (p.1.map kV))/\RelV p.2 q.2.2) kvs xs /\
   ∃ o es ep,h.get? a=some o/\o.ExactDict/\o.data = .dict es ep/\es.toList=xs.map (entryOfKey (tupleKind (mixKind P w)))/\(xs.map (·.1)).Nodup
 | .set S n=>h.SetOf (intKind P w) a S n
 | .ins C dx fs=>H dx=some (.own a)/\fs.length<=1000/\dx≠a/\h.get? a=some (PySem.W.instObj C dx) /\
   ∃ mA,h.Ns1 dx mA/\(∀ f,RelO (fs.lookup f) (mA f))/\PySem.Within mA (fs.map (·.1))
 | .own _=>∃ o,h.get? a=some o
 | .xd fs=>∃ mA,h.Ns1 a mA/\∀ f,RelO (fs.lookup f) (mA f)
 | .rng lo hi=>∃ t u v,h.get? a=some { cls:=.type "range",data:=.fields #[.int lo t,.int hi u,.int 1 v] }
 | .frz o u=>h.get? a=some o/\ObjOk H h a u
 | .tbl ps=>h.get? a=some { cls:=.none,data:=.fields ps }
 | .met f x=>h.get? a=some (PySem.W.methodObj (.ref f) (.ref x))
 | .ext φ=>φ h/\(∃ o,h.get? a=some o)/\∀ h1 h2:Heap,φ h1->(∀ o,h1.get? a=some o->h2.get? a=some o)->φ h2
noncomputable def HOk(H:Hp)(h:Heap):Prop:=∀ a o,H a=some o->ObjOk P w H h a o
end
section
variable{P:Program}{w:World}{H H':Hp}{h h':Heap}{a:Addr}{o:HO}
theorem ObjOk.lt(x:ObjOk P w H h a o):a<h.objs.size:=by
 cases o with
 |lst xs=>obtain⟨_,_,_,_,e⟩:=x;exact Heap.lt_size e
 |tup xs=>obtain⟨_,_,_,p⟩:=x;exact p.lt
 |dK kvs=>obtain⟨_,_,_,_,o,_,_,e,_⟩:=x;exact Heap.lt_size e
 |dT kvs=>obtain⟨_,_,_,_,o,_,_,e,_⟩:=x;exact Heap.lt_size e
 |set S n=>obtain⟨o,_,_,_,e,_⟩:=x;exact Heap.lt_size e
 |ins C dx fs=>obtain⟨_,_,_,e,_⟩:=x;exact Heap.lt_size e
 |own y=>obtain⟨_,e⟩:=x;exact Heap.lt_size e
 |xd fs=>obtain⟨_,⟨_,_,_,e,_⟩,_⟩:=x;exact Heap.lt_size e
 |rng lo hi=>obtain⟨_,_,_,e⟩:=x;exact Heap.lt_size e
 |frz ob u=>obtain⟨e,_⟩:=x;exact Heap.lt_size e
 |tbl ps=>exact Heap.lt_size (show h.get? a=some _ from x)
 |met f y=>exact Heap.lt_size (show h.get? a=some _ from x)
 |ext φ=>obtain⟨_,⟨_,e⟩,_⟩:=x;exact Heap.lt_size e
theorem Paired.mapP{α β:Type}{F G:α->β->Prop}:∀ {l₁:List α}{l₂:List β},Paired F l₁ l₂->(∀ a b,F a b->G a b)->Paired G l₁ l₂
 | _,_,.nil,_=>.nil
 | _,_,.cons r t,f=>.cons (f _ _ r) (Paired.mapP t f)
theorem ObjOk.stay(x:ObjOk P w H h a o)(k:∀ b u,(b=a\/H b=some (.own a))->h.get? b=some u->h'.get? b=some u)
  (ho:∀ b,H b=some (.own a)->H' b=some (.own a)) (ht:∀ b xs,H b=some (.tup xs)->H' b=some (.tup xs)):ObjOk P w H' h' a o:=by
 induction o with
 |lst xs=>obtain⟨z,its,n,r,e⟩:=x;exact⟨z,its,n,r,k _ _ (.inl rfl) e⟩
 |tup xs=>obtain⟨z,its,r,ob,e,c⟩:=x;exact⟨z,its,r,ob,k _ _ (.inl rfl) e,c⟩
 |dK kvs=>obtain⟨z,y,vs,r,ob,es,ep,e,c⟩:=x;exact⟨z,y,vs,r,ob,es,ep,k _ _ (.inl rfl) e,c⟩
 |dT kvs =>
  obtain⟨z,y,xs,r,ob,es,ep,e,c⟩:=x
  exact⟨z,y,xs,Paired.mapP r fun p q z=>⟨z.1,ht _ _ z.2.1,z.2.2⟩,ob,es,ep,k _ _ (.inl rfl) e,c⟩
 |set S n=>obtain⟨ob,es,ep,t,e,c⟩:=x;exact⟨ob,es,ep,t,k _ _ (.inl rfl) e,c⟩
 |ins C dx fs =>
  obtain⟨d,z,ne,e,mA,⟨od,es,ep,e2,c⟩,r⟩:=x
  exact⟨ho _ d,z,ne,k _ _ (.inl rfl) e,mA,⟨od,es,ep,k _ _ (.inr d) e2,c⟩,r⟩
 |own y=>obtain⟨ob,e⟩:=x;exact⟨ob,k _ _ (.inl rfl) e⟩
 |xd fs=>obtain⟨mA,⟨od,es,ep,e,c⟩,r⟩:=x;exact⟨mA,⟨od,es,ep,k _ _ (.inl rfl) e,c⟩,r⟩
 |rng lo hi=>obtain⟨t,u,v,e⟩:=x;exact⟨t,u,v,k _ _ (.inl rfl) e⟩
 |frz ob u ih=>obtain⟨e,q⟩:=x;exact⟨k _ _ (.inl rfl) e,ih q⟩
 |tbl ps =>
  have e:h.get? a=some { cls:=.none,data:=.fields ps }:=x
  show h'.get? a=some { cls:=.none,data:=.fields ps }
  exact k a _ (.inl rfl) e
 |met f y =>
  have e:h.get? a=some (PySem.W.methodObj (.ref f) (.ref y)):=x
  show h'.get? a=some (PySem.W.methodObj (.ref f) (.ref y))
  exact k a _ (.inl rfl) e
 |ext φ=>obtain⟨p,⟨o,e⟩,st⟩:=x;exact⟨st _ _ p fun o q=>k _ _ (.inl rfl) q,⟨o,k _ _ (.inl rfl) e⟩,st⟩
theorem HOk.lt(x:HOk P w H h)(e:H a=some o):a<h.objs.size:=(x a o e).lt
theorem HOk.fresh(x:HOk P w H h)(e:h.objs.size<=a):H a=none:=by
 cases q:H a with
 |none=>rfl
 |some u=>exact absurd (Nat.lt_of_lt_of_le (x.lt q) e) (Nat.lt_irrefl _)
theorem HOk.kept(x:HOk P w H h)(k:∀ b u,h.get? b=some u->h'.get? b=some u):HOk P w H h':=fun a o e =>
 (x a o e).stay (fun b u _ q=>k b u q) (fun _ q=>q) fun _ _ q=>q
theorem HOk.laid(x:HOk P w H h)(k:∀ b u,h.get? b=some u->h'.get? b=some u)(hp:h.objs.size<=a)(new:ObjOk P w (upd H a o) h' a o):HOk P w (upd H a o) h':=fun b u e=>by
 have hn:=x.fresh hp
 by_cases hb:b=a
 ·subst hb;rw[upd_same]at e;cases e;exact new
 ·rw[upd_ne hb]at e
  exact(x b u e).stay (fun c v _ q=>k c v q) (fun c q=>by rw[upd_ne (ne_of_none q hn)];exact q) fun c xs q=>by rw[upd_ne (ne_of_none q hn)];exact q
end
noncomputable def Rd(H:Hp)(a:Addr)(u:HO):Prop:=H a=some u\/∃ o,H a=some (.frz o u)
theorem Rd.ok{P:Program}{w:World}{H:Hp}{h:Heap}{a:Addr}{u:HO}(r:Rd H a u)(x:HOk P w H h):ObjOk P w H h a u:=by
 rcases r with r |⟨o,r⟩
 ·exact x a u r
 ·obtain⟨_,q⟩:=x a _ r
  exact q
noncomputable def Mut:Option HO->Prop
 |some (.lst _)=>True
 |some (.dK _)=>True
 |some (.dT _)=>True
 |some (.set _ _)=>True
 |some (.ins _ _ _)=>True
 |some (.ext _)=>True
 | _=>False
section
variable{P:Program}{w:World}{H:Hp}{h h':Heap}{x e:Addr}{o':HO}
theorem HOk.write(ok:HOk P w H h)(mu:Mut (H x))(he:e=x\/H e=some (.own x))(k:∀ b u,b≠e->h.get? b=some u->h'.get? b=some u)(heo:∃ u,h'.get? e=some u)
  (new:ObjOk P w (upd H x o') h' x o'):HOk P w (upd H x o') h':=fun b u q=>by
 have nown:∀ c y,H c=some (.own y)->c≠x:=fun c y r z=>by subst z;rw[r]at mu;exact mu
 have ntup:∀ c xs,H c=some (.tup xs)->c≠x:=fun c xs r z=>by subst z;rw[r]at mu;exact mu
 by_cases hb:b=x
 ·subst hb;rw[upd_same]at q;cases q;exact new
 ·rw[upd_ne hb]at q
  by_cases hbe:b=e
  ·have q':H b=some (.own x):=by
    rcases he with z | z
    ·exact absurd (hbe.trans z) hb
    ·rw[hbe];exact z
   rw[q]at q';cases q'
   obtain⟨v,hv⟩:=heo
   exact⟨v,by rw[hbe];exact hv⟩
  ·refine(ok b u q).stay (fun c v hc r=>k c v ?_ r) (fun c r=>by rw[upd_ne (nown c b r)];exact r) fun c xs r=>by rw[upd_ne (ntup c xs r)];exact r
   rcases hc with rfl | hc
   ·exact hbe
   ·rintro rfl
    rcases he with z | z
    ·exact nown c b hc z
    ·rw[hc]at z;cases z;exact hb rfl
end
structure Un(fs ex:List Addr)(H H':Hp)(h h':Heap):Prop where
 keep:∀ b o,h.get? b=some o->H b=none->b∉fs->b∉ex->h'.get? b=some o
 slot:∀ b o,h.get? b=some o->H b=none->b∈fs->b∉ex->∃ sl,h'.get? b=some { o with slots:=sl }
 free:∀ b o,h.get? b=some o->H b=none->b∉ex->H' b=none
 there:∀ b o,h.get? b=some o->b∉ex->∃ o',h'.get? b=some o'
 tups:∀ b xs,H b=some (.tup xs)->H' b=some (.tup xs)
 frzs:∀ b o u,H b=some (.frz o u)->H' b=some (.frz o u)
 tbls:∀ b ps,H b=some (.tbl ps)->∃ more,H' b=some (.tbl (ps++more))
section
variable{fs fs' ex ex':List Addr}{H H1 H2:Hp}{h h1 h2 h':Heap}{a x e:Addr}{o:HO}
theorem Un.any(u:Un fs ex H H1 h h1){b:Addr}{ob:Obj}(q:h.get? b=some ob)(n:H b=none)(hx:b∉ex):∃ sl,h1.get? b=some { ob with slots:=sl }:=by
 by_cases hb:b∈fs
 ·exact u.slot b ob q n hb hx
 ·exact⟨ob.slots,u.keep b ob q n hb hx⟩
theorem Un.kept(k:∀ b u,h.get? b=some u->h'.get? b=some u):Un fs ex H H h h' :=
 ⟨fun b ob q _ _ _=>k b ob q,fun b ob q _ _ _=>⟨ob.slots,k b ob q⟩,fun _ _ _ n _=>n,fun b ob q _=>⟨ob,k b ob q⟩,fun _ _ q=>q,fun _ _ _ q=>q,fun _ ps q=>⟨#[],by rw[q];simp⟩⟩
theorem Un.refl:Un fs ex H H h h:=Un.kept fun _ _ q=>q
theorem Un.laid(k:∀ b u,h.get? b=some u->h'.get? b=some u)(hp:h.objs.size<=a)(hn:H a=none):Un fs ex H (upd H a o) h h' where
 keep:=fun b u q _ _ _=>k b u q
 slot:=fun b u q _ _ _=>⟨u.slots,k b u q⟩
 free:=fun b u q n _=>by rw[upd_ne (Nat.ne_of_lt (Nat.lt_of_lt_of_le (Heap.lt_size q) hp))];exact n
 there:=fun b u q _=>⟨u,k b u q⟩
 tups:=fun b xs q=>by rw[upd_ne (ne_of_none q hn)];exact q
 frzs:=fun b u xs q=>by rw[upd_ne (ne_of_none q hn)];exact q
 tbls:=fun b ps q=>⟨#[],by rw[upd_ne (ne_of_none q hn),q];simp⟩
theorem Un.write(mu:Mut (H x))(he:e=x\/H e=some (.own x))(k:∀ b u,b≠e->h.get? b=some u->h'.get? b=some u)(heo:∃ u,h'.get? e=some u):Un fs ex H (upd H x o) h h':=by
 have hx:∀ b,H b=none->b≠x:=fun b n z=>by subst z;rw[n]at mu;exact mu
 have hb:∀ b,H b=none->b≠e:=fun b n z=>by
  subst z
  rcases he with r | r
  ·exact hx b n r
  ·rw[n]at r;cases r
 have hm:∀ b u,H b=some u->¬ Mut (some u)->b≠x:=fun b u q nm z=>by subst z;rw[q]at mu;exact nm mu
 refine⟨fun b u q n _ _=>k b u (hb b n) q,fun b u q n _ _=>⟨u.slots,k b u (hb b n) q⟩,fun b u q n _=>by rw[upd_ne (hx b n)];exact n,fun b u q _=>?_,
  fun b xs q=>by rw[upd_ne (hm b _ q fun z=>z)];exact q,fun b u xs q=>by rw[upd_ne (hm b _ q fun z=>z)];exact q,fun b ps q=>⟨#[],by rw[upd_ne (hm b _ q fun z=>z),q];simp⟩⟩
 by_cases hbe:b=e
 ·subst hbe;exact heo
 ·exact⟨u,k b u hbe q⟩
end
noncomputable def trk(h:Heap)(H:Hp):List Addr:=(List.range h.objs.size).filter fun a=>(H a).isSome
noncomputable def hidT(h:Heap)(H:Hp):Heap:=PySem.W.hideAll h (trk h H)
theorem hidT_size(h:Heap)(H:Hp):(hidT h H).objs.size=h.objs.size:=PySem.W.hideAll_size _ _
theorem hidT_get{h:Heap}{H:Hp}{b:Addr}{o:Obj}(e:h.get? b=some o)(n:H b=none):(hidT h H).get? b=some o :=
 PySem.W.hideAll_get _ e fun hm=>by
  have q:(H b).isSome=true:=(List.mem_filter.mp hm).2
  rw[n]at q;simp at q
theorem of_hidT{h:Heap}{H:Hp}{b:Addr}{o:Obj}(e:(hidT h H).get? b=some o):h.get? b=some o/\H b=none:=by
 have e':h.get? b=some o:=PySem.W.of_hideAll (trk h H) e
 refine⟨e',?_⟩
 cases q:H b with
 |none=>rfl
 |some x =>
  have hm:b∈trk h H:=List.mem_filter.mpr ⟨List.mem_range.mpr (Heap.lt_size e'),by simp[q]⟩
  have z:(hidT h H).get? b=none:=PySem.W.hideAll_none (trk h H) hm
  rw[z]at e;cases e
open PySem PySem.Spec PyProof.Rows
structure Mod(K:PySem.W.Frag)(mg:Str->Option Value)(base:Heap):Prop where
 kin:K.In base
 glob:base.Ns mainGlobals mg
 blt:∃ mb,base.Ns builtinsNs mb/\∀ x:Str,x≠"__name__"->mb x=bootBuiltins x
 nolimit:base.NoLimit
structure Cx where
 prog:Program
 w:World
 K:PySem.W.Frag
 mg:Str->Option Value
 base:Heap
 A:Around
 N:List Str
 s₀:Shared
 H₀:Hp
 env:Env
 outer:List Env
 stack:List Env
 ex:List Addr
 fn:Str->Bool
 calm:Bool
 pn:List (Addr×Obj)
 xe:Value->Shared->Prop
noncomputable def frs(l:List Env):List Addr:=l.filterMap (·.frame)
noncomputable abbrev Cx.fs(X:Cx):List Addr:=frs X.outer
noncomputable def Vis(sc:Scope)(x:Str):Prop:=sc.names.lookup x=some .local\/sc.names.lookup x=some .cell\/sc.names.lookup x=some .free
noncomputable def Loc(sc:Scope)(x:Str):Prop:=sc.names.lookup x=some .local\/sc.names.lookup x=some .cell
noncomputable def Look(env:Env)(h:Heap)(m:Str->Option Value)(x:Str)(u:Value):Prop :=
 (env.kindOf x=some .local/\m x=some u)\/((env.kindOf x=some .cell\/env.kindOf x=some .free)/\∃ c,env.cells.lookup x=some c/\h.IsCell c (some u))
structure Cx.Ok(X:Cx):Prop where
 mod:Mod X.K X.mg X.base
 kind:X.env.scope.kind = .function
 glob:X.env.globals=mainGlobals
 blt:X.env.builtins=builtinsNs
 above:X.s₀.heap.objs.size<=X.env.locals
 inj:∀ x y c,X.env.cells.lookup x=some c->X.env.cells.lookup y=some c->x=y
 has:∀ x,(X.env.kindOf x=some .cell\/X.env.kindOf x=some .free)->∃ c,X.env.cells.lookup x=some c
 cab:∀ x c,X.fn x=true->X.env.cells.lookup x=some c->X.s₀.heap.objs.size<=c
 hd:X.calm=true->X.A.handled=none
 frames:X.A.frames=some X.stack
 stk:X.stack=X.outer\/(X.stack=X.env :: X.outer/\X.env.frame=some X.env.locals)
 exf:∀ b∈X.ex,b≠X.env.locals/\∀ x c,X.env.cells.lookup x=some c->c≠b
 bs:∀ b o,X.base.get? b=some o->X.s₀.heap.get? b=some o/\X.H₀ b=none
 bsz:X.base.objs.size<=X.s₀.heap.objs.size
 noex:∀ b o,X.base.get? b=some o->b∉X.ex
 exfs:∀ b∈X.ex,b∉X.fs
 funs:X.s₀.heap.FunFrames X.base X.outer
 frf:∀ b∈X.fs,X.H₀ b=none
structure Inv(X:Cx)(pins:List (Addr×Obj))(σ:List (Option V))(H:Hp)(s:Shared):Prop where
 ok:X.Ok
 os:s.os=X.s₀.os
 bare:AllBare s.gens
 base:Un X.fs X.ex X.H₀ H X.s₀.heap s.heap
 loc:∃ m,s.heap.Ns X.env.locals m/\∀ (i:Nat) (x:Str) (v:V),X.N[i]?=some x->σ[i]?=some (some v)->Vis X.env.scope x->∃ u,RelV v u/\Look X.env s.heap m x u
 cell:∀ x c,X.env.cells.lookup x=some c->∃ v,s.heap.IsCell c v
 free:H X.env.locals=none
 freeC:∀ x c,X.env.cells.lookup x=some c->H c=none
 pin:∀ p∈X.pn++pins,s.heap.get? p.1=some p.2/\H p.1=none/\p.1≠X.env.locals/\p.1∉X.fs/\∀ v,p.2.data≠.cell v
 hok:HOk X.prog X.w H s.heap
 len:σ.length=X.N.length
section
variable{X:Cx}{pins:List (Addr×Obj)}{σ:List (Option V)}{H H':Hp}{s:Shared}{h':Heap}
theorem Cx.Ok.nofr(ok:X.Ok){b:Addr}{o:Obj}(e:X.base.get? b=some o):b∉X.fs:=fun hb=>by
 have:=(ok.funs.mem hb).1
 rw[e]at this;cases this
theorem Inv.bs(I:Inv X pins σ H s):∀ b o,X.base.get? b=some o->s.heap.get? b=some o/\H b=none:=fun b o e =>
 ⟨I.base.keep b o (I.ok.bs b o e).1 (I.ok.bs b o e).2 (I.ok.nofr e) (I.ok.noex b o e),I.base.free b o (I.ok.bs b o e).1 (I.ok.bs b o e).2 (I.ok.noex b o e)⟩
theorem Inv.bk(I:Inv X pins σ H s):∀ b o,X.base.get? b=some o->s.heap.get? b=some o:=fun b o e=>(I.bs b o e).1
theorem Inv.mod(I:Inv X pins σ H s):Mod X.K X.mg X.base:=I.ok.mod
theorem Inv.kIn(I:Inv X pins σ H s):X.K.In s.heap:=I.ok.mod.kin.keeps I.bk
theorem Inv.nolimit(I:Inv X pins σ H s):s.heap.NoLimit:=I.ok.mod.nolimit.keeps I.bk
theorem Inv.lt(I:Inv X pins σ H s):X.env.locals<s.heap.objs.size:=let ⟨_,hn,_⟩:=I.loc;hn.lt
theorem Inv.sz(I:Inv X pins σ H s):X.s₀.heap.objs.size<=s.heap.objs.size:=Nat.le_trans I.ok.above (Nat.le_of_lt I.lt)
theorem Inv.nofs(I:Inv X pins σ H s){a:Addr}(h:s.heap.objs.size<=a):a∉X.fs:=fun hb=>by
 obtain⟨_,o,ho,_⟩:=I.ok.funs.mem hb
 exact absurd (Nat.lt_of_lt_of_le (Heap.lt_size ho) (Nat.le_trans I.sz h)) (Nat.lt_irrefl _)
theorem Inv.cne(I:Inv X pins σ H s):∀ x c,X.env.cells.lookup x=some c->c≠X.env.locals:=fun x c e z=>by
 obtain⟨v,o,ho,hd⟩:=I.cell x c e
 obtain⟨m,⟨o',es,ep,ho',hd',_⟩,_⟩:=I.loc
 rw[z,ho']at ho;cases ho;rw[hd']at hd;cases hd
theorem Inv.funs(I:Inv X pins σ H s):s.heap.FunFrames X.base X.outer:=by
 have all:∀ (l:List Env),(∀ b∈frs l,b∈X.fs)->X.s₀.heap.FunFrames X.base l->s.heap.FunFrames X.base l:=by
  intro l
  induction l with
  |nil=>intro _ _;trivial
  |cons env r ih =>
   intro hs hl
   obtain⟨hk,⟨L,o,hf,hn,ho,hd⟩,hr⟩:=hl
   have hL:L∈X.fs:=hs L (by unfold frs;rw[List.filterMap_cons,hf];exact List.mem_cons_self)
   obtain⟨sl,e⟩:=I.base.slot L o ho (I.ok.frf L hL) hL fun z=>I.ok.exfs L z hL
   exact⟨hk,⟨L,_,hf,hn,e,hd⟩,ih (fun b hb=>hs b (by unfold frs;rw[List.filterMap_cons,hf];exact List.mem_cons_of_mem _ hb)) hr⟩
 exact all X.outer (fun _ hb=>hb) I.ok.funs
theorem Inv.stack(I:Inv X pins σ H s):s.heap.FunFrames X.base X.stack:=by
 rcases I.ok.stk with e |⟨e,hf⟩
 ·rw[e];exact I.funs
 ·rw[e]
  obtain⟨m,hn,_⟩:=I.loc
  refine .cons (by rw[I.ok.kind];decide) hf hn ?_ I.funs
  exact Heap.get?_none_of_le (Nat.le_trans I.ok.bsz I.ok.above)
theorem Inv.stkSub(I:Inv X pins σ H s):∀ b∈frs X.stack,b∈X.env.locals :: X.fs:=fun b hb=>by
 rcases I.ok.stk with e |⟨e,hf⟩
 ·rw[e]at hb;exact List.mem_cons_of_mem _ hb
 ·rw[e]at hb
  unfold frs at hb
  rw[List.filterMap_cons,hf]at hb
  exact hb
theorem Inv.stkFree(I:Inv X pins σ H s):∀ b∈frs X.stack,H b=none:=fun b hb=>by
 rcases List.mem_cons.mp (I.stkSub b hb)with e | hb
 ·rw[e];exact I.free
 ·obtain⟨_,o,ho,_⟩:=I.ok.funs.mem hb
  exact I.base.free b o ho (I.ok.frf b hb) fun z=>I.ok.exfs b z hb
theorem Inv.step{g':Array GenState}{t':Nat}{d':Drawn}{ch:List Addr}(I:Inv X pins σ H s)
  (hch:∀ b∈ch,(b∈X.ex\/X.s₀.heap.objs.size<=b)/\b≠X.env.locals/\(∀ x c,X.env.cells.lookup x=some c->c≠b)/\∀ p∈X.pn++pins,p.1≠b)
  (keep:∀ b o,b≠X.env.locals->b∉X.fs->b∉ch->s.heap.get? b=some o->H b=none->h'.get? b=some o)
  (slot:∀ b o,b≠X.env.locals->b∈X.fs->b∉ch->s.heap.get? b=some o->H b=none->∃ sl,h'.get? b=some { o with slots:=sl }) (free:∀ b o,b∉ch->s.heap.get? b=some o->H b=none->H' b=none)
  (there:∀ b o,b∉ch->s.heap.get? b=some o->∃ o',h'.get? b=some o')
  (tups:∀ b xs,H b=some (.tup xs)->H' b=some (.tup xs)) (frzs:∀ b o u,H b=some (.frz o u)->H' b=some (.frz o u)) (tbls:∀ b ps,H b=some (.tbl ps)->∃ more,H' b=some (.tbl (ps++more)))
  (ns:∀ m,s.heap.Ns X.env.locals m->h'.Ns X.env.locals m) (hok:HOk X.prog X.w H' h') (hg:AllBare g') :
  Inv X pins σ H' { s with heap:=h',gens:=g',drawn:=d',toks:=t' }:=by
 have neL:∀ b o,X.s₀.heap.get? b=some o->b≠X.env.locals:=fun b o e=>Nat.ne_of_lt (Nat.lt_of_lt_of_le (Heap.lt_size e) I.ok.above)
 have neC:∀ b o,X.s₀.heap.get? b=some o->b∉X.ex->b∉ch:=fun b o e hx hb=>by
  rcases(hch b hb).1 with z | z
  ·exact hx z
  ·exact absurd (Nat.lt_of_lt_of_le (Heap.lt_size e) z) (Nat.lt_irrefl _)
 have cellK:∀ x c,X.env.cells.lookup x=some c->∀ v,s.heap.IsCell c v->h'.IsCell c v:=fun x c e v ⟨o,ho,hd⟩=>by
  have nch:c∉ch:=fun z=>(hch c z).2.2.1 x c e rfl
  by_cases hc:c∈X.fs
  ·obtain⟨sl,q⟩:=slot c o (I.cne x c e) hc nch ho (I.freeC x c e)
   exact⟨_,q,hd⟩
  ·exact⟨o,keep c o (I.cne x c e) hc nch ho (I.freeC x c e),hd⟩
 refine⟨I.ok,I.os,hg,⟨fun b o e n hb hx=>?_,fun b o e n hb hx=>?_,fun b o e n hx=>?_,fun b o e hx=>?_,fun b xs e=>tups b xs (I.base.tups b xs e),fun b o xs e=>frzs b o xs (I.base.frzs b o xs e),fun b ps e=>?_⟩,?_,fun x c e=>?_,?_,fun x c e=>?_,fun p hp=>?_,hok,I.len⟩
 ·exact keep b o (neL b o e) hb (neC b o e hx) (I.base.keep b o e n hb hx) (I.base.free b o e n hx)
 ·obtain⟨sl,e1⟩:=I.base.slot b o e n hb hx
  obtain⟨sl',e2⟩:=slot b _ (neL b o e) hb (neC b o e hx) e1 (I.base.free b o e n hx)
  exact⟨sl',e2⟩
 ·obtain⟨o',e1⟩:=I.base.there b o e hx
  exact free b o' (neC b o e hx) e1 (I.base.free b o e n hx)
 ·obtain⟨o',e1⟩:=I.base.there b o e hx
  exact there b o' (neC b o e hx) e1
 ·obtain⟨m1,e1⟩:=I.base.tbls b ps e
  obtain⟨m2,e2⟩:=tbls b _ e1
  exact⟨m1++m2,by rw[e2,Array.append_assoc]⟩
 ·obtain⟨m,hn,hl⟩:=I.loc
  refine⟨m,ns m hn,fun i x v e1 e2 e3=>?_⟩
  obtain⟨u,r,l⟩:=hl i x v e1 e2 e3
  refine⟨u,r,?_⟩
  rcases l with l |⟨k,c,e,z⟩
  ·exact .inl l
  ·exact .inr ⟨k,c,e,cellK x c e _ z⟩
 ·obtain⟨v,z⟩:=I.cell x c e
  exact⟨v,cellK x c e v z⟩
 ·obtain⟨m,⟨o,_,_,ho,_⟩,_⟩:=I.loc
  exact free _ o (fun z=>(hch _ z).2.1 rfl) ho I.free
 ·obtain⟨v,o,ho,hd⟩:=I.cell x c e
  exact free c o (fun z=>(hch c z).2.2.1 x c e rfl) ho (I.freeC x c e)
 ·obtain⟨e,n,ne,nf,d⟩:=I.pin p hp
  have nch:p.1∉ch:=fun z=>(hch p.1 z).2.2.2 p hp rfl
  exact⟨keep p.1 p.2 ne nf nch e n,free p.1 p.2 nch e n,ne,nf,d⟩
theorem Inv.un{t':Nat}(I:Inv X pins σ H s)(u:Un X.fs [] H H' s.heap h')(hok:HOk X.prog X.w H' h'):Inv X pins σ H' { s with heap:=h',toks:=t' }:=by
 obtain⟨m,⟨o,es,ep,ho,r⟩,_⟩:=id I.loc
 obtain⟨sl,hL⟩:=u.any ho I.free (by simp)
 exact I.step (g':=s.gens) (d':=s.drawn) (ch:=[]) (fun _ z=>nomatch z) (fun b o _ hb _ e n=>u.keep b o e n hb (by simp)) (fun b o _ hb _ e n=>u.slot b o e n hb (by simp)) (fun b o _ e n=>u.free b o e n (by simp)) (fun b o _ e=>u.there b o e (by simp)) u.tups u.frzs u.tbls (fun m' hm=>by
  obtain⟨o',es',ep',ho',r'⟩:=hm
  rw[ho]at ho';cases ho'
  exact⟨_,es',ep',hL,r'⟩) hok I.bare
theorem Inv.call{g':Array GenState}{t':Nat}{d':Drawn}{ch:List Addr}(I:Inv X pins σ H s)(u:Un (frs X.stack) ch H H' s.heap h')(hok:HOk X.prog X.w H' h')(hg:AllBare g')
  (hch:∀ b∈ch,(b∈X.ex\/X.s₀.heap.objs.size<=b)/\b≠X.env.locals/\(∀ x c,X.env.cells.lookup x=some c->c≠b)/\∀ p∈X.pn++pins,p.1≠b) :
  Inv X pins σ H' { s with heap:=h',gens:=g',drawn:=d',toks:=t' }:=by
 obtain⟨m,⟨o,es,ep,ho,r⟩,_⟩:=id I.loc
 obtain⟨sl,hL⟩:=u.any ho I.free fun z=>(hch _ z).2.1 rfl
 exact I.step (ch:=ch) hch (fun b o hL hb hc e n=>u.keep b o e n (fun z=>(List.mem_cons.mp (I.stkSub b z)).elim hL hb) hc) (fun b o _ _ hc e n=>u.any e n hc) (fun b o hc e n=>u.free b o e n hc) (fun b o hc e=>u.there b o e hc) u.tups u.frzs u.tbls (fun m' hm=>by
  obtain⟨o',es',ep',ho',r'⟩:=hm
  rw[ho]at ho';cases ho'
  exact⟨_,es',ep',hL,r'⟩) hok hg
theorem Inv.turned{t':Nat}{it:Addr}(I:Inv X pins σ H s)(k:∀ b o,b≠it->s.heap.get? b=some o->h'.get? b=some o)(hn:H it=none)(hL:it≠X.env.locals)
  (h1:it∈X.ex\/X.s₀.heap.objs.size<=it) (h2:∀ x c,X.env.cells.lookup x=some c->c≠it) (h3:∀ p∈X.pn++pins,p.1≠it):Inv X pins σ H { s with heap:=h',toks:=t' }:=by
 have nit:∀ b u,H b=some u->b≠it:=fun b u e z=>by rw[z,hn]at e;cases e
 refine I.step (g':=s.gens) (d':=s.drawn) (ch:=[it]) (fun b hb=>?_) (fun b o _ _ hc e _=>k b o (fun z=>hc (by simp[z])) e) (fun b o _ _ hc e _=>⟨o.slots,k b o (fun z=>hc (by simp[z])) e⟩) (fun _ _ _ _ n=>n)
  (fun b o hc e=>⟨o,k b o (fun z=>hc (by simp[z])) e⟩) (fun _ _ e=>e) (fun _ _ _ e=>e) (fun b ps e=>⟨#[],by rw[e];simp⟩) (fun m hm=>?_) (fun b u e=>?_) I.bare
 ·have e:b=it:=by simpa using hb
  subst e
  exact⟨h1,hL,h2,h3⟩
 ·obtain⟨o,es,ep,ho,r⟩:=hm
  exact⟨o,es,ep,k _ o (Ne.symm hL) ho,r⟩
 ·refine(I.hok b u e).stay (fun c v hc q=>k c v ?_ q) (fun _ q=>q) fun _ _ q=>q
  rcases hc with z | z
  ·rw[z];exact nit b u e
  ·exact nit c _ z
theorem Inv.tok(I:Inv X pins σ H s)(t:Nat):Inv X pins σ H { s with toks:=t }:=I.un (h':=s.heap) (t':=t) Un.refl I.hok
theorem Inv.kept{t':Nat}(I:Inv X pins σ H s)(k:∀ b u,s.heap.get? b=some u->h'.get? b=some u):Inv X pins σ H { s with heap:=h',toks:=t' }:=I.un (Un.kept k) (I.hok.kept k)
theorem Inv.laid{a:Addr}{o:HO}{t':Nat}(I:Inv X pins σ H s)(k:∀ b u,s.heap.get? b=some u->h'.get? b=some u)(hp:s.heap.objs.size<=a)(new:ObjOk X.prog X.w (upd H a o) h' a o) :
  Inv X pins σ (upd H a o) { s with heap:=h',toks:=t' }:=I.un (Un.laid k hp (I.hok.fresh hp)) (I.hok.laid k hp new)
theorem Inv.write{x e:Addr}{o:HO}{t':Nat}(I:Inv X pins σ H s)(mu:Mut (H x))(he:e=x\/H e=some (.own x))(k:∀ b u,b≠e->s.heap.get? b=some u->h'.get? b=some u)(heo:∃ u,h'.get? e=some u)
  (new:ObjOk X.prog X.w (upd H x o) h' x o):Inv X pins σ (upd H x o) { s with heap:=h',toks:=t' }:=I.un (Un.write mu he k heo) (I.hok.write mu he k heo new)
theorem Inv.weak{σ':List (Option V)}(I:Inv X pins σ H s)(hl:σ'.length=σ.length)(w:∀ (i:Nat) v,σ'[i]?=some (some v)->σ[i]?=some (some v)):Inv X pins σ' H s :=
 ⟨I.ok,I.os,I.bare,I.base,let ⟨m,hn,hl'⟩:=I.loc;⟨m,hn,fun i x v e1 e2 e3=>hl' i x v e1 (w i v e2) e3⟩,I.cell,I.free,I.freeC,I.pin,I.hok,hl.trans I.len⟩
theorem Inv.pins_of{pins':List (Addr×Obj)}(I:Inv X pins σ H s)(h:∀ p∈pins',s.heap.get? p.1=some p.2/\H p.1=none/\p.1≠X.env.locals/\p.1∉X.fs/\∀ v,p.2.data≠.cell v):Inv X pins' σ H s :=
 ⟨I.ok,I.os,I.bare,I.base,I.loc,I.cell,I.free,I.freeC,fun p hp=>(List.mem_append.mp hp).elim (fun z=>I.pin p (List.mem_append_left _ z)) (h p),I.hok,I.len⟩
theorem nodup_ix{N:List Str}(hN:N.Nodup){i j:Nat}{x:Str}(a:N[i]?=some x)(b:N[j]?=some x):i=j:=by
 obtain⟨h1,e1⟩:=List.getElem?_eq_some_iff.mp a
 obtain⟨h2,e2⟩:=List.getElem?_eq_some_iff.mp b
 exact(List.getElem_inj hN).mp (e1.trans e2.symm)
theorem store_ok2{M:Model}{A:Around}{E:Value->Shared->Prop}{i:Nat}{x:Str}{v:V}{u:Value}{Q:Unit->Shared->Prop}(I:Inv X pins σ H s)(hN:X.N.Nodup)(hi:X.N[i]?=some x)(hx:Loc X.env.scope x)(r:RelV v u)
  (h:∀ s',Inv X pins (σ.set i (some v)) H s'->(∃ a,Heap.SameBut a s.heap s'.heap/\(a=X.env.locals\/X.env.cells.lookup x=some a))->Q () s') (hf:X.fn x=true\/X.env.scope.names.lookup x=some .local:=by first | exact .inl rfl | exact .inr rfl | assumption):wpAny M A (storeName X.env x u) Q E s:=by
 obtain⟨m,hn,hl⟩:=id I.loc
 have hcls:(X.env.scope.kind == .class ||(X.env.scope.kind == .module && X.env.locals != X.env.globals))=false:=by rw[I.ok.kind];rfl
 have hiσ:i<σ.length:=by rw[I.len];exact(List.getElem?_eq_some_iff.mp hi).1
 have cne:=I.cne
 have tracked:∀ {a:Addr}{h':Heap},(∃ o,s.heap.get? a=some o/\H a=none)->Heap.SameBut a s.heap h'->HOk X.prog X.w H h':=fun {a h'} ha hs b ob e=>by
  obtain⟨_,_,hfree⟩:=ha
  refine(I.hok b ob e).stay (fun c w' hc q=>(hs.2 c ?_).trans q) (fun _ q=>q) fun _ _ q=>q
  rintro rfl
  rcases hc with rfl | hc
  ·rw[hfree]at e;cases e
  ·rw[hfree]at hc;cases hc
 rcases hx with hk | hk
 ·refine wpAny_storeName_local hk hn (fun h' hn' hs=>?_) hcls
  obtain⟨oL,_,_,hoL,_⟩:=id hn
  refine h _ ⟨I.ok,I.os,I.bare,⟨fun b o e n hb hx=>?_,fun b o e n hb hx=>?_,I.base.free,fun b o e hx=>?_,I.base.tups,I.base.frzs,I.base.tbls⟩,⟨_,hn',fun j y v' e1 e2 e3=>?_⟩,fun y c e=>?_,I.free,I.freeC,fun p hp=>?_,tracked ⟨oL,hoL,I.free⟩ hs,by simpa using I.len⟩ ⟨_,hs,.inl rfl⟩
  ·exact(hs.2 b (Nat.ne_of_lt (Nat.lt_of_lt_of_le (Heap.lt_size e) I.ok.above))).trans (I.base.keep b o e n hb hx)
  ·obtain⟨sl,e1⟩:=I.base.slot b o e n hb hx
   exact⟨sl,(hs.2 b (Nat.ne_of_lt (Nat.lt_of_lt_of_le (Heap.lt_size e) I.ok.above))).trans e1⟩
  ·obtain⟨o',e1⟩:=I.base.there b o e hx
   exact⟨o',(hs.2 b (Nat.ne_of_lt (Nat.lt_of_lt_of_le (Heap.lt_size e) I.ok.above))).trans e1⟩
  ·by_cases hj:j=i
   ·subst hj
    rw[hi]at e1;cases e1
    rw[List.getElem?_set_self hiσ]at e2
    cases e2
    exact⟨u,r,.inl ⟨hk,by simp⟩⟩
   ·rw[List.getElem?_set_ne (Ne.symm hj)]at e2
    obtain⟨u',r',q⟩:=hl j y v' e1 e2 e3
    refine⟨u',r',?_⟩
    rcases q with⟨k,e⟩ |⟨k,c,e,z⟩
    ·refine .inl ⟨k,?_⟩
     have:y≠x:=fun e=>hj (nodup_ix hN e1 (e▸hi))
     simp[this,e]
    ·exact .inr ⟨k,c,e,z.sameBut hs (cne y c e)⟩
  ·obtain⟨w',z⟩:=I.cell y c e
   exact⟨w',z.sameBut hs (cne y c e)⟩
  ·obtain⟨e,n,ne,nf,d⟩:=I.pin p hp
   exact⟨(hs.2 p.1 ne).trans e,n,ne,nf,d⟩
 ·have hfn:X.fn x=true:=by
   rcases hf with z | z
   ·exact z
   ·rw[z]at hk;cases hk
  obtain⟨c,hc⟩:=I.ok.has x (.inl hk)
  obtain⟨w',z⟩:=I.cell x c hc
  refine wpAny_storeName_cell I.ok.kind hk hc z (fun h' hc' hs=>?_)
  obtain⟨oc,hoc,hocd⟩:=id z
  refine h { s with heap:=h' } ⟨I.ok,I.os,I.bare,⟨fun b o e n hb hx=>?_,fun b o e n hb hx=>?_,I.base.free,fun b o e hx=>?_,I.base.tups,I.base.frzs,I.base.tbls⟩,⟨m,hn.sameBut hs (Ne.symm (cne x c hc)),fun j y v' e1 e2 e3=>?_⟩,fun y c' e=>?_,I.free,I.freeC,fun p hp=>?_,tracked ⟨oc,hoc,I.freeC x c hc⟩ hs,by simpa using I.len⟩ ⟨c,hs,.inr hc⟩
  ·exact(hs.2 b (Nat.ne_of_lt (Nat.lt_of_lt_of_le (Heap.lt_size e) (I.ok.cab x c hfn hc)))).trans (I.base.keep b o e n hb hx)
  ·obtain⟨sl,e1⟩:=I.base.slot b o e n hb hx
   exact⟨sl,(hs.2 b (Nat.ne_of_lt (Nat.lt_of_lt_of_le (Heap.lt_size e) (I.ok.cab x c hfn hc)))).trans e1⟩
  ·obtain⟨o',e1⟩:=I.base.there b o e hx
   exact⟨o',(hs.2 b (Nat.ne_of_lt (Nat.lt_of_lt_of_le (Heap.lt_size e) (I.ok.cab x c hfn hc)))).trans e1⟩
  ·by_cases hj:j=i
   ·subst hj
    rw[hi]at e1;cases e1
    rw[List.getElem?_set_self hiσ]at e2
    cases e2
    exact⟨u,r,.inr ⟨.inl hk,c,hc,hc'⟩⟩
   ·rw[List.getElem?_set_ne (Ne.symm hj)]at e2
    obtain⟨u',r',q⟩:=hl j y v' e1 e2 e3
    refine⟨u',r',?_⟩
    rcases q with q |⟨k,c',e,z'⟩
    ·exact .inl q
    ·refine .inr ⟨k,c',e,z'.sameBut hs ?_⟩
     rintro rfl
     exact hj (nodup_ix hN e1 (I.ok.inj _ _ _ e hc▸hi))
  ·by_cases hcc:c'=c
   ·subst hcc;exact⟨_,hc'⟩
   ·obtain⟨w2,z2⟩:=I.cell y c' e
    exact⟨w2,z2.sameBut hs hcc⟩
  ·obtain⟨e,n,ne,nf,d⟩:=I.pin p hp
   refine⟨(hs.2 p.1 ?_).trans e,n,ne,nf,d⟩
   intro q
   rw[q,hoc]at e
   have q':oc=p.2:=Option.some.inj e
   exact d w' (by rw[<- q'];exact hocd)
theorem store_ok{M:Model}{A:Around}{E:Value->Shared->Prop}{i:Nat}{x:Str}{v:V}{u:Value}{Q:Unit->Shared->Prop}(I:Inv X pins σ H s)(hN:X.N.Nodup)(hi:X.N[i]?=some x)(hx:Loc X.env.scope x)(r:RelV v u)
  (h:∀ s',Inv X pins (σ.set i (some v)) H s'->Q () s') (hf:X.fn x=true\/X.env.scope.names.lookup x=some .local:=by first | exact .inl rfl | exact .inr rfl | assumption):wpAny M A (storeName X.env x u) Q E s :=
 store_ok2 I hN hi hx r (fun s' I' _=>h s' I') hf
theorem Inv.call'{s':Shared}{ch:List Addr}(I:Inv X pins σ H s)(ho:s'.os=s.os)(u:Un (frs X.stack) ch H H' s.heap s'.heap)(hok:HOk X.prog X.w H' s'.heap)(hg:AllBare s'.gens)
  (hch:∀ b∈ch,(b∈X.ex\/X.s₀.heap.objs.size<=b)/\b≠X.env.locals/\(∀ x c,X.env.cells.lookup x=some c->c≠b)/\∀ p∈X.pn++pins,p.1≠b):Inv X pins σ H' s':=by
 obtain⟨h',g',d',t',o'⟩:=s'
 have e:o'=s.os:=ho
 subst e
 exact I.call (g':=g') (t':=t') (d':=d') u hok hg hch
end
noncomputable abbrev XK:=Value->Option Addr->Hp->Prop
noncomputable abbrev St:=List (Option V)
noncomputable abbrev VK:=V->Hp->Prop
noncomputable abbrev TE:=St->Hp->VK->Prop
noncomputable abbrev TT:=St->Hp->(Bool->Hp->Prop)->Prop
noncomputable abbrev TA:=St->Hp->(List V->Hp->Prop)->Prop
structure Ends where
 nx:St->Hp->Prop
 rt:VK
 bk:St->Hp->Prop:=fun _ _=>False
 ct:St->Hp->Prop:=fun _ _=>False
noncomputable abbrev TS:=Ends->St->Hp->Prop
noncomputable def EP(X:Cx)(pins:List (Addr×Obj))(σ:St)(Q:VK)(u:Value)(s':Shared):Prop:=∃ v H',Inv X pins σ H' s'/\RelV v u/\Q v H'
noncomputable def TP(X:Cx)(pins:List (Addr×Obj))(σ:St)(Q:Bool->Hp->Prop)(b:Bool)(s':Shared):Prop:=∃ H',Inv X pins σ H' s'/\Q b H'
noncomputable def AP(X:Cx)(pins:List (Addr×Obj))(σ:St)(Q:List V->Hp->Prop)(us:List Value)(s':Shared):Prop:=∃ vs H',Inv X pins σ H' s'/\Vals vs us/\Q vs H'
noncomputable def SP(X:Cx)(pins:List (Addr×Obj))(D:Ends)(f:Flow)(s':Shared):Prop :=
 match f with
 | .next=>∃ σ' H',Inv X pins σ' H' s'/\D.nx σ' H'
 | .brk=>∃ σ' H',Inv X pins σ' H' s'/\D.bk σ' H'
 | .cont=>∃ σ' H',Inv X pins σ' H' s'/\D.ct σ' H'
 | .ret u=>∃ v σ' H',Inv X pins σ' H' s'/\RelV v u/\D.rt v H'
noncomputable def PE(X:Cx)(e:Expr)(t:TE):Prop :=
 ∀ (pins:List (Addr×Obj)) (s:Shared) (σ:St) (H:Hp) (Q:VK),Inv X pins σ H s->t σ H Q->wpAny (model X.prog X.w) X.A (eval e X.env) (EP X pins σ Q) X.xe s
noncomputable def PT(X:Cx)(e:Expr)(t:TT):Prop :=
 ∀ (pins:List (Addr×Obj)) (s:Shared) (σ:St) (H:Hp) (Q:Bool->Hp->Prop),Inv X pins σ H s->t σ H Q->wpAny (model X.prog X.w) X.A (isTrue e X.env (eval e X.env)) (TP X pins σ Q) X.xe s
noncomputable def PW(X:Cx)(e:Expr)(t:TT):Prop :=
 ∀ (whole:Sem Value) (pins:List (Addr×Obj)) (s:Shared) (σ:St) (H:Hp) (Q:Bool->Hp->Prop),Inv X pins σ H s->t σ H Q->wpAny (model X.prog X.w) X.A (isTrue e X.env whole) (TP X pins σ Q) X.xe s
theorem PW.pt{X:Cx}{e:Expr}{t:TT}(h:PW X e t):PT X e t:=h _
noncomputable def PA(X:Cx)(es:List Expr)(t:TA):Prop :=
 ∀ (pos:Pos) (pins:List (Addr×Obj)) (s:Shared) (σ:St) (H:Hp) (Q:List V->Hp->Prop),Inv X pins σ H s->t σ H Q->wpAny (model X.prog X.w) X.A (spliced (backTo pos (starEach es X.env))) (AP X pins σ Q) X.xe s
noncomputable def PS(X:Cx)(st:Stmt)(t:TS):Prop :=
 ∀ (pins:List (Addr×Obj)) (s:Shared) (σ:St) (H:Hp) (D:Ends),Inv X pins σ H s->t D σ H->wpAny (model X.prog X.w) X.A (exec st X.env) (SP X pins D) X.xe s
noncomputable def PSs(X:Cx)(st:List Stmt)(t:TS):Prop :=
 ∀ (pins:List (Addr×Obj)) (s:Shared) (σ:St) (H:Hp) (D:Ends),Inv X pins σ H s->t D σ H->wpAny (model X.prog X.w) X.A (execs st X.env) (SP X pins D) X.xe s
theorem thn{α:Type}{t:Sem α}{Q Q':α->Shared->Prop}{M:Model}{A:Around}{E:Value->Shared->Prop}{s:Shared}(h:wpAny M A t Q E s)(hQ:∀ a s,Q a s->Q' a s):wpAny M A t Q' E s:=wpAny_mono h hQ fun _ _ x=>x
open PySem PySem.Spec PyProof.Rows
section
variable{X:Cx}
noncomputable def tVar(i:Nat):TE:=fun σ H Q=>∃ v,σ[i]?=some (some v)/\Q v H
noncomputable def tC(v:V):TE:=fun _ H Q=>Q v H
theorem pe_var{i:Nat}{x:Str}{pos:Pos}(hN:X.N[i]?=some x)(hv:Vis X.env.scope x)(hd:(x ==("__debug__":Str))=false:=by decide)(hcd:(x ==("__classdict__":Str))=false:=by decide):PE X (.Name x pos) (tVar i):=by
 intro pins s σ H Q I h
 obtain⟨v,e,h⟩:=h
 obtain⟨m,hn,hl⟩:=I.loc
 obtain⟨u,r,l⟩:=hl i x v hN e hv
 have fin:EP X pins σ Q u s:=⟨v,H,I,r,h⟩
 rcases l with⟨hk,hm⟩ |⟨hk,c,hc,hcell⟩
 ·exact wpAny_Name (wpAny_loadName_local I.ok.kind hk hn hm fin) hd
 ·rcases hk with hk | hk
  ·exact wpAny_Name (wpAny_loadName_cell I.ok.kind hk hc hcell fin) hd
  ·exact wpAny_Name (wpAny_loadName_free I.ok.kind hk hc hcell fin hcd) hd
theorem pe_int{i j pos}:PE X (.Constant (.int i) j pos) (tC (.int i)):=fun _ _ _ H _ I h=>wpAny_Constant_int ⟨.int i,H,I.tok _,⟨_,rfl⟩,h⟩
theorem pe_bl{b j pos}:PE X (.Constant (.bool b) j pos) (tC (.bl b)):=fun _ _ _ H _ I h=>Constant_bool ⟨.bl b,H,I,rfl,h⟩
theorem pe_non{j pos}:PE X (.Constant .none j pos) (tC .non):=fun _ _ _ H _ I h=>Constant_none ⟨.non,H,I,rfl,h⟩
noncomputable def Gl(X:Cx)(x:Str):Prop:=X.env.kindOf x=some .globalImplicit
theorem ld_glob{E:Value->Shared->Prop}{pins:List (Addr×Obj)}{s:Shared}{σ:St}{H:Hp}{x:Str}{u:Value}{pos:Pos}{Q:Value->Shared->Prop}(I:Inv X pins σ H s)(hg:Gl X x)(hm:X.mg x=some u)(h:Q u s)
  (hd:(x ==("__debug__":Str))=false:=by decide):wpAny (model X.prog X.w) X.A (eval (.Name x pos) X.env) Q E s :=
 Calls.Name_function_global I.ok.kind hg (Calls.loadGlobal_global (by rw[I.ok.glob];exact I.mod.glob.keeps I.bk) hm h) hd
theorem ld_blt{E:Value->Shared->Prop}{pins:List (Addr×Obj)}{s:Shared}{σ:St}{H:Hp}{x:Str}{u:Value}{pos:Pos}{Q:Value->Shared->Prop}(I:Inv X pins σ H s)(hg:Gl X x)(hm:X.mg x=none)(hv:bootBuiltins x=some u)(h:Q u s)
  (hn:x≠"__name__":=by decide) (hd:(x ==("__debug__":Str))=false:=by decide):wpAny (model X.prog X.w) X.A (eval (.Name x pos) X.env) Q E s:=by
 obtain⟨mb,h1,h2⟩:=I.mod.blt
 exact Calls.Name_function_global I.ok.kind hg (Calls.loadGlobal_builtin (by rw[I.ok.glob];exact I.mod.glob.keeps I.bk) hm (by rw[I.ok.blt];exact h1.keeps I.bk) ((h2 x hn).trans hv) h) hd
theorem pe_bltn{x:Str}{v:V}{u:Value}{pos:Pos}(hg:Gl X x)(hm:X.mg x=none)(hv:bootBuiltins x=some u)(r:RelV v u)(hn:x≠"__name__":=by decide)(hd:(x ==("__debug__":Str))=false:=by decide):PE X (.Name x pos) (tC v) :=
 fun _ _ _ H _ I h=>ld_blt I hg hm hv ⟨v,H,I,r,h⟩ hn hd
variable{a b:Expr}{ta tb:TE}{pos:Pos}
noncomputable def PC(X:Cx)(op:CmpOp)(a b:Expr)(t:TE):Prop :=
 ∀ (pins:List (Addr×Obj)) (s:Shared) (σ:St) (H:Hp) (Q:VK),Inv X pins σ H s->t σ H Q ->
  wpAny (model X.prog X.w) X.A (eval a X.env) (fun v s₁=>wpAny (model X.prog X.w) X.A (eval b X.env) (fun u s₂=>wpAny (model X.prog X.w) X.A (compareOp op v u) (EP X pins σ Q) X.xe s₂) X.xe s₁) X.xe s
theorem nobehind(b:Expr){op:CmpOp}(h:op≠.In)(h2:op≠.NotIn):behindInMarks op b=false:=by
 have e1:(op == CmpOp.In)=false:=by cases op <;> first | rfl | exact absurd rfl h
 have e2:(op == CmpOp.NotIn)=false:=by cases op <;> first | rfl | exact absurd rfl h2
 cases b <;> simp[behindInMarks,e1,e2]
noncomputable def tIsN(ta:TE):TE:=fun σ H Q=>ta σ H fun x H1=>Q (.bl (decide (x = .non))) H1
theorem RelV.none_iff{x:V}{v:Value}(r:RelV x v):(v == Value.none)=decide (x = .non):=by
 cases x with
 |non=>cases r;rfl
 |bl _=>cases r;rfl
 |int _=>obtain⟨t,rfl⟩:=r;rfl
 |str _=>obtain⟨t,rfl⟩:=r;rfl
 |byt _=>obtain⟨t,rfl⟩:=r;rfl
 |flt _=>obtain⟨t,rfl⟩:=r;rfl
 |ref _=>cases r;rfl
 |ty _=>cases r;rfl
theorem pc_isN{j pos'}(ha:PE X a ta):PC X .Is a (.Constant .none j pos') (tIsN ta):=by
 intro pins s σ H Q I h
 refine thn (ha pins s σ H _ I h) fun v s1 ⟨x,H1,I1,r1,q1⟩=>?_
 exact Constant_none (is_none_gen ⟨.bl _,H1,I1,by rw[r1.none_iff];rfl,q1⟩)
noncomputable def tB(t:TE):TT:=fun σ H Q=>t σ H fun x H1=>∃ c,x = .bl c/\Q c H1
theorem pt_cmp{op:CmpOp}{t:TE}(h:PC X op a b t)(h1:behindInMarks op b=false:=by first | exact nobehind _ (by decide) (by decide) | rfl):PT X (.Compare a [op] [b] pos) (tB t):=by
 intro pins s σ H Q I hw
 refine wpAny_isTrue_Compare1 (thn (h pins s σ H _ I hw) fun v s1 h1=>thn h1 fun u s2 h2=>thn h2 fun c s3 ⟨x,H1,I1,r1,q1⟩=>?_) h1
 obtain⟨d,rfl,q⟩:=q1
 cases r1
 exact wpAny_truthy_bool ⟨H1,I1,q⟩
theorem pt_val{e:Expr}{t:TE}(h:PE X e t)(he:∀ whole,isTrue e X.env whole=(do let v <- whole;standAt e.pos;holding [v] (truthy v)):=by intro _;rfl):PT X e (tB t):=by
 intro pins s σ H Q I hw
 refine isTrue_plain (thn (h pins s σ H _ I hw) fun v s1 ⟨x,H1,I1,r1,q1⟩=>?_) (he _)
 obtain⟨d,rfl,q⟩:=q1
 cases r1
 exact wpAny_truthy_bool ⟨H1,I1,q⟩
variable{tA tB':TT}{rest:List Expr}
noncomputable def tAnd(t u:TT):TT:=fun σ H Q=>t σ H fun c H1=>if c=true then u σ H1 Q else Q false H1
noncomputable def tOr(t u:TT):TT:=fun σ H Q=>t σ H fun c H1=>if c=true then Q true H1 else u σ H1 Q
noncomputable def tNot(t:TT):TT:=fun σ H Q=>t σ H fun c H1=>Q (!c) H1
theorem pw_and1(ha:PT X a tA):PW X (.BoolOp .And [a] pos) tA:=by
 intro wh pins s σ H Q I h
 refine isTrue_and (thn (ha pins s σ H Q I h) fun c s1 e=>?_)
 cases c with
 |true=>exact isTrue_and_nil e
 |false=>exact e
theorem pw_or1(ha:PT X a tA):PW X (.BoolOp .Or [a] pos) tA:=by
 intro wh pins s σ H Q I h
 refine isTrue_or (thn (ha pins s σ H Q I h) fun c s1 e=>?_)
 cases c with
 |false=>exact isTrue_or_nil e
 |true=>exact e
theorem pw_and(ha:PT X a tA)(hb:PW X (.BoolOp .And (b :: rest) pos) tB'):PW X (.BoolOp .And (a :: b :: rest) pos) (tAnd tA tB'):=by
 intro wh pins s σ H Q I h
 refine isTrue_and (thn (ha pins s σ H _ I h) fun c s1 ⟨H1,I1,q1⟩=>?_)
 cases c with
 |true=>exact hb wh pins s1 σ H1 Q I1 q1
 |false=>exact⟨H1,I1,q1⟩
theorem pw_or(ha:PT X a tA)(hb:PW X (.BoolOp .Or (b :: rest) pos) tB'):PW X (.BoolOp .Or (a :: b :: rest) pos) (tOr tA tB'):=by
 intro wh pins s σ H Q I h
 refine isTrue_or (thn (ha pins s σ H _ I h) fun c s1 ⟨H1,I1,q1⟩=>?_)
 cases c with
 |true=>exact⟨H1,I1,q1⟩
 |false=>exact hb wh pins s1 σ H1 Q I1 q1
theorem pt_not(ha:PT X a tA):PT X (.UnaryOp .Not a pos) (tNot tA):=by
 intro pins s σ H Q I h
 exact isTrue_not (ha pins s σ H (fun c H1=>Q (!c) H1) I h)
noncomputable def tAndV(ta tb:TE):TE:=fun σ H Q=>ta σ H fun x H1=>∃ c,x = .bl c/\if c=true then tb σ H1 Q else Q (.bl false) H1
noncomputable def tNotV(ta:TE):TE:=fun σ H Q=>ta σ H fun x H1=>∃ c,x = .bl c/\Q (.bl (!c)) H1
theorem pe_one{op}{t:TE}(h:PE X a t):PE X (.BoolOp op [a] pos) t:=fun pins s σ H Q I hw=>BoolOp_one (h pins s σ H Q I hw)
theorem pe_and(ha:PE X a ta)(hb:PE X (.BoolOp .And (b :: rest) pos) tb):PE X (.BoolOp .And (a :: b :: rest) pos) (tAndV ta tb):=by
 intro pins s σ H Q I h
 refine BoolOp_and (thn (ha pins s σ H _ I h) fun v s1 ⟨x,H1,I1,r1,q1⟩=>?_)
 obtain⟨c,rfl,q1⟩:=q1
 cases r1
 refine wpAny_truthy_bool ?_
 cases c with
 |true=>exact hb pins s1 σ H1 Q I1 q1
 |false=>exact⟨.bl false,H1,I1,rfl,q1⟩
theorem pe_not(ha:PE X a ta):PE X (.UnaryOp .Not a pos) (tNotV ta):=by
 intro pins s σ H Q I h
 refine UnaryOp_ (thn (ha pins s σ H _ I h) fun v s1 ⟨x,H1,I1,r1,q1⟩=>?_)
 obtain⟨c,rfl,q1⟩:=q1
 cases r1
 exact not_of (wpAny_truthy_bool ⟨.bl (!c),H1,I1,rfl,q1⟩)
noncomputable def tIf(t:TT)(ta tb:TE):TE:=fun σ H Q=>t σ H fun c H1=>if c=true then ta σ H1 Q else tb σ H1 Q
theorem pe_ifExp{c:Expr}(hc:PT X c tA)(ha:PE X a ta)(hb:PE X b tb):PE X (.IfExp c a b pos) (tIf tA ta tb):=by
 intro pins s σ H Q I h
 refine wpAny_IfExp (thn (hc pins s σ H _ I h) fun d s1 ⟨H1,I1,q1⟩=>?_)
 cases d with
 |true=>exact ha pins s1 σ H1 Q I1 q1
 |false=>exact hb pins s1 σ H1 Q I1 q1
end
open PySem PySem.Spec PyProof.Rows
noncomputable def SqL(K:PySem.W.Frag)(H:Hp)(a:Addr)(xs:List V):Prop :=
 Rd H a (.lst xs) \/
  ∃ (o:Obj) (its:Array Value) (n:Nat),K.lookup a=some o/\o.cls = .type "list"/\o.dict=none/\o.data = .seq its n/\its.size<=sizeLine/\Vals xs its.toList
noncomputable def SqT(K:PySem.W.Frag)(H:Hp)(a:Addr)(xs:List V):Prop :=
 Rd H a (.tup xs) \/
  ∃ (o:Obj) (its:Array Value) (n:Nat),K.lookup a=some o/\o.cls = .type "tuple"/\o.data = .seq its n/\its.size<=sizeLine/\Vals xs its.toList
noncomputable def absV:Value->Option V
 | .none=>some .non
 | .bool b=>some (.bl b)
 | .int i _=>some (.int i)
 | .str x _=>some (.str x)
 | .bytes b _=>some (.byt b)
 | .float b _=>some (.flt b)
 | .ref a=>some (.ref a)
 | .type n=>some (.ty n)
 | _=>none
theorem RelV.abs{x:V}{u:Value}(r:RelV x u):absV u=some x:=by
 cases x with
 |non=>cases r;rfl
 |bl _=>cases r;rfl
 |int _=>obtain⟨t,rfl⟩:=r;rfl
 |str _=>obtain⟨t,rfl⟩:=r;rfl
 |byt _=>obtain⟨t,rfl⟩:=r;rfl
 |flt _=>obtain⟨t,rfl⟩:=r;rfl
 |ref _=>cases r;rfl
 |ty _=>cases r;rfl
theorem RelV.inj{x y:V}{u:Value}(r:RelV x u)(q:RelV y u):x=y:=Option.some.inj (r.abs.symm.trans q.abs)
theorem Vals.inj:∀ {xs ys:List V}{us:List Value},Vals xs us->Vals ys us->xs=ys:=by
 intro xs ys us h
 induction h generalizing ys with
 |nil=>intro h';cases h';rfl
 |cons r t ih =>
  intro h'
  cases h' with
  |cons r' t'=>rw[r.inj r',ih t']
section
variable{X:Cx}{pins:List (Addr×Obj)}{σ:St}{H:Hp}{s:Shared}{a:Addr}{xs ys:List V}
theorem SqL.of{K:PySem.W.Frag}(h:H a=some (.lst xs)):SqL K H a xs:=.inl (.inl h)
theorem SqT.of{K:PySem.W.Frag}(h:H a=some (.tup xs)):SqT K H a xs:=.inl (.inl h)
theorem Inv.list(I:Inv X pins σ H s)(h:SqL X.K H a xs):∃ its:List Value,Vals xs its/\PlainL s.heap a its.toArray/\xs.length<=sizeLine:=by
 rcases h with h |⟨o,its,n,hk,hc,hd,hs,hz,r⟩
 ·obtain⟨z,its,n,r,e⟩:=h.ok I.hok
  exact⟨its,r,⟨_,n,e,rfl,rfl,rfl⟩,z⟩
 ·refine⟨its.toList,r,⟨o,n,I.kIn a o hk,hc,hd,by simpa using hs⟩,?_⟩
  have e:=r.length
  simp only[Array.length_toList]at e
  lia
theorem Inv.tuple(I:Inv X pins σ H s)(h:SqT X.K H a xs):∃ its:List Value,Vals xs its/\IsTup s.heap a its.toArray/\xs.length<=sizeLine:=by
 rcases h with h |⟨o,its,n,hk,hc,hs,hz,r⟩
 ·obtain⟨z,its,r,p⟩:=h.ok I.hok
  exact⟨its,r,p,z⟩
 ·refine⟨its.toList,r,⟨o,I.kIn a o hk,hc,n,by simpa using hs⟩,?_⟩
  have e:=r.length
  simp only[Array.length_toList]at e
  lia
theorem Inv.list_inj(I:Inv X pins σ H s)(h:SqL X.K H a xs)(h':SqL X.K H a ys):xs=ys:=by
 obtain⟨its,r,⟨o,n,e,_,_,d⟩,_⟩:=I.list h
 obtain⟨its',r',⟨o',n',e',_,_,d'⟩,_⟩:=I.list h'
 rw[e]at e';cases e'
 rw[d]at d'
 injection d' with d1 _
 have:its=its':=by simpa using congrArg Array.toList d1
 subst this
 exact r.inj r'
theorem Inv.tuple_inj(I:Inv X pins σ H s)(h:SqT X.K H a xs)(h':SqT X.K H a ys):xs=ys:=by
 obtain⟨its,r,⟨o,e,_,n,d⟩,_⟩:=I.tuple h
 obtain⟨its',r',⟨o',e',_,n',d'⟩,_⟩:=I.tuple h'
 rw[e]at e';cases e'
 rw[d]at d'
 injection d' with d1 _
 have:its=its':=by simpa using congrArg Array.toList d1
 subst this
 exact r.inj r'
end
noncomputable abbrev Cx.wish(X:Cx)(E:Value->Shared->Prop):Cx:={ X with xe:=E }
noncomputable abbrev Cx.nox(X:Cx):Cx:=X.wish fun _ _=>False
theorem Cx.Ok.wish{X:Cx}(ok:X.Ok)(E:Value->Shared->Prop):(X.wish E).Ok :=
 ⟨ok.mod,ok.kind,ok.glob,ok.blt,ok.above,ok.inj,ok.has,ok.cab,ok.hd,ok.frames,ok.stk,ok.exf,ok.bs,ok.bsz,ok.noex,ok.exfs,ok.funs,ok.frf⟩
theorem Cx.Ok.unwish{X:Cx}{E:Value->Shared->Prop}(ok:(X.wish E).Ok):X.Ok :=
 ⟨ok.mod,ok.kind,ok.glob,ok.blt,ok.above,ok.inj,ok.has,ok.cab,ok.hd,ok.frames,ok.stk,ok.exf,ok.bs,ok.bsz,ok.noex,ok.exfs,ok.funs,ok.frf⟩
section
variable{X:Cx}{pins:List (Addr×Obj)}{σ:St}{H:Hp}{s:Shared}{E:Value->Shared->Prop}
theorem Inv.wish(I:Inv X pins σ H s)(E:Value->Shared->Prop):Inv (X.wish E) pins σ H s:=⟨I.ok.wish E,I.os,I.bare,I.base,I.loc,I.cell,I.free,I.freeC,I.pin,I.hok,I.len⟩
theorem Inv.unwish(I:Inv (X.wish E) pins σ H s):Inv X pins σ H s:=⟨I.ok.unwish,I.os,I.bare,I.base,I.loc,I.cell,I.free,I.freeC,I.pin,I.hok,I.len⟩
theorem SP.unwish{D:Ends}{f:Flow}{s':Shared}(h:SP (X.wish E) pins D f s'):SP X pins D f s':=by
 cases f with
 |next=>obtain⟨σ',H',I,q⟩:=h;exact⟨σ',H',I.unwish,q⟩
 |brk=>obtain⟨σ',H',I,q⟩:=h;exact⟨σ',H',I.unwish,q⟩
 |cont=>obtain⟨σ',H',I,q⟩:=h;exact⟨σ',H',I.unwish,q⟩
 |ret u=>obtain⟨v,σ',H',I,r,q⟩:=h;exact⟨v,σ',H',I.unwish,r,q⟩
theorem PSs.nox{st:List Stmt}{t:TS}(h:PSs X.nox st t):PSs X st t:=fun pins s σ H D I hw =>
 wpAny_mono (h pins s σ H D (I.wish _) hw) (fun _ _ q=>q.unwish) fun _ _ z=>False.elim z
end
section
variable{X:Cx}{st:Stmt}{rest:List Stmt}{t u:TS}{e:Expr}{te:TE}{pos:Pos}
noncomputable def tNext:TS:=fun D σ H=>D.nx σ H
noncomputable def tSeq(t u:TS):TS:=fun D σ H=>t { D with nx:=u D } σ H
theorem pss_nil:PSs X [] tNext:=fun _ _ σ H _ I h=>wpAny_execs_nil ⟨σ,H,I,h⟩
theorem pss_cons(h1:PS X st t)(h2:PSs X rest u):PSs X (st :: rest) (tSeq t u):=by
 intro pins s σ H D I h
 refine wpAny_execs_cons (thn (h1 pins s σ H { D with nx:=u D } I h) fun f s1 q=>?_)
 cases f with
 |next =>
  obtain⟨σ',H',I',q⟩:=q
  exact h2 pins s1 σ' H' D I' q
 |ret v=>exact q
 |brk=>exact q
 |cont=>exact q
theorem pss_one(h1:PS X st t):PSs X [st] t:=by
 intro pins s σ H D I h
 refine wpAny_execs_cons (thn (h1 pins s σ H D I h) fun f s1 q=>?_)
 cases f with
 |next=>exact wpAny_execs_nil q
 |ret v=>exact q
 |brk=>exact q
 |cont=>exact q
theorem Inv.quiet{pins:List (Addr×Obj)}{σ:St}{H:Hp}{s:Shared}(I:Inv X pins σ H s):interactive X.env=false:=by simp[interactive,I.ok.kind]
noncomputable def tDrop(te:TE):TS:=fun D σ H=>te σ H fun _ H1=>D.nx σ H1
theorem ps_expr(he:PE X e te)(hs:swapsWith e none pos.line X.env=pure false:=by rfl):PS X (.Expr e pos) (tDrop te):=by
 intro pins s σ H D I h
 exact wpAny_Expr_any (thn (he pins s σ H _ I h) fun v s1 ⟨x,H1,I1,r1,q1⟩=>⟨σ,H1,I1,q1⟩) I.quiet hs
noncomputable def tRet(te:TE):TS:=fun D σ H=>te σ H D.rt
theorem ps_ret(he:PE X e te):PS X (.Return (some e) pos) (tRet te):=by
 intro pins s σ H D I h
 exact wpAny_Return_some (thn (he pins s σ H _ I h) fun v s1 ⟨x,H1,I1,r1,q1⟩=>⟨x,σ,H1,I1,r1,q1⟩)
noncomputable def tIfS(c:TT)(t u:TS):TS:=fun D σ H=>c σ H fun b H1=>if b=true then t D σ H1 else u D σ H1
theorem ps_if{c:Expr}{a b:List Stmt}{tc:TT}(hc:PT X c tc)(ha:PSs X a t)(hb:PSs X b u):PS X (.If c a b pos) (tIfS tc t u):=by
 intro pins s σ H D I h
 refine wpAny_If (thn (hc pins s σ H _ I h) fun d s1 ⟨H1,I1,q1⟩=>?_)
 cases d with
 |true=>exact ha pins s1 σ H1 D I1 q1
 |false=>exact hb pins s1 σ H1 D I1 q1
noncomputable def tNever:TS:=fun _ _ _=>False
theorem ps_never:PS X st tNever:=fun _ _ _ _ _ _ h=>h.elim
theorem pss_never{sts:List Stmt}:PSs X sts tNever:=fun _ _ _ _ _ _ h=>h.elim
end
noncomputable abbrev TG:=V->St->Hp->(St->Hp->Prop)->Prop
noncomputable abbrev TGs:=List V->St->Hp->(St->Hp->Prop)->Prop
noncomputable def PG(X:Cx)(target:Expr)(t:TG):Prop :=
 ∀ (pins:List (Addr×Obj)) (s:Shared) (σ:St) (H:Hp) (v:V) (u:Value) (Q:St->Hp->Prop),Inv X pins σ H s->RelV v u->t v σ H Q ->
  wpAny (model X.prog X.w) X.A (assign target X.env u) (fun _ s'=>∃ σ' H',Inv X pins σ' H' s'/\Q σ' H') X.xe s
noncomputable def PGs(X:Cx)(ts:List Expr)(t:TGs):Prop :=
 ∀ (pins:List (Addr×Obj)) (s:Shared) (σ:St) (H:Hp) (vs:List V) (us:List Value) (Q:St->Hp->Prop),Inv X pins σ H s->Vals vs us->t vs σ H Q ->
  wpAny (model X.prog X.w) X.A (assignInOrder ((assignEach ts X.env).map (·.2)) us) (fun _ s'=>∃ σ' H',Inv X pins σ' H' s'/\Q σ' H') X.xe s
noncomputable abbrev TSet:=V->V->V->Hp->(Hp->Prop)->Prop
noncomputable def PSet(X:Cx)(t:TSet):Prop :=
 ∀ (pins:List (Addr×Obj)) (s:Shared) (σ:St) (H:Hp) (o i v:V) (ov iv u:Value) (Q:Hp->Prop),Inv X pins σ H s->RelV o ov->RelV i iv->RelV v u->t o i v H Q ->
  wpAny (model X.prog X.w) X.A (setItem ov iv u) (fun _ s'=>∃ H',Inv X pins σ H' s'/\Q H') X.xe s
section
variable{X:Cx}{pos:Pos}
noncomputable def gName(i:Nat):TG:=fun v σ H Q=>Q (σ.set i (some v)) H
theorem pg_name{i:Nat}{x:Str}(hN:X.N.Nodup)(hi:X.N[i]?=some x)(hx:Loc X.env.scope x)(hf:X.fn x=true\/X.env.scope.names.lookup x=some .local:=by first | exact .inl rfl | exact .inr rfl | assumption):PG X (.Name x pos) (gName i):=by
 intro pins s σ H v u Q I r h
 exact wpAny_assign_Name (store_ok I hN hi hx r (fun s' I'=>⟨_,H,I',h⟩) hf)
noncomputable def gNil:TGs:=fun vs σ H Q=>vs=[]/\Q σ H
noncomputable def gCons(t:TG)(u:TGs):TGs:=fun vs σ H Q=>∃ v r,vs=v :: r/\t v σ H fun σ' H'=>u r σ' H' Q
theorem pgs_nil:PGs X [] gNil:=by
 intro pins s σ H vs us Q I r h
 obtain⟨e,h⟩:=h
 subst e
 cases r
 exact assignInOrder_nil ⟨σ,H,I,h⟩
theorem pgs_cons{e:Expr}{es:List Expr}{t:TG}{u:TGs}(h1:PG X e t)(h2:PGs X es u)
  (hs:(assignEach (e :: es) X.env).map (·.2)=assign e X.env :: (assignEach es X.env).map (·.2):=by rfl):PGs X (e :: es) (gCons t u):=by
 intro pins s σ H vs us Q I r h
 obtain⟨v,vr,e1,h⟩:=h
 subst e1
 cases r with
 |cons r rr =>
  rw[hs]
  refine assignInOrder_cons (thn (h1 pins s σ H _ _ _ I r h) fun _ s1 ⟨σ1,H1,I1,q1⟩=>?_)
  exact h2 pins s1 σ1 H1 _ _ Q I1 rr q1
noncomputable def gTup(K:PySem.W.Frag)(n:Nat)(t:TGs):TG:=fun v σ H Q=>∃ a xs,v = .ref a/\SqT K H a xs/\xs.length=n/\t xs σ H Q
theorem pg_tup{es:List Expr}{k:Nat}{t:TGs}{n:Nat}(hc:X.calm=true)(h:PGs X es t)
  (hn:(assignEach es X.env).length=n:=by rfl) (hst:(assignEach es X.env).findIdx? (·.1)=none:=by rfl):PG X (.Tuple es k pos) (gTup X.K n t):=by
 intro pins s σ H v u Q I r hw
 obtain⟨a,xs,e1,hq,hl,hw⟩:=hw
 subst e1
 cases r
 obtain⟨its,rv,ht,hz⟩:=I.tuple hq
 refine assign_Tuple_tuple (I.ok.hd hc) ht (by simp[hn,<- hl,rv.length]) hst fun h' hx=>?_
 have I1:Inv X pins σ H { s with heap:=h' }:=I.kept (t':=s.toks) fun b o e=>hx b o (Nat.ne_of_lt (Heap.lt_size e)) e
 exact h pins _ σ H xs _ Q I1 (by simpa using rv) hw
noncomputable def gSub(to ti:TE)(t:TSet):TG:=fun v σ H Q=>to σ H fun o H1=>ti σ H1 fun i H2=>t o i v H2 fun H3=>Q σ H3
theorem pg_sub{o i:Expr}{to ti:TE}{t:TSet}(ho:PE X o to)(hi:PE X i ti)(hs:PSet X t)
  (ha:∀ v,assign (.Subscript o i pos) X.env v=(do
   let ov <- holding [v] (eval o X.env)
   let iv <- holding [v,ov] (eval i X.env)
   standAt pos
   holding [v,ov,iv] (setItem ov iv v)
   release [v,ov,iv] []):=by intro _;rfl):PG X (.Subscript o i pos) (gSub to ti t):=by
 intro pins s σ H v u Q I r h
 rw[ha]
 refine wpAny_bind (wpAny_holding (thn (ho pins s σ H _ I h) fun ov s1 ⟨x,H1,I1,r1,q1⟩=>?_))
 refine wpAny_bind (wpAny_holding (thn (hi pins s1 σ H1 _ I1 q1) fun iv s2 ⟨y,H2,I2,r2,q2⟩=>?_))
 refine wpAny_bind (wpAny_standAt (wpAny_bind (wpAny_holding (thn (hs pins s2 σ H2 x y v ov iv u _ I2 r1 r2 r q2) fun _ s3 ⟨H3,I3,q3⟩=>?_))))
 exact wpAny_release ⟨σ,H3,I3,q3⟩
noncomputable def tAsg(te:TE)(g:TG):TS:=fun D σ H=>te σ H fun x H1=>g x σ H1 D.nx
theorem ps_asg{tg e:Expr}{te:TE}{g:TG}(he:PE X e te)(hg:PG X tg g)(hs:swapsWithSole [tg] e pos.line X.env=pure false:=by rfl)(hw:swappedStores [tg] e X.env=pure none:=by rfl)
  (h1:(assignEach [tg] X.env).map (·.2)=[assign tg X.env]:=by rfl):PS X (.Assign [tg] e pos) (tAsg te g):=by
 intro pins s σ H D I h
 refine wpAny_Assign_stores (thn (he pins s σ H _ I h) fun v s1 ⟨x,H1,I1,r1,q1⟩=>?_) hs hw
 rw[h1]
 exact thn (hg pins s1 σ H1 x v _ I1 r1 q1) fun _ s2 q=>q
theorem ps_set{i:Nat}{x:Str}{e:Expr}{te:TE}{pos':Pos}(hN:X.N.Nodup)(hi:X.N[i]?=some x)(hx:Loc X.env.scope x)(he:PE X e te)(hs:swapsWith e (some (.Name x pos')) pos.line X.env=pure false:=by rfl)(hf:X.fn x=true\/X.env.scope.names.lookup x=some .local:=by first | exact .inl rfl | exact .inr rfl | assumption) :
  PS X (.Assign [.Name x pos'] e pos) (tAsg te (gName i)):=by
 intro pins s σ H D I h
 refine wpAny_Assign_Name (thn (he pins s σ H _ I h) fun v s1 ⟨y,H1,I1,r1,q1⟩=>?_) hs
 exact store_ok I1 hN hi hx r1 (fun s2 I2=>⟨_,H1,I2,q1⟩) hf
noncomputable def tPar(i j:Nat)(ta:TA):TS:=fun D σ H=>ta σ H fun vs H1=>∃ v w,vs=[v,w]/\D.nx ((σ.set i (some v)).set j (some w)) H1
theorem ps_par{i j:Nat}{x y:Str}{a b:Expr}{ta:TA}{px py pt:Pos}{kt k2 pt2}(hc:X.calm=true)(hN:X.N.Nodup)(hi:X.N[i]?=some x)(hj:X.N[j]?=some y)(hij:i≠j)
  (hx:X.env.scope.names.lookup x=some .local) (hy:X.env.scope.names.lookup y=some .local) (ha:PA X [a,b] ta)
  (hw:swappedStores [.Tuple [.Name x px,.Name y py] kt pt] (.Tuple [a,b] k2 pt2) X.env=pure (some [x,y]))
  (hs:swapsWithSole [.Tuple [.Name x px,.Name y py] kt pt] (.Tuple [a,b] k2 pt2) pos.line X.env=pure false:=by rfl) :
  PS X (.Assign [.Tuple [.Name x px,.Name y py] kt pt] (.Tuple [a,b] k2 pt2) pos) (tPar i j ta):=by
 intro pins s σ H D I h
 rw[exec_Assign_arm]
 refine wpAny_bind (wpAny_standAt ?_)
 rw[hs]
 refine wpAny_bind (wpAny_pure ?_)
 rw[if_neg (by decide)]
 refine wpAny_bind (Tuple_ (thn (ha _ pins s σ H _ I h) fun us s1 ⟨vs,H1,I1,r1,q1⟩=>?_))
 obtain⟨v,w,e1,q1⟩:=q1
 subst e1
 obtain⟨u1,u2,rfl,rv,rw'⟩:∃ u1 u2,us=[u1,u2]/\RelV v u1/\RelV w u2:=by
  cases r1 with
  |cons p q =>
   cases q with
   |cons p' q' =>
    cases q'
    exact⟨_,_,rfl,p,p'⟩
 refine wpAny_newObj_type ?_ (by show 2<=sizeLine;decide)
 have I2:Inv X pins σ H1 { s1 with heap:=s1.heap.push { cls:=.type "tuple",data:=.seq [u1,u2].toArray } }:=I1.kept (t':=s1.toks) fun b o e=>Heap.get?_push_of_some _ e
 rw[hw]
 refine wpAny_bind (wpAny_pure ?_)
 show wpAny (model X.prog X.w) X.A (do rule "assign.swapped-stores";let items <- unpackItems (.ref s1.heap.objs.size) 2 none;assignInOrder [fun v=>bindName X.env y v,fun v=>bindName X.env x v] items.reverse;pure Flow.next) _ _ _
 refine wpAny_bind (wpAny_rule (wpAny_bind (unpackItems_tuple (items:=#[u1,u2]) (I.ok.hd hc) (IsTup.new s1.heap _) fun h' hx'=>?_)))
 have I3:=I2.kept (h':=h') (t':=s1.toks) fun b o e=>hx' b o (Nat.ne_of_lt (Heap.lt_size e)) e
 show wpAny _ _ (assignInOrder [fun v=>bindName X.env y v,fun v=>bindName X.env x v] [u2,u1] >>= fun _=>pure Flow.next) _ _ _
 refine wpAny_bind (assignInOrder_cons (wpAny_bindName (store_ok I3 hN hj (.inl hy) rw' (fun s2 I4=>?_) (.inr hy))))
 refine assignInOrder_cons (wpAny_bindName (store_ok I4 hN hi (.inl hx) rv (fun s3 I5=>assignInOrder_nil (wpAny_pure ?_)) (.inr hx)))
 rw[List.set_comm _ _ (Ne.symm hij)]at I5
 exact⟨_,H1,I5,q1⟩
end
section
variable{X:Cx}{pos:Pos}
noncomputable def tWhile(c:TT)(tb:TS):TS:=fun D σ H=>∃ W:Nat->St->Hp->Prop,(∃ m,W m σ H)/\∀ m σ H,W m σ H ->
 c σ H fun b H1=>if b=true then ∃ N:St->Hp->Prop,(∀ σ' H',N σ' H'->∃ m',m'<m/\W m' σ' H')/\tb { D with nx:=N,ct:=N,bk:=D.nx } σ H1 else D.nx σ H1
theorem ps_while{c:Expr}{body:List Stmt}{tc:TT}{tb:TS}(hp:PassesOwn (model X.prog X.w) X.A X.env X.xe)(hc:PT X c tc)(hb:PSs X body tb):PS X (.While c body [] pos) (tWhile tc tb):=by
 intro pins s σ H D I h
 obtain⟨W,⟨m0,w0⟩,turn⟩:=h
 refine wpAny_While (codeAny_whileLoop (fun n s'=>∃ σ' H',Inv X pins σ' H' s'/\W n σ' H') ?_ m0 ⟨σ,H,I,w0⟩)
 rintro n s1 ⟨σ1,H1,I1,w1⟩
 refine wpAny_passesOwn hp (thn (hc pins s1 σ1 H1 _ I1 (turn n σ1 H1 w1)) fun b s2 ⟨H2,I2,q2⟩=>?_)
 cases b with
 |true =>
  obtain⟨N,hN,q2⟩:=q2
  rw[if_pos rfl]
  refine wpAny_passesOwn hp (thn (hb pins s2 σ1 H2 _ I2 q2) fun f s3 q3=>?_)
  cases f with
  |next =>
   obtain⟨σ3,H3,I3,n3⟩:=q3
   obtain⟨m',hm,w3⟩:=hN σ3 H3 n3
   exact⟨m',hm,σ3,H3,I3,w3⟩
  |cont =>
   obtain⟨σ3,H3,I3,n3⟩:=q3
   obtain⟨m',hm,w3⟩:=hN σ3 H3 n3
   exact⟨m',hm,σ3,H3,I3,w3⟩
  |brk=>exact q3
  |ret v=>exact q3
 |false =>
  rw[if_neg Bool.false_ne_true]
  exact wpAny_execs_nil ⟨σ1,H2,I2,q2⟩
end
structure It where
 go:Nat->Hp->Prop
 yld:Nat->Hp->V->Hp->Prop
 stop:Nat->Hp->Prop
noncomputable def FpOk(X:Cx)(pins:List (Addr×Obj))(H:Hp)(b:Addr):Prop :=
 H b=none/\b≠X.env.locals/\b∉X.fs/\(b∈X.ex\/X.s₀.heap.objs.size<=b)/\(∀ x c,X.env.cells.lookup x=some c->c≠b)/\∀ p∈X.pn++pins,p.1≠b
theorem Inv.fpOk{X:Cx}{pins:List (Addr×Obj)}{σ:St}{H H':Hp}{s:Shared}{b:Addr}(I:Inv X pins σ H s)(hb:s.heap.objs.size<=b)(hn:H' b=none):FpOk X pins H' b:=by
 refine⟨hn,Nat.ne_of_gt (Nat.lt_of_lt_of_le I.lt hb),I.nofs hb,.inr (Nat.le_trans I.sz hb),fun x c e z=>?_,fun p hp z=>?_⟩
 ·obtain⟨v,q⟩:=I.cell x c e
  exact absurd (Nat.lt_of_lt_of_le q.lt (by rw[z];exact hb)) (Nat.lt_irrefl _)
 ·exact absurd (Nat.lt_of_lt_of_le (Heap.lt_size (I.pin p hp).1) (by rw[z];exact hb)) (Nat.lt_irrefl _)
structure Turn(P:Program)(w:World)(K:PySem.W.Frag)(tg:Expr)(J:It)(fp:List Addr)(it:Addr)(tn:Nat->Heap->Prop):Prop where
 mem:it∈fp
 obj:∀ i h,tn i h->∀ b∈fp,∃ o,h.get? b=some o/\∀ v,o.data≠.cell v
 keep:∀ i h h',tn i h->(∀ b∈fp,∀ o,h.get? b=some o->h'.get? b=some o)->tn i h'
 item:∀ (X:Cx),X.prog=P->X.w=w->X.K=K->X.calm=true->∀ (i:Nat) (pins:List (Addr×Obj)) (s:Shared) (σ:St) (H:Hp) (E:Value->Shared->Prop),Inv X pins σ H s->(∀ b∈fp,FpOk X pins H b)->tn i s.heap->J.go i H ->
  wpAny (model P w) X.A (pyNext (.ref it)) (fun r s1=>∃ u,r=some u /\
   wpAny (model P w) X.A (letOwnedTupleGo tg (.ref it) u) (fun _ s2=>∃ x H',Inv X pins σ H' s2/\RelV x u/\J.yld i H x H'/\tn (i+1) s2.heap/\∀ b∈fp,H' b=none) E s1) E s
 done:∀ (X:Cx),X.prog=P->X.w=w->X.K=K->X.calm=true->∀ (i:Nat) (pins:List (Addr×Obj)) (s:Shared) (σ:St) (H:Hp) (E:Value->Shared->Prop),Inv X pins σ H s->(∀ b∈fp,FpOk X pins H b)->tn i s.heap->J.stop i H ->
  wpAny (model P w) X.A (pyNext (.ref it)) (fun r s1=>r=none/\Inv X pins σ H s1) E s
 self:∀ (A:Around) (i:Nat) (s:Shared) (Q:Value->Shared->Prop) (E:Value->Shared->Prop),tn i s.heap->Q (.ref it) s->wpAny (model P w) A (pyIter (.ref it)) Q E s
noncomputable abbrev TI:=St->Hp->(It->Hp->Prop)->Prop
noncomputable def PIE(X:Cx)(pins:List (Addr×Obj))(σ:St)(tg:Expr)(R:It->Hp->Prop)(itv:Value)(s2:Shared):Prop :=
 ∃ (it:Addr) (fp:List Addr) (tn:Nat->Heap->Prop) (J:It) (H':Hp),itv = .ref it/\Inv X pins σ H' s2/\Turn X.prog X.w X.K tg J fp it tn/\tn 0 s2.heap/\(∀ b∈fp,FpOk X pins H' b)/\R J H'
noncomputable def PI(X:Cx)(tg iter:Expr)(wi:TI):Prop :=
 ∀ (pins:List (Addr×Obj)) (s:Shared) (σ:St) (H:Hp) (R:It->Hp->Prop),Inv X pins σ H s->wi σ H R ->
  wpAny (model X.prog X.w) X.A (eval iter X.env) (fun v s1=>wpAny (model X.prog X.w) X.A (pyIter v) (PIE X pins σ tg R) X.xe s1) X.xe s
theorem go_of {M : Model} {A : Around} {E : Value → Shared → Prop} {s : Shared} {tg : Expr} {it : Addr} {u : Value} {o : Obj} {n : String} {vs : Array Value} {Q : Unit → Shared → Prop} (ho : s.heap.get? it = some o) (hc : o.cls = .type n) (hd : o.data = .fields vs)
    (hn : ["enumerate", "zip", "dict_itemiterator", "dict_reverseitemiterator", "odict_iterator", "itertools.zip_longest", "itertools.pairwise"].contains n = false) (hQ : Q () s) : wpAny M A (letOwnedTupleGo tg (.ref it) u) Q E s := by
  unfold letOwnedTupleGo
  cases tg <;> first
    | exact wpAny_pure hQ
    | (cases u <;> first
        | exact wpAny_pure hQ
        | (refine wpAny_bind (wpAny_load ho ?_)
           rw [hc, hd]
           show wpAny M A (if (["enumerate", "zip", "dict_itemiterator", "dict_reverseitemiterator", "odict_iterator", "itertools.zip_longest", "itertools.pairwise"].contains n && vs[0]? == some (rawInt _)) = true then _ else _) Q E s
           rw [if_neg (by intro h; rw [hn, Bool.false_and] at h; cases h)]
           exact wpAny_pure hQ))
noncomputable def Itl(K:PySem.W.Frag)(a:Addr):It :=
 ⟨fun i H=>∃ xs x,SqL K H a xs/\xs[i]?=some x,fun i H x H'=>H'=H/\∀ xs,SqL K H a xs->xs[i]?=some x,fun i H=>∃ xs,SqL K H a xs/\xs.length<=i⟩
noncomputable def Itt(K:PySem.W.Frag)(a:Addr):It :=
 ⟨fun i H=>∃ xs x,SqT K H a xs/\xs[i]?=some x,fun i H x H'=>H'=H/\∀ xs,SqT K H a xs->xs[i]?=some x,fun i H=>∃ xs,SqT K H a xs/\xs.length<=i⟩
noncomputable def Itr(lo:Int)(n:Nat):It:=⟨fun i _=>i<n,fun i H x H'=>H'=H/\x = .int (lo+i),fun i _=>n<=i⟩
theorem turn_list{P:Program}{w:World}{K:PySem.W.Frag}{tg:Expr}(a it:Addr):Turn P w K tg (Itl K a) [it] it (fun i h=>h.IsListIter it a i)where
 mem:=by simp
 obj:=fun i h st b hb=>by
  have e:b=it:=by simpa using hb
  subst e
  obtain⟨o,e,c,d⟩:=st
  exact⟨o,e,fun v z=>by rw[d]at z;cases z⟩
 keep:=fun i h h' st k=>st.at fun o e=>k it (by simp) o e
 item:=by
  intro X hP hw hK hc i pins s σ H E I hf st hg
  subst hP hw hK
  obtain⟨xs,x,hq,hx⟩:=hg
  obtain⟨its,rv,p,hz⟩:=I.list hq
  obtain⟨u,hu,ru⟩:=rv.get hx
  obtain⟨f0,f1,f2,f3,f4,f5⟩:=hf it (by simp)
  refine wpAny_pyNext_list_item st p.isList (x:=u) (by simpa using hu) fun h' st' sb=>?_
  have I1:Inv X pins σ H { s with heap:=h' }:=I.turned (t':=s.toks) (fun b o hb e=>(sb.2 b hb).trans e) f0 f1 f3 f4 f5
  obtain⟨o,e,c,d⟩:=id st'
  exact⟨u,rfl,go_of (s:={ s with heap:=h' }) e c d (by decide) ⟨x,H,I1,ru,⟨rfl,fun ys hy=>by rw[I.list_inj hy hq];exact hx⟩,st',fun b hb=>(hf b hb).1⟩⟩
 done:=by
  intro X hP hw hK hc i pins s σ H E I hf st hg
  subst hP hw hK
  obtain⟨xs,hq,hx⟩:=hg
  obtain⟨its,rv,p,hz⟩:=I.list hq
  obtain⟨f0,f1,f2,f3,f4,f5⟩:=hf it (by simp)
  have hl:=rv.length
  exact wpAny_pyNext_list_end (I.ok.hd hc) st p.isList (by simp;lia) fun h' eb=>⟨rfl,I.turned (t':=s.toks) (fun b o hb e=>eb b o hb e) f0 f1 f3 f4 f5⟩
 self:=fun _ _ _ _ _ st h=>wpAny_pyIter_listiter st h
theorem turn_tuple{P:Program}{w:World}{K:PySem.W.Frag}{tg:Expr}(a it:Addr):Turn P w K tg (Itt K a) [it] it (fun i h=>h.IsTupleIter it a i)where
 mem:=by simp
 obj:=fun i h st b hb=>by
  have e:b=it:=by simpa using hb
  subst e
  obtain⟨o,e,c,d⟩:=st
  exact⟨o,e,fun v z=>by rw[d]at z;cases z⟩
 keep:=fun i h h' st k=>st.at fun o e=>k it (by simp) o e
 item:=by
  intro X hP hw hK hc i pins s σ H E I hf st hg
  subst hP hw hK
  obtain⟨xs,x,hq,hx⟩:=hg
  obtain⟨its,rv,p,hz⟩:=I.tuple hq
  obtain⟨u,hu,ru⟩:=rv.get hx
  obtain⟨f0,f1,f2,f3,f4,f5⟩:=hf it (by simp)
  refine wpAny_pyNext_tuple_item st (show s.heap.IsTuple a its.toArray from p) (x:=u) (by simpa using hu) fun h' st' sb=>?_
  have I1:Inv X pins σ H { s with heap:=h' }:=I.turned (t':=s.toks) (fun b o hb e=>(sb.2 b hb).trans e) f0 f1 f3 f4 f5
  obtain⟨o,e,c,d⟩:=id st'
  exact⟨u,rfl,go_of (s:={ s with heap:=h' }) e c d (by decide) ⟨x,H,I1,ru,⟨rfl,fun ys hy=>by rw[I.tuple_inj hy hq];exact hx⟩,st',fun b hb=>(hf b hb).1⟩⟩
 done:=by
  intro X hP hw hK hc i pins s σ H E I hf st hg
  subst hP hw hK
  obtain⟨xs,hq,hx⟩:=hg
  obtain⟨its,rv,p,hz⟩:=I.tuple hq
  obtain⟨f0,f1,f2,f3,f4,f5⟩:=hf it (by simp)
  have hl:=rv.length
  exact wpAny_pyNext_tuple_end (I.ok.hd hc) st (show s.heap.IsTuple a its.toArray from p) (by simp;lia) fun h' eb=>⟨rfl,I.turned (t':=s.toks) (fun b o hb e=>eb b o hb e) f0 f1 f3 f4 f5⟩
 self:=fun _ _ _ _ _ st h=>wpAny_pyIter_tupleiter st h
theorem turn_range{P:Program}{w:World}{K:PySem.W.Frag}{tg:Expr}(it:Addr)(lo:Int)(n:Nat):Turn P w K tg (Itr lo n) [it] it (fun i h=>IsRangeIter h it (lo+(i:Nat) * 1) ((n:Int)-(i:Nat)) 1)where
 mem:=by simp
 obj:=fun i h st b hb=>by
  have e:b=it:=by simpa using hb
  subst e
  exact⟨_,st,fun v z=>by
   have z':Data.fields _=Data.cell v:=z
   cases z'⟩
 keep:=fun i h h' st k=>k it (by simp) _ st
 item:=by
  intro X hP hw hK hc i pins s σ H E I hf st hg
  subst hP hw hK
  obtain⟨f0,f1,f2,f3,f4,f5⟩:=hf it (by simp)
  have W:=Walks.range (prog:=X.prog) (w:=X.w) (I.ok.hd hc) it lo 1 n
  refine W.item i s _ _ hg st fun v h' tk hv st' kk=>?_
  obtain⟨t,rfl⟩:=hv
  have I1:Inv X pins σ H { s with heap:=h',toks:=tk }:=I.turned (fun b o hb e=>kk b o (by simpa using hb) e) f0 f1 f3 f4 f5
  refine⟨_,rfl,go_of (s:={ s with heap:=h',toks:=tk }) (n:="range_iterator") st' rfl rfl (by decide) ⟨.int (lo+i),H,I1,⟨t,?_⟩,⟨rfl,rfl⟩,st',fun b hb=>(hf b hb).1⟩⟩
  rw[Int.mul_one]
 done:=by
  intro X hP hw hK hc i pins s σ H E I hf st hg
  subst hP hw hK
  obtain⟨f0,f1,f2,f3,f4,f5⟩:=hf it (by simp)
  exact wpAny_pyNext_range_end (I.ok.hd hc) st (by have:n<=i:=hg;lia) fun h' eb=>⟨rfl,I.turned (t':=s.toks) (fun b o hb e=>eb b o hb e) f0 f1 f3 f4 f5⟩
 self:=fun _ _ _ _ _ st h=>wpAny_pyIter_rangeiter st h
open PySem PySem.Spec PyProof.Rows
section
variable{X:Cx}{tg:Expr}
noncomputable def iList(K:PySem.W.Frag)(tl:TE):TI:=fun σ H R=>tl σ H fun x H1=>∃ a,x = .ref a/\(∃ xs,SqL K H1 a xs)/\R (Itl K a) H1
noncomputable def iTup(K:PySem.W.Frag)(tl:TE):TI:=fun σ H R=>tl σ H fun x H1=>∃ a,x = .ref a/\(∃ xs,SqT K H1 a xs)/\R (Itt K a) H1
theorem pi_list{l:Expr}{tl:TE}(hl:PE X l tl):PI X tg l (iList X.K tl):=by
 intro pins s σ H R I h
 refine thn (hl pins s σ H _ I h) fun v s1 ⟨x,H1,I1,r1,q1⟩=>?_
 obtain⟨a,e,⟨xs,hq⟩,q⟩:=q1
 subst e
 cases r1
 obtain⟨its,rv,p,hz⟩:=I1.list hq
 refine wpAny_pyIter_list p.isList ?_
 refine⟨s1.heap.objs.size,[s1.heap.objs.size],_,_,H1,rfl,I1.kept (t':=s1.toks) fun b o e=>Heap.get?_push_of_some _ e,turn_list a _,⟨_,Heap.get?_push_size _ rfl,rfl,rfl⟩,fun b hb=>?_,q⟩
 have e:b=s1.heap.objs.size:=by simpa using hb
 subst e
 exact I1.fpOk (Nat.le_refl _) (I1.hok.fresh (Nat.le_refl _))
theorem pi_tup{l:Expr}{tl:TE}(hl:PE X l tl):PI X tg l (iTup X.K tl):=by
 intro pins s σ H R I h
 refine thn (hl pins s σ H _ I h) fun v s1 ⟨x,H1,I1,r1,q1⟩=>?_
 obtain⟨a,e,⟨xs,hq⟩,q⟩:=q1
 subst e
 cases r1
 obtain⟨its,rv,p,hz⟩:=I1.tuple hq
 refine wpAny_pyIter_tuple (show s1.heap.IsTuple a its.toArray from p) ?_
 refine⟨s1.heap.objs.size,[s1.heap.objs.size],_,_,H1,rfl,I1.kept (t':=s1.toks) fun b o e=>Heap.get?_push_of_some _ e,turn_tuple a _,⟨_,Heap.get?_push_size _ rfl,rfl,rfl⟩,fun b hb=>?_,q⟩
 have e:b=s1.heap.objs.size:=by simpa using hb
 subst e
 exact I1.fpOk (Nat.le_refl _) (I1.hok.fresh (Nat.le_refl _))
theorem range_it{pins:List (Addr×Obj)}{σ:St}{H:Hp}{s:Shared}{R:It->Hp->Prop}{E:Value->Shared->Prop}{lo hi:Int}{t u v:Tok}{tk:Nat}(I:Inv X pins σ H s)(h1:-(2 ^ 62)<=lo)(h2:lo<2 ^ 62)(h3:-(2 ^ 62)<=hi)(h4:hi<2 ^ 62)
  (q:R (Itr lo (hi-lo).toNat) H):wpAny (model X.prog X.w) X.A (pyIter (.ref s.heap.objs.size)) (PIE X pins σ tg R) E { s with heap:=s.heap.push { cls:=.type "range",data:=.fields #[.int lo t,.int hi u,.int 1 v] },toks:=tk }:=by
 refine wpAny_pyIter_range (IsRange.new ..) (small_one h1 h2 h3 h4) ?_
 have I1:Inv X pins σ H { s with heap:=s.heap.push { cls:=.type "range",data:=.fields #[.int lo t,.int hi u,.int 1 v] },toks:=tk }:=I.kept fun b o e=>Heap.get?_push_of_some _ e
 refine⟨(s.heap.push { cls:=.type "range",data:=.fields #[.int lo t,.int hi u,.int 1 v] }).objs.size,[(s.heap.push { cls:=.type "range",data:=.fields #[.int lo t,.int hi u,.int 1 v] }).objs.size],_,_,H,rfl,
  I1.kept (t':=tk) fun b o e=>Heap.get?_push_of_some _ e,turn_range _ lo (hi-lo).toNat,?_,fun b hb=>?_,q⟩
 ·have e1:lo+((0:Nat):Int) * 1=lo:=by simp
  have e2:(((hi-lo).toNat:Nat):Int)-((0:Nat):Int)=Builtin.Range.rangeSize lo hi 1:=by rw[rangeSize_one];split <;> lia
  show IsRangeIter _ _ (lo+((0:Nat):Int) * 1) ((((hi-lo).toNat:Nat):Int)-((0:Nat):Int)) 1
  rw[e1,e2]
  exact Heap.get?_push_size _ rfl
 ·have e:b=(s.heap.push { cls:=.type "range",data:=.fields #[.int lo t,.int hi u,.int 1 v] }).objs.size:=by simpa using hb
  subst e
  exact I1.fpOk (Nat.le_refl _) (I1.hok.fresh (Nat.le_refl _))
noncomputable def iRng1(ta:TA):TI:=fun σ H R=>ta σ H fun vs H1=>∃ j:Int,vs=[.int j]/\-(2 ^ 62)<=j/\j<2 ^ 62/\R (Itr 0 j.toNat) H1
noncomputable def iRng2(ta:TA):TI:=fun σ H R=>ta σ H fun vs H1=>∃ i j:Int,vs=[.int i,.int j]/\(-(2 ^ 62)<=i/\i<2 ^ 62/\-(2 ^ 62)<=j/\j<2 ^ 62)/\R (Itr i (j-i).toNat) H1
theorem pi_range1{a:Expr}{ta:TA}{p pos:Pos}(hg:Gl X "range")(hm:X.mg "range" = none)(ha:PA X [a] ta)(hs:starEach [a] X.env=[(false,eval a X.env)]:=by rfl):PI X tg (.Call (.Name "range" p) [a] [] pos) (iRng1 ta):=by
 intro pins s σ H R I h
 refine Call_ (ld_blt I hg hm boot_range (PyProof.Rows.callWith_type1 (thn (ha pos pins s σ H _ I h) fun us s1 ⟨vs,H1,I1,r1,q1⟩=>?_) hs rfl))
 obtain⟨j,e,q1,q2,q⟩:=q1
 subst e
 cases r1 with
 |cons r rr =>
  cases rr
  obtain⟨t,rfl⟩:=r
  exact call_range_1 (range_it I1 (by lia) (by lia) q1 q2 (by simpa using q))
theorem pi_range2{a b:Expr}{ta:TA}{p pos:Pos}(hg:Gl X "range")(hm:X.mg "range" = none)(ha:PA X [a,b] ta)(hs:starEach [a,b] X.env=[(false,eval a X.env),(false,eval b X.env)]:=by rfl)(hs2:starEach [b] X.env=[(false,eval b X.env)]:=by rfl) :
  PI X tg (.Call (.Name "range" p) [a,b] [] pos) (iRng2 ta):=by
 intro pins s σ H R I h
 refine Call_ (ld_blt I hg hm boot_range (PyProof.Rows.callWith_type1 (thn (ha pos pins s σ H _ I h) fun us s1 ⟨vs,H1,I1,r1,q1⟩=>?_) (by rw[hs,hs2]) (by rw[hs2];rfl)))
 obtain⟨i,j,e,⟨q1,q2,q3,q4⟩,q⟩:=q1
 subst e
 cases r1 with
 |cons r rr =>
  cases rr with
  |cons r' rr =>
   cases rr
   obtain⟨t,rfl⟩:=r
   obtain⟨t',rfl⟩:=r'
   exact call_range_2 (range_it I1 q1 q2 q3 q4 q)
noncomputable def tFor(wi:TI)(g:TG)(tb:TS):TS:=fun D σ H=>wi σ H fun J H1=>∃ W:Nat->Nat->St->Hp->Prop,(∃ m,W 0 m σ H1)/\∀ i m σ H,W i m σ H ->
 (J.stop i H/\D.nx σ H)\/(J.go i H/\∃ N:St->Hp->Prop,(∀ σ' H',N σ' H'->∃ m',m'<m/\W (i+1) m' σ' H')/\∀ x H',J.yld i H x H'->g x σ H' fun σ2 H2=>tb { D with nx:=N,ct:=N,bk:=D.nx } σ2 H2)
noncomputable def pinsAt(fp:List Addr)(h:Heap):List (Addr×Obj):=fp.filterMap fun b=>(h.get? b).map fun o=>(b,o)
theorem mem_pinsAt{fp:List Addr}{h:Heap}{b:Addr}{o:Obj}(hb:b∈fp)(e:h.get? b=some o):(b,o)∈pinsAt fp h:=List.mem_filterMap.mpr ⟨b,hb,by rw[e];rfl⟩
theorem of_pinsAt{fp:List Addr}{h:Heap}{p:Addr×Obj}(hp:p∈pinsAt fp h):p.1∈fp/\h.get? p.1=some p.2:=by
 obtain⟨b,hb,e⟩:=List.mem_filterMap.mp hp
 cases q:h.get? b with
 |none=>rw[q]at e;cases e
 |some o =>
  rw[q]at e
  have e':(b,o)=p:=Option.some.inj e
  subst e'
  exact⟨hb,q⟩
theorem Inv.pinned{pins:List (Addr×Obj)}{σ:St}{H:Hp}{s:Shared}{fp:List Addr}(I:Inv X pins σ H s)(hf:∀ b∈fp,FpOk X pins H b)(ho:∀ b∈fp,∃ o,s.heap.get? b=some o/\∀ v,o.data≠.cell v):Inv X (pins++pinsAt fp s.heap) σ H s :=
 I.pins_of fun p hp=>(List.mem_append.mp hp).elim (fun z=>I.pin p (List.mem_append_right _ z)) fun z=>by
  obtain⟨hb,e⟩:=of_pinsAt z
  obtain⟨f0,f1,f2,_⟩:=hf p.1 hb
  obtain⟨o,e',d⟩:=ho p.1 hb
  rw[e]at e';cases e'
  exact⟨e,f0,f1,f2,d⟩
theorem Inv.unpinned{pins pl:List (Addr×Obj)}{σ:St}{H:Hp}{s:Shared}(I:Inv X (pins++pl) σ H s):Inv X pins σ H s:=I.pins_of fun p hp=>I.pin p (List.mem_append_right _ (List.mem_append_left _ hp))
theorem ps_for{iter:Expr}{body:List Stmt}{wi:TI}{g:TG}{tb:TS}{pos:Pos}(hp:PassesOwn (model X.prog X.w) X.A X.env X.xe)(hc:X.calm=true)(hi:PI X tg iter wi)(hg:PG X tg g)(hb:PSs X body tb)
  (hs:∀ x,foldedSetIterable iter X.env x=pure x:=by intro _;rfl):PS X (.For tg iter body [] pos) (tFor wi g tb):=by
 intro pins s σ H D I h
 refine wpAny_For (thn (hi pins s σ H _ I h) fun v s1 h1=>thn h1 fun itv s2 h2=>?_) hs
 obtain⟨it,fp,tn,J,H2,e,I2,T,st2,f2,W,⟨m0,w0⟩,turn⟩:=h2
 subst e
 -- what stays true of the iterator's objects through the loop
 have stat:∀ {H':Hp},(∀ b∈fp,H' b=none)->∀ b∈fp,FpOk X pins H' b:=fun hn b hb=>⟨hn b hb,(f2 b hb).2⟩
 refine codeAny_forLoop_any (fun n s'=>∃ i σ' H',Inv X pins σ' H' s'/\tn i s'.heap/\(∀ b∈fp,H' b=none)/\W i n σ' H') ?_ m0 ⟨0,σ,H2,I2,st2,fun b hb=>(f2 b hb).1,w0⟩
 rintro n s3 ⟨i,σ3,H3,I3,st3,fr3,w3⟩
 rcases turn i n σ3 H3 w3 with⟨stop,qn⟩ |⟨go,N,hN,step⟩
 ·refine wpAny_passesOwn hp (thn (T.done X rfl rfl rfl hc i pins s3 σ3 H3 X.xe I3 (stat fr3) st3 stop) fun r s4 ⟨hr,I4⟩=>?_)
  subst hr
  exact wpAny_execs_nil ⟨σ3,H3,I4,qn⟩
 ·refine wpAny_passesOwn hp (thn (T.item X rfl rfl rfl hc i pins s3 σ3 H3 X.xe I3 (stat fr3) st3 go) fun r s4 ⟨u,hr,h4⟩=>?_)
  subst hr
  refine wpAny_passesOwn hp (thn h4 fun _ s5 ⟨x,H5,I5,r5,y5,st5,fr5⟩=>?_)
  have I5':=I5.pinned (stat fr5) (T.obj _ _ st5)
  refine wpAny_passesOwn hp (thn (hg _ s5 σ3 H5 x u _ I5' r5 (step x H5 y5)) fun _ s6 ⟨σ6,H6,I6,q6⟩=>?_)
  refine wpAny_passesOwn hp (thn (hb _ s6 σ6 H6 _ I6 q6) fun f s7 q7=>?_)
  have again:∀ {σ7:St}{H7:Hp},Inv X (pins++pinsAt fp s5.heap) σ7 H7 s7->N σ7 H7->∃ m,m<n/\∃ i σ' H',Inv X pins σ' H' s7/\tn i s7.heap/\(∀ b∈fp,H' b=none)/\W i m σ' H':=fun {σ7 H7} I7 n7=>by
   obtain⟨m',hm,w7⟩:=hN σ7 H7 n7
   refine⟨m',hm,i+1,σ7,H7,I7.unpinned,T.keep _ _ _ st5 fun b hb o e=>(I7.pin (b,o) (List.mem_append_right _ (List.mem_append_right _ (mem_pinsAt hb e)))).1,fun b hb=>?_,w7⟩
   obtain⟨o,e,d⟩:=T.obj _ _ st5 b hb
   exact(I7.pin (b,o) (List.mem_append_right _ (List.mem_append_right _ (mem_pinsAt hb e)))).2.1
  cases f with
  |next=>obtain⟨σ7,H7,I7,n7⟩:=q7;exact again I7 n7
  |cont=>obtain⟨σ7,H7,I7,n7⟩:=q7;exact again I7 n7
  |brk=>obtain⟨σ7,H7,I7,q7⟩:=q7;exact⟨σ7,H7,I7.unpinned,q7⟩
  |ret v=>obtain⟨x7,σ7,H7,I7,r7,q7⟩:=q7;exact⟨x7,σ7,H7,I7.unpinned,r7,q7⟩
end
theorem for_list{K:PySem.W.Frag}{a:Addr}{xs:List V}{g:TG}{tb:TS}{D:Ends}{σ:St}{H:Hp}(Pv:Nat->St->Hp->Prop)(h0:Pv 0 σ H)(hl:∀ i σ H,i<=xs.length->Pv i σ H->SqL K H a xs)
  (hs:∀ i x σ H,xs[i]?=some x->Pv i σ H->g x σ H fun σ2 H2=>tb { D with nx:=Pv (i+1),ct:=Pv (i+1),bk:=D.nx } σ2 H2) (hd:∀ σ H,Pv xs.length σ H->D.nx σ H) :
  ∃ W:Nat->Nat->St->Hp->Prop,(∃ m,W 0 m σ H)/\∀ i m σ H,W i m σ H ->
   ((Itl K a).stop i H/\D.nx σ H)\/((Itl K a).go i H/\∃ N:St->Hp->Prop,(∀ σ' H',N σ' H'->∃ m',m'<m/\W (i+1) m' σ' H')/\∀ x H',(Itl K a).yld i H x H'->g x σ H' fun σ2 H2=>tb { D with nx:=N,ct:=N,bk:=D.nx } σ2 H2):=by
 refine⟨fun i m σ H=>m=xs.length-i/\i<=xs.length/\Pv i σ H,⟨xs.length,by simp,Nat.zero_le _,h0⟩,?_⟩
 rintro i m σ H ⟨rfl,hi,p⟩
 have q:=hl i σ H hi p
 by_cases hlt:i<xs.length
 ·refine .inr ⟨⟨xs,xs[i],q,by simp[hlt]⟩,Pv (i+1),fun σ' H' p'=>⟨xs.length-(i+1),by omega,rfl,hlt,p'⟩,fun x H' y=>?_⟩
  obtain⟨e,y⟩:=y
  subst e
  exact hs i x σ _ (y xs q) p
 ·have e:i=xs.length:=by lia
  subst e
  exact .inl ⟨⟨xs,q,Nat.le_refl _⟩,hd σ H p⟩
theorem for_tup{K:PySem.W.Frag}{a:Addr}{xs:List V}{g:TG}{tb:TS}{D:Ends}{σ:St}{H:Hp}(Pv:Nat->St->Hp->Prop)(h0:Pv 0 σ H)(hl:∀ i σ H,i<=xs.length->Pv i σ H->SqT K H a xs)
  (hs:∀ i x σ H,xs[i]?=some x->Pv i σ H->g x σ H fun σ2 H2=>tb { D with nx:=Pv (i+1),ct:=Pv (i+1),bk:=D.nx } σ2 H2) (hd:∀ σ H,Pv xs.length σ H->D.nx σ H) :
  ∃ W:Nat->Nat->St->Hp->Prop,(∃ m,W 0 m σ H)/\∀ i m σ H,W i m σ H ->
   ((Itt K a).stop i H/\D.nx σ H)\/((Itt K a).go i H/\∃ N:St->Hp->Prop,(∀ σ' H',N σ' H'->∃ m',m'<m/\W (i+1) m' σ' H')/\∀ x H',(Itt K a).yld i H x H'->g x σ H' fun σ2 H2=>tb { D with nx:=N,ct:=N,bk:=D.nx } σ2 H2):=by
 refine⟨fun i m σ H=>m=xs.length-i/\i<=xs.length/\Pv i σ H,⟨xs.length,by simp,Nat.zero_le _,h0⟩,?_⟩
 rintro i m σ H ⟨rfl,hi,p⟩
 have q:=hl i σ H hi p
 by_cases hlt:i<xs.length
 ·refine .inr ⟨⟨xs,xs[i],q,by simp[hlt]⟩,Pv (i+1),fun σ' H' p'=>⟨xs.length-(i+1),by omega,rfl,hlt,p'⟩,fun x H' y=>?_⟩
  obtain⟨e,y⟩:=y
  subst e
  exact hs i x σ _ (y xs q) p
 ·have e:i=xs.length:=by lia
  subst e
  exact .inl ⟨⟨xs,q,Nat.le_refl _⟩,hd σ H p⟩
theorem for_range{lo:Int}{n:Nat}{g:TG}{tb:TS}{D:Ends}{σ:St}{H:Hp}(Pv:Nat->St->Hp->Prop)(h0:Pv 0 σ H)
  (hs:∀ i σ H,i<n->Pv i σ H->g (.int (lo+i)) σ H fun σ2 H2=>tb { D with nx:=Pv (i+1),ct:=Pv (i+1),bk:=D.nx } σ2 H2) (hd:∀ σ H,Pv n σ H->D.nx σ H) :
  ∃ W:Nat->Nat->St->Hp->Prop,(∃ m,W 0 m σ H)/\∀ i m σ H,W i m σ H ->
   ((Itr lo n).stop i H/\D.nx σ H)\/((Itr lo n).go i H/\∃ N:St->Hp->Prop,(∀ σ' H',N σ' H'->∃ m',m'<m/\W (i+1) m' σ' H')/\∀ x H',(Itr lo n).yld i H x H'->g x σ H' fun σ2 H2=>tb { D with nx:=N,ct:=N,bk:=D.nx } σ2 H2):=by
 refine⟨fun i m σ H=>m=n-i/\i<=n/\Pv i σ H,⟨n,by simp,Nat.zero_le _,h0⟩,?_⟩
 rintro i m σ H ⟨rfl,hi,p⟩
 by_cases hlt:i<n
 ·refine .inr ⟨hlt,Pv (i+1),fun σ' H' p'=>⟨n-(i+1),by omega,rfl,hlt,p'⟩,fun x H' y=>?_⟩
  obtain⟨e,y⟩:=y
  subst e y
  exact hs i σ _ hlt p
 ·have e:i=n:=by lia
  subst e
  exact .inl ⟨Nat.le_refl _,hd σ H p⟩
open PySem PySem.Spec PyProof.Rows
noncomputable abbrev R2:=V->V->Hp->VK->Prop
noncomputable def OpR(X:Cx)(f:Value->Value->Sem Value)(r:R2):Prop :=
 ∀ (pins:List (Addr×Obj)) (s:Shared) (σ:St) (H:Hp) (x y:V) (v u:Value) (Q:VK),Inv X pins σ H s->RelV x v->RelV y u->r x y H Q ->
  wpAny (model X.prog X.w) X.A (f v u) (EP X pins σ Q) X.xe s
noncomputable def UnR(X:Cx)(f:Value->Sem Value)(r:V->Hp->VK->Prop):Prop :=
 ∀ (pins:List (Addr×Obj)) (s:Shared) (σ:St) (H:Hp) (x:V) (v:Value) (Q:VK),Inv X pins σ H s->RelV x v->r x H Q ->
  wpAny (model X.prog X.w) X.A (f v) (EP X pins σ Q) X.xe s
noncomputable def CallR(X:Cx)(f:Value)(r:List V->Hp->VK->Prop):Prop :=
 ∀ (pins:List (Addr×Obj)) (s:Shared) (σ:St) (H:Hp) (xs:List V) (us:List Value) (Q:VK),Inv X pins σ H s->Vals xs us->r xs H Q ->
  wpAny (model X.prog X.w) X.A (call f us) (EP X pins σ Q) X.xe s
noncomputable def TruR(X:Cx)(r:V->Hp->(Bool->Hp->Prop)->Prop):Prop :=
 ∀ (pins:List (Addr×Obj)) (s:Shared) (σ:St) (H:Hp) (x:V) (v:Value) (Q:Bool->Hp->Prop),Inv X pins σ H s->RelV x v->r x H Q ->
  wpAny (model X.prog X.w) X.A (truthy v) (TP X pins σ Q) X.xe s
noncomputable def tOp(r:R2)(ta tb:TE):TE:=fun σ H Q=>ta σ H fun x H1=>tb σ H1 fun y H2=>r x y H2 Q
noncomputable def tUn(r:V->Hp->VK->Prop)(ta:TE):TE:=fun σ H Q=>ta σ H fun x H1=>r x H1 Q
noncomputable def rI(C:Int->Int->Prop)(g:Int->Int->V):R2:=fun x y H Q=>∃ i j,x = .int i/\y = .int j/\C i j/\Q (g i j) H
noncomputable def rI0(g:Int->Int->V):R2:=fun x y H Q=>∃ i j,x = .int i/\y = .int j/\Q (g i j) H
noncomputable def rU(g:Int->V):V->Hp->VK->Prop:=fun x H Q=>∃ i,x = .int i/\Q (g i) H
section
variable{X:Cx}{a b c:Expr}{ta tb tc:TE}{pos:Pos}
theorem binT(ha:PE X a ta)(hb:PE X b tb){pins:List (Addr×Obj)}{s:Shared}{σ:St}{H:Hp}{R:V->V->Hp->Prop}(I:Inv X pins σ H s)
  (h:ta σ H fun x H1=>tb σ H1 fun y H2=>R x y H2) {Q:Value->Shared->Prop}{f:Value->Value->Sem Value}
  (hf:∀ v u s2 x y H2,Inv X pins σ H2 s2->RelV x v->RelV y u->R x y H2->wpAny (model X.prog X.w) X.A (f v u) Q X.xe s2) :
  wpAny (model X.prog X.w) X.A (eval a X.env) (fun v s₁=>wpAny (model X.prog X.w) X.A (eval b X.env) (fun u s₂=>wpAny (model X.prog X.w) X.A (f v u) Q X.xe s₂) X.xe s₁) X.xe s:=by
 refine thn (ha pins s σ H _ I h) fun v s1 ⟨x,H1,I1,r1,q1⟩=>?_
 refine thn (hb pins s1 σ H1 _ I1 q1) fun u s2 ⟨y,H2,I2,r2,q2⟩=>?_
 exact hf v u s2 x y H2 I2 r1 r2 q2
theorem pe_op{op:Operator}{r:R2}(ho:OpR X (binaryOp op) r)(ha:PE X a ta)(hb:PE X b tb):PE X (.BinOp a op b pos) (tOp r ta tb):=by
 intro pins s σ H Q I h
 exact wpAny_BinOp (binT ha hb I h fun v u s2 x y H2 I2 rx ry q=>ho pins s2 σ H2 x y v u Q I2 rx ry q)
theorem pe_un{op:UnaryOp}{r:V->Hp->VK->Prop}(ho:UnR X (unaryOp op) r)(ha:PE X a ta):PE X (.UnaryOp op a pos) (tUn r ta):=by
 intro pins s σ H Q I h
 exact UnaryOp_ (thn (ha pins s σ H _ I h) fun v s1 ⟨x,H1,I1,r1,q1⟩=>ho pins s1 σ H1 x v Q I1 r1 q1)
theorem opI{f:Value->Value->Sem Value}{C:Int->Int->Prop}{g:Int->Int->Int}
  (rule:∀ (i j:Int) (t u:Tok) (s:Shared) (Q:Value->Shared->Prop) (E:Value->Shared->Prop),C i j->Q (.int (g i j) s.toks) { s with toks:=s.toks+1 }->wpAny (model X.prog X.w) X.A (f (.int i t) (.int j u)) Q E s) :
  OpR X f (rI C fun i j=>.int (g i j)):=by
 intro pins s σ H x y v u Q I rx ry h
 obtain⟨i,j,rfl,rfl,hc,q⟩:=h
 obtain⟨t,rfl⟩:=rx
 obtain⟨t',rfl⟩:=ry
 exact rule i j t t' s _ _ hc ⟨.int (g i j),H,I.tok _,⟨_,rfl⟩,q⟩
theorem opI0{f:Value->Value->Sem Value}{g:Int->Int->Int}
  (rule:∀ (i j:Int) (t u:Tok) (s:Shared) (Q:Value->Shared->Prop) (E:Value->Shared->Prop),Q (.int (g i j) s.toks) { s with toks:=s.toks+1 }->wpAny (model X.prog X.w) X.A (f (.int i t) (.int j u)) Q E s) :
  OpR X f (rI0 fun i j=>.int (g i j)):=by
 intro pins s σ H x y v u Q I rx ry h
 obtain⟨i,j,rfl,rfl,q⟩:=h
 obtain⟨t,rfl⟩:=rx
 obtain⟨t',rfl⟩:=ry
 exact rule i j t t' s _ _ ⟨.int (g i j),H,I.tok _,⟨_,rfl⟩,q⟩
theorem opB0{f:Value->Value->Sem Value}{g:Int->Int->Bool}
  (rule:∀ (i j:Int) (t u:Tok) (s:Shared) (Q:Value->Shared->Prop) (E:Value->Shared->Prop),Q (.bool (g i j)) s->wpAny (model X.prog X.w) X.A (f (.int i t) (.int j u)) Q E s) :
  OpR X f (rI0 fun i j=>.bl (g i j)):=by
 intro pins s σ H x y v u Q I rx ry h
 obtain⟨i,j,rfl,rfl,q⟩:=h
 obtain⟨t,rfl⟩:=rx
 obtain⟨t',rfl⟩:=ry
 exact rule i j t t' s _ _ ⟨.bl (g i j),H,I,rfl,q⟩
noncomputable def CDiv(i j:Int):Prop:=0<j/\j<1073741824
noncomputable def CPow(i j:Int):Prop:=0<=j/\j<=1000000/\i.natAbs<2 ^ 64
noncomputable def CMul(i j:Int):Prop:=(-(2 ^ 64)<i/\i<2 ^ 64)\/(-(2 ^ 64)<j/\j<2 ^ 64)
theorem CMul.ok{i j:Int}(h:CMul i j):IntMulOk i j:=by
 rcases h with⟨h1,h2⟩ |⟨h1,h2⟩
 ·exact .of_left (intBits_le_64 h1 h2)
 ·exact .of_right (intBits_le_64 h1 h2)
theorem op_add:OpR X (binaryOp .Add) (rI0 fun i j=>.int (i+j)):=opI0 fun _ _ _ _ _ _ _ q=>add_int q
theorem op_sub:OpR X (binaryOp .Sub) (rI0 fun i j=>.int (i-j)):=opI0 fun _ _ _ _ _ _ _ q=>sub_int q
theorem op_mul:OpR X (binaryOp .Mult) (rI CMul fun i j=>.int (i * j)):=opI fun _ _ _ _ _ _ _ hc q=>mul_int q hc.ok
theorem op_fdiv:OpR X (binaryOp .FloorDiv) (rI CDiv fun i j=>.int (i / j)):=opI fun i j _ _ _ _ _ hc q=>by
 have h1:(0:Int)<j:=hc.1
 have h2:j<1073741824:=hc.2
 exact floordiv_int (by lia) (by rw[Int.fdiv_eq_ediv_of_nonneg i (by lia)];exact q) (.inl (PyProof.noPylong_small (by omega)))
theorem op_mod:OpR X (binaryOp .Mod) (rI (fun _ j=>0<j) fun i j=>.int (i % j)):=opI fun i j _ _ _ _ _ hc q=>by
 have h1:(0:Int)<j:=hc
 exact mod_int' (by lia) (by rw[Int.fmod_eq_emod_of_nonneg i (by lia)];exact q)
theorem op_pow:OpR X (binaryOp .Pow) (rI CPow fun i j=>.int (i ^ j.toNat)):=opI fun _ _ _ _ _ _ _ hc q=>pow_int_small hc.1 hc.2.1 hc.2.2 q
theorem unI{f:Value->Sem Value}{g:Int->Int}
  (rule:∀ (i:Int) (t:Tok) (s:Shared) (Q:Value->Shared->Prop) (E:Value->Shared->Prop),Q (.int (g i) s.toks) { s with toks:=s.toks+1 }->wpAny (model X.prog X.w) X.A (f (.int i t)) Q E s) :
  UnR X f (rU fun i=>.int (g i)):=by
 intro pins s σ H x v Q I rx h
 obtain⟨i,rfl,q⟩:=h
 obtain⟨t,rfl⟩:=rx
 exact rule i t s _ _ ⟨.int (g i),H,I.tok _,⟨_,rfl⟩,q⟩
theorem un_neg:UnR X (unaryOp .USub) (rU fun i=>.int (-i)):=unI fun _ _ _ _ _ q=>neg_int q
end
noncomputable def scal:V->V->Bool
 | .non,.non=>true | .non,.int _=>true | .int _,.non=>true | .non,.bl _=>true | .bl _,.non=>true | .non,.str _=>true | .str _,.non=>true
 | .int _,.int _=>true | .bl _,.bl _=>true | .str _,.str _=>true | .byt _,.byt _=>true
 | .int _,.str _=>true | .str _,.int _=>true | .bl _,.str _=>true | .str _,.bl _=>true
 | _,_=>false
noncomputable def rEq:R2:=fun x y H Q=>scal x y=true/\Q (.bl (decide (x=y))) H
noncomputable def rNe:R2:=fun x y H Q=>scal x y=true/\Q (.bl (!decide (x=y))) H
theorem dec_int{i j:Int}:decide (V.int i=V.int j)=(i == j):=by
 rw[Bool.eq_iff_iff]
 simp
theorem dec_bl{i j:Bool}:decide (V.bl i=V.bl j)=(i == j):=by
 rw[Bool.eq_iff_iff]
 simp
theorem dec_str{i j:Str}:decide (V.str i=V.str j)=(i == j):=by
 rw[Bool.eq_iff_iff]
 simp
theorem dec_byt{i j:Array UInt8}:decide (V.byt i=V.byt j)=(i.toList == j.toList):=by
 rw[Bool.eq_iff_iff]
 cases i
 cases j
 simp
section
variable{X:Cx}{a b c:Expr}{ta tb tc:TE}{pos:Pos}
theorem fin_bl{pins:List (Addr×Obj)}{σ:St}{H:Hp}{s:Shared}{Q:VK}{k k':Bool}(I:Inv X pins σ H s)(q:Q (.bl k) H)(e:k=k'):EP X pins σ Q (.bool k') s:=by
 subst e
 exact⟨.bl k,H,I,rfl,q⟩
theorem op_eq:OpR X (compareOp .Eq) rEq:=by
 intro pins s σ H x y v u Q I rx ry h
 obtain⟨hs,q⟩:=h
 cases x with
 |non =>
  cases rx
  cases y with
  |non=>cases ry;exact PySem.EqNone.eq_none_none (fin_bl I q (by simp))
  |bl j=>cases ry;exact PySem.EqNone.eq_none_bool (fin_bl I q (by simp))
  |int j=>obtain⟨t',rfl⟩:=ry;exact PySem.EqNone.eq_none_int (fin_bl I q (by simp))
  |str j=>obtain⟨t',rfl⟩:=ry;exact PySem.EqNone.eq_none_str (fin_bl I q (by simp))
  | _=>exact absurd (show false=true from hs) Bool.false_ne_true
 |bl i =>
  cases rx
  cases y with
  |non=>cases ry;exact PySem.EqNone.eq_bool_none (fin_bl I q (by simp))
  |bl j=>cases ry;exact eq_bool (fin_bl I q dec_bl)
  |str j=>obtain⟨t',rfl⟩:=ry;exact PySem.EqMixed.eq_bool_str (fin_bl I q (by simp))
  | _=>exact absurd (show false=true from hs) Bool.false_ne_true
 |int i =>
  obtain⟨t,rfl⟩:=rx
  cases y with
  |non=>cases ry;exact PySem.EqNone.eq_int_none (fin_bl I q (by simp))
  |int j=>obtain⟨t',rfl⟩:=ry;exact eq_int (fin_bl I q dec_int)
  |str j=>obtain⟨t',rfl⟩:=ry;exact PySem.EqMixed.eq_int_str (fin_bl I q (by simp))
  | _=>exact absurd (show false=true from hs) Bool.false_ne_true
 |str i =>
  obtain⟨t,rfl⟩:=rx
  cases y with
  |non=>cases ry;exact PySem.EqNone.eq_str_none (fin_bl I q (by simp))
  |bl j=>cases ry;exact PySem.EqMixed.eq_str_bool (fin_bl I q (by simp))
  |int j=>obtain⟨t',rfl⟩:=ry;exact PySem.EqMixed.eq_str_int (fin_bl I q (by simp))
  |str j=>obtain⟨t',rfl⟩:=ry;exact eq_str (fin_bl I q dec_str)
  | _=>exact absurd (show false=true from hs) Bool.false_ne_true
 |byt i =>
  obtain⟨t,rfl⟩:=rx
  cases y with
  |byt j=>obtain⟨t',rfl⟩:=ry;exact PySem.W.eq_bytes (fin_bl I q dec_byt)
  | _=>exact absurd (show false=true from hs) Bool.false_ne_true
 | _=>cases y <;> exact absurd (show false=true from hs) Bool.false_ne_true
theorem op_ne:OpR X (compareOp .NotEq) rNe:=by
 intro pins s σ H x y v u Q I rx ry h
 obtain⟨hs,q⟩:=h
 cases x with
 |non =>
  cases rx
  cases y with
  |non=>cases ry;exact PySem.EqNone.ne_none_none (fin_bl I q (by simp))
  |bl j=>cases ry;exact PySem.EqNone.ne_none_bool (fin_bl I q (by simp))
  |int j=>obtain⟨t',rfl⟩:=ry;exact PySem.EqNone.ne_none_int (fin_bl I q (by simp))
  |str j=>obtain⟨t',rfl⟩:=ry;exact PySem.EqNone.ne_none_str (fin_bl I q (by simp))
  | _=>exact absurd (show false=true from hs) Bool.false_ne_true
 |bl i =>
  cases rx
  cases y with
  |non=>cases ry;exact PySem.EqNone.ne_bool_none (fin_bl I q (by simp))
  |bl j=>cases ry;exact ne_bool (fin_bl I q (congrArg not dec_bl))
  |str j=>obtain⟨t',rfl⟩:=ry;exact PySem.EqMixed.ne_bool_str (fin_bl I q (by simp))
  | _=>exact absurd (show false=true from hs) Bool.false_ne_true
 |int i =>
  obtain⟨t,rfl⟩:=rx
  cases y with
  |non=>cases ry;exact PySem.EqNone.ne_int_none (fin_bl I q (by simp))
  |int j=>obtain⟨t',rfl⟩:=ry;exact ne_int (fin_bl I q (congrArg not dec_int))
  |str j=>obtain⟨t',rfl⟩:=ry;exact PySem.EqMixed.ne_int_str (fin_bl I q (by simp))
  | _=>exact absurd (show false=true from hs) Bool.false_ne_true
 |str i =>
  obtain⟨t,rfl⟩:=rx
  cases y with
  |non=>cases ry;exact PySem.EqNone.ne_str_none (fin_bl I q (by simp))
  |bl j=>cases ry;exact PySem.EqMixed.ne_str_bool (fin_bl I q (by simp))
  |int j=>obtain⟨t',rfl⟩:=ry;exact PySem.EqMixed.ne_str_int (fin_bl I q (by simp))
  |str j=>obtain⟨t',rfl⟩:=ry;exact ne_str (fin_bl I q (congrArg not dec_str))
  | _=>exact absurd (show false=true from hs) Bool.false_ne_true
 |byt i =>
  obtain⟨t,rfl⟩:=rx
  cases y with
  |byt j=>obtain⟨t',rfl⟩:=ry;exact PySem.W.ne_bytes (fin_bl I q (congrArg not dec_byt))
  | _=>exact absurd (show false=true from hs) Bool.false_ne_true
 | _=>cases y <;> exact absurd (show false=true from hs) Bool.false_ne_true
theorem op_lt:OpR X (compareOp .Lt) (rI0 fun i j=>.bl (decide (i<j))):=opB0 fun _ _ _ _ _ _ _ q=>lt_int q
theorem op_gt:OpR X (compareOp .Gt) (rI0 fun i j=>.bl (decide (j<i))):=opB0 fun _ _ _ _ _ _ _ q=>gt_int q
theorem op_ge:OpR X (compareOp .GtE) (rI0 fun i j=>.bl (decide (j<=i))):=opB0 fun _ _ _ _ _ _ _ q=>ge_int q
theorem op_isN:OpR X (compareOp .Is) (fun x y H Q=>y = .non/\Q (.bl (decide (x = .non))) H):=by
 intro pins s σ H x y v u Q I rx ry h
 obtain⟨rfl,q⟩:=h
 cases ry
 refine is_none_gen (fin_bl I q ?_)
 cases x <;> first
  |(cases rx;rfl)
  |(obtain⟨t,rfl⟩:=rx;rfl)
theorem nomark(b:Expr){op:CmpOp}(h:op≠.In:=by decide)(h2:op≠.NotIn:=by decide):behindInMarks op b=false:=by
 have e1:(op == CmpOp.In)=false:=by cases op <;> first | rfl | exact absurd rfl h
 have e2:(op == CmpOp.NotIn)=false:=by cases op <;> first | rfl | exact absurd rfl h2
 cases b <;> simp[behindInMarks,e1,e2]
theorem pe_cmpR{op:CmpOp}{r:R2}(ho:OpR X (compareOp op) r)(ha:PE X a ta)(hb:PE X b tb)(hm:behindInMarks op b=false):PE X (.Compare a [op] [b] pos) (tOp r ta tb):=by
 intro pins s σ H Q I h
 exact wpAny_Compare1 (binT ha hb I h fun v u s2 x y H2 I2 rx ry q=>ho pins s2 σ H2 x y v u Q I2 rx ry q) hm
noncomputable def tTest(t:TE):TT:=fun σ H Q=>t σ H fun x H'=>∃ k,x = .bl k/\Q k H'
theorem pt_cmpR{op:CmpOp}{r:R2}(ho:OpR X (compareOp op) r)(ha:PE X a ta)(hb:PE X b tb)(hm:behindInMarks op b=false):PT X (.Compare a [op] [b] pos) (tTest (tOp r ta tb)):=by
 intro pins s σ H Q I h
 refine wpAny_isTrue_Compare1 (thn (ha pins s σ H _ I h) fun v s1 ⟨x,H1,I1,r1,q1⟩=>thn (hb pins s1 σ H1 _ I1 q1) fun u s2 ⟨y,H2,I2,r2,q2⟩ =>
  thn (ho pins s2 σ H2 x y v u _ I2 r1 r2 q2) fun c s3 ⟨z,H3,I3,r3,k,e,q3⟩=>?_) hm
 subst e
 cases r3
 exact wpAny_truthy_bool ⟨H3,I3,q3⟩
noncomputable def TruV(K:PySem.W.Frag)(x:V)(H:Hp)(k:Bool):Prop :=
 match x with
 | .non=>k=false
 | .bl b=>k=b
 | .int i=>k=(i != 0)
 | .str y=>y.length<=sizeLine/\k=((y.length:Int) != 0)
 | .byt y=>y.size<=sizeLine/\k=((y.size:Int) != 0)
 | .ref p=>(∃ xs,SqL K H p xs/\k = !xs.isEmpty)\/(∃ xs,SqT K H p xs/\k = !xs.isEmpty)\/∃ kvs,H p=some (.dK kvs)/\k = !kvs.isEmpty
 | _=>False
theorem isEmpty_kv{κ:Type}{kvs:List (κ×V)}{vs:List (κ×Value)}(r:KV kvs vs):(!vs.isEmpty) = !kvs.isEmpty:=by
 cases r <;> rfl
theorem isEmpty_of{xs:List V}{its:List Value}(r:Vals xs its):(!its.toArray.isEmpty) = !xs.isEmpty:=by
 cases r <;> simp
theorem line63:(sizeLine:Nat)<2 ^ 63:=by rw[sizeLine_eq];decide
theorem tru_ok:TruR X (fun x H Q=>∃ k,TruV X.K x H k/\Q k H):=by
 intro pins s σ H x v Q I rx h
 obtain⟨k,e,q⟩:=h
 have hl:=line63
 have hs:sizeLine=16777216:=sizeLine_eq
 cases x with
 |non =>
  cases rx
  have e':k=false:=e
  subst e'
  exact truthy_none ⟨H,I,q⟩
 |bl b =>
  cases rx
  have e':k=b:=e
  subst e'
  exact wpAny_truthy_bool ⟨H,I,q⟩
 |int i =>
  obtain⟨t,rfl⟩:=rx
  have e':k=(i != 0):=e
  subst e'
  exact PySem.P.truthy_int ⟨H,I,q⟩
 |str y =>
  obtain⟨t,rfl⟩:=rx
  obtain⟨hy,e'⟩:y.length<=sizeLine/\k=((y.length:Int) != 0):=e
  subst e'
  exact PySem.P.truthy_str (by lia) ⟨H,I.tok _,q⟩
 |byt y =>
  obtain⟨t,rfl⟩:=rx
  obtain⟨hy,e'⟩:y.size<=sizeLine/\k=((y.size:Int) != 0):=e
  subst e'
  exact PySem.W.truthy_bytes (by lia) ⟨H,I.tok _,q⟩
 |ref p =>
  cases rx
  have e':(∃ xs,SqL X.K H p xs/\k = !xs.isEmpty)\/(∃ xs,SqT X.K H p xs/\k = !xs.isEmpty)\/∃ kvs,H p=some (.dK kvs)/\k = !kvs.isEmpty:=e
  rcases e' with⟨xs,hx,e'⟩ |⟨xs,hx,e'⟩ |⟨kvs,hx,e'⟩
  ·subst e'
   obtain⟨its,r,pl,hz⟩:=I.list hx
   have hlen:=r.length
   exact wpAny_truthy_list pl.isList (by simp only[List.size_toArray];lia) ⟨H,I.tok _,by rw[isEmpty_of r];exact q⟩
  ·subst e'
   obtain⟨its,r,pl,hz⟩:=I.tuple hx
   have hlen:=r.length
   exact truthy_tuple pl (by simp only[List.size_toArray];lia) ⟨H,I.tok _,by rw[isEmpty_of r];exact q⟩
  ·subst e'
   obtain⟨hz,hS,vs,r,m⟩:kvs.length<=sizeLine/\(p == sysModules)=false/\∃ vs,KV kvs vs/\s.heap.DictOf (mixKind X.prog X.w) p vs:=I.hok p _ hx
   have hlen:kvs.length=vs.length:=Paired.length r
   exact wpAny_truthy_dict hS m (by lia) ⟨H,I.tok _,by rw[isEmpty_kv r];exact q⟩
 | _=>exact(show False from e).elim
theorem pt_truth(ha:PE X a ta)(he:∀ whole,isTrue a X.env whole=(do let v <- whole;standAt a.pos;holding [v] (truthy v))) :
  PT X a (fun σ H Q=>ta σ H fun x H'=>∃ k,TruV X.K x H' k/\Q k H'):=by
 intro pins s σ H Q I h
 exact isTrue_plain (thn (ha pins s σ H _ I h) fun v s1 ⟨x,H1,I1,r1,q1⟩=>tru_ok pins s1 σ H1 x v Q I1 r1 q1) (he _)
theorem vals1{x:V}{us:List Value}(r:Vals [x] us):∃ u,us=[u]/\RelV x u:=by
 cases r with
 |cons r1 r2=>cases r2;exact⟨_,rfl,r1⟩
theorem vals2{x y:V}{us:List Value}(r:Vals [x,y] us):∃ u w',us=[u,w']/\RelV x u/\RelV y w':=by
 cases r with
 |cons r1 r2 =>
  cases r2 with
  |cons r3 r4=>cases r4;exact⟨_,_,rfl,r1,r3⟩
theorem call_abs:CallR X (.builtin "abs") (fun xs H Q=>∃ i,xs=[.int i]/\Q (.int (if i<0 then -i else i)) H):=by
 intro pins s σ H xs us Q I r h
 obtain⟨i,rfl,q⟩:=h
 obtain⟨u,rfl,t,rfl⟩:=vals1 r
 exact call_abs_int fun u tk=>⟨.int (if i<0 then -i else i),H,I.tok _,⟨_,rfl⟩,q⟩
theorem call_max2(hc:X.calm=true):CallR X (.builtin "max") (fun xs H Q=>∃ i j,xs=[.int i,.int j]/\Q (.int (if j > i then j else i)) H):=by
 intro pins s σ H xs us Q I r h
 obtain⟨i,j,rfl,q⟩:=h
 obtain⟨u,w',rfl,⟨t,rfl⟩,⟨t',rfl⟩⟩:=vals2 r
 refine max_two_ints (I.ok.hd hc) fun h' tk k=>⟨_,H,I.kept k,?_,q⟩
 by_cases hj:j > i
 ·rw[if_pos hj,if_pos hj];exact⟨_,rfl⟩
 ·rw[if_neg hj,if_neg hj];exact⟨_,rfl⟩
theorem call_min2(hc:X.calm=true):CallR X (.builtin "min") (fun xs H Q=>∃ i j,xs=[.int i,.int j]/\Q (.int (if j<i then j else i)) H):=by
 intro pins s σ H xs us Q I r h
 obtain⟨i,j,rfl,q⟩:=h
 obtain⟨u,w',rfl,⟨t,rfl⟩,⟨t',rfl⟩⟩:=vals2 r
 refine min_two_ints (I.ok.hd hc) fun h' tk k=>⟨_,H,I.kept k,?_,q⟩
 by_cases hj:j<i
 ·rw[if_pos hj,if_pos hj];exact⟨_,rfl⟩
 ·rw[if_neg hj,if_neg hj];exact⟨_,rfl⟩
theorem call_int1:CallR X (.type "int") (fun xs H Q=>(∃ i,xs=[.int i]/\Q (.int i) H)\/∃ k,xs=[.bl k]/\Q (.int (if k then 1 else 0)) H):=by
 intro pins s σ H xs us Q I r h
 rcases h with⟨i,rfl,q⟩ |⟨k,rfl,q⟩
 ·obtain⟨u,rfl,t,rfl⟩:=vals1 r
  exact call_int_int ⟨.int i,H,I,⟨_,rfl⟩,q⟩
 ·obtain⟨u,rfl,r1⟩:=vals1 r
  cases r1
  exact call_int_bool ⟨.int (if k then 1 else 0),H,I.tok _,⟨_,rfl⟩,q⟩
end
open PySem PySem.Spec PyProof.Rows
structure ObjM(h:Heap)(x dx C:Addr)(mA:Str->Option Value):Prop where
 obj:h.get? x=some (PySem.W.instObj C dx)
 ns:h.Ns1 dx mA
 ne:dx≠x
theorem lookIn_ns{h:Heap}{dx:Addr}{mA:Str->Option Value}(n:h.Ns1 dx mA):∃ od,h.get? dx=some od/\∀ name,PySem.W.lookIn name od=some (mA name):=by
 obtain⟨o,es,ep,ho,hd,hk,_,hm⟩:=n
 refine⟨o,ho,fun name=>?_⟩
 have e:=hm name
 unfold nsFind findBy at e
 rw[<- Array.find?_toList]at e
 unfold PySem.W.lookIn
 rw[hd]
 dsimp only
 split
 ·rename_i y q
  rw[q]at e
  exact congrArg some e
 ·rename_i q
  rw[q]at e
  have a:es.toList.any (·.refKey)=false:=by
   rw[List.any_eq_false]
   intro y hy
   obtain⟨z,t,hkey⟩:=hk y (Array.mem_toList_iff.mp hy)
   simp[DictEntry.refKey,hkey]
  have a':¬ es.toList.any (·.refKey)=true:=by rw[a];exact Bool.false_ne_true
  rw[if_neg a']
  exact congrArg some e
theorem ObjM.look{h:Heap}{x dx C:Addr}{mA:Str->Option Value}(I:ObjM h x dx C mA):∃ od,PySem.W.InstAt h x (PySem.W.instObj C dx) C (some od)/\∀ name,PySem.W.lookIn name od=some (mA name) :=
 let ⟨od,ho,hl⟩:=lookIn_ns I.ns
 ⟨od,⟨I.obj,rfl,rfl,ho⟩,hl⟩
theorem RelO.some_of{v:V}{o:Option Value}(r:RelO (some v) o):∃ u,o=some u/\RelV v u:=by
 cases o with
 |none=>exact(show False from r).elim
 |some u=>exact⟨u,rfl,r⟩
section
variable{P:Program}{w:World}{H H':Hp}{h h':Heap}{a C dx:Addr}{fs fs':List (Str×V)}
theorem ins_get(hok:HOk P w H h)(e:H a=some (.ins C dx fs)):∃ mA,ObjM h a dx C mA/\(∀ f,RelO (fs.lookup f) (mA f))/\PySem.Within mA (fs.map (·.1))/\fs.length<=1000/\H dx=some (.own a):=by
 obtain⟨d,z,ne,ob,mA,n,r,q⟩:=(show ObjOk P w H h a (.ins C dx fs)from hok a _ e)
 exact⟨mA,⟨ob,n,ne⟩,r,q,z,d⟩
end
structure Cls(K:PySem.W.Frag)(C:Addr):Prop where
 pg:PySem.W.plainGet K C Str.empty=true
 hd:PySem.W.hasDictIn K C=true
 po:PySem.W.plainOver K C=true
 sa:PySem.W.findIn K (.ref C) "__setattr__" = some (some (.builtin "object.__setattr__"))
theorem Cls.get{K:PySem.W.Frag}{C:Addr}(c:Cls K C)(f:Str):PySem.W.plainGet K C f=true:=c.pg
section
variable{X:Cx}{pins:List (Addr×Obj)}{σ:St}{H:Hp}{s:Shared}{A:Around}{E:Value->Shared->Prop}{Q:Value->Shared->Prop}{c:Value}{b:Bool}
inductive TyOf(K:PySem.W.Frag)(H:Hp):V->Value->Prop where
 |non:TyOf K H .non (.type "NoneType")
 |bl (x:Bool):TyOf K H (.bl x) (.type "bool")
 |int (i:Int):TyOf K H (.int i) (.type "int")
 |str (x:Str):TyOf K H (.str x) (.type "str")
 |flt (x:UInt64):TyOf K H (.flt x) (.type "float")
 |lst {a:Addr}{xs:List V} (e:H a=some (.lst xs)):TyOf K H (.ref a) (.type "list")
 |frz {a:Addr}{o:Obj}{xs:List V} (e:H a=some (.frz o (.lst xs))):TyOf K H (.ref a) (.type "list")
 |tup {a:Addr}{xs:List V} (e:H a=some (.tup xs)):TyOf K H (.ref a) (.type "tuple")
 |dK {a:Addr}{kvs:List (Key×V)} (e:H a=some (.dK kvs)):TyOf K H (.ref a) (.type "dict")
 |dT {a:Addr}{kvs:List (List Key×V)} (e:H a=some (.dT kvs)):TyOf K H (.ref a) (.type "dict")
 |ins {a C dx:Addr}{fs:List (Str×V)} (e:H a=some (.ins C dx fs)) (cl:Cls K C) (ha:PySem.W.findIn K (.ref C) "__class__" = some (some (.builtin "object.__class__")))
   (hn:PySem.W.specialIn K (.builtin "object.__class__") "__get__" = some (some (.builtin "getset_descriptor.__get__"))) (htk:PySem.W.takesIn K (.builtin "object.__class__")=some true)
   (hm:PySem.W.mroIn K C (.type "object")=some true):TyOf K H (.ref a) (.ref C)
theorem isinst_ok{x:V}{u t:Value}(I:Inv X pins σ H s)(rx:RelV x u)(ty:TyOf X.K H x t)(e:PySem.W.kitOne X.K t c=some b)(h:∀ tk,Q (.bool b) { s with toks:=tk }) :
  wpAny (model X.prog X.w) A (call (.builtin "isinstance") [u,c]) Q E s:=by
 cases ty with
 |non=>cases(show u=Value.none from rx);exact PySem.W.kia_one PySem.W.kitx_none I.kIn True.intro e (fun z=>nomatch z) h
 |bl y=>cases(show u=Value.bool y from rx);exact PySem.W.kia_one PySem.W.kitx_bool I.kIn True.intro e (fun z=>nomatch z) h
 |int i=>obtain⟨t,q⟩:=(show ∃ t,u=Value.int i t from rx);cases q;exact PySem.W.kia_one PySem.W.kitx_int I.kIn True.intro e (fun z=>nomatch z) h
 |str y=>obtain⟨t,q⟩:=(show ∃ t,u=Value.str y t from rx);cases q;exact PySem.W.kia_one PySem.W.kitx_str I.kIn True.intro e (fun z=>nomatch z) h
 |flt y=>obtain⟨t,q⟩:=(show ∃ t,u=Value.float y t from rx);cases q;exact PySem.W.kia_one PySem.W.kitx_float I.kIn True.intro e (fun z=>nomatch z) h
 | @lst a xs ea =>
  cases(show u=Value.ref a from rx)
  obtain⟨_,_,n,_,h1⟩:=(show ObjOk X.prog X.w H s.heap a (.lst xs)from I.hok a _ ea)
  exact PySem.W.kia_one PySem.W.kitx_list I.kIn ⟨_,h1,rfl⟩ e (fun z=>nomatch z) h
 | @frz a ob xs ea =>
  cases(show u=Value.ref a from rx)
  obtain⟨_,_,_,n,_,h1⟩:=(show ObjOk X.prog X.w H s.heap a (.frz ob (.lst xs))from I.hok a _ ea)
  exact PySem.W.kia_one PySem.W.kitx_list I.kIn ⟨_,h1,rfl⟩ e (fun z=>nomatch z) h
 | @tup a xs ea =>
  cases(show u=Value.ref a from rx)
  obtain⟨_,_,_,p⟩:=(show ObjOk X.prog X.w H s.heap a (.tup xs)from I.hok a _ ea)
  obtain⟨o,h1,h2,_⟩:=p
  exact PySem.W.kia_one PySem.W.kitx_tuple I.kIn ⟨o,h1,h2⟩ e (fun z=>nomatch z) h
 | @dK a kvs ea =>
  cases(show u=Value.ref a from rx)
  obtain⟨_,_,vs,_,p⟩:=(show ObjOk X.prog X.w H s.heap a (.dK kvs)from I.hok a _ ea)
  obtain⟨o,es,ep,h1,h2,_⟩:=p
  exact PySem.W.kia_one PySem.W.kitx_dict I.kIn ⟨o,h1,h2.1⟩ e (fun z=>nomatch z) h
 | @dT a kvs ea =>
  cases(show u=Value.ref a from rx)
  obtain⟨_,_,xs,_,o,es,ep,h1,h2,_⟩:=(show ObjOk X.prog X.w H s.heap a (.dT kvs)from I.hok a _ ea)
  exact PySem.W.kia_one PySem.W.kitx_dict I.kIn ⟨o,h1,h2.1⟩ e (fun z=>nomatch z) h
 | @ins a C dx fs ea cl ha hn htk hm =>
  cases(show u=Value.ref a from rx)
  obtain⟨mA,O,_⟩:=ins_get I.hok ea
  obtain⟨od,J,_⟩:=O.look
  exact PySem.W.kia_one (PySem.W.kitx_own (cl.get _) cl.hd ha hn htk hm) I.kIn J e (fun z=>nomatch z) h
end
open PySem PySem.Spec PyProof.Rows
theorem deep_gd{A:Around}{env:Env}(h:A.guards=some []):(A.deeper env).guards=some []:=by
 first | exact h | simp[Around.deeper,h]
structure Room(k:Nat)(A:Around):Prop where
 hd:A.handled=none
 dp:A.depth+3 * k+5<recursionLimit
 un:A.units+16 * k+200<cLine
 gd:A.guards=some []
theorem Room.mono{j k:Nat}{A:Around}(r:Room k A)(h:j<=k):Room j A:=⟨r.hd,by have:=r.dp;lia,by have:=r.un;lia,r.gd⟩
theorem Room.deeper{k:Nat}{A:Around}(r:Room (k+1) A)(env:Env):Room k (A.deeper env) :=
 ⟨r.hd,by have:=r.dp;show A.depth+1+3 * k+5<_;lia,by have:=r.un;show A.units+3+16 * k+200<_;lia,deep_gd r.gd⟩
theorem Room.in1{k:Nat}{A:Around}(r:Room (k+1) A):Room k A.in1 :=
 ⟨r.hd,by have:=r.dp;show A.depth+3 * k+5<_;lia,by have:=r.un;show A.units+1+16 * k+200<_;lia,r.gd⟩
theorem Room.depth{k:Nat}{A:Around}(r:Room k A):A.depth<recursionLimit:=by have:=r.dp;lia
theorem Room.units{k:Nat}{A:Around}(r:Room k A):A.units+64<cLine:=by have:=r.un;lia
theorem Room.units0{k:Nat}{A:Around}(r:Room k A):A.units<cLine:=by have:=r.un;lia
noncomputable def tNil:TA:=fun _ H Q=>Q [] H
noncomputable def tCons(ta:TE)(tr:TA):TA:=fun σ H Q=>ta σ H fun x H1=>tr σ H1 fun xs H2=>Q (x :: xs) H2
section
variable{X:Cx}{e:Expr}{es:List Expr}{te:TE}{t:TA}{pos:Pos}
theorem pa_nil:PA X [] tNil:=fun _ _ _ _ H Q I h=>Calls.spliced_nil ⟨[],H,I,.nil,h⟩
theorem pa_cons(ha:PE X e te)(hr:PA X es t)(hs:starEach (e :: es) X.env=(false,eval e X.env) :: starEach es X.env:=by rfl):PA X (e :: es) (tCons te t):=by
 intro pos pins s σ H Q I h
 rw[hs]
 show wpAny _ _ (spliced ((false,eval e X.env) :: backTo pos (starEach es X.env))) _ _ s
 refine Calls.spliced_cons (thn (ha pins s σ H _ I h) fun u s1 ⟨x,H1,I1,r1,q1⟩=>?_)
 exact thn (hr pos pins s1 σ H1 _ I1 q1) fun us s2 ⟨xs,H2,I2,r2,q2⟩=>⟨x :: xs,H2,I2,.cons r1 r2,q2⟩
noncomputable def tTup(t:TA):TE:=fun σ H Q=>t σ H fun xs H1=>xs.length<=sizeLine/\∀ p,H1 p=none->Q (.ref p) (upd H1 p (.tup xs))
noncomputable def tLst(t:TA):TE:=fun σ H Q=>t σ H fun xs H1=>xs.length<=sizeLine/\∀ p,H1 p=none->Q (.ref p) (upd H1 p (.lst xs))
theorem pe_tup{x1}(h:PA X es t):PE X (.Tuple es x1 pos) (tTup t):=by
 intro pins s σ H Q I hq
 refine wpAny_Tuple_spliced (thn (h pos pins s σ H _ I hq) fun us s1 ⟨xs,H1,I1,r,z,q⟩=>⟨by rw[<- r.length];exact z,?_⟩)
 have hf:H1 s1.heap.objs.size=none:=I1.hok.fresh (Nat.le_refl _)
 refine⟨.ref s1.heap.objs.size,upd H1 s1.heap.objs.size (.tup xs),I1.laid (t':=s1.toks) (fun b u e=>Heap.get?_push_of_some _ e) (Nat.le_refl _) ?_,rfl,q _ hf⟩
 exact⟨z,us,r,⟨_,Heap.get?_push_size _ rfl,rfl,_,rfl⟩⟩
theorem pe_lst(h:PA X es t):PE X (.List es pos) (tLst t):=by
 intro pins s σ H Q I hq
 refine wpAny_List_spliced (thn (h pos pins s σ H _ I hq) fun us s1 ⟨xs,H1,I1,r,z,q⟩=>⟨by rw[<- r.length];exact z,?_⟩)
 have hf:H1 s1.heap.objs.size=none:=I1.hok.fresh (Nat.le_refl _)
 refine⟨.ref s1.heap.objs.size,upd H1 s1.heap.objs.size (.lst xs),I1.laid (t':=s1.toks) (fun b u e=>Heap.get?_push_of_some _ e) (Nat.le_refl _) ?_,rfl,q _ hf⟩
 exact⟨z,us,0,r,Heap.get?_push_size _ rfl⟩
end
noncomputable abbrev Sp:=List V->Hp->VK->XK->Prop
noncomputable abbrev CXT:=List Env->Hp->Shared->XK->Value->Shared->Prop
structure Env0(P:Program)(w:World)(K:PySem.W.Frag)(mg:Str->Option Value)(base:Heap)(A:Around)(outer:List Env)(s:Shared)(H:Hp):Prop where
 frames:A.frames=some outer
 mod:Mod K mg base
 bs:∀ b o,base.get? b=some o->s.heap.get? b=some o/\H b=none
 bsz:base.objs.size<=s.heap.objs.size
 funs:s.heap.FunFrames base outer
 frf:∀ b∈frs outer,H b=none
 hok:HOk P w H s.heap
 bare:AllBare s.gens
noncomputable def CE(outer:List Env)(P:Program)(w:World)(H:Hp)(s:Shared)(Q:VK)(u:Value)(s':Shared):Prop :=
 ∃ v H',s'.os=s.os/\AllBare s'.gens/\Un (frs outer) [] H H' s.heap s'.heap/\HOk P w H' s'.heap/\RelV v u/\Q v H'
noncomputable def CR(CX:CXT)(outer:List Env)(P:Program)(w:World)(H:Hp)(s:Shared)(Q:VK)(E:XK)(r:Result)(s':Shared):Prop :=
 match r with
 | .ok (.ret u)=>CE outer P w H s Q u s'
 | .ok _=>False
 | .error e=>CX outer H s E e s'
structure FnOk(P:Program)(w:World)(K:PySem.W.Frag)(mg:Str->Option Value)(base:Heap)(CX:CXT)(k:Nat)(f:Addr)(fd:FuncData)(ps:List Str)(sp:Sp):Prop where
 len:∀ vs H Q E,sp vs H Q E->vs.length=ps.length
 run:∀ (A:Around) (outer:List Env) (s:Shared) (H:Hp) (args:Args) (us:List Value) (vs:List V) (Q:VK) (E:XK),Room k A->Env0 P w K mg base A outer s H->BindsTo s fd args (ps.zip us)->Vals vs us->sp vs H Q E ->
  codeAny (model P w) A (.call (.ref f) args) (CR CX outer P w H s Q E) s
section
variable{X:Cx}{pins:List (Addr×Obj)}{σ:St}{H:Hp}{s s':Shared}
theorem Inv.env0(I:Inv X pins σ H s):Env0 X.prog X.w X.K X.mg X.base X.A X.stack s H :=
 ⟨I.ok.frames,I.ok.mod,I.bs,Nat.le_trans I.ok.bsz I.sz,I.stack,I.stkFree,I.hok,I.bare⟩
theorem Inv.after{Q:VK}{u:Value}(I:Inv X pins σ H s)(h:CE X.stack X.prog X.w H s Q u s'):EP X pins σ Q u s':=by
 obtain⟨v,H',os,bare,un,hok,r,q⟩:=h
 obtain⟨hh,g,d,t,os'⟩:=s'
 obtain rfl:os'=s.os:=os
 exact⟨v,H',I.call (h':=hh) (g':=g) (d':=d) (t':=t) (ch:=[]) un hok bare (fun b z=>absurd z (by simp)),r,q⟩
end
noncomputable def tCall(sp:Sp)(dvs:List V)(E:XK)(t:TA):TE:=fun σ H Q=>t σ H fun vs H1=>sp (vs++dvs) H1 Q E
noncomputable def Binds(K:PySem.W.Frag)(fd:FuncData)(ps:List Str)(ds:List Value):Prop :=
 ∀ (s:Shared) (us:List Value),K.In s.heap->(us++ds).length=ps.length->BindsTo s fd ⟨us,[]⟩ (ps.zip (us++ds))
theorem Binds.all{K:PySem.W.Frag}{fd:FuncData}{ps:List Str}(h:∀ us:List Value,us.length=ps.length->bindArgs fd ⟨us,[]⟩=pure (ps.zip us)):Binds K fd ps []:=fun s us _ hl=>by
 rw[List.append_nil]at hl ⊢
 exact .of_eq (h us hl)
noncomputable def Passes(CX:CXT)(X:Cx)(E:XK):Prop:=∀ (pins:List (Addr×Obj)) (σ:St) (H:Hp) (s:Shared) (e:Value) (s':Shared),Inv X pins σ H s->CX X.stack H s E e s'->X.xe e s'
section
variable{X:Cx}{CX:CXT}{k:Nat}{f C:Addr}{fd:FuncData}{ps:List Str}{sp:Sp}{dvs:List V}{ds:List Value}{E:XK}{x m:Str}{p pos apos:Pos}{e o:Expr}{es:List Expr}{ta:TE}{t:TA}
theorem run_fn{pins:List (Addr×Obj)}{σ:St}{H:Hp}{s:Shared}{Q:VK}{us:List Value}{vs:List V}(F:FnOk X.prog X.w X.K X.mg X.base CX k f fd ps sp)(hr:Room k X.A)(hb:Binds X.K fd ps ds)(hd:Vals dvs ds)(hx:Passes CX X E)
  (I:Inv X pins σ H s) (r:Vals vs us) (h:sp (vs++dvs) H Q E):wpAny (model X.prog X.w) X.A (call (.ref f) us) (EP X pins σ Q) X.xe s:=by
 have r2:Vals (vs++dvs) (us++ds):=r.append hd
 have hl:(us++ds).length=ps.length:=by rw[<- r2.length];exact F.len _ _ _ _ h
 refine wpAny_call (codeAny_mono (F.run X.A X.stack s H ⟨us,[]⟩ (us++ds) (vs++dvs) Q E hr I.env0 (hb s us I.kIn hl) r2 h) fun r s' hq=>?_)
 cases r with
 |error e=>exact hx pins σ H s e s' I hq
 |ok fl =>
  cases fl with
  |ret u=>exact I.after hq
  |next=>exact False.elim hq
  |brk=>exact False.elim hq
  |cont=>exact False.elim hq
theorem pe_call(F:FnOk X.prog X.w X.K X.mg X.base CX k f fd ps sp)(hr:Room k X.A)(hg:Gl X x)(hm:X.mg x=some (.ref f))(hk:PySem.W.keepIn X.K (.ref f)=true)(hb:Binds X.K fd ps ds)(hd:Vals dvs ds)(hx:Passes CX X E)
  (ha:PA X (e :: es) t) (hdb:(x ==("__debug__":Str))=false:=by decide) (he:starEach (e :: es) X.env=(false,eval e X.env) :: starEach es X.env:=by rfl) (hpl:(backTo pos (starEach es X.env)).any (·.1)=false:=by rfl) :
  PE X (.Call (.Name x p) (e :: es) [] pos) (tCall sp dvs E t):=by
 intro pins s σ H Q I h
 refine wpAny_Call_Name_kw (ld_glob I hg hm ?_ hdb)
 refine PySem.W.callWith_K (h₀:=X.base) I.ok.mod.kin hk (thn (ha pos pins s σ H _ I h) fun us s1 ⟨vs,H1,I1,r,q⟩=>⟨I1.kIn,?_⟩) he hpl
 exact run_fn F hr hb hd hx I1 r q
end
structure FnScope(N P:List Str)(sc:Scope):Prop where
 kind:sc.kind = .function
 co:sc.isCoroutine=false
 gen:sc.isGenerator=false
 nd:N.Nodup
 pre:N.take P.length=P
 par:∀ x∈P,sc.names.lookup x=some .local\/sc.names.lookup x=some .cell
 nofree:∀ y∈sc.names,y.2≠.free
theorem bindL_out{kindOf:Str->Option NameKind}{x:Str}:∀ {binds:List (Str×Value)}{m:Str->Option Value},(∀ v,(x,v)∉binds)->bindL kindOf binds m x=m x
 |[],_,_=>rfl
 |(n,v) :: r,m,h=>by
  unfold bindL
  rw[bindL_out fun w hw=>h w (List.mem_cons_of_mem _ hw)]
  split
  ·have:x≠n:=by rintro rfl;exact h v List.mem_cons_self
   simp[this]
  ·rfl
theorem bindC_out{kindOf:Str->Option NameKind}{x:Str}:∀ {binds:List (Str×Value)}{m:Str->Option Value},(∀ v,(x,v)∉binds)->bindC kindOf binds m x=m x
 |[],_,_=>rfl
 |(n,v) :: r,m,h=>by
  unfold bindC
  rw[bindC_out fun w hw=>h w (List.mem_cons_of_mem _ hw)]
  split
  ·rfl
  ·have:x≠n:=by rintro rfl;exact h v List.mem_cons_self
   simp[this]
theorem bindL_get{kindOf:Str->Option NameKind}{x:Str}{v:Value}:∀ {P:List Str}{vs:List Value}{i:Nat}{m:Str->Option Value},P.Nodup->P[i]?=some x->vs[i]?=some v->kindOf x=some .local ->
  bindL kindOf (P.zip vs) m x=some v
 |[],_,_,_,_,h,_,_=>by simp at h
 | _ :: _,[],_,_,_,_,h,_=>by simp at h
 |p :: P,w :: vs,0,m,nd,h1,h2,hk=>by
  simp at h1 h2;subst h1;subst h2
  show bindL kindOf ((p,w) :: P.zip vs) m p=_
  unfold bindL
  rw[bindL_out fun v hv=>(List.nodup_cons.mp nd).1 (List.of_mem_zip hv).1,if_pos hk]
  simp
 |p :: P,w :: vs,i+1,m,nd,h1,h2,hk=>by
  show bindL kindOf ((p,w) :: P.zip vs) m x=_
  unfold bindL
  exact bindL_get (i:=i) (List.nodup_cons.mp nd).2 (by simpa using h1) (by simpa using h2) hk
theorem bindC_get{kindOf:Str->Option NameKind}{x:Str}{v:Value}:∀ {P:List Str}{vs:List Value}{i:Nat}{m:Str->Option Value},P.Nodup->P[i]?=some x->vs[i]?=some v->kindOf x≠some .local ->
  bindC kindOf (P.zip vs) m x=some v
 |[],_,_,_,_,h,_,_=>by simp at h
 | _ :: _,[],_,_,_,_,h,_=>by simp at h
 |p :: P,w :: vs,0,m,nd,h1,h2,hk=>by
  simp at h1 h2;subst h1;subst h2
  show bindC kindOf ((p,w) :: P.zip vs) m p=_
  unfold bindC
  rw[bindC_out fun v hv=>(List.nodup_cons.mp nd).1 (List.of_mem_zip hv).1,if_neg hk]
  simp
 |p :: P,w :: vs,i+1,m,nd,h1,h2,hk=>by
  show bindC kindOf ((p,w) :: P.zip vs) m x=_
  unfold bindC
  exact bindC_get (i:=i) (List.nodup_cons.mp nd).2 (by simpa using h1) (by simpa using h2) hk
noncomputable def start(N:List Str)(vs:List V):St:=vs.map some++List.replicate (N.length-vs.length) none
noncomputable def cxOf(CX:CXT)(P:Program)(w:World)(K:PySem.W.Frag)(mg:Str->Option Value)(base:Heap)(N:List Str)(qual:Str)(scope:Scope)(f:Addr)(cd:Value)(A:Around)(outer:List Env)(s:Shared)(H:Hp)(E:XK):Cx where
 prog:=P
 w:=w
 K:=K
 mg:=mg
 base:=base
 A:=A.deeper (envOfC qual scope s.heap.objs.size f cd)
 N:=N
 s₀:=s
 H₀:=H
 env:=envOfC qual scope s.heap.objs.size f cd
 outer:=outer
 stack:=envOfC qual scope s.heap.objs.size f cd :: outer
 ex:=[]
 calm:=true
 fn:=fun _=>true
 pn:=[]
 xe:=fun e s'=>wpAny (model P w) (A.deeper (envOfC qual scope s.heap.objs.size f cd)) (leaving (envOfC qual scope s.heap.objs.size f cd) e) (fun _ s''=>CX outer H s E e s'') (fun e' s''=>CX outer H s E e' s'') s'
theorem cell_has{sc:Scope}{n:Nat}{x:Str}(h:sc.names.lookup x=some .cell):∃ c,(cellsFrom n sc.names []).lookup x=some c:=by
 have q:=PySem.W.cellsFrom_some sc.names n [] (.inl h)
 exact Option.isSome_iff_exists.mp q
theorem inv_start{CX:CXT}{P:Program}{w:World}{K:PySem.W.Frag}{mg:Str->Option Value}{base:Heap}{N ps:List Str}{qual:Str}{scope:Scope}{f:Addr}{cd:Value}{A:Around}{outer:List Env}{s s1:Shared}{H:Hp}{E:XK}{us:List Value}{vs:List V}
  (S:FnScope N ps scope) (hd:A.handled=none) (e0:Env0 P w K mg base A outer s H) (hl:vs.length=ps.length) (r:Vals vs us)
  (x:InCallC s s.heap.objs.size (bindL (envOfC qual scope s.heap.objs.size f cd).kindOf (ps.zip us) fun _=>none) (cellsFrom (s.heap.objs.size+1) scope.names []) (bindC (envOfC qual scope s.heap.objs.size f cd).kindOf (ps.zip us) fun _=>none) s1) :
  Inv (cxOf CX P w K mg base N qual scope f cd A outer s H E) [] (start N vs) H s1:=by
 have hpl:ps.length<=N.length:=by have:=congrArg List.length S.pre;rw[List.length_take]at this;lia
 obtain⟨h1,tk,rfl,hk⟩:=x.done
 have noA:∀ b:Addr,b∉(cxOf CX P w K mg base N qual scope f cd A outer s H E).ex:=fun b z=>absurd (show b∈([]:List Addr)from z) (by simp)
 refine⟨⟨e0.mod,S.kind,rfl,rfl,Nat.le_refl _,fun y z c h1 h2=>?_,fun y hy=>?_,fun y c _ h=>?_,fun _=>hd,Around.frames_deeper e0.frames,.inr ⟨rfl,rfl⟩,fun b z=>absurd z (noA b),e0.bs,e0.bsz,fun b _ _=>noA b,fun b z=>absurd z (noA b),e0.funs,e0.frf⟩,
  rfl,e0.bare,Un.kept hk,⟨_,x.toInCall.ns,fun i y v h1 h2 h3=>?_⟩,fun y c h=>⟨_,x.cell y c h⟩,e0.hok.fresh (Nat.le_refl _),fun y c h=>?_,fun p hp=>absurd (show p∈([]:List (Addr×Obj))from hp) (by simp),e0.hok.kept hk,?_⟩
 ·exact name_of_addr x.apart (PySem.mem_of_lookup h1) (PySem.mem_of_lookup h2)
 ·have hy:scope.names.lookup y=some .cell\/scope.names.lookup y=some .free:=hy
  rcases hy with hy | hy
  ·exact cell_has hy
  ·exact absurd rfl (S.nofree _ (PySem.mem_of_lookup hy))
 ·exact Nat.le_of_lt (x.above y c (PySem.mem_of_lookup h))
 ·have hi:i<vs.length:=by
   unfold start at h2
   by_cases hi:i<vs.length
   ·exact hi
   ·rw[List.getElem?_append_right (by simpa using hi)]at h2
    rw[List.getElem?_replicate]at h2
    split at h2 <;> cases h2
  have ha:vs[i]?=some v:=by
   unfold start at h2
   rw[List.getElem?_append_left (by simpa using hi),List.getElem?_map]at h2
   cases e:vs[i]? with
   |none=>rw[e]at h2;cases h2
   |some a=>rw[e]at h2;cases h2;rfl
  obtain⟨u,hu,rv⟩:=r.get ha
  have hp:ps[i]?=some y:=by
   rw[<- S.pre,List.getElem?_take_of_lt (by lia)];exact h1
  have ndP:ps.Nodup:=by rw[<- S.pre];exact S.nd.sublist (List.take_sublist _ _)
  refine⟨u,rv,?_⟩
  rcases S.par y (List.mem_of_getElem? hp)with k | k
  ·exact .inl ⟨k,bindL_get ndP hp hu k⟩
  ·obtain⟨c,e⟩:=cell_has (n:=s.heap.objs.size+1) k
   refine .inr ⟨.inl k,c,e,?_⟩
   have q:=x.cell y c e
   rw[bindC_get ndP hp hu (by show scope.names.lookup y≠_;rw[k];decide)]at q
   exact q
 ·exact e0.hok.fresh (Nat.le_of_lt (x.above y c (PySem.mem_of_lookup h)))
 ·unfold start
  show _=N.length
  rw[List.length_append,List.length_map,List.length_replicate]
  lia
theorem fn_of{CX:CXT}{P:Program}{w:World}{K:PySem.W.Frag}{mg:Str->Option Value}{base:Heap}{k:Nat}{f:Addr}{name qual:Str}{params:Arguments}{body:List Stmt}{scope:Scope}{dV kV doc pm cdv ct oc:Value}{an od:Option Addr}
  {osl:Array (Option Value)}{N ps:List Str}{sp:Sp} (lk:K.lookup f=some ⟨oc,od,.func (PySem.W.fnOf name qual params body scope dV kV doc pm an cdv ct),osl⟩) (hcd:PySem.W.codeIn K cdv qual=true) (S:FnScope N ps scope)
  (len:∀ vs H Q E,sp vs H Q E->vs.length=ps.length)
  (hbody:∀ (A:Around) (outer:List Env) (s:Shared) (H:Hp) (vs:List V) (Q:VK) (E:XK),Room k (A.deeper (envOfC qual scope s.heap.objs.size f cdv))->sp vs H Q E ->
   ∃ t,PSs (cxOf CX P w K mg base N qual scope f cdv A outer s H E) body t/\t { nx:=fun _ H'=>Q .non H',rt:=Q } (start N vs) H) :
  FnOk P w K mg base CX (k+1) f (PySem.W.fnOf name qual params body scope dV kV doc pm an cdv ct) ps sp:=by
 refine⟨len,fun A outer s H args us vs Q E hr e0 hb r hsp=>?_⟩
 have hl:=len _ _ _ _ hsp
 have KX:K.In s.heap:=e0.mod.kin.keeps fun b o e=>(e0.bs b o e).1
 have lim:s.heap.NoLimit:=e0.mod.nolimit.keeps fun b o e=>(e0.bs b o e).1
 have hkind:∀ y∈ps.zip us,scope.names.lookup y.1=some .local\/(scope.names.lookup y.1=some .cell/\((cellsFrom (s.heap.objs.size+1) scope.names []).lookup y.1).isSome=true):=fun⟨n,v⟩ hy=>by
  rcases S.par n (List.of_mem_zip hy).1 with q | q
  ·exact .inl q
  ·exact .inr ⟨q,PySem.W.cellsFrom_some _ _ _ (.inl q)⟩
 refine codeAny_call_function hr.depth (KX _ _ lk) rfl S.co S.gen rfl (PySem.W.codeRec_of KX hcd) (hb _ _ _ _ ?_)
 refine wpAny_newFunctionEnv_cells S.kind hkind fun env he s1 x=>?_
 subst he
 refine⟨lim.keeps x.toInCall.keep,codeAny_func ?_⟩
 obtain⟨t,ht,hq⟩:=hbody A outer s H vs Q E (hr.deeper _) hsp
 have I:Inv (cxOf CX P w K mg base N qual scope f cdv A outer s H E) [] (start N vs) H s1:=inv_start S hr.hd e0 hl r x
 refine wpAny_mono (ht [] s1 (start N vs) H _ I hq) (fun fl s' hs=>?_) fun e s' hs=>hs
 have fin:∀ {σ':St}{H':Hp}{v:V}{u:Value},Inv (cxOf CX P w K mg base N qual scope f cdv A outer s H E) [] σ' H' s'->RelV v u->Q v H'->CE outer P w H s Q u s' :=
  fun {σ' H' v u} J rv q=>⟨v,H',J.os,J.bare,J.base,J.hok,rv,q⟩
 cases fl with
 |ret u =>
  obtain⟨v,σ',H',J,rv,q⟩:=hs
  exact fin J rv q
 |next =>
  obtain⟨σ',H',J,q⟩:=hs
  exact fin (v:=V.non) (u:=Value.none) J rfl q
 |brk =>
  obtain⟨_,_,_,q⟩:=hs
  exact False.elim q
 |cont =>
  obtain⟨_,_,_,q⟩:=hs
  exact False.elim q
open PySem PySem.Spec PyProof.Rows
section
variable{X:Cx}{x:Str}{p pos:Pos}{e:Expr}{es:List Expr}{t:TA}{id T:String}{r:List V->Hp->VK->Prop}
noncomputable def tCB(r:List V->Hp->VK->Prop)(t:TA):TE:=fun σ H Q=>t σ H fun vs H1=>r vs H1 Q
theorem pe_callB(hc:CallR X (.builtin id) r)(hg:Gl X x)(hm:X.mg x=none)(hv:bootBuiltins x=some (.builtin id))(ha:PA X (e :: es) t)(hn:x≠"__name__":=by decide)(hdb:(x ==("__debug__":Str))=false:=by decide)
  (he:starEach (e :: es) X.env=(false,eval e X.env) :: starEach es X.env:=by rfl) (hpl:(backTo pos (starEach es X.env)).any (·.1)=false:=by rfl):PE X (.Call (.Name x p) (e :: es) [] pos) (tCB r t):=by
 intro pins s σ H Q I h
 refine wpAny_Call_Name_kw (ld_blt I hg hm hv ?_ hn hdb)
 exact PyProof.Rows.callWith_builtin1 (thn (ha pos pins s σ H _ I h) fun us s1 ⟨vs,H1,I1,r1,q1⟩=>hc pins s1 σ H1 vs us Q I1 r1 q1) he hpl
theorem pe_callTy(hc:CallR X (.type T) r)(hg:Gl X x)(hm:X.mg x=none)(hv:bootBuiltins x=some (.type T))(ha:PA X (e :: es) t)(hn:x≠"__name__":=by decide)(hdb:(x ==("__debug__":Str))=false:=by decide)
  (he:starEach (e :: es) X.env=(false,eval e X.env) :: starEach es X.env:=by rfl) (hpl:(backTo pos (starEach es X.env)).any (·.1)=false:=by rfl):PE X (.Call (.Name x p) (e :: es) [] pos) (tCB r t):=by
 intro pins s σ H Q I h
 refine wpAny_Call_Name_kw (ld_blt I hg hm hv ?_ hn hdb)
 exact PyProof.Rows.callWith_type1 (thn (ha pos pins s σ H _ I h) fun us s1 ⟨vs,H1,I1,r1,q1⟩=>hc pins s1 σ H1 vs us Q I1 r1 q1) he hpl
end
open PySem PySem.Spec PyProof.Rows
section
variable{κ:Type}[DecidableEq κ]
noncomputable def valV(kvs:List (κ×V))(k:κ):Option V:=(kvs.find? fun kv=>decide (kv.1=k)).map (·.2)
noncomputable def putK(kvs:List (κ×V))(k:κ)(v:V):List (κ×V) :=
 if(kvs.any fun kv=>decide (kv.1=k))=true then kvs.map (fun kv=>if kv.1=k then(kv.1,v)else kv)else kvs++[(k,v)]
theorem valV_nil{k:κ}:valV ([]:List (κ×V)) k=none:=rfl
theorem valV_pos{p:κ×V}{r:List (κ×V)}{k:κ}(e:p.1=k):valV (p :: r) k=some p.2:=by simp[valV,List.find?_cons,e]
theorem valV_neg{p:κ×V}{r:List (κ×V)}{k:κ}(e:¬ p.1=k):valV (p :: r) k=valV r k:=by simp[valV,List.find?_cons,e]
theorem valV_any(k:κ):∀ kvs:List (κ×V),(kvs.any fun kv=>decide (kv.1=k))=(valV kvs k).isSome
 |[]=>rfl
 |p :: r=>by
  rw[List.any_cons]
  by_cases e:p.1=k
  ·simp only[valV_pos e,decide_eq_true e,Bool.true_or,Option.isSome_some]
  ·rw[valV_neg e,decide_eq_false e,Bool.false_or];exact valV_any k r
theorem valV_map(k j:κ)(y:V):∀ kvs:List (κ×V),valV (kvs.map fun kv=>if kv.1=k then(kv.1,y)else kv) j=(valV kvs j).map fun x=>if j=k then y else x
 |[]=>rfl
 |p :: r=>by
  have ih:=valV_map k j y r
  rw[List.map_cons]
  by_cases h:p.1=k
  ·rw[if_pos h]
   by_cases e:p.1=j
   ·rw[valV_pos (p:=(p.1,y)) e,valV_pos e,Option.map_some,if_pos (e.symm.trans h)]
   ·rw[valV_neg (p:=(p.1,y)) e,valV_neg e,ih]
  ·rw[if_neg h]
   by_cases e:p.1=j
   ·rw[valV_pos (p:=p) e,valV_pos e,Option.map_some,if_neg (fun z=>h (e.trans z))]
   ·rw[valV_neg (p:=p) e,valV_neg e,ih]
theorem valV_snoc(k j:κ)(y:V):∀ kvs:List (κ×V),valV kvs k=none->valV (kvs++[(k,y)]) j=if j=k then some y else valV kvs j
 |[],_=>by
  by_cases e:k=j
  ·rw[if_pos e.symm];exact valV_pos (p:=(k,y)) e
  ·rw[if_neg (fun z=>e z.symm)];exact valV_neg (p:=(k,y)) e
 |p :: r,hn=>by
  rw[List.cons_append]
  have hk:¬ p.1=k:=fun z=>by rw[valV_pos z]at hn;cases hn
  rw[valV_neg hk]at hn
  have ih:=valV_snoc k j y r hn
  by_cases e:p.1=j
  ·rw[valV_pos e,valV_pos e,if_neg (fun z=>hk (e.trans z))]
  ·rw[valV_neg e,valV_neg e,ih]
theorem valV_put(kvs:List (κ×V))(k j:κ)(y:V):valV (putK kvs k y) j=if j=k then some y else valV kvs j:=by
 unfold putK
 by_cases a:(kvs.any fun kv=>decide (kv.1=k))=true
 ·rw[if_pos a,valV_map]
  rw[valV_any]at a
  by_cases e:j=k
  ·obtain⟨x,hx⟩:=Option.isSome_iff_exists.mp a
   rw[if_pos e,e,hx,Option.map_some,if_pos rfl]
  ·rw[if_neg e]
   cases valV kvs j with
   |none=>rfl
   |some x=>rw[Option.map_some,if_neg e]
 ·rw[if_neg a]
  refine valV_snoc k j y kvs ?_
  rw[valV_any]at a
  cases q:valV kvs k with
  |none=>rfl
  |some x=>rw[q]at a;exact(a rfl).elim
theorem length_putK(kvs:List (κ×V))(k:κ)(v:V):(putK kvs k v).length<=kvs.length+1:=by
 unfold putK
 split
 ·rw[List.length_map];lia
 ·rw[List.length_append,List.length_cons,List.length_nil];lia
theorem putK_new{kvs:List (κ×V)}{k:κ}(v:V)(h:valV kvs k=none):putK kvs k v=kvs++[(k,v)]:=by
 unfold putK
 rw[valV_any,h]
 exact if_neg (by decide)
theorem RelO.isSome_eq{o:Option V}{u:Option Value}(r:RelO o u):o.isSome=u.isSome:=by
 cases o with
 |none=>cases u with
  |none=>rfl
  |some _=>exact(show False from r).elim
 |some _=>cases u with
  |none=>exact(show False from r).elim
  |some _=>rfl
theorem KV.val{kvs:List (κ×V)}{vs:List (κ×Value)}(r:KV kvs vs)(k:κ):RelO (valV kvs k) (valueAt vs k):=by
 unfold KV at r
 induction r with
 |nil=>exact True.intro
 | @cons p q ps qs h t ih =>
  obtain⟨h1,h2⟩:=h
  by_cases e:p.1=k
  ·have e':q.1=k:=h1.symm.trans e
   have b:valueAt (q :: qs) k=some q.2:=by simp[valueAt,List.find?_cons,e']
   rw[valV_pos e,b];exact h2
  ·have e':¬ q.1=k:=fun z=>e (h1.trans z)
   have b:valueAt (q :: qs) k=valueAt qs k:=by simp[valueAt,List.find?_cons,e']
   rw[valV_neg e,b];exact ih
theorem KV.any{kvs:List (κ×V)}{vs:List (κ×Value)}(r:KV kvs vs)(k:κ):(kvs.any fun kv=>decide (kv.1=k))=vs.any fun kv=>decide (kv.1=k):=by
 unfold KV at r
 induction r with
 |nil=>rfl
 |cons h t ih=>rw[List.any_cons,List.any_cons,ih,h.1]
theorem KV.repl{kvs:List (κ×V)}{vs:List (κ×Value)}(r:KV kvs vs)(k:κ){y:V}{u:Value}(ry:RelV y u) :
  KV (kvs.map fun kv=>if kv.1=k then(kv.1,y)else kv) (vs.map fun kv=>if kv.1=k then(kv.1,u)else kv):=by
 unfold KV at r ⊢
 induction r with
 |nil=>exact .nil
 | @cons p q ps qs h t ih =>
  rw[List.map_cons,List.map_cons]
  refine .cons ?_ ih
  obtain⟨h1,h2⟩:=h
  by_cases e:p.1=k
  ·rw[if_pos e,if_pos (h1.symm.trans e)];exact⟨h1,ry⟩
  ·rw[if_neg e,if_neg (fun z=>e (h1.trans z))];exact⟨h1,h2⟩
theorem KV.put{kvs:List (κ×V)}{vs:List (κ×Value)}(r:KV kvs vs)(k:κ){y:V}{u:Value}(ry:RelV y u):KV (putK kvs k y) (stored vs k u):=by
 unfold putK stored
 rw[r.any k]
 by_cases e:(vs.any fun kv=>decide (kv.1=k))=true
 ·rw[if_pos e,if_pos e];exact r.repl k ry
 ·rw[if_neg e,if_neg e];exact Paired.snoc r ⟨rfl,ry⟩
theorem KV.length{kvs:List (κ×V)}{vs:List (κ×Value)}(r:KV kvs vs):kvs.length=vs.length:=Paired.length r
end
theorem kV_is{P:Program}{w:World}{k:Key}{u:Value}(r:RelV (kV k) u):(mixKind P w).is k u=true:=by
 cases k with
 |inl i=>obtain⟨t,e⟩:=(show ∃ t,u=Value.int i t from r);subst e;exact mixKind_int P w i t
 |inr x=>obtain⟨t,e⟩:=(show ∃ t,u=Value.str x t from r);subst e;exact mixKind_str P w x t
theorem items_are{P:Program}{w:World}:∀ {ks:List Key}{us:List Value},Vals (ks.map kV) us->ItemsAre (mixKind P w) ks us
 |[],_,r=>by rw[List.map_nil]at r;cases r;exact .nil
 |k :: ks,_,r=>by
  rw[List.map_cons]at r
  cases r with
  |cons h t=>exact .cons (kV_is h) (items_are t)
noncomputable abbrev KT(H:Hp):List (List Key×V)->List (List Key×Addr×Value)->Prop:=Paired fun p q=>p.1=q.1/\H q.2.1=some (.tup (p.1.map kV))/\RelV p.2 q.2.2
theorem KT.val{H:Hp}{kvs:List (List Key×V)}{xs:List (List Key×Addr×Value)}(r:KT H kvs xs)(k:List Key):RelO (valV kvs k) ((atKey xs k).map (·.2)):=by
 induction r with
 |nil=>exact True.intro
 | @cons p q ps qs h t ih =>
  obtain⟨h1,_,h2⟩:=h
  by_cases e:p.1=k
  ·have e':q.1=k:=h1.symm.trans e
   have b:atKey (q :: qs) k=some q.2:=by simp[atKey,List.find?_cons,e']
   rw[valV_pos e,b];exact h2
  ·have e':¬ q.1=k:=fun z=>e (h1.trans z)
   have b:atKey (q :: qs) k=atKey qs k:=by simp[atKey,List.find?_cons,e']
   rw[valV_neg e,b];exact ih
theorem KT.repl{H:Hp}{kvs:List (List Key×V)}{xs:List (List Key×Addr×Value)}(r:KT H kvs xs)(k:List Key){y:V}{u:Value}(ry:RelV y u) :
  KT H (kvs.map fun kv=>if kv.1=k then(kv.1,y)else kv) (xs.map (putAt k u)):=by
 induction r with
 |nil=>exact .nil
 | @cons p q ps qs h t ih =>
  rw[List.map_cons,List.map_cons]
  refine .cons ?_ ih
  obtain⟨h1,h2,h3⟩:=h
  unfold putAt
  by_cases e:p.1=k
  ·rw[if_pos e,if_pos (h1.symm.trans e)];exact⟨h1,h2,ry⟩
  ·rw[if_neg e,if_neg (fun z=>e (h1.trans z))];exact⟨h1,h2,h3⟩
theorem KT.put{H:Hp}{kvs:List (List Key×V)}{xs:List (List Key×Addr×Value)}(r:KT H kvs xs)(k:List Key){b:Addr}{y:V}{u:Value}(hb:H b=some (.tup (k.map kV)))(ry:RelV y u) :
  KT H (putK kvs k y) (storedH xs k b u):=by
 have e:(kvs.any fun kv=>decide (kv.1=k))=(atKey xs k).isSome:=by
  rw[valV_any,(r.val k).isSome_eq,Option.isSome_map]
 unfold putK storedH
 rw[e]
 by_cases q:(atKey xs k).isSome=true
 ·rw[if_pos q,if_pos q];exact r.repl k ry
 ·rw[if_neg q,if_neg q];exact Paired.snoc r ⟨rfl,hb,ry⟩
theorem KT.keeps{H H':Hp}{kvs:List (List Key×V)}{xs:List (List Key×Addr×Value)}(r:KT H kvs xs)(ht:∀ b ys,H b=some (.tup ys)->H' b=some (.tup ys)):KT H' kvs xs :=
 Paired.mapP r fun _ _ z=>⟨z.1,ht _ _ z.2.1,z.2.2⟩
section
variable{P:Program}{w:World}{H:Hp}{h:Heap}{a:Addr}
theorem rd_of{u:HO}(ok:HOk P w H h)(e:Rd H a u):ObjOk P w H h a u:=e.ok ok
theorem dk_rd{kvs:List (Key×V)}(ok:HOk P w H h)(e:Rd H a (.dK kvs)):kvs.length<=sizeLine/\(a == sysModules)=false/\∃ vs,KV kvs vs/\h.DictOf (mixKind P w) a vs :=
 show ObjOk P w H h a (.dK kvs)from rd_of ok e
theorem dk_of{kvs:List (Key×V)}(ok:HOk P w H h)(e:H a=some (.dK kvs)):kvs.length<=sizeLine/\(a == sysModules)=false/\∃ vs,KV kvs vs/\h.DictOf (mixKind P w) a vs:=dk_rd ok (.inl e)
theorem key_of{ks:List Key}(ok:HOk P w H h)(e:H a=some (.tup (ks.map kV))):(tupleKind (mixKind P w)).is h ks a:=by
 obtain⟨_,its,r,o,h1,h2,n,h3⟩:=(show ObjOk P w H h a (.tup (ks.map kV))from ok a _ e)
 exact⟨o,its.toArray,n,h1,h2,h3,by simpa using items_are r⟩
theorem dt_rd{kvs:List (List Key×V)}(ok:HOk P w H h)(e:Rd H a (.dT kvs)):kvs.length<=sizeLine/\(a == sysModules)=false /\
  ∃ xs,KT H kvs xs/\h.DictOfH (tupleKind (mixKind P w)) a xs:=by
 obtain⟨z,y,xs,r,o,es,ep,h1,h2,h3,h4,h5⟩:=(show ObjOk P w H h a (.dT kvs)from rd_of ok e)
 refine⟨z,y,xs,r,o,es,ep,h1,h2,h3,h4,fun x hx=>?_,h5⟩
 have all:∀ {l:List (List Key×V)}{m:List (List Key×Addr×Value)},KT H l m->∀ x∈m,(tupleKind (mixKind P w)).is h x.1 x.2.1:=by
  intro l m q
  induction q with
  |nil=>intro x hx;exact nomatch hx
  | @cons p q ps qs hq t ih =>
   intro x hx
   rcases List.mem_cons.mp hx with e | hx
   ·subst e
    exact key_of ok (by rw[<- hq.1];exact hq.2.1)
   ·exact ih x hx
 exact all r x hx
theorem dt_of{kvs:List (List Key×V)}(ok:HOk P w H h)(e:H a=some (.dT kvs)):kvs.length<=sizeLine/\(a == sysModules)=false /\
  ∃ xs,KT H kvs xs/\h.DictOfH (tupleKind (mixKind P w)) a xs:=dt_rd ok (.inl e)
end
noncomputable def DGet(H:Hp)(a:Addr)(y:V)(r:Option V):Prop :=
 (∃ kvs k,Rd H a (.dK kvs)/\y=kV k/\r=valV kvs k)\/∃ kvs k b,Rd H a (.dT kvs)/\y = .ref b/\H b=some (.tup (k.map kV))/\r=valV kvs k
noncomputable def DPut(H:Hp)(a:Addr)(y v:V)(H':Hp):Prop :=
 (∃ kvs k,H a=some (.dK kvs)/\y=kV k/\kvs.length<sizeLine/\H'=upd H a (.dK (putK kvs k v))) \/
 ∃ kvs k b,H a=some (.dT kvs)/\y = .ref b/\H b=some (.tup (k.map kV))/\kvs.length<sizeLine/\H'=upd H a (.dT (putK kvs k v))
theorem DGet.t{H:Hp}{a b:Addr}{kvs:List (List Key×V)}{k:List Key}(e:H a=some (.dT kvs))(eb:H b=some (.tup (k.map kV))):DGet H a (.ref b) (valV kvs k):=.inr ⟨kvs,k,b,.inl e,rfl,eb,rfl⟩
theorem DPut.t{H:Hp}{a b:Addr}{kvs:List (List Key×V)}{k:List Key}{v:V}(e:H a=some (.dT kvs))(eb:H b=some (.tup (k.map kV)))(hl:kvs.length<sizeLine) :
  DPut H a (.ref b) v (upd H a (.dT (putK kvs k v))):=.inr ⟨kvs,k,b,e,rfl,eb,hl,rfl⟩
section
variable{X:Cx}{pins:List (Addr×Obj)}{σ:St}{H:Hp}{s:Shared}{a:Addr}{y v:V}{u r:Value}{o:Option V}{A:Around}{E:Value->Shared->Prop}
theorem Inv.big(I:Inv X pins σ H s):sysModules<s.heap.objs.size:=by
 have h:mainGlobals<s.heap.objs.size:=(I.mod.glob.keeps I.bk).lt
 exact Nat.lt_trans (by decide) h
theorem d_getItem{Q:Value->Shared->Prop}(hu:A.units+1<cLine)(I:Inv X pins σ H s)(g:DGet H a y (some v))(ry:RelV y u)(h:∀ w' s',Inv X pins σ H s'->RelV v w'->Q w' s') :
  wpAny (model X.prog X.w) A (getItem (.ref a) u) Q E s:=by
 rcases g with⟨kvs,k,e,ey,l⟩ |⟨kvs,k,b,e,ey,eb,l⟩
 ·subst ey
  obtain⟨z,hd,vs,rel,dd⟩:=dk_rd I.hok e
  obtain⟨w',hw,rw'⟩:=RelO.some_of (v:=v) (o:=valueAt vs k) (by rw[l];exact rel.val k)
  exact wpAny_getItem_of (kV_is ry) dd.mapOf hw (h w' _ (I.tok _) rw')
 ·subst ey
  cases(show u=Value.ref b from ry)
  obtain⟨z,hd,xs,rel,dd⟩:=dt_rd I.hok e
  obtain⟨w',hw,rw'⟩:=RelO.some_of (v:=v) (o:=(atKey xs k).map (·.2)) (by rw[l];exact rel.val k)
  obtain⟨p,hp,hp2⟩:=Option.map_eq_some_iff.mp hw
  refine wpAny_getItem_heap (tupleKind_room_in1 hu) (key_of I.hok eb) dd hp ?_
  rw[hp2]
  exact h w' _ (I.tok _) rw'
theorem d_notIn{Q:Value->Shared->Prop}(hu:A.units+1<cLine)(I:Inv X pins σ H s)(g:DGet H a y o)(ry:RelV y u)(h:∀ s',Inv X pins σ H s'->Q (.bool (!o.isSome)) s') :
  wpAny (model X.prog X.w) A (compareOp .NotIn u (.ref a)) Q E s:=by
 rcases g with⟨kvs,k,e,ey,l⟩ |⟨kvs,k,b,e,ey,eb,l⟩
 ·subst ey
  obtain⟨z,hd,vs,rel,dd⟩:=dk_rd I.hok e
  refine wpAny_notIn_of (kV_is ry) hd dd.mapOf ?_
  rw[<-(rel.val k).isSome_eq,<- l]
  exact h _ (I.tok _)
 ·subst ey
  cases(show u=Value.ref b from ry)
  obtain⟨z,hd,xs,rel,dd⟩:=dt_rd I.hok e
  refine wpAny_notIn_heap (tupleKind_room_in1 hu) (key_of I.hok eb) hd dd ?_
  have q:=(rel.val k).isSome_eq
  rw[Option.isSome_map]at q
  rw[<- q,<- l]
  exact h _ (I.tok _)
theorem d_write{h':Heap}{t':Nat}{ob:HO}(I:Inv X pins σ H s)(mu:Mut (H a))(hs:Heap.SameBut a s.heap h')(he:∃ q,h'.get? a=some q)(new:ObjOk X.prog X.w (upd H a ob) h' a ob) :
  Inv X pins σ (upd H a ob) { s with heap:=h',toks:=t' } :=
 I.write (x:=a) (e:=a) mu (.inl rfl) (fun b q hb z=>(hs.2 b hb).trans z) he new
theorem dk_new{P:Program}{w:World}{H':Hp}{h':Heap}{kvs:List (Key×V)}{vs:List (Key×Value)}(z:kvs.length<=sizeLine)(hd:(a == sysModules)=false)(rel:KV kvs vs)(dd:h'.DictOf (mixKind P w) a vs) :
  ObjOk P w H' h' a (.dK kvs):=⟨z,hd,vs,rel,dd⟩
theorem d_setItem{H':Hp}{Q:Unit->Shared->Prop}(hu:A.units+1<cLine)(I:Inv X pins σ H s)(g:DPut H a y v H')(ry:RelV y u)(rv:RelV v r)(h:∀ s',Inv X pins σ H' s'->Q () s') :
  wpAny (model X.prog X.w) A (setItem (.ref a) u r) Q E s:=by
 rcases g with⟨kvs,k,e,ey,l,eH⟩ |⟨kvs,k,b,e,ey,eb,l,eH⟩
 ·subst ey eH
  obtain⟨z,hd,vs,rel,dd⟩:=dk_of I.hok e
  have hz:vs.length<=sizeLine:=by rw[<- rel.length];exact z
  have hl:(putK kvs k v).length<=sizeLine:=by have:=length_putK kvs k v;lia
  refine wpAny_setItem_pairs (hsz:=hz) (kV_is ry) dd fun h' dd' hs=>h _ ?_
  have he:∃ q,h'.get? a=some q:=let ⟨q,_,_,hq,_⟩:=dd';⟨q,hq⟩
  exact d_write I (by rw[e];exact True.intro) hs he (dk_new hl hd (rel.put k rv) dd')
 ·subst ey eH
  cases(show u=Value.ref b from ry)
  obtain⟨z,hd,xs,rel,dd⟩:=dt_of I.hok e
  have hz:xs.length<=sizeLine:=by rw[<- Paired.length rel];exact z
  have hl:(putK kvs k v).length<=sizeLine:=by have:=length_putK kvs k v;lia
  refine wpAny_setItem_heap (hsz:=hz) (tupleKind_room_in1 hu) (key_of I.hok eb) dd fun h' dd' hs=>h _ ?_
  obtain⟨q,es,ep,hq,h2,h3,h4,_,h5⟩:=dd'
  refine d_write I (by rw[e];exact True.intro) hs ⟨q,hq⟩ ⟨hl,hd,_,(rel.put k eb rv).keeps fun c ys ec=>?_,q,es,ep,hq,h2,h3,h4,h5⟩
  rw[upd_ne (ne_of ec e (fun z=>nomatch z))]
  exact ec
end
noncomputable def NoSl(i:Expr):Prop:=∀ ov iv,subscripted i false ov iv=operate [ov,iv] (getItem ov iv)
theorem subD_of{prog:Program}{w:World}{A:Around}{E:Value->Shared->Prop}{s:Shared}{env:Env}{value slice:Expr}{pos:Pos}{T id:String}{Q:Value->Shared->Prop}
  (hl:typeLookup (.type T) "__getitem__" = pure (some (.builtin id))) (hs:NoSl slice)
  (h:wpAny (model prog w) A (eval value env) (fun o s₁=>wpAny (model prog w) A (eval slice env) (fun i s₂=>s₂.TypeIs o T/\wpAny (model prog w) A (getItem o i) Q E s₂) E s₁) E s) :
  wpAny (model prog w) A (eval (.Subscript value slice pos) env) Q E s:=by
 refine Subscript_ (wpAny_mono h (fun o s₁ h₁=>wpAny_mono h₁ (fun i s₂ h₂=>?_) fun _ _ x=>x) fun _ _ x=>x)
 obtain⟨hT,h₂⟩:=h₂
 unfold subscriptTail
 refine wpAny_bind ?_
 rw[getitemInPython_of_ne hT.not_modules]
 refine wpAny_bind (wpAny_specialOf hT hl ?_)
 have fin:wpAny (model prog w) A (subscripted slice false o i) (fun r s₃=>wpAny (model prog w) A (letTemporaryGo value o r >>= fun _=>pure r) Q E s₃) E s₂:=by
  rw[hs o i]
  exact wpAny_operating (wpAny_mono h₂ (fun r s₃ h₃=>wpAny_bind (wpAny_letTemporaryGo (wpAny_pure h₃))) fun _ _ x=>x)
 first
  |exact wpAny_pure (wpAny_bind fin)
  |exact wpAny_bind (wpAny_pure (wpAny_bind fin))
  |exact wpAny_bind fin
theorem dict_typeIs{X:Cx}{pins:List (Addr×Obj)}{σ:St}{H:Hp}{s:Shared}{a:Addr}{y:V}{o:Option V}(I:Inv X pins σ H s)(g:DGet H a y o):s.TypeIs (.ref a) "dict":=by
 rcases g with⟨kvs,k,e,_,_⟩ |⟨kvs,k,b,e,_,_,_⟩
 ·obtain⟨_,_,vs,_,dd⟩:=dk_rd I.hok e
  exact dd.typeIs
 ·obtain⟨_,_,xs,_,dd⟩:=dt_rd I.hok e
  exact dd.typeIs
noncomputable def tDGet(td ty:TE):TE:=fun σ H Q=>td σ H fun x H1=>ty σ H1 fun y H2=>∃ a v,x = .ref a/\DGet H2 a y (some v)/\Q v H2
noncomputable def tDNotIn(ty td:TE):TE:=fun σ H Q=>ty σ H fun y H1=>td σ H1 fun x H2=>∃ a o,x = .ref a/\DGet H2 a y o/\Q (.bl (!o.isSome)) H2
noncomputable def sDPut(td ty tv:TE):TS:=fun D σ H=>tv σ H fun v H1=>td σ H1 fun x H2=>ty σ H2 fun y H3=>∃ a H4,x = .ref a/\DPut H3 a y v H4/\D.nx σ H4
section
variable{X:Cx}{o i e value:Expr}{pos pos' tpos:Pos}{td ty tv:TE}
theorem pe_dget(hu:X.A.units+1<cLine)(ho:PE X o td)(hi:PE X i ty)(hs:NoSl i):PE X (.Subscript o i pos) (tDGet td ty):=by
 intro pins s σ H Q I h
 refine subD_of PySem.F.slot_dict_getitem.lookup hs (thn (ho pins s σ H _ I h) fun u s1 ⟨x,H1,I1,rx,q1⟩=>thn (hi pins s1 σ H1 _ I1 q1) fun iv s2 ⟨y,H2,I2,ry,a,v,ex,g,q2⟩=>?_)
 subst ex
 obtain rfl:u=Value.ref a:=rx
 exact⟨dict_typeIs I2 g,d_getItem hu I2 g ry fun w' s3 I3 rw'=>⟨v,H2,I3,rw',q2⟩⟩
theorem pc_dnotin(hu:X.A.units+1<cLine)(hi:PE X i ty)(ho:PE X o td):PC X .NotIn i o (tDNotIn ty td):=by
 intro pins s σ H Q I h
 refine thn (hi pins s σ H _ I h) fun iv s1 ⟨y,H1,I1,ry,q1⟩=>thn (ho pins s1 σ H1 _ I1 q1) fun u s2 ⟨x,H2,I2,rx,a,ov,ex,g,q2⟩=>?_
 subst ex
 obtain rfl:u=Value.ref a:=rx
 exact d_notIn hu I2 g ry fun s3 I3=>⟨.bl (!ov.isSome),H2,I3,rfl,q2⟩
theorem ps_dput(hu:X.A.units+1<cLine)(ho:PE X o td)(hi:PE X i ty)(hv:PE X value tv)(hs:swapsWith value (some (.Subscript o i pos')) pos.line X.env=pure false) :
  PS X (.Assign [.Subscript o i pos'] value pos) (sDPut td ty tv):=by
 intro pins s σ H D I h
 refine wpAny_Assign_Subscript (thn (hv pins s σ H _ I h) fun r s1 ⟨v,H1,I1,rv,q1⟩=>thn (ho pins s1 σ H1 _ I1 q1) fun u s2 ⟨x,H2,I2,rx,q2⟩=>thn (hi pins s2 σ H2 _ I2 q2) fun iv s3 ⟨y,H3,I3,ry,a,H4,ex,g,q3⟩=>?_) hs
 subst ex
 obtain rfl:u=Value.ref a:=rx
 exact d_setItem hu I3 g ry rv fun s4 I4=>⟨σ,H4,I4,q3⟩
end
theorem dt_empty{P:Program}{w:World}{H:Hp}(h:Heap)(hb:sysModules<h.objs.size):ObjOk P w H (h.push { cls:=.type "dict",data:=.dict #[] }) h.objs.size (.dT []) :=
 ⟨Nat.zero_le _,beq_eq_false_iff_ne.mpr (Ne.symm (Nat.ne_of_lt hb)),[],.nil,_,#[],0,Heap.get?_push_size _ rfl,⟨rfl,rfl,rfl⟩,rfl,rfl,List.nodup_nil⟩
noncomputable def tDNewT:TE:=fun _ H Q=>∀ p,H p=none->Q (.ref p) (upd H p (.dT []))
section
variable{X:Cx}{pos:Pos}
theorem pe_dnewT:PE X (.Dict [] [] pos) tDNewT:=fun pins s σ H Q I h =>
 wpAny_Dict_empty ⟨.ref s.heap.objs.size,_,I.laid (a:=s.heap.objs.size) (o:=.dT []) (t':=s.toks) (fun _ _ q=>Heap.get?_push_of_some _ q) (Nat.le_refl _) (dt_empty s.heap I.big),rfl,h _ (I.hok.fresh (Nat.le_refl _))⟩
end
end L2
namespace HT
open PySem PyProof.Rows
section
open PySem.SeqAt
open PySem.AutoSeq1 (wpAny_loadPart')
open PySem.MeetsSeq PySem.MeetsSeq2 PySem.MeetsSeq3
end
section
variable{prog:Program}{w:World}{A:Around}{E:Value->Shared->Prop}{s:Shared}
theorem cat_tup{t b:Addr}{vs ws:List Value}{Q:Value->Shared->Prop}(ht:IsTup s.heap t vs.toArray)(hb:IsTup s.heap b ws.toArray)(hv:vs≠[])
  (h1:ws=[]->Q (.ref t) s) (h2:ws≠[]->Q (.ref s.heap.objs.size) { s with heap:=s.heap.push { cls:=.type "tuple",data:=.seq (vs++ws).toArray } })
  (hsz:vs.length+ws.length<=sizeLine):wpAny (model prog w) A (binaryOp .Add (.ref t) (.ref b)) Q E s:=by
 obtain⟨⟨cls,dd,data,sl⟩,ho,hc,n,hd⟩:=id ht
 obtain⟨⟨cls2,dd2,data2,sl2⟩,ho2,hc2,n2,hd2⟩:=id hb
 simp only at hc hd hc2 hd2
 subst hc hd hc2 hd2
 have e:vs.toArray++ws.toArray=(vs++ws).toArray:=by simp
 by_cases hw:ws=[]
 ·exact concat_meets ⟨_,ho,rfl⟩ ⟨_,ho2,rfl⟩ noFill_tuple_add seq_tuple_add PySem.F.slot_tuple_add PySem.F.entry_tuple_add (PySem.F.args_tuple_add_2 _ _)
   (tuple_addW1 t b vs.toArray ws.toArray n n2 dd dd2 sl sl2 (by simpa using hv) (by simp[hw])) ⟨ho,ho2,h1 hw⟩
 ·refine concat_meets ⟨_,ho,rfl⟩ ⟨_,ho2,rfl⟩ noFill_tuple_add seq_tuple_add PySem.F.slot_tuple_add PySem.F.entry_tuple_add (PySem.F.args_tuple_add_2 _ _)
   (tuple_addW2 t b vs.toArray ws.toArray n n2 dd dd2 sl sl2 (by simpa using hv) (by simpa using hw) (by rw[List.size_toArray,List.size_toArray];exact hsz)) ⟨ho,ho2,?_⟩
  rw[e]
  exact h2 hw
noncomputable def sIx(n d:Nat):Option Int->Nat
 |none=>d
 |some v=>if v<0 then(v+(n:Int)).toNat else min v.toNat n
theorem sIx_none(n d:Nat):sIx n d none=d:=rfl
theorem sIx_nat(n d k:Nat):sIx n d (some (k:Int))=min k n:=by
 show(if(k:Int)<0 then((k:Int)+(n:Int)).toNat else min (k:Int).toNat n)=min k n
 rw[if_neg (by lia),Int.toNat_natCast]
theorem sIx_le(n d:Nat)(hd:d<=n)(o:Option Int):sIx n d o<=n:=by
 cases o with
 |none=>exact hd
 |some v =>
  show(if v<0 then(v+(n:Int)).toNat else min v.toNat n)<=n
  by_cases hv:v<0
  ·rw[if_pos hv];lia
  ·rw[if_neg hv];exact Nat.min_le_right _ _
theorem clip_eq(v:Int)(n d:Nat):(if v<0 then max (v+(n:Int)) 0 else min v (n:Int))=((sIx n d (some v):Nat):Int):=by
 show(if v<0 then max (v+(n:Int)) 0 else min v (n:Int))=(((if v<0 then(v+(n:Int)).toNat else min v.toNat n):Nat):Int)
 by_cases hv:v<0
 ·simp only[if_pos hv];lia
 ·simp only[if_neg hv];lia
theorem adjust_gen(lo hi:Option Int)(n:Nat):Builtin.Slice.sliceAdjust lo hi 1 (n:Int)=(((sIx n 0 lo:Nat):Int),((sIx n n hi:Nat):Int)):=by
 have h1:¬((1:Int)<0):=by lia
 unfold Builtin.Slice.sliceAdjust
 simp only[h1,if_false]
 refine Prod.ext ?_ ?_
 ·cases lo with
  |none=>rfl
  |some v=>exact clip_eq v n 0
 ·cases hi with
  |none=>rfl
  |some v=>exact clip_eq v n n
theorem places_gen(i j:Nat):Builtin.Slice.slicePlaces (i:Int) (j:Int) 1=j-i:=by
 unfold Builtin.Slice.slicePlaces
 have h1:(1:Int) > 0:=by lia
 simp only[h1,if_true,Int.ediv_one]
 split <;> lia
theorem slicePart_{v:Value}{o:Option Int}{Q:Option Int->Shared->Prop}(p:IsPart v o)(h:Q o s):wpAny (model prog w) A (Builtin.Slice.slicePartIndex v) Q E s:=by
 cases p with
 |none=>exact slicePart_none h
 |int i t=>exact slicePart_int h
theorem sliceApplied_gen{sl:Addr}{vl vu:Value}{lo hi:Option Int}{n:Nat}{Q:Int×Int×Nat->Shared->Prop}(hs:s.heap.IsSliceOf sl vl vu .none)(pl:IsPart vl lo)(pu:IsPart vu hi)
  (h:Q (((sIx n 0 lo:Nat):Int),1,sIx n n hi-sIx n 0 lo) s):wpAny (model prog w) A (Builtin.Slice.sliceApplied (.ref sl) (pure (n:Int))) Q E s:=by
 obtain⟨os,hos,hcs,hds⟩:=id hs
 unfold Builtin.Slice.sliceApplied Builtin.Slice.sliceFields
 refine wpAny_bind (wpAny_bind (wpAny_field hos hds (x:=vl) rfl (wpAny_bind (wpAny_field hos hds (x:=vu) rfl (wpAny_bind (wpAny_field hos hds (x:=.none) rfl (wpAny_pure ?_)))))))
 refine wpAny_bind (slicePart_none ?_)
 show wpAny _ _ (if((1:Int) == 0)=true then _ else _) _ _ s
 rw[if_neg (by decide)]
 refine wpAny_bind (slicePart_ pl (wpAny_bind (slicePart_ pu (wpAny_bind (wpAny_pure ?_)))))
 show wpAny _ _ (match Builtin.Slice.sliceAdjust lo hi 1 (n:Int)with |(lo,hi)=>pure (lo,(1:Int),Builtin.Slice.slicePlaces lo hi 1)) _ _ s
 rw[adjust_gen lo hi n]
 show wpAny _ _ (pure (((sIx n 0 lo:Nat):Int),(1:Int),Builtin.Slice.slicePlaces ((sIx n 0 lo:Nat):Int) ((sIx n n hi:Nat):Int) 1)) _ _ s
 rw[places_gen]
 exact wpAny_pure h
theorem pick_gen(xs:Array Value)(i k:Nat):((List.range k).filterMap fun(m:Nat)=>xs[((i:Int)+(m:Int) * 1).toNat]?).toArray=((xs.toList.drop i).take k).toArray:=by
 have e:(fun(m:Nat)=>xs[((i:Int)+(m:Int) * 1).toNat]?)=fun m=>xs[i+m]?:=by
  funext m
  have:((i:Int)+(m:Int) * 1).toNat=i+m:=by lia
  rw[this]
 rw[e]
 have:=pick_run xs i k
 rw[List.filterMap_map]at this
 have e2:((fun x=>xs[x]?) ∘ fun x=>i+x)=fun m=>xs[i+m]?:=rfl
 rw[e2]at this
 rw[this]
theorem getItem_tuple_cut{t sl:Addr}{items:Array Value}{vl vu:Value}{lo hi:Option Int}{Q:Value->Shared->Prop}(ht:IsTup s.heap t items)(hs:s.heap.IsSliceOf sl vl vu .none)(pl:IsPart vl lo)(pu:IsPart vu hi)
  (hw:¬(sIx items.size 0 lo=0/\sIx items.size items.size hi=items.size))
  (h:Q (.ref s.heap.objs.size) { s with heap:=s.heap.push { cls:=.type "tuple",data:=.seq ((items.toList.drop (sIx items.size 0 lo)).take (sIx items.size items.size hi-sIx items.size 0 lo)).toArray } })
  (hsz:items.size<=sizeLine):wpAny (model prog w) A (getItem (.ref t) (.ref sl)) Q E s:=by
 have htake:sizeOk (.seq ((items.toList.drop (sIx items.size 0 lo)).take (sIx items.size items.size hi-sIx items.size 0 lo)).toArray):=by
  show((items.toList.drop (sIx items.size 0 lo)).take (sIx items.size items.size hi-sIx items.size 0 lo)).toArray.size<=sizeLine
  rw[List.size_toArray,List.length_take,List.length_drop,Array.length_toList]
  omega
 have hj:sIx items.size items.size hi<=items.size:=sIx_le _ _ (Nat.le_refl _) hi
 obtain⟨os,hos,hcs,hds⟩:=id hs
 have hTs:s.TypeIs (.ref sl) "slice":=⟨os,hos,hcs⟩
 unfold getItem
 try with_reducible refine wpAny_holding ?_
 first | refine wpAny_bind (wpAny_pure ?_) | skip
 refine wpAny_bind (wpAny_sequenceKey ht.typeIs (by decide) ?_)
 refine wpAny_bind (wpAny_callSpecial?_slot (name:=Str.ofString "__getitem__") ht.typeIs PyProof.Rows.slot_tuple_getitem
  (wpAny_call_entry PyProof.Rows.slot_tuple_getitem ht.typeIs entry_tuple_getitem ?_ (args_tuple_getitem _ _)))
 show wpAny _ _ (Builtin.Tuple.tupleItemsOf (.ref t) >>= _) _ _ s
 refine wpAny_bind (tupleItemsOf_ ht ?_)
 refine wpAny_bind (wpAny_typeOf hTs ?_)
 rw[if_pos (by decide)]
 refine wpAny_bind (sliceApplied_gen hs pl pu ?_)
 have hno:¬((((sIx items.size 0 lo:Nat):Int) == 0 && (1:Int) == 1 && (sIx items.size items.size hi-sIx items.size 0 lo) == items.size)=true):=by
  intro q
  rw[Bool.and_eq_true,Bool.and_eq_true]at q
  have q1:((sIx items.size 0 lo:Nat):Int)=0:=eq_of_beq q.1.1
  have q2:sIx items.size items.size hi-sIx items.size 0 lo=items.size:=eq_of_beq q.2
  exact hw ⟨by lia,by omega⟩
 show wpAny _ _ (if(((sIx items.size 0 lo:Nat):Int) == 0 && (1:Int) == 1 && (sIx items.size items.size hi-sIx items.size 0 lo) == items.size)=true then _ else _) _ _ s
 rw[if_neg hno,pick_gen]
 first
  |exact wpAny_bind (m:=Builtin.Tuple.tupleExact _) (wpAny_newObj_type (wpAny_pure ⟨_,rfl,wpAny_pure h⟩) htake)
  |exact wpAny_bind (m:=Builtin.Tuple.tupleExact _) (wpAny_newObj_type (wpAny_bind (wpAny_pure (wpAny_pure ⟨_,rfl,wpAny_pure h⟩))) htake)
  |exact wpAny_bind (wpAny_bind (m:=Builtin.Tuple.tupleExact _) (wpAny_newObj_type (wpAny_pure (wpAny_pure ⟨_,rfl,wpAny_pure h⟩)) htake))
  |exact wpAny_bind (wpAny_bind (m:=Builtin.Tuple.tupleExact _) (wpAny_newObj_type (wpAny_pure ⟨_,rfl,wpAny_pure h⟩) htake))
end
end HT
namespace L2
open PySem PySem.Spec PyProof.Rows
noncomputable abbrev TO:=St->Hp->(Option Int->Hp->Prop)->Prop
noncomputable def PO(X:Cx)(e:Option Expr)(t:TO):Prop :=
 ∀ (pins:List (Addr×Obj)) (s:Shared) (σ:St) (H:Hp) (Q:Option Int->Hp->Prop),Inv X pins σ H s->t σ H Q ->
  wpAny (model X.prog X.w) X.A (evalPart e X.env) (fun u s'=>∃ o H',Inv X pins σ H' s'/\IsPart u o/\Q o H') X.xe s
noncomputable def tNoPart:TO:=fun _ H Q=>Q none H
noncomputable def tPart(t:TE):TO:=fun σ H Q=>t σ H fun x H1=>∃ i,x = .int i/\Q (some i) H1
theorem intsAre_of{ns:List Int}:∀ {us:List Value},Vals (ns.map V.int) us->IntsAre us ns:=by
 induction ns with
 |nil=>intro us r;rw[List.map_nil]at r;cases r;exact .nil
 |cons n ns ih =>
  intro us r
  rw[List.map_cons]at r
  cases r with
  |cons r1 r2 =>
   obtain⟨t,e⟩:=r1
   subst e
   exact .cons n t (ih r2)
section
variable{X:Cx}{e:Expr}{te:TE}{lo hi:Option Expr}{tl th:TO}{pos p2:Pos}
theorem po_none:PO X none tNoPart:=by
 intro pins s σ H Q I h
 rw[evalPart_none]
 exact wpAny_pure ⟨none,H,I,.none,h⟩
theorem po_some(h:PE X e te):PO X (some e) (tPart te):=by
 intro pins s σ H Q I hw
 rw[evalPart_some]
 refine thn (h pins s σ H _ I hw) fun u s1 ⟨x,H1,I1,r1,q1⟩=>?_
 obtain⟨i,rfl,q⟩:=q1
 obtain⟨t,rfl⟩:=r1
 exact⟨some i,H1,I1,.int i t,q⟩
noncomputable def SlR(X:Cx)(r:V->Option Int->Option Int->Hp->VK->Prop):Prop :=
 ∀ (pins:List (Addr×Obj)) (s:Shared) (σ:St) (H:Hp) (x:V) (v vl vu:Value) (lo hi:Option Int) (sl:Addr) (Q:VK),Inv X pins σ H s->RelV x v->s.heap.IsSliceOf sl vl vu .none->IsPart vl lo->IsPart vu hi->r x lo hi H Q ->
  ∃ T id,typeLookup (.type T) "__getitem__" = pure (some (.builtin id))/\s.TypeIs v T/\wpAny (model X.prog X.w) X.A (getItem v (.ref sl)) (EP X pins σ Q) X.xe s
noncomputable def tSl(r:V->Option Int->Option Int->Hp->VK->Prop)(te:TE)(tl th:TO):TE:=fun σ H Q=>te σ H fun x H1=>tl σ H1 fun l H2=>th σ H2 fun u H3=>r x l u H3 Q
theorem pe_slice{r:V->Option Int->Option Int->Hp->VK->Prop}(hr:SlR X r)(he:PE X e te)(hl:PO X lo tl)(hu:PO X hi th):PE X (.Subscript e (.Slice lo hi none p2) pos) (tSl r te tl th):=by
 intro pins s σ H Q I h
 refine Subscript_ (thn (he pins s σ H _ I h) fun v s1 ⟨x,H1,I1,r1,q1⟩=>?_)
 refine wpAny_Slice (thn (hl pins s1 σ H1 _ I1 q1) fun vl s2 ⟨l,H2,I2,pl,q2⟩=>thn (hu pins s2 σ H2 _ I2 q2) fun vu s3 ⟨u,H3,I3,pu,q3⟩=>?_)
 rw[evalPart_none]
 refine wpAny_pure ?_
 have I4:Inv X pins σ H3 { s3 with heap:=s3.heap.push { cls:=.type "slice",data:=.fields #[vl,vu,.none] } }:=I3.kept (t':=s3.toks) fun b ob q=>Heap.get?_push_of_some _ q
 obtain⟨T,id,hT,ht,hg⟩:=hr pins { s3 with heap:=s3.heap.push { cls:=.type "slice",data:=.fields #[vl,vu,.none] } } σ H3 x v vl vu l u s3.heap.objs.size Q I4 r1 (Heap.IsSliceOf.new ..) pl pu q3
 show wpAny (model X.prog X.w) X.A (subscriptTail e (.Slice lo hi none p2) v (.ref s3.heap.objs.size)) (EP X pins σ Q) X.xe { s3 with heap:=s3.heap.push { cls:=.type "slice",data:=.fields #[vl,vu,.none] } }
 exact tail_any (ops:=[.ref s3.heap.objs.size,v]) ht hT hg (by with_unfolding_all rfl)
noncomputable def cutV(xs:List V)(lo hi:Option Int):List V:=(xs.drop (HT.sIx xs.length 0 lo)).take (HT.sIx xs.length xs.length hi-HT.sIx xs.length 0 lo)
theorem cutV_length(xs:List V)(lo hi:Option Int):(cutV xs lo hi).length<=xs.length:=by
 unfold cutV
 rw[List.length_take,List.length_drop]
 omega
noncomputable def rSlT(K:PySem.W.Frag):V->Option Int->Option Int->Hp->VK->Prop:=fun x lo hi H Q=>∃ a xs,x = .ref a/\SqT K H a xs /\
 ¬(HT.sIx xs.length 0 lo=0/\HT.sIx xs.length xs.length hi=xs.length)/\∀ p,H p=none->Q (.ref p) (upd H p (.tup (cutV xs lo hi)))
theorem sl_tup:SlR X (rSlT X.K):=by
 intro pins s σ H x v vl vu lo hi sl Q I rx hs pl pu h
 obtain⟨a,xs,rfl,hx,hw,q⟩:=h
 cases rx
 obtain⟨its,r,ht,hz⟩:=I.tuple hx
 have hlen:its.toArray.size=xs.length:=by rw[List.size_toArray];exact r.length.symm
 refine⟨"tuple",_,PyProof.Rows.slot_tuple_getitem.lookup,ht.typeIs,?_⟩
 refine HT.getItem_tuple_cut ht hs pl pu (by rw[hlen];exact hw) ?_ (by rw[hlen];exact hz)
 rw[hlen]
 refine⟨.ref s.heap.objs.size,_,I.laid (t':=s.toks) (o:=.tup (cutV xs lo hi)) (fun b ob q=>Heap.get?_push_of_some _ q) (Nat.le_refl _) ?_,rfl,q _ (I.hok.fresh (Nat.le_refl _))⟩
 exact⟨Nat.le_trans (cutV_length xs lo hi) hz,_,(r.drop (HT.sIx xs.length 0 lo)).take (HT.sIx xs.length xs.length hi-HT.sIx xs.length 0 lo),IsTup.new _ _⟩
noncomputable def rCatT(K:PySem.W.Frag):R2:=fun x y H Q=>∃ a b xs ys,x = .ref a/\y = .ref b/\SqT K H a xs/\SqT K H b ys/\xs≠[]/\xs.length+ys.length<=sizeLine /\
 (ys=[]->Q (.ref a) H)/\(ys≠[]->∀ p,H p=none->Q (.ref p) (upd H p (.tup (xs++ys))))
theorem Vals.nil_iff{xs:List V}{us:List Value}(r:Vals xs us):us=[]↔xs=[]:=by
 cases r with
 |nil=>simp
 |cons _ _=>simp
theorem op_catT:OpR X (binaryOp .Add) (rCatT X.K):=by
 intro pins s σ H x y v u Q I rx ry h
 obtain⟨a,b,xs,ys,rfl,rfl,ha,hb,hx,hz,q1,q2⟩:=h
 cases rx
 cases ry
 obtain⟨its,r1,p1,_⟩:=I.tuple ha
 obtain⟨its2,r2,p2,_⟩:=I.tuple hb
 refine HT.cat_tup p1 p2 (fun z=>hx (r1.nil_iff.mp z)) (fun z=>⟨.ref a,H,I,rfl,q1 (r2.nil_iff.mp z)⟩) (fun z=>?_) (by rw[<- r1.length,<- r2.length];exact hz)
 refine⟨.ref s.heap.objs.size,_,I.laid (t':=s.toks) (o:=.tup (xs++ys)) (fun b ob q=>Heap.get?_push_of_some _ q) (Nat.le_refl _) ?_,rfl,q2 (fun w=>z (r2.nil_iff.mpr w)) _ (I.hok.fresh (Nat.le_refl _))⟩
 exact⟨by rw[List.length_append];exact hz,_,r1.append r2,IsTup.new _ _⟩
end
open PySem PySem.Spec PyProof.Rows
noncomputable def ixN(n:Nat)(i:Int):Option Nat:=if 0<=i then(if i<n then some i.toNat else none)else if -(n:Int)<=i then some (i+n).toNat else none
noncomputable def atI{α:Type}(xs:List α)(i:Int):Option α:=(ixN xs.length i).bind fun j=>xs[j]?
theorem ixN_seq{n:Nat}{i:Int}{j:Nat}(h:ixN n i=some j):seqIndex? i n=some j/\j<n/\-(n:Int)<=i/\i<n:=by
 unfold ixN at h
 by_cases h0:0<=i
 ·rw[if_pos h0]at h
  by_cases h1:i<n
  ·rw[if_pos h1]at h
   have e:i.toNat=j:=Option.some.inj h
   exact⟨by rw[seqIndex_of h0 h1,e],by omega,by lia,h1⟩
  ·rw[if_neg h1]at h;cases h
 ·rw[if_neg h0]at h
  by_cases h1:-(n:Int)<=i
  ·rw[if_pos h1]at h
   have e:(i+n).toNat=j:=Option.some.inj h
   exact⟨by rw[seqIndex_neg (by lia) h1,e],by lia,h1,by lia⟩
  ·rw[if_neg h1]at h;cases h
theorem atI_get{α:Type}{xs:List α}{i:Int}{v:α}(h:atI xs i=some v):∃ j,seqIndex? i xs.length=some j/\xs[j]?=some v/\j<xs.length/\-(xs.length:Int)<=i/\i<xs.length:=by
 unfold atI at h
 cases e:ixN xs.length i with
 |none=>rw[e]at h;cases h
 |some j =>
  rw[e]at h
  obtain⟨h1,h2,h3,h4⟩:=ixN_seq e
  exact⟨j,h1,h,h2,h3,h4⟩
theorem atI_nat{α:Type}{xs:List α}{j:Nat}{v:α}(h:xs[j]?=some v):atI xs (j:Int)=some v:=by
 have hj:j<xs.length:=(List.getElem?_eq_some_iff.mp h).1
 have e:ixN xs.length (j:Int)=some j:=by
  unfold ixN
  rw[if_pos (by lia),if_pos (by lia)];simp
 unfold atI;rw[e];exact h
noncomputable def PlainIx(b:Expr):Prop:=∀ o i,subscripted b false o i=operate [o,i] (getItem o i)
noncomputable def IxR(X:Cx)(r:R2):Prop :=
 ∀ (value slice:Expr) (pins:List (Addr×Obj)) (s:Shared) (σ:St) (H:Hp) (x y:V) (v u:Value) (Q:VK),Inv X pins σ H s->RelV x v->RelV y u->r x y H Q ->
  subscripted slice false v u=operate [v,u] (getItem v u)->wpAny (model X.prog X.w) X.A (subscriptTail value slice v u) (EP X pins σ Q) X.xe s
noncomputable def MtR(X:Cx)(id:String)(r:V->List V->Hp->VK->Prop):Prop :=
 ∀ (pins:List (Addr×Obj)) (s:Shared) (σ:St) (H:Hp) (x:V) (xs:List V) (v:Value) (us:List Value) (Q:VK),Inv X pins σ H s->RelV x v->Vals xs us->r x xs H Q ->
  wpAny (model X.prog X.w) X.A (call (.builtin id) (v :: us)) (EP X pins σ Q) X.xe s
section
variable{X:Cx}{a b:Expr}{ta tb:TE}{pos:Pos}
theorem pe_ix{r:R2}(hr:IxR X r)(ha:PE X a ta)(hb:PE X b tb)(hs:PlainIx b):PE X (.Subscript a b pos) (tOp r ta tb):=by
 intro pins s σ H Q I h
 exact Subscript_ (binT ha hb I h fun v u s2 x y H2 I2 rx ry q=>hr a b pins s2 σ H2 x y v u Q I2 rx ry q (hs _ _))
noncomputable def rIxL(K:PySem.W.Frag):R2:=fun x y H Q=>∃ p xs i v,x = .ref p/\y = .int i/\SqL K H p xs/\atI xs i=some v/\Q v H
noncomputable def rIxT(K:PySem.W.Frag):R2:=fun x y H Q=>∃ p xs i v,x = .ref p/\y = .int i/\SqT K H p xs/\atI xs i=some v/\Q v H
theorem ix_list:IxR X (rIxL X.K):=by
 intro value slice pins s σ H x y v u Q I rx ry h hs
 obtain⟨p,xs,i,z,rfl,rfl,hq,he,q⟩:=h
 cases rx
 obtain⟨t,rfl⟩:=ry
 obtain⟨its,r,pl,hz⟩:=I.list hq
 obtain⟨j,h1,h2,h3,h4,h5⟩:=atI_get he
 obtain⟨w,ew,rw'⟩:=r.get h2
 have hl:=r.length
 have hn:=line63
 have fin:EP X pins σ Q w s:=⟨z,H,I,rw',q⟩
 by_cases h0:0<=i
 ·have hj:i.toNat=j:=by
   rw[seqIndex_of h0 h5]at h1
   exact Option.some.inj h1
  exact item_listR pl.isList h0 (by lia) (by rw[hj];simpa using ew) fin hs
 ·have hj:(i+(its.toArray.size:Int)).toNat=j:=by
   rw[seqIndex_neg (by lia) h4]at h1
   rw[List.size_toArray,<- hl]
   exact Option.some.inj h1
  exact subscriptTail_builtinR (x:=w) pl.isList.typeIs slot_list_getitem.lookup
   (wpAny_getItem_list_neg (Q:=fun r s'=>r=w/\EP X pins σ Q r s') pl.isList (by lia) (by rw[List.size_toArray] <;> lia) (by lia) (by rw[hj];simpa using ew) ⟨rfl,fin⟩) hs
theorem ix_tup:IxR X (rIxT X.K):=by
 intro value slice pins s σ H x y v u Q I rx ry h hs
 obtain⟨p,xs,i,z,rfl,rfl,hq,he,q⟩:=h
 cases rx
 obtain⟨t,rfl⟩:=ry
 obtain⟨its,r,pl,hz⟩:=I.tuple hq
 obtain⟨j,h1,h2,h3,h4,h5⟩:=atI_get he
 obtain⟨w,ew,rw'⟩:=r.get h2
 have hl:=r.length
 have hn:=line63
 have fin:EP X pins σ Q w s:=⟨z,H,I,rw',q⟩
 exact subscriptTail_builtinR (x:=w) pl.typeIs slot_tuple_getitem.lookup
  (getItem_tuple (j:=j) (Q:=fun r s'=>r=w/\EP X pins σ Q r s') pl (by lia) (by lia) (by rw[List.size_toArray,<- hl];exact h1) (by simpa using ew) ⟨rfl,fin⟩) hs
theorem mapSeq_set(its:List Value)(n j:Nat)(u:Value):Obj.mapSeq (·.setIfInBounds j u) { cls:=.type "list",data:=.seq its.toArray n } = { cls:=.type "list",data:=.seq (its.set j u).toArray n }:=by
 simp[Obj.mapSeq]
theorem Inv.lst{pins:List (Addr×Obj)}{σ:St}{H:Hp}{s:Shared}{p:Addr}{xs:List V}(I:Inv X pins σ H s)(h:H p=some (.lst xs)) :
  ∃ (its:List Value) (n:Nat),Vals xs its/\s.heap.get? p=some { cls:=.type "list",data:=.seq its.toArray n }/\xs.length<=sizeLine:=by
 obtain⟨z,its,n,r,e⟩:=I.hok p _ h
 exact⟨its,n,r,e,z⟩
theorem Inv.lstUpd{pins:List (Addr×Obj)}{σ:St}{H:Hp}{s:Shared}{p:Addr}{xs ys:List V}{its its':List Value}{n n':Nat}{f:Obj->Obj}(I:Inv X pins σ H s)(h:H p=some (.lst xs))
  (ho:s.heap.get? p=some { cls:=.type "list",data:=.seq its.toArray n }) (hf:f { cls:=.type "list",data:=.seq its.toArray n } = { cls:=.type "list",data:=.seq its'.toArray n' }) (r:Vals ys its') (hz:ys.length<=sizeLine) (t:Nat) :
  Inv X pins σ (upd H p (.lst ys)) { s with heap:=s.heap.update p f,toks:=t }:=by
 have e:(s.heap.update p f).get? p=some { cls:=.type "list",data:=.seq its'.toArray n' }:=by
  rw[Heap.get?_update_self f ho (by rw[hf] <;> rfl),hf]
 refine I.write (x:=p) (e:=p) (by rw[h];trivial) (.inl rfl) (fun b u hb q=>(Heap.get?_update_other _ _ (Ne.symm hb)).trans q) ⟨_,e⟩ ?_
 exact⟨hz,its',n',r,e⟩
noncomputable def rSetL:V->V->V->Hp->(Hp->Prop)->Prop:=fun o i v H Q=>∃ p xs k j,o = .ref p/\i = .int k/\H p=some (.lst xs)/\ixN xs.length k=some j/\Q (upd H p (.lst (xs.set j v)))
theorem set_list:PSet X rSetL:=by
 intro pins s σ H o i v ov iv u Q I ro ri rv h
 obtain⟨p,xs,k,j,rfl,rfl,hp,hj,q⟩:=h
 cases ro
 obtain⟨t,rfl⟩:=ri
 obtain⟨its,n,r,ho,hz⟩:=I.lst hp
 obtain⟨h1,h2,h3,h4⟩:=ixN_seq hj
 have hl:=r.length
 have hn:=line63
 have I':Inv X pins σ (upd H p (.lst (xs.set j v))) { s with heap:=s.heap.update p (Obj.mapSeq (·.setIfInBounds j u)) } :=
  I.lstUpd hp ho (mapSeq_set its n j u) (r.set rv j) (by rw[List.length_set];exact hz) s.toks
 by_cases h0:0<=k
 ·have hk:k.toNat=j:=by
   rw[seqIndex_of h0 h4]at h1
   exact Option.some.inj h1
  exact PySem.W.ki_setAt ho h0 (by lia) (by rw[List.size_toArray,<- hl];exact h4) (by rw[hk];exact⟨_,I',q⟩)
 ·have hk:(k+(its.toArray.size:Int)).toNat=j:=by
   rw[seqIndex_neg (by lia) h3]at h1
   rw[List.size_toArray,<- hl]
   exact Option.some.inj h1
  exact PySem.W.ki_setBack ho (by lia) (by rw[List.size_toArray,<- hl];exact h3) (by lia) (by rw[hk];exact⟨_,I',q⟩)
theorem slice_bounds(lo hi:Option Int)(n:Nat):(sliceBounds lo hi none n).1=((HT.sIx n 0 lo:Nat):Int)/\(sliceBounds lo hi none n).2.1=((HT.sIx n n hi:Nat):Int)/\(sliceBounds lo hi none n).2.2=1:=by
 refine⟨?_,?_,rfl⟩
 ·cases lo with
  |none=>simp[sliceBounds,HT.sIx]
  |some i =>
   simp only[sliceBounds,HT.sIx,Option.getD_none,show(1:Int) > 0 by decide,if_true]
   by_cases h:i<0
   ·simp only[h,if_true] <;> lia
   ·simp only[h,if_false] <;> lia
 ·cases hi with
  |none=>simp[sliceBounds,HT.sIx]
  |some i =>
   simp only[sliceBounds,HT.sIx,Option.getD_none,show(1:Int) > 0 by decide,if_true]
   by_cases h:i<0
   ·simp only[h,if_true] <;> lia
   ·simp only[h,if_false] <;> lia
theorem slicePick_cut(its:List Value)(lo hi:Option Int):slicePick its.toArray lo hi none=((its.drop (HT.sIx its.length 0 lo)).take (HT.sIx its.length its.length hi-HT.sIx its.length 0 lo)).toArray:=by
 obtain⟨h1,h2,h3⟩:=slice_bounds lo hi its.toArray.size
 unfold slicePick
 rw[h1,h2,h3]
 simp only[sliceRange_one,pick_run,List.size_toArray] <;> rfl
noncomputable def rSlL(K:PySem.W.Frag):V->Option Int->Option Int->Hp->VK->Prop:=fun x lo hi H Q=>∃ a xs,x = .ref a/\SqL K H a xs/\∀ p,H p=none->Q (.ref p) (upd H p (.lst (cutV xs lo hi)))
theorem sl_list:SlR X (rSlL X.K):=by
 intro pins s σ H x v vl vu lo hi sl Q I rx hs pl pu h
 obtain⟨a,xs,rfl,hx,q⟩:=h
 cases rx
 obtain⟨its,r,ht,hz⟩:=I.list hx
 have hlen:=r.length
 refine⟨"list",_,slot_list_getitem.lookup,ht.isList.typeIs,?_⟩
 refine wpAny_getItem_list_slice ht.isList hs pl pu .none (by simp) ?_ (by rw[List.size_toArray] <;> lia)
 rw[slicePick_cut,<- hlen]
 refine⟨.ref s.heap.objs.size,_,I.laid (t':=s.toks) (o:=.lst (cutV xs lo hi)) (fun b ob q=>Heap.get?_push_of_some _ q) (Nat.le_refl _) ?_,rfl,q _ (I.hok.fresh (Nat.le_refl _))⟩
 exact⟨Nat.le_trans (cutV_length xs lo hi) hz,_,0,(r.drop (HT.sIx xs.length 0 lo)).take (HT.sIx xs.length xs.length hi-HT.sIx xs.length 0 lo),Heap.get?_push_size _ rfl⟩
noncomputable def flatV:V->Bool
 | .non=>true
 | .bl _=>true
 | .int _=>true
 | .str _=>true
 | _=>false
noncomputable def eqV:V->V->Bool
 | .non,.non=>true
 | .bl a,.bl b=>a == b
 | .bl a,.int b=>(if a then 1 else 0) == b
 | .int a,.bl b=>a ==(if b then 1 else 0)
 | .int a,.int b=>a == b
 | .str a,.str b=>a == b
 | _,_=>false
theorem eqAt_V{A:Around}{s:Shared}{y x:V}{u v:Value}(ry:RelV y u)(rx:RelV x v)(fy:flatV y=true)(fx:flatV x=true):SeqAt.EqAt A s u v (eqV y x):=by
 cases y with
 |non =>
  cases ry
  cases x with
  |non=>cases rx;exact SeqAt.EqAt.same _
  |bl b=>cases rx;exact SeqAt.EqAt.none_bool b
  |int b=>obtain⟨t,rfl⟩:=rx;exact SeqAt.EqAt.none_int b t
  |str b=>obtain⟨t,rfl⟩:=rx;exact SeqAt.EqAt.none_str b t
  | _=>exact absurd (show false=true from fx) Bool.false_ne_true
 |bl a =>
  cases ry
  cases x with
  |non=>cases rx;exact SeqAt.EqAt.bool_none a
  |bl b=>cases rx;exact SeqAt.EqAt.bool_bool a b
  |int b=>obtain⟨t,rfl⟩:=rx;exact SeqAt.EqAt.bool_int a b t
  |str b=>obtain⟨t,rfl⟩:=rx;exact SeqAt.EqAt.bool_str a b t
  | _=>exact absurd (show false=true from fx) Bool.false_ne_true
 |int a =>
  obtain⟨t',rfl⟩:=ry
  cases x with
  |non=>cases rx;exact SeqAt.EqAt.int_none a t'
  |bl b=>cases rx;exact SeqAt.EqAt.int_bool a t' b
  |int b=>obtain⟨t,rfl⟩:=rx;exact SeqAt.EqAt.int_int a t' b t
  |str b=>obtain⟨t,rfl⟩:=rx;exact SeqAt.EqAt.int_str a t' b t
  | _=>exact absurd (show false=true from fx) Bool.false_ne_true
 |str a =>
  obtain⟨t',rfl⟩:=ry
  cases x with
  |non=>cases rx;exact SeqAt.EqAt.str_none a t'
  |bl b=>cases rx;exact SeqAt.EqAt.str_bool a t' b
  |int b=>obtain⟨t,rfl⟩:=rx;exact SeqAt.EqAt.str_int a t' b t
  |str b=>obtain⟨t,rfl⟩:=rx;exact SeqAt.EqAt.str_str a t' b t
  | _=>exact absurd (show false=true from fx) Bool.false_ne_true
 | _=>exact absurd (show false=true from fy) Bool.false_ne_true
noncomputable def eqU(x:V)(u:Value):Bool:=match u with
 | .none=>eqV .non x
 | .bool b=>eqV (.bl b) x
 | .int i _=>eqV (.int i) x
 | .str z _=>eqV (.str z) x
 | _=>false
theorem eqU_of{x y:V}{u:Value}(r:RelV y u)(f:flatV y=true):eqU x u=eqV y x:=by
 cases y with
 |non=>cases r;rfl
 |bl b=>cases r;rfl
 |int i=>obtain⟨t,rfl⟩:=r;rfl
 |str z=>obtain⟨t,rfl⟩:=r;rfl
 | _=>exact absurd (show false=true from f) Bool.false_ne_true
theorem any_eqU{x:V}:∀ {xs:List V}{us:List Value},Vals xs us->xs.all flatV=true->us.any (eqU x)=xs.any fun y=>eqV y x
 | _,_,.nil,_=>rfl
 |y :: xs,u :: us,.cons r t,f=>by
  rw[List.all_cons,Bool.and_eq_true]at f
  rw[List.any_cons,List.any_cons,eqU_of r f.1,any_eqU t f.2]
theorem mem_eqAt{A:Around}{s:Shared}{x:V}{v:Value}(rx:RelV x v)(fx:flatV x=true):∀ {xs:List V}{us:List Value},Vals xs us->xs.all flatV=true->∀ u∈us,SeqAt.EqAt A s u v (eqU x u)
 | _,_,.nil,_=>fun u hu=>by cases hu
 |y :: xs,u :: us,.cons r t,f=>fun u' hu=>by
  rw[List.all_cons,Bool.and_eq_true]at f
  rcases List.mem_cons.mp hu with rfl | hu
  ·rw[eqU_of r f.1];exact eqAt_V r rx f.1 fx
  ·exact mem_eqAt rx fx t f.2 u' hu
noncomputable def inV(x:V)(xs:List V):Bool:=xs.any fun y=>eqV y x
noncomputable def rIn(K:PySem.W.Frag)(neg:Bool):R2:=fun x y H Q=>∃ p xs,y = .ref p/\(SqL K H p xs\/SqT K H p xs)/\flatV x=true/\xs.all flatV=true/\Q (.bl (if neg then !inV x xs else inV x xs)) H
theorem op_in_seq:OpR X (compareOp .In) (rIn X.K false):=by
 intro pins s σ H x y v u Q I rx ry h
 obtain⟨p,xs,rfl,hq,fx,fs,q⟩:=h
 cases ry
 rcases hq with hq | hq
 ·obtain⟨its,r,pl,hz⟩:=I.list hq
  refine SeqAt.in_listAt (eqU x) pl.isList (fun w hw=>mem_eqAt rx fx r fs w (by simpa using hw)) ⟨.bl _,H,I,rfl,?_⟩
  rw[show its.toArray.any (eqU x)=its.any (eqU x) by simp,any_eqU r fs]
  exact q
 ·obtain⟨its,r,pl,hz⟩:=I.tuple hq
  refine SeqAt.in_tupleAt (eqU x) pl (fun w hw=>mem_eqAt rx fx r fs w (by simpa using hw)) ⟨.bl _,H,I,rfl,?_⟩
  rw[show its.toArray.any (eqU x)=its.any (eqU x) by simp,any_eqU r fs]
  exact q
theorem call_len_seq:CallR X (.builtin "len") (fun xs H Q=>∃ p ys,xs=[.ref p]/\(SqL X.K H p ys\/SqT X.K H p ys)/\Q (.int ys.length) H):=by
 intro pins s σ H xs us Q I r h
 obtain⟨p,ys,rfl,hq,q⟩:=h
 obtain⟨u,rfl,rx⟩:=vals1 r
 cases rx
 have hn:=line63
 rcases hq with hq | hq
 ·obtain⟨its,r',pl,hz⟩:=I.list hq
  have hlen:=r'.length
  exact Calls.call_len_list pl.isList (by simp only[List.size_toArray] <;> lia) ⟨.int ys.length,H,I.tok _,⟨s.toks+1,by rw[List.size_toArray,hlen]⟩,q⟩
 ·obtain⟨its,r',pl,hz⟩:=I.tuple hq
  have hlen:=r'.length
  exact len_tuple pl (by simp only[List.size_toArray] <;> lia) ⟨.int ys.length,H,I.tok _,⟨s.toks+1,by rw[List.size_toArray,hlen]⟩,q⟩
theorem call_list_of:CallR X (.type "list") (fun xs H Q=>∃ p ys,xs=[.ref p]/\(SqL X.K H p ys\/SqT X.K H p ys)/\∀ l,H l=none->Q (.ref l) (upd H l (.lst ys))):=by
 intro pins s σ H xs us Q I r h
 obtain⟨p,ys,rfl,hq,q⟩:=h
 obtain⟨u,rfl,rx⟩:=vals1 r
 cases rx
 have fin:∀ (its:List Value),Vals ys its->ys.length<=sizeLine->∀ (h':Heap) (c':Nat),(∀ b o',s.heap.get? b=some o'->h'.get? b=some o') ->
   h'.get? s.heap.objs.size=some { cls:=.type "list",dict:=none,data:=.seq its.toArray c',slots:=#[] }->EP X pins σ Q (.ref s.heap.objs.size) { s with heap:=h' }:=fun its r' hz h' c' kp e =>
  ⟨.ref s.heap.objs.size,_,I.laid (t':=s.toks) kp (Nat.le_refl _) (show ObjOk X.prog X.w _ h' _ (.lst ys)from⟨hz,its,c',r',e⟩),rfl,q _ (I.hok.fresh (Nat.le_refl _))⟩
 rcases hq with hq | hq
 ·obtain⟨its,r',pl,hz⟩:=I.list hq
  have hlen:=r'.length
  obtain⟨o,ho,hc,n,hd⟩:=pl.isList
  exact call_list_seq p (.inl rfl) ho hc hd (fun h' c' kp e=>fin its r' hz h' c' kp e) (by simp only[List.size_toArray] <;> lia)
 ·obtain⟨its,r',pl,hz⟩:=I.tuple hq
  have hlen:=r'.length
  obtain⟨o,ho,hc,n,hd⟩:=pl
  exact call_list_seq p (.inr rfl) ho hc hd (fun h' c' kp e=>fin its r' hz h' c' kp e) (by simp only[List.size_toArray] <;> lia)
theorem call_tuple_of:CallR X (.type "tuple") (fun xs H Q=>∃ p ys,xs=[.ref p]/\((SqL X.K H p ys/\∀ l,H l=none->Q (.ref l) (upd H l (.tup ys)))\/(SqT X.K H p ys/\Q (.ref p) H))):=by
 intro pins s σ H xs us Q I r h
 obtain⟨p,ys,rfl,h⟩:=h
 obtain⟨u,rfl,rx⟩:=vals1 r
 cases rx
 rcases h with⟨hq,q⟩ |⟨hq,q⟩
 ·obtain⟨its,r',pl,hz⟩:=I.list hq
  have hlen:=r'.length
  refine call_tuple_list pl.isList (fun h' kp=>?_) (by simp only[List.size_toArray] <;> lia)
  have I1:Inv X pins σ H { s with heap:=h' }:=I.kept (t':=s.toks) kp
  have I2:Inv X pins σ (upd H h'.objs.size (.tup ys)) { s with heap:=h'.push { cls:=.type "tuple",data:=.seq its.toArray } } :=
   I1.laid (t':=s.toks) (fun b o e=>Heap.get?_push_of_some _ e) (Nat.le_refl _) (show ObjOk X.prog X.w _ _ _ (.tup ys)from⟨hz,its,r',IsTup.new _ _⟩)
  exact⟨.ref h'.objs.size,_,I2,rfl,q _ (I1.hok.fresh (Nat.le_refl _))⟩
 ·obtain⟨its,r',pl,hz⟩:=I.tuple hq
  exact call_tuple_same pl ⟨.ref p,H,I,rfl,q⟩
noncomputable def tyV(K:PySem.W.Frag)(T:String)(x:V)(H:Hp):Prop:=match x with
 | .str _=>T = "str"
 | .int _=>T = "int"
 | .ref p=>(T = "list"/\∃ xs,SqL K H p xs)\/(T = "tuple"/\∃ o,K.lookup p=some o/\o.cls = .type "tuple"/\o.dict=none) \/
   (T = "dict"/\((∃ kvs,H p=some (.dK kvs))\/∃ kvs,H p=some (.dT kvs)))\/(T = "set"/\∃ S n,H p=some (.set S n))
 | _=>False
theorem tyV_is{pins:List (Addr×Obj)}{σ:St}{H:Hp}{s:Shared}{T:String}{x:V}{v:Value}(I:Inv X pins σ H s)(r:RelV x v)(ty:tyV X.K T x H) :
  s.TypeIs v T/\∀ a,v = .ref a->∃ ob,s.heap.get? a=some ob/\ob.dict=none:=by
 cases x with
 |str z =>
  obtain⟨t,rfl⟩:=r
  cases(show T = "str" from ty)
  exact⟨typeIs_str s z t,fun _ e=>nomatch e⟩
 |int i =>
  obtain⟨t,rfl⟩:=r
  cases(show T = "int" from ty)
  exact⟨typeIs_int s i t,fun _ e=>nomatch e⟩
 |ref p =>
  cases r
  rcases ty with⟨rfl,xs,hq⟩ |⟨rfl,o,hk,hc,hd⟩ |⟨rfl,hk⟩ |⟨rfl,S,n,hk⟩
  ·obtain⟨its,_,pl,_⟩:=I.list hq
   refine⟨pl.isList.typeIs,fun a e=>?_⟩
   cases e
   obtain⟨o,n,e,c,hd,_⟩:=pl
   exact⟨o,e,hd⟩
  ·refine⟨⟨o,I.kIn p o hk,hc⟩,fun a e=>?_⟩
   cases e
   exact⟨o,I.kIn _ o hk,hd⟩
  ·have z:∃ o,s.heap.get? p=some o/\o.ExactDict:=by
    rcases hk with⟨kvs,hk⟩ |⟨kvs,hk⟩
    ·obtain⟨_,_,_,_,o,_,_,e,ex,_⟩:=I.hok p _ hk
     exact⟨o,e,ex⟩
    ·obtain⟨_,_,_,_,o,_,_,e,ex,_⟩:=I.hok p _ hk
     exact⟨o,e,ex⟩
   obtain⟨o,e,ex⟩:=z
   refine⟨⟨o,e,ex.1⟩,fun a e2=>?_⟩
   cases e2
   exact⟨o,e,ex.2.1⟩
  ·obtain⟨o,_,_,_,e,ex,_⟩:=I.hok p _ hk
   refine⟨⟨o,e,ex.1⟩,fun a e2=>?_⟩
   cases e2
   exact⟨o,e,ex.2.1⟩
 | _=>exact False.elim ty
noncomputable def tBM0(K:PySem.W.Frag)(T:String)(r:V->List V->Hp->VK->Prop)(to:TE):TE:=fun σ H Q=>to σ H fun x H1=>tyV K T x H1/\r x [] H1 Q
noncomputable def tBM(K:PySem.W.Frag)(T:String)(r:V->List V->Hp->VK->Prop)(to:TE)(t:TA):TE:=fun σ H Q=>to σ H fun x H1=>tyV K T x H1/\t σ H1 fun xs H2=>r x xs H2 Q
variable{o e:Expr}{es:List Expr}{to:TE}{t:TA}{name:Str}{apos cpos:Pos}{T id:String}{r:V->List V->Hp->VK->Prop}
theorem pe_bm0(pa:PlainAttrs T)(slot:Slot T name id)(hty:typeOf (.builtin id)=pure (.type "method_descriptor"))(hm:MtR X id r)(ho:PE X o to)
  (hbase:attributeBase o name X.env (eval o X.env)=eval o X.env:=by rfl) (hline:(apos.endLine == cpos.line)=true:=by rfl):PE X (.Call (.Attribute o name apos) [] [] cpos) (tBM0 X.K T r to):=by
 intro pins s σ H Q I h
 refine wpAny_Call_method0_late hbase hline (thn (ho pins s σ H _ I h) fun v s1 ⟨x,H1,I1,r1,ty,q1⟩=>?_)
 obtain⟨h1,h2⟩:=tyV_is I1 r1 ty
 exact⟨T,id,pa,slot,hty,h1,h2,Calls.callWith_builtin rfl (PySem.evalArgs_none (hm pins s1 σ H1 x [] v [] Q I1 r1 .nil q1))⟩
theorem pe_bm(pa:PlainAttrs T)(slot:Slot T name id)(hty:typeOf (.builtin id)=pure (.type "method_descriptor"))(hm:MtR X id r)(ho:PE X o to)(ha:PA X (e :: es) t)
  (hbase:attributeBase o name X.env (eval o X.env)=eval o X.env:=by rfl)
  (hfew:((backTo cpos (starEach (e :: es) X.env)).all (fun x=>!x.1) && (backToKw cpos (keywordEach [] X.env)).all (fun x=>x.1.isSome)
   && decide ((e :: es).length+([]:List Keyword).length+(if([]:List Keyword).isEmpty then 0 else 1)<30))=true:=by rfl)
  (hline:(apos.endLine == cpos.line)=true:=by rfl) (hs:starEach (e :: es) X.env=(false,eval e X.env) :: starEach es X.env:=by rfl) (hplain:(backTo cpos (starEach es X.env)).any (·.1)=false:=by rfl) :
  PE X (.Call (.Attribute o name apos) (e :: es) [] cpos) (tBM X.K T r to t):=by
 intro pins s σ H Q I h
 refine wpAny_Call_method_late hbase hfew hline rfl (thn (ho pins s σ H _ I h) fun v s1 ⟨x,H1,I1,r1,ty,q1⟩=>?_)
 obtain⟨h1,h2⟩:=tyV_is I1 r1 ty
 refine⟨T,id,pa,slot,hty,h1,h2,?_⟩
 have hA:=ha cpos pins s1 σ H1 _ I1 q1
 rw[hs]at hA ⊢
 refine Calls.callWith_builtin (by show(false ||(backTo cpos (starEach es X.env)).any (·.1))=false;rw[hplain] <;> rfl) (Calls.evalArgs_plain ?_)
 exact thn hA fun us s2 ⟨vs,H2,I2,r2,q2⟩=>hm pins s2 σ H2 x vs v us Q I2 r1 r2 q2
end
open PySem PySem.Spec PyProof.Rows
noncomputable def MtM(X:Cx)(id:String)(r:V->List V->Hp->VK->Prop):Prop :=
 ∀ (pins:List (Addr×Obj)) (s:Shared) (σ:St) (H:Hp) (x:V) (xs:List V) (v:Value) (us:List Value) (Q:VK),Inv X pins σ H s->RelV x v->Vals xs us->r x xs H Q ->
  wpAny (model X.prog X.w) X.A (call (.builtin id) (v :: us)) (EP X pins σ Q) X.xe s
theorem Vals.one{x:V}{us:List Value}(h:Vals [x] us):∃ u,us=[u]/\RelV x u:=by
 cases h with | cons r q=>cases q;exact⟨_,rfl,r⟩
theorem Vals.two{x y:V}{us:List Value}(h:Vals [x,y] us):∃ u v,us=[u,v]/\RelV x u/\RelV y v:=by
 cases h with | cons r q=>cases q with | cons q z=>cases z;exact⟨_,_,rfl,r,q⟩
theorem Vals.zero:∀ {us:List Value},Vals [] us->us=[]
 | _,.nil=>rfl
theorem Vals.dropLast{xs:List V}{us:List Value}(h:Vals xs us):Vals xs.dropLast us.dropLast:=by
 induction h with
 |nil=>exact .nil
 |cons r t ih =>
  cases t with
  |nil=>exact .nil
  |cons q t'=>exact .cons r ih
theorem Vals.eraseIdx:∀ {xs:List V}{us:List Value} (i:Nat),Vals xs us->Vals (xs.eraseIdx i) (us.eraseIdx i)
 | _,_,_,.nil=>.nil
 | _,_,0,.cons _ t=>t
 | _,_,i+1,.cons r t=>.cons r (Vals.eraseIdx i t)
theorem Vals.rep{xs:List V}{us:List Value}(h:Vals xs us):∀ k:Nat,Vals (List.replicate k xs).flatten (List.replicate k us).flatten
 | 0=>.nil
 |k+1=>by
  rw[List.replicate_succ,List.replicate_succ,List.flatten_cons,List.flatten_cons]
  exact Vals.append h (Vals.rep h k)
theorem erase_last{α:Type}(l:List α):l.eraseIdx (l.length-1)=l.dropLast:=by
 induction l with
 |nil=>rfl
 |cons a r ih =>
  cases r with
  |nil=>rfl
  |cons b r =>
   have e:(a :: b :: r).length-1=((b :: r).length-1)+1:=by
    have h1:(a :: b :: r).length=r.length+2:=rfl
    have h2:(b :: r).length=r.length+1:=rfl
    lia
   rw[e,List.eraseIdx_cons_succ,ih]
   all_goals rfl
theorem len_erase{α:Type}:∀ (l:List α) (i:Nat),(l.eraseIdx i).length<=l.length
 |[],_=>Nat.le_refl _
 | _ :: _,0=>Nat.le_succ _
 | _ :: r,i+1=>Nat.succ_le_succ (len_erase r i)
theorem foldl_rep(its:List Value):∀ (k:Nat) (acc:List Value),
  List.foldl (fun x1 x2=>x1++x2) acc.toArray (List.replicate k its.toArray)=(acc++(List.replicate k its).flatten).toArray
 | 0,acc=>by simp
 |k+1,acc=>by
  have e:acc.toArray++its.toArray=(acc++its).toArray:=by simp
  have e2:(acc++its)++(List.replicate k its).flatten=acc++(List.replicate (k+1) its).flatten:=by
   rw[List.replicate_succ,List.flatten_cons,List.append_assoc]
  rw[<- e2,<- foldl_rep its k (acc++its),<- e,List.replicate_succ,List.foldl_cons]
section
variable{X:Cx}{pins:List (Addr×Obj)}{σ:St}{H:Hp}{s:Shared}{l b:Addr}{xs ys zs:List V}
theorem Inv.lset{its its':List Value}{n:Nat}{f:Array Value->Array Value}{t':Nat}(I:Inv X pins σ H s)(hH:H l=some (.lst xs))
  (e:s.heap.get? l=some { cls:=.type "list",data:=.seq its.toArray n }) (hf:f its.toArray=its'.toArray) (hv:Vals ys its') (hz:ys.length<=sizeLine) :
  Inv X pins σ (upd H l (.lst ys)) { s with heap:=s.heap.update l (Obj.mapSeq f),toks:=t' }:=by
 have q:=PySem.IsL.update e f
 rw[hf]at q
 refine I.write (x:=l) (e:=l) (by rw[hH];exact trivial) (.inl rfl) (fun b' u hb hu=>(Heap.get?_update_other s.heap (Obj.mapSeq f) (Ne.symm hb)).trans hu) ⟨_,q⟩ ?_
 exact⟨hz,its',_,hv,q⟩
theorem Inv.lnew{its:List Value}{t':Nat}(I:Inv X pins σ H s)(hv:Vals ys its)(hz:ys.length<=sizeLine) :
  Inv X pins σ (upd H s.heap.objs.size (.lst ys)) { s with heap:=s.heap.push { cls:=.type "list",data:=.seq its.toArray },toks:=t' } :=
 I.laid (fun _ _ q=>Heap.get?_push_of_some _ q) (Nat.le_refl _) ⟨hz,its,0,hv,Heap.get?_push_size _ rfl⟩
theorem Inv.fresh(I:Inv X pins σ H s):H s.heap.objs.size=none:=I.hok.fresh (Nat.le_refl _)
theorem Inv.lstM(I:Inv X pins σ H s)(hH:H l=some (.lst xs)):xs.length<=sizeLine/\∃ (its:List Value) (n:Nat),Vals xs its/\xs.length=its.length/\s.heap.get? l=some { cls:=.type "list",data:=.seq its.toArray n }:=by
 obtain⟨z,its,n,r,e⟩:=I.hok l _ hH
 exact⟨z,its,n,r,r.length,e⟩
theorem notLongL{n:Nat}(h:n<=sizeLine):Builtin.List.listTooLong n=false:=by
 unfold Builtin.List.listTooLong
 exact decide_eq_false (by lia)
end
section
variable{X:Cx}
noncomputable def rAppend:V->List V->Hp->VK->Prop:=fun x vs H Q=>∃ l xs y,x = .ref l/\vs=[y]/\H l=some (.lst xs)/\xs.length<sizeLine/\Q .non (upd H l (.lst (xs++[y])))
theorem mt_append:MtM X "list.append" rAppend:=by
 intro pins s σ H x vs v us Q I rx rv h
 obtain⟨l,xs,y,rfl,rfl,hH,hz,q⟩:=h
 cases rx
 obtain⟨u,rfl,ru⟩:=rv.one
 obtain⟨z,its,n,r,hl,e⟩:=I.lstM hH
 refine call_meets F.slot_list_append ⟨_,e,rfl⟩ F.entry_list_append (F.args_list_append_2 _ _) (PySem.list_append l its.toArray n u (by rw[List.size_toArray];lia)) ⟨e,?_⟩
 refine⟨.non,_,I.lset (its':=its++[u]) hH e (by simp) (r.append (.cons ru .nil)) ?_,rfl,q⟩
 rw[List.length_append,List.length_singleton]
 lia
noncomputable def rPop:V->List V->Hp->VK->Prop:=fun x vs H Q=>∃ l xs y,x = .ref l/\vs=[]/\H l=some (.lst xs)/\xs[xs.length-1]?=some y/\Q y (upd H l (.lst xs.dropLast))
theorem mt_pop:MtM X "list.pop" rPop:=by
 intro pins s σ H x vs v us Q I rx rv h
 obtain⟨l,xs,y,rfl,rfl,hH,hy,q⟩:=h
 cases rx
 have hus:=rv.zero
 subst hus
 obtain⟨z,its,n,r,hl,e⟩:=I.lstM hH
 obtain⟨u,hu,ru⟩:=r.get hy
 have hy':its.toArray[its.toArray.size-1]?=some u:=by
  show its.toArray[its.length-1]?=some u
  rw[<- Array.getElem?_toList,<- hl]
  exact hu
 refine call_meets F.slot_list_pop ⟨_,e,rfl⟩ F.entry_list_pop (F.args_list_pop_1 _) (MeetsSeq.list_pop_last l its.toArray n u hy' (by rw[List.size_toArray];lia)) ⟨e,?_⟩
 refine⟨y,_,I.lset (its':=its.dropLast) hH e ?_ r.dropLast ?_,ru,q⟩
 ·show its.toArray.eraseIdxIfInBounds (its.toArray.size-1)=its.dropLast.toArray
  rw[List.size_toArray,List.eraseIdxIfInBounds_toArray,erase_last]
 ·rw[List.length_dropLast]
  omega
noncomputable def rPopAt:V->List V->Hp->VK->Prop:=fun x vs H Q=>∃ l xs i k y,x = .ref l/\vs=[.int i]/\H l=some (.lst xs)/\-(2 ^ 63)<=i/\i<2 ^ 63/\seqIndex? i xs.length=some k/\xs[k]?=some y/\Q y (upd H l (.lst (xs.eraseIdx k)))
theorem mt_popAt:MtM X "list.pop" rPopAt:=by
 intro pins s σ H x vs v us Q I rx rv h
 obtain⟨l,xs,i,k,y,rfl,rfl,hH,h1,h2,hk,hy,q⟩:=h
 cases rx
 obtain⟨u,rfl,ru⟩:=rv.one
 obtain⟨t,rfl⟩:=ru
 obtain⟨z,its,n,r,hl,e⟩:=I.lstM hH
 obtain⟨w,hw,rw'⟩:=r.get hy
 refine call_meets F.slot_list_pop ⟨_,e,rfl⟩ F.entry_list_pop (F.args_list_pop_2 _ _)
  (MeetsSeq.list_pop_at l its.toArray n i t k w (fitsIndex_both h1 h2) (by rw[List.size_toArray,<- hl];exact hk) (by rw[<- Array.getElem?_toList];exact hw) (by rw[List.size_toArray];lia)) ⟨e,?_⟩
 refine⟨y,_,I.lset (its':=its.eraseIdx k) hH e ?_ (r.eraseIdx k) ?_,rw',q⟩
 ·show its.toArray.eraseIdxIfInBounds k=(its.eraseIdx k).toArray
  rw[List.eraseIdxIfInBounds_toArray]
 ·have:=len_erase xs k
  lia
noncomputable def rCat:R2:=fun x y H Q=>∃ l b xs zs,x = .ref l/\y = .ref b/\H l=some (.lst xs)/\H b=some (.lst zs)/\xs.length+zs.length<=sizeLine/\∀ p,H p=none->Q (.ref p) (upd H p (.lst (xs++zs)))
theorem op_cat:OpR X (binaryOp .Add) rCat:=by
 intro pins s σ H x y v u Q I rx ry h
 obtain⟨l,b,xs,zs,rfl,rfl,hH,hB,hz,q⟩:=h
 cases rx
 cases ry
 obtain⟨z,its,n,r,hl,e⟩:=I.lstM hH
 obtain⟨z2,its2,n2,r2,hl2,e2⟩:=I.lstM hB
 refine PySem.P.add_list e e2 ?_ (by rw[List.size_toArray,List.size_toArray];lia)
 have ea:its.toArray++its2.toArray=(its++its2).toArray:=by simp
 rw[ea]
 exact⟨.ref _,_,I.lnew (t':=s.toks) (r.append r2) (by rw[List.length_append];omega),rfl,q _ I.fresh⟩
noncomputable def rRep:R2:=fun x y H Q=>∃ l k xs,x = .ref l/\y = .int k/\H l=some (.lst xs)/\-(2 ^ 63)<=k/\k<2 ^ 63/\xs.length * k.toNat<=sizeLine /\
 ∀ p,H p=none->Q (.ref p) (upd H p (.lst (List.replicate k.toNat xs).flatten))
theorem len_rep{α:Type}(xs:List α)(k:Nat):(List.replicate k xs).flatten.length=k * xs.length:=by
 induction k with
 |zero=>simp
 |succ k ih=>rw[List.replicate_succ,List.flatten_cons,List.length_append,ih,Nat.succ_mul,Nat.add_comm]
theorem op_rep:OpR X (binaryOp .Mult) rRep:=by
 intro pins s σ H x y v u Q I rx ry h
 obtain⟨l,k,xs,rfl,rfl,hH,h1,h2,hz,q⟩:=h
 cases rx
 obtain⟨t,rfl⟩:=ry
 obtain⟨z,its,n,r,hl,e⟩:=I.lstM hH
 have hlen:its.toArray.size * k.toNat<=sizeLine:=by rw[List.size_toArray,<- hl];exact hz
 have hcap:¬ its.toArray.size * k.toNat > (2 ^ 63-1) / 8:=by
  have:(sizeLine:Nat)<=(2 ^ 63-1) / 8:=by decide
  lia
 have hfit:¬(!Builtin.List.listFitsIndex k)=true:=by
  rw[fitsIndex_both h1 h2]
  exact Bool.false_ne_true
 have hlong:¬ Builtin.List.listTooLong (its.toArray.size * k.toNat)=true:=by
  rw[notLongL hlen]
  exact Bool.false_ne_true
 have hnew:List.foldl (fun x1 x2=>x1++x2) #[] (List.replicate (if its.toArray.isEmpty=true then 0 else k.toNat) its.toArray)=(List.replicate k.toNat its).flatten.toArray:=by
  have f0:∀ m:Nat,List.foldl (fun x1 x2=>x1++x2) #[] (List.replicate m its.toArray)=(List.replicate m its).flatten.toArray:=fun m=>by
   have:=foldl_rep its m []
   rw[List.nil_append]at this
   exact this
  rw[f0]
  cases its with
  |nil=>simp
  |cons a r'=>rw[if_neg (by simp)]
 refine wpAny_binaryOp_repeat_ref (T:="list") (U:="int") (by decide) ⟨_,e,rfl⟩ (fun s'=>typeIs_int s' k t) noFill_list_mul F.fills_int_mul F.slot_int_rmul repeat_list F.slot_int_index.lookup
  (call_meets F.slot_int_rmul (typeIs_int s k t) F.entry_int_rmul (F.args_int_rmul_2 _ _) (int___rmul___int_list k t l its.toArray n)
   ⟨e,rfl,⟨_,e,rfl⟩,call_meets F.slot_list_mul ⟨_,e,rfl⟩ F.entry_list_mul (F.args_list_mul_2 _ _) (AutoListH.list___mul___list_int_3 l its.toArray n k t hfit hcap hlong) ⟨e,?_⟩⟩)
 rw[hnew]
 exact⟨.ref _,_,I.lnew (t':=s.toks) (r.rep k.toNat) (by rw[len_rep,Nat.mul_comm];exact hz),rfl,q _ I.fresh⟩
end
end L2
namespace Att
open PySem PySem.W PySem.Calls PyProof.Rows
theorem ints_of_wellAll{P:Params}{h:Heap}:∀ (ns:List Int) (vs:List Value),WellAll P h vs (ns.map WData.int)->IntsAre vs ns:=by
 intro ns
 induction ns with
 |nil =>
  intro vs w
  rw[List.map_nil]at w
  cases w
  exact .nil
 |cons n ns ih =>
  intro vs w
  rw[List.map_cons]at w
  cases w with
  |cons a b =>
   cases a
   exact .cons _ _ (ih _ b)
theorem script_of{l:OpenLaw}{n:Nat}(hn:l.most=some n){P:Params}{h:Heap}{args:List WData}{vals:List Value}
  (hpre:l.row.toRowW.claim.pre args=true) (hwl:WellAll P h vals args) :
  ∃ a vs ns,vals=[Value.ref a]/\args=[WData.list (ns.map WData.int)]/\h.get? a=some { cls:=.type "list",data:=.seq vs.toArray }/\IntsAre vs ns/\ns.length<=n:=by
 have hsh:WShape.hasAll [] args [.list .int]=true:=(pre_splitW hpre).1
 have hc:l.pre.holds [] { args:=args } = true:=(pre_splitW hpre).2
 obtain⟨d,r,rfl,h1,h2⟩:=hasAllW_cons hsh
 obtain rfl:=hasAllW_nil h2
 obtain⟨xs,rfl,h3⟩:=hasW_list h1
 obtain⟨ns,rfl⟩:=items_int h3
 have hlen:ns.length<=n:=by
  unfold OpenLaw.pre at hc
  have h4:(WTm.not (.lt (.lit (.int (n:Int))) (.len (.arg 0)))).holds [] { args:=[.list (ns.map .int)] } = true:=by
   have h4:=(holds_andW hc).1
   rw[hn]at h4
   exact h4
  have h5:=condW_of h4 (w_not (w_lt w_lit (w_len_list (w_arg rfl))))
  rw[List.length_map]at h5
  refine Nat.le_of_not_lt fun q=>?_
  have q':(n:Int) <((ns.length:Nat):Int):=by omega
  first
   |(rw[decide_eq_true q']at h5;exact absurd h5 (by decide))
   |(simp at h5;omega)
 cases hwl with
 |cons w1 w2 =>
  cases w2
  cases w1 with
  |list ho hall=>exact⟨_,_,ns,rfl,rfl,ho,ints_of_wellAll ns _ hall,hlen⟩
theorem post_true(l:OpenLaw)(args:List WData):l.row.toRowW.claim.post args (.bool true) args=true :=
 postW_of (r:=l.row.toRowW) (X:=(true == true))
  (show WShape.has [] (.bool true) .bool=true by first | rfl | decide | simp[WShape.has,WShape.arms,WShape.armsAll])
  (show(WTm.eq .res (.lit (.bool true))).value [] { args:=args,res:=some (.bool true),after:=args } = some (.bool (true == true))from w_eq_bool (w_res rfl) w_lit) rfl
theorem attach_call{l:OpenLaw}{n:Nat}{q:Program}{loose:List Str}{XP:(Str->Option Value)->Heap->Prop}{YP:World->Heap->Prop}{d:DefRec}
  (hn:l.most=some n) (hdf:d.params.defaults=[])
  (call:∀ (w:World) (s₀ s₁:Shared) (mg mb:Str->Option Value) (fa:Addr) (o:Obj) (pm cd doc:Value) (a:Addr) (vs:List Value) (ns:List Int),
   Ground q loose [] XP w s₀ mg mb s₁.heap->YP w s₁.heap ->
   s₁.heap.get? fa=some o->o.data = .func (docDef d.name d.params d.body d.scope pm cd doc)->s₁.heap.CodeRec cd d.name->mg d.name=some (.ref fa) ->
   s₁.heap.get? a=some { cls:=.type "list",data:=.seq vs.toArray }->IntsAre vs ns->ns.length<=n->s₁.gens = #[] ->
   codeAny (model l.prog w) callerA (.call (.ref fa) ⟨[.ref a],[]⟩) (fun r s'=>r = .ok (.ret (.bool true))/\OldK s₁.heap s'.heap/\s'.os=s₁.os/\AllBare s'.gens) s₁) :
  WalkO q loose XP YP l.row.toRowW d [] (fun f vs=>PySem.call f vs):=by
 intro w s₀ s₁ mg mb G Y fa o pm cd doc dV kV ho hd hcd hD hmg hg args vals as hpre hlay hrd hwl hlo
 obtain rfl:dV = .none:=Dflts.none hD hdf
 obtain rfl:kV = .none:=Dflts.noKw hD
 obtain⟨a,vs,ns,rfl,rfl,hobj,hints,hlen⟩:=script_of hn hpre hwl
 refine enter_call (codeAny_mono (call w s₀ s₁ mg mb fa o pm cd doc a vs ns G Y ho (fd_plain hd) hcd hmg hobj hints hlen hg) fun r s' hq=>?_)
 obtain⟨rfl,h2,h3,h4⟩:=hq
 exact⟨.inl ⟨.bool true,.bool true,[],rfl,fun _=>rfl,.bool true,post_true l _,fun _=>⟨List.Pairwise.nil,fun _ hm=>(nomatch hm)⟩⟩,h2,h3,h4⟩
end Att
namespace L2
open PySem PySem.Spec PyProof.Rows
theorem vals_ints:∀ {vs:List Value}{ns:List Int},IntsAre vs ns->Vals (ns.map V.int) vs
 | _,_,.nil=>.nil
 | _,_,.cons n t h=>.cons ⟨t,rfl⟩ (vals_ints h)
open PySem PySem.Spec PyProof.Rows
open PySem PySem.Spec PyProof.Rows
noncomputable def defArgs(s:Stmt):Arguments:=match s with
 | .FunctionDef _ a _ _ _ _ _ _ _ _=>a
 | _=>{ posonlyargs:=[],args:=[],vararg:=none,kwonlyargs:=[],kw_defaults:=[],kwarg:=none,defaults:=[] }
noncomputable def defBody(s:Stmt):List Stmt:=match s with
 | .FunctionDef _ _ b _ _ _ _ _ _ _=>b
 | _=>[]
noncomputable def defScope(s:Stmt):Scope:=match s with
 | .FunctionDef _ _ _ _ _ _ sc _ _ _=>sc
 | _=>{ kind:=.function,names:=[],isGenerator:=false,isCoroutine:=false }
noncomputable abbrev CX0:CXT:=fun _ _ _ _ _ _=>False
noncomputable abbrev E0:XK:=fun _ _ _=>False
theorem pass0{X:Cx}:Passes CX0 X E0:=fun _ _ _ _ _ _ _ h=>h.elim
structure Fun(K:PySem.W.Frag)(x qual:Str)(st:Stmt)(f:Addr)(fd:FuncData):Prop where
 ex:∃ (oc:Value) (od:Option Addr) (kV doc pm:Value) (an:Option Addr) (cdv ct:Value) (osl:Array (Option Value)),
  fd=PySem.W.fnOf x qual (defArgs st) (defBody st) (defScope st) .none kV doc pm an cdv ct/\K.lookup f=some ⟨oc,od,.func fd,osl⟩/\PySem.W.codeIn K cdv qual=true
 kp:PySem.W.keepIn K (.ref f)=true
section
variable{P:Program}{w:World}{K:PySem.W.Frag}{mg:Str->Option Value}{base:Heap}
theorem Fun.ok{x qual:Str}{st:Stmt}{f:Addr}{fd:FuncData}{N ps:List Str}{k:Nat}{sp:Sp}(F:Fun K x qual st f fd)(S:FnScope N ps (defScope st))(len:∀ vs H Q E,sp vs H Q E->vs.length=ps.length)
  (hbody:∀ (cdv:Value) (A:Around) (outer:List Env) (s:Shared) (H:Hp) (vs:List V) (Q:VK) (E:XK),Room k (A.deeper (envOfC qual (defScope st) s.heap.objs.size f cdv))->sp vs H Q E ->
   ∃ t,PSs (cxOf CX0 P w K mg base N qual (defScope st) f cdv A outer s H E).nox (defBody st) t/\t { nx:=fun _ H'=>Q .non H',rt:=Q } (start N vs) H):FnOk P w K mg base CX0 (k+1) f fd ps sp:=by
 obtain⟨oc,od,kV,doc,pm,an,cdv,ct,osl,rfl,lk,hcd⟩:=F.ex
 refine fn_of lk hcd S len fun A outer s H vs Q E hr hsp=>?_
 obtain⟨t,h,q⟩:=hbody cdv A outer s H vs Q E hr hsp
 exact⟨t,h.nox,q⟩
theorem Fun.binds{x qual:Str}{st:Stmt}{f:Addr}{fd:FuncData}{ps:List Str}(F:Fun K x qual st f fd)
  (h:∀ (kV doc pm:Value) (an:Option Addr) (cdv ct:Value) (us:List Value),us.length=ps.length->bindArgs (PySem.W.fnOf x qual (defArgs st) (defBody st) (defScope st) .none kV doc pm an cdv ct) ⟨us,[]⟩=pure (ps.zip us)):Binds K fd ps []:=by
 obtain⟨oc,od,kV,doc,pm,an,cdv,ct,osl,rfl,lk,hcd⟩:=F.ex
 exact .all (h kV doc pm an cdv ct)
theorem fun_mk{x qual:Str}{st:Stmt}{f:Addr}{oc:Value}{od an:Option Addr}{osl:Array (Option Value)}{kV doc pm cdv ct:Value}(l:K.lookup f=some ⟨oc,od,.func (PySem.W.fnOf x qual (defArgs st) (defBody st) (defScope st) .none kV doc pm an cdv ct),osl⟩)
  (c:PySem.W.codeIn K cdv qual=true) (k:PySem.W.keepIn K (.ref f)=true):Fun K x qual st f (PySem.W.fnOf x qual (defArgs st) (defBody st) (defScope st) .none kV doc pm an cdv ct):=⟨⟨oc,od,kV,doc,pm,an,cdv,ct,osl,rfl,l,c⟩,k⟩
end
theorem hu_of{A:Around}{k:Nat}(hr:Room k A):A.units+1<cLine:=Nat.lt_of_le_of_lt (Nat.add_le_add_left (by decide:1<=64) _) hr.units
section
variable{X:Cx}
theorem pv(i:Nat){x:Str}{pos:Pos}(hN:X.N[i]?=some x:=by rfl)(hv:Vis X.env.scope x:=by first | exact Or.inl rfl | exact Or.inr (Or.inl rfl) | exact Or.inr (Or.inr rfl))(hd:(x ==("__debug__":Str))=false:=by decide)
  (hcd:(x ==("__classdict__":Str))=false:=by decide):PE X (.Name x pos) (tVar i):=pe_var hN hv hd hcd
end
theorem iteF{A B:Prop}(h:B):if false=true then A else B:=by
 rw[if_neg Bool.false_ne_true]
 exact h
theorem iteT{A B:Prop}(h:A):if true=true then A else B:=by
 rw[if_pos rfl]
 exact h
theorem ite2{c A B:Prop}[Decidable c](h1:c->A)(h2:¬ c->B):if c then A else B:=by
 by_cases h:c
 ·rw[if_pos h]
  exact h1 h
 ·rw[if_neg h]
  exact h2 h
theorem iteNS{c A B:Prop}[Decidable c](hc:c)(h:B):if(!decide c)=true then A else B:=by
 rw[decide_eq_true hc]
 exact iteF h
noncomputable def Same(H H':Hp):Prop:=∀ b o,H b=some o->H' b=some o
theorem Same.refl(H:Hp):Same H H:=fun _ _ h=>h
theorem Same.trans{H H1 H2:Hp}(a:Same H H1)(b:Same H1 H2):Same H H2:=fun c o h=>b c o (a c o h)
theorem Same.free{H H':Hp}(e:Same H H'){l:Addr}(h:H' l=Option.none):H l=Option.none:=by
 cases q:H l with
 |none=>rfl
 |some o =>
  rw[e l o q]at h
  cases h
theorem Same.seq{K:PySem.W.Frag}{H H':Hp}{a:Addr}{xs:List V}(e:Same H H')(h:SqL K H a xs):SqL K H' a xs:=by
 rcases h with(h |⟨o,h⟩) | h
 ·exact .inl (.inl (e _ _ h))
 ·exact .inl (.inr ⟨o,e _ _ h⟩)
 ·exact .inr h
open PySem PySem.Spec PyProof.Rows
end L2
set_option maxHeartbeats 4000000
namespace L2
open PySem PySem.Spec PyProof.Rows
noncomputable def closCl(cells:List (Str×Addr)):List (Str×NameKind)->List (Str×Addr)->List (Str×Addr)
 |[],acc=>acc
 |(n,k) :: r,acc=>closCl cells r (if k == .free then(n,(cells.lookup n).getD 0) :: acc else acc)
theorem closureFor_cells{scope:Scope}{env:Env}(h:∀ x∈scope.names,x.2 = .free->∃ c,env.cells.lookup x.1=some c) :
  closureFor scope env=pure (closCl env.cells scope.names []):=by
 have gen:∀ (l:List (Str×NameKind)) (acc:List (Str×Addr)),(∀ x∈l,x.2 = .free->∃ c,env.cells.lookup x.1=some c) ->
   (forIn l acc fun(x:Str×NameKind) (cs:List (Str×Addr))=>(do
    if x.2 == .free then
     let c <- cellOf env x.1
     pure (ForInStep.yield ((x.1,c) :: cs))
    else pure (ForInStep.yield cs):Sem (ForInStep (List (Str×Addr)))))=pure (closCl env.cells l acc):=by
  intro l
  induction l with
  |nil=>intro acc _;rfl
  |cons x r ih =>
   intro acc hx
   obtain⟨n,k⟩:=x
   rw[List.forIn_cons]
   have hr:=fun y hy=>hx y (List.mem_cons_of_mem _ hy)
   by_cases hk:k = .free
   ·subst hk
    obtain⟨c,hc⟩:=hx (n,.free) List.mem_cons_self rfl
    have e1:cellOf env n=pure c:=by unfold cellOf;rw[hc]
    simp only[e1,beq_self_eq_true,if_true,pure_bind]
    rw[ih _ hr]
    have hc':env.cells.lookup n=some c:=hc
    simp[closCl,hc']
   ·have hb:(k == NameKind.free)=false:=by simpa using hk
    simp only[hb,Bool.false_eq_true,if_false,pure_bind]
    rw[ih _ hr]
    simp[closCl,hb]
 have g:=gen scope.names [] h
 unfold closureFor
 simp only[bind_pure]
 exact g
theorem closCl_sound{cells:List (Str×Addr)}:∀ (l:List (Str×NameKind)) (acc:List (Str×Addr)),(∀ x∈l,x.2 = .free->∃ c,cells.lookup x.1=some c) ->
  (∀ y c,acc.lookup y=some c->cells.lookup y=some c)->∀ y c,(closCl cells l acc).lookup y=some c->cells.lookup y=some c
 |[],_,_,ha,y,c,e=>ha y c e
 |(n,k) :: r,acc,h,ha,y,c,e=>by
  refine closCl_sound r _ (fun x hx=>h x (List.mem_cons_of_mem _ hx)) ?_ y c e
  intro y c e
  by_cases hk:k = .free
  ·subst hk
   obtain⟨c',hc⟩:=h (n,.free) List.mem_cons_self rfl
   have hc:cells.lookup n=some c':=hc
   simp only[beq_self_eq_true,if_true,List.lookup_cons]at e
   by_cases hy:y == n
   ·have:y=n:=by simpa using hy
    subst this
    simp[hc]at e
    rw[hc,e]
   ·simp only[hy]at e
    exact ha y c e
  ·have hb:(k == NameKind.free)=false:=by simpa using hk
   rw[hb,if_neg (by simp)]at e
   exact ha y c e
theorem closCl_acc{cells:List (Str×Addr)}:∀ (l:List (Str×NameKind)) (acc:List (Str×Addr)) (y:Str),(∃ c,acc.lookup y=some c)->∃ c,(closCl cells l acc).lookup y=some c
 |[],_,_,h=>h
 |(n,k) :: r,acc,y,h=>by
  refine closCl_acc r _ y ?_
  by_cases hk:(k == NameKind.free)=true
  ·rw[if_pos hk,List.lookup_cons]
   by_cases hy:(y == n)=true
   ·rw[hy];exact⟨_,rfl⟩
   ·rw[Bool.eq_false_iff.mpr hy];exact h
  ·rw[if_neg hk];exact h
theorem closCl_has{cells:List (Str×Addr)}:∀ (l:List (Str×NameKind)) (acc:List (Str×Addr)) (y:Str),(y,NameKind.free)∈l->∃ c,(closCl cells l acc).lookup y=some c
 |[],_,_,h=>nomatch h
 |(n,k) :: r,acc,y,h=>by
  rcases List.mem_cons.mp h with e | h
  ·have e1:n=y:=(congrArg Prod.fst e).symm
   have e2:k=NameKind.free:=(congrArg Prod.snd e).symm
   subst e1 e2
   refine closCl_acc r _ n ?_
   rw[if_pos (by rfl),List.lookup_cons,beq_self_eq_true]
   exact⟨_,rfl⟩
  ·exact closCl_has r _ y h
theorem relabel_mem{scope:Scope}{env:Env}:∀ {l:List (Str×NameKind)}{x:Str}{k':NameKind},
  (l.map fun(n,k)=>if(k == NameKind.free && env.scope.kind == .function && env.kindOf n == some .cell)then(n,NameKind.cell)else(n,k)).lookup x=some k' ->
  ∃ k,(x,k)∈l/\(k=k'\/(k = .free/\k' = .cell))
 |[],_,_,h=>by simp at h
 |(n,k) :: r,x,k',h=>by
  rw[List.map_cons]at h
  dsimp only at h
  by_cases hc:(k == NameKind.free && env.scope.kind == .function && env.kindOf n == some .cell)=true
  ·simp only[hc,if_true,List.lookup_cons]at h
   by_cases hx:(x == n)=true
   ·rw[hx]at h
    have:x=n:=by simpa using hx
    subst this
    have hk:k = .free:=by
     rw[Bool.and_eq_true,Bool.and_eq_true]at hc
     simpa using hc.1.1
    exact⟨k,List.mem_cons_self,.inr ⟨hk,by cases h;rfl⟩⟩
   ·rw[Bool.eq_false_iff.mpr hx]at h
    obtain⟨k1,h1,h2⟩:=relabel_mem (scope:=scope) h
    exact⟨k1,List.mem_cons_of_mem _ h1,h2⟩
  ·rw[if_neg hc,List.lookup_cons]at h
   by_cases hx:(x == n)=true
   ·rw[hx]at h
    have:x=n:=by simpa using hx
    subst this
    exact⟨k,List.mem_cons_self,.inl (by cases h;rfl)⟩
   ·rw[Bool.eq_false_iff.mpr hx]at h
    obtain⟨k1,h1,h2⟩:=relabel_mem (scope:=scope) h
    exact⟨k1,List.mem_cons_of_mem _ h1,h2⟩
theorem relabel_free{env:Env}:∀ {l:List (Str×NameKind)}{x:Str},l.lookup x=some .free ->
  (l.map fun(n,k)=>if(k == NameKind.free && env.scope.kind == .function && env.kindOf n == some .cell)then(n,NameKind.cell)else(n,k)).lookup x=some .cell \/
  (l.map fun(n,k)=>if(k == NameKind.free && env.scope.kind == .function && env.kindOf n == some .cell)then(n,NameKind.cell)else(n,k)).lookup x=some .free
 |[],_,h=>by simp at h
 |(n,k) :: r,x,h=>by
  rw[List.map_cons]
  dsimp only
  rw[List.lookup_cons]at h
  by_cases hx:(x == n)=true
  ·rw[hx]at h
   have hk:k = .free:=by cases h;rfl
   by_cases hc:(k == NameKind.free && env.scope.kind == .function && env.kindOf n == some .cell)=true
   ·left;rw[if_pos hc,List.lookup_cons,hx]
   ·right;rw[if_neg hc,List.lookup_cons,hx,hk]
  ·rw[Bool.eq_false_iff.mpr hx]at h
   have ih:=relabel_free (env:=env) h
   by_cases hc:(k == NameKind.free && env.scope.kind == .function && env.kindOf n == some .cell)=true
   ·rw[if_pos hc,List.lookup_cons,Bool.eq_false_iff.mpr hx];exact ih
   ·rw[if_neg hc,List.lookup_cons,Bool.eq_false_iff.mpr hx];exact ih
theorem lookup_mem{α:Type}[BEq α][LawfulBEq α]{β:Type}:∀ {l:List (α×β)}{x:α}{k:β},l.lookup x=some k->(x,k)∈l
 |[],_,_,h=>by simp at h
 |(n,k') :: r,x,k,h=>by
  rw[List.lookup_cons]at h
  by_cases hx:(x == n)=true
  ·rw[hx]at h
   have:x=n:=by simpa using hx
   subst this
   cases h
   exact List.mem_cons_self
  ·rw[Bool.eq_false_iff.mpr hx]at h
   exact List.mem_cons_of_mem _ (lookup_mem h)
noncomputable def cxIn(X:Cx)(N':List Str)(scope:Scope)(C:Addr)(s2:Shared)(H2:Hp)(fp:List Addr):Cx :=
 { X with N:=N',s₀:=s2,H₀:=H2,env:=compEnvC scope (closCl X.env.cells scope.names []) C X.env,outer:=X.stack,ex:=fp,fn:=fun _=>false,xe:=fun _ _=>False }
noncomputable def capt(cap:List (Option Nat))(σ:St):St:=cap.map fun o=>o.bind fun j=>(σ[j]?).join
structure CompScope(N':List Str)(cap:List (Option Nat))(N:List Str)(sc0 scope:Scope):Prop where
 kind:scope.kind = .function
 nocell:∀ x∈scope.names,x.2≠.cell
 loc:∀ x∈scope.names,x.2 = .local->scope.names.lookup x.1=some .local
 fre:∀ x∈scope.names,x.2 = .free->sc0.names.lookup x.1=some .cell\/sc0.names.lookup x.1=some .free
 len:cap.length=N'.length
 cap:∀ j∈List.range cap.length,match cap[j]? with
  |some (some i)=>match N'[j]? with
   |some x=>N[i]?=some x/\scope.names.lookup x=some .free
   |none=>False
  | _=>True
section
variable{X:Cx}{N':List Str}{cap:List (Option Nat)}{scope:Scope}{C:Addr}{s2 s4:Shared}{H2:Hp}{fp:List Addr}{pins:List (Addr×Obj)}{σ:St}
theorem CompScope.clos(S:CompScope N' cap X.N X.env.scope scope)(I:Inv X pins σ H2 s2):∀ x∈scope.names,x.2 = .free->∃ c,X.env.cells.lookup x.1=some c :=
 fun x hx hf=>I.ok.has x.1 (S.fre x hx hf)
theorem cxIn_ok(S:CompScope N' cap X.N X.env.scope scope)(I:Inv X pins σ H2 s2)(hC:s2.heap.objs.size<=C)(hfp:∀ b∈fp,FpOk X pins H2 b)(hfo:∀ b∈fp,∃ o,s2.heap.get? b=some o):(cxIn X N' scope C s2 H2 fp).Ok where
 mod:=I.ok.mod
 kind:=S.kind
 glob:=I.ok.glob
 blt:=I.ok.blt
 above:=hC
 inj:=fun x y c e1 e2=>I.ok.inj x y c (closCl_sound _ _ (S.clos I) (fun y c e=>by simp at e) x c e1) (closCl_sound _ _ (S.clos I) (fun y c e=>by simp at e) y c e2)
 has:=fun x h=>by
  have hm:(x,NameKind.free)∈scope.names:=by
   rcases h with h | h
   ·obtain⟨k,hk,e |⟨e,_⟩⟩:=relabel_mem (scope:=scope) (l:=scope.names) h
    ·subst e;exact absurd rfl (S.nocell _ hk)
    ·subst e;exact hk
   ·obtain⟨k,hk,e |⟨_,e⟩⟩:=relabel_mem (scope:=scope) (l:=scope.names) h
    ·subst e;exact hk
    ·cases e
  exact closCl_has _ _ x hm
 cab:=fun _ _ h _=>nomatch h
 hd:=I.ok.hd
 frames:=I.ok.frames
 stk:=.inl rfl
 exf:=fun b hb=>⟨fun z=>by
   obtain⟨o,ho⟩:=hfo b hb
   have h1:=Nat.lt_of_lt_of_le (Heap.lt_size ho) hC
   have z:b=C:=z
   rw[z]at h1
   exact Nat.lt_irrefl _ h1,fun x c e=>(hfp b hb).2.2.2.2.1 x c (closCl_sound _ _ (S.clos I) (fun y c e=>by simp at e) x c e)⟩
 bs:=I.bs
 bsz:=Nat.le_trans I.ok.bsz I.sz
 noex:=fun b o e hb=>by
  rcases(hfp b hb).2.2.2.1 with z | z
  ·exact I.ok.noex b o e z
  ·exact absurd (Nat.lt_of_lt_of_le (Heap.lt_size e) (Nat.le_trans I.ok.bsz z)) (Nat.lt_irrefl _)
 exfs:=fun b hb z=>by
  rcases List.mem_cons.mp (I.stkSub b z)with e | e
  ·exact(hfp b hb).2.1 e
  ·exact(hfp b hb).2.2.1 e
 funs:=I.stack
 frf:=I.stkFree
theorem cxIn_inv(S:CompScope N' cap X.N X.env.scope scope)(I:Inv X pins σ H2 s2)(hC:s2.heap.objs.size<=C)(hfp:∀ b∈fp,FpOk X pins H2 b)(hfo:∀ b∈fp,∃ o,s2.heap.get? b=some o)
  (ho:s4.os=s2.os) (hg:s4.gens=s2.gens) (k:∀ b o,s2.heap.get? b=some o->s4.heap.get? b=some o) {m:Str->Option Value} (hn:s4.heap.Ns C m) {D:Addr}{oD:Obj}
  (hD:s4.heap.get? D=some oD) (hDs:s2.heap.objs.size<=D) (hDC:D≠C) (hDc:∀ v,oD.data≠.cell v) :
  Inv (cxIn X N' scope C s2 H2 fp) (pins++[(D,oD)]) (capt cap σ) H2 s4 where
 ok:=cxIn_ok S I hC hfp hfo
 os:=ho
 bare:=by rw[hg];exact I.bare
 base:=Un.kept k
 loc:=by
  refine⟨m,hn,fun j x v e1 e2 _=>?_⟩
  have hj:j<cap.length:=by rw[S.len];exact(List.getElem?_eq_some_iff.mp e1).1
  have e1:N'[j]?=some x:=e1
  have hc:=S.cap j (List.mem_range.mpr hj)
  unfold capt at e2
  rw[List.getElem?_map]at e2
  cases hq:cap[j]? with
  |none=>rw[hq]at e2;cases e2
  |some o =>
   rw[hq]at e2 hc
   cases o with
   |none=>cases e2
   |some i =>
    simp only[e1]at hc
    obtain⟨hN,hfr⟩:=hc
    have e3:σ[i]?=some (some v):=by
     have e2:(σ[i]?).join=some v:=Option.some.inj e2
     cases hs:σ[i]? with
     |none=>rw[hs]at e2;cases e2
     |some w=>rw[hs]at e2;have e2:w=some v:=e2;rw[e2]
    have hm:=lookup_mem hfr
    have hk:=S.fre _ hm rfl
    obtain⟨m0,hn0,hl0⟩:=I.loc
    obtain⟨u,r,l⟩:=hl0 i x v hN e3 (.inr hk)
    refine⟨u,r,?_⟩
    rcases l with⟨l,_⟩ |⟨_,c,e,z⟩
    ·rcases hk with hk | hk
     ·rw[show X.env.kindOf x=some .cell from hk]at l;cases l
     ·rw[show X.env.kindOf x=some .free from hk]at l;cases l
    ·obtain⟨c',hc'⟩:=closCl_has (cells:=X.env.cells) scope.names [] x hm
     have hs:=closCl_sound scope.names [] (S.clos I) (fun y c e=>by simp at e) x c' hc'
     rw[e]at hs
     cases hs
     refine .inr ⟨relabel_free hfr,c,hc',?_⟩
     obtain⟨oc,ho',hd'⟩:=z
     exact⟨oc,k _ _ ho',hd'⟩
 cell:=fun x c e=>by
  obtain⟨v,oc,ho',hd'⟩:=I.cell x c (closCl_sound scope.names [] (S.clos I) (fun y c e=>by simp at e) x c e)
  exact⟨v,oc,k _ _ ho',hd'⟩
 free:=I.hok.fresh hC
 freeC:=fun x c e=>I.freeC x c (closCl_sound scope.names [] (S.clos I) (fun y c e=>by simp at e) x c e)
 pin:=fun p hp=>by
  have hp:p∈X.pn++(pins++[(D,oD)]):=hp
  have cne:∀ b o,s2.heap.get? b=some o->b≠C:=fun b o e z=>by
   have h1:=Nat.lt_of_lt_of_le (Heap.lt_size e) hC
   rw[z]at h1
   exact Nat.lt_irrefl _ h1
  rw[<- List.append_assoc]at hp
  rcases List.mem_append.mp hp with hp | hp
  ·obtain⟨e,n,ne,nf,d⟩:=I.pin p hp
   exact⟨k _ _ e,n,cne _ _ e,fun z=>by
    rcases List.mem_cons.mp (I.stkSub p.1 z)with e | e
    ·exact ne e
    ·exact nf e,d⟩
  ·have e:p=(D,oD):=by simpa using hp
   subst e
   refine⟨hD,I.hok.fresh hDs,hDC,fun z=>?_,hDc⟩
   rcases List.mem_cons.mp (I.stkSub D z)with e | e
   ·have h1:=Nat.lt_of_lt_of_le I.lt hDs
    rw[e]at h1
    exact Nat.lt_irrefl _ h1
   ·exact I.nofs hDs e
 hok:=I.hok.kept k
 len:=by unfold capt;rw[List.length_map];exact S.len
end
noncomputable def PF(X:Cx)(ifs:List Expr)(t:TT):Prop :=
 ∀ (pins:List (Addr×Obj)) (s:Shared) (σ:St) (H:Hp) (Q:Bool->Hp->Prop),Inv X pins σ H s->t σ H Q ->
  wpAny (model X.prog X.w) X.A (forIn ifs true fun c r=>if r=true then do let ok <- isTrue c X.env (eval c X.env);pure (ForInStep.yield ok)else pure (ForInStep.yield r)) (TP X pins σ Q) X.xe s
noncomputable def tTru:TT:=fun _ H Q=>Q true H
theorem pf_nil{X:Cx}:PF X [] tTru:=fun _ _ _ H _ I h=>wpAny_tests_nil ⟨H,I,h⟩
theorem pf_one{X:Cx}{c:Expr}{t:TT}(h:PT X c t):PF X [c] t:=fun pins s σ H Q I q=>wpAny_tests_one (h pins s σ H Q I q)
section
variable{prog:Program}{w:World}{A:Around}{E:Value->Shared->Prop}{R:Result->Shared->Prop}{s:Shared}
theorem codeAny_compLoop_any{elt target iter:Expr}{ifs:List Expr}{scope:Scope}{pos:Pos}{it acc:Value}{env:Env}(I:Nat->Shared->Prop)
  (turn:∀ n s,I n s->wpAny (model prog w) A (pyNext it) (fun r s₁=>match r with
   |none=>R (.ok .next) s₁
   |some v=>wpAny (model prog w) A (letOwnedTupleGo target it v) (fun _ s₁'=>wpAny (model prog w) A (assign target env v) (fun _ s₂ =>
     wpAny (model prog w) A (forIn ifs true fun c r=>if r=true then do let ok <- isTrue c env (eval c env);pure (ForInStep.yield ok)else pure (ForInStep.yield r)) (fun ok s₃ =>
      if ok=true then wpAny (model prog w) A (eval elt env) (fun x s₄ =>
       wpAny (model prog w) A (call (.builtin "list.append") [acc,x]) (fun _ s₅=>∃ m,m<n/\I m s₅) (fun _ _=>False) s₄) (fun _ _=>False) s₃
      else ∃ m,m<n/\I m s₃) (fun _ _=>False) s₂) (fun _ _=>False) s₁') (fun _ _=>False) s₁) (fun _ _=>False) s)
  (n:Nat) (h:I n s) :
  codeAny (model prog w) A (.compLoop (.ListComp elt [⟨target,iter,ifs,0⟩] scope pos) 0 it acc env) R s:=by
 refine codeAny_loop rfl I (fun n s hI=>?_) n h
 show wpAny _ A ((compTurn (.ListComp elt [⟨target,iter,ifs,0⟩] scope pos) 0 it acc env).onRaise (fun x=>do noteFrame x env;theTreesLotGoes x)) _ _ s
 refine wpAny_noted ?_
 rw[compTurn_list]
 refine wpAny_bind (wpAny_standAt (wpAny_bind (wpAny_mono (turn n s hI) (fun r s₁ h₁=>?_) fun _ _ h'=>h'.elim)))
 cases r with
 |none=>exact wpAny_pure h₁
 |some v =>
  refine wpAny_bind (wpAny_mono h₁ (fun _ s₁' h₁'=>?_) fun _ _ h'=>h'.elim)
  refine wpAny_bind (wpAny_mono h₁' (fun _ s₂ h₂=>wpAny_bind (wpAny_mono h₂ (fun ok s₃ h₃=>?_) fun _ _ h'=>h'.elim)) fun _ _ h'=>h'.elim)
  cases ok with
  |false=>exact wpAny_pure ⟨rfl,h₃⟩
  |true =>
   exact wpAny_bind (wpAny_bind (wpAny_mono h₃ (fun x s₄ h₄=>wpAny_bind (wpAny_mono h₄ (fun _ s₅ h₅=>wpAny_pure (wpAny_pure ⟨rfl,h₅⟩)) fun _ _ h'=>h'.elim)) fun _ _ h'=>h'.elim))
end
noncomputable def Kp:St->St->Prop
 |[],[]=>True
 |none :: r,_ :: r'=>Kp r r'
 |some v :: r,o :: r'=>o=some v/\Kp r r'
 | _,_=>False
theorem Kp.length:∀ {a b:St},Kp a b->a.length=b.length
 |[],[],_=>rfl
 |none :: r,_ :: r',h=>congrArg (· + 1) (Kp.length (a:=r) (b:=r') h)
 |some v :: r,o :: r',h=>congrArg (· + 1) (Kp.length (a:=r) (b:=r') h.2)
 |[],_ :: _,h=>h.elim
 |none :: _,[],h=>h.elim
 |some _ :: _,[],h=>h.elim
theorem Kp.get:∀ {a b:St},Kp a b->∀ (i:Nat) (v:V),a[i]?=some (some v)->b[i]?=some (some v)
 |[],[],_,i,v,e=>e
 |none :: r,_ :: r',h,0,v,e=>by simp at e
 |none :: r,_ :: r',h,i+1,v,e=>by simpa using Kp.get (a:=r) (b:=r') h i v (by simpa using e)
 |some w :: r,o :: r',h,0,v,e=>by rw[h.1];simpa using e
 |some w :: r,o :: r',h,i+1,v,e=>by simpa using Kp.get (a:=r) (b:=r') h.2 i v (by simpa using e)
 |[],_ :: _,h,_,_,_=>h.elim
 |none :: _,[],h,_,_,_=>h.elim
 |some _ :: _,[],h,_,_,_=>h.elim
noncomputable def compTurns(J:It)(cap:List (Option Nat))(σ:St)(H1:Hp)(Q:VK)(g:TG)(tc:TT)(te:TE):Prop:=∃ (n:Nat) (P:Nat->List V->Hp->Prop),n<=sizeLine/\P 0 [] H1 /\
 ∀ i ys H,ys.length<=i->i<=n->P i ys H->(J.stop i H/\∀ D,H D=none->Q (.ref D) (upd H D (.lst ys))) \/
  (i<n/\J.go i H/\∀ x H',J.yld i H x H'->g x (capt cap σ) H' fun σ2 H2=>Kp (capt cap σ) σ2/\tc σ2 H2 fun b H3=>if b=true then te σ2 H3 fun y H4=>P (i+1) (ys++[y]) H4 else P (i+1) ys H3)
noncomputable def tComp(cap:List (Option Nat))(wi:TI)(g:TG)(tc:TT)(te:TE):TE:=fun σ H Q=>wi σ H fun J H1=>compTurns J cap σ H1 Q g tc te
noncomputable def CompEnd(X:Cx)(pins:List (Addr×Obj))(σ:St)(Q:VK)(acc:Value)(C:Addr)(r:Result)(s':Shared):Prop :=
 match r with
 | .ok _=>∃ v H',Inv X pins σ H' s'/\RelV v acc/\Q v H'/\(∃ m,s'.heap.Ns C m)/\FpOk X pins H' C
 | .error _=>False
section
variable{X:Cx}{elt tg iter:Expr}{ifs:List Expr}{scope:Scope}{pos:Pos}{N':List Str}{cap:List (Option Nat)}{wi:TI}{g:TG}{tc:TT}{te:TE}
theorem comp_run(hc:X.calm=true)(S:CompScope N' cap X.N X.env.scope scope)(hi:PI X tg iter wi)(hg:∀ C s H fp,PG (cxIn X N' scope C s H fp) tg g)
  (ht:∀ C s H fp,PF (cxIn X N' scope C s H fp) ifs tc) (he:∀ C s H fp,PE (cxIn X N' scope C s H fp) elt te)
  {pins:List (Addr×Obj)}{s:Shared}{σ:St}{H:Hp}{Q:VK} (I:Inv X pins σ H s) (h:tComp cap wi g tc te σ H Q) :
  wpAny (model X.prog X.w) X.A (eval iter X.env) (fun x s₁=>wpAny (model X.prog X.w) X.A (pyIter x) (fun it s₂=>wpAny (model X.prog X.w) X.A (newList []) (fun acc s₃ =>
   wpAny (model X.prog X.w) X.A (newFunctionEnv scope X.env.globals (closCl X.env.cells scope.names []) [] X.env.qual none .none (some X.env)) (fun cenv s₄ =>
    codeAny (model X.prog X.w) X.A (.compStart (.ListComp elt [⟨tg,iter,ifs,0⟩] scope pos) 0 it acc { cenv with scope:=relabel scope X.env }) (CompEnd X pins σ Q acc cenv.locals) s₄) X.xe s₃) X.xe s₂) X.xe s₁) X.xe s:=by
 refine thn (hi pins s σ H _ I h) fun v s1 h1=>thn h1 fun itv s2 h2=>?_
 obtain⟨it,fp,tn,J,H2,e,I2,T,st2,f2,n,P,hn,p0,turn⟩:=h2
 subst e
 refine wpAny_newObj_type (wpAny_newFunctionEnv S.nocell (by intro y hy;simp at hy) (fun h₁ hns₁ hsb₁=>?_) S.kind)
 dsimp only at hns₁ hsb₁ ⊢
 generalize hHp:s2.heap.push { cls:=.type "list",dict:=none,data:=.seq ([]:List Value).toArray } = Hq at hns₁ hsb₁ ⊢
 have hC:Hq.objs.size=s2.heap.objs.size+1:=by rw[<- hHp,Heap.size_push]
 have hDC:s2.heap.objs.size≠Hq.objs.size:=by rw[hC];exact Nat.ne_of_lt (Nat.lt_succ_self _)
 have hCle:s2.heap.objs.size<=Hq.objs.size:=by rw[hC];exact Nat.le_succ _
 have old:∀ b o,s2.heap.get? b=some o->h₁.get? b=some o:=fun b o e =>
  hsb₁.extBut b o (by rw[hC];exact Nat.ne_of_lt (Nat.lt_succ_of_lt (Heap.lt_size e))) (Heap.get?_push_of_some _ (hHp▸Heap.get?_push_of_some _ e))
 have hacc:h₁.PlainList s2.heap.objs.size #[]:=⟨_,hsb₁.extBut _ _ hDC (Heap.get?_push_of_some _ (hHp▸Heap.get?_push_size _ rfl))⟩
 have hfo:∀ b∈fp,∃ o,s2.heap.get? b=some o:=fun b hb=>let ⟨o,e,_⟩:=T.obj _ _ st2 b hb;⟨o,e⟩
 have st4:tn 0 h₁:=T.keep _ _ _ st2 fun b _ o e=>old b o e
 let D:Addr:=s2.heap.objs.size
 let C:Addr:=Hq.objs.size
 let Y:Cx:=cxIn X N' scope C s2 H2 fp
 have hDfp:D∉fp:=fun hb=>by
  obtain⟨o,e⟩:=hfo D hb
  exact Nat.lt_irrefl _ (Heap.lt_size e)
 -- the iterator's objects,seen from within
 have stat:∀ {H':Hp}{oD:Obj},(∀ b∈fp,H' b=none)->∀ b∈fp,FpOk Y (pins++[(D,oD)]) H' b:=fun {H' oD} hn b hb=>by
  obtain⟨f0,f1,fx,f3,f4,f5⟩:=f2 b hb
  obtain⟨o,e⟩:=hfo b hb
  refine⟨hn b hb,fun z=>?_,fun z=>?_,.inl hb,fun x c e=>f4 x c (closCl_sound _ _ (S.clos I2) (fun y c e=>by simp at e) x c e),fun p hp=>?_⟩
  ·have h1:=Nat.lt_of_lt_of_le (Heap.lt_size e) hCle
   have z:b=Hq.objs.size:=z
   rw[z]at h1
   exact Nat.lt_irrefl _ h1
  ·rcases List.mem_cons.mp (I2.stkSub b z)with e | e
   ·exact f1 e
   ·exact fx e
  ·have hp:p∈X.pn++(pins++[(D,oD)]):=hp
   rw[<- List.append_assoc]at hp
   rcases List.mem_append.mp hp with hp | hp
   ·exact f5 p hp
   ·have q:p=(D,oD):=by simpa using hp
    subst q
    exact fun z=>hDfp (by rw[show D=b from z];exact hb)
 have loop:∀ s₃:Shared,s₃ = { s2 with heap:=h₁,toks:=s2.toks+([]:List (Str×Value)).length } ->
   codeAny (model X.prog X.w) X.A (.compLoop (.ListComp elt [⟨tg,iter,ifs,0⟩] scope pos) 0 (.ref it) (.ref s2.heap.objs.size) (compEnvC scope (closCl X.env.cells scope.names []) Hq.objs.size X.env))
    (CompEnd X pins σ Q (.ref s2.heap.objs.size) Hq.objs.size) s₃:=by
  rintro s₃ rfl
  have cellD:∀ x c,Y.env.cells.lookup x=some c->c≠D:=fun x c e z=>by
   obtain⟨v,q⟩:=I2.cell x c (closCl_sound _ _ (S.clos I2) (fun y c e=>by simp at e) x c e)
   have h1:=q.lt
   rw[show c=s2.heap.objs.size from z]at h1
   exact Nat.lt_irrefl _ h1
  have pinD:∀ p∈X.pn++pins,p.1≠D:=fun p hp z=>by
   have h1:=Heap.lt_size (I2.pin p hp).1
   rw[show p.1=s2.heap.objs.size from z]at h1
   exact Nat.lt_irrefl _ h1
  have inD:∀ {pl:List (Addr×Obj)}{oD:Obj},(D,oD)∈Y.pn++((pins++[(D,oD)])++pl):=fun {pl oD}=>List.mem_append_right _ (List.mem_append_left _ (List.mem_append_right _ (by simp)))
  have inF:∀ {pl:List (Addr×Obj)}{oD:Obj}{p:Addr×Obj},p∈pl->p∈Y.pn++((pins++[(D,oD)])++pl):=fun {pl oD p} hp=>List.mem_append_right _ (List.mem_append_right _ hp)
  refine codeAny_compLoop_any (fun m s'=>∃ i ys H' its ep,m=n-i/\i<=n/\ys.length<=i/\Vals ys its/\Inv Y (pins++[(D,{ cls:=.type "list",data:=.seq its.toArray ep })]) (capt cap σ) H' s'/\tn i s'.heap/\(∀ b∈fp,H' b=none)/\P i ys H') ?_ n ?_
  ·rintro m s3 ⟨i,ys,H3,its,ep,rfl,hin,hyl,rv,I3,st3,fr3,p3⟩
   rcases turn i ys H3 hyl hin p3 with⟨stop,q⟩ |⟨hlt,go,step⟩
   ·refine thn (T.done Y rfl rfl rfl hc i _ s3 _ H3 (fun _ _=>False) I3 (stat fr3) st3 stop) fun r s4 ⟨hr,I4⟩=>?_
    subst hr
    obtain⟨eD,nD,_⟩:=I4.pin (D,{ cls:=.type "list",data:=.seq its.toArray ep }) (List.mem_append_right _ (List.mem_append_right _ (by simp)))
    have nD:H3 D=none:=nD
    have okn:ObjOk X.prog X.w (upd H3 D (.lst ys)) s4.heap D (.lst ys):=⟨Nat.le_trans hyl (Nat.le_trans hin hn),its,ep,rv,eD⟩
    have hok:HOk X.prog X.w (upd H3 D (.lst ys)) s4.heap:=fun b u e=>by
     by_cases hb:b=D
     ·subst hb;rw[upd_same]at e;cases e;exact okn
     ·rw[upd_ne hb]at e
      exact(I4.hok b u e).stay (fun c v _ q=>q) (fun c q=>by rw[upd_ne (ne_of_none q nD)];exact q) fun c xs q=>by rw[upd_ne (ne_of_none q nD)];exact q
    have B:=I4.base
    have u:Un (frs X.stack) fp H2 (upd H3 D (.lst ys)) s2.heap s4.heap :=
     ⟨B.keep,B.slot,fun b o e n hx=>by rw[upd_ne (Nat.ne_of_lt (Heap.lt_size e))];exact B.free b o e n hx,B.there,fun b xs e=>by rw[upd_ne (ne_of_none (B.tups b xs e) nD)];exact B.tups b xs e,
      fun b o xs e=>by rw[upd_ne (ne_of_none (B.frzs b o xs e) nD)];exact B.frzs b o xs e,fun b ps e=>by
       obtain⟨more,z⟩:=B.tbls b ps e
       exact⟨more,by rw[upd_ne (ne_of_none z nD)];exact z⟩⟩
    have IX:Inv X pins σ (upd H3 D (.lst ys)) s4:=I2.call' (ch:=fp) I4.os u hok I4.bare fun b hb=>by
     obtain⟨f0,f1,fx,f3,f4,f5⟩:=f2 b hb
     exact⟨f3,f1,f4,f5⟩
    have nC:(upd H3 D (.lst ys)) Hq.objs.size=none:=by rw[upd_ne (Ne.symm hDC)];exact I4.free
    obtain⟨m',hm',_⟩:=I4.loc
    exact⟨.ref D,_,IX,rfl,q D nD,⟨m',hm'⟩,I2.fpOk hCle nC⟩
   ·refine thn (T.item Y rfl rfl rfl hc i _ s3 _ H3 (fun _ _=>False) I3 (stat fr3) st3 go) fun r s4 ⟨u,hr,h4⟩=>?_
    subst hr
    refine thn h4 fun _ s5 ⟨x,H5,I5,r5,y5,st5,fr5⟩=>?_
    have I5':=I5.pinned (stat fr5) (T.obj _ _ st5)
    refine thn (hg C s2 H2 fp _ s5 _ H5 x u _ I5' r5 (step x H5 y5)) fun _ s6 ⟨σ6,H6,I6,kp,q6⟩=>?_
    refine thn (ht C s2 H2 fp _ s6 σ6 H6 _ I6 q6) fun b s7 ⟨H7,I7,q7⟩=>?_
    cases b with
    |false =>
     rw[if_neg Bool.false_ne_true]at q7 ⊢
     refine⟨n-(i+1),Nat.sub_succ_lt_self n i hlt,i+1,ys,H7,its,ep,rfl,hlt,Nat.le_succ_of_le hyl,rv,I7.unpinned.weak kp.length kp.get,?_,fun b hb=>?_,q7⟩
     ·exact T.keep _ _ _ st5 fun b hb o e=>(I7.pin (b,o) (inF (mem_pinsAt hb e))).1
     ·obtain⟨o,e,d⟩:=T.obj _ _ st5 b hb
      exact(I7.pin (b,o) (inF (mem_pinsAt hb e))).2.1
    |true =>
     rw[if_pos rfl]at q7 ⊢
     refine thn (he C s2 H2 fp _ s7 σ6 H7 _ I7 q7) fun yv s8 ⟨y,H8,I8,r8,q8⟩=>?_
     obtain⟨eD,nD,_⟩:=I8.pin (D,{ cls:=.type "list",data:=.seq its.toArray ep }) inD
     have hsz:its.toArray.size<=sizeLine:=by
      rw[List.size_toArray,<- rv.length]
      exact Nat.le_trans hyl (Nat.le_trans hin hn)
     refine wpAny_list_append_plain (items:=its.toArray) ⟨ep,eD⟩ (fun h9 pl9 sb9=>?_) hsz
     obtain⟨ep',e9⟩:=pl9
     have e9:h9.get? D=some { cls:=.type "list",data:=.seq (its++[yv]).toArray ep' }:=by rw[e9];simp
     have Ia:Inv Y pins σ6 H8 s8:=I8.pins_of fun p hp=>I8.pin p (List.mem_append_right _ (List.mem_append_left _ (List.mem_append_left _ hp)))
     have Ib:Inv Y pins σ6 H8 { s8 with heap:=h9 }:=Ia.turned (it:=D) (t':=s8.toks) (fun b o hb e=>(sb9.2 b hb).trans e) nD hDC (.inr (Nat.le_refl _)) cellD pinD
     have Ic:Inv Y (pins++[(D,{ cls:=.type "list",data:=.seq (its++[yv]).toArray ep' })]) σ6 H8 { s8 with heap:=h9 }:=Ib.pins_of fun p hp=>by
      rcases List.mem_append.mp hp with hp | hp
      ·exact Ib.pin p (List.mem_append_right _ hp)
      ·have q:p=(D,{ cls:=.type "list",data:=.seq (its++[yv]).toArray ep' }):=by simpa using hp
       subst q
       obtain⟨_,_,z1,z2,_⟩:=I8.pin (D,{ cls:=.type "list",data:=.seq its.toArray ep }) inD
       exact⟨e9,nD,z1,z2,fun v z=>by cases z⟩
     refine⟨n-(i+1),Nat.sub_succ_lt_self n i hlt,i+1,ys++[y],H8,its++[yv],ep',rfl,hlt,by simp;omega,Vals.append rv (.cons r8 .nil),Ic.weak kp.length kp.get,?_,fun b hb=>?_,q8⟩
     ·exact T.keep _ _ _ st5 fun b hb o e=>sb9.extBut b o (fun z=>hDfp (by rw[show D=b from Eq.symm z];exact hb)) (I8.pin (b,o) (inF (mem_pinsAt hb e))).1
     ·obtain⟨o,e,d⟩:=T.obj _ _ st5 b hb
      exact(I8.pin (b,o) (inF (mem_pinsAt hb e))).2.1
  ·obtain⟨ep,e⟩:=hacc
   refine⟨0,[],H2,[],ep,rfl,Nat.zero_le _,Nat.le_refl _,.nil,?_,st4,fun b hb=>(f2 b hb).1,p0⟩
   exact cxIn_inv (s4:={ s2 with heap:=h₁,toks:=s2.toks+([]:List (Str×Value)).length }) S I2 hCle f2 hfo rfl rfl old hns₁ e (Nat.le_refl _) hDC fun v z=>by cases z
 exact codeAny_compStart_list (loop _ rfl) (T.self X.A 0 _ _ _ st4 (loop _ rfl))
theorem pe_comp(hc:X.calm=true)(S:CompScope N' cap X.N X.env.scope scope)(hi:PI X tg iter wi)(hg:∀ C s H fp,PG (cxIn X N' scope C s H fp) tg g)
  (ht:∀ C s H fp,PF (cxIn X N' scope C s H fp) ifs tc) (he:∀ C s H fp,PE (cxIn X N' scope C s H fp) elt te)
  (hs:∀ x,foldedSetIterable iter X.env x=pure x:=by intro _;rfl):PE X (.ListComp elt [⟨tg,iter,ifs,0⟩] scope pos) (tComp cap wi g tc te):=by
 intro pins s σ H Q I h
 rw[eval_ListComp]
 refine wpAny_comprehension_free (use:=none) rfl hs (closureFor_cells (S.clos I)) S.kind S.loc (thn (comp_run (pos:=pos) hc S hi hg ht he I h) fun x s1 h1=>thn h1 fun it s2 h2=>thn h2 fun acc s3 h3=>thn h3 fun cenv s4 h4=>?_)
 refine codeAny_mono h4 fun r s' hr=>?_
 cases r with
 |error x=>exact hr.elim
 |ok f =>
  obtain⟨v,H',I',rv,q,⟨m,hn⟩,f0,f1,f2,f3,f4,f5⟩:=hr
  refine⟨m,hn,fun h' sb=>⟨v,H',I'.turned (it:=cenv.locals) (t':=s'.toks) (fun b o hb e=>(sb.2 b hb).trans e) f0 f1 f3 f4 f5,rv,q⟩⟩
theorem ps_comp{i:Nat}{x:Str}{pos' spos:Pos}(hN:X.N.Nodup)(hx:X.N[i]?=some x)(hl:Loc X.env.scope x)(hc:X.calm=true)(S:CompScope N' cap X.N X.env.scope scope)(hi:PI X tg iter wi)(hg:∀ C s H fp,PG (cxIn X N' scope C s H fp) tg g)
  (ht:∀ C s H fp,PF (cxIn X N' scope C s H fp) ifs tc) (he:∀ C s H fp,PE (cxIn X N' scope C s H fp) elt te)
  (hs:∀ x,foldedSetIterable iter X.env x=pure x:=by intro _;rfl) (hsw:swapsWith (.ListComp elt [⟨tg,iter,ifs,0⟩] scope pos) (some (.Name x pos')) spos.line X.env=pure true:=by rfl)
  (hf:X.fn x=true\/X.env.scope.names.lookup x=some .local:=by first | exact .inl rfl | exact .inr rfl | assumption) :
  PS X (.Assign [.Name x pos'] (.ListComp elt [⟨tg,iter,ifs,0⟩] scope pos) spos) (tAsg (tComp cap wi g tc te) (gName i)):=by
 intro pins s σ H D I h
 rw[exec_Assign_Name_used _ _ _ _ hsw]
 refine wpAny_bind (wpAny_standAt (wpAny_bind ?_))
 show wpAny _ _ (do let _ <- comprehension (.ListComp elt [⟨tg,iter,ifs,0⟩] scope pos) scope X.env _ (newList []) false (eval iter X.env) (some (assign (.Name x pos') X.env))) _ _ s
 refine wpAny_bind (wpAny_mono (wpAny_comprehension_free (use:=some (assign (.Name x pos') X.env)) (Q:=fun _ s'=>SP X pins D .next s') rfl hs (closureFor_cells (S.clos I)) S.kind S.loc
  (thn (comp_run (pos:=pos) hc S hi hg ht he I h) fun x s1 h1=>thn h1 fun it s2 h2=>thn h2 fun acc s3 h3=>thn h3 fun cenv s4 h4=>?_)) (fun _ s' hq=>wpAny_pure (wpAny_pure hq)) fun _ _ e=>e)
 refine codeAny_mono h4 fun r s' hr=>?_
 cases r with
 |error x=>exact hr.elim
 |ok f =>
  obtain⟨v,H',I',rv,q,⟨m,hn⟩,f0,f1,f2,f3,f4,f5⟩:=hr
  show wpAny _ _ (assign (.Name _ pos') X.env acc) _ _ _
  refine wpAny_assign_Name (store_ok2 I' hN hx hl rv (fun s'' I'' ⟨a,sb,ha⟩=>?_) hf)
  have hac:cenv.locals≠a:=by
   rcases ha with ha | ha
   ·rw[ha];exact f1
   ·exact Ne.symm (f4 _ a ha)
  refine⟨m,hn.sameBut sb hac,fun h' sb'=>⟨_,H',I''.turned (it:=cenv.locals) (t':=s''.toks) (fun b o hb e=>(sb'.2 b hb).trans e) f0 f1 f3 f4 f5,q⟩⟩
end
end L2
namespace Srt
open PySem PyProof.Rows
noncomputable def LtOk(κ:KeyKind)(kd:SortKind)(prog:Program)(w:World)(A:Around)(s:Shared):Prop :=
 ∀ (E:Value->Shared->Prop) (x y:Keyed) (a b:κ.α) (Q:Option Bool->SortSt->Prop) (st:SortSt),kindOf st=kd->κ.keyOf x.1=some a->κ.keyOf y.1=some b ->
  Q (some (κ.blt a b)) st->wpS (model prog w) A E s (lt' x y) Q st
structure SB(kd:SortKind)(a₀ b:Array Keyed)(lo:Nat)(pd:Array (Nat×Nat×Nat))(st:SortSt):Prop where
 perm:(arrOf st).Perm a₀
 kind:kindOf st=kd
 failed:failedOf st=none
 pend:pendingOf st=pd
 low:∀ k,k<lo->(arrOf st)[k]?=b[k]?
noncomputable def SIn(κ:KeyKind)(xs:Array Keyed)(lo n:Nat):Prop:=∀ i j,i<=j->j<n->κ.kle (KK κ xs (lo+i)) (KK κ xs (lo+j))
noncomputable def DIn(κ:KeyKind)(xs:Array Keyed)(lo n:Nat):Prop:=∀ i j,i<=j->j<n->κ.kle (KK κ xs (lo+j)) (KK κ xs (lo+i))
theorem at_key{κ:KeyKind}{a₀ xs:Array Keyed}(hp:xs.Perm a₀)(h0:KeysOf κ a₀){i:Nat}(hi:i<xs.size):∃ p a,xs[i]?=some p/\κ.keyOf p.1=some a/\KK κ xs i=a:=by
 have hm:xs[i]∈a₀.toList:=(Array.perm_iff_toList_perm.mp hp).mem_iff.mp (by simp)
 obtain⟨a,ha⟩:=h0 _ hm
 have e:xs[i]?=some xs[i]:=getElem?_pos _ i hi
 refine⟨xs[i],a,e,ha,?_⟩
 unfold KK;rw[e];simp[ha]
section
variable{prog:Program}{w:World}{A:Around}{E:Value->Shared->Prop}{s:Shared}{a₀ b:Array Keyed}{κ:KeyKind}{kd:SortKind}{lo:Nat}{pd:Array (Nat×Nat×Nat)}
theorem SB.size{st:SortSt}(h:SB kd a₀ b lo pd st):(arrOf st).size=a₀.size:=h.perm.size_eq
theorem SB.arr{st:SortSt}(h:SB kd a₀ b lo pd st){xs:Array Keyed}(hp:xs.Perm (arrOf st))(hl:∀ k,k<lo->xs[k]?=(arrOf st)[k]?):SB kd a₀ b lo pd (setArr st xs) :=
 ⟨hp.trans h.perm,h.kind,h.failed,h.pend,fun k hk=>(hl k hk).trans (h.low k hk)⟩
theorem SB.mirror{st:SortSt}(h:SB kd a₀ b lo pd st){i j:Nat}(hi:lo<=i)(hj:j<=a₀.size):SB kd a₀ b lo pd (setArr st (mirror (arrOf st) i j ((j-i) / 2))) :=
 h.arr (mirror_perm _ _ _ _) fun k hk=>by rw[getElem?_mirror_all (by rw[h.size];exact hj),if_neg (by lia)]
theorem elem_ok{arr:Array Keyed}{i:Nat}{p:Keyed}{Q:Keyed->SortSt->Prop}{st:SortSt}(h:arr[i]?=some p)(hq:Q p st):wpS (model prog w) A E s (elem' arr i) Q st:=by
 rw[elem'_eq,h];exact wpS_pure hq
theorem ltAt_ok{st:SortSt}{i j:Nat}{Q:Option Bool->SortSt->Prop}(hO:LtOk κ kd prog w A s)(hB:SB kd a₀ b lo pd st)(h0:KeysOf κ a₀)(hi:i<a₀.size)(hj:j<a₀.size)
  (h:Q (some (κ.blt (KK κ (arrOf st) i) (KK κ (arrOf st) j))) st):wpS (model prog w) A E s (ltAt' i j) Q st:=by
 obtain⟨x,a,e1,ha,ka⟩:=at_key hB.perm h0 (i:=i) (by rw[hB.size];exact hi)
 obtain⟨y,c,e2,hc,kc⟩:=at_key hB.perm h0 (i:=j) (by rw[hB.size];exact hj)
 rw[ka,kc]at h
 rw[ltAt'_eq]
 refine wpS_bind (wpS_get (wpS_bind (elem_ok e1 (wpS_bind (elem_ok e2 ?_)))))
 exact hO E x y a c Q st hB.kind ha hc h
theorem rev_ok{st:SortSt}{i j:Nat}{Q:Unit->SortSt->Prop}(h:Q () (setArr st (mirror (arrOf st) i j ((j-i) / 2)))):wpS (model prog w) A E s (reverseSlice' i j) Q st:=by
 rw[reverseSlice'_eq];exact wpS_modify h
theorem bcong{σ α β:Type}{m m':StateT σ Sem α}{f f':α->StateT σ Sem β}(h:m=m')(hf:∀ a,f a=f' a):(m >>= f)=(m' >>= f'):=by
 subst h
 rw[show f=f' from funext hf]
noncomputable def asc(lo a nrem:Nat):StateT SortSt Sem AscSt :=
 forIn [a:nrem] ((none,a):AscSt) fun _ c=>do
  let x <- ltAt' (lo+c.2) (lo+c.2-1)
  match x with
  |some sm=>if sm=true then pure (ForInStep.done (none,c.2))else pure (ForInStep.yield (none,c.2+1))
  | _=>pure (ForInStep.done (some none,c.2))
noncomputable def tl3(lo n nrem:Nat):StateT SortSt Sem (Option Nat):=do
 reverseSlice' lo (lo+n)
 let c <- asc lo n nrem
 match c.1 with
 |some r=>pure r
 |none=>pure (some c.2)
noncomputable def dsc(lo n nrem:Nat):StateT SortSt Sem DescSt :=
 forIn [n:nrem] ((none,n,0):DescSt) fun _ c=>do
  let x <- ltAt' (lo+c.2.1) (lo+c.2.1-1)
  match x with
  |some sm =>
   if sm=true then
    if c.2.2 > 0 then do
     reverseSlice' (lo+c.2.1-(c.2.2+1)) (lo+c.2.1)
     pure (ForInStep.yield (none,c.2.1+1,0))
    else pure (ForInStep.yield (none,c.2.1+1,0))
   else do
    let x <- ltAt' (lo+c.2.1-1) (lo+c.2.1)
    match x with
    |some la =>
     if la=true then pure (ForInStep.done (none,c.2.1,c.2.2))
     else pure (ForInStep.yield (none,c.2.1+1,c.2.2+1))
    | _=>pure (ForInStep.done (some none,c.2.1,c.2.2))
  | _=>pure (ForInStep.done (some none,c.2.1,c.2.2))
noncomputable def dpt(lo n nrem:Nat):StateT SortSt Sem (Option Nat):=do
 liftM (rule "list.sort.descending-run")
 let c <- dsc lo (n+1) nrem
 match c.1 with
 |some r=>pure r
 |none =>
  if c.2.2 > 0 then do
   reverseSlice' (lo+c.2.1-(c.2.2+1)) (lo+c.2.1)
   tl3 lo c.2.1 nrem
  else tl3 lo c.2.1 nrem
theorem count_eq(lo nrem:Nat):countRun' lo nrem=(do
  let c <- asc lo 1 nrem
  match c.1 with
  |some r=>pure r
  |none =>
   if(c.2 == nrem)=true then pure (some c.2)
   else if c.2 > 1 then do
    let x <- ltAt' lo (lo+c.2-1)
    match x with
    |some rose=>if rose=true then pure (some c.2)else do
      reverseSlice' lo (lo+c.2)
      dpt lo c.2 nrem
    | _=>pure none
   else dpt lo c.2 nrem):=by
 rw[countRun'_eq]
 unfold dpt tl3 dsc asc
 refine bcong rfl fun c=>?_
 obtain⟨r,n⟩:=c
 cases r with
 |some r=>rfl
 |none =>
  dsimp only
  split
  ·rfl
  ·split
   ·refine bcong rfl fun x=>?_
    cases x with
    |none=>rfl
    |some rose =>
     dsimp only
     split
     ·rfl
     ·refine bcong rfl fun _=>bcong rfl fun _=>bcong rfl fun s2=>?_
      obtain⟨r2,n2,q2⟩:=s2
      cases r2 with
      |some r2=>rfl
      |none =>
       dsimp only
       split
       ·refine bcong rfl fun _=>bcong rfl fun _=>bcong rfl fun s3=>?_
        obtain⟨r3,n3⟩:=s3
        cases r3 <;> rfl
       ·refine bcong rfl fun _=>bcong rfl fun s3=>?_
        obtain⟨r3,n3⟩:=s3
        cases r3 <;> rfl
   ·refine bcong rfl fun _=>bcong rfl fun s2=>?_
    obtain⟨r2,n2,q2⟩:=s2
    cases r2 with
    |some r2=>rfl
    |none =>
     dsimp only
     split
     ·refine bcong rfl fun _=>bcong rfl fun _=>bcong rfl fun s3=>?_
      obtain⟨r3,n3⟩:=s3
      cases r3 <;> rfl
     ·refine bcong rfl fun _=>bcong rfl fun s3=>?_
      obtain⟨r3,n3⟩:=s3
      cases r3 <;> rfl
theorem asc_ok{st:SortSt}{a nrem:Nat}{Q:AscSt->SortSt->Prop}(hO:LtOk κ kd prog w A s)(h0:KeysOf κ a₀)(hn:lo+nrem<=a₀.size)(ha:1<=a)(han:a<=nrem)(hB:SB kd a₀ b lo pd st)(hs:SIn κ (arrOf st) lo a)
  (h:∀ n,a<=n->n<=nrem->SIn κ (arrOf st) lo n->(n=nrem\/κ.klt (KK κ (arrOf st) (lo+n)) (KK κ (arrOf st) (lo+n-1)))->Q (none,n) st):wpS (model prog w) A E s (asc lo a nrem) Q st:=by
 unfold asc
 refine wpS_forRange (I:=fun x c st'=>st'=st/\c=(none,x)/\SIn κ (arrOf st) lo x) ?step ?fin ⟨rfl,rfl,hs⟩
 case fin =>
  rintro c st' ⟨rfl,rfl,g⟩
  rw[show max a nrem=nrem by lia]at g ⊢
  exact h nrem han (Nat.le_refl _) g (.inl rfl)
 case step =>
  rintro x c st' hax hxn ⟨rfl,rfl,g⟩
  dsimp only
  refine wpS_bind (ltAt_ok hO hB h0 (by lia) (by omega) ?_)
  cases q:κ.blt (KK κ (arrOf st') (lo+x)) (KK κ (arrOf st') (lo+x-1))with
  |true=>exact wpS_pure (h x hax (by lia) g (.inr q))
  |false =>
   refine wpS_pure ⟨rfl,rfl,fun i j hij hj=>?_⟩
   by_cases z:j<x
   ·exact g i j hij z
   ·have z:j=x:=by lia
    subst z
    by_cases y:i=j
    ·subst y;exact KeyOrd.kle_refl _
    ·have u:=g i (j-1) (by lia) (by lia)
     rw[show lo+(j-1)=lo+j-1 by lia]at u
     exact KeyOrd.kle_trans u q
theorem tl3_ok{st:SortSt}{n nrem:Nat}{Q:Option Nat->SortSt->Prop}(hO:LtOk κ kd prog w A s)(h0:KeysOf κ a₀)(hn:lo+nrem<=a₀.size)(h1:1<=n)(hnn:n<=nrem)(hB:SB kd a₀ b lo pd st)(hs:DIn κ (arrOf st) lo n)
  (h:∀ m st',SB kd a₀ b lo pd st'->1<=m->m<=nrem->SIn κ (arrOf st') lo m->Q (some m) st'):wpS (model prog w) A E s (tl3 lo n nrem) Q st:=by
 unfold tl3
 have hsz:lo+n<=(arrOf st).size:=by rw[hB.size];lia
 have hB':=hB.mirror (i:=lo) (j:=lo+n) (Nat.le_refl _) (by lia)
 refine wpS_bind (rev_ok (wpS_bind (asc_ok hO h0 hn h1 hnn hB' ?_ fun m p1 p2 p3 _=>wpS_pure (h m _ hB' (by lia) p2 p3))))
 intro i j hij hj
 show κ.kle (KK κ (mirror (arrOf st) lo (lo+n) ((lo+n-lo) / 2)) (lo+i)) (KK κ (mirror (arrOf st) lo (lo+n) ((lo+n-lo) / 2)) (lo+j))
 rw[KK_mirror hsz,KK_mirror hsz,if_pos (by lia),if_pos (by lia),show lo+(lo+n)-1-(lo+i)=lo+(n-1-i) by lia,show lo+(lo+n)-1-(lo+j)=lo+(n-1-j) by omega]
 exact hs _ _ (by omega) (by omega)
theorem dsc_ok{st:SortSt}{n nrem:Nat}{Q:DescSt->SortSt->Prop}(hO:LtOk κ kd prog w A s)(h0:KeysOf κ a₀)(hn:lo+nrem<=a₀.size)(h1:1<=n)(hnn:n<=nrem)(hB:SB kd a₀ b lo pd st)(hs:DIn κ (arrOf st) lo n)
  (h:∀ m q st',SB kd a₀ b lo pd st'->n<=m->m<=nrem->DIn κ (arrOf st') lo m->q+1<=m->(∀ i,m-(q+1)<=i->i<m->KK κ (arrOf st') (lo+i)=KK κ (arrOf st') (lo+m-1))->Q (none,m,q) st') :
  wpS (model prog w) A E s (dsc lo n nrem) Q st:=by
 unfold dsc
 refine wpS_forRange (I:=fun x c st'=>∃ q,c=(none,x,q)/\SB kd a₀ b lo pd st'/\DIn κ (arrOf st') lo x/\q+1<=x/\(∀ i,x-(q+1)<=i->i<x->KK κ (arrOf st') (lo+i)=KK κ (arrOf st') (lo+x-1))) ?step ?fin
  ⟨0,rfl,hB,hs,by omega,fun i h1 h2=>by rw[show lo+i=lo+n-1 by lia]⟩
 case fin =>
  rintro c st' ⟨q,rfl,g1,g2,g3,g4⟩
  rw[show max n nrem=nrem by lia]at g2 g3 g4 ⊢
  exact h nrem q st' g1 hnn (Nat.le_refl _) g2 g3 g4
 case step =>
  rintro x c st' hax hxn ⟨q,rfl,g1,g2,g3,g4⟩
  dsimp only
  have hsz:lo+x<=(arrOf st').size:=by rw[g1.size];lia
  refine wpS_bind (ltAt_ok hO g1 h0 (by lia) (by lia) ?_)
  cases t:κ.blt (KK κ (arrOf st') (lo+x)) (KK κ (arrOf st') (lo+x-1))with
  |true =>
   have step1:∀ xs:Array Keyed,(∀ k,KK κ xs k=KK κ (arrOf st') k)->DIn κ xs lo (x+1):=by
    intro xs hk i j hij hj
    rw[hk,hk]
    by_cases z:j<x
    ·exact g2 i j hij z
    ·have z:j=x:=by lia
     subst z
     by_cases y:i=j
     ·subst y;exact KeyOrd.kle_refl _
     ·have u:=g2 i (j-1) (by lia) (by lia)
      rw[show lo+(j-1)=lo+j-1 by lia]at u
      exact KeyOrd.kle_trans (KeyOrd.kle_of_klt t) u
   dsimp only
   rw[if_pos rfl]
   by_cases y:q > 0
   ·rw[if_pos y]
    have eqs:∀ k,lo+x-(q+1)<=k->k<lo+x->KK κ (arrOf st') k=KK κ (arrOf st') (lo+x-1):=fun k k1 k2=>by
     have u:=g4 (k-lo) (by omega) (by lia)
     rwa [show lo+(k-lo)=k by lia]at u
    refine wpS_bind (rev_ok (wpS_pure ⟨0,rfl,g1.mirror (by omega) (by lia),step1 _ (KK_mirror_equal hsz eqs),by lia,fun i h1 h2=>by rw[show lo+i=lo+(x+1)-1 by lia]⟩))
   ·rw[if_neg y]
    exact wpS_pure ⟨0,rfl,g1,step1 _ (fun _=>rfl),by lia,fun i h1 h2=>by rw[show lo+i=lo+(x+1)-1 by lia]⟩
  |false =>
   dsimp only
   rw[if_neg Bool.false_ne_true]
   refine wpS_bind (ltAt_ok hO g1 h0 (by lia) (by lia) ?_)
   cases u:κ.blt (KK κ (arrOf st') (lo+x-1)) (KK κ (arrOf st') (lo+x))with
   |true=>exact wpS_pure (h x q st' g1 hax (by lia) g2 g3 g4)
   |false =>
    have ex:KK κ (arrOf st') (lo+x)=KK κ (arrOf st') (lo+x-1):=KeyOrd.kle_antisymm u t
    refine wpS_pure ⟨q+1,rfl,g1,fun i j hij hj=>?_,by lia,fun i h1 h2=>?_⟩
    ·by_cases z:j<x
     ·exact g2 i j hij z
     ·have z:j=x:=by lia
      subst z
      by_cases y:i=j
      ·subst y;exact KeyOrd.kle_refl _
      ·rw[ex]
       have v:=g2 i (j-1) (by lia) (by lia)
       rwa [show lo+(j-1)=lo+j-1 by lia]at v
    ·rw[show lo+(x+1)-1=lo+x by lia]
     by_cases z:i=x
     ·subst z;rfl
     ·rw[ex];exact g4 i (by lia) (by lia)
theorem dpt_ok{st:SortSt}{n nrem:Nat}{Q:Option Nat->SortSt->Prop}(hO:LtOk κ kd prog w A s)(h0:KeysOf κ a₀)(hn:lo+nrem<=a₀.size)(hnn:n+1<=nrem)(hB:SB kd a₀ b lo pd st)(hs:DIn κ (arrOf st) lo (n+1))
  (h:∀ m st',SB kd a₀ b lo pd st'->1<=m->m<=nrem->SIn κ (arrOf st') lo m->Q (some m) st'):wpS (model prog w) A E s (dpt lo n nrem) Q st:=by
 unfold dpt
 refine wpS_bind (wpS_lift (wpAny_rule ⟨rfl,wpS_bind (dsc_ok hO h0 hn (by lia) hnn hB hs fun m q st' g1 m1 m2 g2 g3 g4=>?_)⟩))
 dsimp only
 have hsz:lo+m<=(arrOf st').size:=by rw[g1.size];lia
 by_cases y:q > 0
 ·rw[if_pos y]
  have eqs:∀ k,lo+m-(q+1)<=k->k<lo+m->KK κ (arrOf st') k=KK κ (arrOf st') (lo+m-1):=fun k k1 k2=>by
   have u:=g4 (k-lo) (by omega) (by lia)
   rwa [show lo+(k-lo)=k by lia]at u
  refine wpS_bind (rev_ok (tl3_ok hO h0 hn (by lia) m2 (g1.mirror (by omega) (by lia)) (fun i j hij hj=>?_) h))
  show κ.kle (KK κ (mirror (arrOf st') _ _ _) (lo+j)) (KK κ (mirror (arrOf st') _ _ _) (lo+i))
  rw[KK_mirror_equal hsz eqs,KK_mirror_equal hsz eqs]
  exact g2 i j hij hj
 ·rw[if_neg y]
  exact tl3_ok hO h0 hn (by lia) m2 g1 g2 h
theorem count_ok{st:SortSt}{nrem:Nat}{Q:Option Nat->SortSt->Prop}(hO:LtOk κ kd prog w A s)(h0:KeysOf κ a₀)(hn:lo+nrem<=a₀.size)(h1:1<=nrem)(hB:SB kd a₀ b lo pd st)
  (h:∀ m st',SB kd a₀ b lo pd st'->1<=m->m<=nrem->SIn κ (arrOf st') lo m->Q (some m) st'):wpS (model prog w) A E s (countRun' lo nrem) Q st:=by
 rw[count_eq]
 refine wpS_bind (asc_ok hO h0 hn (Nat.le_refl 1) h1 hB (fun i j hij hj=>by rw[show i=j by lia];exact KeyOrd.kle_refl _) fun n n1 n2 g1 g2=>?_)
 dsimp only
 by_cases z:n=nrem
 ·rw[if_pos (by simpa using z)]
  exact wpS_pure (h n st hB n1 n2 g1)
 ·rw[if_neg (by simpa using z)]
  have t:=g2.resolve_left z
  by_cases y:n > 1
  ·rw[if_pos y]
   refine wpS_bind (ltAt_ok hO hB h0 (by lia) (by omega) ?_)
   cases u:κ.blt (KK κ (arrOf st) lo) (KK κ (arrOf st) (lo+n-1))with
   |true=>exact wpS_pure (h n st hB n1 n2 g1)
   |false =>
    have hsz:lo+n<=(arrOf st).size:=by rw[hB.size];lia
    have eqs:∀ k,lo<=k->k<lo+n->KK κ (arrOf st) k=KK κ (arrOf st) (lo+n-1):=fun k k1 k2=>by
     have a1:=g1 0 (k-lo) (by lia) (by omega)
     have a2:=g1 (k-lo) (n-1) (by lia) (by omega)
     rw[show lo+(k-lo)=k by lia]at a1 a2
     rw[show lo+(n-1)=lo+n-1 by lia]at a2
     exact KeyOrd.kle_antisymm a2 (KeyOrd.kle_trans u a1)
    dsimp only
    rw[if_neg Bool.false_ne_true]
    refine wpS_bind (rev_ok (dpt_ok hO h0 hn (by lia) (hB.mirror (Nat.le_refl _) (by lia)) (fun i j hij hj=>?_) h))
    show κ.kle (KK κ (mirror (arrOf st) _ _ _) (lo+j)) (KK κ (mirror (arrOf st) _ _ _) (lo+i))
    rw[KK_mirror_equal hsz eqs,KK_mirror_equal hsz eqs]
    by_cases v:j<n
    ·rw[eqs (lo+i) (by lia) (by lia),eqs (lo+j) (by lia) (by lia)];exact KeyOrd.kle_refl _
    ·have v:j=n:=by lia
     subst v
     by_cases v:i=j
     ·subst v;exact KeyOrd.kle_refl _
     ·rw[eqs (lo+i) (by lia) (by lia)];exact KeyOrd.kle_of_klt t
  ·rw[if_neg y]
   have z:n=1:=by lia
   subst z
   refine dpt_ok hO h0 hn (by lia) hB (fun i j hij hj=>?_) h
   by_cases v:i=j
   ·subst v;exact KeyOrd.kle_refl _
   ·have e1:i=0:=by lia
    have e2:j=1:=by lia
    subst e1 e2
    exact KeyOrd.kle_of_klt t
theorem bin_ok{st:SortSt}{n ok:Nat}{Q:Bool->SortSt->Prop}(hO:LtOk κ kd prog w A s)(h0:KeysOf κ a₀)(hn:lo+n<=a₀.size)(hok:ok<=n)(hB:SB kd a₀ b lo pd st)(hs:SIn κ (arrOf st) lo ok)
  (h:∀ st',SB kd a₀ b lo pd st'->SIn κ (arrOf st') lo n->Q true st'):wpS (model prog w) A E s (binarySort' lo n ok) Q st:=by
 rw[binarySort'_eq]
 refine wpS_bind (wpS_mono (wpS_forRange (I:=fun k c st'=>c=(none,())/\SB kd a₀ b lo pd st'/\SIn κ (arrOf st') lo (min k n)) (Q:=fun c st'=>c=(none,())/\SB kd a₀ b lo pd st'/\SIn κ (arrOf st') lo n) ?step ?fin ?init) ?post)
 case post =>
  rintro c st' ⟨rfl,g1,g2⟩
  exact wpS_pure (h st' g1 g2)
 case init =>
  refine⟨rfl,hB,fun i j hij hj=>?_⟩
  by_cases h1:ok=0
  ·rw[show i=j by lia];exact KeyOrd.kle_refl _
  ·exact hs i j hij (by lia)
 case fin =>
  rintro c st' ⟨g0,g1,g2⟩
  refine⟨g0,g1,?_⟩
  rwa [show min (max (max ok 1) n) n=n by lia]at g2
 case step =>
  rintro k c st' hak hkn ⟨rfl,g1,g2⟩
  rw[show min k n=k by lia]at g2
  have hk:lo+k<a₀.size:=by lia
  refine wpS_bind (wpS_mono (wpS_forRange (I:=fun x c st''=>st''=st'/\∃ l r,c=(none,l,r)/\l<=r/\r<=k/\r-l<=k-x/\(∀ i,i<l->κ.kle (KK κ (arrOf st') (lo+i)) (KK κ (arrOf st') (lo+k))) /\
     (∀ i,r<=i->i<k->κ.klt (KK κ (arrOf st') (lo+k)) (KK κ (arrOf st') (lo+i))))
   (Q:=fun c st''=>st''=st'/\∃ l r,c=(none,l,r)/\l<=k/\(∀ i,i<l->κ.kle (KK κ (arrOf st') (lo+i)) (KK κ (arrOf st') (lo+k)))/\(∀ i,l<=i->i<k->κ.klt (KK κ (arrOf st') (lo+k)) (KK κ (arrOf st') (lo+i)))) ?istep ?ifin ?iinit) ?ipost)
  case iinit=>exact⟨rfl,0,k,rfl,by lia,by lia,by lia,fun i hi=>by lia,fun i h1 h2=>by lia⟩
  case ifin =>
   rintro c st'' ⟨rfl,l,r,rfl,i1,i2,i3,i4,i5⟩
   have z:l=r:=by lia
   subst z
   exact⟨rfl,l,l,rfl,i2,i4,i5⟩
  case istep =>
   rintro x c st'' _ hxk ⟨rfl,l,r,rfl,i1,i2,i3,i4,i5⟩
   dsimp only
   by_cases y:l >= r
   ·rw[if_pos y]
    have z:l=r:=by lia
    subst z
    exact wpS_pure ⟨rfl,l,l,rfl,i2,i4,i5⟩
   ·rw[if_neg y]
    refine wpS_bind (ltAt_ok hO g1 h0 hk (by lia) ?_)
    cases t:κ.blt (KK κ (arrOf st'') (lo+k)) (KK κ (arrOf st'') (lo+(l+r) / 2))with
    |true =>
     refine wpS_pure ⟨rfl,l,(l+r) / 2,rfl,by lia,by lia,by omega,i4,fun i h1 h2=>?_⟩
     exact KeyOrd.klt_of_klt_of_kle t (g2 _ _ h1 h2)
    |false =>
     refine wpS_pure ⟨rfl,(l+r) / 2+1,r,rfl,by lia,by omega,by omega,fun i h1=>?_,i5⟩
     exact KeyOrd.kle_trans (g2 i ((l+r) / 2) (by lia) (by lia)) (show κ.kle _ _ from t)
  case ipost =>
   rintro c st'' ⟨rfl,l,r,rfl,i2,i4,i5⟩
   show wpS _ _ _ _ (do moveDown' (lo+k) (lo+l);pure (ForInStep.yield (none,()))) _ _
   rw[moveDown'_eq]
   have hks:lo+k <(arrOf st'').size:=by rw[g1.size];exact hk
   refine wpS_bind (wpS_modify (wpS_pure ⟨rfl,g1.arr (bubble_perm _ _ _) fun m hm=>?_,?_⟩))
   ·rw[getElem?_bubble hks _ (by omega),if_neg (by omega),if_neg (by omega)]
   rw[show min (k+1) n=k+1 by lia]
   intro i j hij hj
   show κ.kle (KK κ (bubble (arrOf st'') (lo+k) (lo+k-(lo+l))) (lo+i)) (KK κ (bubble (arrOf st'') (lo+k) (lo+k-(lo+l))) (lo+j))
   rw[KK_bubble hks (by omega),KK_bubble hks (by omega),show lo+k-(lo+k-(lo+l))=lo+l by lia]
   have sh:∀ m,lo+l<lo+m->lo+m-1=lo+(m-1):=fun m hm=>by lia
   repeat' split
   all_goals first
    |(exfalso;lia)
    |exact KeyOrd.kle_refl _
    |exact i4 _ (by lia)
    |(rw[sh _ (by lia)];exact KeyOrd.kle_of_klt (i5 _ (by lia) (by lia)))
    |exact KeyOrd.kle_of_klt (i5 _ (by omega) (by omega))
    |exact g2 _ _ (by omega) (by lia)
    |(rw[sh _ (by lia),sh _ (by lia)];exact g2 _ _ (by omega) (by lia))
    |(rw[sh _ (by lia)];exact g2 _ _ (by lia) (by omega))
end
open PySem PyProof.Rows
noncomputable def gallopP:Bool->Keyed->Array Keyed->Nat->Nat->Nat->StateT SortSt Sem (Option Nat):=sortPriv% PySem.Builtin.gallop
noncomputable def bey(left:Bool)(key:Keyed)(arr:Array Keyed)(base i:Nat):StateT SortSt Sem (Option Bool):=do
 let x <- elem' arr (base+i)
 if left then lt' x key else return (<- lt' key x).map (!·)
noncomputable def gUp(left:Bool)(key:Keyed)(arr:Array Keyed)(base n hint maxofs:Nat):StateT SortSt Sem (Option (Option Nat)×Nat×Nat) :=
 forIn [0:n] ((none,0,1):Option (Option Nat)×Nat×Nat) fun _ c=>do
  if c.2.2 >= maxofs then pure (.done (none,c.2.1,c.2.2))else do
   let x <- bey left key arr base (hint+c.2.2)
   match x with
   |some more=>if(!more)=true then pure (.done (none,c.2.1,c.2.2))else pure (.yield (none,c.2.2,2 * c.2.2+1))
   | _=>pure (.done (some none,c.2.1,c.2.2))
noncomputable def gDn(left:Bool)(key:Keyed)(arr:Array Keyed)(base n hint maxofs:Nat):StateT SortSt Sem (Option (Option Nat)×Nat×Nat) :=
 forIn [0:n] ((none,0,1):Option (Option Nat)×Nat×Nat) fun _ c=>do
  if c.2.2 >= maxofs then pure (.done (none,c.2.1,c.2.2))else do
   let x <- bey left key arr base (hint-c.2.2)
   match x with
   |some found=>if found=true then pure (.done (none,c.2.1,c.2.2))else pure (.yield (none,c.2.2,2 * c.2.2+1))
   | _=>pure (.done (some none,c.2.1,c.2.2))
noncomputable def gBin(left:Bool)(key:Keyed)(arr:Array Keyed)(base n lo hi:Nat):StateT SortSt Sem (Option Nat):=do
 let c <- forIn [0:n] ((none,lo,hi):Option (Option Nat)×Nat×Nat) fun _ c=>do
  if c.2.1 >= c.2.2 then pure (.done (none,c.2.1,c.2.2))else do
   let x <- bey left key arr base (c.2.1+(c.2.2-c.2.1) / 2)
   match x with
   |some more=>if more=true then pure (.yield (none,c.2.1+(c.2.2-c.2.1) / 2+1,c.2.2))else pure (.yield (none,c.2.1,c.2.1+(c.2.2-c.2.1) / 2))
   | _=>pure (.done (some none,c.2.1,c.2.2))
 match c.1 with
 |some r=>pure r
 |none=>pure (some c.2.2)
theorem gallop_eq(left:Bool)(key:Keyed)(arr:Array Keyed)(base n hint:Nat):gallopP left key arr base n hint=(do
  let x <- bey left key arr base hint
  match x with
  |some right =>
   if right=true then do
    let c <- gUp left key arr base n hint (n-hint)
    match c.1 with
    |some r=>pure r
    |none=>gBin left key arr base n (hint+c.2.1+1) (hint+min c.2.2 (n-hint))
   else do
    let c <- gDn left key arr base n hint (hint+1)
    match c.1 with
    |some r=>pure r
    |none=>gBin left key arr base n (hint+1-min c.2.2 (hint+1)) (hint-c.2.1)
  | _=>pure none):=by
 refine bcong (m:=bey left key arr base hint) rfl fun x=>?_
 cases x with
 |none=>rfl
 |some right =>
  dsimp only
  split
  ·refine bcong rfl fun c=>?_
   obtain⟨r,l,o⟩:=c
   cases r with
   |some r=>rfl
   |none =>
    refine bcong rfl fun c=>?_
    obtain⟨r,l,o⟩:=c
    cases r <;> rfl
  ·refine bcong rfl fun c=>?_
   obtain⟨r,l,o⟩:=c
   cases r with
   |some r=>rfl
   |none =>
    refine bcong rfl fun c=>?_
    obtain⟨r,l,o⟩:=c
    cases r <;> rfl
section
variable{prog:Program}{w:World}{A:Around}{E:Value->Shared->Prop}{s:Shared}{kd:SortKind}{left:Bool}{key:Keyed}{arr:Array Keyed}{base n hint:Nat}{Pr:Nat->Bool}{st:SortSt}
noncomputable def BeyOk(prog:Program)(w:World)(A:Around)(s:Shared)(kd:SortKind)(left:Bool)(key:Keyed)(arr:Array Keyed)(base n:Nat)(Pr:Nat->Bool):Prop :=
 ∀ (i:Nat) (E:Value->Shared->Prop) (Q:Option Bool->SortSt->Prop) (st:SortSt),i<n->kindOf st=kd->Q (some (Pr i)) st->wpS (model prog w) A E s (bey left key arr base i) Q st
theorem gBin_ok{lo hi:Nat}{Q:Option Nat->SortSt->Prop}(hb:BeyOk prog w A s kd left key arr base n Pr)(hk:kindOf st=kd)(mono:∀ i j,i<=j->j<n->Pr j=true->Pr i=true)(h1:lo<=hi)(h2:hi<=n)
  (hl:∀ i,i<lo->Pr i=true) (hh:∀ i,hi<=i->i<n->Pr i=false) (h:∀ r,r<=n->(∀ i,i<r->Pr i=true)->(∀ i,r<=i->i<n->Pr i=false)->Q (some r) st) :
  wpS (model prog w) A E s (gBin left key arr base n lo hi) Q st:=by
 unfold gBin
 refine wpS_bind (wpS_mono (wpS_forRange (I:=fun x c st'=>st'=st/\∃ l r,c=(none,l,r)/\l<=r/\r<=n/\r-l<=n-x/\(∀ i,i<l->Pr i=true)/\(∀ i,r<=i->i<n->Pr i=false))
  (Q:=fun c st'=>st'=st/\∃ l r,c=(none,l,r)/\r<=n/\(∀ i,i<r->Pr i=true)/\(∀ i,r<=i->i<n->Pr i=false)) ?step ?fin ⟨rfl,lo,hi,rfl,h1,h2,by lia,hl,hh⟩) ?post)
 case post =>
  rintro c st' ⟨rfl,l,r,rfl,r1,r2,r3⟩
  exact wpS_pure (h r r1 r2 r3)
 case fin =>
  rintro c st' ⟨rfl,l,r,rfl,r1,r2,r3,r4,r5⟩
  have e:l=r:=by lia
  subst e
  exact⟨rfl,l,l,rfl,r2,r4,r5⟩
 case step =>
  rintro x c st' _ hx ⟨rfl,l,r,rfl,r1,r2,r3,r4,r5⟩
  dsimp only
  by_cases y:l >= r
  ·rw[if_pos y]
   have e:l=r:=by lia
   subst e
   exact wpS_pure ⟨rfl,l,l,rfl,r2,r4,r5⟩
  ·rw[if_neg y]
   refine wpS_bind (hb _ _ _ _ (by lia) hk ?_)
   cases t:Pr (l+(r-l) / 2)with
   |true=>exact wpS_pure ⟨rfl,_,_,rfl,by lia,by omega,by omega,fun i hi=>mono i _ (by lia) (by lia) t,r5⟩
   |false =>
    refine wpS_pure ⟨rfl,_,_,rfl,by lia,by lia,by omega,r4,fun i i1 i2=>?_⟩
    cases u:Pr i with
    |false=>rfl
    |true=>rw[mono _ i i1 i2 u]at t;cases t
theorem gallop_ok{Q:Option Nat->SortSt->Prop}(hb:BeyOk prog w A s kd left key arr base n Pr)(hk:kindOf st=kd)(mono:∀ i j,i<=j->j<n->Pr j=true->Pr i=true)(hh:hint<n)
  (h:∀ r,r<=n->(∀ i,i<r->Pr i=true)->(∀ i,r<=i->i<n->Pr i=false)->Q (some r) st):wpS (model prog w) A E s (gallopP left key arr base n hint) Q st:=by
 have anti:∀ i j,i<=j->j<n->Pr i=false->Pr j=false:=fun i j a b c=>by
  cases u:Pr j with
  |false=>rfl
  |true=>rw[mono i j a b u]at c;cases c
 rw[gallop_eq]
 refine wpS_bind (hb _ _ _ _ hh hk ?_)
 cases t:Pr hint with
 |true =>
  dsimp only
  rw[if_pos rfl]
  unfold gUp
  refine wpS_bind (wpS_mono (wpS_forRange (I:=fun x c st'=>st'=st/\∃ l o,c=(none,l,o)/\l<o/\x<o/\l<n-hint/\Pr (hint+l)=true)
   (Q:=fun c st'=>st'=st/\∃ l o,c=(none,l,o)/\l<o/\l<n-hint/\Pr (hint+l)=true/\(o >= n-hint\/(o<n-hint/\Pr (hint+o)=false))) ?step ?fin ⟨rfl,0,1,rfl,by lia,by lia,by omega,t⟩) ?post)
  case post =>
   rintro c st' ⟨rfl,l,o,rfl,c1,c2,c3,c4⟩
   dsimp only
   refine gBin_ok hb hk mono (by omega) (by omega) (fun i hi=>mono i _ (by lia) (by lia) c3) (fun i i1 i2=>?_) h
   rcases c4 with c4 |⟨c4,c5⟩
   ·omega
   ·exact anti _ i (by omega) i2 c5
  case fin =>
   rintro c st' ⟨rfl,l,o,rfl,c1,c2,c3,c4⟩
   exact⟨rfl,l,o,rfl,c1,c3,c4,.inl (by lia)⟩
  case step =>
   rintro x c st' _ hx ⟨rfl,l,o,rfl,c1,c2,c3,c4⟩
   dsimp only
   by_cases y:o >= n-hint
   ·rw[if_pos y]
    exact wpS_pure ⟨rfl,l,o,rfl,c1,c3,c4,.inl y⟩
   ·rw[if_neg y]
    refine wpS_bind (hb _ _ _ _ (by lia) hk ?_)
    cases u:Pr (hint+o)with
    |true=>exact wpS_pure ⟨rfl,o,_,rfl,by lia,by lia,by lia,u⟩
    |false=>exact wpS_pure ⟨rfl,l,o,rfl,c1,c3,c4,.inr ⟨by lia,u⟩⟩
 |false =>
  dsimp only
  rw[if_neg Bool.false_ne_true]
  unfold gDn
  refine wpS_bind (wpS_mono (wpS_forRange (I:=fun x c st'=>st'=st/\∃ l o,c=(none,l,o)/\l<o/\x<o/\l<=hint/\Pr (hint-l)=false)
   (Q:=fun c st'=>st'=st/\∃ l o,c=(none,l,o)/\l<o/\l<=hint/\Pr (hint-l)=false/\(o >= hint+1\/(o<hint+1/\Pr (hint-o)=true))) ?dstep ?dfin ⟨rfl,0,1,rfl,by lia,by lia,by lia,t⟩) ?dpost)
  case dpost =>
   rintro c st' ⟨rfl,l,o,rfl,c1,c2,c3,c4⟩
   dsimp only
   refine gBin_ok hb hk mono (by omega) (by omega) (fun i hi=>?_) (fun i i1 i2=>anti _ i i1 i2 c3) h
   rcases c4 with c4 |⟨c4,c5⟩
   ·omega
   ·exact mono i _ (by omega) (by omega) c5
  case dfin =>
   rintro c st' ⟨rfl,l,o,rfl,c1,c2,c3,c4⟩
   exact⟨rfl,l,o,rfl,c1,c3,c4,.inl (by lia)⟩
  case dstep =>
   rintro x c st' _ hx ⟨rfl,l,o,rfl,c1,c2,c3,c4⟩
   dsimp only
   by_cases y:o >= hint+1
   ·rw[if_pos y]
    exact wpS_pure ⟨rfl,l,o,rfl,c1,c3,c4,.inl y⟩
   ·rw[if_neg y]
    refine wpS_bind (hb _ _ _ _ (by omega) hk ?_)
    cases u:Pr (hint-o)with
    |false=>exact wpS_pure ⟨rfl,o,_,rfl,by lia,by lia,by lia,u⟩
    |true=>exact wpS_pure ⟨rfl,l,o,rfl,c1,c3,c4,.inr ⟨by lia,u⟩⟩
end
noncomputable def mergeLoP:Array Keyed->Array Keyed->StateT SortSt Sem (Array Keyed):=sortPriv% PySem.Builtin.mergeLo
noncomputable def mergeHiP:Array Keyed->Array Keyed->StateT SortSt Sem (Array Keyed):=sortPriv% PySem.Builtin.mergeHi
open PySem PyProof.Rows
noncomputable def kk(κ:KeyKind)(p:Keyed):κ.α:=(κ.keyOf p.1).getD κ.dflt
noncomputable def kL(κ:KeyKind)(p q:Keyed):Prop:=κ.kle (kk κ p) (kk κ q)
theorem KK_of{κ:KeyKind}{xs:Array Keyed}{i:Nat}{p:Keyed}(h:xs[i]?=some p):KK κ xs i=kk κ p:=by unfold KK;rw[h];rfl
structure MI(κ:KeyKind)(T o A B:List Keyed):Prop where
 perm:(o++(A++B)).Perm T
 so:o.Pairwise (kL κ)
 cr:∀ x∈o,∀ y∈A++B,kL κ x y
 sA:A.Pairwise (kL κ)
 sB:B.Pairwise (kL κ)
section
variable{κ:KeyKind}{T o A A' B B' blk:List Keyed}
theorem MI.a(h:MI κ T o (blk++A') B)(hx:∀ x∈blk,∀ y∈B,kL κ x y):MI κ T (o++blk) A' B:=by
 obtain⟨s1,s2,s3⟩:=List.pairwise_append.mp h.sA
 refine⟨?_,List.pairwise_append.mpr ⟨h.so,s1,fun x hx y hy=>h.cr x hx y (by simp[hy])⟩,fun x hx' y hy=>?_,s2,h.sB⟩
 ·have e:=h.perm
  simp only[List.append_assoc]at e ⊢
  exact e
 ·rcases List.mem_append.mp hx' with z | z
  ·exact h.cr x z y (by rcases List.mem_append.mp hy with q | q <;> simp[q])
  ·rcases List.mem_append.mp hy with q | q
   ·exact s3 x z y q
   ·exact hx x z y q
theorem MI.b(h:MI κ T o A (blk++B'))(hx:∀ x∈blk,∀ y∈A,kL κ x y):MI κ T (o++blk) A B':=by
 obtain⟨s1,s2,s3⟩:=List.pairwise_append.mp h.sB
 refine⟨?_,List.pairwise_append.mpr ⟨h.so,s1,fun x hx y hy=>h.cr x hx y (by simp[hy])⟩,fun x hx' y hy=>?_,h.sA,s2⟩
 ·refine List.Perm.trans ?_ h.perm
  rw[List.append_assoc]
  refine List.Perm.append_left o ?_
  rw[<- List.append_assoc,<- List.append_assoc]
  exact List.Perm.append_right B' List.perm_append_comm
 ·rcases List.mem_append.mp hx' with z | z
  ·exact h.cr x z y (by rcases List.mem_append.mp hy with q | q <;> simp[q])
  ·rcases List.mem_append.mp hy with q | q
   ·exact hx x z y q
   ·exact s3 x z y q
noncomputable def Good(κ:KeyKind)(T:List Keyed)(R:Array Keyed):Prop:=R.toList.Perm T/\R.toList.Pairwise (kL κ)
theorem MI.endB{R:Array Keyed}(h:MI κ T o A [])(e:R.toList=o++A):Good κ T R:=by
 refine⟨by rw[e];simpa using h.perm,?_⟩
 rw[e]
 exact List.pairwise_append.mpr ⟨h.so,h.sA,fun x hx y hy=>h.cr x hx y (by simp[hy])⟩
theorem MI.endA{R:Array Keyed}(h:MI κ T o [] B)(e:R.toList=o++B):Good κ T R:=by
 refine⟨by rw[e];simpa using h.perm,?_⟩
 rw[e]
 exact List.pairwise_append.mpr ⟨h.so,h.sB,fun x hx y hy=>h.cr x hx y (by simp[hy])⟩
theorem MI.last{R:Array Keyed}{l:Keyed}(h:MI κ T o [l] B)(hl:∀ y∈B,kL κ y l)(e:R.toList=o++B++[l]):Good κ T R:=by
 have h2:MI κ T (o++B) [l] []:=MI.b (blk:=B) (B':=[]) (by simpa using h) fun x hx y hy=>by
  rw[List.mem_singleton.mp hy]
  exact hl x hx
 exact h2.endB e
structure MH(κ:KeyKind)(T o A B:List Keyed):Prop where
 perm:(A++B++o).Perm T
 so:o.Pairwise (kL κ)
 cr:∀ x∈o,∀ y∈A++B,kL κ y x
 sA:A.Pairwise (kL κ)
 sB:B.Pairwise (kL κ)
theorem MH.a(h:MH κ T o (A'++blk) B)(hx:∀ x∈blk,∀ y∈B,kL κ y x):MH κ T (blk++o) A' B:=by
 obtain⟨s1,s2,s3⟩:=List.pairwise_append.mp h.sA
 refine⟨?_,List.pairwise_append.mpr ⟨s2,h.so,fun x hx y hy=>h.cr y hy x (by simp[hx])⟩,fun x hx' y hy=>?_,s1,h.sB⟩
 ·refine List.Perm.trans ?_ h.perm
  simp only[List.append_assoc]
  refine List.Perm.append_left A' ?_
  rw[<- List.append_assoc,<- List.append_assoc]
  exact List.Perm.append_right o List.perm_append_comm
 ·rcases List.mem_append.mp hx' with z | z
  ·rcases List.mem_append.mp hy with q | q
   ·exact s3 y q x z
   ·exact hx x z y q
  ·exact h.cr x z y (by rcases List.mem_append.mp hy with q | q <;> simp[q])
theorem MH.b(h:MH κ T o A (B'++blk))(hx:∀ x∈blk,∀ y∈A,kL κ y x):MH κ T (blk++o) A B':=by
 obtain⟨s1,s2,s3⟩:=List.pairwise_append.mp h.sB
 refine⟨?_,List.pairwise_append.mpr ⟨s2,h.so,fun x hx y hy=>h.cr y hy x (by simp[hx])⟩,fun x hx' y hy=>?_,h.sA,s1⟩
 ·have e:=h.perm
  simp only[List.append_assoc]at e ⊢
  exact e
 ·rcases List.mem_append.mp hx' with z | z
  ·rcases List.mem_append.mp hy with q | q
   ·exact hx x z y q
   ·exact s3 y q x z
  ·exact h.cr x z y (by rcases List.mem_append.mp hy with q | q <;> simp[q])
theorem MH.endA{R:Array Keyed}(h:MH κ T o [] B)(e:R.toList=B++o):Good κ T R:=by
 refine⟨by rw[e];simpa using h.perm,?_⟩
 rw[e]
 exact List.pairwise_append.mpr ⟨h.sB,h.so,fun x hx y hy=>h.cr y hy x (by simp[hx])⟩
theorem MH.endB{R:Array Keyed}(h:MH κ T o A [])(e:R.toList=A++o):Good κ T R:=by
 refine⟨by rw[e];simpa using h.perm,?_⟩
 rw[e]
 exact List.pairwise_append.mpr ⟨h.sA,h.so,fun x hx y hy=>h.cr y hy x (by simp[hx])⟩
theorem MH.first{R:Array Keyed}{l:Keyed}(h:MH κ T o A [l])(hl:∀ y∈A,kL κ l y)(e:R.toList=[l]++A++o):Good κ T R:=by
 have h2:MH κ T (A++o) [] [l]:=MH.a (blk:=A) (A':=[]) (by simpa using h) fun x hx y hy=>by
  rw[List.mem_singleton.mp hy]
  exact hl x hx
 exact h2.endA (by rw[e,List.append_assoc])
end
theorem drop_at{xs:Array Keyed}{i:Nat}{p:Keyed}(h:xs[i]?=some p):xs.toList.drop i=[p]++xs.toList.drop (i+1):=by
 have hi:i<xs.toList.length:=by
  have:=(Array.getElem?_eq_some_iff.mp h).1
  simpa using this
 rw[List.drop_eq_getElem_cons hi]
 have e:xs.toList[i]=p:=by
  have:=(Array.getElem?_eq_some_iff.mp h).2
  simpa using this
 rw[e];rfl
theorem take_at{xs:Array Keyed}{i:Nat}{p:Keyed}(h:xs[i]?=some p):xs.toList.take (i+1)=xs.toList.take i++[p]:=by
 rw[List.take_add_one]
 have e:xs.toList[i]?=some p:=by rw[<- h];simp
 rw[e];rfl
theorem mem_drop{xs:Array Keyed}{i:Nat}{y:Keyed}(h:y∈xs.toList.drop i):∃ j,i<=j/\j<xs.size/\xs[j]?=some y:=by
 obtain⟨j,hj,e⟩:=List.getElem_of_mem h
 rw[List.length_drop]at hj
 refine⟨i+j,by lia,?_,?_⟩
 ·have:xs.toList.length=xs.size:=by simp
  omega
 ·rw[List.getElem_drop]at e
  have:xs.toList[i+j]?=some y:=by rw[<- e];exact List.getElem?_eq_getElem (by omega)
  rw[<- this];simp
theorem mem_take{xs:Array Keyed}{i:Nat}{y:Keyed}(h:y∈xs.toList.take i):∃ j,j<i/\j<xs.size/\xs[j]?=some y:=by
 obtain⟨j,hj,e⟩:=List.getElem_of_mem h
 rw[List.length_take]at hj
 have hl:xs.toList.length=xs.size:=by simp
 refine⟨j,by lia,by omega,?_⟩
 rw[List.getElem_take]at e
 have:xs.toList[j]?=some y:=by rw[<- e];exact List.getElem?_eq_getElem (by lia)
 rw[<- this];simp
theorem get_of_lt{xs:Array Keyed}{i:Nat}(h:i<xs.size):∃ p,xs[i]?=some p:=⟨xs[i],getElem?_pos _ i h⟩
structure Sm(st st':SortSt):Prop where
 k:kindOf st'=kindOf st
 a:arrOf st'=arrOf st
 p:pendingOf st'=pendingOf st
 f:failedOf st'=failedOf st
theorem Sm.refl(st:SortSt):Sm st st:=⟨rfl,rfl,rfl,rfl⟩
theorem Sm.min{st st':SortSt}(h:Sm st st')(g:Nat):Sm st (SortSt.mk' (kindOf st') (arrOf st') (pendingOf st') g (failedOf st')):=⟨h.k,h.a,h.p,h.f⟩
section
variable{prog:Program}{w:World}{A:Around}{E:Value->Shared->Prop}{s:Shared}{κ:KeyKind}{kd:SortKind}{st:SortSt}
theorem lt_ok{x y:Keyed}{Q:Option Bool->SortSt->Prop}(hO:LtOk κ kd prog w A s)(hk:kindOf st=kd)(hx:∃ a,κ.keyOf x.1=some a)(hy:∃ a,κ.keyOf y.1=some a)(h:Q (some (κ.blt (kk κ x) (kk κ y))) st) :
  wpS (model prog w) A E s (lt' x y) Q st:=by
 obtain⟨a,ha⟩:=hx
 obtain⟨c,hc⟩:=hy
 refine hO E x y a c Q st hk ha hc ?_
 have e1:kk κ x=a:=by unfold kk;rw[ha];rfl
 have e2:kk κ y=c:=by unfold kk;rw[hc];rfl
 rwa [e1,e2]at h
noncomputable def Keyd(κ:KeyKind)(xs:Array Keyed):Prop:=∀ (i:Nat) (p:Keyed),xs[i]?=some p->∃ a,κ.keyOf p.1=some a
theorem bey_left{key:Keyed}{arr:Array Keyed}{base n:Nat}(hO:LtOk κ kd prog w A s)(hk:∃ a,κ.keyOf key.1=some a)(ha:Keyd κ arr)(hn:base+n<=arr.size) :
  BeyOk prog w A s kd true key arr base n fun i=>κ.blt (KK κ arr (base+i)) (kk κ key):=by
 intro i E Q st hi hs h
 obtain⟨p,hp⟩:=get_of_lt (xs:=arr) (i:=base+i) (by lia)
 unfold bey
 refine wpS_bind (elem_ok hp ?_)
 rw[if_pos rfl]
 refine lt_ok hO hs (ha _ _ hp) hk ?_
 dsimp only at h
 rwa [KK_of hp]at h
theorem bey_right{key:Keyed}{arr:Array Keyed}{base n:Nat}(hO:LtOk κ kd prog w A s)(hk:∃ a,κ.keyOf key.1=some a)(ha:Keyd κ arr)(hn:base+n<=arr.size) :
  BeyOk prog w A s kd false key arr base n fun i=>!(κ.blt (kk κ key) (KK κ arr (base+i))):=by
 intro i E Q st hi hs h
 obtain⟨p,hp⟩:=get_of_lt (xs:=arr) (i:=base+i) (by lia)
 unfold bey
 refine wpS_bind (elem_ok hp ?_)
 rw[if_neg Bool.false_ne_true]
 refine wpS_bind (lt_ok hO hs hk (ha _ _ hp) (wpS_pure ?_))
 dsimp only at h
 rwa [KK_of hp]at h
end
open PySem PyProof.Rows
theorem ext_drop(xs:Array Keyed)(i:Nat):(xs.extract i xs.size).toList=xs.toList.drop i:=by
 simp[Array.toList_extract,List.extract_eq_drop_take]
 rw[List.take_of_length_le]
 simp
theorem ext_blk(xs:Array Keyed)(i k:Nat):(xs.extract i (i+k)).toList=(xs.toList.drop i).take k:=by
 simp[Array.toList_extract,List.extract_eq_drop_take]
theorem ext_take(xs:Array Keyed)(k:Nat):(xs.extract 0 k).toList=xs.toList.take k:=by
 simp[Array.toList_extract,List.extract_eq_drop_take]
theorem blk_drop(xs:Array Keyed)(i k:Nat):xs.toList.drop i=(xs.toList.drop i).take k++xs.toList.drop (i+k):=by
 rw[<- List.drop_drop,List.take_append_drop]
theorem drop_all(xs:Array Keyed):xs.toList.drop xs.size=[]:=by simp
section
variable{κ:KeyKind}{a b out:Array Keyed}{T:List Keyed}{ia ib k:Nat}{p:Keyed}
theorem fin_b(h:MI κ T out.toList (a.toList.drop ia) (b.toList.drop ib))(e:ib=b.size):Good κ T (out++a.extract ia a.size++b.extract ib b.size):=by
 subst e
 rw[drop_all]at h
 exact h.endB (by rw[Array.toList_append,Array.toList_append,ext_drop,ext_drop,drop_all,List.append_nil])
theorem fin_a(h:MI κ T out.toList (a.toList.drop ia) (b.toList.drop ib))(e:ia=a.size):Good κ T (out++a.extract ia a.size++b.extract ib b.size):=by
 subst e
 rw[drop_all]at h
 exact h.endA (by rw[Array.toList_append,Array.toList_append,ext_drop,ext_drop,drop_all,List.append_nil])
theorem fin_l(h:MI κ T out.toList (a.toList.drop ia) (b.toList.drop ib))(e:ia+1=a.size)(hl:∀ j,j<b.size->κ.kle (KK κ b j) (KK κ a (a.size-1))):Good κ T (out++b.extract ib b.size++a.extract ia a.size):=by
 obtain⟨l,hl'⟩:=get_of_lt (xs:=a) (i:=ia) (by lia)
 have ed:a.toList.drop ia=[l]:=by rw[drop_at hl',e,drop_all];rfl
 rw[ed]at h
 refine h.last (fun y hy=>?_) (by rw[Array.toList_append,Array.toList_append,ext_drop,ext_drop,ed])
 obtain⟨j,_,j2,j3⟩:=mem_drop hy
 have q:=hl j j2
 rw[show a.size-1=ia by lia,KK_of j3,KK_of hl']at q
 exact q
theorem mv_b(h:MI κ T out.toList (a.toList.drop ia) (b.toList.drop ib))(hp:b[ib]?=some p)(hx:∀ i,ia<=i->i<a.size->κ.kle (KK κ b ib) (KK κ a i)):MI κ T (out.push p).toList (a.toList.drop ia) (b.toList.drop (ib+1)):=by
 rw[drop_at hp]at h
 rw[Array.toList_push]
 refine h.b fun x hx' y hy=>?_
 rw[List.mem_singleton.mp hx']
 obtain⟨j,j1,j2,j3⟩:=mem_drop hy
 have q:=hx j j1 j2
 rw[KK_of hp,KK_of j3]at q
 exact q
theorem mv_a(h:MI κ T out.toList (a.toList.drop ia) (b.toList.drop ib))(hp:a[ia]?=some p)(hx:∀ j,ib<=j->j<b.size->κ.kle (KK κ a ia) (KK κ b j)):MI κ T (out.push p).toList (a.toList.drop (ia+1)) (b.toList.drop ib):=by
 rw[drop_at hp]at h
 rw[Array.toList_push]
 refine h.a fun x hx' y hy=>?_
 rw[List.mem_singleton.mp hx']
 obtain⟨j,j1,j2,j3⟩:=mem_drop hy
 have q:=hx j j1 j2
 rw[KK_of hp,KK_of j3]at q
 exact q
theorem mem_blk{xs:Array Keyed}{i k:Nat}{y:Keyed}(h:y∈(xs.toList.drop i).take k):∃ j,i<=j/\j<i+k/\j<xs.size/\xs[j]?=some y:=by
 obtain⟨j,hj,e⟩:=List.getElem_of_mem h
 rw[List.length_take,List.length_drop]at hj
 have hl:xs.toList.length=xs.size:=by simp
 refine⟨i+j,by lia,by lia,by omega,?_⟩
 rw[List.getElem_take,List.getElem_drop]at e
 have:xs.toList[i+j]?=some y:=by rw[<- e];exact List.getElem?_eq_getElem (by omega)
 rw[<- this];simp
theorem blk_a(h:MI κ T out.toList (a.toList.drop ia) (b.toList.drop ib))(hx:∀ i,ia<=i->i<ia+k->i<a.size->∀ j,ib<=j->j<b.size->κ.kle (KK κ a i) (KK κ b j)) :
  MI κ T (out++a.extract ia (ia+k)).toList (a.toList.drop (ia+k)) (b.toList.drop ib):=by
 rw[blk_drop a ia k]at h
 rw[Array.toList_append,ext_blk]
 refine h.a fun x hx' y hy=>?_
 obtain⟨i,i1,i2,i3,i4⟩:=mem_blk hx'
 obtain⟨j,j1,j2,j3⟩:=mem_drop hy
 have q:=hx i i1 i2 i3 j j1 j2
 rw[KK_of i4,KK_of j3]at q
 exact q
theorem blk_b(h:MI κ T out.toList (a.toList.drop ia) (b.toList.drop ib))(hx:∀ j,ib<=j->j<ib+k->j<b.size->∀ i,ia<=i->i<a.size->κ.kle (KK κ b j) (KK κ a i)) :
  MI κ T (out++b.extract ib (ib+k)).toList (a.toList.drop ia) (b.toList.drop (ib+k)):=by
 rw[blk_drop b ib k]at h
 rw[Array.toList_append,ext_blk]
 refine h.b fun x hx' y hy=>?_
 obtain⟨i,i1,i2,i3,i4⟩:=mem_blk hx'
 obtain⟨j,j1,j2,j3⟩:=mem_drop hy
 have q:=hx i i1 i2 i3 j j1 j2
 rw[KK_of i4,KK_of j3]at q
 exact q
end
theorem wpS_if{M:Model}{A:Around}{E:Value->Shared->Prop}{s:Shared}{σ α:Type}{c:Prop}[Decidable c]{x y:StateT σ Sem α}{Q:α->σ->Prop}{st:σ}(h1:c->wpS M A E s x Q st)(h2:¬ c->wpS M A E s y Q st):wpS M A E s (if c then x else y) Q st:=by
 by_cases h:c
 ·rw[if_pos h];exact h1 h
 ·rw[if_neg h];exact h2 h
theorem pw_of{κ:KeyKind}{xs:Array Keyed}(h:∀ i j,i<=j->j<xs.size->κ.kle (KK κ xs i) (KK κ xs j)):xs.toList.Pairwise (kL κ):=by
 rw[List.pairwise_iff_getElem]
 intro i j hi hj hij
 have hl:xs.toList.length=xs.size:=by simp
 have q:=h i j (by lia) (by omega)
 rw[KK_of (p:=xs.toList[i]) (by rw[<- List.getElem?_eq_getElem hi];simp),KK_of (p:=xs.toList[j]) (by rw[<- List.getElem?_eq_getElem hj];simp)]at q
 exact q
section
variable{prog:Program}{w:World}{A:Around}{E:Value->Shared->Prop}{s:Shared}{κ:KeyKind}{kd:SortKind}{st:SortSt}
variable{a b:Array Keyed}
@[elab_as_elim] theorem el4{α0 α1 α2 α3 ε:Type}{P:α0->α1->α2->α3->Prop}{motive:Option ε×α0×α1×α2×α3->Prop}(c:Option ε×α0×α1×α2×α3)(h:∃ x0 x1 x2 x3,c=(none,x0,x1,x2,x3)/\P x0 x1 x2 x3)(k:∀ x0 x1 x2 x3,P x0 x1 x2 x3->motive (none,x0,x1,x2,x3)):motive c:=by
 obtain⟨x0,x1,x2,x3,rfl,p⟩:=h
 exact k x0 x1 x2 x3 p
@[elab_as_elim] theorem el5{α0 α1 α2 α3 α4 ε:Type}{P:α0->α1->α2->α3->α4->Prop}{motive:Option ε×α0×α1×α2×α3×α4->Prop}(c:Option ε×α0×α1×α2×α3×α4)(h:∃ x0 x1 x2 x3 x4,c=(none,x0,x1,x2,x3,x4)/\P x0 x1 x2 x3 x4)(k:∀ x0 x1 x2 x3 x4,P x0 x1 x2 x3 x4->motive (none,x0,x1,x2,x3,x4)):motive c:=by
 obtain⟨x0,x1,x2,x3,x4,rfl,p⟩:=h
 exact k x0 x1 x2 x3 x4 p
@[elab_as_elim] theorem eo5{α0 α1 α2 α3 α4 ε:Type}{P:α0->α1->α2->α3->α4->Prop}{G:ε->Prop}{motive:Option ε×α0×α1×α2×α3×α4->Prop}(c:Option ε×α0×α1×α2×α3×α4)(h:(∃ R r,c=(some R,r)/\G R)\/∃ x0 x1 x2 x3 x4,c=(none,x0,x1,x2,x3,x4)/\P x0 x1 x2 x3 x4)(k1:∀ R r,G R->motive (some R,r))(k:∀ x0 x1 x2 x3 x4,P x0 x1 x2 x3 x4->motive (none,x0,x1,x2,x3,x4)):motive c:=by
 obtain⟨R,r,rfl,g⟩ | h:=h
 ·exact k1 R r g
 ·exact el5 c h k
@[elab_as_elim] theorem el6{α0 α1 α2 α3 α4 α5 ε:Type}{P:α0->α1->α2->α3->α4->α5->Prop}{motive:Option ε×α0×α1×α2×α3×α4×α5->Prop}(c:Option ε×α0×α1×α2×α3×α4×α5)(h:∃ x0 x1 x2 x3 x4 x5,c=(none,x0,x1,x2,x3,x4,x5)/\P x0 x1 x2 x3 x4 x5)(k:∀ x0 x1 x2 x3 x4 x5,P x0 x1 x2 x3 x4 x5->motive (none,x0,x1,x2,x3,x4,x5)):motive c:=by
 obtain⟨x0,x1,x2,x3,x4,x5,rfl,p⟩:=h
 exact k x0 x1 x2 x3 x4 x5 p
@[elab_as_elim] theorem eo6{α0 α1 α2 α3 α4 α5 ε:Type}{P:α0->α1->α2->α3->α4->α5->Prop}{G:ε->Prop}{motive:Option ε×α0×α1×α2×α3×α4×α5->Prop}(c:Option ε×α0×α1×α2×α3×α4×α5)(h:(∃ R r,c=(some R,r)/\G R)\/∃ x0 x1 x2 x3 x4 x5,c=(none,x0,x1,x2,x3,x4,x5)/\P x0 x1 x2 x3 x4 x5)(k1:∀ R r,G R->motive (some R,r))(k:∀ x0 x1 x2 x3 x4 x5,P x0 x1 x2 x3 x4 x5->motive (none,x0,x1,x2,x3,x4,x5)):motive c:=by
 obtain⟨R,r,rfl,g⟩ | h:=h
 ·exact k1 R r g
 ·exact el6 c h k
structure Shd(P:Prop):Prop where
 out:P
theorem wpS_ifS{c:Prop}[Decidable c]{σ α:Type}{M:Model}{x y:StateT σ Sem α}{Q:α->σ->Prop}{t:σ}{P:Prop}(g:P)(h1:c->Shd P->wpS M A E s x Q t)(h2:¬ c->Shd P->wpS M A E s y Q t):wpS M A E s (if c then x else y) Q t:=by
 split
 ·exact h1 (by assumption) ⟨g⟩
 ·exact h2 (by assumption) ⟨g⟩
theorem mergeLo_ok{Q:Array Keyed->SortSt->Prop}(hO:LtOk κ kd prog w A s)(hk:kindOf st=kd)(ka:Keyd κ a)(kb:Keyd κ b)(hA:∀ i j,i<=j->j<a.size->κ.kle (KK κ a i) (KK κ a j))(hB:∀ i j,i<=j->j<b.size->κ.kle (KK κ b i) (KK κ b j))
  (ha:0<a.size) (hb:0<b.size) (h1:κ.kle (KK κ b 0) (KK κ a 0)) (h2:κ.kle (KK κ b (b.size-1)) (KK κ a (a.size-1)))
  (h:∀ R st',Sm st st'->Good κ (a.toList++b.toList) R->Q R st'):wpS (model prog w) A E s (mergeLoP a b) Q st:=by
 obtain⟨b0,e0⟩:=get_of_lt hb
 generalize hT:a.toList++b.toList=T at h
 have hl:∀ j,j<b.size->κ.kle (KK κ b j) (KK κ a (a.size-1)):=fun j hj=>KeyOrd.kle_trans (hB j (b.size-1) (by omega) (by omega)) h2
 have m0:MI κ T (#[]:Array Keyed).toList (a.toList.drop 0) (b.toList.drop 0):=⟨by rw[<- hT];simp,.nil,fun x hx=>by simp at hx,by simpa using pw_of hA,by simpa using pw_of hB⟩
 have m1:MI κ T (#[b0]:Array Keyed).toList (a.toList.drop 0) (b.toList.drop 1):=mv_b m0 e0 fun i _ hi=>KeyOrd.kle_trans h1 (hA 0 i (by omega) hi)
 refine wpS_bind (wpS_lift (wpAny_rule ⟨rfl,wpS_bind (elem_ok e0 ?_)⟩))
 dsimp only
 by_cases y1:1=b.size
 ·rw[if_pos (by simpa using y1)]
  exact wpS_pure (h _ _ (Sm.refl _) (fin_b m1 y1))
 rw[if_neg (by simpa using y1)]
 by_cases y2:0+1=a.size
 ·rw[if_pos (by simpa using y2)]
  exact wpS_pure (h _ _ (Sm.refl _) (fin_l m1 y2 hl))
 rw[if_neg (by simpa using y2)]
 refine wpS_bind (wpS_get ?_)
 refine wpS_bind (wpS_mono (wpS_forRange (I:=fun x c st'=>Sm st st'/\∃ out ia ib mg,c=(none,out,ia,ib,mg)/\MI κ T out.toList (a.toList.drop ia) (b.toList.drop ib)/\ia+1<a.size/\ib<b.size/\x<ia+ib)
  (Q:=fun c st'=>Sm st st'/\∃ R r,c=(some R,r)/\Good κ T R) ?ostep ?ofin ⟨Sm.refl _,_,_,_,_,rfl,m1,by lia,by lia,by lia⟩) ?opost)
 case opost =>
  rintro c st' ⟨sm,R,r,rfl,g⟩
  exact wpS_pure (h R st' sm g)
 case ofin =>
  rintro c st' ⟨sm,out,ia,ib,mg,rfl,m,q1,q2,q3⟩
  lia
 case ostep =>
  intro x c st1 _ hx hI
  have sm1:=hI.1
  refine el4 c hI.2 fun out ia ib mg hP=>?_
  have m:=hP.1
  have q1:=hP.2.1
  have q2:=hP.2.2.1
  have q3:=hP.2.2.2
  clear hI hP
  dsimp only
  refine wpS_bind (wpS_mono (wpS_forRange (I:=fun y c st'=>Sm st st'/\∃ out ia ib ac bc,c=(none,out,ia,ib,ac,bc)/\MI κ T out.toList (a.toList.drop ia) (b.toList.drop ib)/\ia+1<a.size/\ib<b.size/\x+min y 1<ia+ib)
   (Q:=fun c st'=>Sm st st'/\((∃ R r,c=(some R,r)/\Good κ T R)\/∃ out ia ib ac bc,c=(none,out,ia,ib,ac,bc)/\MI κ T out.toList (a.toList.drop ia) (b.toList.drop ib)/\ia+1<a.size/\ib<b.size/\x+1<ia+ib))
   ?istep ?ifin ⟨sm1,_,_,_,_,_,rfl,m,q1,q2,by lia⟩) ?ipost)
  case ifin =>
   rintro c st' ⟨sm,out,ia,ib,ac,bc,rfl,m,q1,q2,q3⟩
   exact⟨sm,.inr ⟨out,ia,ib,ac,bc,rfl,m,q1,q2,by lia⟩⟩
  case istep =>
   intro y c st2 _ hy hI
   have sm:=hI.1
   refine el5 c hI.2 fun out ia ib ac bc hP=>?_
   have m:=hP.1
   have q1:=hP.2.1
   have q2:=hP.2.2.1
   have q3:=hP.2.2.2
   clear hI hP
   dsimp only
   obtain⟨pb,eb⟩:=get_of_lt q2
   obtain⟨pa,ea⟩:=get_of_lt (xs:=a) (i:=ia) (by lia)
   refine wpS_bind (elem_ok eb (wpS_bind (elem_ok ea (wpS_bind (lt_ok hO (sm.k.trans hk) (kb _ _ eb) (ka _ _ ea) ?_)))))
   cases t:κ.blt (kk κ pb) (kk κ pa)with
   |true =>
    dsimp only
    rw[if_pos rfl]
    have tk:κ.kle (KK κ b ib) (KK κ a ia):=by rw[KK_of eb,KK_of ea];exact KeyOrd.kle_of_klt t
    have m':=mv_b m eb fun i i1 i2=>KeyOrd.kle_trans tk (hA ia i i1 i2)
    refine wpS_bind (elem_ok eb ?_)
    by_cases z:ib+1=b.size
    ·rw[if_pos (by simpa using z)]
     exact wpS_pure ⟨sm,.inl ⟨_,_,rfl,fin_b m' z⟩⟩
    ·rw[if_neg (by simpa using z)]
     split
     ·exact wpS_pure ⟨sm,.inr ⟨_,_,_,_,_,rfl,m',q1,by lia,by lia⟩⟩
     ·exact wpS_pure ⟨sm,_,_,_,_,_,rfl,m',q1,by lia,by lia⟩
   |false =>
    dsimp only
    rw[if_neg Bool.false_ne_true]
    have tk:κ.kle (KK κ a ia) (KK κ b ib):=by rw[KK_of eb,KK_of ea];exact t
    have m':=mv_a m ea fun i i1 i2=>KeyOrd.kle_trans tk (hB ib i i1 i2)
    refine wpS_bind (elem_ok ea ?_)
    by_cases z:ia+1+1=a.size
    ·rw[if_pos (by simpa using z)]
     exact wpS_pure ⟨sm,.inl ⟨_,_,rfl,fin_l m' z hl⟩⟩
    ·rw[if_neg (by simpa using z)]
     split
     ·exact wpS_pure ⟨sm,.inr ⟨_,_,_,_,_,rfl,m',by lia,q2,by lia⟩⟩
     ·exact wpS_pure ⟨sm,_,_,_,_,_,rfl,m',by lia,q2,by lia⟩
  case ipost =>
   intro c st2 hI
   have sm2:=hI.1
   refine eo5 c hI.2 (fun R r g=>?_) fun out ia ib ac bc hP=>?_
   ·exact wpS_pure ⟨sm2,R,_,rfl,g⟩
   have m:=hP.1
   have q1:=hP.2.1
   have q2:=hP.2.2.1
   have q3:=hP.2.2.2
   clear hI hP
   dsimp only
   refine wpS_bind (wpS_lift (wpAny_rule ⟨rfl,?_⟩))
   refine wpS_bind (wpS_mono (wpS_forRange (I:=fun y c st'=>Sm st st'/\∃ out ia ib mg ac bc,c=(none,out,ia,ib,mg,ac,bc)/\MI κ T out.toList (a.toList.drop ia) (b.toList.drop ib)/\ia+1<a.size/\ib<b.size/\x+1<ia+ib)
    (Q:=fun c st'=>Sm st st'/\((∃ R r,c=(some R,r)/\Good κ T R)\/∃ out ia ib mg ac bc,c=(none,out,ia,ib,mg,ac,bc)/\MI κ T out.toList (a.toList.drop ia) (b.toList.drop ib)/\ia+1<a.size/\ib<b.size/\x+1<ia+ib))
    ?gstep ?gfin ⟨sm2,_,_,_,_,_,_,rfl,m,q1,q2,q3⟩) ?gpost)
   case gfin =>
    exact fun c st' hI=>⟨hI.1,.inr hI.2⟩
   case gpost =>
    intro c st3 hI
    have sm3:=hI.1
    refine eo6 c hI.2 (fun R r g=>?_) fun out ia ib mg ac bc hP=>?_
    ·exact wpS_pure ⟨sm3,R,_,rfl,g⟩
    dsimp only
    exact wpS_bind (wpS_modify (wpS_pure ⟨sm3.min _,_,_,_,_,rfl,hP⟩))
   case gstep =>
    intro y c st3 _ hy hI
    have sm:=hI.1
    refine el6 c hI.2 fun out ia ib mg ac bc hP=>?_
    have m:=hP.1
    have q1:=hP.2.1
    have q2:=hP.2.2.1
    have q3:=hP.2.2.2
    clear hI hP
    dsimp only
    obtain⟨pb,eb⟩:=get_of_lt q2
    refine' wpS_ifS (P:=_) ?A0 (fun _ H=>?A1) fun _ H=>?A2
    case A1=>generalize mg-1=z;revert z;exact H.out
    case A2=>exact H.out _
    intro mg
    refine wpS_bind (wpS_modify ?_)
    refine wpS_bind (elem_ok eb (wpS_bind (gallop_ok (bey_right hO (kb _ _ eb) ka (base:=ia) (n:=a.size-ia) (by omega)) ((sm.min _).k.trans hk) (fun i j hij hj t=>?_) (by omega) fun k k1 k2 k3=>?_)))
    ·have t1:κ.kle (KK κ a (ia+j)) (kk κ pb):=by simpa[KeyOrd.kle]using t
     have t2:=KeyOrd.kle_trans (hA (ia+i) (ia+j) (by lia) (by omega)) t1
     simpa[KeyOrd.kle]using t2
    dsimp only
    have low:∀ i,ia<=i->i<ia+k->κ.kle (KK κ a i) (KK κ b ib):=fun i i1 i2=>by
     have q:=k2 (i-ia) (by omega)
     rw[show ia+(i-ia)=i by omega]at q
     rw[KK_of eb]
     simpa[KeyOrd.kle]using q
    have hi0:∀ i,ia+k<=i->i<a.size->κ.kle (KK κ b ib) (KK κ a i):=fun i i1 i2=>by
     have q:=k3 (i-ia) (by omega) (by omega)
     rw[show ia+(i-ia)=i by lia]at q
     rw[KK_of eb]
     exact KeyOrd.kle_of_klt (show κ.blt _ _=true by simpa using q)
    refine' wpS_ifS (P:=_) ?B0 (fun kz H=>?B1) fun kz H=>?B2
    case B1 =>
     have mk:=blk_a (k:=k) m fun i i1 i2 _ j j1 j2=>KeyOrd.kle_trans (low i i1 i2) (hB ib j j1 j2)
     by_cases w1:ia+k+1=a.size
     ·rw[if_pos (by simpa using w1)]
      exact wpS_pure ⟨sm.min _,.inl ⟨_,_,rfl,fin_l mk w1 hl⟩⟩
     rw[if_neg (by simpa using w1)]
     by_cases w2:ia+k=a.size
     ·rw[if_pos (by simpa using w2)]
      exact wpS_pure ⟨sm.min _,.inl ⟨_,_,rfl,fin_a mk w2⟩⟩
     rw[if_neg (by simpa using w2)]
     have pr:x+1<ia+k+ib:=by lia
     have p1:ia+k+1<a.size:=by lia
     have hi1:=hi0
     revert pr p1 hi1 mk
     generalize out++a.extract ia (ia+k)=out1
     generalize ia+k=ia1
     revert out1 ia1
     exact H.out
    case B2 =>
     have k0:k=0:=by lia
     exact H.out _ _ m q3 q1 (fun i i1 i2=>hi0 i (by lia) i2)
    clear low hi0 k1 k2 k3 m q3 q1
    intro out1 ia1 m1 pr p1 hi1
    refine wpS_bind (elem_ok eb ?_)
    have m2:=mv_b m1 eb hi1
    by_cases z:ib+1=b.size
    ·rw[if_pos (by simpa using z)]
     exact wpS_pure ⟨sm.min _,.inl ⟨_,_,rfl,fin_b m2 z⟩⟩
    rw[if_neg (by simpa using z)]
    obtain⟨pa,ea⟩:=get_of_lt (xs:=a) (i:=ia1) (by lia)
    refine wpS_bind (elem_ok ea (wpS_bind (gallop_ok (bey_left hO (ka _ _ ea) kb (base:=ib+1) (n:=b.size-(ib+1)) (by omega)) ((sm.min _).k.trans hk) (fun i j hij hj t=>?_) (by omega) fun k2 l1 l2 l3=>?_)))
    ·exact KeyOrd.klt_of_kle_of_klt (hB (ib+1+i) (ib+1+j) (by lia) (by omega)) t
    dsimp only
    have low2:∀ j,ib+1<=j->j<ib+1+k2->κ.kle (KK κ b j) (KK κ a ia1):=fun j j1 j2=>by
     have q:=l2 (j-(ib+1)) (by omega)
     rw[show ib+1+(j-(ib+1))=j by omega]at q
     rw[KK_of ea]
     exact KeyOrd.kle_of_klt q
    have high2:∀ j,ib+1+k2<=j->j<b.size->κ.kle (KK κ a ia1) (KK κ b j):=fun j j1 j2=>by
     have q:=l3 (j-(ib+1)) (by omega) (by omega)
     rw[show ib+1+(j-(ib+1))=j by omega]at q
     rw[KK_of ea]
     exact q
    refine' wpS_ifS (P:=_) ?C0 (fun kz2 H=>?C1) fun kz2 H=>?C2
    case C1 =>
     have m3:=blk_b (k:=k2) m2 fun j j1 j2 _ i i1 i2=>KeyOrd.kle_trans (low2 j j1 j2) (hA ia1 i i1 i2)
     by_cases z2:ib+1+k2=b.size
     ·rw[if_pos (by simpa using z2)]
      exact wpS_pure ⟨sm.min _,.inl ⟨_,_,rfl,fin_b m3 z2⟩⟩
     rw[if_neg (by simpa using z2)]
     have e1:ib+1+k2<b.size:=by omega
     have e2:x+1<ia1+1+(ib+1+k2):=by lia
     have hi2:=high2
     revert e1 e2 hi2 m3
     generalize out1.push pb++b.extract (ib+1) (ib+1+k2)=out2
     generalize ib+1+k2=ib2
     generalize k2=bc
     revert out2 ib2 bc
     exact H.out
    case C2 =>
     have k0:k2=0:=by lia
     exact H.out _ _ _ m2 (by lia) (by lia) (fun j j1 j2=>high2 j (by lia) j2)
    clear low2 high2 l1 l2 l3 m2 m1
    intro out2 ib2 bc m3 e1 e2 high2
    refine wpS_bind (elem_ok ea ?_)
    have m4:=mv_a m3 ea high2
    by_cases z3:ia1+1+1=a.size
    ·rw[if_pos (by simpa using z3)]
     exact wpS_pure ⟨sm.min _,.inl ⟨_,_,rfl,fin_l m4 z3 hl⟩⟩
    rw[if_neg (by simpa using z3)]
    have e3:ia1+1+1<a.size:=by lia
    refine wpS_if (fun _=>?_) fun _=>?_
    ·exact wpS_pure ⟨sm.min _,.inr ⟨_,_,_,_,_,_,rfl,m4,e3,e1,e2⟩⟩
    ·exact wpS_pure ⟨sm.min _,_,_,_,_,_,_,rfl,m4,e3,e1,e2⟩
end
open PySem PyProof.Rows
section
variable{κ:KeyKind}{a b out:Array Keyed}{T:List Keyed}{na nb k:Nat}{p:Keyed}
theorem rev_out(xs ys out:Array Keyed):(xs++ys++out.reverse).toList=xs.toList++ys.toList++out.toList.reverse:=by simp
theorem hf_a(h:MH κ T out.toList.reverse (a.toList.take na) (b.toList.take nb))(e:na=0):Good κ T (a.extract 0 na++b.extract 0 nb++out.reverse):=by
 subst e
 rw[List.take_zero]at h
 exact h.endA (by rw[rev_out,ext_take,ext_take,List.take_zero,List.nil_append])
theorem hf_b(h:MH κ T out.toList.reverse (a.toList.take na) (b.toList.take nb))(e:nb=0):Good κ T (a.extract 0 na++b.extract 0 nb++out.reverse):=by
 subst e
 rw[List.take_zero]at h
 exact h.endB (by rw[rev_out,ext_take,ext_take,List.take_zero,List.append_nil])
theorem hf_f(h:MH κ T out.toList.reverse (a.toList.take na) (b.toList.take nb))(e:nb=1)(hb:0<b.size)(hl:∀ i,i<a.size->κ.kle (KK κ b 0) (KK κ a i)):Good κ T (b.extract 0 nb++a.extract 0 na++out.reverse):=by
 subst e
 obtain⟨l,hl'⟩:=get_of_lt hb
 have ed:b.toList.take 1=[l]:=by rw[take_at hl'];rfl
 rw[ed]at h
 refine h.first (fun y hy=>?_) (by rw[rev_out,ext_take,ext_take,ed])
 obtain⟨j,_,j2,j3⟩:=mem_take hy
 have q:=hl j j2
 rw[KK_of j3,KK_of hl']at q
 exact q
theorem hm_a(h:MH κ T out.toList.reverse (a.toList.take (na+1)) (b.toList.take nb))(hp:a[na]?=some p)(hx:∀ j,j<nb->j<b.size->κ.kle (KK κ b j) (KK κ a na)):MH κ T (out.push p).toList.reverse (a.toList.take na) (b.toList.take nb):=by
 rw[take_at hp]at h
 have e:(out.push p).toList.reverse=[p]++out.toList.reverse:=by simp
 rw[e]
 refine h.a fun x hx' y hy=>?_
 rw[List.mem_singleton.mp hx']
 obtain⟨j,j1,j2,j3⟩:=mem_take hy
 have q:=hx j j1 j2
 rw[KK_of hp,KK_of j3]at q
 exact q
theorem hm_b(h:MH κ T out.toList.reverse (a.toList.take na) (b.toList.take (nb+1)))(hp:b[nb]?=some p)(hx:∀ i,i<na->i<a.size->κ.kle (KK κ a i) (KK κ b nb)):MH κ T (out.push p).toList.reverse (a.toList.take na) (b.toList.take nb):=by
 rw[take_at hp]at h
 have e:(out.push p).toList.reverse=[p]++out.toList.reverse:=by simp
 rw[e]
 refine h.b fun x hx' y hy=>?_
 rw[List.mem_singleton.mp hx']
 obtain⟨j,j1,j2,j3⟩:=mem_take hy
 have q:=hx j j1 j2
 rw[KK_of hp,KK_of j3]at q
 exact q
theorem take_blk(xs:Array Keyed){i n:Nat}(h:i<=n):xs.toList.take n=xs.toList.take i++(xs.toList.drop i).take (n-i):=by
 rw[<- List.take_add,Nat.add_sub_cancel' h]
theorem out_blk(out xs:Array Keyed){i n:Nat}(h:i<=n):(out++(xs.extract i n).reverse).toList.reverse=(xs.toList.drop i).take (n-i)++out.toList.reverse:=by
 have e:=ext_blk xs i (n-i)
 rw[Nat.add_sub_cancel' h]at e
 rw[<- e]
 simp
theorem hb_a{i:Nat}(hi:i<=na)(h:MH κ T out.toList.reverse (a.toList.take na) (b.toList.take nb))(hx:∀ m,i<=m->m<na->m<a.size->∀ j,j<nb->j<b.size->κ.kle (KK κ b j) (KK κ a m)) :
  MH κ T (out++(a.extract i na).reverse).toList.reverse (a.toList.take i) (b.toList.take nb):=by
 rw[take_blk a hi]at h
 rw[out_blk _ _ hi]
 refine h.a fun x hx' y hy=>?_
 obtain⟨m,i1,i2,i3,i4⟩:=mem_blk hx'
 obtain⟨j,j1,j2,j3⟩:=mem_take hy
 have q:=hx m i1 (by lia) i3 j j1 j2
 rw[KK_of i4,KK_of j3]at q
 exact q
theorem hb_b{i:Nat}(hi:i<=nb)(h:MH κ T out.toList.reverse (a.toList.take na) (b.toList.take nb))(hx:∀ m,i<=m->m<nb->m<b.size->∀ j,j<na->j<a.size->κ.kle (KK κ a j) (KK κ b m)) :
  MH κ T (out++(b.extract i nb).reverse).toList.reverse (a.toList.take na) (b.toList.take i):=by
 rw[take_blk b hi]at h
 rw[out_blk _ _ hi]
 refine h.b fun x hx' y hy=>?_
 obtain⟨m,i1,i2,i3,i4⟩:=mem_blk hx'
 obtain⟨j,j1,j2,j3⟩:=mem_take hy
 have q:=hx m i1 (by lia) i3 j j1 j2
 rw[KK_of i4,KK_of j3]at q
 exact q
end
section
variable{prog:Program}{w:World}{A:Around}{E:Value->Shared->Prop}{s:Shared}{κ:KeyKind}{kd:SortKind}{st:SortSt}
variable{a b:Array Keyed}
theorem mergeHi_ok{Q:Array Keyed->SortSt->Prop}(hO:LtOk κ kd prog w A s)(hk:kindOf st=kd)(ka:Keyd κ a)(kb:Keyd κ b)(hA:∀ i j,i<=j->j<a.size->κ.kle (KK κ a i) (KK κ a j))(hB:∀ i j,i<=j->j<b.size->κ.kle (KK κ b i) (KK κ b j))
  (ha:0<a.size) (hb:0<b.size) (h1:κ.kle (KK κ b 0) (KK κ a 0)) (h2:κ.kle (KK κ b (b.size-1)) (KK κ a (a.size-1)))
  (h:∀ R st',Sm st st'->Good κ (a.toList++b.toList) R->Q R st'):wpS (model prog w) A E s (mergeHiP a b) Q st:=by
 obtain⟨al,el⟩:=get_of_lt (xs:=a) (i:=a.size-1) (by omega)
 generalize hT:a.toList++b.toList=T at h
 have hf:∀ i,i<a.size->κ.kle (KK κ b 0) (KK κ a i):=fun i hi=>KeyOrd.kle_trans h1 (hA 0 i (by lia) hi)
 have m0:MH κ T (#[]:Array Keyed).toList.reverse (a.toList.take (a.size-1+1)) (b.toList.take b.size):=by
  rw[show a.size-1+1=a.size by lia]
  rw[List.take_of_length_le (l:=a.toList) (by simp),List.take_of_length_le (l:=b.toList) (by simp)]
  exact⟨by rw[<- hT];simp,by simp,fun x hx=>by simp at hx,pw_of hA,pw_of hB⟩
 have m1:MH κ T (#[al]:Array Keyed).toList.reverse (a.toList.take (a.size-1)) (b.toList.take b.size):=hm_a m0 el fun j _ hj=>KeyOrd.kle_trans (hB j (b.size-1) (by omega) (by omega)) h2
 refine wpS_bind (wpS_lift (wpAny_rule ⟨rfl,wpS_bind (elem_ok el ?_)⟩))
 dsimp only
 by_cases y1:a.size-1=0
 ·rw[if_pos (by simpa using y1)]
  exact wpS_pure (h _ _ (Sm.refl _) (hf_a m1 y1))
 rw[if_neg (by simpa using y1)]
 by_cases y2:b.size=1
 ·rw[if_pos (by simpa using y2)]
  exact wpS_pure (h _ _ (Sm.refl _) (hf_f m1 y2 hb hf))
 rw[if_neg (by simpa using y2)]
 refine wpS_bind (wpS_get ?_)
 refine wpS_bind (wpS_mono (wpS_forRange (I:=fun x c st'=>Sm st st'/\∃ na nb out mg,c=(none,na,nb,out,mg)/\MH κ T out.toList.reverse (a.toList.take na) (b.toList.take nb)/\0<na/\na<=a.size/\1<nb/\nb<=b.size/\x+na+nb<a.size+b.size)
  (Q:=fun c st'=>Sm st st'/\∃ R r,c=(some R,r)/\Good κ T R) ?ostep ?ofin ⟨Sm.refl _,_,_,_,_,rfl,m1,by lia,by omega,by lia,by lia,by omega⟩) ?opost)
 case opost =>
  rintro c st' ⟨sm,R,r,rfl,g⟩
  exact wpS_pure (h R st' sm g)
 case ofin =>
  rintro c st' ⟨sm,na,nb,out,mg,rfl,m,q1,q1',q2,q2',q3⟩
  lia
 case ostep =>
  intro x c st1 _ hx hI
  have sm1:=hI.1
  refine el4 c hI.2 fun na nb out mg hP=>?_
  have m:=hP.1
  have q1:=hP.2.1
  have q1':=hP.2.2.1
  have q2:=hP.2.2.2.1
  have q2':=hP.2.2.2.2.1
  have q3:=hP.2.2.2.2.2
  clear hI hP
  dsimp only
  refine wpS_bind (wpS_mono (wpS_forRange (I:=fun y c st'=>Sm st st'/\∃ na nb out ac bc,c=(none,na,nb,out,ac,bc)/\MH κ T out.toList.reverse (a.toList.take na) (b.toList.take nb)/\0<na/\na<=a.size/\1<nb/\nb<=b.size/\x+min y 1+na+nb<a.size+b.size)
   (Q:=fun c st'=>Sm st st'/\((∃ R r,c=(some R,r)/\Good κ T R)\/∃ na nb out ac bc,c=(none,na,nb,out,ac,bc)/\MH κ T out.toList.reverse (a.toList.take na) (b.toList.take nb)/\0<na/\na<=a.size/\1<nb/\nb<=b.size/\x+1+na+nb<a.size+b.size))
   ?istep ?ifin ⟨sm1,_,_,_,_,_,rfl,m,q1,q1',q2,q2',by lia⟩) ?ipost)
  case ifin =>
   rintro c st' ⟨sm,na,nb,out,ac,bc,rfl,m,q1,q1',q2,q2',q3⟩
   exact⟨sm,.inr ⟨na,nb,out,ac,bc,rfl,m,q1,q1',q2,q2',by lia⟩⟩
  case istep =>
   intro y c st2 _ hy hI
   have sm:=hI.1
   refine el5 c hI.2 fun na nb out ac bc hP=>?_
   have m:=hP.1
   have q1:=hP.2.1
   have q1':=hP.2.2.1
   have q2:=hP.2.2.2.1
   have q2':=hP.2.2.2.2.1
   have q3:=hP.2.2.2.2.2
   clear hI hP
   dsimp only
   obtain⟨n,rfl⟩:∃ n,na=n+1:=⟨na-1,by omega⟩
   obtain⟨l,rfl⟩:∃ l,nb=l+1:=⟨nb-1,by omega⟩
   obtain⟨pb,eb⟩:=get_of_lt (xs:=b) (i:=l) (by lia)
   obtain⟨pa,ea⟩:=get_of_lt (xs:=a) (i:=n) (by lia)
   refine wpS_bind (elem_ok eb (wpS_bind (elem_ok ea (wpS_bind (lt_ok hO (sm.k.trans hk) (kb _ _ eb) (ka _ _ ea) ?_)))))
   cases t:κ.blt (kk κ pb) (kk κ pa)with
   |true =>
    dsimp only
    rw[if_pos rfl]
    have tk:κ.kle (KK κ b l) (KK κ a n):=by rw[KK_of eb,KK_of ea];exact KeyOrd.kle_of_klt t
    have m':=hm_a m ea fun j j1 j2=>KeyOrd.kle_trans (hB j l (by lia) (by lia)) tk
    refine wpS_bind (elem_ok ea ?_)
    by_cases z:n=0
    ·rw[if_pos (by simpa using z)]
     exact wpS_pure ⟨sm,.inl ⟨_,_,rfl,hf_a m' z⟩⟩
    ·rw[if_neg (by simpa using z)]
     refine wpS_if (fun _=>?_) fun _=>?_
     ·exact wpS_pure ⟨sm,.inr ⟨_,_,_,_,_,rfl,m',by lia,by lia,by omega,by omega,by lia⟩⟩
     ·exact wpS_pure ⟨sm,_,_,_,_,_,rfl,m',by lia,by lia,by omega,by omega,by lia⟩
   |false =>
    dsimp only
    rw[if_neg Bool.false_ne_true]
    have tk:κ.kle (KK κ a n) (KK κ b l):=by rw[KK_of eb,KK_of ea];exact t
    have m':=hm_b m eb fun j j1 j2=>KeyOrd.kle_trans (hA j n (by lia) (by lia)) tk
    refine wpS_bind (elem_ok eb ?_)
    by_cases z:l=1
    ·rw[if_pos (by simpa using z)]
     exact wpS_pure ⟨sm,.inl ⟨_,_,rfl,hf_f m' z hb hf⟩⟩
    ·rw[if_neg (by simpa using z)]
     refine wpS_if (fun _=>?_) fun _=>?_
     ·exact wpS_pure ⟨sm,.inr ⟨_,_,_,_,_,rfl,m',by omega,by omega,by lia,by lia,by lia⟩⟩
     ·exact wpS_pure ⟨sm,_,_,_,_,_,rfl,m',by omega,by omega,by lia,by lia,by lia⟩
  case ipost =>
   intro c st2 hI
   have sm2:=hI.1
   refine eo5 c hI.2 (fun R r g=>?_) fun na nb out ac bc hP=>?_
   ·exact wpS_pure ⟨sm2,R,_,rfl,g⟩
   have m:=hP.1
   have q1:=hP.2.1
   have q1':=hP.2.2.1
   have q2:=hP.2.2.2.1
   have q2':=hP.2.2.2.2.1
   have q3:=hP.2.2.2.2.2
   clear hI hP
   dsimp only
   refine wpS_bind (wpS_lift (wpAny_rule ⟨rfl,?_⟩))
   refine wpS_bind (wpS_mono (wpS_forRange (I:=fun y c st'=>Sm st st'/\∃ na nb out mg ac bc,c=(none,na,nb,out,mg,ac,bc)/\MH κ T out.toList.reverse (a.toList.take na) (b.toList.take nb)/\0<na/\na<=a.size/\1<nb/\nb<=b.size/\x+1+na+nb<a.size+b.size)
    (Q:=fun c st'=>Sm st st'/\((∃ R r,c=(some R,r)/\Good κ T R)\/∃ na nb out mg ac bc,c=(none,na,nb,out,mg,ac,bc)/\MH κ T out.toList.reverse (a.toList.take na) (b.toList.take nb)/\0<na/\na<=a.size/\1<nb/\nb<=b.size/\x+1+na+nb<a.size+b.size))
    ?gstep ?gfin ⟨sm2,_,_,_,_,_,_,rfl,m,q1,q1',q2,q2',q3⟩) ?gpost)
   case gfin =>
    exact fun c st' hI=>⟨hI.1,.inr hI.2⟩
   case gpost =>
    intro c st3 hI
    have sm3:=hI.1
    refine eo6 c hI.2 (fun R r g=>?_) fun na nb out mg ac bc hP=>?_
    ·exact wpS_pure ⟨sm3,R,_,rfl,g⟩
    dsimp only
    have m:=hP.1
    have q1:=hP.2.1
    have q1':=hP.2.2.1
    have q2:=hP.2.2.2.1
    have q2':=hP.2.2.2.2.1
    have q3:=hP.2.2.2.2.2
    clear hI hP
    exact wpS_bind (wpS_modify (wpS_pure ⟨sm3.min _,_,_,_,_,rfl,m,q1,q1',q2,q2',by omega⟩))
   case gstep =>
    intro y c st3 _ hy hI
    have sm:=hI.1
    refine el6 c hI.2 fun na nb out mg ac bc hP=>?_
    have m:=hP.1
    have q1:=hP.2.1
    have q1':=hP.2.2.1
    have q2:=hP.2.2.2.1
    have q2':=hP.2.2.2.2.1
    have q3:=hP.2.2.2.2.2
    clear hI hP
    dsimp only
    obtain⟨l,rfl⟩:∃ l,nb=l+1:=⟨nb-1,by omega⟩
    obtain⟨pb,eb⟩:=get_of_lt (xs:=b) (i:=l) (by lia)
    refine' wpS_ifS (P:=_) ?A0 (fun _ H=>?A1) fun _ H=>?A2
    case A1=>generalize mg-1=z;revert z;exact H.out
    case A2=>exact H.out _
    intro mg
    refine wpS_bind (wpS_modify ?_)
    refine wpS_bind (elem_ok eb (wpS_bind (gallop_ok (bey_right hO (kb _ _ eb) ka (base:=0) (n:=na) (by lia)) ((sm.min _).k.trans hk) (fun i j hij hj t=>?_) (by omega) fun k k1 k2 k3=>?_)))
    ·have t1:κ.kle (KK κ a (0+j)) (kk κ pb):=by simpa[KeyOrd.kle]using t
     have t2:=KeyOrd.kle_trans (hA (0+i) (0+j) (by lia) (by lia)) t1
     simpa[KeyOrd.kle]using t2
    dsimp only
    have lowk:∀ i,i<k->κ.kle (KK κ a i) (KK κ b l):=fun i i1=>by
     have q:=k2 i i1
     rw[Nat.zero_add]at q
     rw[KK_of eb]
     simpa[KeyOrd.kle]using q
    have upk:∀ i,k<=i->i<na->κ.kle (KK κ b l) (KK κ a i):=fun i i1 i2=>by
     have q:=k3 i i1 i2
     rw[Nat.zero_add]at q
     rw[KK_of eb]
     exact KeyOrd.kle_of_klt (show κ.blt _ _=true by simpa using q)
    refine' wpS_ifS (P:=_) ?B0 (fun kz H=>?B1) fun kz H=>?B2
    case B1 =>
     have mk:=hb_a k1 m fun i i1 i2 _ j j1 j2=>KeyOrd.kle_trans (hB j l (by lia) (by lia)) (upk i i1 i2)
     by_cases w1:k=0
     ·rw[if_pos (by simpa using w1)]
      exact wpS_pure ⟨sm.min _,.inl ⟨_,_,rfl,hf_a mk w1⟩⟩
     rw[if_neg (by simpa using w1)]
     have lo1:=lowk
     have p1:0<k:=by lia
     have p2:k<=a.size:=by lia
     have p3:x+1+k+(l+1)<a.size+b.size:=by lia
     revert mk lo1 p1 p2 p3
     generalize out++(a.extract k na).reverse=out1
     generalize na-k=ac1
     generalize k=na1
     revert out1 ac1 na1
     exact H.out
    case B2 =>
     have k0:k=na:=by omega
     exact H.out _ _ _ m (fun i i1=>lowk i (by lia)) q1 q1' q3
    clear lowk upk k1 k2 k3 m q1 q1' q3
    intro out1 ac1 na1 m1 lo1 p1 p2 p3
    refine wpS_bind (elem_ok eb ?_)
    have m2:=hm_b m1 eb fun i i1 _=>lo1 i i1
    by_cases z:l=1
    ·rw[if_pos (by simpa using z)]
     exact wpS_pure ⟨sm.min _,.inl ⟨_,_,rfl,hf_f m2 z hb hf⟩⟩
    rw[if_neg (by simpa using z)]
    obtain⟨n,rfl⟩:∃ n,na1=n+1:=⟨na1-1,by omega⟩
    obtain⟨pa,ea⟩:=get_of_lt (xs:=a) (i:=n) (by lia)
    refine wpS_bind (elem_ok ea (wpS_bind (gallop_ok (bey_left hO (ka _ _ ea) kb (base:=0) (n:=l) (by lia)) ((sm.min _).k.trans hk) (fun i j hij hj t=>?_) (by omega) fun k2 l1 l2 l3=>?_)))
    ·exact KeyOrd.klt_of_kle_of_klt (hB (0+i) (0+j) (by lia) (by lia)) t
    dsimp only
    have low2:∀ j,j<k2->κ.kle (KK κ b j) (KK κ a n):=fun j j1=>by
     have q:=l2 j j1
     rw[Nat.zero_add]at q
     rw[KK_of ea]
     exact KeyOrd.kle_of_klt q
    have up2:∀ j,k2<=j->j<l->κ.kle (KK κ a n) (KK κ b j):=fun j j1 j2=>by
     have q:=l3 j j1 j2
     rw[Nat.zero_add]at q
     rw[KK_of ea]
     exact q
    refine' wpS_ifS (P:=_) ?C0 (fun kz2 H=>?C1) fun kz2 H=>?C2
    case C1 =>
     have m3:=hb_b l1 m2 fun j j1 j2 _ i i1 i2=>KeyOrd.kle_trans (hA i n (by lia) (by lia)) (up2 j j1 j2)
     by_cases z2:k2=1
     ·rw[if_pos (by simpa using z2)]
      exact wpS_pure ⟨sm.min _,.inl ⟨_,_,rfl,hf_f m3 z2 hb hf⟩⟩
     rw[if_neg (by simpa using z2)]
     by_cases z4:k2=0
     ·rw[if_pos (by simpa using z4)]
      exact wpS_pure ⟨sm.min _,.inl ⟨_,_,rfl,hf_b m3 z4⟩⟩
     rw[if_neg (by simpa using z4)]
     have lo2:=low2
     have e1:1<k2:=by lia
     have e2:k2<=b.size:=by lia
     have e3:x+1+n+k2<a.size+b.size:=by lia
     revert m3 lo2 e1 e2 e3
     generalize out1.push pb++(b.extract k2 (l+1-1)).reverse=out2
     generalize l+1-1-k2=bc2
     generalize k2=nb2
     revert out2 bc2 nb2
     exact H.out
    case C2 =>
     have k0:k2=l:=by lia
     exact H.out _ _ _ m2 (fun j j1=>low2 j (by lia)) (by lia) (by lia) (by lia)
    clear low2 up2 l1 l2 l3 m2 m1 p1 p3
    intro out2 bc2 nb2 m3 lo2 e1 e2 e3
    refine wpS_bind (elem_ok ea ?_)
    have m4:=hm_a m3 ea fun j j1 _=>lo2 j j1
    by_cases z3:n=0
    ·rw[if_pos (by simpa using z3)]
     exact wpS_pure ⟨sm.min _,.inl ⟨_,_,rfl,hf_a m4 z3⟩⟩
    rw[if_neg (by simpa using z3)]
    have e4:0<n:=by lia
    have e5:n<=a.size:=by lia
    refine wpS_if (fun _=>?_) fun _=>?_
    ·exact wpS_pure ⟨sm.min _,.inr ⟨_,_,_,_,_,_,rfl,m4,e4,e5,e1,e2,e3⟩⟩
    ·exact wpS_pure ⟨sm.min _,_,_,_,_,_,_,rfl,m4,e4,e5,e1,e2,e3⟩
end
open PySem PyProof.Rows
theorem write_blk:∀ (m:List Keyed) (xs:Array Keyed) (sa j0:Nat),sa+j0+m.length<=xs.size ->
  ((m.zipIdx j0).foldl (fun(a:Array Keyed) (q:Keyed×Nat)=>a.setIfInBounds (sa+q.2) q.1) xs).toList=xs.toList.take (sa+j0)++m++xs.toList.drop (sa+j0+m.length)
 |[],xs,sa,j0,h=>by simp
 |p :: r,xs,sa,j0,h=>by
  rw[List.length_cons]at h
  rw[List.zipIdx_cons,List.foldl_cons,write_blk r _ sa (j0+1) (by rw[Array.size_setIfInBounds];lia)]
  have hl:xs.toList.length=xs.size:=by simp
  rw[Array.toList_setIfInBounds]
  have e1:(xs.toList.set (sa+j0) p).take (sa+(j0+1))=xs.toList.take (sa+j0)++[p]:=by
   rw[show sa+(j0+1)=sa+j0+1 by lia,List.take_add_one,List.take_set_of_le (Nat.le_refl _),List.getElem?_set_self (by lia)]
   rfl
  have e2:(xs.toList.set (sa+j0) p).drop (sa+(j0+1)+r.length)=xs.toList.drop (sa+j0+(p :: r).length):=by
   rw[List.drop_set_of_lt (by lia),List.length_cons]
   congr 1
   lia
  rw[e1,e2]
  simp
theorem SIn.pw{κ:KeyKind}{xs:Array Keyed}{lo n:Nat}(h:SIn κ xs lo n):((xs.toList.drop lo).take n).Pairwise (kL κ):=by
 rw[List.pairwise_iff_getElem]
 intro i j hi hj hij
 rw[List.length_take,List.length_drop]at hi hj
 have hl:xs.toList.length=xs.size:=by simp
 have q:=h i j (by lia) (by lia)
 have g:∀ m,(hm:m<min n (xs.toList.length-lo))->xs[lo+m]?=some (((xs.toList.drop lo).take n)[m]'(by rw[List.length_take,List.length_drop];exact hm)):=fun m hm=>by
  rw[List.getElem_take,List.getElem_drop,<- List.getElem?_eq_getElem (by omega)]
  simp
 rw[KK_of (g i hi),KK_of (g j hj)]at q
 exact q
theorem SIn.of_pw{κ:KeyKind}{xs:Array Keyed}(h:xs.toList.Pairwise (kL κ)):SIn κ xs 0 xs.size:=by
 intro i j hij hj
 rw[Nat.zero_add,Nat.zero_add]
 by_cases e:i=j
 ·subst e;exact KeyOrd.kle_refl _
 obtain⟨p,hp⟩:=get_of_lt (xs:=xs) (i:=i) (by lia)
 obtain⟨q,hq⟩:=get_of_lt (xs:=xs) (i:=j) (by omega)
 rw[KK_of hp,KK_of hq]
 have hl:xs.toList.length=xs.size:=by simp
 have z:=(List.pairwise_iff_getElem.mp h) i j (by lia) (by omega) (by lia)
 have ep:xs.toList[i]'(by lia)=p:=by
  have:=(Array.getElem?_eq_some_iff.mp hp).2
  simpa using this
 have eq:xs.toList[j]'(by omega)=q:=by
  have:=(Array.getElem?_eq_some_iff.mp hq).2
  simpa using this
 rw[ep,eq]at z
 exact z
section
variable{prog:Program}{w:World}{A:Around}{E:Value->Shared->Prop}{s:Shared}{κ:KeyKind}{kd:SortKind}{st:SortSt}{a₀:Array Keyed}{n1 n2 pw:Nat}
theorem keyd_of{xs:Array Keyed}(hp:xs.Perm a₀)(h0:KeysOf κ a₀):Keyd κ xs:=fun i p hi=>by
 have hm:p∈a₀.toList:=(Array.perm_iff_toList_perm.mp hp).mem_iff.mp (by
  have:=Array.mem_of_getElem? hi
  simpa using this)
 exact h0 p hm
theorem keyd_ext{xs:Array Keyed}(h:Keyd κ xs)(i j:Nat):Keyd κ (xs.extract i j):=fun m p hm=>by
 rw[Array.getElem?_extract]at hm
 split at hm
 ·exact h _ _ hm
 ·cases hm
theorem KK_ext{xs:Array Keyed}{i j m:Nat}(hm:m<min j xs.size-i):KK κ (xs.extract i j) m=KK κ xs (i+m):=by
 apply KK_congr
 rw[Array.getElem?_extract,if_pos hm]
theorem wpS_set{σ:Type}{M:Model}{x st:σ}{Q:PUnit->σ->Prop}(h:Q ⟨⟩ x):wpS M A E s (set x:StateT σ Sem PUnit) Q st:=by
 unfold wpS
 rw[StateT.run_set]
 exact wpAny_pure ⟨rfl,h⟩
theorem glue{L P X Y S M:List Keyed}(hL:L=P++X++(Y++S))(hM:M.Perm (X++Y))(sM:M.Pairwise (kL κ))(sa:(P++X).Pairwise (kL κ))(sb:(Y++S).Pairwise (kL κ))(hPY:∀ x∈P,∀ y∈Y++S,kL κ x y)(hXS:∀ x∈X,∀ y∈S,kL κ x y) :
  (P++M++S).Perm L/\(P++M++S).Pairwise (kL κ):=by
 obtain⟨p1,p2,p3⟩:=List.pairwise_append.mp sa
 obtain⟨r1,r2,r3⟩:=List.pairwise_append.mp sb
 constructor
 ·rw[hL]
  simp only[List.append_assoc]
  refine List.Perm.append_left P ?_
  rw[<- List.append_assoc X]
  exact List.Perm.append_right S hM
 ·refine List.pairwise_append.mpr ⟨List.pairwise_append.mpr ⟨p1,sM,fun x hx y hy=>?_⟩,r2,fun x hx y hy=>?_⟩
  ·rcases List.mem_append.mp (hM.mem_iff.mp hy)with q | q
   ·exact p3 x hx y q
   ·exact hPY x hx y (List.mem_append_left _ q)
  ·rcases List.mem_append.mp hx with q | q
   ·exact hPY x q y (List.mem_append_right _ hy)
   ·rcases List.mem_append.mp (hM.mem_iff.mp q)with q | q
    ·exact hXS x q y hy
    ·exact r3 x q y hy
theorem mergeAt_ok{Q:Bool->SortSt->Prop}(hO:LtOk κ kd prog w A s)(h0:KeysOf κ a₀)(hk:kindOf st=kd)(hp:(arrOf st).Perm a₀)(hf:failedOf st=none)(hpd:pendingOf st = #[(0,n1,pw),(n1,n2,0)])(hsz:n1+n2=a₀.size)(h1:0<n1)(h2:0<n2)
  (s1:SIn κ (arrOf st) 0 n1) (s2:SIn κ (arrOf st) n1 n2) (h:∀ st',(arrOf st').Perm a₀->failedOf st'=none->pendingOf st' = #[(0,n1+n2,pw)]->SIn κ (arrOf st') 0 (n1+n2)->kindOf st'=kd->Q true st'):wpS (model prog w) A E s (mergeAt' 0) Q st:=by
 obtain⟨kd',xs,pend,mg,fl⟩:=st
 change kd'=kd at hk
 change xs.Perm a₀ at hp
 change fl=none at hf
 change pend=_ at hpd
 change SIn κ xs 0 n1 at s1
 change SIn κ xs n1 n2 at s2
 subst hk hf hpd
 have hs:xs.size=n1+n2:=by rw[hp.size_eq,hsz]
 have hl:xs.toList.length=n1+n2:=by rw[<- hs];simp
 have kd0:=keyd_of hp h0
 obtain⟨pb,eb⟩:=get_of_lt (xs:=xs) (i:=n1) (by lia)
 have ePd:(#[(0,n1,pw),(n1,n2,0)].setIfInBounds 0 (0,n1+n2,pw)).eraseIdxIfInBounds (0+1) = #[(0,n1+n2,pw)]:=by simp[Array.eraseIdxIfInBounds]
 refine wpS_bind (wpS_get (wpS_bind (wpS_set ?_)))
 dsimp only
 rw[ePd]
 refine wpS_bind (elem_ok eb (wpS_bind (gallop_ok (kd:=kd') (bey_right (arr:=xs) hO (kd0 _ _ eb) kd0 (base:=0) (n:=n1) (by rw[hs,Nat.zero_add];exact Nat.le_add_right n1 n2)) rfl (fun i j hij hj t=>?_) h1 fun k k1 k2 k3=>?_)))
 ·have t1:κ.kle (KK κ xs (0+j)) (kk κ pb):=by simpa[KeyOrd.kle]using t
  have t2:=KeyOrd.kle_trans (s1 i j hij hj) t1
  simpa[KeyOrd.kle]using t2
 dsimp only
 have lowk:∀ i,i<k->κ.kle (KK κ xs i) (KK κ xs n1):=fun i hi=>by
  have q:=k2 i hi
  rw[Nat.zero_add]at q
  rw[KK_of eb]
  simpa[KeyOrd.kle]using q
 have upk:∀ i,k<=i->i<n1->κ.kle (KK κ xs n1) (KK κ xs i):=fun i i1 i2=>by
  have q:=k3 i i1 i2
  rw[Nat.zero_add]at q
  rw[KK_of eb]
  exact KeyOrd.kle_of_klt (show κ.blt _ _=true by simpa using q)
 have hA:∀ i j,i<=j->j<n1->κ.kle (KK κ xs i) (KK κ xs j):=fun i j hij hj=>by simpa using s1 i j hij hj
 have hB:∀ i j,n1<=i->i<=j->j<n1+n2->κ.kle (KK κ xs i) (KK κ xs j):=fun i j h1 hij hj=>by
  have q:=s2 (i-n1) (j-n1) (Nat.sub_le_sub_right hij n1) (Nat.sub_lt_left_of_lt_add (Nat.le_trans h1 hij) hj)
  rwa [Nat.add_sub_cancel' h1,Nat.add_sub_cancel' (Nat.le_trans h1 hij)]at q
 -- nothing to do: all is in order
 have calm:(∀ i j,i<n1->n1<=j->j<n1+n2->κ.kle (KK κ xs i) (KK κ xs j))->SIn κ xs 0 (n1+n2):=fun hc i j hij hj=>by
  rw[Nat.zero_add,Nat.zero_add]
  by_cases j1:j<n1
  ·exact hA i j hij j1
  ·by_cases i1:i<n1
   ·exact hc i j i1 (by lia) hj
   ·exact hB i j (by lia) hij hj
 by_cases z1:n1-k=0
 ·rw[if_pos (by simpa using z1)]
  exact wpS_pure (h _ hp rfl rfl (calm fun i j i1 j1 j2=>KeyOrd.kle_trans (lowk i (Nat.lt_of_lt_of_le i1 (Nat.le_of_sub_eq_zero z1))) (hB n1 j (Nat.le_refl _) j1 j2)) rfl)
 rw[if_neg (by simpa using z1)]
 have pk:0<n1-k:=Nat.pos_of_ne_zero z1
 have eL:0+k+(n1-k)-1=n1-1:=by rw[Nat.zero_add,Nat.add_sub_cancel' k1]
 obtain⟨pa,ea'⟩:=get_of_lt (xs:=xs) (i:=n1-1) (Nat.lt_of_lt_of_le (Nat.sub_lt h1 Nat.one_pos) (hs▸Nat.le_add_right n1 n2))
 have ea:xs[0+k+(n1-k)-1]?=some pa:=by rw[eL];exact ea'
 refine wpS_bind (elem_ok ea (wpS_bind (gallop_ok (kd:=kd') (bey_left (arr:=xs) hO (kd0 _ _ ea) kd0 (base:=n1) (n:=n2) (Nat.le_of_eq hs.symm)) rfl (fun i j hij hj t=>?_) (Nat.sub_lt h2 Nat.one_pos) fun m m1 m2 m3=>?_)))
 ·exact KeyOrd.klt_of_kle_of_klt (s2 i j hij hj) t
 dsimp only
 have lowm:∀ j,n1<=j->j<n1+m->κ.kle (KK κ xs j) (KK κ xs (n1-1)):=fun j j1 j2=>by
  have q:=m2 (j-n1) (Nat.sub_lt_left_of_lt_add j1 j2)
  rw[Nat.add_sub_cancel' j1]at q
  rw[KK_of ea']
  exact KeyOrd.kle_of_klt q
 have upm:∀ j,n1+m<=j->j<n1+n2->κ.kle (KK κ xs (n1-1)) (KK κ xs j):=fun j j1 j2=>by
  have q:=m3 (j-n1) (Nat.le_sub_of_add_le (Nat.add_comm n1 m▸j1)) (Nat.sub_lt_left_of_lt_add (Nat.le_trans (Nat.le_add_right n1 m) j1) j2)
  rw[Nat.add_sub_cancel' (Nat.le_trans (Nat.le_add_right n1 m) j1)]at q
  rw[KK_of ea']
  exact q
 by_cases z2:m=0
 ·rw[if_pos (by simpa using z2)]
  exact wpS_pure (h _ hp rfl rfl (calm fun i j i1 j1 j2=>KeyOrd.kle_trans (hA i (n1-1) (by lia) (by lia)) (upm j (by lia) j2)) rfl)
 rw[if_neg (by simpa using z2)]
 -- the two blocks
 have pm:0<m:=Nat.pos_of_ne_zero z2
 have hn1:n1<=xs.size:=hs▸Nat.le_add_right n1 n2
 have hnm:n1+m<=xs.size:=hs▸Nat.add_le_add_left m1 n1
 have zx:(xs.extract (0+k) n1).size=n1-k:=by rw[Array.size_extract,Nat.min_eq_left hn1,Nat.zero_add]
 have zy:(xs.extract n1 (n1+m)).size=m:=by rw[Array.size_extract,Nat.min_eq_left hnm,Nat.add_sub_cancel_left]
 have kx:=keyd_ext kd0 (0+k) n1
 have ky:=keyd_ext kd0 n1 (n1+m)
 have KX:∀ i,i<n1-k->KK κ (xs.extract (0+k) n1) i=KK κ xs (k+i):=fun i hi=>by
  rw[KK_ext (by rw[Nat.min_eq_left hn1,Nat.zero_add];exact hi),Nat.zero_add]
 have KY:∀ i,i<m->KK κ (xs.extract n1 (n1+m)) i=KK κ xs (n1+i):=fun i hi=>by rw[KK_ext (by rw[Nat.min_eq_left hnm,Nat.add_sub_cancel_left];exact hi)]
 have sX:∀ i j,i<=j->j <(xs.extract (0+k) n1).size->κ.kle (KK κ (xs.extract (0+k) n1) i) (KK κ (xs.extract (0+k) n1) j):=fun i j hij hj=>by
  rw[zx]at hj
  rw[KX i (Nat.lt_of_le_of_lt hij hj),KX j hj]
  exact hA _ _ (Nat.add_le_add_left hij k) (Nat.add_lt_of_lt_sub' hj)
 have sY:∀ i j,i<=j->j <(xs.extract n1 (n1+m)).size->κ.kle (KK κ (xs.extract n1 (n1+m)) i) (KK κ (xs.extract n1 (n1+m)) j):=fun i j hij hj=>by
  rw[zy]at hj
  rw[KY i (Nat.lt_of_le_of_lt hij hj),KY j hj]
  exact hB _ _ (Nat.le_add_right n1 i) (Nat.add_le_add_left hij n1) (Nat.add_lt_add_left (Nat.lt_of_lt_of_le hj m1) n1)
 have f1:κ.kle (KK κ (xs.extract n1 (n1+m)) 0) (KK κ (xs.extract (0+k) n1) 0):=by
  rw[KX 0 pk,KY 0 pm]
  exact upk k (Nat.le_refl _) (Nat.lt_of_sub_pos pk)
 have f2:κ.kle (KK κ (xs.extract n1 (n1+m)) ((xs.extract n1 (n1+m)).size-1)) (KK κ (xs.extract (0+k) n1) ((xs.extract (0+k) n1).size-1)):=by
  rw[zx,zy,KX _ (Nat.sub_lt pk Nat.one_pos),KY _ (Nat.sub_lt pm Nat.one_pos),<- Nat.add_sub_assoc pk,Nat.add_sub_cancel' k1]
  exact lowm _ (Nat.le_add_right n1 _) (Nat.add_lt_add_left (Nat.sub_lt pm Nat.one_pos) n1)
 have eX:(xs.extract (0+k) n1).toList=(xs.toList.drop k).take (n1-k):=by
  have e:=ext_blk xs k (n1-k)
  rw[show k+(n1-k)=n1 by lia]at e
  rw[Nat.zero_add]
  exact e
 have eY:(xs.extract n1 (n1+m)).toList=(xs.toList.drop n1).take m:=ext_blk xs n1 m
 -- behind the merge
 have behind:∀ (R:Array Keyed) (st':SortSt),Sm (SortSt.mk' kd' xs #[(0,n1+n2,pw)] mg none) st'->Good κ ((xs.extract (0+k) n1).toList++(xs.extract n1 (n1+m)).toList) R ->
   Q true (setArr st' ((R.toList.zipIdx).foldl (fun(a:Array Keyed) (q:Keyed×Nat)=>a.setIfInBounds (0+k+q.2) q.1) (arrOf st')))/\failedOf st'=none:=by
  intro R st' sm g
  have ea1:arrOf st'=xs:=sm.a
  have zR:R.toList.length=n1-k+m:=by
   rw[g.1.length_eq,List.length_append,Array.length_toList,Array.length_toList,zx,zy]
  have W:=write_blk R.toList xs (0+k) 0 (by lia)
  have gl:=glue (κ:=κ) (L:=xs.toList) (P:=xs.toList.take k) (X:=(xs.toList.drop k).take (n1-k)) (Y:=(xs.toList.drop n1).take m) (S:=xs.toList.drop (n1+m)) (M:=R.toList)
   (by rw[<- blk_drop xs n1 m,<- take_blk xs (by omega:k<=n1),List.take_append_drop]) (by rw[<- eX,<- eY];exact g.1) g.2
   (by
    rw[<- take_blk xs (by omega:k<=n1)]
    have q:=SIn.pw s1
    rwa [List.drop_zero]at q)
   (by
    rw[<- blk_drop xs n1 m]
    have q:=SIn.pw s2
    rwa [List.take_of_length_le (by rw[List.length_drop];lia)]at q)
   (fun x hx y hy=>by
    rw[<- blk_drop xs n1 m]at hy
    obtain⟨i,i1,i2,i3⟩:=mem_take hx
    obtain⟨j,j1,j2,j3⟩:=mem_drop hy
    have q:=KeyOrd.kle_trans (lowk i i1) (hB n1 j (Nat.le_refl _) j1 (by lia))
    rw[KK_of i3,KK_of j3]at q
    exact q)
   (fun x hx y hy=>by
    obtain⟨i,i1,i2,i3,i4⟩:=mem_blk hx
    obtain⟨j,j1,j2,j3⟩:=mem_drop hy
    have q:=KeyOrd.kle_trans (hA i (n1-1) (by lia) (by omega)) (upm j j1 (by lia))
    rw[KK_of i4,KK_of j3]at q
    exact q)
  have eW:((R.toList.zipIdx).foldl (fun(a:Array Keyed) (q:Keyed×Nat)=>a.setIfInBounds (0+k+q.2) q.1) xs).toList=xs.toList.take k++R.toList++xs.toList.drop (n1+m):=by
   rw[W,zR,show 0+k+0=k by lia,show k+(n1-k+m)=n1+m by lia]
  refine⟨?_,sm.f⟩
  rw[ea1]
  have pp:((R.toList.zipIdx).foldl (fun(a:Array Keyed) (q:Keyed×Nat)=>a.setIfInBounds (0+k+q.2) q.1) xs).Perm a₀:=by
   refine Array.Perm.trans ?_ hp
   rw[Array.perm_iff_toList_perm,eW]
   exact gl.1
  refine h _ pp sm.f sm.p ?_ sm.k
  have q:=SIn.of_pw (κ:=κ) (xs:=(R.toList.zipIdx).foldl (fun(a:Array Keyed) (q:Keyed×Nat)=>a.setIfInBounds (0+k+q.2) q.1) xs) (by rw[eW];exact gl.2)
  rw[pp.size_eq,<- hsz]at q
  exact q
 refine wpS_if (fun _=>?_) fun _=>?_
 ·refine wpS_bind (mergeLo_ok (kd:=kd') hO rfl kx ky sX sY (Nat.lt_of_lt_of_eq pk zx.symm) (Nat.lt_of_lt_of_eq pm zy.symm) f1 f2 fun R st' sm g=>?_)
  obtain⟨q1,q2⟩:=behind R st' sm g
  refine wpS_bind (wpS_modify (wpS_bind (wpS_get (wpS_pure ?_))))
  show Q (failedOf st').isNone _
  rw[q2]
  exact q1
 ·refine wpS_bind (mergeHi_ok (kd:=kd') hO rfl kx ky sX sY (Nat.lt_of_lt_of_eq pk zx.symm) (Nat.lt_of_lt_of_eq pm zy.symm) f1 f2 fun R st' sm g=>?_)
  obtain⟨q1,q2⟩:=behind R st' sm g
  refine wpS_bind (wpS_modify (wpS_bind (wpS_get (wpS_pure ?_))))
  show Q (failedOf st').isNone _
  rw[q2]
  exact q1
end
open PySem PyProof.Rows
theorem minRun_le{n:Nat}(h2:2<=n)(h:n<128):1<=minRun' n n 0/\minRun' n n 0<=n/\n<=2 * minRun' n n 0:=by
 obtain⟨f,hf⟩:∃ f,n=f+1:=⟨n-1,by lia⟩
 have e:minRun' n n 0=if n<64 then n+0 else minRun' f (n / 2) (max 0 (n % 2)):=by
  conv=>lhs;rw[hf]
  rw[minRun'_succ,<- hf]
  all_goals rfl
 rw[e]
 by_cases h6:n<64
 ·rw[if_pos h6];lia
 ·rw[if_neg h6]
  obtain⟨f',hf'⟩:∃ f',f=f' + 1:=⟨f-1,by lia⟩
  rw[hf',minRun'_succ,if_pos (by lia)]
  lia
section
variable{prog:Program}{w:World}{A:Around}{E:Value->Shared->Prop}{s:Shared}{κ:KeyKind}{kd:SortKind}{st:SortSt}{a₀:Array Keyed}
structure One(κ:KeyKind)(kd:SortKind)(a₀:Array Keyed)(st:SortSt):Prop where
 perm:(arrOf st).Perm a₀
 kind:kindOf st=kd
 failed:failedOf st=none
 pend:∃ pw,pendingOf st = #[(0,a₀.size,pw)]
 sort:SIn κ (arrOf st) 0 a₀.size
structure Two(κ:KeyKind)(kd:SortKind)(a₀:Array Keyed)(m1 m2 pw:Nat)(st:SortSt):Prop where
 perm:(arrOf st).Perm a₀
 kind:kindOf st=kd
 failed:failedOf st=none
 pend:pendingOf st = #[(0,m1,pw),(m1,m2,0)]
 len:m1+m2=a₀.size
 p1:0<m1
 p2:0<m2
 s1:SIn κ (arrOf st) 0 m1
 s2:SIn κ (arrOf st) m1 m2
theorem SIn.low{xs ys:Array Keyed}{m:Nat}(h:SIn κ xs 0 m)(e:∀ k,k<m->ys[k]?=xs[k]?):SIn κ ys 0 m:=fun i j hij hj=>by
 rw[KK_congr (ys:=xs) (e (0+i) (by lia)),KK_congr (ys:=xs) (e (0+j) (by lia))]
 exact h i j hij hj
theorem twoP{st:SortSt}{m n pw:Nat}(e:pendingOf st = #[(0,m,0)]):((pendingOf st).modify ((pendingOf st).size-1) fun x=>(x.1,x.2.1,pw)).push (m,n,0) = #[(0,m,pw),(m,n,0)]:=by
 rw[e]
 rfl
theorem runs_ok{Q:Unit->SortSt->Prop}(hO:LtOk κ kd prog w A s)(h0:KeysOf κ a₀)(hB:SB kd a₀ a₀ 0 #[] st)(h2:2<=a₀.size)(h128:a₀.size<128)
  (h:∀ st',(arrOf st').Perm a₀->failedOf st'=none->SIn κ (arrOf st') 0 a₀.size->Q () st'):wpS (model prog w) A E s sortRuns' Q st:=by
 obtain⟨r1,r2,r3⟩:=minRun_le h2 h128
 rw[sortRuns'_eq]
 refine wpS_bind (wpS_get ?_)
 dsimp only
 simp only[hB.size]
 generalize hmr:minRun' a₀.size a₀.size 0=mr at r1 r2 r3 ⊢
 refine wpS_bind (wpS_mono (wpS_forRange
  (I:=fun x c st'=>(x=0/\c=(none,0)/\SB kd a₀ a₀ 0 #[] st')\/(x=1/\∃ m,c=(none,m)/\mr<=m/\m<a₀.size/\SB kd a₀ (arrOf st') m #[(0,m,0)] st'/\SIn κ (arrOf st') 0 m)\/(1<=x/\c=(none,a₀.size)/\(One κ kd a₀ st'\/∃ m1 m2 pw,Two κ kd a₀ m1 m2 pw st')))
  (Q:=fun c st'=>c=(none,a₀.size)/\(One κ kd a₀ st'\/∃ m1 m2 pw,Two κ kd a₀ m1 m2 pw st')) ?step ?fin (.inl ⟨rfl,rfl,hB⟩)) ?post)
 case fin =>
  rintro c st' (⟨hx,_,_⟩ |⟨hx,_⟩ |⟨_,hc,hD⟩)
  ·lia
  ·lia
  ·exact⟨hc,hD⟩
 case step =>
  rintro x c st1 _ hx (⟨rfl,rfl,B1⟩ |⟨rfl,m,rfl,m1,m2,B1,S1⟩ |⟨hx1,rfl,hD⟩)
  ·dsimp only
   rw[if_neg (by lia)]
   refine wpS_bind (count_ok hO h0 (by lia) (by lia) B1 fun m st2 B2 m1 m2 S2=>?_)
   dsimp only
   have done:∀ m' st',SB kd a₀ a₀ 0 #[] st'->mr<=m'->m'<=a₀.size->SIn κ (arrOf st') 0 m' ->
     (x0:Nat)->x0=0+1->(x0=0/\((none,0+m'):Option Unit×Nat)=(none,0)/\SB kd a₀ a₀ 0 #[] (setPending st' ((pendingOf st').push (0,m',0)))) \/
      (x0=1/\∃ m,((none,0+m'):Option Unit×Nat)=(none,m)/\mr<=m/\m<a₀.size/\SB kd a₀ (arrOf (setPending st' ((pendingOf st').push (0,m',0)))) m #[(0,m,0)] (setPending st' ((pendingOf st').push (0,m',0)))/\SIn κ (arrOf (setPending st' ((pendingOf st').push (0,m',0)))) 0 m) \/
      (1<=x0/\((none,0+m'):Option Unit×Nat)=(none,a₀.size)/\(One κ kd a₀ (setPending st' ((pendingOf st').push (0,m',0)))\/∃ m1 m2 pw,Two κ kd a₀ m1 m2 pw (setPending st' ((pendingOf st').push (0,m',0))))):=by
    intro m' st' B a1 a2 S x0 e0
    have ep:(pendingOf st').push (0,m',0) = #[(0,m',0)]:=by rw[B.pend];rfl
    by_cases e:m'=a₀.size
    ·refine .inr (.inr ⟨by lia,by rw[Nat.zero_add,e],.inl ⟨B.perm,B.kind,B.failed,⟨0,?_⟩,by rw[<- e];exact S⟩⟩)
     rw[<- e];exact ep
    ·refine .inr (.inl ⟨by omega,m',by rw[Nat.zero_add],a1,by lia,⟨B.perm,B.kind,B.failed,ep,fun k hk=>rfl⟩,S⟩)
   by_cases hlt:m<mr
   ·rw[if_pos hlt]
    refine wpS_bind (wpS_lift (wpAny_rule ⟨rfl,?_⟩))
    refine wpS_bind (bin_ok hO h0 (by lia) (by lia) B2 S2 fun st3 B3 S3=>?_)
    refine wpS_if (fun z=>absurd z (by simp)) fun _=>?_
    refine wpS_bind (wpS_get ?_)
    have hb:(pendingOf st3).back?=none:=by rw[B3.pend];rfl
    rw[hb]
    dsimp only
    refine wpS_bind (wpS_modify (wpS_pure (done _ _ B3 (by lia) (by lia) S3 _ rfl)))
   ·rw[if_neg hlt]
    refine wpS_bind (wpS_get ?_)
    have hb:(pendingOf st2).back?=none:=by rw[B2.pend];rfl
    rw[hb]
    dsimp only
    refine wpS_bind (wpS_modify (wpS_pure (done _ _ B2 (by lia) (by omega) S2 _ rfl)))
  ·dsimp only
   rw[if_neg (by lia)]
   refine wpS_bind (count_ok hO h0 (by lia) (by lia) B1 fun n st2 B2 n1 n2 S2=>?_)
   dsimp only
   by_cases hlt:n<mr
   ·rw[if_pos hlt]
    refine wpS_bind (wpS_lift (wpAny_rule ⟨rfl,wpS_bind (bin_ok hO h0 (by omega) (by omega) B2 S2 fun st3 B3 S3=>?_)⟩))
    refine wpS_if (fun z=>absurd z (by simp)) fun _=>?_
    refine wpS_bind (wpS_get ?_)
    have hb:(pendingOf st3).back?=some (0,m,0):=by rw[B3.pend];rfl
    rw[hb]
    dsimp only
    refine wpS_bind (wpS_mono (wpS_forRange (I:=fun x c st'=>c=(none,())/\st'=st3) (Q:=fun c st'=>c=(none,())/\st'=st3) ?a ?b ⟨rfl,rfl⟩) ?c)
    case b=>exact fun c st' h=>h
    case a =>
     rintro x c st' _ _ ⟨rfl,rfl⟩
     refine wpS_bind (wpS_get ?_)
     rw[if_neg (by rw[B3.pend];simp)]
     exact wpS_pure ⟨rfl,rfl⟩
    case c =>
     rintro c st' ⟨rfl,rfl⟩
     refine wpS_bind (wpS_modify (wpS_bind (wpS_modify (wpS_pure ?_))))
     exact .inr (.inr ⟨by lia,by rw[show m+min (a₀.size-m) mr=a₀.size by lia],.inr ⟨m,min (a₀.size-m) mr,_,B3.perm,B3.kind,B3.failed,twoP B3.pend,by lia,by lia,by omega,S1.low B3.low,S3⟩⟩)
   ·rw[if_neg hlt]
    refine wpS_bind (wpS_get ?_)
    have hb:(pendingOf st2).back?=some (0,m,0):=by rw[B2.pend];rfl
    rw[hb]
    dsimp only
    refine wpS_bind (wpS_mono (wpS_forRange (I:=fun x c st'=>c=(none,())/\st'=st2) (Q:=fun c st'=>c=(none,())/\st'=st2) ?a ?b ⟨rfl,rfl⟩) ?c)
    case b=>exact fun c st' h=>h
    case a =>
     rintro x c st' _ _ ⟨rfl,rfl⟩
     refine wpS_bind (wpS_get ?_)
     rw[if_neg (by rw[B2.pend];simp)]
     exact wpS_pure ⟨rfl,rfl⟩
    case c =>
     rintro c st' ⟨rfl,rfl⟩
     refine wpS_bind (wpS_modify (wpS_bind (wpS_modify (wpS_pure ?_))))
     exact .inr (.inr ⟨by lia,by rw[show m+n=a₀.size by lia],.inr ⟨m,n,_,B2.perm,B2.kind,B2.failed,twoP B2.pend,by lia,by lia,by lia,S1.low B2.low,S2⟩⟩)
  ·dsimp only
   rw[if_pos (Nat.le_refl _)]
   exact wpS_pure ⟨rfl,hD⟩
 case post =>
  rintro c st1 ⟨rfl,hD⟩
  dsimp only
  refine wpS_bind (wpS_mono (wpS_forRange (I:=fun x c st'=>c=(none,())/\(One κ kd a₀ st'\/(x=0/\∃ m1 m2 pw,Two κ kd a₀ m1 m2 pw st'))) (Q:=fun c st'=>c=(none,())/\One κ kd a₀ st') ?lstep ?lfin ⟨rfl,hD.imp id fun z=>⟨rfl,z⟩⟩) ?lpost)
  case lfin =>
   rintro c st' ⟨hc,z |⟨hx,_⟩⟩
   ·exact⟨hc,z⟩
   ·lia
  case lpost =>
   rintro c st' ⟨rfl,z⟩
   exact wpS_pure (h _ z.perm z.failed z.sort)
  case lstep =>
   rintro x c st2 _ hx ⟨rfl,z |⟨rfl,m1,m2,pw,z⟩⟩
   ·refine wpS_bind (wpS_get ?_)
    obtain⟨pw,ep⟩:=z.pend
    rw[if_pos (by rw[ep];exact Nat.le_refl 1)]
    exact wpS_pure ⟨rfl,z⟩
   ·refine wpS_bind (wpS_get ?_)
    rw[if_neg (by rw[z.pend];simp)]
    have e2:(pendingOf st2).size-2=0:=by rw[z.pend];rfl
    rw[e2]
    refine wpS_bind (mergeAt_ok (pw:=pw) hO h0 z.kind z.perm z.failed z.pend z.len z.p1 z.p2 z.s1 z.s2 fun st3 a1 a2 a3 a4 a5=>?_)
    refine wpS_if (fun z=>absurd z (by simp)) fun _=>?_
    exact wpS_pure ⟨rfl,.inl ⟨a1,a5,a2,⟨pw,by rw[a3,z.len]⟩,by rw[<- z.len];exact a4⟩⟩
end
open PySem PySem.W PyProof.Rows
noncomputable def RawD(d:Addr)(ks:List Value)(ep:Nat)(g:Heap):Prop:=∃ ob en,g.get? d=some ob/\ob.ExactDict/\ob.data = .dict en ep/\en.toList.map (fun r=>r.key)=ks
section
variable{d it:Addr}{ks:List Value}{ep i:Nat}{g g':Heap}{prog:Program}{w:World}{A:Around}{E:Value->Shared->Prop}{s:Shared}
theorem RawD.to(x:RawD d ks ep g)(k:∀ u,g.get? d=some u->g'.get? d=some u):RawD d ks ep g':=by
 obtain⟨ob,en,a,r⟩:=x
 exact⟨ob,en,k _ a,r⟩
theorem RawD.ty(x:RawD d ks ep s.heap):s.TypeIs (.ref d) "dict":=by
 obtain⟨ob,en,a,c,r⟩:=x
 exact⟨ob,a,c.1⟩
theorem RawD.lt(x:RawD d ks ep g):d<g.objs.size:=by
 obtain⟨ob,en,a,c,r⟩:=x
 exact Heap.lt_size a
theorem rawIter{Q:Value->Shared->Prop}(nd:(d == sysModules)=false)(x:RawD d ks ep s.heap)
  (q:Q (.ref s.heap.objs.size) { s with heap:=s.heap.push { cls:=.type "dict_keyiterator",data:=.fields #[.ref d,.int 0 0,.int ks.length 0,.int ep 0] } }) :
  wpAny (model prog w) A (pyIter (.ref d)) Q E s:=by
 have ty:=x.ty
 obtain⟨ob,en,a,c,dt,ke⟩:=x
 have len:en.size=ks.length:=by rw[<- ke];simp
 refine wpAny_pyIter_slot ty F.slot_dict_iter (wpAny_call_entry F.slot_dict_iter ty F.entry_dict_iter ?_ (F.args_dict_iter_1 _))
 unfold Builtin.«dict.__iter__»;refine wpAny_bind ?_
 unfold Builtin.Dict.dictSlotNone;refine wpAny_bind (wpAny_notOrdered_dict ty ?_)
 show wpAny _ _ (pure (Value.ref d)) _ _ s;refine wpAny_pure ?_
 show wpAny _ _ (Builtin.Dict.showsAll d >>= _) _ _ s;unfold Builtin.Dict.showsAll
 rw[if_neg (fun e=>Bool.false_ne_true (nd.symm.trans e))];refine wpAny_bind (wpAny_pure (wpAny_bind (wpAny_dictEntries a dt (wpAny_bind (wpAny_dictEpoch a dt ?_)))))
 refine wpAny_bind (wpAny_newObj_type (wpAny_pure ⟨_,rfl,"dict_keyiterator",_,⟨_,Heap.get?_push_size _ rfl,rfl⟩,F.slot_dict_keyiterator_next.lookup,?_⟩));simpa[rawInt,len]using q
theorem rawItem{v:Value}{Q:Option Value->Shared->Prop}(hI:s.heap.IsKeyIter it d i ks.length ep)(x:RawD d ks ep s.heap)(hv:ks[i]?=some v)
  (q:∀ g',g'.IsKeyIter it d (i+1) ks.length ep->Heap.SameBut it s.heap g'->Q (some v) { s with heap:=g' }):wpAny (model prog w) A (pyNext (.ref it)) Q E s:=by
 obtain⟨io,a0,c0,d0⟩:=id hI
 obtain⟨ob,en,a,c,dt,ke⟩:=x
 have len:en.size=ks.length:=by rw[<- ke];simp
 unfold pyNext;refine wpAny_bind (wpAny_attempt (wpAny_callSpecial?_slot (name:=Str.ofString "__next__") hI.typeIs F.slot_dict_keyiterator_next (wpAny_call_entry F.slot_dict_keyiterator_next hI.typeIs F.entry_dict_keyiterator_next ?_ (F.args_dict_keyiterator_next_1 _))))
 refine wpAny_bind (wpAny_pure (wpAny_bind (wpAny_bind ?_)))
 first | refine wpAny_bind (wpAny_typeNameOfWhole_keyiter hI.typeIs (wpAny_pure ?_)) | refine wpAny_bind (wpAny_typeNameOf_keyiter hI.typeIs (wpAny_pure ?_))
 refine wpAny_bind (wpAny_fieldsOf a0 d0 ?_);have own:Builtin.Dict_items.ownsTuple "dict_keyiterator" = false:=by decide
 simp only[own,Bool.false_eq_true,if_false];show wpAny _ _ (if(Value.ref d == Value.none)=true then _ else _) _ _ s
 rw[if_neg (show ¬((Value.ref d == Value.none)=true)from Bool.false_ne_true)];refine wpAny_bind (wpAny_pure (wpAny_bind (wpAny_dictEntries a dt ?_)))
 rw[if_neg (by rw[len];simp)];refine wpAny_bind (wpAny_pure (wpAny_bind (wpAny_dictEpoch a dt ?_)))
 rw[if_neg (by simp)];refine wpAny_pure ?_
 have il:i<en.size:=by rw[len];exact(List.getElem?_eq_some_iff.mp hv).1
 have iv:en[i].key=v:=by
  have z:(en.toList.map (fun r=>r.key))[i]?=some en[i].key:=by rw[List.getElem?_map,Array.getElem?_toList,Array.getElem?_eq_getElem il];rfl
  rw[ke,hv]at z
  exact(Option.some.inj z).symm
 simp only[show ¬((i:Int)<0)from by lia,if_false,Int.toNat_natCast,Array.getElem?_eq_getElem il];refine wpAny_bind ?_
 first | refine wpAny_bind (wpAny_typeNameOfWhole_keyiter hI.typeIs (wpAny_pure ?_)) | refine wpAny_bind (wpAny_typeNameOf_keyiter hI.typeIs (wpAny_pure ?_))
 refine wpAny_bind (wpAny_isOneOf_keyiter hI.typeIs ?_);show wpAny _ _ (setField (.ref it) 1 (rawInt ((i:Int)+1)) >>= _) _ _ s
 refine wpAny_bind (wpAny_setField a0 d0 (by simp) ?_)
 have hI':(s.heap.update it (Obj.mapFields (·.setIfInBounds 1 (rawInt ((i:Int)+1))))).IsKeyIter it d (i+1) ks.length ep:=⟨_,Heap.get?_update_self _ a0 (Obj.isFreed_of_fields (Obj.data_mapFields d0 _)),(Obj.cls_mapFields ..).trans c0,by rw[Obj.data_mapFields d0];simp[rawInt]⟩
 refine wpAny_bind (wpAny_holding (wpAny_bind (wpAny_isOneOf_keyiter (s:={ s with heap:=s.heap.update it (Obj.mapFields (·.setIfInBounds 1 (rawInt ((i:Int)+1)))) }) hI'.typeIs ?_)))
 show wpAny _ _ (pure en[i].key) _ _ _;rw[iv]
 exact wpAny_pure (wpAny_pure ⟨_,rfl,wpAny_pure (q _ hI' (Heap.SameBut.update ..))⟩)
theorem rawEnd{Q:Option Value->Shared->Prop}(hh:A.handled=none)(hI:s.heap.IsKeyIter it d i ks.length ep)(x:RawD d ks ep s.heap)(hv:ks.length<=i)
  (q:∀ g',Heap.ExtBut it s.heap g'->Q none { s with heap:=g' }):wpAny (model prog w) A (pyNext (.ref it)) Q E s:=by
 obtain⟨io,a0,c0,d0⟩:=id hI
 obtain⟨ob,en,a,c,dt,ke⟩:=x
 have len:en.size=ks.length:=by rw[<- ke];simp
 unfold pyNext;refine wpAny_bind (wpAny_attempt (wpAny_callSpecial?_slot (name:=Str.ofString "__next__") hI.typeIs F.slot_dict_keyiterator_next (wpAny_call_entry F.slot_dict_keyiterator_next hI.typeIs F.entry_dict_keyiterator_next ?_ (F.args_dict_keyiterator_next_1 _))))
 refine wpAny_bind (wpAny_pure (wpAny_bind (wpAny_bind ?_)))
 first | refine wpAny_bind (wpAny_typeNameOfWhole_keyiter hI.typeIs (wpAny_pure ?_)) | refine wpAny_bind (wpAny_typeNameOf_keyiter hI.typeIs (wpAny_pure ?_))
 refine wpAny_bind (wpAny_fieldsOf a0 d0 ?_);have own:Builtin.Dict_items.ownsTuple "dict_keyiterator" = false:=by decide
 simp only[own,Bool.false_eq_true,if_false];show wpAny _ _ (if(Value.ref d == Value.none)=true then _ else _) _ _ s
 rw[if_neg (show ¬((Value.ref d == Value.none)=true)from Bool.false_ne_true)];refine wpAny_bind (wpAny_pure (wpAny_bind (wpAny_dictEntries a dt ?_)))
 rw[if_neg (by rw[len];simp)];refine wpAny_bind (wpAny_pure (wpAny_bind (wpAny_dictEpoch a dt ?_)))
 rw[if_neg (by simp)];refine wpAny_pure ?_
 have il:en.size<=i:=by rw[len];exact hv
 simp only[show ¬((i:Int)<0)from by lia,if_false,Int.toNat_natCast,Array.getElem?_eq_none il];refine wpAny_bind ?_
 first | refine wpAny_bind (wpAny_typeNameOfWhole_keyiter hI.typeIs (wpAny_pure ?_)) | refine wpAny_bind (wpAny_typeNameOf_keyiter hI.typeIs (wpAny_pure ?_))
 show wpAny _ _ (setField (.ref it) 0 .none >>= _) _ _ s;refine wpAny_bind (wpAny_setField a0 d0 (by simp) ?_)
 show wpAny _ _ (newExc (.type "StopIteration") [] >>= _) _ _ _;refine wpAny_bind ?_
 simp only[newExc,newTuple];refine wpAny_bind (wpAny_newObj_type ?_ (by size_fits))
 refine wpAny_bind (m:=firstArgMember _ _) (wpAny_of_eq (a:=Value.none) (by first | rfl |(simp only[firstArgMember];rfl)) (wpAny_newObj_type ?_ (by size_fits)))
 simp only[raiseNew];refine wpAny_bind (wpAny_handled ?_)
 rw[show A.in1.handled=none from hh];refine wpAny_bind (wpAny_pure (wpAny_throw ?_))
 refine wpAny_bind (wpAny_isInstance (T:="StopIteration") (b:=true) ⟨_,Heap.get?_push_size _ rfl,rfl⟩ isSubtype_stop ?_)
 exact wpAny_pure (q _ (((Heap.SameBut.update ..).extBut.push _).push _))
theorem rawWalks(hh:A.handled=none)(I d:Addr)(ne:d≠I)(ks:List Value)(ep:Nat) :
  Walks prog w A I [I,d] [I] ks.length (fun i v=>ks[i]?=some v) (fun i g=>g.IsKeyIter I d i ks.length ep/\RawD d ks ep g)where
 sub:=fun b z=>by simp at z;simp[z]
 frame:=fun _ _ _ st k=>⟨st.1.at fun o e=>k I (by simp) o e,st.2.to fun o e=>k d (by simp) o e⟩
 item:=fun i s Q E hi st hQ=>by
  obtain⟨v,hx⟩:∃ p,ks[i]?=some p:=⟨ks[i],by simp[hi]⟩
  refine rawItem st.1 st.2 hx fun g' it' sb=>?_
  exact hQ v g' s.toks hx ⟨it',st.2.to fun o e=>sb.extBut d o ne e⟩ fun b o z e=>sb.extBut b o (fun h=>z (by simp[h])) e
 done:=fun s Q E st hQ=>rawEnd hh st.1 st.2 (Nat.le_refl _) fun g' e'=>hQ g' s.toks fun b o z e=>e' b o (fun h=>z (by simp[h])) e
 self:=fun _ _ _ _ st hQ=>wpAny_pyIter_keyiter st.1 hQ
theorem rawSrc(nd:(d == sysModules)=false):KdlSrc prog w "dict" d d ks.length (fun i v=>ks[i]?=some v) (RawD d ks ep)where
 type:=fun _ x=>x.ty
 there:=fun _ x=>⟨x.lt,x.lt⟩
 keep:=fun _ _ x k=>x.to fun o e=>k d (.inl rfl) o e
 notList:=by decide
 notTuple:=by decide
 hint:=fun _ _ _ _ x q=>kdl_hint_dict x.ty q
 iter:=fun _ _ hh x=>⟨_,_,(fun _ _ q=>rawIter nd x q),rawWalks hh _ d (Nat.ne_of_lt x.lt) ks ep,⟨⟨_,Heap.get?_push_size _ rfl,rfl,rfl⟩,x.to fun o e=>Heap.get?_push_of_some _ e⟩⟩
end
open PySem PySem.W PyProof.Rows
noncomputable def lexlt:List Int->List Int->Bool
 | _,[]=>false
 |[],_ :: _=>true
 |a :: x,b :: y=>decide (a<b) ||(decide (a=b) && lexlt x y)
theorem lexlt_irrefl:∀ x,lexlt x x=false
 |[]=>rfl
 |a :: x=>by simp[lexlt,lexlt_irrefl x]
theorem lexlt_trans:∀ x y z,lexlt x y=true->lexlt y z=true->lexlt x z=true
 | _,_,[],_,h=>by simp[lexlt]at h
 | _,[],_ :: _,h,_=>by simp[lexlt]at h
 |[],_ :: _,_ :: _,_,_=>rfl
 |a :: x,b :: y,c :: z,h,k=>by
  simp only[lexlt,Bool.or_eq_true,Bool.and_eq_true,decide_eq_true_eq]at h k ⊢
  rcases h with h |⟨h,h'⟩ <;> rcases k with k |⟨k,k'⟩
  ·left;lia
  ·left;lia
  ·left;lia
  ·right;exact⟨by lia,lexlt_trans x y z h' k'⟩
theorem lexlt_neg:∀ x y z,lexlt x z=true->lexlt x y=true\/lexlt y z=true
 | _,_,[],h=>by simp[lexlt]at h
 | _,[],_ :: _,_=>.inr rfl
 |[],_ :: _,_ :: _,_=>.inl rfl
 |a :: x,b :: y,c :: z,h=>by
  simp only[lexlt,Bool.or_eq_true,Bool.and_eq_true,decide_eq_true_eq]at h ⊢
  rcases h with h |⟨h,h'⟩
  ·by_cases e:a<b
   ·exact .inl (.inl e)
   ·exact .inr (.inl (by lia))
  ·rcases lexlt_neg x y z h' with q | q
   ·by_cases e:a<b
    ·exact .inl (.inl e)
    ·by_cases e':a=b
     ·exact .inl (.inr ⟨e',q⟩)
     ·exact .inr (.inl (by lia))
   ·by_cases e:a<b
    ·exact .inl (.inl e)
    ·by_cases e':b=c
     ·exact .inr (.inr ⟨e',q⟩)
     ·exact .inr (.inl (by lia))
theorem lexlt_total:∀ x y,lexlt x y=false->lexlt y x=false->x=y
 |[],[],_,_=>rfl
 |[],_ :: _,h,_=>by simp[lexlt]at h
 | _ :: _,[],_,h=>by simp[lexlt]at h
 |a :: x,b :: y,h,k=>by
  simp only[lexlt,Bool.or_eq_false_iff,Bool.and_eq_false_iff,decide_eq_false_iff_not]at h k
  have e:a=b:=by lia
  subst e
  rw[lexlt_total x y (by simpa using h.2) (by simpa using k.2)]
noncomputable abbrev IntsV(ns:List Int)(us:List Value):Prop:=Paired (fun(i:Int) (u:Value)=>∃ t,u=Value.int i t) ns us
theorem IntsV.inj:∀ {ns ms:List Int}{us:List Value},IntsV ns us->IntsV ms us->ns=ms:=by
 intro ns ms us h
 induction h generalizing ms with
 |nil=>intro h';cases h';rfl
 |cons h r ih =>
  intro h'
  cases h' with
  |cons h2 r' =>
   obtain⟨t,e⟩:=h
   obtain⟨t',e'⟩:=h2
   rw[e]at e'
   cases e'
   rw[ih r']
noncomputable def TupI(g:Heap)(v:Value)(ns:List Int):Prop:=∃ a ob its n,v=Value.ref a/\g.get? a=some ob/\ob.cls = .type "tuple"/\ob.data = .seq its n/\IntsV ns its.toList
theorem TupI.inj{g:Heap}{v:Value}{ns ms:List Int}(x:TupI g v ns)(y:TupI g v ms):ns=ms:=by
 obtain⟨a,ob,its,n,rfl,e,_,d,p⟩:=x
 obtain⟨a',ob',its',n',e',q,_,d',p'⟩:=y
 cases e'
 rw[e]at q
 cases q
 rw[d]at d'
 cases d'
 exact p.inj p'
theorem TupI.to{g g':Heap}{v:Value}{ns:List Int}(x:TupI g v ns)(k:∀ b u,v = .ref b->g.get? b=some u->g'.get? b=some u):TupI g' v ns:=by
 obtain⟨a,ob,its,n,rfl,e,r⟩:=x
 exact⟨a,ob,its,n,rfl,k a ob rfl e,r⟩
open Classical in
noncomputable def κT(g:Heap):KeyKind where
 α:=List Int
 blt:=lexlt
 irrefl:=lexlt_irrefl
 trans:=lexlt_trans
 negTrans:=lexlt_neg
 total:=lexlt_total
 keyOf v:=if h:∃ ns,TupI g v ns then some h.choose else none
 dflt:=[]
open Classical in
theorem κT_key{g:Heap}{v:Value}{ns:List Int}(x:TupI g v ns):(κT g).keyOf v=some ns:=by
 have h:∃ ns,TupI g v ns:=⟨ns,x⟩
 show(if h:∃ ns,TupI g v ns then some h.choose else none)=some ns
 rw[dif_pos h,h.choose_spec.inj x]
open Classical in
theorem κT_of{g:Heap}{v:Value}{ns:List Int}(e:(κT g).keyOf v=some ns):TupI g v ns:=by
 have e':(if h:∃ ns,TupI g v ns then some h.choose else none)=some ns:=e
 by_cases h:∃ ns,TupI g v ns
 ·rw[dif_pos h]at e'
  rw[<- Option.some.inj e']
  exact h.choose_spec
 ·rw[dif_neg h]at e'
  cases e'
section
variable{prog:Program}{w:World}{A:Around}{E:Value->Shared->Prop}{s:Shared}
theorem lex_ok{b fin:Bool}{Q:Bool->Shared->Prop}:∀ {ns ms:List Int}{us vs:List Value} (i:Nat),IntsV ns us->IntsV ms vs->fin=decide (ns.length<ms.length)->Q (lexlt ns ms) s->KatLex prog w A b fin Q (us.zip vs) i s:=by
 intro ns ms us vs i h
 induction h generalizing ms vs i with
 |nil =>
  intro h' e q
  rw[e]
  cases h' with
  |nil=>exact kat_nil q
  |cons _ _=>exact kat_nil (show Q (decide (0<_+1)) s by simpa[lexlt]using q)
 | @cons n u ns us h r ih =>
  intro h' e q
  cases h' with
  |nil=>rw[e];exact kat_nil (by simpa[lexlt]using q)
  | @cons m v ms vs h2 r' =>
   obtain⟨t,e1⟩:=h
   obtain⟨t',e2⟩:=h2
   subst e1 e2
   refine kat_cons (wpAny_eqBool_int (kat_go (fun z=>kat_yes ?_) fun z=>kat_no ?_))
   ·have z':n=m:=by simpa using z
    refine ih (i+1) r' (by rw[e];simp) ?_
    have l:lexlt (n :: ns) (m :: ms)=lexlt ns ms:=by simp[lexlt,z']
    rw[<- l]
    exact q
   ·have z':n≠m:=by simpa using z
    have l:lexlt (n :: ns) (m :: ms)=decide (n<m):=by simp[lexlt,z']
    rw[l]at q
    cases hb:(b && i == 0)with
    |true=>exact oneLt_int q
    |false=>exact kat_one _ _ (lt_int q)
theorem ltT_ok{h₁:Heap}{b:Bool}(kp:∀ v ns,TupI h₁ v ns->TupI s.heap v ns):LtOk (κT h₁) (tuples' b) prog w A s:=by
 intro E x y ka kb Q st hk ha hb q
 obtain⟨a,ob,its,n,e1,g1,_,d1,p1⟩:=kp _ _ (κT_of ha)
 obtain⟨a',ob',its',n',e2,g2,_,d2,p2⟩:=kp _ _ (κT_of hb)
 rw[lt'_eq]
 refine wpS_bind (wpS_get ?_)
 rw[hk,e1,e2]
 have l1:ka.length=its.size:=by rw[p1.length];simp
 have l2:kb.length=its'.size:=by rw[p2.length];simp
 refine wpS_bind (wpS_lift (wpAny_attempt (kat_lt g1 d1 g2 d2 (lex_ok (ns:=ka) (ms:=kb) 0 p1 p2 (by rw[l1,l2]) ⟨rfl,?_⟩))))
 exact wpS_pure q
theorem map2_pairs:∀ {l:List Keyed},(∀ p∈l,p.1=p.2)->(l.map (·.2)).zip (l.map (·.2))=l
 |[],_=>rfl
 |p :: l,h=>by
  have e:p.1=p.2:=h p (List.mem_cons_self ..)
  show(p.2,p.2) :: (l.map (·.2)).zip (l.map (·.2))=_
  rw[map2_pairs fun q hq=>h q (List.mem_cons_of_mem _ hq)]
  congr 1
  exact Prod.ext e.symm rfl
theorem mem_zip_self:∀ {l:List Value}{p:Keyed},p∈l.zip l->p.1=p.2/\p.2∈l
 |[],p,h=>by simp at h
 |v :: l,p,h=>by
  rcases List.mem_cons.mp (show p∈(v,v) :: l.zip l from h)with e | e
  ·rw[e];exact⟨rfl,List.mem_cons_self ..⟩
  ·exact⟨(mem_zip_self e).1,List.mem_cons_of_mem _ (mem_zip_self e).2⟩
theorem map2_zip:∀ {l:List Value},(l.zip l).map (·.2)=l
 |[]=>rfl
 |v :: l=>by show v :: (l.zip l).map (·.2)=_;rw[map2_zip]
theorem back_pairs{xs:Array Keyed}{vs:List Value}(hp:xs.Perm (pairsOf vs)):xs=pairsOf (xs.toList.map (·.2))/\(xs.toList.map (·.2)).Perm vs:=by
 have hp':xs.toList.Perm (vs.zip vs):=by
  have:=Array.perm_iff_toList_perm.mp hp
  rw[pairsOf_toList]at this
  exact this
 refine⟨?_,?_⟩
 ·apply Array.ext'
  rw[pairsOf_toList,map2_pairs fun p hq=>(mem_zip_self (hp'.mem_iff.mp hq)).1]
 ·have:=hp'.map (·.2)
  rw[map2_zip]at this
  exact this
theorem sort_at{κ:KeyKind}{kd:SortKind}{a:Addr}{vs:List Value}{n:Nat}{P:Fin->Shared->Prop}(ho:s.heap.get? a=some (seqObj "list" vs.toArray n))(h0:KeysOf κ (pairsOf vs))(hl:vs.length<128)
  (hk:2<=vs.length->∀ g:Heap,(∀ b u,b≠a->s.heap.get? b=some u->g.get? b=some u)->LtOk κ kd prog w A { s with heap:=g }/\∀ R:SortKind->Shared->Prop,R kd { s with heap:=g }->wpAny (model prog w) A (keyKind' vs.toArray) R E { s with heap:=g })
  (h:∀ (ws:List Value) (g:Heap) (c:Nat),ws.Perm vs->SortedToK κ (pairsOf ws) ws.length->(∀ b u,b≠a->s.heap.get? b=some u->g.get? b=some u)->g.get? a=some (seqObj "list" ws.toArray c)->P (.done (.ret .none)) { s with heap:=g }) :
  wpAny (model prog w) A (Builtin.«list.sort» ⟨[.ref a],[]⟩) P E s:=by
 have lt0:a<s.heap.objs.size:=Heap.lt_size ho
 have k1:∀ b u,b≠a->s.heap.get? b=some u->(s.heap.update a (Obj.mapSeq fun _=>#[])).get? b=some u:=fun b u ne e=>by rw[Heap.get?_update_ne _ _ _ _ ne];exact e
 obtain⟨c1,g1⟩:∃ c1,(s.heap.update a (Obj.mapSeq fun _=>#[])).get? a=some (seqObj "list" #[] c1):=⟨_,get?_update_seq ho _⟩
 generalize hg1:s.heap.update a (Obj.mapSeq fun _=>#[])=G1 at k1 g1
 have k2:∀ b u,b≠a->s.heap.get? b=some u->((G1.push (seqObj "tuple" vs.toArray 0)).push (seqObj "list" #[] 0)).get? b=some u:=fun b u ne e=>Heap.get?_push_of_some _ (Heap.get?_push_of_some _ (k1 b u ne e))
 have g2:((G1.push (seqObj "tuple" vs.toArray 0)).push (seqObj "list" #[] 0)).get? a=some (seqObj "list" #[] c1):=Heap.get?_push_of_some _ (Heap.get?_push_of_some _ g1)
 rw[list_sort_plain]
 refine wpAny_bind (listItems_at ho rfl (wpAny_bind (listUpdate_at ho rfl ?_ (hsz:=by rw[List.size_toArray,sizeLine_eq];lia))))
 rw[hg1]
 refine wpAny_bind (seqEpoch_at g1 rfl (wpAny_bind (wpAny_newTuple ?_ (by show vs.length<=_;rw[sizeLine_eq];lia))))
 refine wpAny_bind (wpAny_newList (wpAny_holding ?_))
 show wpAny (model prog w) A _ P E { s with heap:=(G1.push (seqObj "tuple" vs.toArray 0)).push (seqObj "list" #[] 0) }
 generalize (G1.push (seqObj "tuple" vs.toArray 0)).push (seqObj "list" #[] 0)=G2 at k2 g2
 dsimp only
 have fin:∀ st':SortSt,(arrOf st').Perm (pairsOf vs)->SortedToK κ (arrOf st') (pairsOf vs).size->P (.done (.ret .none)) { s with heap:=G2.update a (Obj.mapSeq fun _=>(arrOf st').map (·.2)) }:=fun st' hp hs=>by
  obtain⟨e,p⟩:=back_pairs hp
  obtain⟨c3,g3⟩:∃ c3,(G2.update a (Obj.mapSeq fun _=>(arrOf st').map (·.2))).get? a=some (seqObj "list" ((arrOf st').map (·.2)) c3):=⟨_,get?_update_seq g2 _⟩
  refine h ((arrOf st').toList.map (·.2)) _ c3 p ?_ (fun b u ne z=>by rw[Heap.get?_update_ne _ _ _ _ ne];exact k2 b u ne z) ?_
  ·rw[<- e]
   have l2:(pairsOf vs).size=((arrOf st').toList.map (·.2)).length:=by rw[pairsOf_size,p.length_eq]
   rw[<- l2]
   exact hs
  ·rw[g3]
   congr 2
   apply Array.ext'
   simp
 by_cases h2:vs.toArray.size<2
 ·rw[if_pos h2,if_pos h2]
  refine wpAny_bind (wpAny_pure ?_)
  rw[StateT.run_pure]
  refine wpAny_bind (wpAny_pure ?_)
  dsimp only
  refine wpAny_bind (seqEpoch_at g2 rfl (wpAny_bind (listUpdate_at g2 rfl ?_ (hsz2:=by rw[Array.size_map];show(pairsOf vs).size<=_;rw[pairsOf_size,sizeLine_eq];lia))))
  simp only[bne_self_eq_false,Bool.false_eq_true,if_false]
  refine wpAny_pure (fin (SortSt.mk' general' (vs.toArray.zip vs.toArray) #[] 7 none) (Array.Perm.refl _) fun i j ij jl=>?_)
  have e:i=j:=by
   rw[pairsOf_size]at jl
   simp only[List.size_toArray]at h2
   lia
  rw[e]
  exact KeyOrd.kle_refl _
 ·have h2':2<=vs.length:=by simpa using h2
  obtain⟨lo,kk⟩:=hk h2' G2 k2
  rw[if_neg h2,if_neg h2]
  refine wpAny_bind (kk _ ?_)
  refine wpAny_bind (wpAny_mono (runs_ok (κ:=κ) (kd:=kd) (a₀:=pairsOf vs) (st:=SortSt.mk' kd (vs.toArray.zip vs.toArray) #[] 7 none) (Q:=fun _ st'=>(arrOf st').Perm (pairsOf vs)/\failedOf st'=none/\SortedToK κ (arrOf st') (pairsOf vs).size)
   lo h0 ⟨Array.Perm.refl _,rfl,rfl,rfl,fun k z=>absurd z (Nat.not_lt_zero _)⟩ (by rw[pairsOf_size];exact h2') (by rw[pairsOf_size];exact hl) fun st' a1 a2 a3=>⟨a1,a2,fun i j ij jl=>by
    have:=a3 i j ij jl
    rw[Nat.zero_add,Nat.zero_add]at this
    exact this⟩) ?_ fun _ _ e=>e)
  rintro⟨⟨⟩,st'⟩ s' ⟨rfl,hp,hf,hs⟩
  dsimp only
  refine wpAny_bind (seqEpoch_at g2 rfl (wpAny_bind (listUpdate_at g2 rfl ?_ (hsz2:=by refine Nat.le_trans (Nat.le_of_eq ((Array.size_map ..).trans (hp.size_eq.trans (pairsOf_size _)))) ?_;rw[sizeLine_eq];lia))))
  rw[hf]
  simp only[bne_self_eq_false,Bool.false_eq_true,if_false]
  exact wpAny_pure (fin st' hp hs)
end
end Srt
namespace L2
open PySem PySem.W PyProof.Rows Srt
theorem intsV_of:∀ {ns:List Int}{us:List Value},Vals (ns.map V.int) us->IntsV ns us
 |[],_,.nil=>.nil
 |n :: ns,_,.cons r t=>.cons r (intsV_of t)
noncomputable def keyA(g:Heap)(a:Addr):List Int:=(show Option (List Int)from(κT g).keyOf (.ref a)).getD []
theorem keyA_eq{g:Heap}{a:Addr}{k:List Int}(x:TupI g (.ref a) k):keyA g a=k:=by
 unfold keyA
 rw[κT_key x]
 rfl
noncomputable def unref:Value->Addr
 | .ref a=>a
 | _=>(0:Nat)
section
variable{X:Cx}{pins:List (Addr×Obj)}{σ:St}{H:Hp}{s:Shared}
theorem tupI_of(I:Inv X pins σ H s){a:Addr}{ns:List Int}(h:H a=some (.tup (ns.map V.int))):TupI s.heap (.ref a) ns:=by
 obtain⟨its,r,⟨o,e,c,n,d⟩,_⟩:=I.tuple (SqT.of h)
 exact⟨a,o,_,n,rfl,e,c,d,intsV_of r⟩
theorem looks_int{M:Model}{h:Heap}{i:Int}{t:Tok}:Looks M h (typeOf (.int i t)) (Value.type "int"):=Looks.now
theorem tups_of{g:Heap}:∀ {as:List Addr}{ks:List (List Int)},Paired (fun a k=>TupI g (.ref a) k/\k≠[]) as ks->∃ fs:List Value,KatTups g (as.map .ref) fs/\fs.length=as.length/\∀ v∈fs,∃ i t,v=Value.int i t:=by
 intro as ks h
 induction h with
 |nil=>exact⟨[],trivial,rfl,fun _ h=>nomatch h⟩
 | @cons a k as ks h r ih =>
  obtain⟨⟨a',o,its,n,e,g1,c,d,p⟩,ne⟩:=h
  cases e
  obtain⟨fs,t,l,z⟩:=ih
  cases k with
  |nil=>exact absurd rfl ne
  |cons i k =>
   obtain⟨il⟩:=its
   cases p with
   |cons r1 r2 =>
    obtain⟨tk,rfl⟩:=r1
    refine⟨_ :: fs,KatTups.cons g1 c d rfl t,by simp[l],fun v hv=>?_⟩
    rcases List.mem_cons.mp hv with e | e
    ·exact⟨i,tk,e⟩
    ·exact z v e
theorem sort_new{L:Addr}{A:Around}{E:Value->Shared->Prop}{as:List Addr}{ks:List (List Int)}{P:Fin->Shared->Prop}(ho:s.heap.get? L=some (seqObj "list" (as.map Value.ref).toArray 0))(hT:Paired (fun a k=>TupI s.heap (.ref a) k/\k≠[]) as ks)(hl:as.length<128)
  (h:∀ (bs:List Addr) (ns:List (List Int)) (g:Heap) (c:Nat),bs.Perm as->ns.Perm ks->ns.Pairwise (fun x y=>lexlt y x=false)->Paired (fun a k=>TupI s.heap (.ref a) k) bs ns->(∀ b u,b≠L->s.heap.get? b=some u->g.get? b=some u)->g.get? L=some (seqObj "list" (bs.map Value.ref).toArray c) ->
   P (.done (.ret .none)) { s with heap:=g }):wpAny (model X.prog X.w) A (Builtin.«list.sort» ⟨[.ref L],[]⟩) P E s:=by
 have neL:∀ v ns,TupI s.heap v ns->v≠.ref L:=fun v ns x e=>by
  obtain⟨a,o,its,n,rfl,g1,c,_⟩:=x
  cases e
  rw[ho]at g1
  cases g1
  exact absurd (show Value.type "list" = Value.type "tuple" from c) (by decide)
 have lenk:as.length=ks.length:=hT.length
 have kp:∀ g:Heap,(∀ b u,b≠L->s.heap.get? b=some u->g.get? b=some u)->∀ v ns,TupI s.heap v ns->TupI g v ns:=fun g k v ns x=>x.to fun b u e z=>k b u (fun q=>neL v ns x (by rw[e,q])) z
 have memk:∀ v∈as.map Value.ref,∃ k,TupI s.heap v k:=fun v hv=>by
  obtain⟨a,ha,rfl⟩:=List.mem_map.mp hv
  clear h ho neL kp hl lenk hv
  induction hT with
  |nil=>cases ha
  |cons r _ ih =>
   rcases List.mem_cons.mp ha with e | e
   ·rw[e];exact⟨_,r.1⟩
   ·exact ih e
 refine sort_at (κ:=κT s.heap) (kd:=tuples' true) ho (fun p hp=>?_) (by rw[List.length_map];exact hl) (fun l2 g k=>⟨ltT_ok (kp g k),fun R hR=>?_⟩) fun ws g c pw sw k gL=>?_
 ·rw[pairsOf_toList]at hp
  obtain⟨e1,e2⟩:=Srt.mem_zip_self hp
  obtain⟨kk,x⟩:=memk p.2 e2
  rw[e1]
  exact⟨kk,κT_key x⟩
 ·have hT':Paired (fun a k=>TupI g (.ref a) k/\k≠[]) as ks:=Paired.mapP hT fun a b z=>⟨kp g k _ _ z.1,z.2⟩
  obtain⟨fs,t,l,z⟩:=tups_of hT'
  by_cases e0:fs=[]
  ·rw[e0]at l
   rw[List.length_map]at l2
   simp at l
   lia
  ·refine kat_kind (T:=Value.type "int") t (List.length_pos_iff.mpr e0) (fun v hv=>?_) (by decide) ?_
   ·obtain⟨i,tk,rfl⟩:=z v hv
    exact looks_int
   ·have e:(Value.type "int" != Value.type "tuple")=true:=by decide
    rw[e]
    exact hR
 ·-- the values are refs again,the keys a permutation
  have unr:∀ l:List Value,(∀ v∈l,∃ a,v=Value.ref a)->(l.map unref).map Value.ref=l:=fun l hl=>by
   induction l with
   |nil=>rfl
   |cons v l ih =>
    obtain⟨a,rfl⟩:=hl v (List.mem_cons_self ..)
    rw[List.map_cons,List.map_cons,ih fun v hv=>hl v (List.mem_cons_of_mem _ hv)]
    rfl
  have eb:(ws.map unref).map Value.ref=ws:=unr ws fun v hv=>by
   obtain⟨a,_,rfl⟩:=List.mem_map.mp (pw.mem_iff.mp hv)
   exact⟨a,rfl⟩
  have pb:(ws.map unref).Perm as:=by
   have:=pw.map unref
   rw[List.map_map]at this
   have e:(as.map (unref ∘ Value.ref))=as:=by
    rw[show(unref ∘ Value.ref)=id from rfl,List.map_id]
   rw[e]at this
   exact this
  generalize ws.map unref=bs at eb pb
  subst eb
  have ek:ks=as.map (keyA s.heap):=by
   clear h ho neL kp hl lenk memk pw sw pb
   induction hT with
   |nil=>rfl
   |cons r _ ih=>rw[List.map_cons,keyA_eq r.1,<- ih]
  have kb:∀ b∈bs,TupI s.heap (.ref b) (keyA s.heap b):=fun b hb=>by
   obtain⟨k,x⟩:=memk (.ref b) (List.mem_map.mpr ⟨b,pb.mem_iff.mp hb,rfl⟩)
   rw[keyA_eq x]
   exact x
  refine h bs (bs.map (keyA s.heap)) g c pb (by rw[ek];exact pb.map _) ?_ ?_ k gL
  ·rw[List.pairwise_iff_getElem]
   intro i j hi hj ij
   rw[List.length_map]at hi hj
   have z:=sw i j (Nat.le_of_lt ij) (by rw[List.length_map];exact hj)
   have kk:∀ m (hm:m<bs.length),KK (κT s.heap) (pairsOf (bs.map Value.ref)) m=keyA s.heap bs[m]:=fun m hm=>by
    have e:(pairsOf (bs.map Value.ref))[m]?=some (Value.ref bs[m],Value.ref bs[m]):=by simp[pairsOf,hm]
    unfold KK
    rw[e]
    rfl
   rw[kk i hi,kk j hj]at z
   rw[List.getElem_map,List.getElem_map]
   exact z
  ·clear h ho neL kp hl lenk memk pw sw pb gL
   induction bs with
   |nil=>exact .nil
   |cons b bs ih=>exact .cons (kb b (List.mem_cons_self ..)) (ih fun b hb=>kb b (List.mem_cons_of_mem _ hb))
theorem call_sortedD(hc:X.calm=true):CallR X (.builtin "sorted") (fun xs H Q=>∃ d kvs ks,xs=[V.ref d]/\H d=some (.dT kvs)/\kvs.map (·.1)=List.map (List.map Sum.inl) ks/\(∀ k∈ks,k≠[])/\kvs.length<128 /\
  ∀ (l:Addr) (as:List Addr) (ns:List (List Int)),H l=none->ns.Perm ks->ns.Pairwise (fun x y=>lexlt y x=false)->Paired (fun a n=>H a=some (.tup (n.map V.int))) as ns->Q (.ref l) (upd H l (.lst (as.map V.ref)))):=by
 intro pins s σ H xs us Q I r h
 obtain⟨d,kvs,ks,rfl,hd,hks,hne,hlen,q⟩:=h
 obtain⟨u,rfl,rx⟩:=vals1 r
 cases rx
 obtain⟨z,nsys,xs,pr,o,es,ep,go,ex,dt,ee,nd⟩:=I.hok d _ hd
 have hpl:xs.length=kvs.length:=pr.length.symm
 have hT:Paired (fun a k=>(H a=some (.tup (k.map V.int))/\k≠[])) (xs.map fun q=>q.2.1) ks:=by
  clear q hd hlen z nd go ex dt ee hpl
  induction pr generalizing ks with
  |nil =>
   cases ks with
   |nil=>exact .nil
   |cons _ _=>simp at hks
  | @cons p x l1 l2 r1 r2 ih =>
   cases ks with
   |nil=>simp at hks
   |cons k ks =>
    simp only[List.map_cons,List.cons.injEq]at hks
    refine .cons ⟨?_,hne k (List.mem_cons_self ..)⟩ (ih ks hks.2 fun k hk=>hne k (List.mem_cons_of_mem _ hk))
    rw[r1.2.1,hks.1,List.map_map]
    rfl
 have raw:RawD d (xs.map fun q=>Value.ref q.2.1) ep s.heap:=⟨o,es,go,ex,dt,by rw[ee,List.map_map];rfl⟩
 refine Calls.call_function_entry kind_sorted plain_sorted entry_sorted (args_sorted1 _) ?_
 unfold Builtin.«sorted»
 refine wpAny_bind (m:=checkCount "sorted" 1 1 _) (wpAny_pure (wpAny_bind (kdu_collect (A:=X.A.in1) (rawSrc nsys) (show X.A.handled=none from I.ok.hd hc) raw (by rw[List.length_map,hpl,sizeLine_eq];lia) fun h' tk acc kp hacc=>?_)))
 have eacc:acc.toList=(xs.map fun q=>q.2.1).map Value.ref:=by
  apply List.ext_getElem?
  intro i
  by_cases hi:i<acc.size
  ·have e1:acc.toList[i]?=some acc[i]:=by rw[Array.getElem?_toList,Array.getElem?_eq_getElem hi]
   have e2:=hacc.2 i acc[i] (Array.getElem?_eq_getElem hi)
   rw[e1,List.map_map]
   exact e2.symm
  ·have l0:=hacc.1
   rw[List.length_map]at l0
   rw[List.getElem?_eq_none (by rw[Array.length_toList];omega),List.getElem?_eq_none (by rw[List.length_map,List.length_map];lia)]
 rw[eacc]
 generalize exs:(xs.map fun q=>q.2.1)=as0 at hT
 have las:as0.length<128:=by rw[<- exs,List.length_map];lia
 refine wpAny_bind (wpAny_newList ?_ (by rw[List.length_map,sizeLine_eq];lia))
 have gL:(h'.push (seqObj "list" (as0.map Value.ref).toArray 0)).get? h'.objs.size=some (seqObj "list" (as0.map Value.ref).toArray 0):=Heap.get?_push_size _ rfl
 have I1:Inv X pins σ H { s with heap:=h',toks:=tk }:=I.kept kp
 have kp2:∀ b u,h'.get? b=some u->(h'.push (seqObj "list" (as0.map Value.ref).toArray 0)).get? b=some u:=fun b u e=>Heap.get?_push_of_some _ e
 have tT:Paired (fun a k=>TupI (h'.push (seqObj "list" (as0.map Value.ref).toArray 0)) (.ref a) k/\k≠[]) as0 ks:=Paired.mapP hT fun a k z=>⟨(tupI_of I1 z.1).to fun b u _ e=>kp2 b u e,z.2⟩
 have memH:∀ a∈as0,∃ k:List Int,H a=some (.tup (k.map V.int)):=fun a ha=>by
  clear q exs eacc raw gL tT kp2 las hks hne hlen
  induction hT with
  |nil=>cases ha
  |cons r _ ih =>
   rcases List.mem_cons.mp ha with e | e
   ·rw[e];exact⟨_,r.1⟩
   ·exact ih e
 refine wpAny_bind (wpAny_holding (wpAny_call_entry slot_list_sort ⟨_,gL,rfl⟩ entry_list_sort (sort_new (X:=X) (s:={ s with heap:=h'.push (seqObj "list" (as0.map Value.ref).toArray 0),toks:=tk }) gL tT las fun bs ns g c pb pn pw pt kp3 gg=>⟨_,rfl,?_⟩) (args_list_sort _)))
 refine wpAny_pure ⟨_,rfl,.ref h'.objs.size,_,I1.laid (t':=tk) (a:=h'.objs.size) (o:=.lst (bs.map V.ref)) (fun b u e=>kp3 b u (Nat.ne_of_lt (Heap.lt_size e)) (kp2 b u e)) (Nat.le_refl _) (show ObjOk X.prog X.w _ g _ (.lst (bs.map V.ref))from⟨?_,bs.map Value.ref,c,?_,gg⟩),rfl,q _ bs ns (I1.hok.fresh (Nat.le_refl _)) pn pw ?_⟩
 ·rw[List.length_map,pb.length_eq,sizeLine_eq];lia
 ·clear pb pt gg
  induction bs with
  |nil=>exact .nil
  |cons b bs ih=>exact .cons rfl ih
 ·have memB:∀ a∈bs,∃ k:List Int,H a=some (.tup (k.map V.int)):=fun a ha=>memH a (pb.mem_iff.mp ha)
  clear pb gg pn pw
  induction pt with
  |nil=>exact .nil
  | @cons a k l1 l2 r1 _ ih =>
   refine .cons ?_ (ih fun a ha=>memB a (List.mem_cons_of_mem _ ha))
   obtain⟨k',e⟩:=memB a (List.mem_cons_self ..)
   rw[e,r1.inj ((tupI_of I1 e).to fun b u _ z=>kp2 b u z)]
end
open PySem PySem.W PyProof.Rows
section
variable{X:Cx}
theorem call_range(X:Cx):CallR X (.type "range") (fun xs H Q=>∃ j:Int,xs=[V.int j]/\∀ p,H p=none->Q (.ref p) (upd H p (.rng 0 j))):=by
 intro pins s σ H xs us Q I r h
 obtain⟨j,rfl,q⟩:=h
 obtain⟨u,rfl,t,rfl⟩:=vals1 r
 refine call_range_1 ⟨.ref s.heap.objs.size,_,I.laid (t':=s.toks+1+1) (a:=s.heap.objs.size) (o:=.rng 0 j) (fun b o e=>Heap.get?_push_of_some _ e) (Nat.le_refl _) ⟨_,_,_,Heap.get?_push_size _ rfl⟩,rfl,q _ (I.hok.fresh (Nat.le_refl _))⟩
noncomputable def upto(n:Nat):List Int:=(List.range n).map fun(i:Nat)=>(i:Int)
theorem upto_length(n:Nat):(upto n).length=n:=by simp[upto]
theorem call_list_rng(hc:X.calm=true):CallR X (.type "list") (fun xs H Q=>∃ p j,xs=[V.ref p]/\H p=some (.rng 0 j)/\-(2 ^ 62)<=j/\j<=1000000/\∀ l,H l=none->Q (.ref l) (upd H l (.lst ((upto j.toNat).map V.int)))):=by
 intro pins s σ H xs us Q I r h
 obtain⟨p,j,rfl,hp,h1,h2,q⟩:=h
 obtain⟨u,rfl,rx⟩:=vals1 r
 cases rx
 obtain⟨t,u,v,e⟩:=I.hok p _ hp
 have rs:Builtin.Range.rangeSize 0 j 1=((j.toNat:Nat):Int):=by rw[rangeSize_one];split <;> lia
 refine call_list_range (I.ok.hd hc) (show IsRange s.heap p 0 j 1 t u v from e) (small_one (by lia) (by lia) h1 (by lia)) rs (by lia) fun h' tk acc c kp hD hI=>?_
 refine⟨.ref s.heap.objs.size,_,I.laid (t':=tk) (a:=s.heap.objs.size) (o:=.lst ((upto j.toNat).map V.int)) kp (Nat.le_refl _) (show ObjOk X.prog X.w _ h' _ (.lst ((upto j.toNat).map V.int))from⟨?_,acc.toList,c,?_,by rw[Array.toArray_toList];exact hD⟩),rfl,q _ (I.hok.fresh (Nat.le_refl _))⟩
 ·rw[List.length_map,upto_length,sizeLine_eq];lia
 ·have len:acc.toList.length=j.toNat:=by rw[Array.length_toList];exact hI.1
  have key:∀ (n:Nat) (a:List Value) (b:Nat),a.length=n->(∀ i u,a[i]?=some u->∃ t,u=Value.int ((b+i:Nat):Int) t)->Vals (((List.range' b n).map fun(i:Nat)=>(i:Int)).map V.int) a:=by
   intro n
   induction n with
   |zero=>intro a b e _;rw[List.eq_nil_of_length_eq_zero e];exact .nil
   |succ n ih =>
    intro a b e f
    cases a with
    |nil=>simp at e
    |cons u a =>
     rw[List.range'_succ,List.map_cons,List.map_cons]
     refine .cons (f 0 u rfl) (ih a (b+1) (by simpa using e) fun i u hu=>?_)
     obtain⟨t,z⟩:=f (i+1) u (by simpa using hu)
     exact⟨t,by rw[z];congr 1;lia⟩
  have:=key j.toNat acc.toList 0 len fun i u hu=>by
   obtain⟨t,z⟩:=hI.2 i u (by rw[<- Array.getElem?_toList];exact hu)
   exact⟨t,by rw[z];congr 1;lia⟩
  rw[<- List.range_eq_range']at this
  exact this
theorem eqAt_ints{A:Around}{s:Shared}{ns ms:List Int}{us vs:List Value}(r:Vals (ns.map V.int) us)(r':Vals (ms.map V.int) vs)(j:Nat)(h1:j<us.toArray.size)(h2:j<vs.toArray.size):SeqAt.EqAt A s us.toArray[j] vs.toArray[j] (decide (ns[j]?=ms[j]?)):=by
 have l1:=r.length
 have l2:=r'.length
 simp only[List.length_map,List.size_toArray]at l1 l2 h1 h2
 obtain⟨u,e1,t1,q1⟩:=r.get (i:=j) (x:=V.int (ns[j]'(by lia))) (by rw[List.getElem?_map,List.getElem?_eq_getElem (by lia)];rfl)
 obtain⟨u',e2,t2,q2⟩:=r'.get (i:=j) (x:=V.int (ms[j]'(by lia))) (by rw[List.getElem?_map,List.getElem?_eq_getElem (by lia)];rfl)
 have g1:us.toArray[j]=u:=by
  have:us[j]?=some us.toArray[j]:=by simp[h1]
  rw[this]at e1
  exact Option.some.inj e1
 have g2:vs.toArray[j]=u':=by
  have:vs[j]?=some vs.toArray[j]:=by simp[h2]
  rw[this]at e2
  exact Option.some.inj e2
 rw[g1,g2,q1,q2]
 have e:decide (ns[j]?=ms[j]?)=(ns[j]'(by lia) == ms[j]'(by lia)):=by
  rw[List.getElem?_eq_getElem (by lia),List.getElem?_eq_getElem (by lia),Bool.beq_eq_decide_eq]
  simp
 rw[e]
 exact SeqAt.EqAt.int_int _ _ _ _
theorem call_isinst:CallR X (.builtin "isinstance") (fun xs H Q=>∃ x t c b,xs=[x,V.ty c]/\TyOf X.K H x t/\PySem.W.kitOne X.K t (.type c)=some b/\Q (.bl b) H):=by
 intro pins s σ H xs us Q I r h
 obtain⟨x,t,c,b,rfl,ty,e,q⟩:=h
 obtain⟨u,u',rfl,rx,rc⟩:=vals2 r
 cases rc
 exact isinst_ok I rx ty e fun tk=>⟨.bl b,H,I.tok _,rfl,q⟩
end
theorem star_sub{a b:Expr}{pos:Pos}{rest:List Expr}{env:Env}:starEach (.Subscript a b pos :: rest) env=(false,eval (.Subscript a b pos) env) :: starEach rest env:=rfl
theorem star_call{f:Expr}{args:List Expr}{ks:List Keyword}{pos:Pos}{rest:List Expr}{env:Env}:starEach (.Call f args ks pos :: rest) env=(false,eval (.Call f args ks pos) env) :: starEach rest env:=rfl
theorem star_bin{a b:Expr}{op:Operator}{pos:Pos}{rest:List Expr}{env:Env}:starEach (.BinOp a op b pos :: rest) env=(false,eval (.BinOp a op b pos) env) :: starEach rest env:=rfl
theorem star_cmp{a:Expr}{ops:List CmpOp}{bs:List Expr}{pos:Pos}{rest:List Expr}{env:Env}:starEach (.Compare a ops bs pos :: rest) env=(false,eval (.Compare a ops bs pos) env) :: starEach rest env:=rfl
theorem star_comp{e:Expr}{gs:List Comprehension}{sc:Scope}{pos:Pos}{rest:List Expr}{env:Env}:starEach (.ListComp e gs sc pos :: rest) env=(false,eval (.ListComp e gs sc pos) env) :: starEach rest env:=rfl
theorem star_tup{es:List Expr}{k:Nat}{pos:Pos}{rest:List Expr}{env:Env}:starEach (.Tuple es k pos :: rest) env=(false,eval (.Tuple es k pos) env) :: starEach rest env:=rfl
section
variable{X:Cx}{es:List Expr}{te:TE}{t:TA}{pos:Pos}
theorem pa_sub{a b:Expr}(ha:PE X (.Subscript a b pos) te)(hr:PA X es t):PA X (.Subscript a b pos :: es) (tCons te t):=pa_cons ha hr (hs:=star_sub)
theorem pa_call{f:Expr}{args:List Expr}{ks:List Keyword}(ha:PE X (.Call f args ks pos) te)(hr:PA X es t):PA X (.Call f args ks pos :: es) (tCons te t):=pa_cons ha hr (hs:=star_call)
theorem pa_bin{a b:Expr}{op:Operator}(ha:PE X (.BinOp a op b pos) te)(hr:PA X es t):PA X (.BinOp a op b pos :: es) (tCons te t):=pa_cons ha hr (hs:=star_bin)
theorem pa_cmp{a:Expr}{ops:List CmpOp}{bs:List Expr}(ha:PE X (.Compare a ops bs pos) te)(hr:PA X es t):PA X (.Compare a ops bs pos :: es) (tCons te t):=pa_cons ha hr (hs:=star_cmp)
theorem pa_comp{e:Expr}{gs:List Comprehension}{sc:Scope}(ha:PE X (.ListComp e gs sc pos) te)(hr:PA X es t):PA X (.ListComp e gs sc pos :: es) (tCons te t):=pa_cons ha hr (hs:=star_comp)
theorem pa_tup{xs:List Expr}{k:Nat}(ha:PE X (.Tuple xs k pos) te)(hr:PA X es t):PA X (.Tuple xs k pos :: es) (tCons te t):=pa_cons ha hr (hs:=star_tup)
theorem star_cst{c:Const}{k:Nat}{pos:Pos}{rest:List Expr}{env:Env}:starEach (.Constant c k pos :: rest) env=(false,eval (.Constant c k pos) env) :: starEach rest env:=rfl
theorem star_nam{x:Str}{pos:Pos}{rest:List Expr}{env:Env}:starEach (.Name x pos :: rest) env=(false,eval (.Name x pos) env) :: starEach rest env:=rfl
theorem pa_cst{c:Const}{k:Nat}(ha:PE X (.Constant c k pos) te)(hr:PA X es t):PA X (.Constant c k pos :: es) (tCons te t):=pa_cons ha hr (hs:=star_cst)
theorem pa_nam{x:Str}(ha:PE X (.Name x pos) te)(hr:PA X es t):PA X (.Name x pos :: es) (tCons te t):=pa_cons ha hr (hs:=star_nam)
end
end L2
namespace Srt
open PySem PySem.W PyProof.Rows
noncomputable def SeqK(b:Bool)(g:Heap)(l:Addr)(xs:Array Value):Prop:=match b with
 |true=>g.IsTuple l xs
 |false=>g.IsList l xs
noncomputable def ItK(b:Bool)(g:Heap)(it l:Addr)(i:Nat):Prop:=match b with
 |true=>g.IsTupleIter it l i
 |false=>g.IsListIter it l i
noncomputable def itO(b:Bool)(l:Addr):Obj:=match b with
 |true=>{ cls:=.type "tuple_iterator",data:=.fields #[.ref l,.int 0 0] }
 |false=>{ cls:=.type "list_iterator",data:=.fields #[.ref l,.int 0 0] }
theorem SeqK.to{b:Bool}{g g':Heap}{l:Addr}{xs:Array Value}(x:SeqK b g l xs)(k:∀ o,g.get? l=some o->g'.get? l=some o):SeqK b g' l xs:=by
 cases b
 ·exact Heap.IsList.at x k
 ·exact Heap.IsTuple.at x k
theorem ItK.to{b:Bool}{g g':Heap}{it l:Addr}{i:Nat}(x:ItK b g it l i)(k:∀ o,g.get? it=some o->g'.get? it=some o):ItK b g' it l i:=by
 cases b
 ·exact Heap.IsListIter.at x k
 ·obtain⟨o,e,r⟩:=(show g.IsTupleIter it l i from x)
  exact⟨o,k o e,r⟩
theorem ItK.lt{b:Bool}{g:Heap}{it l:Addr}{i:Nat}(x:ItK b g it l i):∃ o,g.get? it=some o/\∀ v,o.data≠.cell v:=by
 cases b
 ·obtain⟨o,e,c,d⟩:=(show g.IsListIter it l i from x)
  exact⟨o,e,fun v z=>by rw[d]at z;cases z⟩
 ·obtain⟨o,e,c,d⟩:=(show g.IsTupleIter it l i from x)
  exact⟨o,e,fun v z=>by rw[d]at z;cases z⟩
section
variable{prog:Program}{w:World}{A:Around}{E:Value->Shared->Prop}{s:Shared}
theorem nextK_item{b:Bool}{it l:Addr}{i:Nat}{xs:Array Value}{x:Value}{Q:Value->Shared->Prop}(hit:ItK b s.heap it l i)(hl:SeqK b s.heap l xs)(hx:xs[i]?=some x)
  (q:∀ g,ItK b g it l (i+1)->Heap.SameBut it s.heap g->Q x { s with heap:=g }):wpAny (model prog w) A (Builtin.SmallTypes.nextOf (.ref it)) Q E s:=by
 cases b
 ·exact wpAny_nextOf_list_item hit hl hx q
 ·have ty:s.TypeIs (.ref it) "tuple_iterator":=by
   obtain⟨o,e,c,_⟩:=(show s.heap.IsTupleIter it l i from hit)
   exact⟨o,e,c⟩
  obtain⟨o,e,c,d⟩:=(show s.heap.IsTupleIter it l i from hit)
  obtain⟨o2,e2,_,n2,d2⟩:=(show s.heap.IsTuple l xs from hl)
  unfold Builtin.SmallTypes.nextOf;refine wpAny_bind (wpAny_callSpecial?_slot (name:=Str.ofString "__next__") ty F.slot_tuple_iterator_next (wpAny_call_entry F.slot_tuple_iterator_next ty F.entry_tuple_iterator_next ?_ (F.args_tuple_iterator_next_1 _)))
  show wpAny _ _ (field (.ref it) 0 >>= _) _ _ s;refine wpAny_bind (wpAny_field e d (x:=.ref l) rfl ?_)
  show wpAny _ _ (if(Value.ref l == Value.none)=true then _ else _) _ _ s;rw[if_neg (show ¬((Value.ref l == Value.none)=true)from Bool.false_ne_true)]
  show wpAny _ _ (field (.ref it) 1 >>= _) _ _ s;refine wpAny_bind (wpAny_field e d (x:=.int i 0) rfl ?_)
  show wpAny _ _ (seqItems? (.ref l) >>= _) _ _ s;refine wpAny_bind (wpAny_seqItems e2 d2 ?_)
  simp only[Int.toNat_natCast,hx]
  refine wpAny_bind (wpAny_setField e d (by simp) (wpAny_pure ⟨x,rfl,wpAny_pure (q _ ?_ (Heap.SameBut.update ..))⟩))
  exact(show Heap.IsTupleIter _ it l (i+1)from⟨_,Heap.get?_update_self _ e (Obj.isFreed_of_fields (Obj.data_mapFields d _)),(Obj.cls_mapFields ..).trans c,by rw[Obj.data_mapFields d];simp[rawInt]⟩)
theorem nextK_end{b:Bool}{it l:Addr}{i:Nat}{xs:Array Value}{Q:Value->Shared->Prop}(hh:A.handled=none)(hit:ItK b s.heap it l i)(hl:SeqK b s.heap l xs)(hx:xs[i]?=none)
  (q:∀ g e,Heap.ExtBut it s.heap g->(∃ o,g.get? e=some o/\o.cls = .type "StopIteration")->E (.ref e) { s with heap:=g }):wpAny (model prog w) A (Builtin.SmallTypes.nextOf (.ref it)) Q E s:=by
 cases b
 ·exact wpAny_nextOf_list_end hh hit hl hx q
 ·have ty:s.TypeIs (.ref it) "tuple_iterator":=by
   obtain⟨o,e,c,_⟩:=(show s.heap.IsTupleIter it l i from hit)
   exact⟨o,e,c⟩
  obtain⟨o,e,c,d⟩:=(show s.heap.IsTupleIter it l i from hit)
  obtain⟨o2,e2,_,n2,d2⟩:=(show s.heap.IsTuple l xs from hl)
  unfold Builtin.SmallTypes.nextOf;refine wpAny_bind (wpAny_callSpecial?_slot (name:=Str.ofString "__next__") ty F.slot_tuple_iterator_next (wpAny_call_entry F.slot_tuple_iterator_next ty F.entry_tuple_iterator_next ?_ (F.args_tuple_iterator_next_1 _)))
  show wpAny _ _ (field (.ref it) 0 >>= _) _ _ s;refine wpAny_bind (wpAny_field e d (x:=.ref l) rfl ?_)
  show wpAny _ _ (if(Value.ref l == Value.none)=true then _ else _) _ _ s;rw[if_neg (show ¬((Value.ref l == Value.none)=true)from Bool.false_ne_true)]
  show wpAny _ _ (field (.ref it) 1 >>= _) _ _ s;refine wpAny_bind (wpAny_field e d (x:=.int i 0) rfl ?_)
  show wpAny _ _ (seqItems? (.ref l) >>= _) _ _ s;refine wpAny_bind (wpAny_seqItems e2 d2 ?_)
  simp only[Int.toNat_natCast,hx];refine wpAny_bind (wpAny_rule (wpAny_bind (wpAny_setField e d (by simp) ?_)))
  show wpAny _ _ (newExc (.type "StopIteration") [] >>= _) _ _ _;refine wpAny_bind ?_
  simp only[newExc,newTuple];refine wpAny_bind (wpAny_newObj_type ?_ (by size_fits))
  refine wpAny_bind (m:=firstArgMember _ _) (wpAny_of_eq (a:=Value.none) (by first | rfl |(simp only[firstArgMember];rfl)) (wpAny_newObj_type ?_ (by size_fits)))
  simp only[raiseNew];refine wpAny_bind (wpAny_handled ?_)
  rw[show A.in1.handled=none from hh];refine wpAny_bind (wpAny_pure (wpAny_throw ?_))
  exact q _ _ (((Heap.SameBut.update ..).extBut.push _).push _) ⟨_,Heap.get?_push_size _ rfl,rfl⟩
structure ZA(z ti to i1 i2:Addr):Prop where
 a1:ti≠z
 a2:to≠z
 a3:i1≠z
 a4:i2≠z
 a5:ti≠to
 a6:ti≠i1
 a7:ti≠i2
 a8:to≠i1
 a9:to≠i2
 a10:i1≠i2
noncomputable def Off(z to i1 i2 l:Addr):Prop:=l≠z/\l≠to/\l≠i1/\l≠i2
theorem zipK_item{b1 b2:Bool}{z ti to i1 i2 l1 l2:Addr}{k:Nat}{xs ys:Array Value}{x y a b:Value}{Q:Value->Shared->Prop}(D:ZA z ti to i1 i2)(o1:Off z to i1 i2 l1)(o2:Off z to i1 i2 l2)
  (hz:IsZip s.heap z ti to .none) (hTI:IsPair s.heap ti (.ref i1) (.ref i2)) (hTO:IsPair s.heap to a b) (h1:ItK b1 s.heap i1 l1 k) (h2:ItK b2 s.heap i2 l2 k) (hl1:SeqK b1 s.heap l1 xs) (hl2:SeqK b2 s.heap l2 ys) (hx:xs[k]?=some x) (hy:ys[k]?=some y)
  (q:∀ g,IsZip g z ti to (rawInt s.heap.objs.size)->IsPair g to x y->ItK b1 g i1 l1 (k+1)->ItK b2 g i2 l2 (k+1)->IsPair g s.heap.objs.size x y->(∀ c o,c≠z->c≠to->c≠i1->c≠i2->s.heap.get? c=some o->g.get? c=some o)->Q (.ref s.heap.objs.size) { s with heap:=g }) :
  wpAny (model prog w) A (Builtin.«zip.__next__» ⟨[.ref z],[]⟩) (fun fin s'=>∃ v,fin = .done (.ret v)/\Q v s') E s:=by
 show wpAny _ _ (field (.ref z) 2 >>= _) _ _ _;refine wpAny_bind (wpAny_field hz rfl (x:=.bool false) rfl ?_)
 show wpAny _ _ (field (.ref z) 3 >>= _) _ _ _;refine wpAny_bind (wpAny_field hz rfl (x:=.ref ti) rfl (wpAny_bind (wpAny_seqItems hTI rfl ?_)))
 show wpAny _ _ (Builtin.SmallTypes.ownedTupleIsFree (.ref z) >>= _) _ _ _;refine wpAny_bind ?_
 unfold Builtin.SmallTypes.ownedTupleIsFree;refine wpAny_bind (wpAny_field hz rfl (x:=.none) rfl (wpAny_pure ?_))
 simp only[if_true];refine wpAny_bind (wpAny_rule (wpAny_bind (wpAny_field hz rfl (x:=.ref to) rfl (wpAny_bind (wpAny_setField_rec hz (by simp) fun g1 z1 e1=>?_)))))
 replace z1:IsZip g1 z ti to .ellipsis:=z1
 refine wpAny_bind ?_;simp only[List.zipIdx_cons,List.zipIdx_nil,List.forIn_cons,List.forIn_nil]
 refine wpAny_bind (wpAny_bind (wpAny_onRaise ?_));show wpAny _ _ (Builtin.SmallTypes.nextOf (.ref i1) >>= _) _ _ _
 refine wpAny_bind (nextK_item (h1.to fun o e=>e1.extBut _ _ D.a3 e) (hl1.to fun o e=>e1.extBut _ _ o1.1 e) hx fun g2 n2 e2=>wpAny_pure ?_)
 have t2:IsPair g2 to a b:=e2.extBut _ _ D.a8 (e1.extBut _ _ D.a2 hTO)
 refine wpAny_bind (wpAny_seqItems t2 rfl (wpAny_bind (wpAny_updateSeq_pair t2 fun g3 t3 e3=>?_)))
 replace t3:IsPair g3 to x b:=t3
 refine wpAny_bind (wpAny_letGo (wpAny_pure (wpAny_bind (wpAny_bind (wpAny_onRaise ?_)))));show wpAny _ _ (Builtin.SmallTypes.nextOf (.ref i2) >>= _) _ _ _
 refine wpAny_bind (nextK_item (((h2.to fun o e=>e1.extBut _ _ D.a4 e).to fun o e=>e2.extBut _ _ (Ne.symm D.a10) e).to fun o e=>e3.extBut _ _ (Ne.symm D.a9) e) (((hl2.to fun o e=>e1.extBut _ _ o2.1 e).to fun o e=>e2.extBut _ _ o2.2.2.1 e).to fun o e=>e3.extBut _ _ o2.2.1 e) hy fun g4 n4 e4=>wpAny_pure ?_)
 have t4:IsPair g4 to x b:=e4.extBut _ _ D.a9 t3
 refine wpAny_bind (wpAny_seqItems t4 rfl (wpAny_bind (wpAny_updateSeq_pair t4 fun g5 t5 e5=>?_)))
 replace t5:IsPair g5 to x y:=t5
 refine wpAny_bind (wpAny_letGo (wpAny_pure (wpAny_pure (wpAny_bind (wpAny_seqItems t5 rfl (wpAny_bind (wpAny_newTuple ?_)))))))
 have sz:g5.objs.size=s.heap.objs.size:=by rw[e5.1,e4.1,e3.1,e2.1,e1.1]
 have z5:IsZip g5 z ti to .ellipsis:=e5.extBut _ _ (Ne.symm D.a2) (e4.extBut _ _ (Ne.symm D.a4) (e3.extBut _ _ (Ne.symm D.a2) (e2.extBut _ _ (Ne.symm D.a3) z1)))
 have k5:∀ c o,c≠z->c≠to->c≠i1->c≠i2->s.heap.get? c=some o->g5.get? c=some o:=fun c o c1 c2 c3 c4 e=>e5.extBut _ _ c2 (e4.extBut _ _ c4 (e3.extBut _ _ c2 (e2.extBut _ _ c3 (e1.extBut _ _ c1 e))))
 have n15:ItK b1 g5 i1 l1 (k+1):=((n2.to fun o e=>e3.extBut _ _ (Ne.symm D.a8) e).to fun o e=>e4.extBut _ _ D.a10 e).to fun o e=>e5.extBut _ _ (Ne.symm D.a8) e
 have n25:ItK b2 g5 i2 l2 (k+1):=n4.to fun o e=>e5.extBut _ _ (Ne.symm D.a9) e
 show wpAny _ _ (Builtin.SmallTypes.ownedTupleHandOut (.ref z) (.ref g5.objs.size) >>= _) _ _ _;refine wpAny_bind ?_
 unfold Builtin.SmallTypes.ownedTupleHandOut
 have z6:IsZip (g5.push { cls:=.type "tuple",data:=.seq #[x,y] }) z ti to .ellipsis:=Heap.get?_push_of_some _ z5
 refine wpAny_bind (wpAny_setField_rec z6 (by simp) fun g7 z7 e7=>?_)
 replace z7:IsZip g7 z ti to (rawInt g5.objs.size):=z7
 refine wpAny_setField_rec z7 (by simp) fun g8 z8 e8=>?_
 replace z8:IsZip g8 z ti to (rawInt g5.objs.size):=z8
 have up:∀ c o,c≠z->g5.get? c=some o->g8.get? c=some o:=fun c o c1 e=>e8.extBut _ _ c1 (e7.extBut _ _ c1 (Heap.get?_push_of_some _ e))
 have zlt:z<g5.objs.size:=Heap.lt_size z5
 have p8:IsPair g8 g5.objs.size x y:=e8.extBut _ _ (Nat.ne_of_gt zlt) (e7.extBut _ _ (Nat.ne_of_gt zlt) (Heap.get?_push_size _ rfl))
 rw[sz]at z8 p8
 refine wpAny_pure ⟨_,rfl,?_⟩
 show Q (.ref g5.objs.size) _;rw[sz]
 exact q g8 z8 (up _ _ D.a2 t5) (n15.to fun o e=>up _ o D.a3 e) (n25.to fun o e=>up _ o D.a4 e) p8 fun c o c1 c2 c3 c4 e=>up c o c1 (k5 c o c1 c2 c3 c4 e)
theorem zipK_end{b1 b2:Bool}{z ti to i1 i2 l1 l2:Addr}{k:Nat}{xs ys:Array Value}{a b:Value}{Q:Fin->Shared->Prop}(hh:A.handled=none)(D:ZA z ti to i1 i2)(o1:Off z to i1 i2 l1)(o2:Off z to i1 i2 l2)
  (hz:IsZip s.heap z ti to .none) (hTI:IsPair s.heap ti (.ref i1) (.ref i2)) (hTO:IsPair s.heap to a b) (h1:ItK b1 s.heap i1 l1 k) (h2:ItK b2 s.heap i2 l2 k) (hl1:SeqK b1 s.heap l1 xs) (hl2:SeqK b2 s.heap l2 ys) (he:xs[k]?=none\/ys[k]?=none)
  (q:∀ g e,(∀ c o,c≠z->c≠to->c≠i1->c≠i2->s.heap.get? c=some o->g.get? c=some o)->(∃ o,g.get? e=some o/\o.cls = .type "StopIteration")->E (.ref e) { s with heap:=g }) :
  wpAny (model prog w) A (Builtin.«zip.__next__» ⟨[.ref z],[]⟩) Q E s:=by
 show wpAny _ _ (field (.ref z) 2 >>= _) _ _ _;refine wpAny_bind (wpAny_field hz rfl (x:=.bool false) rfl ?_)
 show wpAny _ _ (field (.ref z) 3 >>= _) _ _ _;refine wpAny_bind (wpAny_field hz rfl (x:=.ref ti) rfl (wpAny_bind (wpAny_seqItems hTI rfl ?_)))
 show wpAny _ _ (Builtin.SmallTypes.ownedTupleIsFree (.ref z) >>= _) _ _ _;refine wpAny_bind ?_
 unfold Builtin.SmallTypes.ownedTupleIsFree;refine wpAny_bind (wpAny_field hz rfl (x:=.none) rfl (wpAny_pure ?_))
 simp only[if_true];refine wpAny_bind (wpAny_rule (wpAny_bind (wpAny_field hz rfl (x:=.ref to) rfl (wpAny_bind (wpAny_setField_rec hz (by simp) fun g1 z1 e1=>?_)))))
 replace z1:IsZip g1 z ti to .ellipsis:=z1
 refine wpAny_bind ?_;simp only[List.zipIdx_cons,List.zipIdx_nil,List.forIn_cons,List.forIn_nil]
 refine wpAny_bind (wpAny_bind (wpAny_onRaise ?_));show wpAny _ _ (Builtin.SmallTypes.nextOf (.ref i1) >>= _) _ _ _
 cases hx:xs[k]? with
 |none =>
  refine wpAny_bind (nextK_end hh (h1.to fun o e=>e1.extBut _ _ D.a3 e) (hl1.to fun o e=>e1.extBut _ _ o1.1 e) hx fun g2 e e2 he=>?_)
  obtain⟨oe,hoe,hce⟩:=he
  have z2:IsZip g2 z ti to .ellipsis:=e2 _ _ (Ne.symm D.a3) z1
  have ez:e≠z:=fun x=>by subst x;rw[z2]at hoe;cases hoe;simp at hce
  refine wpAny_setField_rec z2 (by simp) fun g3 _ e3=>q g3 e (fun c o c1 _ c3 _ x=>e3.extBut _ _ c1 (e2 _ _ c3 (e1.extBut _ _ c1 x))) ⟨oe,e3.extBut _ _ ez hoe,hce⟩
 |some x =>
  have hy:ys[k]?=none:=by
   rcases he with h | h
   ·rw[hx]at h;cases h
   ·exact h
  refine wpAny_bind (nextK_item (h1.to fun o e=>e1.extBut _ _ D.a3 e) (hl1.to fun o e=>e1.extBut _ _ o1.1 e) hx fun g2 n2 e2=>wpAny_pure ?_)
  have t2:IsPair g2 to a b:=e2.extBut _ _ D.a8 (e1.extBut _ _ D.a2 hTO)
  refine wpAny_bind (wpAny_seqItems t2 rfl (wpAny_bind (wpAny_updateSeq_pair t2 fun g3 t3 e3=>wpAny_bind (wpAny_letGo (wpAny_pure (wpAny_bind (wpAny_bind (wpAny_onRaise ?_))))))))
  show wpAny _ _ (Builtin.SmallTypes.nextOf (.ref i2) >>= _) _ _ _
  refine wpAny_bind (nextK_end hh (((h2.to fun o e=>e1.extBut _ _ D.a4 e).to fun o e=>e2.extBut _ _ (Ne.symm D.a10) e).to fun o e=>e3.extBut _ _ (Ne.symm D.a9) e) (((hl2.to fun o e=>e1.extBut _ _ o2.1 e).to fun o e=>e2.extBut _ _ o2.2.2.1 e).to fun o e=>e3.extBut _ _ o2.2.1 e) hy fun g4 e e4 he=>?_)
  obtain⟨oe,hoe,hce⟩:=he
  have z4:IsZip g4 z ti to .ellipsis:=e4 _ _ (Ne.symm D.a4) (e3.extBut _ _ (Ne.symm D.a2) (e2.extBut _ _ (Ne.symm D.a3) z1))
  have ez:e≠z:=fun x=>by subst x;rw[z4]at hoe;cases hoe;simp at hce
  refine wpAny_setField_rec z4 (by simp) fun g5 _ e5=>q g5 e (fun c o c1 c2 c3 c4 x=>e5.extBut _ _ c1 (e4 _ _ c4 (e3.extBut _ _ c2 (e2.extBut _ _ c3 (e1.extBut _ _ c1 x))))) ⟨oe,e5.extBut _ _ ez hoe,hce⟩
theorem pyIterK{b:Bool}{l:Addr}{xs:Array Value}{Q:Value->Shared->Prop}(h:SeqK b s.heap l xs)(q:Q (.ref s.heap.objs.size) { s with heap:=s.heap.push (itO b l) }):wpAny (model prog w) A (pyIter (.ref l)) Q E s:=by
 cases b
 ·exact wpAny_pyIter_list h q
 ·exact wpAny_pyIter_tuple h q
theorem ItK.new{b:Bool}{l:Addr}(g:Heap):ItK b (g.push (itO b l)) g.objs.size l 0:=by
 cases b
 ·exact(show Heap.IsListIter _ _ _ _ from⟨_,Heap.get?_push_size _ rfl,rfl,rfl⟩)
 ·exact(show Heap.IsTupleIter _ _ _ _ from⟨_,Heap.get?_push_size _ rfl,rfl,rfl⟩)
noncomputable abbrev zK2(g:Heap)(b1 b2:Bool)(l1 l2:Addr):Heap:=(g.push (itO b1 l1)).push (itO b2 l2)
noncomputable abbrev zK3(g:Heap)(b1 b2:Bool)(l1 l2:Addr):Heap:=(zK2 g b1 b2 l1 l2).push { cls:=.type "tuple",data:=.seq #[.ref g.objs.size,.ref (g.push (itO b1 l1)).objs.size] }
noncomputable abbrev zK4(g:Heap)(b1 b2:Bool)(l1 l2:Addr):Heap:=(zK3 g b1 b2 l1 l2).push { cls:=.type "tuple",data:=.seq #[.none,.none] }
noncomputable abbrev zK5(g:Heap)(b1 b2:Bool)(l1 l2:Addr):Heap:=(zK4 g b1 b2 l1 l2).push { cls:=.type "zip",data:=.fields #[.none,.bool false,.bool false,.ref (zK2 g b1 b2 l1 l2).objs.size,.ref (zK3 g b1 b2 l1 l2).objs.size] }
theorem zipK_new(b1 b2:Bool)(l1 l2:Addr)(xs ys:Array Value):Meets (Builtin.«zip.__new__» ⟨[.type "zip",.ref l1,.ref l2],[]⟩) (fun _ R s=>SeqK b1 s.heap l1 xs/\SeqK b2 s.heap l2 ys/\R (.ok (.ret (.ref (zK4 s.heap b1 b2 l1 l2).objs.size))) { s with heap:=zK5 s.heap b1 b2 l1 l2 }) :=
 .of_wp fun prog w A R s h=>by
  obtain⟨hp,g,d,tk,os⟩:=s
  obtain⟨hl1,hl2,h⟩:=h
  have hsub:=sub_zip
  have hL1:SeqK b1 (Shared.heap ⟨hp,g,d,tk,os⟩) l1 xs:=hl1
  have hL2:SeqK b2 (Shared.heap ⟨hp.push (itO b1 l1),g,d,tk,os⟩) l2 ys:=hl2.to fun o e=>Heap.get?_push_of_some _ e
  wp_walk using pyIterK hL1,pyIterK hL2
  exact⟨_,rfl,h⟩
end
end Srt
namespace L2
open PySem PySem.W PyProof.Rows Srt
noncomputable def SqB(b:Bool)(K:PySem.W.Frag)(H:Hp)(l:Addr)(xs:List V):Prop:=match b with
 |true=>SqT K H l xs
 |false=>SqL K H l xs
section
variable{X:Cx}{pins:List (Addr×Obj)}{σ:St}{H:Hp}{s:Shared}{h':Heap}
theorem Inv.seqB(I:Inv X pins σ H s){b:Bool}{l:Addr}{xs:List V}(h:SqB b X.K H l xs):∃ its:List Value,Vals xs its/\SeqK b s.heap l its.toArray/\xs.length<=sizeLine:=by
 cases b
 ·obtain⟨its,r,p,z⟩:=I.list h
  exact⟨its,r,p.isList,z⟩
 ·obtain⟨its,r,p,z⟩:=I.tuple h
  exact⟨its,r,p,z⟩
theorem Inv.seqB_inj(I:Inv X pins σ H s){b:Bool}{l:Addr}{xs ys:List V}(h:SqB b X.K H l xs)(h':SqB b X.K H l ys):xs=ys:=by
 cases b
 ·exact I.list_inj h h'
 ·exact I.tuple_inj h h'
theorem Inv.offB(I:Inv X pins σ H s){b:Bool}{l c:Addr}{xs:List V}(h:SqB b X.K H l xs)(f:FpOk X pins H c):l≠c:=by
 intro e
 subst e
 obtain⟨f0,_,_,f3,_,_⟩:=f
 have base:∀ o,X.K.lookup l=some o->False:=fun o hk=>by
  have eb:=I.ok.mod.kin l o hk
  rcases f3 with f3 | f3
  ·exact I.ok.noex l o eb f3
  ·exact absurd (Nat.lt_of_lt_of_le (Heap.lt_size eb) (Nat.le_trans I.ok.bsz f3)) (Nat.lt_irrefl _)
 cases b
 ·rcases(show SqL X.K H l xs from h)with(z |⟨o,z⟩) |⟨o,_,_,hk,_⟩
  ·rw[f0]at z;cases z
  ·rw[f0]at z;cases z
  ·exact base o hk
 ·rcases(show SqT X.K H l xs from h)with(z |⟨o,z⟩) |⟨o,_,_,hk,_⟩
  ·rw[f0]at z;cases z
  ·rw[f0]at z;cases z
  ·exact base o hk
theorem Inv.turnedL{t':Nat}{ch:List Addr}(I:Inv X pins σ H s)(hf:∀ b∈ch,FpOk X pins H b)(k:∀ b o,b∉ch->s.heap.get? b=some o->h'.get? b=some o):Inv X pins σ H { s with heap:=h',toks:=t' }:=by
 have nit:∀ b u,H b=some u->b∉ch:=fun b u e z=>by rw[(hf b z).1]at e;cases e
 have loc:X.env.locals∉ch:=fun z=>(hf _ z).2.1 rfl
 refine I.step (g':=s.gens) (d':=s.drawn) (ch:=ch) (fun b hb=>?_) (fun b o _ _ hc e _=>k b o hc e) (fun b o _ _ hc e _=>⟨o.slots,k b o hc e⟩) (fun _ _ _ _ n=>n) (fun b o hc e=>⟨o,k b o hc e⟩) (fun _ _ e=>e) (fun _ _ _ e=>e) (fun b ps e=>⟨#[],by rw[e];simp⟩) (fun m hm=>?_) (fun b u e=>?_) I.bare
 ·obtain⟨_,f1,_,f3,f4,f5⟩:=hf b hb
  exact⟨f3,f1,f4,f5⟩
 ·obtain⟨o,es,ep,ho,r⟩:=hm
  exact⟨o,es,ep,k _ o loc ho,r⟩
 ·refine(I.hok b u e).stay (fun c v hc q=>k c v ?_ q) (fun _ q=>q) fun _ _ q=>q
  rcases hc with z | z
  ·rw[z];exact nit b u e
  ·exact nit c _ z
theorem Inv.turnedN{t':Nat}{ch:List Addr}{a:Addr}{ob:HO}(I:Inv X pins σ H s)(hf:∀ b∈ch,FpOk X pins H b)(k:∀ b o,b∉ch->s.heap.get? b=some o->h'.get? b=some o)(ha:s.heap.objs.size<=a)(new:ObjOk X.prog X.w (upd H a ob) h' a ob) :
  Inv X pins σ (upd H a ob) { s with heap:=h',toks:=t' }:=by
 have hn:H a=none:=I.hok.fresh ha
 have nit:∀ b u,H b=some u->b∉ch:=fun b u e z=>by rw[(hf b z).1]at e;cases e
 have loc:X.env.locals∉ch:=fun z=>(hf _ z).2.1 rfl
 have old:∀ b o,s.heap.get? b=some o->b≠a:=fun b o e=>Nat.ne_of_lt (Nat.lt_of_lt_of_le (Heap.lt_size e) ha)
 refine I.step (g':=s.gens) (d':=s.drawn) (ch:=ch) (fun b hb=>?_) (fun b o _ _ hc e _=>k b o hc e) (fun b o _ _ hc e _=>⟨o.slots,k b o hc e⟩) (fun b o _ e n=>by rw[upd_ne (old b o e)];exact n) (fun b o hc e=>⟨o,k b o hc e⟩)
  (fun b xs e=>by rw[upd_ne (ne_of_none e hn)];exact e) (fun b o u e=>by rw[upd_ne (ne_of_none e hn)];exact e) (fun b ps e=>⟨#[],by rw[upd_ne (ne_of_none e hn),e];simp⟩) (fun m hm=>?_) (fun b u e=>?_) I.bare
 ·obtain⟨_,f1,_,f3,f4,f5⟩:=hf b hb
  exact⟨f3,f1,f4,f5⟩
 ·obtain⟨o,es,ep,ho,r⟩:=hm
  exact⟨o,es,ep,k _ o loc ho,r⟩
 ·by_cases hb:b=a
  ·subst hb
   rw[upd_same]at e
   cases e
   exact new
  ·rw[upd_ne hb]at e
   refine(I.hok b u e).stay (fun c v hc q=>k c v ?_ q) (fun c q=>by rw[upd_ne (ne_of_none q hn)];exact q) fun c xs q=>by rw[upd_ne (ne_of_none q hn)];exact q
   rcases hc with z | z
   ·rw[z];exact nit b u e
   ·exact nit c _ z
end
noncomputable def Itz(K:PySem.W.Frag)(b1 b2:Bool)(l1 l2:Addr):It :=
  ⟨fun i H=>∃ xs ys x y,SqB b1 K H l1 xs/\SqB b2 K H l2 ys/\xs[i]?=some x/\ys[i]?=some y,
   fun i H v H'=>∃ T x y,v = .ref T/\H T=none/\H'=upd H T (.tup [x,y])/\(∀ xs,SqB b1 K H l1 xs->xs[i]?=some x)/\∀ ys,SqB b2 K H l2 ys->ys[i]?=some y,
   fun i H=>∃ xs ys,SqB b1 K H l1 xs/\SqB b2 K H l2 ys/\(xs.length<=i\/ys.length<=i)⟩
theorem turn_zip{P:Program}{w:World}{K:PySem.W.Frag}{es:List Expr}{kk:Nat}{pos:Pos}(b1 b2:Bool)(z ti to i1 i2 l1 l2:Addr)(D:ZA z ti to i1 i2):Turn P w K (.Tuple es kk pos) (Itz K b1 b2 l1 l2) [z,ti,to,i1,i2] z
  (fun i h=>IsZip h z ti to .none/\IsPair h ti (.ref i1) (.ref i2)/\(∃ a b,IsPair h to a b)/\ItK b1 h i1 l1 i/\ItK b2 h i2 l2 i)where
 mem:=by simp
 obj:=fun i h st b hb=>by
  obtain⟨hz,hti,⟨a,c,hto⟩,h1,h2⟩:=st
  simp only[List.mem_cons,List.not_mem_nil,or_false]at hb
  rcases hb with e | e | e | e | e
  ·rw[e];exact⟨_,hz,fun v z=>by cases z⟩
  ·rw[e];exact⟨_,hti,fun v z=>by cases z⟩
  ·rw[e];exact⟨_,hto,fun v z=>by cases z⟩
  ·rw[e];exact h1.lt
  ·rw[e];exact h2.lt
 keep:=fun i h h' st k=>by
  obtain⟨hz,hti,⟨a,c,hto⟩,h1,h2⟩:=st
  exact⟨k z (by simp) _ hz,k ti (by simp) _ hti,⟨a,c,k to (by simp) _ hto⟩,h1.to fun o e=>k i1 (by simp) o e,h2.to fun o e=>k i2 (by simp) o e⟩
 item:=by
  intro X hP hw hK hc i pins s σ H E I hf st hg
  subst hP hw hK
  obtain⟨hz,hti,⟨a,c,hto⟩,h1,h2⟩:=st
  obtain⟨xs,ys,x,y,q1,q2,hx,hy⟩:=hg
  obtain⟨us,r1,p1,_⟩:=I.seqB q1
  obtain⟨ws,r2,p2,_⟩:=I.seqB q2
  obtain⟨u,hu,ru⟩:=r1.get hx
  obtain⟨v,hv,rv⟩:=r2.get hy
  have off1:Off z to i1 i2 l1:=⟨I.offB q1 (hf z (by simp)),I.offB q1 (hf to (by simp)),I.offB q1 (hf i1 (by simp)),I.offB q1 (hf i2 (by simp))⟩
  have off2:Off z to i1 i2 l2:=⟨I.offB q2 (hf z (by simp)),I.offB q2 (hf to (by simp)),I.offB q2 (hf i1 (by simp)),I.offB q2 (hf i2 (by simp))⟩
  have hT:s.TypeIs (.ref z) "zip":=⟨_,hz,rfl⟩
  have hn:H s.heap.objs.size=none:=I.hok.fresh (Nat.le_refl _)
  unfold pyNext
  refine wpAny_bind (wpAny_attempt (wpAny_callSpecial?_slot (name:=Str.ofString "__next__") hT F.slot_zip_next (wpAny_call_entry F.slot_zip_next hT F.entry_zip_next
   (zipK_item D off1 off2 hz hti hto h1 h2 p1 p2 (x:=u) (y:=v) (by simpa using hu) (by simpa using hv) fun g z1 t1 n1 n2 pp kp=>wpAny_pure ⟨_,rfl,?_⟩) (F.args_zip_next_1 _))))
  refine wpAny_letOwnedTupleGo_zip z1 fun g' z2 sb=>?_
  have zlt:z≠s.heap.objs.size:=Nat.ne_of_lt (Heap.lt_size hz)
  have kp2:∀ b o,b∉[z,ti,to,i1,i2]->s.heap.get? b=some o->g'.get? b=some o:=fun b o nb e=>by
   simp only[List.mem_cons,List.not_mem_nil,or_false,not_or]at nb
   exact sb.extBut _ _ nb.1 (kp b o nb.1 nb.2.2.1 nb.2.2.2.1 nb.2.2.2.2 e)
  have I2:Inv X pins σ (upd H s.heap.objs.size (.tup [x,y])) { s with heap:=g' }:=I.turnedN (t':=s.toks) (ch:=[z,ti,to,i1,i2]) (a:=s.heap.objs.size) (ob:=.tup [x,y]) hf kp2 (Nat.le_refl _) (show ObjOk X.prog X.w _ g' _ (.tup [x,y])from⟨by show 2<=sizeLine;decide,[u,v],.cons ru (.cons rv .nil),⟨_,sb.extBut _ _ (Ne.symm zlt) pp,rfl,0,rfl⟩⟩)
  refine⟨.ref s.heap.objs.size,_,I2,rfl,⟨_,x,y,rfl,hn,rfl,fun xs' h=>by rw[I.seqB_inj h q1];exact hx,fun ys' h=>by rw[I.seqB_inj h q2];exact hy⟩,⟨z2,sb.extBut _ _ D.a1 (kp _ _ D.a1 D.a5 D.a6 D.a7 hti),⟨_,_,sb.extBut _ _ D.a2 t1⟩,n1.to fun o e=>sb.extBut _ _ D.a3 e,n2.to fun o e=>sb.extBut _ _ D.a4 e⟩,fun b hb=>?_⟩
  have bo:∃ o,s.heap.get? b=some o:=by
   simp only[List.mem_cons,List.not_mem_nil,or_false]at hb
   rcases hb with e | e | e | e | e
   ·rw[e];exact⟨_,hz⟩
   ·rw[e];exact⟨_,hti⟩
   ·rw[e];exact⟨_,hto⟩
   ·rw[e];obtain⟨o,e,_⟩:=h1.lt;exact⟨o,e⟩
   ·rw[e];obtain⟨o,e,_⟩:=h2.lt;exact⟨o,e⟩
  obtain⟨o,e⟩:=bo
  rw[upd_ne (Nat.ne_of_lt (Heap.lt_size e))]
  exact(hf b hb).1
 done:=by
  intro X hP hw hK hc i pins s σ H E I hf st hg
  subst hP hw hK
  obtain⟨hz,hti,⟨a,c,hto⟩,h1,h2⟩:=st
  obtain⟨xs,ys,q1,q2,he⟩:=hg
  obtain⟨us,r1,p1,_⟩:=I.seqB q1
  obtain⟨ws,r2,p2,_⟩:=I.seqB q2
  have e1:=r1.length
  have e2:=r2.length
  have off1:Off z to i1 i2 l1:=⟨I.offB q1 (hf z (by simp)),I.offB q1 (hf to (by simp)),I.offB q1 (hf i1 (by simp)),I.offB q1 (hf i2 (by simp))⟩
  have off2:Off z to i1 i2 l2:=⟨I.offB q2 (hf z (by simp)),I.offB q2 (hf to (by simp)),I.offB q2 (hf i1 (by simp)),I.offB q2 (hf i2 (by simp))⟩
  have hT:s.TypeIs (.ref z) "zip":=⟨_,hz,rfl⟩
  unfold pyNext
  refine wpAny_bind (wpAny_attempt (wpAny_callSpecial?_slot (name:=Str.ofString "__next__") hT F.slot_zip_next (wpAny_call_entry F.slot_zip_next hT F.entry_zip_next (zipK_end (I.ok.hd hc) D off1 off2 hz hti hto h1 h2 p1 p2 ?_ fun g e kp he=>?_) (F.args_zip_next_1 _))))
  ·rcases he with h | h
   ·exact .inl (by simp;lia)
   ·exact .inr (by simp;lia)
  ·obtain⟨o,ho,hcl⟩:=he
   refine wpAny_bind (wpAny_isInstance (T:="StopIteration") (b:=true) ⟨o,ho,hcl⟩ isSubtype_stop (wpAny_pure ⟨rfl,?_⟩))
   refine I.turnedL (t':=s.toks) (ch:=[z,ti,to,i1,i2]) hf fun b o nb e=>?_
   simp only[List.mem_cons,List.not_mem_nil,or_false,not_or]at nb
   exact kp b o nb.1 nb.2.2.1 nb.2.2.2.1 nb.2.2.2.2 e
 self:=fun _ _ _ _ _ st h=>wpAny_pyIter_zip st.1 h
theorem za_new(n:Addr):ZA (n+4) (n+2) (n+3) n (n+1)where
 a1:=Nat.ne_of_lt (Nat.add_lt_add_left (by decide) n)
 a2:=Nat.ne_of_lt (Nat.add_lt_add_left (by decide) n)
 a3:=Nat.ne_of_lt (Nat.lt_add_of_pos_right (by decide))
 a4:=Nat.ne_of_lt (Nat.add_lt_add_left (by decide) n)
 a5:=Nat.ne_of_lt (Nat.add_lt_add_left (by decide) n)
 a6:=Nat.ne_of_gt (Nat.lt_add_of_pos_right (by decide))
 a7:=Nat.ne_of_gt (Nat.add_lt_add_left (by decide) n)
 a8:=Nat.ne_of_gt (Nat.lt_add_of_pos_right (by decide))
 a9:=Nat.ne_of_gt (Nat.add_lt_add_left (by decide) n)
 a10:=Nat.ne_of_lt (Nat.lt_add_of_pos_right (by decide))
noncomputable def iZip(b1 b2:Bool)(K:PySem.W.Frag)(ta:TA):TI:=fun σ H R=>ta σ H fun vs H1=>∃ l1 l2,vs=[.ref l1,.ref l2]/\(∃ xs,SqB b1 K H1 l1 xs)/\(∃ ys,SqB b2 K H1 l2 ys)/\R (Itz K b1 b2 l1 l2) H1
theorem pi_zip{X:Cx}{es:List Expr}{kk:Nat}{tpos:Pos}(b1 b2:Bool){a b:Expr}{ta:TA}{p pos:Pos}(hg:Gl X "zip")(hm:X.mg "zip" = none)(ha:PA X [a,b] ta)(hs:starEach [a,b] X.env=[(false,eval a X.env),(false,eval b X.env)]:=by rfl)(hs2:starEach [b] X.env=[(false,eval b X.env)]:=by rfl) :
  PI X (.Tuple es kk tpos) (.Call (.Name "zip" p) [a,b] [] pos) (iZip b1 b2 X.K ta):=by
 intro pins s σ H R I h
 refine Call_ (ld_blt I hg hm boot_zip (PyProof.Rows.callWith_type1 (thn (ha pos pins s σ H _ I h) fun us s1 ⟨vs,H1,I1,r1,q1⟩=>?_) (by rw[hs,hs2]) (by rw[hs2];rfl)))
 obtain⟨l1,l2,e,⟨xs,q1⟩,⟨ys,q2⟩,q⟩:=q1
 subst e
 obtain⟨u,u',rfl,rx,ry⟩:=vals2 r1
 cases rx
 cases ry
 obtain⟨us,_,p1,_⟩:=I1.seqB q1
 obtain⟨ws,_,p2,_⟩:=I1.seqB q2
 have z1:(s1.heap.push (itO b1 l1)).objs.size=s1.heap.objs.size+1:=Heap.size_push ..
 have z2:(zK2 s1.heap b1 b2 l1 l2).objs.size=s1.heap.objs.size+2:=by rw[Heap.size_push,z1]
 have z3:(zK3 s1.heap b1 b2 l1 l2).objs.size=s1.heap.objs.size+3:=by rw[Heap.size_push,z2]
 have z4:(zK4 s1.heap b1 b2 l1 l2).objs.size=s1.heap.objs.size+4:=by rw[Heap.size_push,z3]
 have g5:(zK5 s1.heap b1 b2 l1 l2).get? (zK4 s1.heap b1 b2 l1 l2).objs.size=some _:=Heap.get?_push_size _ rfl
 have g4:(zK5 s1.heap b1 b2 l1 l2).get? (zK3 s1.heap b1 b2 l1 l2).objs.size=some _:=Heap.get?_push_of_some _ (Heap.get?_push_size _ rfl)
 have g3:(zK5 s1.heap b1 b2 l1 l2).get? (zK2 s1.heap b1 b2 l1 l2).objs.size=some _:=Heap.get?_push_of_some _ (Heap.get?_push_of_some _ (Heap.get?_push_size _ rfl))
 have g2:ItK b2 (zK5 s1.heap b1 b2 l1 l2) (s1.heap.push (itO b1 l1)).objs.size l2 0:=(ItK.new (b:=b2) (l:=l2) (s1.heap.push (itO b1 l1))).to fun o e=>Heap.get?_push_of_some _ (Heap.get?_push_of_some _ (Heap.get?_push_of_some _ e))
 have g1:ItK b1 (zK5 s1.heap b1 b2 l1 l2) s1.heap.objs.size l1 0:=(ItK.new (b:=b1) (l:=l1) s1.heap).to fun o e=>Heap.get?_push_of_some _ (Heap.get?_push_of_some _ (Heap.get?_push_of_some _ (Heap.get?_push_of_some _ e)))
 rw[z2,z3,z4]at g5
 rw[z1,z2]at g3
 rw[z3]at g4
 rw[z1]at g2
 refine callType_new F.called_zip (by decide) (F.typeCall_zip_2 _ _) (F.newCall_zip_2 _ _) (fun obj=>F.args_object_init_3 obj _ _) F.entry_zip_new (zipK_new b1 b2 l1 l2 us.toArray ws.toArray) ⟨p1,p2,?_⟩
 show _/\_
 rw[z4]
 have kp:∀ c o,s1.heap.get? c=some o->(zK5 s1.heap b1 b2 l1 l2).get? c=some o:=fun c o x=>Heap.get?_push_of_some _ (Heap.get?_push_of_some _ (Heap.get?_push_of_some _ (Heap.get?_push_of_some _ (Heap.get?_push_of_some _ x))))
 refine⟨⟨_,g5,rfl⟩,wpAny_pyIter_zip g5 ⟨s1.heap.objs.size+4,_,_,_,H1,rfl,I1.kept (t':=s1.toks) kp,turn_zip b1 b2 _ (s1.heap.objs.size+2) (s1.heap.objs.size+3) s1.heap.objs.size (s1.heap.objs.size+1) l1 l2 (za_new _),⟨g5,g3,⟨_,_,g4⟩,g1,g2⟩,fun b hb=>?_,q⟩⟩
 have le:s1.heap.objs.size<=b:=by
  simp only[List.mem_cons,List.not_mem_nil,or_false]at hb
  rcases hb with e | e | e | e | e
  ·rw[e];exact Nat.le_add_right _ 4
  ·rw[e];exact Nat.le_add_right _ 2
  ·rw[e];exact Nat.le_add_right _ 3
  ·rw[e];exact Nat.le_refl _
  ·rw[e];exact Nat.le_add_right _ 1
 exact I1.fpOk le (I1.hok.fresh le)
open PySem PySem.W PyProof.Rows Srt
section
variable{X:Cx}{pins:List (Addr×Obj)}{σ:St}{H:Hp}{s:Shared}{a:Addr}{y v:V}{u r:Value}{A:Around}{E:Value->Shared->Prop}
theorem d_set{H':Hp}{Q:Unit->Shared->Prop}(hu:A.units<cLine)(I:Inv X pins σ H s)(g:DPut H a y v H')(ry:RelV y u)(rv:RelV v r)(h:∀ s',Inv X pins σ H' s'->Q () s'):wpAny (model X.prog X.w) A (dictSet a u r) Q E s:=by
 rcases g with⟨kvs,k,e,ey,l,eH⟩ |⟨kvs,k,b,e,ey,eb,l,eH⟩
 ·subst ey eH
  obtain⟨z,hd,vs,rel,dd⟩:=dk_of I.hok e
  have hz:vs.length<=sizeLine:=by rw[<- rel.length];exact z
  have hl:(putK kvs k v).length<=sizeLine:=by have:=length_putK kvs k v;lia
  refine wpAny_dictSet_pairs (hsz:=hz) (kV_is ry) dd fun h' dd' hs=>h _ ?_
  have he:∃ q,h'.get? a=some q:=let ⟨q,_,_,hq,_⟩:=dd';⟨q,hq⟩
  exact d_write I (by rw[e];exact True.intro) hs he (dk_new hl hd (rel.put k rv) dd')
 ·subst ey eH
  cases(show u=Value.ref b from ry)
  obtain⟨z,hd,xs,rel,dd⟩:=dt_of I.hok e
  have hz:xs.length<=sizeLine:=by rw[<- Paired.length rel];exact z
  have hl:(putK kvs k v).length<=sizeLine:=by have:=length_putK kvs k v;lia
  refine wpAny_dictSet_heap (hsz:=hz) (knd:=tupleKind (mixKind X.prog X.w)) hu (key_of I.hok eb) dd fun h' dd' hs=>h _ ?_
  obtain⟨q,es,ep,hq,h2,h3,h4,_,h5⟩:=dd'
  refine d_write I (by rw[e];exact True.intro) hs ⟨q,hq⟩ ⟨hl,hd,_,(rel.put k eb rv).keeps fun c ys ec=>?_,q,es,ep,hq,h2,h3,h4,h5⟩
  rw[upd_ne (ne_of ec e (fun z=>nomatch z))]
  exact ec
theorem Inv.track{D:Addr}{ob:HO}(I:Inv X pins σ H s)(f:FpOk X pins H D)(new:ObjOk X.prog X.w (upd H D ob) s.heap D ob):Inv X pins σ (upd H D ob) s:=by
 have hn:H D=none:=f.1
 have:=I.step (h':=s.heap) (H':=upd H D ob) (g':=s.gens) (t':=s.toks) (d':=s.drawn) (ch:=[D]) (fun b hb=>?_) (fun b o _ _ _ e _=>e) (fun b o _ _ _ e _=>⟨o.slots,e⟩) (fun b o nb _ n=>by
  rw[upd_ne (fun z=>nb (by simp[z]))];exact n) (fun b o _ e=>⟨o,e⟩) (fun b xs e=>by rw[upd_ne (ne_of_none e hn)];exact e) (fun b o u e=>by rw[upd_ne (ne_of_none e hn)];exact e) (fun b ps e=>⟨#[],by rw[upd_ne (ne_of_none e hn),e];simp⟩) (fun m hm=>hm) (fun b u e=>?_) I.bare
 ·exact this
 ·have e:b=D:=by simpa using hb
  subst e
  obtain⟨_,f1,_,f3,f4,f5⟩:=f
  exact⟨f3,f1,f4,f5⟩
 ·by_cases hb:b=D
  ·subst hb;rw[upd_same]at e;cases e;exact new
  ·rw[upd_ne hb]at e
   exact(I.hok b u e).stay (fun c v _ q=>q) (fun c q=>by rw[upd_ne (ne_of_none q hn)];exact q) fun c xs q=>by rw[upd_ne (ne_of_none q hn)];exact q
end
section
variable{prog:Program}{w:World}{A:Around}{R:Result->Shared->Prop}{s:Shared}
theorem dcompLoop{kx vx target iter:Expr}{ifs:List Expr}{scope:Scope}{pos:Pos}{it:Value}{D:Addr}{env:Env}(I:Nat->Shared->Prop)
  (turn:∀ n s,I n s->wpAny (model prog w) A (pyNext it) (fun r s₁=>match r with
   |none=>R (.ok .next) s₁
   |some v=>wpAny (model prog w) A (letOwnedTupleGo target it v) (fun _ s₁'=>wpAny (model prog w) A (assign target env v) (fun _ s₂ =>
     wpAny (model prog w) A (forIn ifs true fun c r=>if r=true then do let ok <- isTrue c env (eval c env);pure (ForInStep.yield ok)else pure (ForInStep.yield r)) (fun ok s₃ =>
      if ok=true then wpAny (model prog w) A (eval kx env) (fun kv s₄=>wpAny (model prog w) A (eval vx env) (fun vv s₅=>wpAny (model prog w) A (dictSet D kv vv) (fun _ s₆=>∃ m,m<n/\I m s₆) (fun _ _=>False) s₅) (fun _ _=>False) s₄) (fun _ _=>False) s₃
      else ∃ m,m<n/\I m s₃) (fun _ _=>False) s₂) (fun _ _=>False) s₁') (fun _ _=>False) s₁) (fun _ _=>False) s)
  (n:Nat) (h:I n s):codeAny (model prog w) A (.compLoop (.DictComp kx vx [⟨target,iter,ifs,0⟩] scope pos) 0 it (.ref D) env) R s:=by
 refine codeAny_loop rfl I (fun n s hI=>?_) n h
 show wpAny _ A ((compTurn (.DictComp kx vx [⟨target,iter,ifs,0⟩] scope pos) 0 it (.ref D) env).onRaise (fun x=>do noteFrame x env;theTreesLotGoes x)) _ _ s
 refine wpAny_noted ?_
 rw[compTurn_dict];refine wpAny_bind (wpAny_standAt (wpAny_bind (wpAny_mono (turn n s hI) (fun r s₁ h₁=>?_) fun _ _ h'=>h'.elim)))
 cases r with
 |none=>exact wpAny_pure h₁
 |some v =>
  refine wpAny_bind (wpAny_mono h₁ (fun _ s₁' h₁'=>?_) fun _ _ h'=>h'.elim);refine wpAny_bind (wpAny_mono h₁' (fun _ s₂ h₂=>wpAny_bind (wpAny_mono h₂ (fun ok s₃ h₃=>?_) fun _ _ h'=>h'.elim)) fun _ _ h'=>h'.elim)
  cases ok with
  |false=>exact wpAny_pure ⟨rfl,h₃⟩
  |true =>
   exact wpAny_bind (wpAny_bind (wpAny_mono h₃ (fun kv s₄ h₄=>wpAny_bind (wpAny_holding (wpAny_mono h₄ (fun vv s₅ h₅=>wpAny_bind (wpAny_standAt (wpAny_holding (wpAny_mono h₅ (fun _ s₆ h₆=>wpAny_pure ⟨rfl,h₆⟩) fun _ _ h'=>h'.elim)))) fun _ _ h'=>h'.elim))) fun _ _ h'=>h'.elim))
end
noncomputable def dcompTurns(J:It)(cap:List (Option Nat))(σ:St)(H1:Hp)(D:Addr)(Q:VK)(g:TG)(tc:TT)(tk tv:TE):Prop:=∃ (n:Nat) (P:Nat->Hp->Prop),P 0 H1 /\
 ∀ i H,i<=n->P i H->(J.stop i H/\Q (.ref D) H) \/
  (i<n/\J.go i H/\∀ x H',J.yld i H x H'->g x (capt cap σ) H' fun σ2 H2=>Kp (capt cap σ) σ2/\tc σ2 H2 fun b H3=>if b=true then tk σ2 H3 fun k H4=>tv σ2 H4 fun y H5=>∃ H6,DPut H5 D k y H6/\P (i+1) H6 else P (i+1) H3)
noncomputable def dEmp:Bool->HO
 |true=>.dT []
 |false=>.dK []
noncomputable def tDComp(t:Bool)(cap:List (Option Nat))(wi:TI)(g:TG)(tc:TT)(tk tv:TE):TE:=fun σ H Q=>wi σ H fun J H1=>∀ D,H1 D=none->dcompTurns J cap σ (upd H1 D (dEmp t)) D Q g tc tk tv
section
variable{X:Cx}{kx vx tg iter:Expr}{ifs:List Expr}{scope:Scope}{pos:Pos}{N':List Str}{cap:List (Option Nat)}{wi:TI}{g:TG}{tc:TT}{tk tv:TE}
theorem dcomp_run(t:Bool)(hu:X.A.units<cLine)(hc:X.calm=true)(S:CompScope N' cap X.N X.env.scope scope)(hi:PI X tg iter wi)(hg:∀ C s H fp,PG (cxIn X N' scope C s H fp) tg g)
  (ht:∀ C s H fp,PF (cxIn X N' scope C s H fp) ifs tc) (hk:∀ C s H fp,PE (cxIn X N' scope C s H fp) kx tk) (he:∀ C s H fp,PE (cxIn X N' scope C s H fp) vx tv)
  {pins:List (Addr×Obj)}{s:Shared}{σ:St}{H:Hp}{Q:VK} (I:Inv X pins σ H s) (h:tDComp t cap wi g tc tk tv σ H Q) :
  wpAny (model X.prog X.w) X.A (eval iter X.env) (fun x s₁=>wpAny (model X.prog X.w) X.A (pyIter x) (fun it s₂=>wpAny (model X.prog X.w) X.A newDict (fun acc s₃ =>
   wpAny (model X.prog X.w) X.A (newFunctionEnv scope X.env.globals (closCl X.env.cells scope.names []) [] X.env.qual none .none (some X.env)) (fun cenv s₄ =>
    codeAny (model X.prog X.w) X.A (.compStart (.DictComp kx vx [⟨tg,iter,ifs,0⟩] scope pos) 0 it acc { cenv with scope:=relabel scope X.env }) (CompEnd X pins σ Q acc cenv.locals) s₄) X.xe s₃) X.xe s₂) X.xe s₁) X.xe s:=by
 refine thn (hi pins s σ H _ I h) fun v s1 h1=>thn h1 fun itv s2 h2=>?_
 obtain⟨it,fp,tn,J,H2,e,I2,T,st2,f2,turns⟩:=h2
 subst e
 obtain⟨n,P,p0,turn⟩:=turns s2.heap.objs.size (I2.hok.fresh (Nat.le_refl _))
 refine wpAny_newObj_type (wpAny_newFunctionEnv S.nocell (by intro y hy;simp at hy) (fun h₁ hns₁ hsb₁=>?_) S.kind)
 dsimp only at hns₁ hsb₁ ⊢
 generalize hHp:s2.heap.push { cls:=.type "dict",dict:=none,data:=.dict #[] } = Hq at hns₁ hsb₁ ⊢
 have hC:Hq.objs.size=s2.heap.objs.size+1:=by rw[<- hHp,Heap.size_push]
 have hDC:s2.heap.objs.size≠Hq.objs.size:=by rw[hC];exact Nat.ne_of_lt (Nat.lt_succ_self _)
 have hCle:s2.heap.objs.size<=Hq.objs.size:=by rw[hC];exact Nat.le_succ _
 have old:∀ b o,s2.heap.get? b=some o->h₁.get? b=some o:=fun b o e =>
  hsb₁.extBut b o (by rw[hC];exact Nat.ne_of_lt (Nat.lt_succ_of_lt (Heap.lt_size e))) (Heap.get?_push_of_some _ (hHp▸Heap.get?_push_of_some _ e))
 have hacc:h₁.get? s2.heap.objs.size=some { cls:=.type "dict",dict:=none,data:=.dict #[] }:=hsb₁.extBut _ _ hDC (Heap.get?_push_of_some _ (hHp▸Heap.get?_push_size _ rfl))
 have hfo:∀ b∈fp,∃ o,s2.heap.get? b=some o:=fun b hb=>let ⟨o,e,_⟩:=T.obj _ _ st2 b hb;⟨o,e⟩
 have st4:tn 0 h₁:=T.keep _ _ _ st2 fun b _ o e=>old b o e
 let D:Addr:=s2.heap.objs.size
 let C:Addr:=Hq.objs.size
 let Y:Cx:=cxIn X N' scope C s2 H2 fp
 have hDfp:D∉fp:=fun hb=>by
  obtain⟨o,e⟩:=hfo D hb
  exact Nat.lt_irrefl _ (Heap.lt_size e)
 have stat:∀ {H':Hp},(∀ b∈fp,H' b=none)->∀ b∈fp,FpOk Y pins H' b:=fun {H'} hn b hb=>by
  obtain⟨f0,f1,fx,f3,f4,f5⟩:=f2 b hb
  obtain⟨o,e⟩:=hfo b hb
  refine⟨hn b hb,fun z=>?_,fun z=>?_,.inl hb,fun x c e=>f4 x c (closCl_sound _ _ (S.clos I2) (fun y c e=>by simp at e) x c e),f5⟩
  ·have h1:=Nat.lt_of_lt_of_le (Heap.lt_size e) hCle
   have z:b=Hq.objs.size:=z
   rw[z]at h1
   exact Nat.lt_irrefl _ h1
  ·rcases List.mem_cons.mp (I2.stkSub b z)with e | e
   ·exact f1 e
   ·exact fx e
 have loop:∀ s₃:Shared,s₃ = { s2 with heap:=h₁,toks:=s2.toks+([]:List (Str×Value)).length } ->
   codeAny (model X.prog X.w) X.A (.compLoop (.DictComp kx vx [⟨tg,iter,ifs,0⟩] scope pos) 0 (.ref it) (.ref s2.heap.objs.size) (compEnvC scope (closCl X.env.cells scope.names []) Hq.objs.size X.env))
    (CompEnd X pins σ Q (.ref s2.heap.objs.size) Hq.objs.size) s₃:=by
  rintro s₃ rfl
  have inF:∀ {pl:List (Addr×Obj)}{p:Addr×Obj},p∈pl->p∈Y.pn++(pins++pl):=fun {pl p} hp=>List.mem_append_right _ (List.mem_append_right _ hp)
  refine dcompLoop (fun m s'=>∃ i H',m=n-i/\i<=n/\Inv Y pins (capt cap σ) H' s'/\tn i s'.heap/\(∀ b∈fp,H' b=none)/\P i H') ?_ n ?_
  ·rintro m s3 ⟨i,H3,rfl,hin,I3,st3,fr3,p3⟩
   rcases turn i H3 hin p3 with⟨stop,q⟩ |⟨hlt,go,step⟩
   ·refine thn (T.done Y rfl rfl rfl hc i _ s3 _ H3 (fun _ _=>False) I3 (stat fr3) st3 stop) fun r s4 ⟨hr,I4⟩=>?_
    subst hr
    have IX:Inv X pins σ H3 s4:=I2.call' (ch:=fp) I4.os I4.base I4.hok I4.bare fun b hb=>by
     obtain⟨f0,f1,fx,f3,f4,f5⟩:=f2 b hb
     exact⟨f3,f1,f4,f5⟩
    obtain⟨m',hm',_⟩:=I4.loc
    exact⟨.ref D,_,IX,rfl,q,⟨m',hm'⟩,I2.fpOk hCle I4.free⟩
   ·refine thn (T.item Y rfl rfl rfl hc i _ s3 _ H3 (fun _ _=>False) I3 (stat fr3) st3 go) fun r s4 ⟨u,hr,h4⟩=>?_
    subst hr
    refine thn h4 fun _ s5 ⟨x,H5,I5,r5,y5,st5,fr5⟩=>?_
    have I5':=I5.pinned (stat fr5) (T.obj _ _ st5)
    refine thn (hg C s2 H2 fp _ s5 _ H5 x u _ I5' r5 (step x H5 y5)) fun _ s6 ⟨σ6,H6,I6,kp,q6⟩=>?_
    refine thn (ht C s2 H2 fp _ s6 σ6 H6 _ I6 q6) fun b s7 ⟨H7,I7,q7⟩=>?_
    cases b with
    |false =>
     rw[if_neg Bool.false_ne_true]at q7 ⊢
     refine⟨n-(i+1),Nat.sub_succ_lt_self n i hlt,i+1,H7,rfl,hlt,I7.unpinned.weak kp.length kp.get,?_,fun b hb=>?_,q7⟩
     ·exact T.keep _ _ _ st5 fun b hb o e=>(I7.pin (b,o) (inF (mem_pinsAt hb e))).1
     ·obtain⟨o,e,d⟩:=T.obj _ _ st5 b hb
      exact(I7.pin (b,o) (inF (mem_pinsAt hb e))).2.1
    |true =>
     rw[if_pos rfl]at q7 ⊢
     refine thn (hk C s2 H2 fp _ s7 σ6 H7 _ I7 q7) fun kv s8 ⟨k,H8,I8,r8,q8⟩=>thn (he C s2 H2 fp _ s8 σ6 H8 _ I8 q8) fun yv s9 ⟨y,H9,I9,r9,H10,dp,q9⟩=>?_
     refine d_set (X:=Y) hu I9 dp r8 r9 fun s10 I10=>?_
     refine⟨n-(i+1),Nat.sub_succ_lt_self n i hlt,i+1,H10,rfl,hlt,I10.unpinned.weak kp.length kp.get,?_,fun b hb=>?_,q9⟩
     ·exact T.keep _ _ _ st5 fun b hb o e=>(I10.pin (b,o) (inF (mem_pinsAt hb e))).1
     ·obtain⟨o,e,d⟩:=T.obj _ _ st5 b hb
      exact(I10.pin (b,o) (inF (mem_pinsAt hb e))).2.1
  ·have I4:=cxIn_inv (s4:={ s2 with heap:=h₁,toks:=s2.toks+([]:List (Str×Value)).length }) S I2 hCle f2 hfo rfl rfl old hns₁ hacc (Nat.le_refl _) hDC fun v z=>by cases z
   obtain⟨_,pD1,pD2,pD3,_⟩:=I4.pin (D,{ cls:=.type "dict",dict:=none,data:=.dict #[] }) (List.mem_append_right _ (List.mem_append_right _ (List.mem_singleton.mpr rfl)))
   have I5:Inv Y pins (capt cap σ) H2 { s2 with heap:=h₁,toks:=s2.toks+([]:List (Str×Value)).length }:=I4.pins_of fun p hp=>I4.pin p (List.mem_append_right _ (List.mem_append_left _ hp))
   have fD:FpOk Y pins H2 D:=⟨pD1,pD2,pD3,.inr (Nat.le_refl _),fun x c e z=>by
    obtain⟨v,q⟩:=I2.cell x c (closCl_sound _ _ (S.clos I2) (fun y c e=>by simp at e) x c e)
    have h1:=q.lt
    rw[show c=s2.heap.objs.size from z]at h1
    exact Nat.lt_irrefl _ h1,fun p hp z=>by
    have h1:=Heap.lt_size (I2.pin p hp).1
    rw[show p.1=s2.heap.objs.size from z]at h1
    exact Nat.lt_irrefl _ h1⟩
   have nsys:(D == sysModules)=false:=by
    have:=I2.big
    exact Bool.eq_false_iff.mpr fun z=>by
     have e:D=sysModules:=by simpa using z
     have h1:sysModules<D:=this
     rw[<- e]at h1
     exact Nat.lt_irrefl _ h1
   have new:ObjOk X.prog X.w (upd H2 D (dEmp t)) h₁ D (dEmp t):=by
    cases t
    ·exact⟨Nat.zero_le _,nsys,[],.nil,_,#[],0,hacc,⟨rfl,rfl,rfl⟩,rfl,fun e he=>by simp at he,.nil,List.nodup_nil⟩
    ·exact⟨Nat.zero_le _,nsys,[],.nil,_,#[],0,hacc,⟨rfl,rfl,rfl⟩,rfl,rfl,List.nodup_nil⟩
   refine⟨0,upd H2 D (dEmp t),rfl,Nat.zero_le _,I5.track fD new,st4,fun b hb=>?_,p0⟩
   rw[upd_ne (fun z=>hDfp (by rw[<- z];exact hb))]
   exact(f2 b hb).1
 exact codeAny_compStart_dict (loop _ rfl) (T.self X.A 0 _ _ _ st4 (loop _ rfl))
theorem pe_dcomp(t:Bool)(hu:X.A.units<cLine)(hc:X.calm=true)(S:CompScope N' cap X.N X.env.scope scope)(hi:PI X tg iter wi)(hg:∀ C s H fp,PG (cxIn X N' scope C s H fp) tg g)
  (ht:∀ C s H fp,PF (cxIn X N' scope C s H fp) ifs tc) (hk:∀ C s H fp,PE (cxIn X N' scope C s H fp) kx tk) (he:∀ C s H fp,PE (cxIn X N' scope C s H fp) vx tv)
  (hs:∀ x,foldedSetIterable iter X.env x=pure x:=by intro _;rfl):PE X (.DictComp kx vx [⟨tg,iter,ifs,0⟩] scope pos) (tDComp t cap wi g tc tk tv):=by
 intro pins s σ H Q I h
 rw[arm_eval_DictComp]
 refine wpAny_comprehension_free (use:=none) rfl hs (closureFor_cells (S.clos I)) S.kind S.loc (thn (dcomp_run (pos:=pos) t hu hc S hi hg ht hk he I h) fun x s1 h1=>thn h1 fun it s2 h2=>thn h2 fun acc s3 h3=>thn h3 fun cenv s4 h4=>?_)
 refine codeAny_mono h4 fun r s' hr=>?_
 cases r with
 |error x=>exact hr.elim
 |ok f =>
  obtain⟨v,H',I',rv,q,⟨m,hn⟩,f0,f1,f2,f3,f4,f5⟩:=hr
  refine⟨m,hn,fun h' sb=>⟨v,H',I'.turned (it:=cenv.locals) (t':=s'.toks) (fun b o hb e=>(sb.2 b hb).trans e) f0 f1 f3 f4 f5,rv,q⟩⟩
end
open PySem PySem.W PyProof.Rows Srt
section
variable{X:Cx}
theorem bools_at:∀ {bs:List Bool}{us:List Value},Vals (bs.map V.bl) us->∀ (i:Nat) (v:Value),us[i]?=some v->∃ b,bs[i]?=some b/\v = .bool b
 |[],_,.nil,i,v,h=>by simp at h
 |b :: bs,_,.cons r t,0,v,h=>by
  simp at h
  subst h
  exact⟨b,rfl,r⟩
 |b :: bs,_,.cons r t,i+1,v,h=>by
  obtain⟨c,e,q⟩:=bools_at t i v (by simpa using h)
  exact⟨c,by simpa using e,q⟩
theorem call_all(hc:X.calm=true):CallR X (.builtin "all") (fun xs H Q=>∃ (l:Addr) (bs:List Bool),xs=[V.ref l]/\SqL X.K H l (bs.map V.bl)/\Q (.bl (bs.all id)) H):=by
 intro pins s σ H xs us Q I r h
 obtain⟨l,bs,rfl,hq,q⟩:=h
 obtain⟨u,rfl,rx⟩:=vals1 r
 cases rx
 obtain⟨its,r',pl,hz⟩:=I.list hq
 have len:its.length=bs.length:=by rw[<- r'.length,List.length_map]
 have hl:=pl.isList
 have hlt:l<s.heap.objs.size:=by obtain⟨_,e,_⟩:=hl;exact Heap.lt_size e
 refine call_all_walk (wpAny_pyIter_list hl ⟨s.heap.objs.size,[s.heap.objs.size,l],[s.heap.objs.size],its.toArray.size,_,_,fun i=>(bs[i]?).getD true,rfl,Walks.list (A:=X.A.in1) (show X.A.handled=none from I.ok.hd hc) _ l (Nat.ne_of_lt hlt) its.toArray,⟨⟨_,Heap.get?_push_size _ rfl,rfl,rfl⟩,hl.push _⟩,fun i v s' Q' E' hP hQ=>?_,fun h' tk hk=>?_⟩)
 ·obtain⟨b,e,rfl⟩:=bools_at r' i v (by simpa using hP)
  simp only[e,Option.getD_some]at hQ
  exact wpAny_truthy_bool hQ
 ·have e:((List.range its.toArray.size).all fun i=>(bs[i]?).getD true)=bs.all id:=by rw[List.size_toArray,len];exact LSm.range_all bs
  rw[e]
  exact⟨.bl _,H,I.kept (t':=tk) (LSm.kept_iter hk),rfl,q⟩
variable{a b c d:Expr}{ta tb tc td:TE}{pos:Pos}
theorem op_isnotB:OpR X (compareOp .IsNot) (fun x y H Q=>∃ p q:Bool,x = .bl p/\y = .bl q/\Q (.bl (!decide (p=q))) H):=by
 intro pins s σ H x y v u Q I rx ry h
 obtain⟨p,q',rfl,rfl,q⟩:=h
 cases rx
 cases ry
 refine wpAny_isNot_plain rfl (fin_bl I q ?_)
 cases p <;> cases q' <;> rfl
theorem eqT{A:Around}{s:Shared}{p q:Addr}{ks ns:List Int}(hu:A.units<cLine)(x:TupI s.heap (.ref p) ks)(y:TupI s.heap (.ref q) ns):SeqAt.EqAt A s (.ref p) (.ref q) (decide (ks=ns)):=by
 by_cases e:p=q
 ·subst e
  rw[x.inj y,decide_eq_true rfl]
  exact SeqAt.EqAt.same _
 ·obtain⟨a,o,its,n,e1,g1,c1,d1,p1⟩:=x
  obtain⟨a',o',its',n',e2,g2,c2,d2,p2⟩:=y
  cases e1
  cases e2
  have l1:ks.length=its.size:=by rw[p1.length];simp
  have l2:ns.length=its'.size:=by rw[p2.length];simp
  have at1:∀ {ks:List Int}{us:List Value} (_:IntsV ks us) (j:Nat) (h:j<us.length) (h2:j<ks.length),∃ t,us[j]=Value.int ks[j] t:=by
   intro ks us hp
   induction hp with
   |nil=>intro j h;simp at h
   |cons r _ ih =>
    intro j h h2
    cases j with
    |zero=>exact r
    |succ j=>exact ih j (by simpa using h) (by simpa using h2)
  refine SeqAt.EqAt.of_refs e ?_
  have key:=SeqAt.RcAt.tuples (A:=A) (s:=s) (e:=fun j=>decide (ks[j]?=ns[j]?)) (show s.heap.IsTuple p its from⟨o,g1,c1,n,d1⟩) (show s.heap.IsTuple q its' from⟨o',g2,c2,n',d2⟩) hu fun j h1 h2=>by
   obtain⟨t,q1⟩:=at1 p1 j (by simpa using h1) (by lia)
   obtain⟨t',q2⟩:=at1 p2 j (by simpa using h2) (by lia)
   have q1':its[j]=Value.int (ks[j]'(by lia)) t:=by rw[<- q1];simp
   have q2':its'[j]=Value.int (ns[j]'(by lia)) t':=by rw[<- q2];simp
   rw[q1',q2']
   have e:decide (ks[j]?=ns[j]?)=(ks[j]'(by lia) == ns[j]'(by lia)):=by
    rw[List.getElem?_eq_getElem (by lia),List.getElem?_eq_getElem (by lia),Bool.beq_eq_decide_eq]
    simp
   rw[e]
   exact SeqAt.EqAt.int_int _ _ _ _
  have fin:((List.range (min its.size its'.size)).all (fun j=>decide (ks[j]?=ns[j]?)) && its.size == its'.size)=decide (ks=ns):=by
   rw[Bool.eq_iff_iff,Bool.and_eq_true,List.all_eq_true,decide_eq_true_eq,beq_iff_eq]
   constructor
   ·rintro⟨h1,h2⟩
    apply List.ext_getElem?
    intro i
    by_cases hi:i<ks.length
    ·exact of_decide_eq_true (h1 i (List.mem_range.mpr (by lia)))
    ·rw[List.getElem?_eq_none (by lia),List.getElem?_eq_none (by lia)]
   ·rintro rfl
    exact⟨fun i _=>decide_eq_true rfl,by lia⟩
  rw[fin]at key
  exact key
end
open PySem PySem.W PyProof.Rows Srt
noncomputable abbrev TupsAt(H:Hp)(as:List Addr)(ks:List (List Int)):Prop:=Paired (fun a k=>H a=some (.tup (List.map V.int k))) as ks
section
variable{X:Cx}
theorem refs_of:∀ {as:List Addr}{us:List Value},Vals (as.map V.ref) us->us=as.map Value.ref
 |[],_,.nil=>rfl
 |a :: as,_,.cons r t=>by rw[show _=Value.ref a from r,refs_of t];rfl
theorem tups_mem{H:Hp}{as:List Addr}{ks:List (List Int)}(h:TupsAt H as ks):∀ a∈as,∃ k:List Int,H a=some (.tup (k.map V.int)):=by
 induction h with
 |nil=>intro a ha;cases ha
 |cons r _ ih =>
  intro a ha
  rcases List.mem_cons.mp ha with e | e
  ·rw[e];exact⟨_,r⟩
  ·exact ih a e
theorem tups_len{H:Hp}{as:List Addr}{ks:List (List Int)}(h:TupsAt H as ks):as.length=ks.length:=Paired.length h
theorem tups_at{H:Hp}:∀ {as:List Addr}{ks:List (List Int)},TupsAt H as ks->∀ (i:Nat) (h1:i<as.length) (h2:i<ks.length),H as[i]=some (.tup (List.map V.int ks[i])):=by
 intro as ks h
 induction h with
 |nil=>intro i h1;exact absurd h1 (Nat.not_lt_zero _)
 |cons h t ih =>
  intro i h1 h2
  cases i with
  |zero=>exact h
  |succ i=>exact ih i (Nat.lt_of_succ_lt_succ h1) (Nat.lt_of_succ_lt_succ h2)
inductive TyF(H:Hp):V->Value->Prop where
 |non:TyF H .non (.type "NoneType")
 |bl (x:Bool):TyF H (.bl x) (.type "bool")
 |int (i:Int):TyF H (.int i) (.type "int")
 |str (x:Str):TyF H (.str x) (.type "str")
 |lst {a:Addr}{xs:List V} (e:H a=some (.lst xs)):TyF H (.ref a) (.type "list")
 |tup {a:Addr}{xs:List V} (e:H a=some (.tup xs)):TyF H (.ref a) (.type "tuple")
theorem TyF.of{K:PySem.W.Frag}{H:Hp}{x:V}{t:Value}(h:TyF H x t):TyOf K H x t:=by
 cases h with
 |non=>exact .non
 |bl x=>exact .bl x
 |int i=>exact .int i
 |str x=>exact .str x
 |lst e=>exact .lst e
 |tup e=>exact .tup e
theorem call_isinst2:CallR X (.builtin "isinstance") (fun xs H Q=>∃ x t p b,xs=[x,V.ref p]/\TyF H x t/\H p=some (.tup [.ty "list",.ty "tuple"])/\PySem.W.kitAny X.K t [.type "list",.type "tuple"]=some b/\Q (.bl b) H):=by
 intro pins s σ H xs us Q I r h
 obtain⟨x,t,p,b,rfl,ty,hp,e,q⟩:=h
 obtain⟨u,u',rfl,rx,rc⟩:=vals2 r
 cases rc
 obtain⟨z,its,rv,o,e0,c,n,d⟩:=I.hok p _ hp
 obtain⟨cls,dd,dat,sl⟩:=o
 cases c
 cases d
 cases rv with
 |cons r1 r2 =>
  cases r2 with
  |cons r2 r3 =>
   cases r3
   cases r1
   cases r2
   have fin:∀ tk,EP X pins σ Q (.bool b) { s with toks:=tk }:=fun tk=>⟨.bl b,H,I.tok _,rfl,q⟩
   cases ty with
   |non=>cases(show u=Value.none from rx);exact PySem.W.kia_tup PySem.W.kitx_none I.kIn True.intro e0 e (fun z=>nomatch z) fin
   |bl y=>cases(show u=Value.bool y from rx);exact PySem.W.kia_tup PySem.W.kitx_bool I.kIn True.intro e0 e (fun z=>nomatch z) fin
   |int i=>obtain⟨t,q⟩:=(show ∃ t,u=Value.int i t from rx);cases q;exact PySem.W.kia_tup PySem.W.kitx_int I.kIn True.intro e0 e (fun z=>nomatch z) fin
   |str y=>obtain⟨t,q⟩:=(show ∃ t,u=Value.str y t from rx);cases q;exact PySem.W.kia_tup PySem.W.kitx_str I.kIn True.intro e0 e (fun z=>nomatch z) fin
   | @lst a xs ea =>
    cases(show u=Value.ref a from rx)
    obtain⟨_,_,n,_,h1⟩:=(show ObjOk X.prog X.w H s.heap a (.lst xs)from I.hok a _ ea)
    exact PySem.W.kia_tup PySem.W.kitx_list I.kIn ⟨_,h1,rfl⟩ e0 e (fun z=>nomatch z) fin
   | @tup a xs ea =>
    cases(show u=Value.ref a from rx)
    obtain⟨_,_,_,pp⟩:=(show ObjOk X.prog X.w H s.heap a (.tup xs)from I.hok a _ ea)
    obtain⟨o,h1,h2,_⟩:=pp
    exact PySem.W.kia_tup PySem.W.kitx_tuple I.kIn ⟨o,h1,h2⟩ e0 e (fun z=>nomatch z) fin
end
inductive Dt where
 |non | bl (b:Bool) | int (i:Int) | str (x:Str) | lst (ds:List Dt) | tup (ds:List Dt)
noncomputable def Dat(H:Hp):Nat->V->Dt->Prop
 | _,v,.non=>v = .non
 | _,v,.bl b=>v = .bl b
 | _,v,.int i=>v = .int i
 | _,v,.str x=>v = .str x
 | 0,_,.lst _=>False
 | 0,_,.tup _=>False
 |n+1,v,.lst ds=>∃ a xs,v = .ref a/\xs.length<=1000/\H a=some (.lst xs)/\Paired (Dat H n) xs ds
 |n+1,v,.tup ds=>∃ a xs,v = .ref a/\xs.length<=1000/\H a=some (.tup xs)/\Paired (Dat H n) xs ds
theorem Dat.same{H H':Hp}(s:Same H H'):∀ {n:Nat}{v:V}{d:Dt},Dat H n v d->Dat H' n v d
 | 0,v,.non,h=>h
 | 0,v,.bl _,h=>h
 | 0,v,.int _,h=>h
 | 0,v,.str _,h=>h
 |n+1,v,.non,h=>h
 |n+1,v,.bl _,h=>h
 |n+1,v,.int _,h=>h
 |n+1,v,.str _,h=>h
 |n+1,v,.lst ds,h=>by
  obtain⟨a,xs,e,l,ha,p⟩:=h
  exact⟨a,xs,e,l,s _ _ ha,Paired.mapP p fun x d z=>Dat.same s (n:=n) z⟩
 |n+1,v,.tup ds,h=>by
  obtain⟨a,xs,e,l,ha,p⟩:=h
  exact⟨a,xs,e,l,s _ _ ha,Paired.mapP p fun x d z=>Dat.same s (n:=n) z⟩
open PySem PyProof.Rows
section
variable{K:PySem.W.Frag}{a:Addr}{xs:List V}{g:TG}{tc:TT}{te:TE}{cap:List (Option Nat)}{σ:St}{H1:Hp}{Q:VK}
theorem comp_tup(P:Nat->List V->Hp->Prop)(hz:xs.length<=sizeLine)(p0:P 0 [] H1)(hl:∀ i ys H,i<=xs.length->P i ys H->SqT K H a xs)
  (hs:∀ i x ys H,xs[i]?=some x->P i ys H->g x (capt cap σ) H fun σ2 H2=>Kp (capt cap σ) σ2/\tc σ2 H2 fun b H3=>if b=true then te σ2 H3 fun y H4=>P (i+1) (ys++[y]) H4 else P (i+1) ys H3)
  (hd:∀ ys H,ys.length<=xs.length->P xs.length ys H->∀ D,H D=none->Q (.ref D) (upd H D (.lst ys))):compTurns (Itt K a) cap σ H1 Q g tc te:=by
 refine⟨xs.length,P,hz,p0,fun i ys H yl il p=>?_⟩
 have q:=hl i ys H il p
 by_cases hlt:i<xs.length
 ·refine .inr ⟨hlt,⟨xs,xs[i],q,by simp[hlt]⟩,fun x H' y=>?_⟩
  obtain⟨e,y⟩:=y
  subst e
  exact hs i x ys _ (y xs q) p
 ·have e:i=xs.length:=by lia
  subst e
  exact .inl ⟨⟨xs,q,Nat.le_refl _⟩,hd ys H yl p⟩
theorem comp_list(P:Nat->List V->Hp->Prop)(hz:xs.length<=sizeLine)(p0:P 0 [] H1)(hl:∀ i ys H,i<=xs.length->P i ys H->SqL K H a xs)
  (hs:∀ i x ys H,xs[i]?=some x->P i ys H->g x (capt cap σ) H fun σ2 H2=>Kp (capt cap σ) σ2/\tc σ2 H2 fun b H3=>if b=true then te σ2 H3 fun y H4=>P (i+1) (ys++[y]) H4 else P (i+1) ys H3)
  (hd:∀ ys H,ys.length<=xs.length->P xs.length ys H->∀ D,H D=none->Q (.ref D) (upd H D (.lst ys))):compTurns (Itl K a) cap σ H1 Q g tc te:=by
 refine⟨xs.length,P,hz,p0,fun i ys H yl il p=>?_⟩
 have q:=hl i ys H il p
 by_cases hlt:i<xs.length
 ·refine .inr ⟨hlt,⟨xs,xs[i],q,by simp[hlt]⟩,fun x H' y=>?_⟩
  obtain⟨e,y⟩:=y
  subst e
  exact hs i x ys _ (y xs q) p
 ·have e:i=xs.length:=by lia
  subst e
  exact .inl ⟨⟨xs,q,Nat.le_refl _⟩,hd ys H yl p⟩
theorem comp_range{lo:Int}{n:Nat}(P:Nat->List V->Hp->Prop)(hz:n<=sizeLine)(p0:P 0 [] H1)
  (hs:∀ i ys H,i<n->P i ys H->g (.int (lo+i)) (capt cap σ) H fun σ2 H2=>Kp (capt cap σ) σ2/\tc σ2 H2 fun b H3=>if b=true then te σ2 H3 fun y H4=>P (i+1) (ys++[y]) H4 else P (i+1) ys H3)
  (hd:∀ ys H,ys.length<=n->P n ys H->∀ D,H D=none->Q (.ref D) (upd H D (.lst ys))):compTurns (Itr lo n) cap σ H1 Q g tc te:=by
 refine⟨n,P,hz,p0,fun i ys H yl il p=>?_⟩
 by_cases hlt:i<n
 ·refine .inr ⟨hlt,hlt,fun x H' y=>?_⟩
  obtain⟨e,y⟩:=y
  subst e y
  exact hs i ys _ hlt p
 ·have e:i=n:=by lia
  subst e
  exact .inl ⟨Nat.le_refl _,hd ys H yl p⟩
end
noncomputable def capB(cap:List (Option Nat))(N' N:List Str)(names:List (Str×NameKind)):Bool:=(List.range cap.length).all fun j=>match cap[j]? with
 |some (some i)=>(match N'[j]? with
  |some x=>decide (N[i]?=some x/\names.lookup x=some .free)
  |none=>false)
 | _=>true
theorem capB_ok{cap:List (Option Nat)}{N' N:List Str}{names:List (Str×NameKind)}(h:capB cap N' N names=true):∀ j∈List.range cap.length,match cap[j]? with
  |some (some i)=>match N'[j]? with
   |some x=>N[i]?=some x/\names.lookup x=some .free
   |none=>False
  | _=>True:=by
 intro j hj
 have z:=List.all_eq_true.mp h j hj
 revert z
 cases e1:cap[j]? with
 |none=>intro _;trivial
 |some o =>
  cases o with
  |none=>intro _;trivial
  |some i =>
   cases e2:N'[j]? with
   |none =>
    intro z
    dsimp only at z
    exact absurd z Bool.false_ne_true
   |some x =>
    intro z
    dsimp only at z
    exact of_decide_eq_true z
theorem op_catTK{X:Cx}(K:PySem.W.Frag)(e:X.K=K):OpR X (binaryOp .Add) (rCatT K):=e▸op_catT
theorem ix_tupK{X:Cx}(K:PySem.W.Frag)(e:X.K=K):IxR X (rIxT K):=e▸ix_tup
theorem ix_listK{X:Cx}(K:PySem.W.Frag)(e:X.K=K):IxR X (rIxL K):=e▸ix_list
theorem pg_tupK{X:Cx}{pos:Pos}(K:PySem.W.Frag)(e:X.K=K){es:List Expr}{k:Nat}{t:TGs}{n:Nat}(hc:X.calm=true)(h:PGs X es t)
  (hn:(assignEach es X.env).length=n) (hst:(assignEach es X.env).findIdx? (·.1)=none):PG X (.Tuple es k pos) (gTup K n t):=e▸pg_tup hc h hn hst
theorem Paired.at{α β:Type}{F:α->β->Prop}:∀ {l₁:List α}{l₂:List β},Paired F l₁ l₂->∀ (i:Nat) (h1:i<l₁.length) (h2:i<l₂.length),F l₁[i] l₂[i]:=by
 intro l ks h
 induction h with
 |nil=>intro i h1;exact absurd h1 (Nat.not_lt_zero _)
 |cons h t ih =>
  intro i h1 h2
  cases i with
  |zero=>exact h
  |succ i=>exact ih i (Nat.lt_of_succ_lt_succ h1) (Nat.lt_of_succ_lt_succ h2)
theorem Same.tupq{K:PySem.W.Frag}{H H':Hp}{a:Addr}{xs:List V}(e:Same H H')(h:SqT K H a xs):SqT K H' a xs:=by
 rcases h with(h |⟨o,h⟩) | h
 ·exact .inl (.inl (e _ _ h))
 ·exact .inl (.inr ⟨o,e _ _ h⟩)
 ·exact .inr h
theorem Same.new{q:Addr}{H:Hp}{o:HO}(h:H q=none):Same H (upd H q o):=fun b u e=>by rw[upd_ne (ne_of_none e h)];exact e
section
variable{K:PySem.W.Frag}{l1 l2:Addr}{xs ys:List V}{b1 b2:Bool}{g:TG}{tc:TT}{te:TE}{cap:List (Option Nat)}{σ:St}{H1:Hp}{Q:VK}
theorem comp_zip(P:Nat->List V->Hp->Prop)(hz:min xs.length ys.length<=sizeLine)(p0:P 0 [] H1)(hl:∀ i zs H,i<=min xs.length ys.length->P i zs H->SqB b1 K H l1 xs/\SqB b2 K H l2 ys)
  (hs:∀ i x y zs H T,xs[i]?=some x->ys[i]?=some y->P i zs H->H T=none->g (.ref T) (capt cap σ) (upd H T (.tup [x,y])) fun σ2 H2=>Kp (capt cap σ) σ2/\tc σ2 H2 fun b H3=>if b=true then te σ2 H3 fun y H4=>P (i+1) (zs++[y]) H4 else P (i+1) zs H3)
  (hd:∀ zs H,zs.length<=min xs.length ys.length->P (min xs.length ys.length) zs H->∀ D,H D=none->Q (.ref D) (upd H D (.lst zs))):compTurns (Itz K b1 b2 l1 l2) cap σ H1 Q g tc te:=by
 refine⟨min xs.length ys.length,P,hz,p0,fun i zs H yl il p=>?_⟩
 obtain⟨q1,q2⟩:=hl i zs H il p
 by_cases hlt:i<min xs.length ys.length
 ·have h1:i<xs.length:=by lia
  have h2:i<ys.length:=by omega
  refine .inr ⟨hlt,⟨xs,ys,xs[i],ys[i],q1,q2,by simp[h1],by simp[h2]⟩,fun v H' y=>?_⟩
  obtain⟨T,x,y,rfl,hT,rfl,f1,f2⟩:=y
  exact hs i x y zs _ T (f1 xs q1) (f2 ys q2) p hT
 ·have e:i=min xs.length ys.length:=by lia
  subst e
  exact .inl ⟨⟨xs,ys,q1,q2,by lia⟩,hd zs H yl p⟩
end
end L2
namespace K07
open PySem L2 PyProof.Rows
noncomputable def top(i:Nat):Stmt:=PySem.Challenge.pw_partedweb_k07_partings_pruned.main.body.getD i (.Pass ⟨0,0,0,0⟩)
noncomputable abbrev sTieWeights:Stmt:=top 1
noncomputable abbrev sWithout:Stmt:=top 2
noncomputable abbrev sBesideEach:Stmt:=top 3
noncomputable abbrev sHeadsOf:Stmt:=top 4
noncomputable abbrev sSpread:Stmt:=top 5
noncomputable abbrev sIsParting:Stmt:=top 7
noncomputable abbrev sPruned:Stmt:=top 8
noncomputable abbrev sCell:Stmt:=top 10
noncomputable abbrev sBox:Stmt:=top 11
noncomputable abbrev sTake:Stmt:=top 12
noncomputable abbrev sMany:Stmt:=top 13
noncomputable abbrev sWeight:Stmt:=top 14
noncomputable abbrev sWeb:Stmt:=top 15
noncomputable abbrev sPosts:Stmt:=top 16
noncomputable abbrev sWithPosts:Stmt:=top 17
noncomputable abbrev sCut:Stmt:=top 18
noncomputable abbrev sFirsts:Stmt:=top 19
noncomputable abbrev sParts:Stmt:=top 20
noncomputable abbrev sOwners:Stmt:=top 21
noncomputable abbrev sCutOf:Stmt:=top 22
noncomputable abbrev sSame:Stmt:=top 23
noncomputable abbrev sDue:Stmt:=top 24
noncomputable abbrev sLaw:Stmt:=top 25
noncomputable def Kept(p:Addr)(H H':Hp):Prop:=∀ b o,b≠p->H b=some o->H' b=some o
theorem Kept.refl{p:Addr}{H:Hp}:Kept p H H:=fun _ _ _ e=>e
theorem Kept.trans{p:Addr}{H H' H'':Hp}(a:Kept p H H')(b:Kept p H' H''):Kept p H H'':=fun c o n e=>b c o n (a c o n e)
theorem Kept.new{p q:Addr}{H:Hp}{o:HO}(h:H q=none):Kept p H (upd H q o):=fun b u _ e=>by rw[upd_ne (ne_of_none e h)];exact e
theorem Kept.at{p:Addr}{H:Hp}{o:HO}:Kept p H (upd H p o):=fun b u n e=>by rw[upd_ne n];exact e
noncomputable def BoxAt(H:Hp)(p:Addr)(N:Nat):Prop:=∃ a b c:Int,H p=some (.lst [.int a,.int b,.int c])/\0<=a/\0<=c/\c<=(N:Int)
theorem BoxAt.mono{H:Hp}{p:Addr}{N M:Nat}(x:BoxAt H p N)(h:N<=M):BoxAt H p M:=by
 obtain⟨a,b,c,e,h1,h2,h3⟩:=x
 exact⟨a,b,c,e,h1,h2,by lia⟩
theorem BoxAt.new{H:Hp}{p q:Addr}{N:Nat}{o:HO}(x:BoxAt H p N)(h:H q=none):BoxAt (upd H q o) p N:=by
 obtain⟨a,b,c,e,r⟩:=x
 exact⟨a,b,c,by rw[upd_ne (ne_of_none e h)];exact e,r⟩
theorem b01(b:Bool):-(2 ^ 64) <(if b=true then 1 else 0:Int)/\(if b=true then 1 else 0:Int)<2 ^ 64:=by cases b <;> decide
theorem b0(b:Bool):(0:Int)<=(if b=true then 1 else 0:Int):=by cases b <;> decide
noncomputable def spCell(K:PySem.W.Frag):Sp:=fun vs H Q _=>∃ (a:Addr) (ns:List Int) (k:Nat),vs=[.ref a,.int k]/\SqL K H a (ns.map V.int)/\∀ z,Q (.int z) H
noncomputable def spBox(K:PySem.W.Frag):Sp:=fun vs H Q _=>∃ (a:Addr) (ns:List Int) (k:Nat),vs=[.ref a,.int k]/\SqL K H a (ns.map V.int)/\∀ p H',H p=none->BoxAt H' p 0->Kept p H H'->Q (.ref p) H'
noncomputable def spTake:Sp:=fun vs H Q _=>∃ (p:Addr) (m:Int) (N:Nat),vs=[.ref p,.int m]/\BoxAt H p N/\N<2 ^ 40/\0<m/\m<1073741824/\∀ z H',0<=z->z<m->BoxAt H' p (N+1)->Kept p H H'->Q (.int z) H'
noncomputable def spMany:Sp:=fun vs H Q _=>∃ (p:Addr) (l f m:Int) (N:Nat),vs=[.ref p,.int l,.int f,.int m]/\BoxAt H p N/\N+2<2 ^ 40/\l<=f/\7<=m/\f-l<1000/\m<1000/\∀ z H',(l<=z/\z<=f)\/(7<=z/\z<=m)->BoxAt H' p (N+2)->Kept p H H'->Q (.int z) H'
noncomputable def spWeight:Sp:=fun vs H Q _=>∃ (p:Addr) (h:Nat) (N:Nat),vs=[.ref p,.int h]/\h<4/\BoxAt H p N/\N+2<2 ^ 40/\∀ z H',1<=z->BoxAt H' p (N+2)->Kept p H H'->Q (.int z) H'
structure Txt(mg:Str->Option Value):Prop where
 abs:mg "abs" = none
 int:mg "int" = none
 len:mg "len" = none
 range:mg "range" = none
 min:mg "min" = none
 max:mg "max" = none
 tuple:mg "tuple" = none
 sorted:mg "sorted" = none
 isinst:mg "isinstance" = none
 list:mg "list" = none
 str:mg "str" = none
 bool:mg "bool" = none
 sum:mg "sum" = none
section
variable{P:Program}{w:World}{K:PySem.W.Frag}{mg:Str->Option Value}{base:Heap}
theorem scCell:FnScope ["_law_script","_law_k"] ["_law_script","_law_k"] (defScope sCell):=⟨rfl,rfl,rfl,by decide +kernel,rfl,by decide +kernel,by decide +kernel⟩
theorem ok_cell{f:Addr}{fd:FuncData}(F:Fun K "_law_cell_at" "_law_cell_at" sCell f fd)(T:Txt mg):FnOk P w K mg base CX0 1 f fd ["_law_script","_law_k"] (spCell K):=by
 refine F.ok scCell (fun vs H Q E h=>?_) (fun cdv A outer s H vs Q E hr h=>?_)
 ·obtain⟨a,ns,k,rfl,_⟩:=h
  rfl
 ·obtain⟨a,ns,k,rfl,hS,q⟩:=h
  refine⟨_,pss_cons (ps_if (pt_cmpR op_lt (pv 1) (pe_callB call_len_seq (by rfl) T.len PySem.boot_len (pa_cons (pv 0) pa_nil)) (nomark _)) (pss_one (ps_ret (pe_ix ix_list (pv 0) (pv 1) (fun _ _=>rfl)))) pss_nil) (pss_one (ps_ret pe_int)),?_⟩
  refine⟨_,rfl,_,rfl,a,_,rfl,.inl hS,_,_,rfl,rfl,_,rfl,?_⟩
  refine ite2 (fun hk=>?_) (fun _=>?_)
  ·have hk':k<ns.length:=by
    have:=of_decide_eq_true hk
    rw[List.length_map]at this
    lia
   exact⟨_,rfl,_,rfl,a,_,_,_,rfl,rfl,hS,atI_nat (v:=V.int ns[k]) (by rw[List.getElem?_map,List.getElem?_eq_getElem hk'];rfl),q _⟩
  ·exact q _
theorem scBox:FnScope ["_law_script","_law_k","_law_cell"] ["_law_script","_law_k"] (defScope sBox):=⟨rfl,rfl,rfl,by decide +kernel,rfl,by decide +kernel,by decide +kernel⟩
theorem ok_box{f g:Addr}{fd gd:FuncData}(F:Fun K "_law_box" "_law_box" sBox f fd)(T:Txt mg)(G:Fun K "_law_cell_at" "_law_cell_at" sCell g gd)(mG:mg "_law_cell_at" = some (.ref g))(bG:Binds K gd ["_law_script","_law_k"] []):FnOk P w K mg base CX0 2 f fd ["_law_script","_law_k"] (spBox K):=by
 refine F.ok scBox (fun vs H Q E h=>?_) (fun cdv A outer s H vs Q E hr h=>?_)
 ·obtain⟨a,ns,k,rfl,_⟩:=h
  rfl
 ·obtain⟨a,ns,k,rfl,hS,q⟩:=h
  have GG:FnOk P w K mg base CX0 1 g gd ["_law_script","_law_k"] (spCell K):=ok_cell G T
  refine⟨_,pss_cons (ps_set (i:=2) scBox.nd rfl (Or.inl rfl) (pe_call GG hr rfl mG G.kp bG .nil pass0 (pa_cons (pv 0) (pa_cons (pv 1) pa_nil))))
   (pss_one (ps_ret (pe_lst (pa_cons (pe_op op_mul (pe_callB call_abs (by rfl) T.abs boot_abs (pa_cons (pv 2) pa_nil)) (pe_callTy call_int1 (by rfl) T.int boot_int (pa_cons (pe_cmpR op_ge (pe_callB call_abs (by rfl) T.abs boot_abs (pa_cons (pv 2) pa_nil)) (pe_op op_pow pe_int pe_int) (nomark _)) pa_nil)))
    (pa_cons (pe_op op_add (pe_op op_add (pe_op op_mod (pv 2) pe_int) (pe_op op_mul pe_int (pv 1))) pe_int) (pa_cons pe_int pa_nil)))))),?_⟩
  refine⟨_,rfl,_,rfl,a,ns,k,rfl,hS,fun z=>?_⟩
  refine⟨_,rfl,_,rfl,_,rfl,_,rfl,_,_,rfl,rfl,⟨by decide,by decide,by decide⟩,_,_,rfl,rfl,.inr ⟨_,rfl,_,_,rfl,rfl,.inr ?_,_,rfl,_,_,rfl,rfl,(by show(0:Int)<2305843009213693951;decide),_,rfl,_,_,rfl,rfl,.inl ⟨by decide,by decide⟩,_,_,rfl,rfl,_,_,rfl,rfl,(by show 3<=sizeLine;decide),fun p hp=>?_⟩⟩
  ·exact b01 _
  ·refine q p _ hp ⟨_,_,_,upd_same,?_,by decide,by decide⟩ (Kept.new hp)
   refine Int.mul_nonneg ?_ ?_
   ·split <;> lia
   ·exact b0 _
theorem scTake:FnScope ["_law_box_here","_law_many_here","_law_found","_law_once","_law_twice"] ["_law_box_here","_law_many_here"] (defScope sTake):=⟨rfl,rfl,rfl,by decide +kernel,rfl,by decide +kernel,by decide +kernel⟩
theorem ok_take{f:Addr}{fd:FuncData}(F:Fun K "_law_take" "_law_take" sTake f fd):FnOk P w K mg base CX0 1 f fd ["_law_box_here","_law_many_here"] spTake:=by
 refine F.ok scTake (fun vs H Q E h=>?_) (fun cdv A outer s H vs Q E hr h=>?_)
 ·obtain⟨p,m,N,rfl,_⟩:=h
  rfl
 ·obtain⟨p,m,N,rfl,⟨a,b,c,hp,a0,c0,cN⟩,hN,m0,m1,q⟩:=h
  have hS:∀ {x y z:Int}{G:Hp},G p=some (.lst [.int x,.int y,.int z])->SqL K G p [.int x,.int y,.int z]:=fun e=>SqL.of e
  refine⟨_,pss_cons (ps_if (pt_cmpR op_gt (pe_ix ix_list (pv 0) pe_int (fun _ _=>rfl)) pe_int (nomark _))
    (pss_cons (ps_set (i:=2) scTake.nd rfl (Or.inl rfl) (pe_op op_mod (pe_ix ix_list (pv 0) pe_int (fun _ _=>rfl)) (pv 1)))
     (pss_cons (ps_asg (pe_op op_fdiv (pe_ix ix_list (pv 0) pe_int (fun _ _=>rfl)) (pv 1)) (pg_sub (pv 0) pe_int set_list))
     (pss_one (ps_ret (pv 2))))) pss_nil)
   (pss_cons (ps_asg (pe_op op_add (pe_ix ix_list (pv 0) pe_int (fun _ _=>rfl)) pe_int) (pg_sub (pv 0) pe_int set_list))
   (pss_cons (ps_set (i:=3) scTake.nd rfl (Or.inl rfl) (pe_op op_mod (pe_op op_mul (pe_op op_add (pe_ix ix_list (pv 0) pe_int (fun _ _=>rfl)) (pe_op op_mul pe_int (pe_ix ix_list (pv 0) pe_int (fun _ _=>rfl)))) (pe_op op_add pe_int (pe_ix ix_list (pv 0) pe_int (fun _ _=>rfl)))) pe_int))
   (pss_cons (ps_set (i:=4) scTake.nd rfl (Or.inl rfl) (pe_op op_mod (pe_op op_mul (pe_op op_add (pv 3) (pe_ix ix_list (pv 0) pe_int (fun _ _=>rfl))) (pe_op op_add (pe_op op_mod (pv 3) pe_int) pe_int)) pe_int))
   (pss_one (ps_ret (pe_op op_mod (pe_op op_fdiv (pe_op op_mod (pe_op op_add (pe_op op_mul (pv 4) pe_int) (pv 3)) pe_int) pe_int) (pv 1))))))),?_⟩
  refine⟨_,rfl,p,_,_,_,rfl,rfl,hS hp,rfl,_,_,rfl,rfl,_,rfl,?_⟩
  refine ite2 (fun hk=>?_) (fun _=>?_)
  ·have pos:0<a:=of_decide_eq_true hk
   refine⟨_,rfl,p,_,_,_,rfl,rfl,hS hp,rfl,_,rfl,_,_,rfl,rfl,m0,?_⟩
   refine⟨_,rfl,p,_,_,_,rfl,rfl,hS hp,rfl,_,rfl,_,_,rfl,rfl,⟨m0,m1⟩,_,rfl,p,_,_,_,rfl,rfl,hp,rfl,_,rfl,?_⟩
   refine q _ _ (Int.emod_nonneg _ (by lia)) (Int.emod_lt_of_pos _ m0) ⟨_,_,_,upd_same,Int.ediv_nonneg a0 (by lia),c0,by lia⟩ Kept.at
  ·refine⟨_,rfl,p,_,_,_,rfl,rfl,hS hp,rfl,_,_,rfl,rfl,_,rfl,p,_,_,_,rfl,rfl,hp,rfl,?_⟩
   have g1:(upd H p (.lst [.int a,.int b,.int (c+1)])) p=some (.lst [.int a,.int b,.int (c+1)]):=upd_same
   refine⟨_,rfl,p,_,_,_,rfl,rfl,hS g1,rfl,_,rfl,p,_,_,_,rfl,rfl,hS g1,rfl,_,_,rfl,rfl,.inl ⟨by decide,by decide⟩,_,_,rfl,rfl,_,rfl,p,_,_,_,rfl,rfl,hS g1,rfl,_,_,rfl,rfl,_,_,rfl,rfl,.inr ⟨by lia,by lia⟩,_,_,rfl,rfl,(by show(0:Int)<2147483647;decide),?_⟩
   generalize ho:(b+48271 * (c+1)) * (39373+(c+1)) % 2147483647=once
   have o0:0<=once:=by rw[<- ho];exact Int.emod_nonneg _ (by decide)
   have o1:once<2147483647:=by rw[<- ho];exact Int.emod_lt_of_pos _ (by decide)
   refine⟨_,rfl,_,rfl,p,_,_,_,rfl,rfl,hS g1,rfl,_,_,rfl,rfl,_,rfl,_,_,rfl,rfl,(by show(0:Int)<40009;decide),_,_,rfl,rfl,_,_,rfl,rfl,.inl ⟨by lia,by lia⟩,_,_,rfl,rfl,(by show(0:Int)<2147483629;decide),?_⟩
   generalize ht:(once+(c+1)) * (once % 40009+7) % 2147483629=twice
   have t0:0<=twice:=by rw[<- ht];exact Int.emod_nonneg _ (by decide)
   have t1:twice<2147483629:=by rw[<- ht];exact Int.emod_lt_of_pos _ (by decide)
   refine⟨_,rfl,_,_,rfl,rfl,.inl ⟨by omega,by omega⟩,_,rfl,_,_,rfl,rfl,_,_,rfl,rfl,(by show(0:Int)<2147483587;decide),_,_,rfl,rfl,⟨by decide,by decide⟩,_,rfl,_,_,rfl,rfl,m0,?_⟩
   exact q _ _ (Int.emod_nonneg _ (by lia)) (Int.emod_lt_of_pos _ m0) ⟨_,_,_,g1,a0,by lia,by lia⟩ Kept.at
theorem scMany:FnScope ["_law_box_here","_law_least","_law_few","_law_most"] ["_law_box_here","_law_least","_law_few","_law_most"] (defScope sMany):=⟨rfl,rfl,rfl,by decide +kernel,rfl,by decide +kernel,by decide +kernel⟩
structure TakeF(P:Program)(w:World)(K:PySem.W.Frag)(mg:Str->Option Value)(base:Heap)(g:Addr)(gd:FuncData):Prop where
 ok:FnOk P w K mg base CX0 1 g gd ["_law_box_here","_law_many_here"] spTake
 mg:mg "_law_take" = some (.ref g)
 kp:PySem.W.keepIn K (.ref g)=true
 bd:Binds K gd ["_law_box_here","_law_many_here"] []
theorem ok_many{f g:Addr}{fd gd:FuncData}(F:Fun K "_law_many" "_law_many" sMany f fd)(G:TakeF P w K mg base g gd):FnOk P w K mg base CX0 2 f fd ["_law_box_here","_law_least","_law_few","_law_most"] spMany:=by
 refine F.ok scMany (fun vs H Q E h=>?_) (fun cdv A outer s H vs Q E hr h=>?_)
 ·obtain⟨p,l,f,m,N,rfl,_⟩:=h
  rfl
 ·obtain⟨p,l,f,m,N,rfl,B,hN,lf,m7,fl,mm,q⟩:=h
  refine⟨_,pss_cons (ps_if (pt_cmpR op_eq (pe_call G.ok hr rfl G.mg G.kp G.bd .nil pass0 (pa_cons (pv 0) (pa_cons pe_int pa_nil))) pe_int (nomark _))
   (pss_one (ps_ret (pe_op op_add pe_int (pe_call G.ok hr rfl G.mg G.kp G.bd .nil pass0 (pa_cons (pv 0) (pa_cons (pe_op op_sub (pv 3) pe_int) pa_nil)))))) pss_nil)
   (pss_one (ps_ret (pe_op op_add (pv 1) (pe_call G.ok hr rfl G.mg G.kp G.bd .nil pass0 (pa_cons (pv 0) (pa_cons (pe_op op_add (pe_op op_sub (pv 2) (pv 1)) pe_int) pa_nil)))))),?_⟩
  refine⟨_,rfl,p,_,N,rfl,B,by lia,by decide,by decide,fun z H1 z0 z1 B1 k1=>⟨rfl,_,rfl,?_⟩⟩
  refine ite2 (fun _=>?_) (fun _=>?_)
  ·refine⟨_,rfl,_,rfl,_,_,rfl,rfl,p,_,N+1,rfl,B1,by lia,by lia,by lia,fun y H2 y0 y1 B2 k2=>⟨_,_,rfl,rfl,?_⟩⟩
   exact q _ _ (.inr ⟨by lia,by lia⟩) B2 (k1.trans k2)
  ·refine⟨_,rfl,_,rfl,_,rfl,_,rfl,_,_,rfl,rfl,_,_,rfl,rfl,p,_,N+1,rfl,B1,by lia,by lia,by lia,fun y H2 y0 y1 B2 k2=>⟨_,_,rfl,rfl,?_⟩⟩
   exact q _ _ (.inl ⟨by lia,by lia⟩) B2 (k1.trans k2)
theorem scWeight:FnScope ["_law_box_here","_law_heavy"] ["_law_box_here","_law_heavy"] (defScope sWeight):=⟨rfl,rfl,rfl,by decide +kernel,rfl,by decide +kernel,by decide +kernel⟩
theorem ok_weight{f g:Addr}{fd gd:FuncData}(F:Fun K "_law_weight" "_law_weight" sWeight f fd)(G:TakeF P w K mg base g gd):FnOk P w K mg base CX0 2 f fd ["_law_box_here","_law_heavy"] spWeight:=by
 refine F.ok scWeight (fun vs H Q E h=>?_) (fun cdv A outer s H vs Q E hr h=>?_)
 ·obtain⟨p,h,N,rfl,_⟩:=h
  rfl
 ·obtain⟨p,h,N,rfl,h4,B,hN,q⟩:=h
  refine⟨_,pss_one (ps_ret (pe_op op_add pe_int (pe_call G.ok hr rfl G.mg G.kp G.bd .nil pass0 (pa_cons (pv 0) (@pa_sub _ _ _ _ _ _ _
   (@pe_ix _ _ _ _ _ _ _ ix_list (@pe_lst _ _ _ _ (@pa_cst _ _ _ _ _ _ _ pe_int (@pa_cst _ _ _ _ _ _ _ pe_int (@pa_cst _ _ _ _ _ _ _ pe_int (@pa_sub _ _ _ _ _ _ _ (@pe_ix _ _ _ _ _ _ _ ix_list (@pe_lst _ _ _ _ (@pa_cst _ _ _ _ _ _ _ pe_int (@pa_cst _ _ _ _ _ _ _ pe_int (@pa_bin _ _ _ _ _ _ _ _ (pe_op op_pow pe_int pe_int) pa_nil)))) (pe_call G.ok hr rfl G.mg G.kp G.bd .nil pass0 (pa_cons (pv 0) (pa_cons pe_int pa_nil))) (fun _ _=>rfl)) pa_nil))))) (pv 1) (fun _ _=>rfl)) pa_nil))))),?_⟩
  refine⟨_,rfl,10,9,rfl,rfl,⟨by decide,by decide,by decide⟩,?_⟩
  refine⟨(by show 3<=sizeLine;decide),fun l hl=>?_⟩
  refine⟨_,rfl,p,_,N,rfl,B.new hl,by lia,by decide,by decide,fun z H1 z0 z1 B1 k1=>?_⟩
  have lp:l≠p:=fun e=>by
   obtain⟨a,b,c,e1,_⟩:=B
   rw[e,e1]at hl
   cases hl
  have el:=k1 l _ lp upd_same
  obtain⟨zn,rfl⟩:∃ zn:Nat,z=(zn:Int):=⟨z.toNat,by lia⟩
  have e9:((10:Int) ^ (Int.toNat 9))=1000000000:=by decide +kernel
  dsimp only at el
  rw[e9]at el
  have h3:zn<3:=by lia
  obtain⟨v,hv,v0,v1⟩:∃ v:Int,[V.int 10,V.int 100,V.int 1000000000][zn]?=some (V.int v)/\0<v/\v<1073741824:=by
   match zn,h3 with
   | 0,_=>exact⟨_,rfl,by decide,by decide⟩
   | 1,_=>exact⟨_,rfl,by decide,by decide⟩
   | 2,_=>exact⟨_,rfl,by decide,by decide⟩
  refine⟨l,_,_,_,rfl,rfl,SqL.of el,atI_nat hv,(by show 4<=sizeLine;decide),fun l2 hl2=>?_⟩
  obtain⟨v',hv',v0',v1'⟩:∃ v':Int,[V.int 1,V.int 3,V.int 9,V.int v][h]?=some (V.int v')/\0<v'/\v'<1073741824:=by
   match h,h4 with
   | 0,_=>exact⟨_,rfl,by decide,by decide⟩
   | 1,_=>exact⟨_,rfl,by decide,by decide⟩
   | 2,_=>exact⟨_,rfl,by decide,by decide⟩
   | 3,_=>exact⟨_,rfl,v0,v1⟩
  refine⟨_,rfl,l2,_,_,_,rfl,rfl,SqL.of upd_same,atI_nat hv',p,_,N+1,rfl,B1.new hl2,by lia,v0',v1',fun y H2 y0 y1 B2 k2=>⟨_,_,rfl,rfl,?_⟩⟩
  exact q _ _ (by lia) B2 ((Kept.new hl).trans (k1.trans ((Kept.new hl2).trans k2)))
end
noncomputable abbrev Tie:=Int×Int×Int
noncomputable def tieV(x:Tie):List V:=[.int x.1,.int x.2.1,.int x.2.2]
structure WebAt(H:Hp)(t:Addr)(n:Nat)(ties:List Tie):Prop where
 ex:∃ (ts:Addr) (as:List Addr),H t=some (.tup [.int n,.ref ts])/\H ts=some (.tup (as.map V.ref))/\Paired (fun a x=>H a=some (.tup (tieV x))) as ties
 len:ties.length<=120
theorem WebAt.same{H H':Hp}{t:Addr}{n:Nat}{ties:List Tie}(W:WebAt H t n ties)(s:Same H H'):WebAt H' t n ties:=by
 obtain⟨⟨ts,as,h1,h2,h3⟩,l⟩:=W
 exact⟨⟨ts,as,s _ _ h1,s _ _ h2,Paired.mapP h3 fun a x e=>s _ _ e⟩,l⟩
theorem inV_ints(z:Int):∀ ns:List Int,inV (V.int z) (ns.map V.int)=ns.contains z
 |[]=>rfl
 |n :: ns=>by
  have ih:=inV_ints z ns
  unfold inV at ih ⊢
  rw[List.map_cons,List.any_cons,ih,List.contains_cons]
  congr 1
  show(n == z)=(z == n)
  exact Bool.beq_comm
theorem Kept.free{p l:Addr}{H H':Hp}{M:Nat}(k:Kept p H H')(B:BoxAt H' p M)(h:H' l=none):H l=none:=by
 cases e:H l with
 |none=>rfl
 |some o =>
  by_cases lp:l=p
  ·obtain⟨a,b,c,e1,_⟩:=B
   rw[lp,e1]at h
   cases h
  ·rw[k l o lp e]at h
   cases h
theorem BoxAt.ne{H:Hp}{p l:Addr}{N:Nat}(B:BoxAt H p N)(h:H l=none):l≠p:=fun e=>by
 obtain⟨a,b,c,e1,_⟩:=B
 rw[e,e1]at h
 cases h
theorem Kept.put{p d:Addr}{H H':Hp}{o:HO}(k:Kept p H H')(h:H d=none):Kept p H (upd H' d o):=fun b u n e=>by
 rw[upd_ne (ne_of_none e h)]
 exact k b u n e
theorem BoxAt.put{H:Hp}{p d:Addr}{N:Nat}{o:HO}(B:BoxAt H p N)(h:d≠p):BoxAt (upd H d o) p N:=by
 obtain⟨a,b,c,e,r⟩:=B
 exact⟨a,b,c,by rw[upd_ne (Ne.symm h)];exact e,r⟩
theorem tTru_if{σ:L2.St}{H:Hp}{A B:Hp->Prop}(h:A H):tTru σ H (fun b H3=>if b=true then A H3 else B H3):=by
 show if true=true then A H else B H
 exact iteT h
theorem Paired.snoc{α β:Type}{F:α->β->Prop}:∀ {l₁:List α}{l₂:List β}{a:α}{b:β},Paired F l₁ l₂->F a b->Paired F (l₁++[a]) (l₂++[b]):=by
 intro l ks a b h r
 induction h with
 |nil=>exact .cons r .nil
 |cons q t ih=>exact .cons q ih
noncomputable def TieOk(n:Nat)(x:Tie):Prop:=0<=x.1/\x.1<x.2.1/\x.2.1<n/\1<=x.2.2
noncomputable def tieLt(x y:Tie):Prop:=Srt.lexlt [x.1,x.2.1] [y.1,y.2.1]=true
noncomputable def KeyOk(n:Nat)(kv:List Key×V):Prop:=∃ a b c:Int,kv=([Sum.inl a,Sum.inl b],V.int c)/\TieOk n (a,b,c)
noncomputable def DInv(n:Nat)(kvs:List (List Key×V)):Prop:=(∀ kv∈kvs,KeyOk n kv)/\(kvs.map (·.1)).Nodup
theorem DInv.put{n:Nat}{kvs:List (List Key×V)}(h:DInv n kvs){a b c:Int}(ok:TieOk n (a,b,c)):DInv n (putK kvs [Sum.inl a,Sum.inl b] (V.int c))/\(putK kvs [Sum.inl a,Sum.inl b] (V.int c)).length<=kvs.length+1:=by
 unfold putK
 by_cases ex:(kvs.any fun kv=>decide (kv.1=[Sum.inl a,Sum.inl b]))=true
 ·rw[if_pos ex]
  refine⟨⟨fun kv hk=>?_,?_⟩,by rw[List.length_map];lia⟩
  ·obtain⟨q,hq,e⟩:=List.mem_map.mp hk
   by_cases z:q.1=[Sum.inl a,Sum.inl b]
   ·rw[if_pos z,z]at e
    exact⟨a,b,c,e.symm,ok⟩
   ·rw[if_neg z]at e
    rw[<- e]
    exact h.1 q hq
  ·have e:(kvs.map fun kv=>if kv.1=[Sum.inl a,Sum.inl b]then(kv.1,V.int c)else kv).map (·.1)=kvs.map (·.1):=by
    rw[List.map_map]
    refine List.map_congr_left fun q _=>?_
    show(if q.1=[Sum.inl a,Sum.inl b]then(q.1,V.int c)else q).1=q.1
    split <;> rfl
   rw[e]
   exact h.2
 ·rw[if_neg ex]
  refine⟨⟨fun kv hk=>?_,?_⟩,by rw[List.length_append];exact Nat.le_refl _⟩
  ·rcases List.mem_append.mp hk with z | z
   ·exact h.1 kv z
   ·exact⟨a,b,c,List.mem_singleton.mp z,ok⟩
  ·rw[List.map_append,List.nodup_append]
   refine⟨h.2,by simp,fun x hx y hy=>?_⟩
   have ey:y=[Sum.inl a,Sum.inl b]:=by simpa using hy
   subst ey
   intro z
   subst z
   obtain⟨q,hq,e⟩:=List.mem_map.mp hx
   exact ex (List.any_eq_true.mpr ⟨q,hq,decide_eq_true e⟩)
noncomputable def unkey(k:List Key):List Int:=k.map fun x=>match x with
 | .inl i=>i
 | .inr _=>0
theorem keys_of{n:Nat}:∀ {kvs:List (List Key×V)},(∀ kv∈kvs,KeyOk n kv)->kvs.map (·.1)=List.map (List.map Sum.inl) (kvs.map fun kv=>unkey kv.1)
 |[],_=>rfl
 |kv :: kvs,h=>by
  obtain⟨a,b,c,e,_⟩:=h kv (List.mem_cons_self ..)
  rw[List.map_cons,List.map_cons,List.map_cons,keys_of fun q hq=>h q (List.mem_cons_of_mem _ hq),e]
  rfl
theorem DInv.keys{n:Nat}{kvs:List (List Key×V)}(h:DInv n kvs):kvs.map (·.1)=List.map (List.map Sum.inl) (kvs.map fun kv=>unkey kv.1):=keys_of h.1
theorem DInv.nodup{n:Nat}{kvs:List (List Key×V)}(h:DInv n kvs):(kvs.map fun kv=>unkey kv.1).Nodup:=by
 have:=h.2
 rw[h.keys]at this
 unfold List.Nodup at this ⊢
 rw[List.pairwise_map]at this
 exact this.imp fun {x y} z e=>z (by rw[e])
theorem valV_mem{kvs:List (List Key×V)}{k:List Key}(h:k∈kvs.map (·.1)):∃ v,valV kvs k=some v/\(k,v)∈kvs:=by
 induction kvs with
 |nil=>cases h
 |cons q r ih =>
  by_cases e:q.1=k
  ·exact⟨q.2,valV_pos e,by rw[<- e];exact List.mem_cons_self ..⟩
  ·rw[List.map_cons]at h
   rcases List.mem_cons.mp h with z | z
   ·exact absurd z.symm e
   ·obtain⟨v,h1,h2⟩:=ih z
    exact⟨v,(valV_neg e).trans h1,List.mem_cons_of_mem _ h2⟩
noncomputable def spWeb:Sp:=fun vs H Q _=>∃ (p:Addr) (n N:Nat),vs=[.ref p,.int n]/\BoxAt H p N/\N+1000<2 ^ 40/\1<=n/\n<=30 /\
 ∀ (t:Addr) (ties:List Tie) (H':Hp),H t=none->WebAt H' t n ties->(∀ x∈ties,TieOk n x)->ties.Pairwise tieLt->BoxAt H' p (N+1000)->Kept p H H'->Q (.ref t) H'
structure WeightF(P:Program)(w:World)(K:PySem.W.Frag)(mg:Str->Option Value)(base:Heap)(g:Addr)(gd:FuncData):Prop where
 ok:FnOk P w K mg base CX0 2 g gd ["_law_box_here","_law_heavy"] spWeight
 mg:mg "_law_weight" = some (.ref g)
 kp:PySem.W.keepIn K (.ref g)=true
 bd:Binds K gd ["_law_box_here","_law_heavy"] []
structure WI(H:Hp)(p d:Addr)(n M c:Nat)(kvs:List (List Key×V))(H':Hp):Prop where
 box:BoxAt H' p M
 dic:H' d=some (.dT kvs)
 inv:DInv n kvs
 len:kvs.length<=c
 kep:Kept p H H'
theorem WI.keep{H H' H'':Hp}{p d:Addr}{n M M' c:Nat}{kvs:List (List Key×V)}(W:WI H p d n M c kvs H')(dp:d≠p)(k:Kept p H' H'')(B:BoxAt H'' p M'):WI H p d n M' c kvs H'' :=
 ⟨B,k d _ dp W.dic,W.inv,W.len,W.kep.trans k⟩
theorem WI.mono{H H':Hp}{p d:Addr}{n M M' c c':Nat}{kvs:List (List Key×V)}(W:WI H p d n M c kvs H')(h:M<=M')(h2:c<=c'):WI H p d n M' c' kvs H' :=
 ⟨W.box.mono h,W.dic,W.inv,Nat.le_trans W.len h2,W.kep⟩
theorem WI.new{H H':Hp}{p d q:Addr}{n M c:Nat}{kvs:List (List Key×V)}{o:HO}(W:WI H p d n M c kvs H')(h:H' q=none):WI H p d n M c kvs (upd H' q o) :=
 ⟨W.box.new h,by rw[upd_ne (ne_of_none W.dic h)];exact W.dic,W.inv,W.len,W.kep.trans (Kept.new h)⟩
theorem WI.put{H H':Hp}{p d:Addr}{n M c:Nat}{kvs:List (List Key×V)}(W:WI H p d n M c kvs H')(dp:d≠p)(hd:H d=none){a b x:Int}(ok:TieOk n (a,b,x)):WI H p d n M (c+1) (putK kvs [Sum.inl a,Sum.inl b] (V.int x)) (upd H' d (.dT (putK kvs [Sum.inl a,Sum.inl b] (V.int x)))) :=
 ⟨W.box.put dp,upd_same,(W.inv.put ok).1,Nat.le_trans (W.inv.put ok).2 (Nat.succ_le_succ W.len),W.kep.put hd⟩
section
variable{P:Program}{w:World}{K:PySem.W.Frag}{mg:Str->Option Value}{base:Heap}
noncomputable abbrev nWeb:List Str:=["_law_box_here","_law_many_here","_law_heavy","_law_ties","_law_place","_law_turn","_law_one","_law_other"]
theorem scWeb:FnScope nWeb ["_law_box_here","_law_many_here"] (defScope sWeb):=⟨rfl,rfl,rfl,by decide +kernel,rfl,by decide +kernel,by decide +kernel⟩
theorem csWeb:CompScope ["_law_pair","_law_ties"] [none,some 3] nWeb (defScope sWeb) { kind:=.function,names:=[(".0",.local),("_law_pair",.local),("_law_ties",.free)],isGenerator:=false,isCoroutine:=false } :=
 ⟨rfl,by decide +kernel,by decide +kernel,by decide +kernel,rfl,capB_ok (by decide +kernel)⟩
theorem ndWeb:(["_law_pair","_law_ties"]:List Str).Nodup:=by decide +kernel
theorem ok_web{f g g2:Addr}{fd gd gd2:FuncData}(F:Fun K "_law_web" "_law_web" sWeb f fd)(T:Txt mg)(G:TakeF P w K mg base g gd)(G2:WeightF P w K mg base g2 gd2):FnOk P w K mg base CX0 3 f fd ["_law_box_here","_law_many_here"] spWeb:=by
 refine F.ok scWeb (fun vs H Q E h=>?_) (fun cdv A outer s H vs Q E hr h=>?_)
 ·obtain⟨p,n,N,rfl,_⟩:=h
  rfl
 ·obtain⟨p,n,N,rfl,B,hN,n1,n30,q⟩:=h
  have hu:=hu_of hr
  have hr1:Room 1 _:=hr.mono (by decide)
  refine⟨_,pss_cons (ps_set (i:=2) scWeb.nd rfl (Or.inl rfl) (pe_call G.ok hr1 rfl G.mg G.kp G.bd .nil pass0 (@pa_nam _ _ _ _ _ _ (pv 0) (@pa_cst _ _ _ _ _ _ _ pe_int pa_nil))))
   (pss_cons (ps_set (i:=3) scWeb.nd rfl (Or.inr rfl) pe_dnewT)
   (pss_cons (ps_for PassesOwn.never rfl (pi_range2 rfl T.range (@pa_cst _ _ _ _ _ _ _ pe_int (@pa_nam _ _ _ _ _ _ (pv 1) pa_nil))) (pg_name (i:=4) scWeb.nd rfl (Or.inl rfl))
    (pss_one (ps_if (pt_cmpR op_gt (pe_call G.ok hr1 rfl G.mg G.kp G.bd .nil pass0 (@pa_nam _ _ _ _ _ _ (pv 0) (@pa_cst _ _ _ _ _ _ _ pe_int pa_nil))) pe_int (nomark _))
     (pss_one (ps_dput hu (pv 3) (@pe_tup _ _ _ _ _ (@pa_call _ _ _ _ _ _ _ _ (pe_call G.ok hr1 rfl G.mg G.kp G.bd .nil pass0 (@pa_nam _ _ _ _ _ _ (pv 0) (@pa_nam _ _ _ _ _ _ (pv 4) pa_nil))) (@pa_nam _ _ _ _ _ _ (pv 4) pa_nil))) (pe_call G2.ok hr rfl G2.mg G2.kp G2.bd .nil pass0 (@pa_nam _ _ _ _ _ _ (pv 0) (@pa_nam _ _ _ _ _ _ (pv 2) pa_nil))) rfl)) pss_nil)))
   (pss_cons (ps_for PassesOwn.never rfl (pi_range1 rfl T.range (@pa_call _ _ _ _ _ _ _ _ (pe_callB (call_min2 rfl) (by rfl) T.min boot_min (@pa_call _ _ _ _ _ _ _ _ (pe_call G.ok hr1 rfl G.mg G.kp G.bd .nil pass0 (@pa_nam _ _ _ _ _ _ (pv 0) (@pa_bin _ _ _ _ _ _ _ _ (pe_op op_add (pe_op op_mul pe_int (pv 1)) pe_int) pa_nil))) (@pa_bin _ _ _ _ _ _ _ _ (pe_op op_sub pe_int (pv 1)) pa_nil))) pa_nil)) (pg_name (i:=5) scWeb.nd rfl (Or.inl rfl))
    (pss_cons (ps_par rfl scWeb.nd (i:=6) (j:=7) rfl rfl (by decide) rfl rfl (@pa_call _ _ _ _ _ _ _ _ (pe_call G.ok hr1 rfl G.mg G.kp G.bd .nil pass0 (@pa_nam _ _ _ _ _ _ (pv 0) (@pa_nam _ _ _ _ _ _ (pv 1) pa_nil))) (@pa_call _ _ _ _ _ _ _ _ (pe_call G.ok hr1 rfl G.mg G.kp G.bd .nil pass0 (@pa_nam _ _ _ _ _ _ (pv 0) (@pa_nam _ _ _ _ _ _ (pv 1) pa_nil))) pa_nil)) rfl)
    (pss_one (ps_if (pt_cmpR op_ne (pv 6) (pv 7) (nomark _)) (pss_one (ps_dput hu (pv 3) (@pe_tup _ _ _ _ _ (@pa_call _ _ _ _ _ _ _ _ (pe_callB (call_min2 rfl) (by rfl) T.min boot_min (@pa_nam _ _ _ _ _ _ (pv 6) (@pa_nam _ _ _ _ _ _ (pv 7) pa_nil))) (@pa_call _ _ _ _ _ _ _ _ (pe_callB (call_max2 rfl) (by rfl) T.max boot_max (@pa_nam _ _ _ _ _ _ (pv 6) (@pa_nam _ _ _ _ _ _ (pv 7) pa_nil))) pa_nil))) (pe_call G2.ok hr rfl G2.mg G2.kp G2.bd .nil pass0 (@pa_nam _ _ _ _ _ _ (pv 0) (@pa_nam _ _ _ _ _ _ (pv 2) pa_nil))) rfl)) pss_nil))))
   (pss_one (ps_ret (@pe_tup _ _ _ _ _ (@pa_nam _ _ _ _ _ _ (pv 1) (@pa_call _ _ _ _ _ _ _ _ (pe_callTy call_tuple_of (by rfl) T.tuple boot_tuple (@pa_comp _ _ _ _ _ _ _ _ (pe_comp rfl csWeb
    (pi_list (pe_callB (call_sortedD rfl) (by rfl) T.sorted boot_sorted (@pa_nam _ _ _ _ _ _ (pv 3) pa_nil)))
    (fun C s H fp=>pg_name (i:=0) ndWeb rfl (Or.inl rfl)) (fun C s H fp=>pf_nil)
    (fun C s H fp=>pe_op (op_catTK K rfl) (pv 0) (@pe_tup _ _ _ _ _ (@pa_sub _ _ _ _ _ _ _ (pe_dget hu (pv 1) (pv 0) (fun _ _=>rfl)) pa_nil)))) pa_nil)) pa_nil)))))))),?_⟩
  refine⟨_,rfl,p,_,N,rfl,B,by lia,by decide,by decide,fun z H1 z0 z1 B1 k1=>?_⟩
  obtain⟨hh,rfl⟩:∃ hh:Nat,z=(hh:Int):=⟨z.toNat,by lia⟩
  have h4:hh<4:=by lia
  intro d hd
  have dp:d≠p:=B1.ne hd
  have hd0:H d=none:=k1.free B1 hd
  have W0:WI H p d n (N+1) 0 [] (upd H1 d (.dT [])):=⟨B1.new hd,upd_same,⟨fun _ h=>(nomatch h),List.nodup_nil⟩,Nat.le_refl _,k1.trans (Kept.new hd)⟩
  refine⟨_,rfl,1,(n:Int),rfl,⟨by decide,by decide,by lia,by lia⟩,?_⟩
  refine for_range (lo:=1) (n:=((n:Int)-1).toNat) (fun i σ H'=>∃ kvs v,σ=[some (.ref p),some (.int n),some (.int hh),some (.ref d),v,none,none,none]/\WI H p d n (N+1+4 * i) i kvs H') ⟨[],none,rfl,W0⟩ ?_ ?_
  ·rintro i σ H' hi ⟨kvs,v,rfl,W⟩
   have len:=W.len
   refine⟨_,rfl,p,_,_,rfl,W.box,by lia,by decide,by decide,fun z H3 y0 y1 B3 k3=>⟨_,_,rfl,rfl,_,rfl,?_⟩⟩
   have W3:=W.keep dp k3 B3
   refine ite2 (fun _=>?_) (fun _=>?_)
   ·refine⟨_,rfl,_,rfl,p,hh,_,rfl,h4,B3,by lia,fun x H4 x1 B4 k4=>⟨_,rfl,_,rfl,_,rfl,p,_,_,rfl,B4,by lia,by lia,by omega,fun a H5 a0 a1 B5 k5=>⟨_,rfl,(by show 2<=sizeLine;decide),fun tp htp=>?_⟩⟩⟩
    have W5:=((W3.keep dp k4 B4).keep dp k5 B5).new (o:=.tup [.int a,.int (1+(i:Int))]) htp
    refine⟨d,_,rfl,DPut.t (k:=[Sum.inl a,Sum.inl (1+(i:Int))]) W5.dic upd_same (by rw[sizeLine_eq];lia),?_⟩
    exact⟨_,_,rfl,(W5.put dp hd0 ⟨a0,by show a<1+(i:Int);omega,by show 1+(i:Int) <(n:Int);omega,x1⟩).mono (by lia) (by lia)⟩
   ·exact⟨_,_,rfl,W3.mono (by lia) (by lia)⟩
  ·rintro σ H' ⟨kvs,v,rfl,W⟩
   have len0:=W.len
   refine⟨_,rfl,_,rfl,_,_,rfl,rfl,.inl ⟨by decide,by decide⟩,_,_,rfl,rfl,p,_,_,rfl,W.box,by lia,by lia,by lia,fun z H3 y0 y1 B3 k3=>⟨_,rfl,_,_,rfl,rfl,_,_,rfl,_,rfl,?_,?_,?_⟩⟩
   ·split <;> lia
   ·split <;> lia
   have W3:=W.keep dp k3 B3
   have cb:(if 91-(n:Int)<z then 91-(n:Int)else z).toNat<=91-n:=by split <;> lia
   generalize (if 91-(n:Int)<z then 91-(n:Int)else z).toNat=cnt at cb
   refine for_range (lo:=0) (n:=cnt) (fun i σ H'=>∃ kvs v4 v5 v6 v7,σ=[some (.ref p),some (.int n),some (.int hh),some (.ref d),v4,v5,v6,v7]/\WI H p d n (N+200+4 * i) (n-1+i) kvs H') ⟨kvs,v,none,none,none,rfl,W3.mono (by lia) (by lia)⟩ ?_ ?_
   ·clear W W3 B3 k3 len0
    rintro i σ H' hi ⟨kvs,v4,v5,v6,v7,rfl,W⟩
    have len:=W.len
    refine⟨_,rfl,_,rfl,p,_,_,rfl,W.box,by lia,by lia,by lia,fun x H4 x0 x1 B4 k4=>⟨_,rfl,_,rfl,p,_,_,rfl,B4,by lia,by lia,by lia,fun y H5 w0 w1 B5 k5=>⟨_,_,rfl,?_⟩⟩⟩
    have W5:=(W.keep dp k4 B4).keep dp k5 B5
    refine⟨_,rfl,_,rfl,rfl,_,rfl,?_⟩
    refine ite2 (fun hxy=>?_) (fun _=>?_)
    ·have xy:x≠y:=fun z=>by rw[z]at hxy;simp at hxy
     refine⟨_,rfl,_,rfl,p,hh,_,rfl,h4,B5,by lia,fun c H6 c1 B6 k6=>⟨_,rfl,_,rfl,_,rfl,_,_,rfl,_,rfl,_,rfl,_,_,rfl,(by show 2<=sizeLine;decide),fun tp htp=>?_⟩⟩
     have W6:=(W5.keep dp k6 B6).new (o:=.tup [.int (if y<x then y else x),.int (if y > x then y else x)]) htp
     refine⟨d,_,rfl,DPut.t (k:=[Sum.inl (if y<x then y else x),Sum.inl (if y > x then y else x)]) W6.dic upd_same (by rw[sizeLine_eq];lia),?_⟩
     refine⟨_,_,_,_,_,rfl,(W6.put dp hd0 ⟨?_,?_,?_,c1⟩).mono (by lia) (by lia)⟩
     ·show(0:Int)<=if y<x then y else x
      split <;> omega
     ·show(if y<x then y else x) <(if y > x then y else x)
      split <;> split <;> omega
     ·show(if y > x then y else x) <(n:Int)
      split <;> omega
    ·exact⟨_,_,_,_,_,rfl,W5.mono (by lia) (by lia)⟩
   ·clear W W3 B3 k3 len0
    rintro σ H' ⟨kvs,v4,v5,v6,v7,rfl,W⟩
    have len:=W.len
    refine⟨_,rfl,_,rfl,d,kvs,kvs.map (fun kv=>unkey kv.1),rfl,W.dic,W.inv.keys,fun k hk=>?_,by lia,fun l as ns hl perm pw pt=>⟨l,rfl,⟨_,SqL.of upd_same⟩,?_⟩⟩
    ·obtain⟨kv,hkv,rfl⟩:=List.mem_map.mp hk
     obtain⟨a,b,c,e,_⟩:=W.inv.1 kv hkv
     rw[e]
     exact fun z=>nomatch z
    have W1:=W.new (o:=.lst (as.map V.ref)) hl
    have lenA:as.length=ns.length:=pt.length
    have lenN:ns.length=kvs.length:=by rw[perm.length_eq,List.length_map]
    -- each key is there
    have keyAt:∀ i (h1:i<as.length),∃ a b c:Int,H' as[i]=some (.tup [.int a,.int b])/\valV kvs [Sum.inl a,Sum.inl b]=some (V.int c)/\TieOk n (a,b,c)/\ns[i]?=some [a,b]:=fun i h1=>by
     have h2:i<ns.length:=by lia
     have e1:=Paired.at pt i h1 h2
     have m1:ns[i]∈kvs.map (fun kv=>unkey kv.1):=perm.mem_iff.mp (List.getElem_mem h2)
     obtain⟨kv,hkv,e2⟩:=List.mem_map.mp m1
     obtain⟨a,b,c,e3,ok⟩:=W.inv.1 kv hkv
     rw[e3]at e2
     have e4:ns[i]=[a,b]:=e2.symm
     rw[e4]at e1
     have m2:[Sum.inl a,Sum.inl b]∈kvs.map (·.1):=List.mem_map.mpr ⟨kv,hkv,by rw[e3]⟩
     obtain⟨v,v1,v2⟩:=valV_mem m2
     obtain⟨a',b',c',e5,ok'⟩:=W.inv.1 _ v2
     cases e5
     exact⟨a,b,c',e1,v1,ok',by rw[List.getElem?_eq_getElem h2,e4]⟩
    refine comp_list (K:=K) (a:=l) (xs:=as.map V.ref) (fun i ys G=>Same (upd H' l (.lst (as.map V.ref))) G/\∃ (bs:List Addr) (tl:List Tie),ys=bs.map V.ref/\Paired (fun b x=>G b=some (.tup (tieV x))) bs tl/\(∀ x∈tl,TieOk n x)/\tl.map (fun x=>[x.1,x.2.1])=ns.take i) (by rw[List.length_map,sizeLine_eq];lia) ⟨Same.refl _,[],[],rfl,.nil,(fun _ h=>nomatch h),rfl⟩ (fun i ys G _ pp=>pp.1.seq (SqL.of upd_same)) ?_ ?_
    ·rintro i x ys G hi ⟨sm,bs,tl,rfl,pr,oks,eks⟩
     obtain⟨il,e⟩:=List.getElem?_eq_some_iff.mp hi
     rw[List.length_map]at il
     rw[List.getElem_map]at e
     subst e
     obtain⟨a,b,c,ha,hv,ok,nsi⟩:=keyAt i il
     have ha2:G as[i]=some (.tup [.int a,.int b]):=sm _ _ (by rw[upd_ne (ne_of_none ha hl)];exact ha)
     have hd2:G d=some (.dT kvs):=sm _ _ W1.dic
     have g0:DGet G d (V.ref as[i]) (valV kvs [Sum.inl a,Sum.inl b]):=DGet.t hd2 ha2
     rw[hv]at g0
     refine⟨⟨rfl,trivial⟩,tTru_if ?_⟩
     refine⟨_,rfl,_,rfl,_,rfl,d,_,rfl,g0,(by show 1<=sizeLine;decide),fun t1 ht1=>⟨as[i],t1,[.int a,.int b],[.int c],rfl,rfl,SqT.of (by rw[upd_ne (ne_of_none ha2 ht1)];exact ha2),SqT.of upd_same,(fun z=>nomatch z),(by show 3<=sizeLine;decide),(fun z=>nomatch z),fun _ t2 ht2=>?_⟩⟩
     have sm2:Same G (upd (upd G t1 (.tup [.int c])) t2 (.tup ([.int a,.int b]++[.int c]))):=(Same.new ht1).trans (Same.new ht2)
     refine⟨sm.trans sm2,bs++[t2],tl++[(a,b,c)],by rw[List.map_append];rfl,?_,fun x hx=>?_,?_⟩
     ·refine Paired.snoc (Paired.mapP pr fun b x e=>sm2 _ _ e) upd_same
     ·rcases List.mem_append.mp hx with z | z
      ·exact oks x z
      ·rw[List.mem_singleton.mp z];exact ok
     ·obtain⟨ni,ne⟩:=List.getElem?_eq_some_iff.mp nsi
      rw[List.map_append,eks,List.take_succ_eq_append_getElem ni,ne]
      rfl
    ·rintro ys G yl ⟨sm,bs,tl,rfl,pr,oks,eks⟩ D hD
     rw[List.length_map]at yl
     refine⟨D,_,rfl,.inl ⟨SqL.of upd_same,fun ts hts=>⟨(by show 2<=sizeLine;decide),fun t ht=>?_⟩⟩⟩
     have s1:Same G (upd G D (.lst (bs.map V.ref))):=Same.new hD
     have s2:Same (upd G D (.lst (bs.map V.ref))) (upd (upd G D (.lst (bs.map V.ref))) ts (.tup (bs.map V.ref))):=Same.new hts
     have s3:=Same.new (o:=.tup [.int n,.ref ts]) ht
     have sA:=sm.trans (s1.trans (s2.trans s3))
     have kA:Kept p H (upd (upd (upd G D (.lst (bs.map V.ref))) ts (.tup (bs.map V.ref))) t (.tup [.int n,.ref ts])):=W1.kep.trans fun b o _ e=>sA b o e
     have bA:BoxAt (upd (upd (upd G D (.lst (bs.map V.ref))) ts (.tup (bs.map V.ref))) t (.tup [.int n,.ref ts])) p (N+1000):=by
      obtain⟨a,b,c,e,r1,r2,r3⟩:=W1.box
      exact⟨a,b,c,sA _ _ e,r1,r2,by lia⟩
     refine q t tl _ ?_ ⟨⟨ts,bs,upd_same,s3 _ _ upd_same,Paired.mapP pr fun b x e=>s3 _ _ (s2 _ _ (s1 _ _ e))⟩,?_⟩ oks ?_ bA kA
     ·have f1:H' t=none:=(Same.new hl).free (sm.free (s1.free (s2.free ht)))
      exact W.kep.free W.box f1
     ·have:=pr.length
      rw[List.length_map]at yl
      lia
     ·rw[List.take_of_length_le (by rw[List.length_map];lia)]at eks
      have nd:ns.Nodup:=perm.nodup_iff.mpr W.inv.nodup
      have st:ns.Pairwise (fun x y=>Srt.lexlt x y=true):=(pw.and nd).imp fun {x y} z=>by
       cases e:Srt.lexlt x y with
       |true=>rfl
       |false=>exact absurd (Srt.lexlt_total x y e z.1) z.2
      rw[<- eks,List.pairwise_map]at st
      exact st
end
open PySem L2 PyProof.Rows
inductive Rch(ties:List Tie):Int->Int->Prop
 |refl (a:Int):Rch ties a a
 |up {a b c w:Int}:(a,b,w)∈ties->Rch ties b c->Rch ties a c
 |dn {a b c w:Int}:(a,b,w)∈ties->Rch ties a c->Rch ties b c
theorem Rch.trans{ties:List Tie}{a b c:Int}(h:Rch ties a b):Rch ties b c->Rch ties a c:=by
 induction h with
 |refl=>exact id
 |up m _ ih=>exact fun z=>.up m (ih z)
 |dn m _ ih=>exact fun z=>.dn m (ih z)
theorem Rch.symm{ties:List Tie}{a b:Int}(h:Rch ties a b):Rch ties b a:=by
 induction h with
 |refl=>exact .refl _
 |up m _ ih=>exact ih.trans (.dn m (.refl _))
 |dn m _ ih=>exact ih.trans (.up m (.refl _))
theorem Rch.inv{ties:List Tie}{α:Type}{f:Int->α}(h:∀ a b w,(a,b,w)∈ties->f a=f b){a b:Int}(r:Rch ties a b):f a=f b:=by
 induction r with
 |refl=>rfl
 |up m _ ih=>exact(h _ _ _ m).trans ih
 |dn m _ ih=>exact(h _ _ _ m).symm.trans ih
theorem Rch.range{ties:List Tie}{n:Nat}(ok:∀ x∈ties,TieOk n x){a b:Int}(r:Rch ties a b):0<=a->a<n->0<=b/\b<n:=by
 induction r with
 |refl=>exact fun h1 h2=>⟨h1,h2⟩
 | @up a b c w m _ ih =>
  obtain⟨o1,o2,o3,_⟩:=ok _ m
  have o1:0<=a:=o1
  have o2:a<b:=o2
  intro _ _
  exact ih (by lia) o3
 | @dn a b c w m _ ih =>
  obtain⟨o1,o2,o3,_⟩:=ok _ m
  have o2:a<b:=o2
  have o3:b <(n:Int):=o3
  intro _ _
  exact ih o1 (by lia)
noncomputable def hAt(hs:List Int)(i:Int):Int:=hs.getD i.toNat 0
theorem hAt_nat{hs:List Int}{i:Nat}(h:i<hs.length):hAt hs (i:Int)=hs[i]:=by
 unfold hAt
 rw[Int.toNat_natCast,List.getD_eq_getElem?_getD,List.getElem?_eq_getElem h]
 rfl
structure IsHeads(n:Nat)(ties:List Tie)(hs:List Int):Prop where
 len:hs.length=n
 rch:∀ i:Int,0<=i->i<n->Rch ties i (hAt hs i)
 least:∀ i:Int,0<=i->i<n->∀ j,Rch ties i j->hAt hs i<=j
theorem IsHeads.uniq{n:Nat}{ties:List Tie}{hs gs:List Int}(h:IsHeads n ties hs)(g:IsHeads n ties gs):hs=gs:=by
 refine List.ext_getElem (h.len.trans g.len.symm) fun i h1 h2=>?_
 have e1:=hAt_nat h1
 have e2:=hAt_nat h2
 have hn:=h.len
 have a:=h.least i (by lia) (by lia) _ (g.rch i (by lia) (by lia))
 have b:=g.least i (by lia) (by lia) _ (h.rch i (by lia) (by lia))
 lia
noncomputable def besideOf(ties:List Tie)(i:Int):List (Int×Int):=ties.flatMap fun x=>if x.1=i then [(x.2.1,x.2.2)]else if x.2.1=i then [(x.1,x.2.2)]else []
theorem besideOf_snoc{ties:List Tie}{x:Tie}{i:Int}:besideOf (ties++[x]) i=besideOf ties i++if x.1=i then [(x.2.1,x.2.2)]else if x.2.1=i then [(x.1,x.2.2)]else []:=by
 unfold besideOf
 rw[List.flatMap_append,List.flatMap_cons,List.flatMap_nil,List.append_nil]
theorem mem_beside{ties:List Tie}{n:Nat}(ok:∀ x∈ties,TieOk n x){i f w:Int}:(f,w)∈besideOf ties i↔(i,f,w)∈ties\/(f,i,w)∈ties:=by
 unfold besideOf
 rw[List.mem_flatMap]
 refine⟨fun⟨x,hx,h⟩=>?_,fun h=>?_⟩
 ·obtain⟨a,b,c⟩:=x
  by_cases e:a=i
  ·rw[if_pos e]at h
   have:=List.mem_singleton.mp h
   injection this with e1 e2
   left
   rw[<- e,e1,e2]
   exact hx
  ·rw[if_neg e]at h
   by_cases e':b=i
   ·rw[if_pos e']at h
    have:=List.mem_singleton.mp h
    injection this with e1 e2
    right
    rw[<- e',e1,e2]
    exact hx
   ·rw[if_neg e']at h
    cases h
 ·rcases h with h | h
  ·exact⟨_,h,by rw[if_pos rfl];exact List.mem_singleton.mpr rfl⟩
  ·have:=(ok _ h).2.1
   have ne:f≠i:=by
    intro z
    rw[z]at this
    exact absurd this (Int.lt_irrefl _)
   exact⟨_,h,by rw[if_neg ne,if_pos rfl];exact List.mem_singleton.mpr rfl⟩
theorem beside_len:∀ (ties:List Tie) (i:Int),(besideOf ties i).length<=ties.length
 |[],_=>Nat.le_refl _
 |x :: r,i=>by
  unfold besideOf
  rw[List.flatMap_cons,List.length_append]
  have:=beside_len r i
  unfold besideOf at this
  have h2:(if x.1=i then [(x.2.1,x.2.2)]else if x.2.1=i then [(x.1,x.2.2)]else []).length<=1:=by
   split
   ·exact Nat.le_refl _
   ·split
    ·exact Nat.le_refl _
    ·exact Nat.zero_le _
  simp only[List.length_cons]
  lia
noncomputable def oV:Option Int->V
 |none=>.non
 |some i=>.int i
noncomputable def oAt(hv:List (Option Int))(i:Int):Option Int:=(hv[i.toNat]?).join
theorem oAt_set{hv:List (Option Int)}{j:Nat}{x:Option Int}(hj:j<hv.length)(i:Int)(h0:0<=i):oAt (hv.set j x) i=if i=(j:Int)then x else oAt hv i:=by
 unfold oAt
 by_cases e:i=(j:Int)
 ·subst e
  rw[if_pos rfl,Int.toNat_natCast,List.getElem?_set_self hj]
  rfl
 ·rw[if_neg e,List.getElem?_set_ne (by lia)]
theorem oAt_get{hv:List (Option Int)}{j:Nat}(hj:j<hv.length):hv[j]?=some (oAt hv j):=by
 unfold oAt
 rw[Int.toNat_natCast,List.getElem?_eq_getElem hj]
 rfl
theorem nones_set:∀ {hv:List (Option Int)}{j:Nat}{x:Int},hv[j]?=some none->(hv.set j (some x)).countP (·.isNone)+1=hv.countP (·.isNone)
 |[],_,_,h=>by simp at h
 |a :: r,0,x,h=>by
  have e:a=none:=by simpa using h
  subst e
  simp
 |a :: r,j+1,x,h=>by
  have ih:=nones_set (hv:=r) (j:=j) (x:=x) (by simpa using h)
  rw[List.set_cons_succ,List.countP_cons,List.countP_cons]
  lia
noncomputable def Clo(ties:List Tie)(hv:List (Option Int)):Prop:=∀ a b w,(a,b,w)∈ties->oAt hv a=oAt hv b
structure SI(n:Nat)(ties:List Tie)(h0 hv:List (Option Int))(head:Int)(ws:List Int):Prop where
 len:hv.length=n
 old:∀ v:Int,0<=v->v<n->oAt h0 v≠none->oAt hv v=oAt h0 v
 new:∀ v:Int,0<=v->v<n->oAt h0 v=none->oAt hv v=none\/(oAt hv v=some head/\Rch ties head v)
 hd:oAt hv head=some head
 wait:∀ w∈ws,0<=w/\w<n/\oAt h0 w=none/\oAt hv w=some head
noncomputable def Done(ties:List Tie)(hv:List (Option Int))(v:Int):Prop:=∀ x∈besideOf ties v,oAt hv x.1≠none
structure Sprd(n:Nat)(ties:List Tie)(h0 hv:List (Option Int))(head:Int):Prop where
 si:SI n ties h0 hv head []
 clo:Clo ties hv
theorem SI.fin{n:Nat}{ties:List Tie}{h0 hv:List (Option Int)}{head:Int}(S:SI n ties h0 hv head [])(ok:∀ x∈ties,TieOk n x)(cl:Clo ties h0)(dn:∀ v:Int,0<=v->v<n->oAt h0 v=none->oAt hv v≠none->Done ties hv v):Sprd n ties h0 hv head:=by
 refine⟨S,fun a b w m=>?_⟩
 obtain⟨o1,o2,o3,_⟩:=ok _ m
 have o2:a<b:=o2
 have o3:b <(n:Int):=o3
 have o1:0<=a:=o1
 have c:=cl a b w m
 by_cases z:oAt h0 a=none
 ·have zb:oAt h0 b=none:=by rw[<- c];exact z
  rcases S.new a o1 (by lia) z with p |⟨p,_⟩
  ·rcases S.new b (by lia) o3 zb with q |⟨q,_⟩
   ·rw[p,q]
   ·exact absurd p (dn b (by lia) o3 zb (by rw[q];exact fun z=>nomatch z) (a,w) ((mem_beside ok).mpr (.inr m)))
  ·rcases S.new b (by lia) o3 zb with q |⟨q,_⟩
   ·exact absurd q (dn a o1 (by lia) z (by rw[p];exact fun z=>nomatch z) (b,w) ((mem_beside ok).mpr (.inl m)))
   ·rw[p,q]
 ·rw[S.old a o1 (by lia) z,S.old b (by lia) o3 (by rw[<- c];exact z),c]
theorem SI.put{n:Nat}{ties:List Tie}{h0 hv:List (Option Int)}{head:Int}{ws:List Int}{j:Nat}(S:SI n ties h0 hv head ws)(hj:j<n)(z:oAt hv j=none)(r:Rch ties head j):SI n ties h0 (hv.set j (some head)) head (ws++[(j:Int)]):=by
 have hl:j<hv.length:=by rw[S.len];exact hj
 have z0:oAt h0 j=none:=by
  cases e:oAt h0 j with
  |none=>rfl
  |some y =>
   have:=S.old j (by lia) (by lia) (by rw[e];exact fun z=>nomatch z)
   rw[z,e]at this
   cases this
 refine⟨by rw[List.length_set];exact S.len,fun v v0 v1 hv'=>?_,fun v v0 v1 hv'=>?_,?_,fun w hw=>?_⟩
 ·rw[oAt_set hl v v0]
  split
  ·rename_i e
   rw[e]at hv'
   exact absurd z0 hv'
  ·exact S.old v v0 v1 hv'
 ·rw[oAt_set hl v v0]
  split
  ·rename_i e
   subst e
   exact .inr ⟨rfl,r⟩
  ·exact S.new v v0 v1 hv'
 ·by_cases h0':0<=head
  ·rw[oAt_set hl head h0']
   split
   ·rfl
   ·exact S.hd
  ·have hd:=S.hd
   have t:head.toNat=0:=by lia
   unfold oAt at hd ⊢
   rw[t]at hd ⊢
   by_cases j0:j=0
   ·subst j0
    rw[List.getElem?_set_self hl]
    rfl
   ·rw[List.getElem?_set_ne j0]
    exact hd
 ·rcases List.mem_append.mp hw with m | m
  ·obtain⟨a,b,c,d⟩:=S.wait w m
   refine⟨a,b,c,?_⟩
   rw[oAt_set hl w a]
   split
   ·rfl
   ·exact d
  ·have e:=List.mem_singleton.mp m
   subst e
   exact⟨by lia,by lia,z0,by rw[oAt_set hl _ (by lia),if_pos rfl]⟩
theorem Done.mono{ties:List Tie}{hv:List (Option Int)}{n:Nat}{head:Int}{j:Nat}(ok:∀ x∈ties,TieOk n x)(hj:j<hv.length){v:Int}(d:Done ties hv v):Done ties (hv.set j (some head)) v:=fun x hx=>by
 have x0:0<=x.1:=by
  obtain⟨f,w⟩:=x
  rcases(mem_beside ok).mp hx with m | m
  ·obtain⟨o1,o2,_⟩:=ok _ m
   have o1:0<=v:=o1
   have o2:v<f:=o2
   show 0<=f
   lia
  ·exact(ok _ m).1
 rw[oAt_set hj _ x0]
 split
 ·exact fun z=>nomatch z
 ·exact d x hx
structure HI(n:Nat)(ties:List Tie)(hv:List (Option Int))(k:Nat):Prop where
 len:hv.length=n
 clo:Clo ties hv
 rch:∀ v h:Int,0<=v->v<n->oAt hv v=some h->Rch ties v h/\∀ j,Rch ties v j->h<=j
 all:∀ v:Int,0<=v->v<k->oAt hv v≠none
theorem HI.skip{n:Nat}{ties:List Tie}{hv:List (Option Int)}{k:Nat}(S:HI n ties hv k)(h:oAt hv k≠none):HI n ties hv (k+1) :=
 ⟨S.len,S.clo,S.rch,fun v v0 v1=>by
  by_cases e:v=(k:Int)
  ·rw[e];exact h
  ·exact S.all v v0 (by lia)⟩
theorem HI.next{n:Nat}{ties:List Tie}{h0 hv:List (Option Int)}{k:Nat}(ok:∀ x∈ties,TieOk n x)(S:HI n ties h0 k)(kn:k<n)(D:Sprd n ties h0 hv k):HI n ties hv (k+1):=by
 refine⟨D.si.len,D.clo,fun v h v0 v1 e=>?_,fun v v0 v1=>?_⟩
 ·by_cases z:oAt h0 v=none
  ·rcases D.si.new v v0 v1 z with q |⟨q,r⟩
   ·rw[q]at e
    cases e
   ·rw[q]at e
    injection e with e
    subst e
    refine⟨r.symm,fun j hj=>?_⟩
    obtain⟨j0,j1⟩:=hj.range ok v0 v1
    have c:oAt h0 v=oAt h0 j:=Rch.inv S.clo hj
    rw[z]at c
    by_cases lt:j <(k:Int)
    ·exact absurd c.symm (S.all j j0 lt)
    ·lia
  ·rw[D.si.old v v0 v1 z]at e
   exact S.rch v h v0 v1 e
 ·by_cases e:v=(k:Int)
  ·rw[e,D.si.hd]
   exact fun z=>nomatch z
  ·have:=S.all v v0 (by lia)
   rw[D.si.old v v0 (by lia) this]
   exact this
theorem HI.fin{n:Nat}{ties:List Tie}{hv:List (Option Int)}(S:HI n ties hv n):∃ hs:List Int,hv=hs.map some/\IsHeads n ties hs:=by
 have all:∀ x∈hv,x≠none:=fun x hx=>by
  obtain⟨i,hi,e⟩:=List.getElem_of_mem hx
  have:=S.all i (by lia) (by have:=S.len;lia)
  have g:=oAt_get hi
  rw[List.getElem?_eq_getElem hi]at g
  injection g with g
  rw[<- e,g]
  exact this
 have ex:hv=(hv.map (·.getD 0)).map some:=by
  rw[List.map_map]
  have:hv.map (some ∘ fun x=>x.getD 0)=hv.map id:=List.map_congr_left fun x hx=>by
   cases e:x with
   |none=>exact absurd e (all x hx)
   |some y=>rfl
  rw[this,List.map_id]
 have at':∀ i:Int,0<=i->i<n->oAt hv i=some (hAt (hv.map (·.getD 0)) i):=fun i i0 i1=>by
  obtain⟨j,rfl⟩:∃ j:Nat,i=(j:Int):=⟨i.toNat,by lia⟩
  have jl:j <(hv.map (·.getD 0)).length:=by rw[List.length_map,S.len];lia
  rw[hAt_nat jl]
  have e2:(hv.map (·.getD 0))[j]=(oAt hv j).getD 0:=by
   rw[List.getElem_map]
   have jl2:j<hv.length:=by rw[S.len];lia
   have g:=oAt_get jl2
   rw[List.getElem?_eq_getElem jl2]at g
   injection g with g
   rw[g]
  rw[e2]
  cases e:oAt hv j with
  |none=>exact absurd e (S.all j (by omega) (by omega))
  |some y=>rfl
 exact⟨_,ex,by rw[List.length_map];exact S.len,fun i i0 i1=>(S.rch i _ i0 i1 (at' i i0 i1)).1,fun i i0 i1=>(S.rch i _ i0 i1 (at' i i0 i1)).2⟩
end K07
namespace L2
open PySem PySem.W PyProof.Rows Srt
open PySem PySem.Spec PySem.W PyProof.Rows
theorem keys_list:typeLookup (.type "list") "keys" = pure none:=by rw[typeLookup_type,builtinLookup_eq_fast];kernel_rfl
theorem attrq_keys_list{prog:Program}{w:World}{A:Around}{E:Value->Shared->Prop}{s:Shared}{a:Addr}{o:Obj}{xs:Array Value}{k:Nat}{Q:Option Value->Shared->Prop}
  (hx:s.heap.get? a=some o) (hc:o.cls = .type "list") (hdat:o.data = .seq xs k) (hd:o.dict=none) (hA:A.handled=none)
  (h:∀ h' tk,(∀ b ob,s.heap.get? b=some ob->h'.get? b=some ob)->Q none { s with heap:=h',toks:=tk }):wpAny (model prog w) A (getAttr? (.ref a) "keys") Q E s:=by
 obtain⟨cc,dct,dat,sl⟩:=o
 simp only at hc hdat hd
 subst hc hdat hd
 obtain⟨hp,gg,dr,tc,oo⟩:=s
 have ty:∀ tn,(⟨hp,gg,dr,tn,oo⟩:Shared).TypeIs (.ref a) "list":=fun _=>⟨_,hx,rfl⟩
 have q1:=sub_AttributeError;have q2:=F.slot_list_getattribute.lookup;have q3:=F.slot_list_getattribute.bind (.ref a);have q4:=am_list_getattr_none
 unfold getAttr?;unfold getAttrBy?;unfold getAttrBy
 repeat (any_goals (first | assumption | exact ty _ |((with_reducible show wpAny _ _ (call (Value.builtin "list.__getattribute__") _ _) _ _ _);refine call_meets F.slot_list_getattribute (ty _) am_entry_list_getattribute (F.args_list_getattribute_2 _ _) (meets_getattribute_miss_list a xs k sl "keys" _ keys_list (by decide)) ⟨hx,hA,fun h2 tk2 e miss=>?_⟩) | wp_step))
 obtain⟨t1,u1,at1⟩:=miss.there
 show wpAny _ _ (getattributeRaised _ _ _ _ _ _ _) _ _ _;unfold getattributeRaised
 (repeat (any_goals (first | assumption | wp_step)));exact h _ _ miss.of.keeps
open PySem PySem.Spec PySem.W PyProof.Rows
open PySem PySem.Spec PySem.W PyProof.Rows
noncomputable def putPs(ps:List (List Key×Addr×V)):List (List Key×V):=ps.foldl (fun kvs x=>putK kvs x.1 x.2.2) []
theorem putPs_snoc{ps:List (List Key×Addr×V)}{x:List Key×Addr×V}:putPs (ps++[x])=putK (putPs ps) x.1 x.2.2:=by
 unfold putPs
 rw[List.foldl_append]
 rfl
theorem putPs_len:∀ (ps:List (List Key×Addr×V)) (kvs:List (List Key×V)),(ps.foldl (fun kvs x=>putK kvs x.1 x.2.2) kvs).length<=kvs.length+ps.length
 |[],kvs=>Nat.le_refl _
 |x :: r,kvs=>by
  have:=putPs_len r (putK kvs x.1 x.2.2)
  have:=length_putK kvs x.1 x.2.2
  show(r.foldl (fun kvs x=>putK kvs x.1 x.2.2) (putK kvs x.1 x.2.2)).length<=_
  rw[List.length_cons]
  lia
section
variable{X:Cx}{pins:List (Addr×Obj)}{σ:St}{H:Hp}
theorem dict_loop(hc:X.calm=true)(hu:X.A.units+64<cLine){p d it:Addr}{bs:List Addr}{ps:List (List Key×Addr×V)}{its:List Value}{R:Result->Shared->Prop}(hd0:H d=none)(hSq:SqL X.K H p (bs.map V.ref))
  (hP:Paired (fun b (x:List Key×Addr×V)=>H b=some (.tup [.ref x.2.1,x.2.2])/\H x.2.1=some (.tup (x.1.map kV))) bs ps) (hl:ps.length<sizeLine) (hid:it≠d)
  (fin:∀ s',Inv X pins σ (upd H d (.dT (putPs ps))) s'->R (.ok (.ret .none)) s') :
  ∀ (m i:Nat) (s':Shared),m+i=ps.length->Inv X pins σ (upd H d (.dT (putPs (ps.take i)))) s'->FpOk X pins H it->s'.heap.IsListIter it p i ->
   codeAny (model X.prog X.w) X.A.in1 (.builtin "dict.update.loop" ⟨[.ref d,.ref it,rawInt i,.none],[]⟩) R s':=by
 intro m
 have lbs:bs.length=ps.length:=hP.length
 induction m with
 |zero =>
  intro i s' hm I fp hit
  have hS2:SqL X.K (upd H d (.dT (putPs (ps.take i)))) p (bs.map V.ref):=(Same.new hd0).seq hSq
  obtain⟨us,rv,pl,_⟩:=I.list hS2
  have ul:=rv.length
  rw[List.length_map]at ul
  refine codeAny_builtin (b:=Builtin.«dict.update.loop») (entryFor_of_tree (by kernel_rfl)) ?_
  unfold Builtin.«dict.update.loop»
  refine wpAny_bind (wpAny_pyNext_list_end (it:=it) (l:=p) (i:=i) (I.ok.hd hc) hit pl.isList (by simp;lia) fun h2 he2=>?_)
  refine wpAny_bind (wpAny_pure (wpAny_pure ?_))
  have I2:=I.turnedL (t':=s'.toks) (h':=h2) (ch:=[it]) (fun b hb=>by rw[List.mem_singleton.mp hb];exact⟨by rw[upd_ne hid];exact fp.1,fp.2⟩) (fun b o nb e=>he2 b o (fun z=>nb (by rw[z];exact List.mem_singleton.mpr rfl)) e)
  rw[List.take_of_length_le (by lia)]at I2
  exact fin _ I2
 |succ m ih =>
  intro i s' hm I fp hit
  have hS2:SqL X.K (upd H d (.dT (putPs (ps.take i)))) p (bs.map V.ref):=(Same.new hd0).seq hSq
  obtain⟨us,rv,pl,_⟩:=I.list hS2
  have ul:=rv.length
  rw[List.length_map]at ul
  have ib:i<bs.length:=by lia
  have ip:i<ps.length:=by lia
  obtain⟨hb,hk⟩:=Paired.at hP i ib ip
  have tk:ps.take (i+1)=ps.take i++[ps[i]]:=List.take_succ_eq_append_getElem ip
  generalize ps[i]=x at hb hk tk
  obtain⟨kk,ka,v⟩:=x
  obtain⟨u,hu',ru⟩:=rv.get (show(bs.map V.ref)[i]?=some (V.ref bs[i]) by rw[List.getElem?_map,List.getElem?_eq_getElem ib];rfl)
  cases ru
  refine codeAny_builtin (b:=Builtin.«dict.update.loop») (entryFor_of_tree (by kernel_rfl)) ?_
  unfold Builtin.«dict.update.loop»
  refine wpAny_bind (wpAny_pyNext_list_item (it:=it) (l:=p) (i:=i) hit pl.isList (x:=.ref bs[i]) (by simpa using hu') fun h1 hit1 sb1=>?_)
  have I1:=I.turnedL (t':=s'.toks) (h':=h1) (ch:=[it]) (fun b hb=>by rw[List.mem_singleton.mp hb];exact⟨by rw[upd_ne hid];exact fp.1,fp.2⟩) (fun b o nb e=>sb1.extBut b o (fun z=>nb (by rw[z];exact List.mem_singleton.mpr rfl)) e)
  have hb1:(upd H d (.dT (putPs (ps.take i)))) bs[i]=some (.tup [.ref ka,v]):=(Same.new hd0) _ _ hb
  have hk1:(upd H d (.dT (putPs (ps.take i)))) ka=some (.tup (kk.map kV)):=(Same.new hd0) _ _ hk
  obtain⟨_,its2,rv2,o2,e2,c2,n2,d2⟩:=I1.hok _ _ hb1
  obtain⟨u1,u2,eu,r1,r2⟩:=Vals.two rv2
  subst eu
  cases r1
  refine wpAny_bind ?_
  refine wpAny_holding ?_
  unfold Builtin.Dict.pairItems
  refine wpAny_bind (wpAny_tryCatch (wpAny_bind (wpAny_typeOf (T:="tuple") ⟨o2,e2,c2⟩ ?_)))
  rw[if_pos (by decide)]
  refine wpAny_bind (wpAny_seqItems e2 d2 (wpAny_pure ?_))
  show wpAny _ _ (holding [Value.ref ka,u2] (dictSet d (.ref ka) u2)) _ _ _
  refine wpAny_holding ?_
  have eH:(upd H d (.dT (putPs (ps.take i)))) d=some (.dT (putPs (ps.take i))):=upd_same
  obtain⟨z,hd,xs,rel,dd⟩:=dt_of I1.hok eH
  have hz:xs.length<=sizeLine:=by rw[<- Paired.length rel];exact z
  have hpl:(putPs (ps.take i)).length<=i:=by
   have:=putPs_len (ps.take i) []
   rw[List.length_take]at this
   show((ps.take i).foldl (fun kvs x=>putK kvs x.1 x.2.2) []).length<=i
   simp only[List.length_nil]at this
   lia
  have hlp:(putK (putPs (ps.take i)) kk v).length<=sizeLine:=by have:=length_putK (putPs (ps.take i)) kk v;lia
  have un:(X.A.in1.under (Code.builtin "dict.update.loop" ⟨[Value.ref d,Value.ref it,rawInt i,Value.none],[]⟩)).units<cLine:=by
   have e:(X.A.in1.under (Code.builtin "dict.update.loop" ⟨[Value.ref d,Value.ref it,rawInt i,Value.none],[]⟩)).units=X.A.units+1+1:=by first | rfl | simp[Around.under,Code.cUnits,Code.frames,Code.isFrame]
   rw[e]
   lia
  refine wpAny_dictSet_heap (knd:=tupleKind (mixKind X.prog X.w)) (hsz:=hz) un (key_of I1.hok hk1) dd fun h2 dd' hs=>?_
  obtain⟨q,es,ep,hq,g2,g3,g4,_,g5⟩:=dd'
  have I2:=d_write (t':=s'.toks+(tupleKind (mixKind X.prog X.w)).draws kk) (ob:=.dT (putK (putPs (ps.take i)) kk v)) I1 (by rw[eH];exact True.intro) hs ⟨q,hq⟩ ⟨hlp,hd,_,(rel.put kk hk1 r2).keeps fun c ys ec=>(by rw[upd_ne (ne_of ec eH (fun z=>nomatch z))];exact ec),q,es,ep,hq,g2,g3,g4,g5⟩
  rw[upd_upd]at I2
  have pe:putK (putPs (ps.take i)) kk v=putPs (ps.take (i+1)):=by rw[tk,putPs_snoc]
  rw[pe]at I2
  exact wpAny_pure ⟨plainId_quiet (by decide +kernel) _,ih (i+1) _ (by lia) I2 fp (Heap.IsListIter.at hit1 fun o e=>hs.extBut _ o hid e)⟩
end
theorem call_dict_pairs{X:Cx}(hc:X.calm=true)(hu:X.A.units+64<cLine):CallR X (.type "dict") (fun xs H Q=>∃ (p:Addr) (bs:List Addr) (ps:List (List Key×Addr×V)),xs=[.ref p]/\SqL X.K H p (bs.map V.ref) /\
  Paired (fun b (x:List Key×Addr×V)=>H b=some (.tup [.ref x.2.1,x.2.2])/\H x.2.1=some (.tup (x.1.map kV))) bs ps/\ps.length<sizeLine/\∀ l,H l=none->Q (.ref l) (upd H l (.dT (putPs ps)))):=by
 intro pins s σ H xs us Q I r h
 obtain⟨p,bs,ps,rfl,hq,hP,hl,q⟩:=h
 obtain⟨u,rfl,rx⟩:=Vals.one r
 cases rx
 obtain⟨its,r',pl,hz⟩:=I.list hq
 refine callType_codes (Q₁:=fun ob sn=>ob = .ref s.heap.objs.size/\sn = { s with heap:=s.heap.push { cls:=.type "dict",data:=.dict #[] } }) F.kt_called_dict (F.kt_typeCall_dict_1 _) F.entry_dict_init (kt_code_dict_new _ ⟨rfl,rfl⟩) ?_
 rintro ob sn ⟨rfl,rfl⟩
 have hL:(s.heap.push { cls:=.type "dict",data:=.dict #[] }).IsList p its.toArray:=Heap.IsList.at pl.isList fun o e=>Heap.get?_push_of_some _ e
 have hnew:(s.heap.push { cls:=.type "dict",data:=.dict #[] }).DictOf (mixKind X.prog X.w) s.heap.objs.size []:=Heap.DictOf.new s.heap
 refine⟨hnew.typeIs,F.args_dict_init_2 _ _,?_⟩;unfold Builtin.«dict.__init__»
 refine wpAny_bind ?_;unfold Builtin.Dict.selfAndRest;refine wpAny_bind (wpAny_notOrdered_dict hnew.typeIs ?_)
 show wpAny _ _ (pure (s.heap.objs.size,[Value.ref p])) _ _ _;refine wpAny_pure ?_
 show wpAny _ _ (Builtin.Dict.updateFrom "dict.__init__" s.heap.objs.size (.ref p) [] .none) _ _ _;unfold Builtin.Dict.updateFrom
 refine wpAny_bind (wpAny_typeOf hL.typeIs ?_)
 rw[if_pos (by decide)]
 obtain⟨ol,nl,hol,hcl,hdd,hdl⟩:=pl
 refine wpAny_bind (attrq_keys_list (Heap.get?_push_of_some _ hol) hcl hdl hdd (I.ok.hd hc) fun h' tk kp=>?_)
 simp only[Option.isNone_none,if_true]
 have hL':h'.IsList p its.toArray:=Heap.IsList.at hL fun o e=>kp _ o e
 refine wpAny_bind (wpAny_rule (wpAny_bind (wpAny_pyIter_list hL' ?_)))
 have kp1:∀ b o,s.heap.get? b=some o->(h'.push { cls:=.type "list_iterator",data:=.fields #[.ref p,.int 0 0] }).get? b=some o:=fun b o e=>Heap.get?_push_of_some _ (kp _ _ (Heap.get?_push_of_some _ e))
 have g1:h'.get? s.heap.objs.size=some { cls:=.type "dict",data:=.dict #[] }:=kp _ _ (Heap.get?_push_size _ rfl)
 have gd:(h'.push { cls:=.type "list_iterator",data:=.fields #[.ref p,.int 0 0] }).get? s.heap.objs.size=some { cls:=.type "dict",data:=.dict #[] }:=Heap.get?_push_of_some _ g1
 have I1:Inv X pins σ (upd H s.heap.objs.size (.dT [])) { s with heap:=h'.push { cls:=.type "list_iterator",data:=.fields #[.ref p,.int 0 0] },toks:=tk }:=I.laid (a:=s.heap.objs.size) (o:=.dT []) (t':=tk) kp1 (Nat.le_refl _) ⟨Nat.zero_le _,beq_eq_false_iff_ne.mpr (Ne.symm (Nat.ne_of_lt I.big)),[],.nil,_,#[],0,gd,⟨rfl,rfl,rfl⟩,rfl,rfl,List.nodup_nil⟩
 have hsz:s.heap.objs.size<h'.objs.size:=Heap.lt_size g1
 refine wpAny_pure ⟨plainId_quiet (by decide +kernel) _,?_⟩
 refine dict_loop (H:=H) (bs:=bs) (ps:=ps) (its:=its) hc hu (I.hok.fresh (Nat.le_refl _)) hq hP hl (Nat.ne_of_gt hsz) (fun s' I'=>⟨rfl,.ref s.heap.objs.size,_,I',rfl,q _ (I.hok.fresh (Nat.le_refl _))⟩) ps.length 0 _ rfl (by rw[List.take_zero];exact I1) ?_ ⟨_,Heap.get?_push_size _ rfl,rfl,rfl⟩
 exact I.fpOk (Nat.le_of_lt hsz) (I.hok.fresh (Nat.le_of_lt hsz))
open PySem PySem.W PyProof.Rows
open PySem PyProof.Rows
section
variable{K:PySem.W.Frag}{a D:Addr}{xs:List V}{b:Bool}{g:TG}{tc:TT}{tk tv:TE}{cap:List (Option Nat)}{σ:St}{H1:Hp}{Q:VK}
theorem dcomp_tup(P:Nat->Hp->Prop)(p0:P 0 H1)(hl:∀ i H,i<=xs.length->P i H->SqT K H a xs)
  (hs:∀ i x H,xs[i]?=some x->P i H->g x (capt cap σ) H fun σ2 H2=>Kp (capt cap σ) σ2/\tc σ2 H2 fun b H3=>if b=true then tk σ2 H3 fun k H4=>tv σ2 H4 fun y H5=>∃ H6,DPut H5 D k y H6/\P (i+1) H6 else P (i+1) H3)
  (hd:∀ H,P xs.length H->Q (.ref D) H):dcompTurns (Itt K a) cap σ H1 D Q g tc tk tv:=by
 refine⟨xs.length,P,p0,fun i H il p=>?_⟩
 have q:=hl i H il p
 by_cases hlt:i<xs.length
 ·refine .inr ⟨hlt,⟨xs,xs[i],q,by simp[hlt]⟩,fun x H' y=>?_⟩
  obtain⟨e,y⟩:=y
  subst e
  exact hs i x _ (y xs q) p
 ·have e:i=xs.length:=by lia
  subst e
  exact .inl ⟨⟨xs,q,Nat.le_refl _⟩,hd H p⟩
theorem dcomp_list(P:Nat->Hp->Prop)(p0:P 0 H1)(hl:∀ i H,i<=xs.length->P i H->SqL K H a xs)
  (hs:∀ i x H,xs[i]?=some x->P i H->g x (capt cap σ) H fun σ2 H2=>Kp (capt cap σ) σ2/\tc σ2 H2 fun b H3=>if b=true then tk σ2 H3 fun k H4=>tv σ2 H4 fun y H5=>∃ H6,DPut H5 D k y H6/\P (i+1) H6 else P (i+1) H3)
  (hd:∀ H,P xs.length H->Q (.ref D) H):dcompTurns (Itl K a) cap σ H1 D Q g tc tk tv:=by
 refine⟨xs.length,P,p0,fun i H il p=>?_⟩
 have q:=hl i H il p
 by_cases hlt:i<xs.length
 ·refine .inr ⟨hlt,⟨xs,xs[i],q,by simp[hlt]⟩,fun x H' y=>?_⟩
  obtain⟨e,y⟩:=y
  subst e
  exact hs i x _ (y xs q) p
 ·have e:i=xs.length:=by lia
  subst e
  exact .inl ⟨⟨xs,q,Nat.le_refl _⟩,hd H p⟩
noncomputable def ItB(b:Bool)(K:PySem.W.Frag)(a:Addr):It:=match b with
 |true=>Itt K a
 |false=>Itl K a
noncomputable def iSeq(b:Bool)(K:PySem.W.Frag)(tl:TE):TI:=fun σ H R=>tl σ H fun x H1=>∃ a,x = .ref a/\(∃ xs,SqB b K H1 a xs)/\R (ItB b K a) H1
theorem pi_seq{X:Cx}{tg l:Expr}{tl:TE}(b:Bool)(hl:PE X l tl):PI X tg l (iSeq b X.K tl):=by
 cases b
 ·exact pi_list hl
 ·exact pi_tup hl
theorem dcomp_seq(P:Nat->Hp->Prop)(p0:P 0 H1)(hl:∀ i H,i<=xs.length->P i H->SqB b K H a xs)
  (hs:∀ i x H,xs[i]?=some x->P i H->g x (capt cap σ) H fun σ2 H2=>Kp (capt cap σ) σ2/\tc σ2 H2 fun b H3=>if b=true then tk σ2 H3 fun k H4=>tv σ2 H4 fun y H5=>∃ H6,DPut H5 D k y H6/\P (i+1) H6 else P (i+1) H3)
  (hd:∀ H,P xs.length H->Q (.ref D) H):dcompTurns (ItB b K a) cap σ H1 D Q g tc tk tv:=by
 cases b
 ·exact dcomp_list P p0 hl hs hd
 ·exact dcomp_tup P p0 hl hs hd
theorem Same.seqB{H H':Hp}(s:Same H H')(h:SqB b K H a xs):SqB b K H' a xs:=by
 cases b
 ·exact s.seq h
 ·exact s.tupq h
theorem valV_no{κ:Type}[DecidableEq κ]{kvs:List (κ×V)}{k:κ}(h:k∉kvs.map (·.1)):valV kvs k=none:=by
 induction kvs with
 |nil=>rfl
 |cons q r ih =>
  rw[List.map_cons,List.mem_cons,not_or]at h
  exact(valV_neg fun e=>h.1 e.symm).trans (ih h.2)
end
end L2
namespace K07
open PySem L2 PyProof.Rows
structure CalF(P:Program)(w:World)(K:PySem.W.Frag)(mg:Str->Option Value)(base:Heap)(k:Nat)(x:Str)(ps:List Str)(sp:Sp)(g:Addr)(gd:FuncData):Prop where
 ok:FnOk P w K mg base CX0 k g gd ps sp
 mg:mg x=some (.ref g)
 kp:PySem.W.keepIn K (.ref g)=true
 bd:Binds K gd ps []
structure Txt2(mg:Str->Option Value):Prop where
 all:mg "all" = none
 zip:mg "zip" = none
 enum:mg "enumerate" = none
 dict:mg "dict" = none
noncomputable abbrev scO(l:List (Str×NameKind)):Scope:={ kind:=.function,names:=l,isGenerator:=false,isCoroutine:=false }
noncomputable def pairOf(x:Tie):List Int:=[x.1,x.2.1]
theorem sl_tupK{X:Cx}(K:PySem.W.Frag)(e:X.K=K):SlR X (rSlT K):=e▸sl_tup
open PySem L2 PyProof.Rows
noncomputable def BesAt(H:Hp)(as:List Addr)(ties:List Tie):Prop:=∀ (i:Nat) (h:i<as.length),∃ cs:List Addr,H as[i]=some (.lst (cs.map V.ref))/\Paired (fun c (x:Int×Int)=>H c=some (.tup [.int x.1,.int x.2])) cs (besideOf ties i)
theorem BesAt.same{H H':Hp}{as:List Addr}{ties:List Tie}(B:BesAt H as ties)(s:Same H H'):BesAt H' as ties:=fun i h=>by
 obtain⟨cs,e,p⟩:=B i h
 exact⟨cs,s _ _ e,Paired.mapP p fun c x z=>s _ _ z⟩
theorem BesAt.kept{H H':Hp}{as:List Addr}{ties:List Tie}{p:Addr}{hv:List (Option Int)}(B:BesAt H as ties)(k:Kept p H H')(hp:H p=some (.lst (hv.map oV)))(na:p∉as):BesAt H' as ties:=fun i h=>by
 obtain⟨cs,e,q⟩:=B i h
 exact⟨cs,k _ _ (fun z=>na (z▸List.getElem_mem h)) e,Paired.mapP q fun c x z=>k _ _ (ne_of z hp (by intro z;cases z)) z⟩
theorem BesAt.put{H:Hp}{as:List Addr}{g:Int->List (Int×Int)}{j:Nat}{y:Int×Int}{tp:Addr}{cs0:List Addr}(nd:as.Nodup)(hj:j<as.length)
  (B:∀ (i:Nat) (h:i<as.length),∃ cs:List Addr,H as[i]=some (.lst (cs.map V.ref))/\Paired (fun c (x:Int×Int)=>H c=some (.tup [.int x.1,.int x.2])) cs (g i)) (e0:H as[j]=some (.lst (cs0.map V.ref))) (ht:H tp=some (.tup [.int y.1,.int y.2])) :
  ∀ (i:Nat) (h:i<as.length),∃ cs:List Addr,(upd H as[j] (.lst (cs0.map V.ref++[.ref tp]))) as[i]=some (.lst (cs.map V.ref))/\Paired (fun c (x:Int×Int)=>(upd H as[j] (.lst (cs0.map V.ref++[.ref tp]))) c=some (.tup [.int x.1,.int x.2])) cs (g i++if(i:Int)=j then [y]else []):=fun i h=>by
 obtain⟨cs,e,p⟩:=B i h
 have p2:Paired (fun c (x:Int×Int)=>(upd H as[j] (.lst (cs0.map V.ref++[.ref tp]))) c=some (.tup [.int x.1,.int x.2])) cs (g i):=Paired.mapP p fun c x z=>by rw[upd_ne (ne_of z e0 (by intro z;cases z))];exact z
 by_cases ij:i=j
 ·subst ij
  rw[e]at e0
  have ec:cs0=cs:=by
   injection e0 with e0
   injection e0 with e0
   have:=congrArg (List.map (fun v=>match v with | V.ref a=>a | _=>0)) e0
   rw[List.map_map,List.map_map]at this
   have idl:∀ l:List Addr,l.map ((fun v=>match v with | V.ref a=>a | _=>0) ∘ V.ref)=l:=fun l=>by
    induction l with
    |nil=>rfl
    |cons a r ih=>rw[List.map_cons,ih];rfl
   rw[idl,idl]at this
   exact this.symm
  subst ec
  refine⟨cs0++[tp],by rw[upd_same,List.map_append];rfl,?_⟩
  rw[if_pos rfl]
  exact Paired.snoc p2 (by rw[upd_ne (ne_of ht e (by intro z;cases z))];exact ht)
 ·have ne:as[i]≠as[j]:=fun z=>ij ((List.getElem_inj nd).mp z)
  refine⟨cs,by rw[upd_ne ne];exact e,?_⟩
  rw[if_neg (by lia),List.append_nil]
  exact p2
noncomputable def spBes:Sp:=fun vs H Q _=>∃ (t:Addr) (n:Nat) (ties:List Tie),vs=[.ref t]/\WebAt H t n ties/\(∀ x∈ties,TieOk n x)/\n<=1000 /\
 ∀ (b:Addr) (as:List Addr) (H':Hp),H' b=some (.lst (as.map V.ref))->as.length=n->BesAt H' as ties->Same H H'->Q (.ref b) H'
section
variable{P:Program}{w:World}{K:PySem.W.Frag}{mg:Str->Option Value}{base:Heap}
noncomputable abbrev nBes:List Str:=["web","many","ties","beside","a","b","weight"]
theorem scBes:FnScope nBes ["web"] (defScope sBesideEach):=⟨rfl,rfl,rfl,by decide +kernel,rfl,by decide +kernel,by decide +kernel⟩
theorem csBes:CompScope ["place"] [none] nBes (defScope sBesideEach) (scO [(".0",.local),("place",.local)]):=⟨rfl,by decide +kernel,by decide +kernel,by decide +kernel,rfl,capB_ok (by decide +kernel)⟩
theorem ndBes:(["place"]:List Str).Nodup:=by decide +kernel
theorem ok_bes{f:Addr}{fd:FuncData}(F:Fun K "beside_each" "beside_each" sBesideEach f fd)(T:Txt mg):FnOk P w K mg base CX0 1 f fd ["web"] spBes:=by
 refine F.ok scBes (fun vs H Q E h=>?_) (fun cdv A outer s H vs Q E hr h=>?_)
 ·obtain⟨t,n,ties,rfl,_⟩:=h
  rfl
 ·obtain⟨t,n,ties,rfl,W,ok,nb,q⟩:=h
  obtain⟨⟨ts,bs,h1,h2,h3⟩,len⟩:=id W
  have h3l:bs.length=ties.length:=h3.length
  refine⟨_,pss_cons (ps_asg (pv 0) (pg_tup (n:=2) rfl (pgs_cons (pg_name (i:=1) scBes.nd rfl (Or.inl rfl)) (pgs_cons (pg_name (i:=2) scBes.nd rfl (Or.inl rfl)) pgs_nil))))
   (pss_cons (ps_comp (i:=3) scBes.nd rfl (Or.inl rfl) rfl csBes (pi_range1 rfl T.range (@pa_nam _ _ _ _ _ _ (pv 1) pa_nil)) (fun C s H fp=>pg_name (i:=0) ndBes rfl (Or.inl rfl)) (fun C s H fp=>pf_nil) (fun C s H fp=>@pe_lst _ _ _ _ pa_nil))
   (pss_cons (ps_for PassesOwn.never rfl (pi_tup (pv 2)) (pg_tup (n:=3) rfl (pgs_cons (pg_name (i:=4) scBes.nd rfl (Or.inl rfl)) (pgs_cons (pg_name (i:=5) scBes.nd rfl (Or.inl rfl)) (pgs_cons (pg_name (i:=6) scBes.nd rfl (Or.inl rfl)) pgs_nil))))
    (pss_cons (ps_expr (pe_bm PySem.F.plainAttrs_list PySem.F.slot_list_append PySem.F.type_list_append mt_append (pe_ix ix_list (pv 3) (pv 4) (fun _ _=>rfl)) (@pa_tup _ _ _ _ _ _ _ (@pe_tup _ _ _ _ _ (@pa_nam _ _ _ _ _ _ (pv 5) (@pa_nam _ _ _ _ _ _ (pv 6) pa_nil))) pa_nil)))
    (pss_one (ps_expr (pe_bm PySem.F.plainAttrs_list PySem.F.slot_list_append PySem.F.type_list_append mt_append (pe_ix ix_list (pv 3) (pv 5) (fun _ _=>rfl)) (@pa_tup _ _ _ _ _ _ _ (@pe_tup _ _ _ _ _ (@pa_nam _ _ _ _ _ _ (pv 4) (@pa_nam _ _ _ _ _ _ (pv 6) pa_nil))) pa_nil))))))
   (pss_one (ps_ret (pv 3))))),?_⟩
  refine⟨_,rfl,t,_,rfl,SqT.of h1,rfl,_,_,rfl,_,_,rfl,rfl,?_⟩
  refine⟨_,rfl,_,rfl,by lia,by lia,?_⟩
  rw[show((n:Int)).toNat=n by lia]
  refine comp_range (lo:=0) (n:=n) (fun i ys G=>Same H G/\∃ as:List Addr,ys=as.map V.ref/\as.length=i/\as.Nodup/\∀ a∈as,H a=none/\G a=some (.lst [])) (by rw[sizeLine_eq];lia) ⟨Same.refl _,[],rfl,rfl,List.nodup_nil,fun _ h=>nomatch h⟩ ?_ ?_
  ·rintro i ys G hi ⟨sm,as,rfl,al,nd,ha⟩
   refine⟨trivial,tTru_if ⟨(by show 0<=sizeLine;decide),fun l hl=>⟨sm.trans (Same.new hl),as++[l],by rw[List.map_append];rfl,by rw[List.length_append,al];rfl,?_,fun a m=>?_⟩⟩⟩
   ·rw[List.nodup_append]
    refine⟨nd,by simp,fun x hx y hy z=>?_⟩
    rw[List.mem_singleton.mp hy]at z
    have:=(ha x hx).2
    rw[z,hl]at this
    cases this
   ·rcases List.mem_append.mp m with m | m
    ·exact⟨(ha a m).1,(Same.new hl) _ _ (ha a m).2⟩
    ·rw[List.mem_singleton.mp m]
     exact⟨sm.free hl,upd_same⟩
  ·rintro ys G yl ⟨sm,as,rfl,al,nd,ha⟩ D hD
   have sD:=Same.new (o:=.lst (as.map V.ref)) hD
   have hD0:H D=none:=sm.free hD
   have smD:=sm.trans sD
   refine⟨_,rfl,ts,rfl,⟨_,SqT.of (smD _ _ h2)⟩,?_⟩
   refine for_tup (K:=K) (a:=ts) (xs:=bs.map V.ref) (fun i σ G2=>∃ v4 v5 v6,σ=[some (.ref t),some (.int n),some (.ref ts),some (.ref D),v4,v5,v6]/\Same H G2/\G2 D=some (.lst (as.map V.ref))/\BesAt G2 as (ties.take i)) ⟨none,none,none,rfl,smD,upd_same,fun i h=>⟨[],sD _ _ (ha _ (List.getElem_mem h)).2,.nil⟩⟩ (fun i σ G2 _ z=>by obtain⟨v4,v5,v6,_,s2,_⟩:=z;exact SqT.of (s2 _ _ h2)) ?_ ?_
   ·rintro i x σ G2 hx ⟨v4,v5,v6,rfl,s2,gD,B⟩
    obtain⟨il,e⟩:=List.getElem?_eq_some_iff.mp hx
    rw[List.length_map]at il
    rw[List.getElem_map]at e
    subst e
    have it:i<ties.length:=by lia
    have hx:=s2 _ _ (Paired.at h3 i il it)
    obtain⟨o1,o2,o3,o4⟩:=ok _ (List.getElem_mem it)
    generalize ex:ties[i]=x at *
    obtain⟨a,b,c⟩:=x
    have o1:0<=a:=o1
    have o2:a<b:=o2
    have o3:b <(n:Int):=o3
    obtain⟨a,rfl⟩:∃ a':Nat,a=(a':Int):=⟨a.toNat,by lia⟩
    obtain⟨b,rfl⟩:∃ b':Nat,b=(b':Int):=⟨b.toNat,by lia⟩
    have aL:a<as.length:=by lia
    have bL:b<as.length:=by lia
    refine⟨bs[i],_,rfl,SqT.of hx,rfl,_,_,rfl,_,_,rfl,_,_,rfl,rfl,?_⟩
    obtain⟨ca,ea,pa⟩:=B a aL
    refine⟨_,rfl,_,rfl,D,_,_,_,rfl,rfl,SqL.of gD,atI_nat (v:=V.ref as[a]) (by rw[List.getElem?_map,List.getElem?_eq_getElem aL];rfl),.inl ⟨rfl,_,SqL.of ea⟩,_,rfl,_,rfl,(by show 2<=sizeLine;decide),fun tp htp=>?_⟩
    have sT:=Same.new (o:=.tup [.int (b:Int),.int c]) htp
    have lca:(ca.map V.ref).length<sizeLine:=by
     have l1:=pa.length
     have l2:=beside_len (ties.take i) a
     rw[List.length_take]at l2
     rw[List.length_map,sizeLine_eq]
     lia
    refine⟨as[a],_,_,rfl,rfl,sT _ _ ea,lca,?_⟩
    have B1:=BesAt.put (g:=fun i'=>besideOf (ties.take i) i') (y:=((b:Int),c)) nd aL (B.same sT) (sT _ _ ea) upd_same
    have na:∀ (u:Addr) (o:HO),H u=some o->u≠as[a]:=fun u o e z=>by rw[z,(ha _ (List.getElem_mem aL)).1]at e;cases e
    have nb':∀ (u:Addr) (o:HO),H u=some o->u≠as[b]:=fun u o e z=>by rw[z,(ha _ (List.getElem_mem bL)).1]at e;cases e
    have nD:∀ (j:Nat) (h:j<as.length),D≠as[j]:=fun j h z=>by
     have:=(ha _ (List.getElem_mem h)).2
     rw[<- z,hD]at this
     cases this
    have gD1:(upd (upd G2 tp (.tup [.int (b:Int),.int c])) as[a] (.lst (ca.map V.ref++[.ref tp]))) D=some (.lst (as.map V.ref)):=by rw[upd_ne (nD a aL)];exact sT _ _ gD
    have s3:Same H (upd (upd G2 tp (.tup [.int (b:Int),.int c])) as[a] (.lst (ca.map V.ref++[.ref tp]))):=fun u o e=>by rw[upd_ne (na u o e)];exact sT _ _ (s2 _ _ e)
    generalize (upd (upd G2 tp (.tup [.int (b:Int),.int c])) as[a] (.lst (ca.map V.ref++[.ref tp])))=G3 at B1 gD1 s3
    obtain⟨cb,eb,pb⟩:=B1 b bL
    refine⟨_,rfl,_,rfl,D,_,_,_,rfl,rfl,SqL.of gD1,atI_nat (v:=V.ref as[b]) (by rw[List.getElem?_map,List.getElem?_eq_getElem bL];rfl),.inl ⟨rfl,_,SqL.of eb⟩,_,rfl,_,rfl,(by show 2<=sizeLine;decide),fun tp2 htp2=>?_⟩
    have sT2:=Same.new (o:=.tup [.int (a:Int),.int c]) htp2
    have lcb:(cb.map V.ref).length<sizeLine:=by
     have l1:=pb.length
     rw[List.length_append]at l1
     have l2:=beside_len (ties.take i) b
     rw[List.length_take]at l2
     have l3:(if(b:Int)=(a:Int)then [((b:Int),c)]else []).length<=1:=by split <;> simp
     rw[List.length_map,sizeLine_eq]
     lia
    refine⟨as[b],_,_,rfl,rfl,sT2 _ _ eb,lcb,?_⟩
    have B1':∀ (i':Nat) (h:i'<as.length),∃ cs:List Addr,(upd G3 tp2 (.tup [.int (a:Int),.int c])) as[i']=some (.lst (cs.map V.ref))/\Paired (fun c' (x:Int×Int)=>(upd G3 tp2 (.tup [.int (a:Int),.int c])) c'=some (.tup [.int x.1,.int x.2])) cs ((fun i'':Int=>besideOf (ties.take i) i''++if i''=(a:Int)then [((b:Int),c)]else []) i'):=fun i' h=>by
     obtain⟨cs,e,p⟩:=B1 i' h
     exact⟨cs,sT2 _ _ e,Paired.mapP p fun c x z=>sT2 _ _ z⟩
    have B2:=BesAt.put (g:=fun i'':Int=>besideOf (ties.take i) i''++if i''=(a:Int)then [((b:Int),c)]else []) (y:=((a:Int),c)) nd bL B1' (sT2 _ _ eb) upd_same
    refine⟨_,_,_,rfl,fun u o e=>by rw[upd_ne (nb' u o e)];exact sT2 _ _ (s3 _ _ e),by rw[upd_ne (nD b bL)];exact sT2 _ _ gD1,fun i' h'=>?_⟩
    obtain⟨cs,e,p⟩:=B2 i' h'
    refine⟨cs,e,?_⟩
    have eq:besideOf (ties.take (i+1)) i'=(besideOf (ties.take i) i'++if(i':Int)=(a:Int)then [((b:Int),c)]else [])++if(i':Int)=(b:Int)then [((a:Int),c)]else []:=by
     rw[List.take_succ_eq_append_getElem it,besideOf_snoc,ex,List.append_assoc]
     congr 1
     show(if(a:Int)=(i':Int)then _ else if(b:Int)=(i':Int)then _ else _)=_
     by_cases e1:(i':Int)=(a:Int)
     ·rw[if_pos e1,if_pos e1.symm,if_neg (by lia)]
      rfl
     ·rw[if_neg e1,if_neg (fun z=>e1 z.symm)]
      by_cases e2:(i':Int)=(b:Int)
      ·rw[if_pos e2,if_pos e2.symm]
       rfl
      ·rw[if_neg e2,if_neg (fun z=>e2 z.symm)]
       rfl
    rw[eq]
    exact p
   ·rintro σ G2 ⟨v4,v5,v6,rfl,s2,gD,B⟩
    rw[List.length_map,h3l,List.take_length]at B
    exact⟨_,rfl,q D as G2 gD al B s2⟩
end
open PySem L2 PyProof.Rows
noncomputable def spSpr:Sp:=fun vs H Q _=>∃ (b p:Addr) (as:List Addr) (n k:Nat) (ties:List Tie) (h0:List (Option Int)),vs=[.ref b,.ref p,.int k]/\H b=some (.lst (as.map V.ref))/\as.length=n/\BesAt H as ties/\(∀ x∈ties,TieOk n x)/\n<=1000 /\
 H p=some (.lst (h0.map oV))/\h0.length=n/\b≠p/\p∉as/\k<n/\oAt h0 k=none/\Clo ties h0/\∀ (hv:List (Option Int)) (H':Hp),H' p=some (.lst (hv.map oV))->Sprd n ties h0 hv k->Kept p H H'->Q .non H'
theorem oV_get{hv:List (Option Int)}{j:Nat}(hj:j<hv.length):atI (hv.map oV) (j:Int)=some (oV (oAt hv j)):=atI_nat (by rw[List.getElem?_map,oAt_get hj];rfl)
theorem ixN_nat{n j:Nat}(h:j<n):ixN n (j:Int)=some j:=by
 unfold ixN
 rw[if_pos (by lia),if_pos (by lia),Int.toNat_natCast]
theorem set_oV{hv:List (Option Int)}{j:Nat}{x:Int}:(hv.map oV).set j (.int x)=(hv.set j (some x)).map oV:=by rw[List.map_set];rfl
theorem nones_le(hv:List (Option Int)):hv.countP (·.isNone)<=hv.length:=List.countP_le_length
structure WlI(H:Hp)(p wl:Addr)(n k:Nat)(ties:List Tie)(h0 hv:List (Option Int))(ws:List Int)(G:Hp):Prop where
 hp:G p=some (.lst (hv.map oV))
 hw:G wl=some (.lst (ws.map V.int))
 si:SI n ties h0 hv k ws
 kp:Kept p H G
section
variable{P:Program}{w:World}{K:PySem.W.Frag}{mg:Str->Option Value}{base:Heap}
noncomputable abbrev nSpr:List Str:=["beside","heads","head","waiting","place","far","weight"]
theorem scSpr:FnScope nSpr ["beside","heads","head"] (defScope sSpread):=⟨rfl,rfl,rfl,by decide +kernel,rfl,by decide +kernel,by decide +kernel⟩
theorem ok_spr{f:Addr}{fd:FuncData}(F:Fun K "spread" "spread" sSpread f fd):FnOk P w K mg base CX0 1 f fd ["beside","heads","head"] spSpr:=by
 refine F.ok scSpr (fun vs H Q E h=>?_) (fun cdv A outer s H vs Q E hr h=>?_)
 ·obtain⟨b,p,as,n,k,ties,h0,rfl,_⟩:=h
  rfl
 ·obtain⟨b,p,as,n,k,ties,h0,rfl,hb,al,B,ok,nb,hp,l0,bp,pa,kn,kz,cl,q⟩:=h
  refine⟨_,pss_cons (ps_asg (pv 2) (pg_sub (pv 1) (pv 2) set_list))
   (pss_cons (ps_set (i:=3) scSpr.nd rfl (Or.inl rfl) (@pe_lst _ _ _ _ (@pa_nam _ _ _ _ _ _ (pv 2) pa_nil)))
   (pss_one (ps_while PassesOwn.never (pt_truth (pv 3) (fun _=>rfl))
    (pss_cons (ps_set (i:=4) scSpr.nd rfl (Or.inl rfl) (pe_bm0 PySem.F.plainAttrs_list PySem.F.slot_list_pop PySem.F.type_list_pop mt_pop (pv 3)))
    (pss_one (ps_for PassesOwn.never rfl (pi_list (pe_ix ix_list (pv 0) (pv 4) (fun _ _=>rfl))) (pg_tup (n:=2) rfl (pgs_cons (pg_name (i:=5) scSpr.nd rfl (Or.inl rfl)) (pgs_cons (pg_name (i:=6) scSpr.nd rfl (Or.inl rfl)) pgs_nil)))
     (pss_one (ps_if (pt_cmp (pc_isN (pe_ix ix_list (pv 1) (pv 5) (fun _ _=>rfl))))
      (pss_cons (ps_asg (pv 2) (pg_sub (pv 1) (pv 5) set_list))
      (pss_one (ps_expr (pe_bm PySem.F.plainAttrs_list PySem.F.slot_list_append PySem.F.type_list_append mt_append (pv 3) (@pa_nam _ _ _ _ _ _ (pv 5) pa_nil))))) pss_nil)))))))),?_⟩
  have kl:k<h0.length:=by lia
  refine⟨_,rfl,_,rfl,_,rfl,p,_,_,k,rfl,rfl,hp,by rw[List.length_map];exact ixN_nat kl,?_⟩
  rw[set_oV]
  refine⟨_,rfl,(by show 1<=sizeLine;decide),fun wl hwl=>?_⟩
  have wp:wl≠p:=fun z=>by rw[z,upd_same]at hwl;cases hwl
  have wl0:H wl=none:=by rw[upd_ne wp]at hwl;exact hwl
  have S0:SI n ties h0 (h0.set k (some (k:Int))) k [(k:Int)]:=by
   refine⟨by rw[List.length_set];exact l0,fun v v0 v1 z=>?_,fun v v0 v1 z=>?_,?_,fun x hx=>?_⟩
   ·rw[oAt_set kl v v0,if_neg (fun e=>z (by rw[e];exact kz))]
   ·rw[oAt_set kl v v0]
    split
    ·rename_i e
     exact .inr ⟨rfl,by rw[e];exact .refl _⟩
    ·exact .inl z
   ·rw[oAt_set kl _ (by lia),if_pos rfl]
   ·rw[List.mem_singleton.mp hx]
    exact⟨by lia,by lia,kz,by rw[oAt_set kl _ (by lia),if_pos rfl]⟩
  have c0:(h0.set k (some (k:Int))).countP (·.isNone)+1=h0.countP (·.isNone):=nones_set (by rw[oAt_get kl,kz])
  have c1:=nones_le h0
  refine⟨fun m σ G=>∃ hv ws v4 v5 v6,σ=[some (.ref b),some (.ref p),some (.int k),some (.ref wl),v4,v5,v6]/\m=2 * hv.countP (·.isNone)+ws.length/\m<=2 * n/\WlI H p wl n k ties h0 hv ws G/\∀ v:Int,0<=v->v<n->oAt h0 v=none->oAt hv v≠none->v∉ws->Done ties hv v,
   ⟨_,h0.set k (some (k:Int)),[(k:Int)],none,none,none,rfl,rfl,by simp;lia,⟨by rw[upd_ne (Ne.symm wp),upd_same],upd_same,S0,(Kept.at).put wl0⟩,fun v v0 v1 z z2 z3=>?_⟩,?_⟩
  ·exfalso
   rw[oAt_set kl v v0]at z2
   split at z2
   ·rename_i e
    exact z3 (by rw[e];exact List.mem_singleton.mpr rfl)
   ·exact z2 z
  clear S0 c0 c1 hwl
  rintro m σ G ⟨hv,ws,v4,v5,v6,rfl,em,mn,I,dn⟩
  refine⟨_,rfl,_,.inl ⟨_,SqL.of I.hw,rfl⟩,ite2 (fun hc=>?_) (fun hc=>?_)⟩
  ·have r0:ws≠[]:=fun z=>by rw[z]at hc;exact absurd hc (by decide)
   obtain⟨w1,pl,rfl⟩:∃ w1 pl,ws=w1++[pl]:=⟨ws.dropLast,ws.getLast r0,(List.dropLast_concat_getLast r0).symm⟩
   refine⟨fun σ' G'=>∃ m',m'<m/\∃ hv ws v4 v5 v6,σ'=[some (.ref b),some (.ref p),some (.int k),some (.ref wl),v4,v5,v6]/\m'=2 * hv.countP (·.isNone)+ws.length/\m'<=2 * n/\WlI H p wl n k ties h0 hv ws G'/\∀ v:Int,0<=v->v<n->oAt h0 v=none->oAt hv v≠none->v∉ws->Done ties hv v,fun σ' G' z=>z,?_⟩
   refine⟨_,rfl,.inl ⟨rfl,_,SqL.of I.hw⟩,wl,_,V.int pl,rfl,rfl,I.hw,by simp,?_⟩
   have edl:(List.map V.int (w1++[pl])).dropLast=w1.map V.int:=by rw[List.map_append];simp
   rw[edl]
   obtain⟨p0,p1,pz,pk⟩:=I.si.wait pl (List.mem_append_right _ (List.mem_singleton.mpr rfl))
   obtain⟨pl,rfl⟩:∃ j:Nat,pl=(j:Int):=⟨pl.toNat,by lia⟩
   have pL:pl<as.length:=by lia
   have rp:Rch ties k pl:=by
    rcases I.si.new pl p0 p1 pz with z | z
    ·rw[pk]at z;cases z
    ·exact z.2
   have I1:WlI H p wl n k ties h0 hv w1 (upd G wl (.lst (w1.map V.int))):=⟨by rw[upd_ne (Ne.symm wp)];exact I.hp,upd_same,⟨I.si.len,I.si.old,I.si.new,I.si.hd,fun x hx=>I.si.wait x (List.mem_append_left _ hx)⟩,I.kp.put wl0⟩
   have hbG:∀ {G':Hp},Kept p H G'->G' b=some (.lst (as.map V.ref)):=fun k'=>k' _ _ bp hb
   have BG:∀ {G':Hp},Kept p H G'->BesAt G' as ties:=fun k'=>B.kept k' hp pa
   obtain⟨cs,ec,pc⟩:=(BG I1.kp) pl pL
   have ecG:∀ {G':Hp},Kept p H G'->G' as[pl]=some (.lst (cs.map V.ref)):=fun k'=>by
    obtain⟨cs',e',_⟩:=B pl pL
    have apl:as[pl]≠p:=fun z=>pa (z▸List.getElem_mem pL)
    have e1:=I1.kp _ _ apl e'
    have e2:=k' _ _ apl e'
    rw[ec]at e1
    rw[e2,<- e1]
   have pcG:∀ {G':Hp},Kept p H G'->Paired (fun c (x:Int×Int)=>G' c=some (.tup [.int x.1,.int x.2])) cs (besideOf ties pl):=fun {G'} k'=>by
    obtain⟨cs',e',p'⟩:=(BG k') pl pL
    rw[ecG k']at e'
    have:cs=cs':=by
     injection e' with e'
     injection e' with e'
     exact List.map_inj_right (fun _ _ h=>by injection h) |>.mp e'
    rw[this]
    exact p'
   refine⟨_,rfl,_,rfl,b,_,_,_,rfl,rfl,SqL.of (hbG I1.kp),atI_nat (v:=V.ref as[pl]) (by rw[List.getElem?_map,List.getElem?_eq_getElem pL];rfl),as[pl],rfl,⟨_,SqL.of ec⟩,?_⟩
   refine for_list (K:=K) (a:=as[pl]) (xs:=cs.map V.ref) (fun j σ' G'=>∃ hv ws v5 v6,σ'=[some (.ref b),some (.ref p),some (.int k),some (.ref wl),some (.int pl),v5,v6]/\2 * hv.countP (·.isNone)+ws.length<m/\WlI H p wl n k ties h0 hv ws G' /\
    (∀ v:Int,0<=v->v<n->oAt h0 v=none->oAt hv v≠none->v∉ws->v≠pl->Done ties hv v)/\∀ x∈(besideOf ties pl).take j,oAt hv x.1≠none)
    ⟨hv,w1,v5,v6,rfl,by rw[em,List.length_append];show 2 * _+w1.length<2 * _+(w1.length+1);lia,I1,fun v v0 v1 z z2 z3 z4=>dn v v0 v1 z z2 (fun z5=>by rcases List.mem_append.mp z5 with y | y;exact z3 y;exact z4 (List.mem_singleton.mp y)),fun _ h=>by rw[List.take_zero]at h;cases h⟩
    (fun j σ' G' _ z=>by obtain⟨hv,ws,v5,v6,_,_,I',_⟩:=z;exact SqL.of (ecG I'.kp)) ?_ ?_
   ·clear I1 dn I em hc r0 edl v4 v5 v6 ec pc
    rintro j x σ' G' hx ⟨hv,ws,v5,v6,rfl,lt,I,dn,fs⟩
    obtain⟨il,e⟩:=List.getElem?_eq_some_iff.mp hx
    rw[List.length_map]at il
    rw[List.getElem_map]at e
    subst e
    have pcI:=pcG I.kp
    have jl:j <(besideOf ties pl).length:=by rw[<- pcI.length];exact il
    have hc:=Paired.at pcI j il jl
    have mem:(besideOf ties pl)[j]∈besideOf ties pl:=List.getElem_mem jl
    have tk:(besideOf ties pl).take (j+1)=(besideOf ties pl).take j++[(besideOf ties pl)[j]]:=List.take_succ_eq_append_getElem jl
    generalize (besideOf ties pl)[j]=y at hc mem tk
    obtain⟨fa,wt⟩:=y
    have fr:0<=fa/\fa<n/\Rch ties pl fa:=by
     rcases(mem_beside ok).mp mem with m1 | m1
     ·obtain⟨o1,o2,o3,_⟩:=ok _ m1
      have o1:0<=(pl:Int):=o1
      have o2:(pl:Int)<fa:=o2
      exact⟨by lia,o3,.up m1 (.refl _)⟩
     ·obtain⟨o1,o2,o3,_⟩:=ok _ m1
      have o2:fa <(pl:Int):=o2
      exact⟨o1,by lia,.dn m1 (.refl _)⟩
    obtain⟨f0,f1,fr⟩:=fr
    obtain⟨fa,rfl⟩:∃ j:Nat,fa=(j:Int):=⟨fa.toNat,by lia⟩
    have fL:fa<hv.length:=by rw[I.si.len];lia
    refine⟨cs[j],_,rfl,SqT.of hc,rfl,_,_,rfl,_,_,rfl,rfl,?_⟩
    refine⟨_,rfl,_,rfl,p,_,_,_,rfl,rfl,SqL.of I.hp,oV_get fL,_,rfl,ite2 (fun hz=>?_) (fun hz=>?_)⟩
    ·have z:oAt hv fa=none:=by
      cases e:oAt hv fa with
      |none=>rfl
      |some y=>rw[e]at hz;exact absurd hz (by simp[oV])
     refine⟨_,rfl,_,rfl,_,rfl,p,_,_,fa,rfl,rfl,I.hp,by rw[List.length_map];exact ixN_nat fL,?_⟩
     rw[set_oV]
     have hw1:(upd G' p (.lst ((hv.set fa (some (k:Int))).map oV))) wl=some (.lst (ws.map V.int)):=by rw[upd_ne wp];exact I.hw
     refine⟨_,rfl,.inl ⟨rfl,_,SqL.of hw1⟩,_,rfl,wl,_,_,rfl,rfl,hw1,by rw[List.length_map,sizeLine_eq];lia,?_⟩
     have ea:ws.map V.int++[V.int (fa:Int)]=(ws++[(fa:Int)]).map V.int:=by rw[List.map_append];rfl
     rw[ea]
     have cz:=nones_set (x:=(k:Int)) (show hv[fa]?=some none by rw[oAt_get fL,z])
     refine⟨hv.set fa (some (k:Int)),ws++[(fa:Int)],_,_,rfl,by rw[List.length_append];show 2 * _+(ws.length+1)<m;lia,⟨by rw[upd_ne (Ne.symm wp),upd_same],upd_same,I.si.put (by lia) z (rp.trans fr),(I.kp.trans Kept.at).put wl0⟩,fun v v0 v1 y1 y2 y3 y4=>?_,fun x hx=>?_⟩
     ·have y5:v∉ws:=fun h=>y3 (List.mem_append_left _ h)
      have y6:v≠(fa:Int):=fun h=>y3 (List.mem_append_right _ (List.mem_singleton.mpr h))
      rw[oAt_set fL v v0,if_neg y6]at y2
      exact(dn v v0 v1 y1 y2 y5 y4).mono ok fL
     ·rw[tk]at hx
      rcases List.mem_append.mp hx with hx | hx
      ·have d:∀ x∈(besideOf ties pl).take j,oAt (hv.set fa (some (k:Int))) x.1≠none:=fun x hx=>by
        have x0:0<=x.1:=by
         obtain⟨f,w⟩:=x
         rcases(mem_beside ok).mp (List.mem_of_mem_take hx)with m | m
         ·obtain⟨o1,o2,_⟩:=ok _ m
          have o1:0<=(pl:Int):=o1
          have o2:(pl:Int)<f:=o2
          show 0<=f
          lia
         ·exact(ok _ m).1
        rw[oAt_set fL _ x0]
        split
        ·exact fun z=>nomatch z
        ·exact fs x hx
       exact d x hx
      ·rw[List.mem_singleton.mp hx]
       show oAt _ (fa:Int)≠none
       rw[oAt_set fL _ f0,if_pos rfl]
       exact fun z=>nomatch z
    ·have z:oAt hv fa≠none:=fun e=>by rw[e]at hz;exact hz rfl
     refine⟨hv,ws,_,_,rfl,lt,I,dn,fun x hx=>?_⟩
     rw[tk]at hx
     rcases List.mem_append.mp hx with hx | hx
     ·exact fs x hx
     ·rw[List.mem_singleton.mp hx]
      exact z
   ·rintro σ' G' ⟨hv,ws,v5,v6,rfl,lt,I',dn',fs⟩
    refine⟨_,lt,hv,ws,_,_,_,rfl,rfl,by lia,I',fun v v0 v1 z z2 z3=>?_⟩
    by_cases e:v=pl
    ·subst e
     intro x hx
     exact fs x (by rw[List.length_map,(pcG I'.kp).length,List.take_length];exact hx)
    ·exact dn' v v0 v1 z z2 z3 e
  ·have r0:ws=[]:=by
    cases ws with
    |nil=>rfl
    |cons a r=>exact absurd rfl hc
   subst r0
   exact q hv G I.hp (I.si.fin ok cl fun v v0 v1 z z2=>dn v v0 v1 z z2 (fun h=>nomatch h)) I.kp
end
open PySem L2 PyProof.Rows
noncomputable def spHds:Sp:=fun vs H Q _=>∃ (t:Addr) (n:Nat) (ties:List Tie),vs=[.ref t]/\WebAt H t n ties/\(∀ x∈ties,TieOk n x)/\n<=1000 /\
 ∀ (p:Addr) (hs:List Int) (H':Hp),H p=none->H' p=some (.lst (hs.map V.int))->IsHeads n ties hs->Same H H'->Q (.ref p) H'
theorem rep_non:∀ n:Nat,(List.replicate n [V.non]).flatten=(List.replicate n (none:Option Int)).map oV
 | 0=>rfl
 |n+1=>by
  rw[List.replicate_succ,List.replicate_succ,List.flatten_cons,rep_non n]
  rfl
section
variable{P:Program}{w:World}{K:PySem.W.Frag}{mg:Str->Option Value}{base:Heap}
noncomputable abbrev nHds:List Str:=["web","beside","heads","place"]
theorem scHds:FnScope nHds ["web"] (defScope sHeadsOf):=⟨rfl,rfl,rfl,by decide +kernel,rfl,by decide +kernel,by decide +kernel⟩
theorem ok_hds{f g1 g2:Addr}{fd d1 d2:FuncData}(F:Fun K "heads_of" "heads_of" sHeadsOf f fd)(T:Txt mg)(GB:CalF P w K mg base 1 "beside_each" ["web"] spBes g1 d1)(GS:CalF P w K mg base 1 "spread" ["beside","heads","head"] spSpr g2 d2):FnOk P w K mg base CX0 2 f fd ["web"] spHds:=by
 refine F.ok scHds (fun vs H Q E h=>?_) (fun cdv A outer s H vs Q E hr h=>?_)
 ·obtain⟨t,n,ties,rfl,_⟩:=h
  rfl
 ·obtain⟨t,n,ties,rfl,W,ok,nb,q⟩:=h
  obtain⟨⟨ts,bs,h1,h2,h3⟩,len⟩:=id W
  refine⟨_,pss_cons (ps_set (i:=1) scHds.nd rfl (Or.inl rfl) (pe_call GB.ok hr rfl GB.mg GB.kp GB.bd .nil pass0 (@pa_nam _ _ _ _ _ _ (pv 0) pa_nil)))
   (pss_cons (ps_set (i:=2) scHds.nd rfl (Or.inl rfl) (pe_op op_rep (@pe_lst _ _ _ _ (@pa_cst _ _ _ _ _ _ _ pe_non pa_nil)) (@pe_ix _ _ _ _ _ _ _ ix_tup (pv 0) pe_int (fun _ _=>rfl))))
   (pss_cons (ps_for PassesOwn.never rfl (pi_range1 rfl T.range (@pa_sub _ _ _ _ _ _ _ (@pe_ix _ _ _ _ _ _ _ ix_tup (pv 0) pe_int (fun _ _=>rfl)) pa_nil)) (pg_name (i:=3) scHds.nd rfl (Or.inl rfl))
    (pss_one (ps_if (pt_cmp (pc_isN (pe_ix ix_list (pv 2) (pv 3) (fun _ _=>rfl))))
     (pss_one (ps_expr (pe_call GS.ok hr rfl GS.mg GS.kp GS.bd .nil pass0 (@pa_nam _ _ _ _ _ _ (pv 1) (@pa_nam _ _ _ _ _ _ (pv 2) (@pa_nam _ _ _ _ _ _ (pv 3) pa_nil)))))) pss_nil)))
   (pss_one (ps_ret (pv 2))))),?_⟩
  refine⟨_,rfl,t,n,ties,rfl,W,ok,nb,fun b as H1 hb al B s1=>?_⟩
  have h1':=s1 _ _ h1
  refine⟨(by show 1<=sizeLine;decide),fun l hl=>⟨_,rfl,t,_,_,_,rfl,rfl,SqT.of ((Same.new hl) _ _ h1'),rfl,l,_,_,rfl,rfl,upd_same,by lia,by lia,by show 1 * _<=_;rw[sizeLine_eq];lia,fun p hp=>?_⟩⟩
  rw[show((n:Int)).toNat=n by lia,rep_non]
  have sl:=Same.new (o:=.lst [V.non]) hl
  have sp:=Same.new (o:=.lst ((List.replicate n (none:Option Int)).map oV)) hp
  have s2:=s1.trans (sl.trans sp)
  have hp1:H1 p=none:=sl.free hp
  have hp0:H p=none:=s1.free hp1
  have bp:b≠p:=fun z=>by rw[z,hp1]at hb;cases hb
  have pa:p∉as:=fun m=>by
   obtain⟨i,hi,e⟩:=List.getElem_of_mem m
   obtain⟨cs,ec,_⟩:=B i hi
   rw[e,hp1]at ec
   cases ec
  have B2:=B.same (sl.trans sp)
  have hb2:=(sl.trans sp) _ _ hb
  have hpU:(upd (upd H1 l (.lst [V.non])) p (.lst ((List.replicate n (none:Option Int)).map oV))) p=_:=upd_same
  generalize (upd (upd H1 l (.lst [V.non])) p (.lst ((List.replicate n (none:Option Int)).map oV)))=H2 at s2 B2 hb2 hpU
  refine⟨_,rfl,t,_,_,_,rfl,rfl,SqT.of (s2 _ _ h1),rfl,_,rfl,by lia,by lia,?_⟩
  rw[show((n:Int)).toNat=n by lia]
  have at0:∀ v:Int,oAt (List.replicate n none) v=none:=fun v=>by
   unfold oAt
   rw[List.getElem?_replicate]
   split <;> rfl
  refine for_range (lo:=0) (n:=n) (fun i σ G=>∃ hv v3,σ=[some (.ref t),some (.ref b),some (.ref p),v3]/\G p=some (.lst (hv.map oV))/\HI n ties hv i/\Kept p H2 G) ⟨_,none,rfl,hpU,⟨List.length_replicate,fun a b w _=>(by rw[at0,at0]),fun v h _ _ e=>(by rw[at0]at e;cases e),fun v v0 v1=>absurd v1 (by lia)⟩,Kept.refl⟩ ?_ ?_
  ·rintro i σ G hi ⟨hv,v3,rfl,gp,S,kG⟩
   have il:i<hv.length:=by rw[S.len];exact hi
   rw[show(0:Int)+(i:Int)=(i:Int) by lia]
   refine⟨_,rfl,_,rfl,p,_,_,_,rfl,rfl,SqL.of gp,oV_get il,_,rfl,ite2 (fun hz=>?_) (fun hz=>?_)⟩
   ·have z:oAt hv i=none:=by
     cases e:oAt hv i with
     |none=>rfl
     |some y=>rw[e]at hz;exact absurd hz (by simp[oV])
    refine⟨_,rfl,_,rfl,_,rfl,b,p,as,n,i,ties,hv,rfl,kG _ _ bp hb2,al,B2.kept kG hpU pa,ok,nb,gp,S.len,bp,pa,hi,z,S.clo,fun hv' G' gp' D k'=>?_⟩
    exact⟨hv',_,rfl,gp',S.next ok hi D,kG.trans k'⟩
   ·have z:oAt hv i≠none:=fun e=>by rw[e]at hz;exact hz rfl
    exact⟨hv,_,rfl,gp,S.skip z,kG⟩
  ·rintro σ G ⟨hv,v3,rfl,gp,S,kG⟩
   obtain⟨hs,e,IH⟩:=S.fin
   subst e
   rw[List.map_map]at gp
   refine⟨_,rfl,q p hs G hp0 gp IH fun u o e=>kG u o (ne_of_none e hp0) (s2 _ _ e)⟩
end
open PySem L2 PyProof.Rows
noncomputable def rest(ties:List Tie)(ks:List (List Int)):List Tie:=ties.filter fun x=>!decide (pairOf x∈ks)
theorem mem_rest{ties:List Tie}{ks:List (List Int)}{x:Tie}:x∈rest ties ks↔x∈ties/\pairOf x∉ks:=by
 unfold rest
 rw[List.mem_filter]
 simp
noncomputable def sumN(fs:List Int):Nat:=(fs.map Int.toNat).sum
theorem sumN_set:∀ {fs:List Int}{j:Nat}{x:Int},j<fs.length->sumN (fs.set j x)+(hAt fs j).toNat=sumN fs+x.toNat
 |a :: r,0,x,_=>by
  unfold sumN hAt
  simp only[List.set_cons_zero,List.map_cons,List.sum_cons,Int.toNat_natCast]
  show x.toNat+(r.map Int.toNat).sum+a.toNat=a.toNat+(r.map Int.toNat).sum+x.toNat
  lia
 |a :: r,j+1,x,h=>by
  have h':j<r.length:=by simpa using h
  have ih:=sumN_set (fs:=r) (j:=j) (x:=x) h'
  rw[hAt_nat h']at ih
  rw[hAt_nat h]
  unfold sumN at *
  simp only[List.set_cons_succ,List.map_cons,List.sum_cons,List.getElem_cons_succ]
  lia
theorem hAt_set{fs:List Int}{j:Nat}{x:Int}(hj:j<fs.length)(i:Int)(h0:0<=i):hAt (fs.set j x) i=if i=(j:Int)then x else hAt fs i:=by
 unfold hAt
 rw[List.getD_eq_getElem?_getD,List.getD_eq_getElem?_getD]
 by_cases e:i=(j:Int)
 ·subst e
  rw[if_pos rfl,Int.toNat_natCast,List.getElem?_set_self hj]
  rfl
 ·rw[if_neg e,List.getElem?_set_ne (by lia)]
structure FI(n:Nat)(ties:List Tie)(fs:List Int):Prop where
 len:fs.length=n
 low:∀ i:Int,0<=i->i<n->0<=hAt fs i/\hAt fs i<=i
 rch:∀ i:Int,0<=i->i<n->Rch ties i (hAt fs i)
theorem FI.fin{n:Nat}{ties:List Tie}{fs:List Int}(ok:∀ x∈ties,TieOk n x)(I:FI n ties fs)(e:∀ x∈ties,hAt fs x.1=hAt fs x.2.1):IsHeads n ties fs :=
 ⟨I.len,I.rch,fun i i0 i1 j r=>by
  have c:hAt fs i=hAt fs j:=Rch.inv (fun a b w m=>e _ m) r
  obtain⟨j0,j1⟩:=r.range ok i0 i1
  rw[c]
  exact(I.low j j0 j1).2⟩
theorem FI.put{n:Nat}{ties:List Tie}{fs:List Int}{a b:Nat}{w:Int}(I:FI n ties fs)(m:((a:Int),(b:Int),w)∈ties)(ab:a<b)(bn:b<n)(ne:hAt fs a≠hAt fs b){l:Int}(el:l=if hAt fs b<hAt fs a then hAt fs b else hAt fs a) :
  FI n ties ((fs.set a l).set b l)/\sumN ((fs.set a l).set b l)<sumN fs:=by
 have aL:a<fs.length:=by rw[I.len];lia
 have bL:b <(fs.set a l).length:=by rw[List.length_set,I.len];omega
 obtain⟨a0,a1⟩:=I.low a (by lia) (by lia)
 obtain⟨b0,b1⟩:=I.low b (by lia) (by lia)
 have ra:=I.rch a (by lia) (by lia)
 have rb:=I.rch b (by lia) (by lia)
 have rab:Rch ties a b:=.up m (.refl _)
 have l0:0<=l:=by rw[el];split <;> assumption
 have la:l<=hAt fs a:=by rw[el];split <;> lia
 have lb:l<=hAt fs b:=by rw[el];split <;> lia
 have ral:Rch ties a l:=by
  rw[el]
  split
  ·exact rab.trans rb
  ·exact ra
 have key:∀ i:Int,0<=i->hAt ((fs.set a l).set b l) i=if i=(b:Int)then l else if i=(a:Int)then l else hAt fs i:=fun i i0=>by
  rw[hAt_set bL i i0,hAt_set aL i i0]
 refine⟨⟨by rw[List.length_set,List.length_set];exact I.len,fun i i0 i1=>?_,fun i i0 i1=>?_⟩,?_⟩
 ·rw[key i i0]
  split
  ·lia
  ·split
   ·lia
   ·exact I.low i i0 i1
 ·rw[key i i0]
  split
  ·rename_i e
   rw[e]
   exact rab.symm.trans ral
  ·split
   ·rename_i e
    rw[e]
    exact ral
   ·exact I.rch i i0 i1
 ·have s1:=sumN_set (fs:=fs) (j:=a) (x:=l) aL
  have s2:=sumN_set (fs:=fs.set a l) (j:=b) (x:=l) bL
  rw[hAt_set aL b (by lia),if_neg (by lia)]at s2
  lia
theorem hAt_upto{n:Nat}{i:Int}(h0:0<=i)(h1:i<n):hAt (upto n) i=i:=by
 obtain⟨j,rfl⟩:∃ j:Nat,i=(j:Int):=⟨i.toNat,by lia⟩
 rw[hAt_nat (by rw[upto_length];lia)]
 unfold upto
 rw[List.getElem_map,List.getElem_range]
noncomputable def spFst(K:PySem.W.Frag):Sp:=fun vs H Q _=>∃ (t c:Addr) (n:Nat) (ties:List Tie) (as:List Addr) (ks:List (List Int)),vs=[.ref t,.ref c]/\WebAt H t n ties/\(∀ x∈ties,TieOk n x)/\n<=1000/\SqL K H c (as.map V.ref)/\TupsAt H as ks/\ks.length<=1000 /\
 ∀ (p:Addr) (fs:List Int) (H':Hp),H p=none->H' p=some (.lst (fs.map V.int))->IsHeads n (rest ties ks) fs->Same H H'->Q (.ref p) H'
theorem inl_inj:∀ {a b:List Int},a.map (Sum.inl:Int->Key)=b.map Sum.inl->a=b
 |[],[],_=>rfl
 |[],_ :: _,h=>by cases h
 | _ :: _,[],h=>by cases h
 |i :: a,j :: b,h=>by
  simp only[List.map_cons,List.cons.injEq,Sum.inl.injEq]at h
  rw[h.1,inl_inj h.2]
noncomputable def goneL:List Addr->List (List Int)->List (List Key×Addr×V)
 |a :: as,k :: ks=>(k.map Sum.inl,a,V.bl true) :: goneL as ks
 | _,_=>[]
theorem putPs_some:∀ (ps:List (List Key×Addr×V)) (kvs:List (List Key×V)) (k:List Key),(valV (ps.foldl (fun kvs x=>putK kvs x.1 x.2.2) kvs) k).isSome=true↔(valV kvs k).isSome=true\/k∈ps.map (fun(y:List Key×Addr×V)=>y.1)
 |[],kvs,k=>⟨.inl,fun z=>z.resolve_right (fun h=>nomatch h)⟩
 |x :: r,kvs,k=>by
  have ih:=putPs_some r (putK kvs x.1 x.2.2) k
  show(valV (r.foldl (fun kvs x=>putK kvs x.1 x.2.2) (putK kvs x.1 x.2.2)) k).isSome=true↔_
  rw[ih,valV_put,List.map_cons,List.mem_cons]
  by_cases e:k=x.1
  ·rw[if_pos e]
   exact⟨fun _=>.inr (.inl e),fun _=>.inl rfl⟩
  ·rw[if_neg e]
   exact⟨fun z=>z.elim .inl (fun y=>.inr (.inr y)),fun z=>z.elim .inl (fun y=>.inr (y.resolve_left e))⟩
theorem goneL_snoc:∀ {as:List Addr}{ks:List (List Int)}{a:Addr}{k:List Int},as.length=ks.length->goneL (as++[a]) (ks++[k])=goneL as ks++[(k.map Sum.inl,a,V.bl true)]
 |[],[],_,_,_=>rfl
 | _ :: as,_ :: ks,a,k,h=>by
  show _ :: goneL (as++[a]) (ks++[k])=_ :: (goneL as ks++[_])
  rw[goneL_snoc (Nat.succ.inj h)]
 |[],_ :: _,_,_,h=>by cases h
 | _ :: _,[],_,_,h=>by cases h
theorem goneL_keys:∀ {as:List Addr}{ks:List (List Int)},as.length=ks.length->(goneL as ks).map (·.1)=ks.map (List.map Sum.inl)
 |[],[],_=>rfl
 | _ :: as,_ :: ks,h=>by
  show _ :: (goneL as ks).map (·.1)=_ :: ks.map (List.map Sum.inl)
  rw[goneL_keys (Nat.succ.inj h)]
 |[],_ :: _,h=>by cases h
 | _ :: _,[],h=>by cases h
theorem gone_some{as:List Addr}{ks:List (List Int)}(h:as.length=ks.length)(k:List Int):(valV (putPs (goneL as ks)) (k.map Sum.inl)).isSome=decide (k∈ks):=by
 have e:=putPs_some (goneL as ks) [] (k.map Sum.inl)
 rw[goneL_keys h,List.mem_map]at e
 rw[Bool.eq_iff_iff,decide_eq_true_eq]
 show(valV ((goneL as ks).foldl (fun kvs x=>putK kvs x.1 x.2.2) []) (k.map Sum.inl)).isSome=true↔_
 rw[e]
 refine⟨fun z=>?_,fun hk=>.inr ⟨k,hk,rfl⟩⟩
 rcases z with z |⟨q,hq,e⟩
 ·cases z
 ·rw[<- inl_inj e];exact hq
theorem call_tuple_ofK{X:Cx}(K:PySem.W.Frag)(e:X.K=K):CallR X (.type "tuple") (fun xs H Q=>∃ p ys,xs=[.ref p]/\((SqL K H p ys/\∀ l,H l=none->Q (.ref l) (upd H l (.tup ys)))\/(SqT K H p ys/\Q (.ref p) H))):=e▸call_tuple_of
structure LI(H:Hp)(d p:Addr)(kvs:List (List Key×V))(n:Nat)(ties:List Tie)(fs:List Int)(G:Hp):Prop where
 hp:G p=some (.lst (fs.map V.int))
 hd:G d=some (.dT kvs)
 fi:FI n ties fs
 sam:Same H G
theorem LI.new{H:Hp}{d p:Addr}{kvs:List (List Key×V)}{n:Nat}{ties:List Tie}{fs:List Int}{G:Hp}{u:Addr}{o:HO}(I:LI H d p kvs n ties fs G)(h:G u=none):LI H d p kvs n ties fs (upd G u o) :=
 ⟨(Same.new h) _ _ I.hp,(Same.new h) _ _ I.hd,I.fi,I.sam.trans (Same.new h)⟩
section
variable{P:Program}{w:World}{K:PySem.W.Frag}{mg:Str->Option Value}{base:Heap}
noncomputable abbrev nFst:List Str:=["_law_web_here","_law_cut_here","_law_gone","_law_firsts_here","_law_more","_law_a","_law_b","_law_weight_here","_law_least"]
theorem scFst:FnScope nFst ["_law_web_here","_law_cut_here"] (defScope sFirsts):=⟨rfl,rfl,rfl,by decide +kernel,rfl,by decide +kernel,by decide +kernel⟩
theorem csFst:CompScope ["_law_pair"] [none] nFst (defScope sFirsts) (scO [(".0",.local),("_law_pair",.local),("tuple",.globalImplicit)]):=⟨rfl,by decide +kernel,by decide +kernel,by decide +kernel,rfl,capB_ok (by decide +kernel)⟩
theorem ndFst:(["_law_pair"]:List Str).Nodup:=by decide +kernel
theorem ok_fst{f:Addr}{fd:FuncData}(F:Fun K "_law_firsts" "_law_firsts" sFirsts f fd)(T:Txt mg)(T2:Txt2 mg):FnOk P w K mg base CX0 1 f fd ["_law_web_here","_law_cut_here"] (spFst K):=by
 refine F.ok scFst (fun vs H Q E h=>?_) (fun cdv A outer s H vs Q E hr h=>?_)
 ·obtain⟨t,c,n,ties,cas,ks,rfl,_⟩:=h
  rfl
 ·obtain⟨t,c,n,ties,cas,ks,rfl,W,ok,nb,hc,htc,hkl,q⟩:=h
  have okr:∀ x∈rest ties ks,TieOk n x:=fun x hx=>ok x (mem_rest.mp hx).1
  have ckl:cas.length=ks.length:=tups_len htc
  obtain⟨⟨ts,bs,h1,h2,h3⟩,len⟩:=id W
  have h3l:bs.length=ties.length:=h3.length
  have hu:=hu_of hr
  refine⟨_,pss_cons (ps_set (i:=2) scFst.nd rfl (Or.inl rfl) (pe_callTy (call_dict_pairs rfl hr.units) (by rfl) T2.dict PyProof.Rows.boot_dict (@pa_comp _ _ _ _ _ _ _ _ (pe_comp rfl csFst (pi_list (pv 1)) (fun C s H fp=>pg_name (i:=0) ndFst rfl (Or.inl rfl)) (fun C s H fp=>pf_nil)
    (fun C s H fp=>@pe_tup _ _ _ _ _ (@pa_call _ _ _ _ _ _ _ _ (pe_callTy (call_tuple_ofK K rfl) (by rfl) T.tuple boot_tuple (@pa_nam _ _ _ _ _ _ (pv 0) pa_nil)) (@pa_cst _ _ _ _ _ _ _ pe_bl pa_nil)))) pa_nil)))
   (pss_cons (ps_set (i:=3) scFst.nd rfl (Or.inl rfl) (pe_callTy (call_list_rng rfl) (by rfl) T.list boot_list (@pa_call _ _ _ _ _ _ _ _ (pe_callTy (call_range _) (by rfl) T.range boot_range (@pa_sub _ _ _ _ _ _ _ (@pe_ix _ _ _ _ _ _ _ ix_tup (pv 0) pe_int (fun _ _=>rfl)) pa_nil)) pa_nil)))
   (pss_cons (ps_set (i:=4) scFst.nd rfl (Or.inl rfl) pe_bl)
   (pss_cons (ps_while PassesOwn.never (pt_val (pv 4))
    (pss_cons (ps_set (i:=4) scFst.nd rfl (Or.inl rfl) pe_bl)
    (pss_one (ps_for PassesOwn.never rfl (pi_tup (@pe_ix _ _ _ _ _ _ _ ix_tup (pv 0) pe_int (fun _ _=>rfl))) (pg_tup (n:=3) rfl (pgs_cons (pg_name (i:=5) scFst.nd rfl (Or.inl rfl)) (pgs_cons (pg_name (i:=6) scFst.nd rfl (Or.inl rfl)) (pgs_cons (pg_name (i:=7) scFst.nd rfl (Or.inl rfl)) pgs_nil))))
     (pss_one (ps_if (PW.pt (pw_and (pt_cmp (pc_dnotin hu (@pe_tup _ _ _ _ _ (@pa_nam _ _ _ _ _ _ (pv 5) (@pa_nam _ _ _ _ _ _ (pv 6) pa_nil))) (pv 2))) (pw_and1 (pt_cmpR op_ne (pe_ix ix_list (pv 3) (pv 5) (fun _ _=>rfl)) (pe_ix ix_list (pv 3) (pv 6) (fun _ _=>rfl)) (nomark _)))))
      (pss_cons (ps_set (i:=8) scFst.nd rfl (Or.inl rfl) (pe_callB (call_min2 rfl) (by rfl) T.min boot_min (@pa_sub _ _ _ _ _ _ _ (pe_ix ix_list (pv 3) (pv 5) (fun _ _=>rfl)) (@pa_sub _ _ _ _ _ _ _ (pe_ix ix_list (pv 3) (pv 6) (fun _ _=>rfl)) pa_nil))))
      (pss_cons (ps_asg (pv 8) (pg_sub (pv 3) (pv 5) set_list))
      (pss_cons (ps_asg (pv 8) (pg_sub (pv 3) (pv 6) set_list))
      (pss_one (ps_set (i:=4) scFst.nd rfl (Or.inl rfl) pe_bl))))) pss_nil))))))
   (pss_one (ps_ret (pv 3)))))),?_⟩
  refine⟨_,rfl,c,rfl,⟨_,hc⟩,?_⟩
  refine comp_list (K:=K) (a:=c) (xs:=cas.map V.ref) (fun i ys G=>Same H G/\∃ bs:List Addr,ys=bs.map V.ref/\Paired (fun b (x:List Key×Addr×V)=>G b=some (.tup [.ref x.2.1,x.2.2])/\G x.2.1=some (.tup (x.1.map kV))) bs (goneL (cas.take i) (ks.take i))) (by rw[List.length_map,sizeLine_eq];lia) ⟨Same.refl _,[],rfl,by rw[List.take_zero,List.take_zero];exact .nil⟩ (fun i ys G _ pp=>pp.1.seq hc) ?_ ?_
  ·rintro i x ys G hx ⟨sm,bs,rfl,pb⟩
   obtain⟨il,e⟩:=List.getElem?_eq_some_iff.mp hx
   rw[List.length_map]at il
   rw[List.getElem_map]at e
   subst e
   have ik:i<ks.length:=by lia
   have ha:=sm _ _ (tups_at htc i il ik)
   refine⟨trivial,tTru_if ⟨_,rfl,_,_,rfl,.inr ⟨SqT.of ha,(by show 2<=sizeLine;decide),fun b hb=>⟨sm.trans (Same.new hb),bs++[b],by rw[List.map_append];rfl,?_⟩⟩⟩⟩
   rw[List.take_succ_eq_append_getElem il,List.take_succ_eq_append_getElem ik,goneL_snoc (by rw[List.length_take,List.length_take];lia)]
   refine Paired.snoc (Paired.mapP pb fun b x z=>⟨(Same.new hb) _ _ z.1,(Same.new hb) _ _ z.2⟩) ⟨upd_same,?_⟩
   rw[(Same.new hb) _ _ ha,List.map_map]
   rfl
  rintro ys G yl ⟨sm,bs',rfl,pb⟩ D hD
  rw[List.take_of_length_le (by rw[List.length_map];lia),List.take_of_length_le (by rw[List.length_map];lia)]at pb
  have sD0:=Same.new (o:=.lst (bs'.map V.ref)) hD
  have gl:(goneL cas ks).length<sizeLine:=by
   have:=goneL_keys ckl
   have:=congrArg List.length this
   rw[List.length_map,List.length_map]at this
   rw[sizeLine_eq]
   lia
  refine⟨D,bs',goneL cas ks,rfl,SqL.of upd_same,Paired.mapP pb fun b x z=>⟨sD0 _ _ z.1,sD0 _ _ z.2⟩,gl,fun d hd=>?_⟩
  have sD:=sm.trans (sD0.trans (Same.new (o:=.dT (putPs (goneL cas ks))) hd))
  have gd:(upd (upd G D (.lst (bs'.map V.ref))) d (.dT (putPs (goneL cas ks)))) d=some (.dT (putPs (goneL cas ks))):=upd_same
  generalize (upd (upd G D (.lst (bs'.map V.ref))) d (.dT (putPs (goneL cas ks))))=H1 at sD gd
  clear sD0 hD hd pb sm yl
  refine⟨_,rfl,t,_,_,_,rfl,rfl,SqT.of (sD _ _ h1),rfl,_,rfl,fun r hr=>⟨r,_,rfl,upd_same,by lia,by lia,fun p hp=>?_⟩⟩
  rw[show((n:Int)).toNat=n by lia]
  have hp1:H1 p=none:=(Same.new (o:=.rng 0 (n:Int)) hr).free hp
  have hp0:H p=none:=sD.free hp1
  have dp:d≠p:=fun z=>by rw[z,hp1]at gd;cases gd
  have s2:=(Same.new (o:=.rng 0 (n:Int)) hr).trans (Same.new (o:=.lst ((upto n).map V.int)) hp)
  have gp:(upd (upd H1 r (.rng 0 (n:Int))) p (.lst ((upto n).map V.int))) p=some (.lst ((upto n).map V.int)):=upd_same
  have I0:LI H d p (putPs (goneL cas ks)) n (rest ties ks) (upto n) (upd (upd H1 r (.rng 0 (n:Int))) p (.lst ((upto n).map V.int))):=⟨gp,s2 _ _ gd,⟨upto_length n,fun i i0 i1=>by rw[hAt_upto i0 i1];exact⟨i0,Int.le_refl _⟩,fun i i0 i1=>by rw[hAt_upto i0 i1];exact .refl _⟩,sD.trans s2⟩
  generalize (upd (upd H1 r (.rng 0 (n:Int))) p (.lst ((upto n).map V.int)))=H2 at I0
  clear s2 gp hp hr gd sD hp1
  refine⟨fun m σ G2=>∃ fs mo v5 v6 v7 v8,σ=[some (.ref t),some (.ref c),some (.ref d),some (.ref p),some (.bl mo),v5,v6,v7,v8]/\m=sumN fs+(if mo=true then 1 else 0)/\LI H d p (putPs (goneL cas ks)) n (rest ties ks) fs G2/\(mo=false->∀ x∈rest ties ks,hAt fs x.1=hAt fs x.2.1),
   ⟨_,upto n,true,none,none,none,none,rfl,rfl,I0,fun z=>nomatch z⟩,?_⟩
  clear I0
  rintro m σ G2 ⟨fs0,mo,v5,v6,v7,v8,rfl,em,I0,cl⟩
  refine⟨_,rfl,mo,rfl,ite2 (fun hm=>?_) (fun hm=>?_)⟩
  ·subst hm
   rw[if_pos rfl]at em
   refine⟨fun σ' G'=>∃ m',m'<m/\∃ fs mo v5 v6 v7 v8,σ'=[some (.ref t),some (.ref c),some (.ref d),some (.ref p),some (.bl mo),v5,v6,v7,v8]/\m'=sumN fs+(if mo=true then 1 else 0)/\LI H d p (putPs (goneL cas ks)) n (rest ties ks) fs G'/\(mo=false->∀ x∈rest ties ks,hAt fs x.1=hAt fs x.2.1),fun σ' G' z=>z,?_⟩
   refine⟨_,rfl,t,_,_,_,rfl,rfl,SqT.of (I0.sam _ _ h1),rfl,ts,rfl,⟨_,SqT.of (I0.sam _ _ h2)⟩,?_⟩
   refine for_tup (K:=K) (a:=ts) (xs:=bs.map V.ref) (fun j σ' G'=>∃ fs mo v5 v6 v7 v8,σ'=[some (.ref t),some (.ref c),some (.ref d),some (.ref p),some (.bl mo),v5,v6,v7,v8]/\LI H d p (putPs (goneL cas ks)) n (rest ties ks) fs G'/\(mo=true->sumN fs<sumN fs0)/\(mo=false->sumN fs=sumN fs0/\∀ x∈ties.take j,pairOf x∉ks->hAt fs x.1=hAt fs x.2.1))
    ⟨fs0,false,_,_,_,_,rfl,I0,fun z=>(nomatch z),fun _=>⟨rfl,fun x hx _=>by rw[List.take_zero]at hx;cases hx⟩⟩ (fun j σ' G' _ z=>by obtain⟨fs,mo,v5,v6,v7,v8,_,I,_⟩:=z;exact SqT.of (I.sam _ _ h2)) ?_ ?_
   ·clear I0 cl em v5 v6 v7 v8
    rintro j x σ' G' hx ⟨fs,mo,v5,v6,v7,v8,rfl,I,m1,m2⟩
    obtain⟨il,e⟩:=List.getElem?_eq_some_iff.mp hx
    rw[List.length_map]at il
    rw[List.getElem_map]at e
    subst e
    have it:j<ties.length:=by lia
    have hx:=I.sam _ _ (Paired.at h3 j il it)
    have tk:ties.take (j+1)=ties.take j++[ties[j]]:=List.take_succ_eq_append_getElem it
    have mem:ties[j]∈ties:=List.getElem_mem it
    obtain⟨o1,o2,o3,o4⟩:=ok _ mem
    generalize ties[j]=x at *
    obtain⟨a,b,wt⟩:=x
    have o1:0<=a:=o1
    have o2:a<b:=o2
    have o3:b <(n:Int):=o3
    obtain⟨a,rfl⟩:∃ a':Nat,a=(a':Int):=⟨a.toNat,by lia⟩
    obtain⟨b,rfl⟩:∃ b':Nat,b=(b':Int):=⟨b.toNat,by lia⟩
    have aL:a<fs.length:=by rw[I.fi.len];lia
    have bL:b<fs.length:=by rw[I.fi.len];lia
    have ga:atI (fs.map V.int) (a:Int)=some (V.int (hAt fs a)):=atI_nat (by rw[List.getElem?_map,List.getElem?_eq_getElem aL,hAt_nat aL];rfl)
    have gb:atI (fs.map V.int) (b:Int)=some (V.int (hAt fs b)):=atI_nat (by rw[List.getElem?_map,List.getElem?_eq_getElem bL,hAt_nat bL];rfl)
    refine⟨bs[j],_,rfl,SqT.of hx,rfl,_,_,rfl,_,_,rfl,_,_,rfl,rfl,?_⟩
    refine⟨_,rfl,_,rfl,(by show 2<=sizeLine;decide),fun tp htp=>?_⟩
    have I1:=I.new (o:=.tup [.int (a:Int),.int (b:Int)]) htp
    refine⟨_,rfl,d,_,rfl,DGet.t (k:=[Sum.inl (a:Int),Sum.inl (b:Int)]) I1.hd upd_same,_,rfl,?_⟩
    have gs:(valV (putPs (goneL cas ks)) [Sum.inl (a:Int),Sum.inl (b:Int)]).isSome=decide ([(a:Int),(b:Int)]∈ks):=gone_some ckl [(a:Int),(b:Int)]
    rw[gs]
    have hp1:=I1.hp
    by_cases inn:[(a:Int),(b:Int)]∈ks
    ·rw[decide_eq_true inn]
     refine iteF (iteF ⟨fs,mo,_,_,_,_,rfl,I1,m1,fun z=>⟨(m2 z).1,fun x hx nx=>?_⟩⟩)
     rw[tk]at hx
     rcases List.mem_append.mp hx with hx | hx
     ·exact(m2 z).2 x hx nx
     ·rw[List.mem_singleton.mp hx]at nx
      exact absurd inn nx
    rw[decide_eq_false inn]
    refine iteT ?_
    refine⟨_,rfl,_,rfl,p,_,_,_,rfl,rfl,SqL.of hp1,ga,_,rfl,_,rfl,p,_,_,_,rfl,rfl,SqL.of hp1,gb,rfl,_,rfl,ite2 (fun hn=>?_) (fun hn=>?_)⟩
    ·have ne:hAt fs a≠hAt fs b:=fun z=>by rw[z]at hn;simp at hn
     refine⟨_,rfl,_,rfl,p,_,_,_,rfl,rfl,SqL.of hp1,ga,_,rfl,_,rfl,p,_,_,_,rfl,rfl,SqL.of hp1,gb,_,_,rfl,?_⟩
     generalize el:(if hAt fs b<hAt fs a then hAt fs b else hAt fs a)=l
     obtain⟨F2,S2⟩:=I.fi.put (mem_rest.mpr ⟨mem,inn⟩) (by lia) (by lia) ne el.symm
     refine⟨_,rfl,_,rfl,_,rfl,p,_,_,a,rfl,rfl,hp1,by rw[List.length_map];exact ixN_nat aL,?_⟩
     have e1:(fs.map V.int).set a (V.int l)=(fs.set a l).map V.int:=by rw[List.map_set]
     rw[e1]
     refine⟨_,rfl,_,rfl,_,rfl,p,_,_,b,rfl,rfl,upd_same,by rw[List.length_map,List.length_set];exact ixN_nat bL,?_⟩
     have e2:((fs.set a l).map V.int).set b (V.int l)=((fs.set a l).set b l).map V.int:=by rw[List.map_set (l:=fs.set a l)]
     rw[e2]
     refine⟨(fs.set a l).set b l,true,_,_,_,_,rfl,⟨upd_same,by rw[upd_ne dp,upd_ne dp];exact I1.hd,F2,fun u o e=>?_⟩,fun _=>?_,fun z=>nomatch z⟩
     ·have up:=ne_of_none e hp0
      rw[upd_ne up,upd_ne up]
      exact I1.sam _ _ e
     ·cases mo with
      |true=>exact Nat.lt_trans S2 (m1 rfl)
      |false=>rw[<-(m2 rfl).1];exact S2
    ·have eq:hAt fs a=hAt fs b:=by
      by_cases z:hAt fs a=hAt fs b
      ·exact z
      ·exact absurd (by simpa using z) hn
     refine⟨fs,mo,_,_,_,_,rfl,I1,m1,fun z=>⟨(m2 z).1,fun x hx nx=>?_⟩⟩
     rw[tk]at hx
     rcases List.mem_append.mp hx with hx | hx
     ·exact(m2 z).2 x hx nx
     ·rw[List.mem_singleton.mp hx]
      exact eq
   ·rintro σ' G' ⟨fs,mo,v5,v6,v7,v8,rfl,I,m1,m2⟩
    rw[List.length_map,h3l,List.take_length]at m2
    refine⟨_,?_,fs,mo,_,_,_,_,rfl,rfl,I,fun z x hx=>(m2 z).2 x (mem_rest.mp hx).1 (mem_rest.mp hx).2⟩
    cases mo with
    |true=>have:=m1 rfl;rw[if_pos rfl];lia
    |false=>have:=(m2 rfl).1;rw[if_neg (by decide)];lia
  ·have hf:mo=false:=by cases mo with | true=>exact absurd rfl hm | false=>rfl
   exact⟨_,rfl,q p fs0 G2 hp0 I0.hp (I0.fi.fin okr (cl hf)) I0.sam⟩
end
open PySem L2 PyProof.Rows
noncomputable def CutIn(K:PySem.W.Frag)(H:Hp)(c:Addr)(ks:List (List Int)):Prop:=∃ (b:Bool) (as:List Addr),SqB b K H c (as.map V.ref)/\TupsAt H as ks/\ks.length<=1000
noncomputable def spWout(K:PySem.W.Frag):Sp:=fun vs H Q _=>∃ (t c:Addr) (n:Nat) (ties:List Tie) (ks:List (List Int)),vs=[.ref t,.ref c]/\WebAt H t n ties/\CutIn K H c ks/\∀ (t':Addr) (H':Hp),H t'=none->Same H H'->WebAt H' t' n (rest ties ks)->Q (.ref t') H'
noncomputable def spCut:Sp:=fun vs H Q _=>∃ (p t:Addr) (n N:Nat) (ties:List Tie),vs=[.ref p,.ref t]/\BoxAt H p N/\N+2000<2 ^ 40/\WebAt H t n ties /\
 ∀ (l:Addr) (as:List Addr) (ks:List (List Int)) (H':Hp),H l=none->H' l=some (.lst (as.map V.ref))->TupsAt H' as ks->ks.Sublist (ties.map pairOf)->BoxAt H' p (N+1001)->Kept p H H'->Q (.ref l) H'
section
variable{P:Program}{w:World}{K:PySem.W.Frag}{mg:Str->Option Value}{base:Heap}
noncomputable abbrev nWout:List Str:=["web","cut","many","ties","gone"]
theorem scWout:FnScope nWout ["web","cut"] (defScope sWithout):=⟨rfl,rfl,rfl,by decide +kernel,rfl,by decide +kernel,by decide +kernel⟩
theorem csWout1:CompScope ["pair"] [none] nWout (defScope sWithout) (scO [(".0",.local),("pair",.local)]):=⟨rfl,by decide +kernel,by decide +kernel,by decide +kernel,rfl,capB_ok (by decide +kernel)⟩
theorem ndWout1:(["pair"]:List Str).Nodup:=by decide +kernel
theorem csWout2:CompScope ["tie","gone"] [none,some 4] nWout (defScope sWithout) (scO [(".0",.local),("tie",.local),("gone",.free)]):=⟨rfl,by decide +kernel,by decide +kernel,by decide +kernel,rfl,capB_ok (by decide +kernel)⟩
theorem ndWout2:(["tie","gone"]:List Str).Nodup:=by decide +kernel
theorem ok_wout{f:Addr}{fd:FuncData}(F:Fun K "without" "without" sWithout f fd)(T:Txt mg):FnOk P w K mg base CX0 1 f fd ["web","cut"] (spWout K):=by
 refine F.ok scWout (fun vs H Q E h=>?_) (fun cdv A outer s H vs Q E hr h=>?_)
 ·obtain⟨t,c,n,ties,ks,rfl,_⟩:=h
  rfl
 ·obtain⟨t,c,n,ties,ks,rfl,W,⟨b,as,sc,tc,lk⟩,q⟩:=h
  obtain⟨⟨ts,bs,h1,h2,h3⟩,len⟩:=id W
  have h3l:bs.length=ties.length:=h3.length
  have hu:=hu_of hr
  have hu0:_<cLine:=hr.units0
  have ll:=tups_len tc
  refine⟨_,pss_cons (ps_asg (pv 0) (pg_tup (n:=2) rfl (pgs_cons (pg_name (i:=2) scWout.nd rfl (Or.inl rfl)) (pgs_cons (pg_name (i:=3) scWout.nd rfl (Or.inl rfl)) pgs_nil))))
   (pss_cons (ps_set (i:=4) scWout.nd rfl (Or.inr rfl) (pe_dcomp true hu0 rfl csWout1 (pi_seq b (pv 1)) (fun C s H fp=>pg_name (i:=0) ndWout1 rfl (Or.inl rfl)) (fun C s H fp=>pf_nil) (fun C s H fp=>pv 0) (fun C s H fp=>pe_bl)))
   (pss_one (ps_ret (@pe_tup _ _ _ _ _ (@pa_nam _ _ _ _ _ _ (pv 2) (@pa_call _ _ _ _ _ _ _ _ (pe_callTy call_tuple_of (by rfl) T.tuple boot_tuple (@pa_comp _ _ _ _ _ _ _ _ (pe_comp rfl csWout2 (pi_tup (pv 3)) (fun C s H fp=>pg_name (i:=0) ndWout2 rfl (Or.inl rfl))
    (fun C s H fp=>pf_one (pt_cmp (pc_dnotin hu (pe_slice (sl_tupK K rfl) (pv 0) po_none (po_some pe_int)) (pv 1)))) (fun C s H fp=>pv 0)) pa_nil)) pa_nil)))))),?_⟩
  refine⟨_,rfl,t,_,rfl,SqT.of h1,rfl,_,_,rfl,_,_,rfl,rfl,?_⟩
  refine⟨_,rfl,c,rfl,⟨_,sc⟩,fun D hD=>?_⟩
  refine dcomp_seq (b:=b) (K:=K) (a:=c) (xs:=as.map V.ref) (fun i G=>Same H G/\∃ kvs,G D=some (.dT kvs)/\kvs.length<=i/\∀ k:List Int,(valV kvs (k.map Sum.inl)).isSome=decide (k∈ks.take i)) ⟨Same.new hD,[],upd_same,Nat.le_refl _,fun k=>by simp[valV_nil]⟩ (fun i G _ z=>z.1.seqB sc) ?_ ?_
  ·rintro i x G hx ⟨sm,kvs,gD,kl,kv⟩
   obtain⟨il,e⟩:=List.getElem?_eq_some_iff.mp hx
   rw[List.length_map]at il
   rw[List.getElem_map]at e
   subst e
   have hk:i<ks.length:=by lia
   have a1:=sm _ _ (tups_at tc i il hk)
   refine⟨trivial,tTru_if ⟨_,rfl,_,DPut.t (k:=ks[i].map Sum.inl) gD (by rw[a1,List.map_map];rfl) (by rw[sizeLine_eq];lia),fun b o e=>?_,_,upd_same,?_,fun k=>?_⟩⟩
   ·rw[upd_ne (ne_of_none e hD)]
    exact sm _ _ e
   ·have:=length_putK kvs (ks[i].map Sum.inl) (V.bl true)
    lia
   ·rw[valV_put,List.take_succ_eq_append_getElem hk]
    by_cases ek:k.map Sum.inl=ks[i].map (Sum.inl:Int->Key)
    ·rw[if_pos ek,inl_inj ek]
     exact(decide_eq_true (List.mem_append_right _ (List.mem_singleton.mpr rfl))).symm
    ·rw[if_neg ek,kv k]
     have nk:k≠ks[i]:=fun z=>ek (by rw[z])
     rw[Bool.eq_iff_iff,decide_eq_true_eq,decide_eq_true_eq,List.mem_append,List.mem_singleton]
     exact⟨.inl,fun z=>z.resolve_right nk⟩
  ·rintro G ⟨sm,kvs,gD,kl,kv⟩
   rw[List.take_of_length_le (by rw[List.length_map];lia)]at kv
   have h2G:=sm _ _ h2
   refine⟨_,rfl,_,rfl,ts,rfl,⟨_,SqT.of h2G⟩,?_⟩
   refine comp_tup (K:=K) (a:=ts) (xs:=bs.map V.ref) (fun i ys G2=>Same G G2/\∃ cs:List Addr,ys=cs.map V.ref/\Paired (fun a x=>G2 a=some (.tup (tieV x))) cs (rest (ties.take i) ks)) (by rw[List.length_map,sizeLine_eq];lia) ⟨Same.refl _,[],rfl,.nil⟩ (fun i ys G2 _ z=>z.1.tupq (SqT.of h2G)) ?_ ?_
   ·rintro i x ys G2 hx ⟨sm2,cs,rfl,pc⟩
    obtain⟨il,e⟩:=List.getElem?_eq_some_iff.mp hx
    rw[List.length_map]at il
    rw[List.getElem_map]at e
    subst e
    have it:i<ties.length:=by lia
    have hx:=(sm.trans sm2) _ _ (Paired.at h3 i il it)
    refine⟨⟨rfl,trivial⟩,_,rfl,2,rfl,bs[i],_,rfl,SqT.of hx,(fun z=>absurd (show HT.sIx 3 3 (some 2)=3 from z.2) (by decide)),fun pp hpp=>⟨_,rfl,D,_,rfl,DGet.t (kvs:=kvs) (k:=(pairOf ties[i]).map Sum.inl) ((sm2.trans (Same.new hpp)) _ _ gD) (by rw[upd_same];rfl),_,rfl,?_⟩⟩
    have rs:rest (ties.take (i+1)) ks=rest (ties.take i) ks++(if pairOf ties[i]∈ks then []else [ties[i]]):=by
     unfold rest
     rw[List.take_succ_eq_append_getElem it,List.filter_append]
     congr 1
     by_cases z:pairOf ties[i]∈ks <;> simp[z]
    rw[rs]
    rw[kv (pairOf ties[i])]
    have pc2:Paired (fun a x=>(upd G2 pp (.tup (cutV (tieV ties[i]) none (some 2)))) a=some (.tup (tieV x))) cs (rest (ties.take i) ks):=Paired.mapP pc fun a x e=>(Same.new hpp) _ _ e
    by_cases z:pairOf ties[i]∈ks
    ·rw[decide_eq_true z,if_pos z,List.append_nil]
     exact iteF ⟨sm2.trans (Same.new hpp),cs,rfl,pc2⟩
    ·rw[decide_eq_false z,if_neg z]
     refine iteT ⟨_,rfl,sm2.trans (Same.new hpp),cs++[bs[i]],by rw[List.map_append];rfl,Paired.snoc pc2 ((Same.new hpp) _ _ hx)⟩
   ·rintro ys G2 yl ⟨sm2,cs,rfl,pc⟩ D2 hD2
    rw[List.take_of_length_le (by rw[List.length_map,h3l];exact Nat.le_refl _)]at pc
    refine⟨D2,_,rfl,.inl ⟨SqL.of upd_same,fun ts2 hts2=>⟨(by show 2<=sizeLine;decide),fun t2 ht2=>?_⟩⟩⟩
    have s1:Same G2 (upd G2 D2 (.lst (cs.map V.ref))):=Same.new hD2
    have s2:Same (upd G2 D2 (.lst (cs.map V.ref))) (upd (upd G2 D2 (.lst (cs.map V.ref))) ts2 (.tup (cs.map V.ref))):=Same.new hts2
    have s3:=Same.new (o:=.tup [.int n,.ref ts2]) ht2
    refine q t2 _ ((sm.trans sm2).free (s1.free (s2.free ht2))) (sm.trans (sm2.trans (s1.trans (s2.trans s3)))) ⟨⟨ts2,cs,upd_same,s3 _ _ upd_same,Paired.mapP pc fun a x e=>s3 _ _ (s2 _ _ (s1 _ _ e))⟩,?_⟩
    have:(rest ties ks).length<=ties.length:=List.length_filter_le _ _
    lia
theorem scCut:FnScope ["_law_box_here","_law_web_here","_law_often"] ["_law_box_here","_law_web_here"] (defScope sCut):=⟨rfl,rfl,rfl,by decide +kernel,rfl,by decide +kernel,by decide +kernel⟩
theorem csCut:CompScope ["_law_tie","_law_box_here","_law_often"] [none,some 0,some 2] ["_law_box_here","_law_web_here","_law_often"] (defScope sCut) (scO [(".0",.local),("_law_tie",.local),("_law_take",.globalImplicit),("_law_box_here",.free),("_law_often",.free)]):=⟨rfl,by decide +kernel,by decide +kernel,by decide +kernel,rfl,capB_ok (by decide +kernel)⟩
theorem ndCut:(["_law_tie","_law_box_here","_law_often"]:List Str).Nodup:=by decide +kernel
theorem ok_cut{f g:Addr}{fd gd:FuncData}(F:Fun K "_law_cut" "_law_cut" sCut f fd)(G:TakeF P w K mg base g gd):FnOk P w K mg base CX0 2 f fd ["_law_box_here","_law_web_here"] spCut:=by
 refine F.ok scCut (fun vs H Q E h=>?_) (fun cdv A outer s H vs Q E hr h=>?_)
 ·obtain⟨p,t,n,N,ties,rfl,_⟩:=h
  rfl
 ·obtain⟨p,t,n,N,ties,rfl,B,hN,W,q⟩:=h
  refine⟨_,pss_cons (ps_set (i:=2) scCut.nd rfl (Or.inr rfl) (pe_op op_add pe_int (pe_call G.ok hr rfl G.mg G.kp G.bd .nil pass0 (@pa_nam _ _ _ _ _ _ (pv 0) (@pa_cst _ _ _ _ _ _ _ pe_int pa_nil)))))
   (pss_one (ps_ret (pe_comp rfl csCut (pi_tup (pe_ix ix_tup (pv 1) pe_int (fun _ _=>rfl))) (fun C s H fp=>pg_name (i:=0) ndCut rfl (Or.inl rfl))
    (fun C s H fp=>pf_one (pt_cmpR op_eq (pe_call G.ok hr rfl G.mg G.kp G.bd .nil pass0 (@pa_nam _ _ _ _ _ _ (pv 1) (@pa_nam _ _ _ _ _ _ (pv 2) pa_nil))) pe_int (nomark _)))
    (fun C s H fp=>pe_slice (sl_tupK K rfl) (pv 0) po_none (po_some pe_int))))),?_⟩
  refine⟨_,rfl,p,_,N,rfl,B,by lia,by decide,by decide,fun z H1 z0 z1 B1 k1=>⟨_,_,rfl,rfl,?_⟩⟩
  have tp:∀ {a:Addr}{xs:List V}{G:Hp}{M:Nat},BoxAt G p M->G a=some (.tup xs)->a≠p:=fun B e z=>by
   obtain⟨x,y,c,e1,_⟩:=B
   rw[z,e1]at e
   cases e
  obtain⟨⟨ts,as,h1,h2,h3⟩,len⟩:=id W
  have h3l:as.length=ties.length:=h3.length
  have h1':=k1 _ _ (tp B h1) h1
  have h2':=k1 _ _ (tp B h2) h2
  refine⟨_,rfl,t,_,_,_,rfl,rfl,SqT.of h1',rfl,ts,rfl,⟨_,SqT.of h2'⟩,?_⟩
  refine comp_tup (K:=K) (a:=ts) (xs:=as.map V.ref) (fun i ys G=>BoxAt G p (N+1+i)/\Kept p H G/\∃ (bs:List Addr) (ks:List (List Int)),ys=bs.map V.ref/\TupsAt G bs ks/\ks.Sublist ((ties.take i).map pairOf)) (by rw[List.length_map,sizeLine_eq];lia) ⟨B1,k1,[],[],rfl,.nil,List.nil_sublist _⟩ (fun i ys G _ z=>SqT.of (z.2.1 _ _ (tp B h2) h2)) ?_ ?_
  ·rintro i x ys G hx ⟨B2,k2,bs,ks,rfl,tb,sl⟩
   obtain⟨il,e⟩:=List.getElem?_eq_some_iff.mp hx
   rw[List.length_map]at il
   rw[List.getElem_map]at e
   subst e
   have it:i<ties.length:=by lia
   have hx0:=Paired.at h3 i il it
   refine⟨⟨rfl,rfl,trivial⟩,_,rfl,_,rfl,p,_,N+1+i,rfl,B2,by lia,by lia,by lia,fun y G2 y0 y1 B3 k3=>⟨rfl,_,rfl,?_⟩⟩
   have tb3:TupsAt G2 bs ks:=Paired.mapP tb fun a k e=>k3 _ _ (tp B2 e) e
   have tk:(ties.take (i+1)).map pairOf=(ties.take i).map pairOf++[pairOf ties[i]]:=by rw[List.take_succ_eq_append_getElem it,List.map_append];rfl
   refine ite2 (fun _=>?_) (fun _=>?_)
   ·refine⟨_,rfl,2,rfl,as[i],_,rfl,SqT.of ((k2.trans k3) _ _ (tp B hx0) hx0),(fun z=>absurd (show HT.sIx 3 3 (some 2)=3 from z.2) (by decide)),fun pp hpp=>⟨(B3.new hpp).mono (by lia),k2.trans (k3.trans (Kept.new hpp)),bs++[pp],ks++[pairOf ties[i]],by rw[List.map_append];rfl,Paired.snoc (Paired.mapP tb3 fun b x e=>(Same.new hpp) _ _ e) upd_same,?_⟩⟩
    rw[tk]
    exact sl.append (List.Sublist.refl _)
   ·refine⟨B3.mono (by lia),k2.trans k3,bs,ks,rfl,tb3,?_⟩
    rw[tk]
    exact sl.trans (List.sublist_append_left _ _)
  ·rintro ys G yl ⟨B2,k2,bs,ks,rfl,tb,sl⟩ D hD
   rw[List.take_of_length_le (by rw[List.length_map,h3l];exact Nat.le_refl _)]at sl
   rw[List.length_map]at B2
   exact q D bs ks _ (k2.free B2 hD) upd_same (Paired.mapP tb fun b x e=>(Same.new hD) _ _ e) sl ((B2.new hD).mono (by lia)) (k2.trans (Kept.new hD))
end
theorem Kept.same{p:Addr}{H H':Hp}(h:H p=none)(k:Kept p H H'):Same H H':=fun b o e=>k b o (ne_of_none e h) e
theorem WebAt.kept{H H':Hp}{p t:Addr}{n:Nat}{ties:List Tie}{N:Nat}(W:WebAt H t n ties)(B:BoxAt H p N)(k:Kept p H H'):WebAt H' t n ties:=by
 obtain⟨⟨ts,as,h1,h2,h3⟩,l⟩:=W
 obtain⟨a,b,c,e,_⟩:=B
 have ne:∀ {q xs},H q=some (.tup xs)->q≠p:=fun hq=>ne_of hq e (by intro z;cases z)
 exact⟨⟨ts,as,k _ _ (ne h1) h1,k _ _ (ne h2) h2,Paired.mapP h3 fun a x e=>k _ _ (ne e) e⟩,l⟩
theorem tups_kept{H H':Hp}{p:Addr}{N:Nat}{as:List Addr}{ks:List (List Int)}(h:TupsAt H as ks)(B:BoxAt H p N)(k:Kept p H H'):TupsAt H' as ks:=by
 obtain⟨a,b,c,e,_⟩:=B
 exact Paired.mapP h fun a x e1=>k _ _ (ne_of e1 e (by intro z;cases z)) e1
theorem BoxAt.same{H H':Hp}{p:Addr}{N:Nat}(B:BoxAt H p N)(s:Same H H'):BoxAt H' p N:=by
 obtain⟨a,b,c,e,r⟩:=B
 exact⟨a,b,c,s _ _ e,r⟩
end K07
namespace L2
open PySem PySem.W PyProof.Rows HT
end L2
namespace SetA
open PySem
noncomputable def Rs(xs:Array Nat):Prop:=∀ i j,i<j->j<xs.size->xs.getD i 0<xs.getD j 0
theorem getD_any{xs:Array Nat}{i d e:Nat}(h:i<xs.size):xs.getD i d=xs.getD i e:=by
 rw[Array.getD_eq_getD_getElem?,Array.getD_eq_getD_getElem?,Array.getElem?_eq_getElem h]
 rfl
theorem go_spec{xs:Array Nat}{j:Nat}(r:Rs xs):∀ (fuel lo hi:Nat),hi-lo<=fuel->lo<=hi->hi<=xs.size->(∀ i,i<lo->xs.getD i 0<j)->(∀ i,hi<=i->i<xs.size->j<=xs.getD i 0) ->
  SetTable.below.go xs j fuel lo hi<=xs.size/\(∀ i,i<SetTable.below.go xs j fuel lo hi->xs.getD i 0<j)/\∀ i,SetTable.below.go xs j fuel lo hi<=i->i<xs.size->j<=xs.getD i 0
 | 0,lo,hi,f,l,h,a,b=>by
  have e:lo=hi:=by lia
  subst e
  exact⟨h,a,b⟩
 |fuel+1,lo,hi,f,l,h,a,b=>by
  unfold SetTable.below.go
  by_cases c:lo<hi
  ·rw[if_pos c]
   dsimp only
   have m1:(lo+hi) / 2<hi:=by lia
   have m0:lo<=(lo+hi) / 2:=by lia
   have ms:(lo+hi) / 2<xs.size:=by lia
   rw[getD_any (e:=0) ms]
   by_cases d:xs.getD ((lo+hi) / 2) 0<j
   ·rw[if_pos d]
    refine go_spec r fuel _ hi (by omega) (by lia) h (fun i hi'=>?_) b
    by_cases e:i=(lo+hi) / 2
    ·rw[e];exact d
    ·have:=r i ((lo+hi) / 2) (by lia) ms
     omega
   ·rw[if_neg d]
    refine go_spec r fuel lo _ (by omega) m0 (by lia) a fun i hi' his=>?_
    by_cases e:i=(lo+hi) / 2
    ·rw[e];omega
    ·have:=r ((lo+hi) / 2) i (by lia) his
     omega
  ·rw[if_neg c]
   have e:lo=hi:=by lia
   subst e
   exact⟨h,a,b⟩
theorem below_spec{xs:Array Nat}(r:Rs xs)(j:Nat):SetTable.below xs j<=xs.size/\(∀ i,i<SetTable.below xs j->xs.getD i 0<j)/\∀ i,SetTable.below xs j<=i->i<xs.size->j<=xs.getD i 0 :=
 go_spec r xs.size 0 xs.size (by lia) (by lia) (Nat.le_refl _) (fun i h=>absurd h (by lia)) fun i h h'=>absurd h' (by lia)
theorem below_at{xs:Array Nat}(r:Rs xs){i j:Nat}(h:xs[i]?=some j):SetTable.below xs j=i:=by
 obtain⟨p1,p2,p3⟩:=below_spec r j
 obtain⟨hi,e⟩:=Array.getElem?_eq_some_iff.mp h
 have eg:xs.getD i 0=j:=by rw[Array.getD_eq_getD_getElem?,h];rfl
 by_cases a:i<SetTable.below xs j
 ·have:=p2 i a
  lia
 ·by_cases b:SetTable.below xs j=i
  ·exact b
  ·have lt:SetTable.below xs j<i:=by lia
   have:=r _ i lt hi
   have:=p3 (SetTable.below xs j) (Nat.le_refl _) (by lia)
   omega
theorem slot_live{t:SetTable}(r:Rs t.place){i j:Nat}(h:t.place[i]?=some j):t.slot j = .live i:=by
 unfold SetTable.slot
 dsimp only
 rw[below_at r h,h]
 simp
theorem slot_empty{t:SetTable}(hd:t.dummies = #[]){j:Nat}(h:∀ i:Nat,t.place[i]?≠some j):t.slot j = .empty:=by
 unfold SetTable.slot
 dsimp only
 have e:(t.place[SetTable.below t.place j]? == some j)=false:=Bool.eq_false_iff.mpr fun z=>h _ (by simpa using z)
 rw[e,hd]
 rfl
theorem insertAt_get{α:Type}(xs:Array α)(p:Nat)(x:α)(hp:p<=xs.size)(i:Nat):(SetTable.insertAt xs p x)[i]?=if i<p then xs[i]? else if i=p then some x else xs[i-1]?:=by
 have e:(SetTable.insertAt xs p x).toList=xs.toList.take p++x :: xs.toList.drop p:=by
  rw[SetTable.toList_insertAt]
 rw[<- Array.getElem?_toList,e]
 have ht:(xs.toList.take p).length=p:=by rw[List.length_take,Array.length_toList];lia
 by_cases a:i<p
 ·rw[if_pos a,List.getElem?_append_left (by lia),List.getElem?_take_of_lt a,Array.getElem?_toList]
 ·rw[if_neg a,List.getElem?_append_right (by lia),ht]
  by_cases b:i=p
  ·rw[if_pos b,b,Nat.sub_self]
   rfl
  ·rw[if_neg b]
   obtain⟨k,hk⟩:∃ k,i-p=k+1:=⟨i-p-1,by lia⟩
   rw[hk,List.getElem?_cons_succ,List.getElem?_drop,<- Array.getElem?_toList]
   congr 1
   lia
noncomputable def adv(mask:Nat)(p:SetTable.Probe):SetTable.Probe:=SetTable.advance { (default:SetTable)with mask } p
noncomputable def st0(mask:Nat)(h:Int):SetTable.Probe:=SetTable.probeStart { (default:SetTable)with mask } h
noncomputable def pth(mask:Nat)(h:Int):Nat->SetTable.Probe
 | 0=>st0 mask h
 |k+1=>adv mask (pth mask h k)
theorem adv_dummy{mask:Nat}{p:SetTable.Probe}(h:p.dummy=none):(adv mask p).dummy=none:=by
 unfold adv SetTable.advance
 split
 ·exact h
 ·exact h
theorem pth_dummy{mask:Nat}{h:Int}:∀ k,(pth mask h k).dummy=none
 | 0=>rfl
 |k+1=>adv_dummy (pth_dummy k)
section
variable{t:SetTable}{hashAt:Nat->Int}{h:Int}
theorem go_empty{fuel:Nat}{k:Nat}(e:t.slot (pth t.mask h k).j = .empty):SetTable.probe.go t hashAt h (fuel+1) (pth t.mask h k)=some (.empty (pth t.mask h k).j none):=by
 unfold SetTable.probe.go
 rw[e,pth_dummy]
theorem go_hit{fuel:Nat}{k i:Nat}(e:t.slot (pth t.mask h k).j = .live i)(eh:hashAt i=h):SetTable.probe.go t hashAt h (fuel+1) (pth t.mask h k)=some (.candidate (pth t.mask h k).j i (pth t.mask h (k+1))):=by
 unfold SetTable.probe.go
 rw[e]
 dsimp only
 rw[if_pos (by simp[eh])]
 rfl
theorem go_skip{fuel:Nat}{k i:Nat}(e:t.slot (pth t.mask h k).j = .live i)(eh:hashAt i≠h):SetTable.probe.go t hashAt h (fuel+1) (pth t.mask h k)=SetTable.probe.go t hashAt h fuel (pth t.mask h (k+1)):=by
 conv=>lhs;unfold SetTable.probe.go
 rw[e]
 dsimp only
 rw[if_neg (by simp[eh])]
 rfl
theorem go_on{n:Nat}:∀ {fuel k:Nat},k<=n->n<k+fuel->(∀ m,k<=m->m<n->∃ i,t.slot (pth t.mask h m).j = .live i/\hashAt i≠h)->∃ fuel',SetTable.probe.go t hashAt h fuel (pth t.mask h k)=SetTable.probe.go t hashAt h (fuel' + 1) (pth t.mask h n)
 | 0,k,a,b,_=>absurd b (by lia)
 |fuel+1,k,a,b,sk=>by
  by_cases e:k=n
  ·subst e;exact⟨fuel,rfl⟩
  ·obtain⟨i,e1,e2⟩:=sk k (Nat.le_refl _) (by lia)
   obtain⟨f',ef⟩:=go_on (n:=n) (fuel:=fuel) (k:=k+1) (by lia) (by lia) fun m hm1 hm2=>sk m (by lia) hm2
   exact⟨f',by rw[go_skip e1 e2,ef]⟩
end
theorem run_on{mask:Nat}{h:Int}:∀ (r k:Nat),(pth mask h k).more=r->(pth mask h (k+r)).i=(pth mask h k).i/\(pth mask h (k+r)).perturb=(pth mask h k).perturb/\(pth mask h (k+r)).more=0
 | 0,k,e=>⟨rfl,rfl,e⟩
 |r+1,k,e=>by
  have st:pth mask h (k+1) = { pth mask h k with j:=(pth mask h k).j+1,more:=(pth mask h k).more-1 }:=by
   show adv mask (pth mask h k)=_
   unfold adv SetTable.advance
   rw[if_pos (by lia)]
  have e1:(pth mask h (k+1)).more=r:=by rw[st];show(pth mask h k).more-1=r;lia
  obtain⟨a,b,c⟩:=run_on (mask:=mask) (h:=h) r (k+1) e1
  have ek:k+(r+1)=k+1+r:=by lia
  rw[ek,a,b,c,st]
  exact⟨rfl,rfl,rfl⟩
noncomputable def rn(mask:Nat)(h:Int):Nat->Nat×Nat
 | 0=>(SetTable.bits h % (mask+1),SetTable.bits h)
 |m+1=>SetTable.leap mask (rn mask h m).1 (rn mask h m).2
theorem runEnd_le{mask i:Nat}:SetTable.runEnd mask i-i<=9:=by
 unfold SetTable.runEnd
 split <;> lia
theorem rn_at{mask:Nat}{h:Int}:∀ m,∃ k,k<=10 * m/\(pth mask h k).j=(rn mask h m).1/\(pth mask h k).i=(rn mask h m).1/\(pth mask h k).perturb=(rn mask h m).2/\(pth mask h k).more<=9
 | 0=>⟨0,Nat.le_refl _,rfl,rfl,rfl,runEnd_le⟩
 |m+1=>by
  obtain⟨k,hk,e1,e2,e3,e4⟩:=rn_at (mask:=mask) (h:=h) m
  obtain⟨a,b,c⟩:=run_on (mask:=mask) (h:=h) _ k rfl
  refine⟨k+(pth mask h k).more+1,by lia,?_⟩
  have st:pth mask h (k+(pth mask h k).more+1) = { pth mask h (k+(pth mask h k).more)with j:=(rn mask h (m+1)).1,more:=SetTable.runEnd mask (rn mask h (m+1)).1-(rn mask h (m+1)).1,i:=(rn mask h (m+1)).1,perturb:=(rn mask h (m+1)).2 }:=by
   show adv mask (pth mask h (k+(pth mask h k).more))=_
   unfold adv SetTable.advance
   rw[if_neg (by lia),a,b,e2,e3]
   rfl
  rw[st]
  exact⟨rfl,rfl,rfl,runEnd_le⟩
theorem bits_lt(h:Int):SetTable.bits h<2 ^ 64:=by
 unfold SetTable.bits
 have h1:=Int.emod_nonneg h (show(2 ^ 64:Int)≠0 by decide)
 have h2:=Int.emod_lt_of_pos h (show(0:Int)<2 ^ 64 by decide)
 lia
theorem rn_pert{mask:Nat}{h:Int}:∀ m,(rn mask h m).2=SetTable.bits h / 32 ^ m
 | 0=>by show SetTable.bits h=_;rw[Nat.pow_zero,Nat.div_one]
 |m+1=>by
  show(rn mask h m).2 / 32=_
  rw[rn_pert m,Nat.div_div_eq_div_mul,Nat.pow_succ]
theorem rn_still{mask:Nat}{h:Int}{m:Nat}(hm:13<=m):(rn mask h m).2=0:=by
 rw[rn_pert]
 refine Nat.div_eq_of_lt (Nat.lt_of_lt_of_le (bits_lt h) ?_)
 exact Nat.le_trans (show 2 ^ 64<=32 ^ 13 by decide) (Nat.pow_le_pow_right (by decide) hm)
noncomputable def ff(mask x:Nat):Nat:=(x * 5+1) % (mask+1)
noncomputable def it(mask:Nat):Nat->Nat->Nat
 | 0,x=>x
 |n+1,x=>it mask n (ff mask x)
theorem it_add{mask:Nat}:∀ (a b x:Nat),it mask (a+b) x=it mask b (it mask a x)
 | 0,b,x=>by rw[Nat.zero_add];rfl
 |a+1,b,x=>by
  rw[show a+1+b=(a+b)+1 by lia]
  exact it_add a b (ff mask x)
theorem rn_it{mask:Nat}{h:Int}:∀ n,(rn mask h (13+n)).1=it mask n (rn mask h 13).1
 | 0=>rfl
 |n+1=>by
  have e:it mask (n+1) (rn mask h 13).1=ff mask (it mask n (rn mask h 13).1):=it_add n 1 _
  rw[e,<- rn_it n]
  show((rn mask h (13+n)).1 * 5+1+(rn mask h (13+n)).2 / 32) % (mask+1)=_
  rw[rn_still (by lia),Nat.zero_div,Nat.add_zero]
  rfl
noncomputable def trail(mask:Nat):Nat->Nat->List Nat
 | 0,_=>[]
 |n+1,x=>x :: trail mask n (ff mask x)
noncomputable def roundB(mask:Nat):Bool:=((List.range (mask+1)).all fun j=>(trail mask (mask+1) 0).contains j) && it mask (mask+1) 0 == 0
theorem round7:roundB 7=true:=by decide +kernel
theorem round31:roundB 31=true:=by decide +kernel
theorem round127:roundB 127=true:=by decide +kernel
theorem round511:roundB 511=true:=by decide +kernel
theorem trail_it{mask:Nat}:∀ {n x j:Nat},j∈trail mask n x->∃ k,k<n/\it mask k x=j
 | 0,x,j,h=>nomatch h
 |n+1,x,j,h=>by
  rcases List.mem_cons.mp h with e | h
  ·exact⟨0,by lia,e.symm⟩
  ·obtain⟨k,hk,e⟩:=trail_it h
   exact⟨k+1,by lia,e⟩
theorem round_ok{mask:Nat}(r:roundB mask=true){a j:Nat}(ha:a<=mask)(hj:j<=mask):∃ n,n<=mask/\it mask n a=j:=by
 unfold roundB at r
 rw[Bool.and_eq_true,List.all_eq_true]at r
 obtain⟨r1,r2⟩:=r
 have r2:it mask (mask+1) 0=0:=by simpa using r2
 obtain⟨x,hx,ex⟩:=trail_it (by simpa using r1 a (List.mem_range.mpr (by lia)))
 obtain⟨y,hy,ey⟩:=trail_it (by simpa using r1 j (List.mem_range.mpr (by lia)))
 by_cases c:x<=y
 ·refine⟨y-x,by lia,?_⟩
  rw[<- ex,<- it_add,show x+(y-x)=y by lia]
  exact ey
 ·refine⟨mask+1+y-x,by omega,?_⟩
  rw[<- ex,<- it_add,show x+(mask+1+y-x)=(mask+1)+y by lia,it_add,r2]
  exact ey
noncomputable def Mk(mask:Nat):Prop:=mask=7\/mask=31\/mask=127\/mask=511
theorem Mk.round{mask:Nat}(m:Mk mask):roundB mask=true:=by
 rcases m with rfl | rfl | rfl | rfl
 ·exact round7
 ·exact round31
 ·exact round127
 ·exact round511
theorem rn_le{mask:Nat}{h:Int}:∀ m,(rn mask h m).1<=mask
 | 0=>Nat.le_of_lt_succ (Nat.mod_lt _ (Nat.succ_pos _))
 |m+1=>Nat.le_of_lt_succ (Nat.mod_lt _ (Nat.succ_pos _))
theorem reach{mask:Nat}(m:Mk mask)(h:Int){j:Nat}(hj:j<=mask):∃ k,k<10 * SetTable.turns mask/\(pth mask h k).j=j:=by
 obtain⟨n,hn,e⟩:=round_ok m.round (rn_le (mask:=mask) (h:=h) 13) hj
 obtain⟨k,hk,e1,_⟩:=rn_at (mask:=mask) (h:=h) (13+n)
 refine⟨k,?_,by rw[e1,rn_it,e]⟩
 unfold SetTable.turns
 lia
open PySem
noncomputable def Occ(t:SetTable)(j:Nat):Prop:=∃ i:Nat,t.place[i]?=some j
theorem some_free{t:SetTable}(r:Rs t.place)(fl:t.place.size<=t.mask):∃ j,j<=t.mask/\¬ Occ t j:=by
 by_cases c:∃ j,j<=t.mask/\¬ Occ t j
 ·exact c
 ·have all:∀ j,j<=t.mask->Occ t j:=fun j hj=>Classical.byContradiction fun z=>c ⟨j,hj,z⟩
  have up:∀ j,j<=t.mask->∃ i:Nat,j<=i/\t.place[i]?=some j:=by
   intro j
   induction j with
   |zero =>
    intro h
    obtain⟨i,e⟩:=all 0 h
    exact⟨i,Nat.zero_le _,e⟩
   |succ j ih =>
    intro h
    obtain⟨i,hi,e⟩:=ih (by lia)
    obtain⟨i',e'⟩:=all (j+1) h
    refine⟨i',?_,e'⟩
    obtain⟨l1,_⟩:=Array.getElem?_eq_some_iff.mp e
    obtain⟨l2,_⟩:=Array.getElem?_eq_some_iff.mp e'
    have g1:t.place.getD i 0=j:=by rw[Array.getD_eq_getD_getElem?,e];rfl
    have g2:t.place.getD i' 0=j+1:=by rw[Array.getD_eq_getD_getElem?,e'];rfl
    by_cases x:i<i'
    ·lia
    ·by_cases y:i=i'
     ·subst y;lia
     ·have:=r i' i (by lia) l1
      lia
  obtain⟨i,hi,e⟩:=up t.mask (Nat.le_refl _)
  obtain⟨l,_⟩:=Array.getElem?_eq_some_iff.mp e
  lia
structure First(t:SetTable)(h:Int)(n:Nat):Prop where
 lt:n<10 * SetTable.turns t.mask
 free:¬ Occ t (pth t.mask h n).j
 occ:∀ m,m<n->Occ t (pth t.mask h m).j
theorem first_ex{t:SetTable}(r:Rs t.place)(fl:t.place.size<=t.mask)(mk:Mk t.mask)(h:Int):∃ n,First t h n:=by
 obtain⟨j,hj,nf⟩:=some_free r fl
 obtain⟨k,hk,e⟩:=reach mk h hj
 have gen:∀ b,(∃ n,n<=b/\¬ Occ t (pth t.mask h n).j)->∃ n,n<=b/\¬ Occ t (pth t.mask h n).j/\∀ m,m<n->Occ t (pth t.mask h m).j:=by
  intro b
  induction b with
  |zero =>
   rintro⟨n,hn,z⟩
   exact⟨n,hn,z,fun m hm=>absurd hm (by lia)⟩
  |succ b ih =>
   rintro⟨n,hn,z⟩
   by_cases c:∃ n,n<=b/\¬ Occ t (pth t.mask h n).j
   ·obtain⟨n,h1,h2,h3⟩:=ih c
    exact⟨n,by lia,h2,h3⟩
   ·refine⟨n,hn,z,fun m hm=>Classical.byContradiction fun y=>c ⟨m,by lia,y⟩⟩
 obtain⟨n,h1,h2,h3⟩:=gen k ⟨k,Nat.le_refl _,by rw[e];exact nf⟩
 exact⟨n,by lia,h2,h3⟩
structure Tb(es:Array (Int×Value))(t:SetTable):Prop where
 rs:Rs t.place
 dm:t.dummies = #[]
 sz:t.place.size=es.size
 msk:Mk t.mask
 fl:t.place.size<=t.mask
 inv:∀ (i j:Nat) (e:Int×Value),t.place[i]?=some j->es[i]?=some e->∃ n,(pth t.mask e.1 n).j=j/\∀ m,m<n->Occ t (pth t.mask e.1 m).j
theorem Tb.slot{es:Array (Int×Value)}{t:SetTable}(T:Tb es t)(j:Nat):(¬ Occ t j->t.slot j = .empty)/\∀ i:Nat,t.place[i]?=some j->t.slot j = .live i :=
 ⟨fun h=>slot_empty T.dm fun i e=>h ⟨i,e⟩,fun i e=>slot_live T.rs e⟩
theorem fits{es:Array (Int×Value)}{t:SetTable}(T:Tb es t):t.fill<=t.mask:=by
 unfold SetTable.fill
 rw[T.dm]
 have:=T.fl
 simpa using this
theorem Tb.ahead{es:Array (Int×Value)}{t:SetTable}(T:Tb es t){n0:Nat}{h:Int}(F:First t h n0){i:Nat}{e:Int×Value}(he:es[i]?=some e)(hh:e.1=h):∃ n j,n<n0/\t.place[i]?=some j/\(pth t.mask h n).j=j:=by
 obtain⟨hi,_⟩:=Array.getElem?_eq_some_iff.mp he
 have hp:i<t.place.size:=by rw[T.sz];exact hi
 obtain⟨n,e1,e2⟩:=T.inv i _ e (Array.getElem?_eq_getElem hp) he
 rw[hh]at e1 e2
 refine⟨n,_,?_,Array.getElem?_eq_getElem hp,e1⟩
 by_cases c:n<n0
 ·exact c
 ·exfalso
  by_cases d:n=n0
  ·subst d
   exact F.free (by rw[e1];exact⟨i,Array.getElem?_eq_getElem hp⟩)
  ·exact F.free (e2 n0 (by lia))
theorem Tb.put{es:Array (Int×Value)}{t:SetTable}(T:Tb es t){n0:Nat}{h:Int}{x:Value}(F:First t h n0)(room:t.place.size<t.mask) :
  Tb (SetTable.insertAt es (t.put (pth t.mask h n0).j).2 (h,x)) (t.put (pth t.mask h n0).j).1:=by
 generalize hj:(pth t.mask h n0).j=j
 have nf:¬ Occ t j:=by rw[<- hj];exact F.free
 obtain⟨p1,p2,p3⟩:=below_spec T.rs j
 have ep:(t.put j).2=SetTable.below t.place j:=rfl
 have epl:(t.put j).1.place=SetTable.insertAt t.place (SetTable.below t.place j) j:=rfl
 have edm:(t.put j).1.dummies = #[]:=by
  show(if SetTable.has t.dummies j then _ else t.dummies) = #[]
  rw[T.dm]
  rfl
 have emk:(t.put j).1.mask=t.mask:=rfl
 rw[ep]
 generalize SetTable.below t.place j=p at p1 p2 p3 epl
 have ne:∀ i:Nat,i<t.place.size->t.place.getD i 0≠j:=fun i hi z=>nf ⟨i,by
  rw[<- z,Array.getD_eq_getD_getElem?,Array.getElem?_eq_getElem hi]
  rfl⟩
 have sizes:(SetTable.insertAt t.place p j).size=t.place.size+1:=by
  have:=(SetTable.insertAt_perm t.place p j).length_eq
  simpa using this
 have sizes2:(SetTable.insertAt es p (h,x)).size=es.size+1:=by
  have:=(SetTable.insertAt_perm es p (h,x)).length_eq
  simpa using this
 have getD':∀ i,(SetTable.insertAt t.place p j).getD i 0=if i<p then t.place.getD i 0 else if i=p then j else t.place.getD (i-1) 0:=fun i=>by
  rw[Array.getD_eq_getD_getElem?,insertAt_get _ _ _ p1]
  by_cases a:i<p
  ·rw[if_pos a,if_pos a,Array.getD_eq_getD_getElem?]
  ·rw[if_neg a,if_neg a]
   by_cases b:i=p
   ·rw[if_pos b,if_pos b];rfl
   ·rw[if_neg b,if_neg b,Array.getD_eq_getD_getElem?]
 have occ':∀ k,Occ t k->Occ (t.put j).1 k:=fun k ⟨i,e⟩=>by
  by_cases a:i<p
  ·exact⟨i,by rw[epl,insertAt_get _ _ _ p1,if_pos a];exact e⟩
  ·exact⟨i+1,by rw[epl,insertAt_get _ _ _ p1,if_neg (by lia),if_neg (by lia)];exact e⟩
 refine⟨?_,edm,by rw[epl,sizes,sizes2,T.sz],by rw[emk];exact T.msk,by rw[epl,sizes,emk];lia,?_⟩
 ·rw[epl]
  intro a b ab hb
  rw[sizes]at hb
  rw[getD' a,getD' b]
  by_cases a1:a<p
  ·rw[if_pos a1]
   by_cases b1:b<p
   ·rw[if_pos b1];exact T.rs a b ab (by lia)
   ·rw[if_neg b1]
    by_cases b2:b=p
    ·rw[if_pos b2];exact p2 a a1
    ·rw[if_neg b2]
     by_cases c:a=b-1
     ·lia
     ·exact T.rs a (b-1) (by lia) (by lia)
  ·rw[if_neg a1]
   have b1:¬ b<p:=by lia
   have b2:¬ b=p:=by lia
   rw[if_neg b1,if_neg b2]
   by_cases a2:a=p
   ·rw[if_pos a2]
    have h1:=p3 (b-1) (by lia) (by lia)
    have h2:=ne (b-1) (by lia)
    lia
   ·rw[if_neg a2]
    exact T.rs (a-1) (b-1) (by omega) (by omega)
 ·intro i k e hk he
  rw[epl,insertAt_get _ _ _ p1]at hk
  rw[insertAt_get _ _ _ (by rw[<- T.sz];exact p1)]at he
  rw[emk]
  by_cases a:i<p
  ·rw[if_pos a]at hk he
   obtain⟨n,e1,e2⟩:=T.inv i k e hk he
   exact⟨n,e1,fun m hm=>occ' _ (e2 m hm)⟩
  ·rw[if_neg a]at hk he
   by_cases b:i=p
   ·rw[if_pos b]at hk he
    cases hk
    cases he
    exact⟨n0,hj,fun m hm=>occ' _ (F.occ m hm)⟩
   ·rw[if_neg b]at hk he
    obtain⟨n,e1,e2⟩:=T.inv (i-1) k e hk he
    exact⟨n,e1,fun m hm=>occ' _ (e2 m hm)⟩
open PySem
section
variable{mask:Nat}{h:Int}
noncomputable def sm(mask:Nat)(h:Int):Nat->Nat
 | 0=>0
 |m+1=>sm mask h m+(SetTable.runEnd mask (rn mask h m).1-(rn mask h m).1)+1
theorem run_j:∀ (r k:Nat),r<=(pth mask h k).more->(pth mask h (k+r)).j=(pth mask h k).j+r/\(pth mask h (k+r)).more=(pth mask h k).more-r
 | 0,k,e=>⟨rfl,rfl⟩
 |r+1,k,e=>by
  obtain⟨a,b⟩:=run_j r k (by lia)
  have st:pth mask h (k+r+1) = { pth mask h (k+r)with j:=(pth mask h (k+r)).j+1,more:=(pth mask h (k+r)).more-1 }:=by
   show adv mask (pth mask h (k+r))=_
   unfold adv SetTable.advance
   rw[if_pos (by lia)]
  show(pth mask h (k+r+1)).j=_/\(pth mask h (k+r+1)).more=_
  rw[st]
  refine⟨?_,?_⟩
  ·show(pth mask h (k+r)).j+1=_
   lia
  ·show(pth mask h (k+r)).more-1=_
   omega
theorem sm_at:∀ m,(pth mask h (sm mask h m)).j=(rn mask h m).1/\(pth mask h (sm mask h m)).i=(rn mask h m).1/\(pth mask h (sm mask h m)).perturb=(rn mask h m).2/\(pth mask h (sm mask h m)).more=SetTable.runEnd mask (rn mask h m).1-(rn mask h m).1
 | 0=>⟨rfl,rfl,rfl,rfl⟩
 |m+1=>by
  obtain⟨e1,e2,e3,e4⟩:=sm_at m
  obtain⟨a,b,c⟩:=run_on (mask:=mask) (h:=h) _ (sm mask h m) rfl
  have es:sm mask h (m+1)=sm mask h m+(pth mask h (sm mask h m)).more+1:=by
   show sm mask h m+_+1=_
   rw[e4]
  have st:pth mask h (sm mask h (m+1)) = { pth mask h (sm mask h m+(pth mask h (sm mask h m)).more)with j:=(rn mask h (m+1)).1,more:=SetTable.runEnd mask (rn mask h (m+1)).1-(rn mask h (m+1)).1,i:=(rn mask h (m+1)).1,perturb:=(rn mask h (m+1)).2 }:=by
   rw[es]
   show adv mask (pth mask h (sm mask h m+(pth mask h (sm mask h m)).more))=_
   unfold adv SetTable.advance
   rw[if_neg (by lia),a,b,e2,e3]
   rfl
  rw[st]
  exact⟨rfl,rfl,rfl,rfl⟩
theorem sm_j{m k:Nat}(hk:k<=SetTable.runEnd mask (rn mask h m).1-(rn mask h m).1):(pth mask h (sm mask h m+k)).j=(rn mask h m).1+k:=by
 obtain⟨e1,_,_,e4⟩:=sm_at (mask:=mask) (h:=h) m
 rw[(run_j k _ (by rw[e4];exact hk)).1,e1]
theorem sm_run(n:Nat):∀ M,n<sm mask h M->∃ m,m<M/\sm mask h m<=n/\n<sm mask h (m+1)
 | 0,l=>absurd l (Nat.not_lt_zero _)
 | M+1,l=>by
  by_cases c:n<sm mask h M
  ·obtain⟨m,a,b⟩:=sm_run n M c
   exact⟨m,by lia,b⟩
  ·exact⟨M,by lia,by lia,l⟩
theorem sm_le{a b:Nat}(l:a<=b):sm mask h a<=sm mask h b:=by
 induction l with
 |refl=>exact Nat.le_refl _
 |step _ ih =>
  refine Nat.le_trans ih ?_
  show _<=sm mask h _+_+1
  lia
theorem runEnd_mask{i:Nat}(hi:i<=mask):SetTable.runEnd mask i<=mask:=by
 unfold SetTable.runEnd
 split <;> omega
theorem runEnd_ge{i:Nat}:i<=SetTable.runEnd mask i:=by
 unfold SetTable.runEnd
 split <;> lia
theorem pth_le(n:Nat):(pth mask h n).j<=mask:=by
 have big:n<sm mask h (n+1):=by
  have:∀ m,m<=sm mask h m:=by
   intro m
   induction m with
   |zero=>exact Nat.zero_le _
   |succ m ih =>
    show m+1<=sm mask h m+_+1
    lia
  have:=this (n+1)
  lia
 obtain⟨m,_,a,b⟩:=sm_run n (n+1) big
 obtain⟨k,rfl⟩:∃ k,n=sm mask h m+k:=⟨n-sm mask h m,by lia⟩
 have b:sm mask h m+k<sm mask h m+(SetTable.runEnd mask (rn mask h m).1-(rn mask h m).1)+1:=b
 rw[sm_j (by lia)]
 have:=runEnd_mask (rn_le (mask:=mask) (h:=h) m)
 have:=runEnd_ge (mask:=mask) (i:=(rn mask h m).1)
 omega
theorem free_spec{owner:Array (Option Nat)}{n0 m0:Nat}(h1:sm mask h m0<=n0)(h2:n0<sm mask h (m0+1))(hf:(owner.getD (pth mask h n0).j (some 0)).isNone=true)(ho:∀ n,n<n0->(owner.getD (pth mask h n).j (some 0)).isNone=false) :
  ∀ fuel m,m<=m0->m0<m+fuel->SetTable.layClean.free mask owner fuel (rn mask h m).1 (rn mask h m).2=some (pth mask h n0).j
 | 0,m,a,b=>absurd b (by lia)
 |fuel+1,m,a,b=>by
  unfold SetTable.layClean.free
  have ge:=runEnd_ge (mask:=mask) (i:=(rn mask h m).1)
  have pos:∀ k,k<SetTable.runEnd mask (rn mask h m).1+1-(rn mask h m).1->(pth mask h (sm mask h m+k)).j=(rn mask h m).1+k:=fun k hk=>sm_j (by omega)
  by_cases e:m=m0
  ·subst e
   obtain⟨k0,rfl⟩:∃ k,n0=sm mask h m+k:=⟨n0-sm mask h m,by lia⟩
   have h2:sm mask h m+k0<sm mask h m+(SetTable.runEnd mask (rn mask h m).1-(rn mask h m).1)+1:=h2
   have hk0:k0<SetTable.runEnd mask (rn mask h m).1+1-(rn mask h m).1:=by lia
   have fd:((List.range (SetTable.runEnd mask (rn mask h m).1+1-(rn mask h m).1)).find? fun k=>(owner.getD ((rn mask h m).1+k) (some 0)).isNone)=some k0:=by
    rw[List.find?_range_eq_some]
    refine⟨by rw[<- pos k0 hk0];exact hf,List.mem_range.mpr hk0,fun j hj=>?_⟩
    rw[<- pos j (by lia),ho _ (by lia)]
    rfl
   rw[fd,pos k0 hk0]
  ·have fd:((List.range (SetTable.runEnd mask (rn mask h m).1+1-(rn mask h m).1)).find? fun k=>(owner.getD ((rn mask h m).1+k) (some 0)).isNone)=none:=by
    rw[List.find?_eq_none]
    intro k hk
    have hk:=List.mem_range.mp hk
    have le:=sm_le (mask:=mask) (h:=h) (show m+1<=m0 by lia)
    have le:sm mask h m+(SetTable.runEnd mask (rn mask h m).1-(rn mask h m).1)+1<=sm mask h m0:=le
    rw[<- pos k hk,ho _ (by lia)]
    decide
   rw[fd]
   exact free_spec h1 h2 hf ho fuel (m+1) (by lia) (by lia)
end
open PySem
structure OwnI(mask:Nat)(hs:List Int)(k:Nat)(owner:Array (Option Nat))(pos:Nat->Nat):Prop where
 size:owner.size=mask+1
 cnt:owner.toList.countP Option.isSome=k
 at_:∀ i,i<k->owner[pos i]?=some (some i)
 of_:∀ (j i:Nat),owner[j]?=some (some i)->i<k/\pos i=j
 way:∀ i h,i<k->hs[i]?=some h->∃ n,(pth mask h n).j=pos i/\∀ m,m<n->∃ i':Nat,owner[(pth mask h m).j]?=some (some i')
theorem own_nil{mask:Nat}{hs:List Int}:OwnI mask hs 0 (Array.replicate (mask+1) none) (fun _=>0):=by
 refine⟨by simp,?_,fun i h=>absurd h (by lia),fun j i e=>?_,fun i h l=>absurd l (by lia)⟩
 ·rw[Array.toList_replicate,List.countP_replicate]
  rfl
 ·rw[Array.getElem?_replicate]at e
  split at e <;> simp at e
theorem own_free{mask:Nat}{hs:List Int}{k:Nat}{owner:Array (Option Nat)}{pos:Nat->Nat}(O:OwnI mask hs k owner pos)(mk:Mk mask)(hk:k<=mask)(h:Int) :
  ∃ n,SetTable.layClean.free mask owner (SetTable.turns mask) (SetTable.bits h % (mask+1)) (SetTable.bits h)=some (pth mask h n).j/\owner[(pth mask h n).j]?=some none/\∀ m,m<n->∃ i':Nat,owner[(pth mask h m).j]?=some (some i'):=by
 have gd:∀ j,j<=mask->∃ o,owner[j]?=some o/\owner.getD j (some 0)=o:=fun j hj=>by
  have hl:j<owner.size:=by rw[O.size];lia
  refine⟨owner[j],Array.getElem?_eq_getElem hl,?_⟩
  rw[Array.getD_eq_getD_getElem?,Array.getElem?_eq_getElem hl]
  rfl
 obtain⟨j,hj,ej⟩:∃ j,j<=mask/\owner[j]?=some none:=by
  refine Classical.byContradiction fun z=>?_
  have all:∀ o∈owner.toList,Option.isSome o=true:=fun o ho=>by
   obtain⟨i,hi,e⟩:=List.getElem_of_mem ho
   rw[Array.length_toList,O.size]at hi
   cases o with
   |some x=>rfl
   |none=>exact absurd ⟨i,by lia,by rw[<- Array.getElem?_toList,List.getElem?_eq_getElem (by rw[Array.length_toList,O.size];exact hi),e]⟩ z
  have:=List.countP_eq_length.mpr all
  rw[O.cnt,Array.length_toList,O.size]at this
  lia
 obtain⟨nn,hn,en⟩:=round_ok mk.round (rn_le (mask:=mask) (h:=h) 13) hj
 have e0:(pth mask h (sm mask h (13+nn))).j=j:=by rw[(sm_at _).1,rn_it,en]
 have gen:∀ b,(∃ n,n<=b/\owner[(pth mask h n).j]?=some none)->∃ n,n<=b/\owner[(pth mask h n).j]?=some none/\∀ m,m<n->¬ owner[(pth mask h m).j]?=some none:=by
  intro b
  induction b with
  |zero =>
   rintro⟨n,hn,z⟩
   exact⟨n,hn,z,fun m hm=>absurd hm (by lia)⟩
  |succ b ih =>
   rintro⟨n,hn,z⟩
   by_cases c:∃ n,n<=b/\owner[(pth mask h n).j]?=some none
   ·obtain⟨n,h1,h2,h3⟩:=ih c
    exact⟨n,by lia,h2,h3⟩
   ·exact⟨n,hn,z,fun m hm y=>c ⟨m,by lia,y⟩⟩
 obtain⟨n0,h1,h2,h3⟩:=gen (sm mask h (13+nn)) ⟨_,Nat.le_refl _,by rw[e0];exact ej⟩
 have lt:n0<sm mask h (13+nn+1):=by
  show n0<sm mask h (13+nn)+_+1
  lia
 obtain⟨m0,a,b,c⟩:=sm_run n0 _ lt
 have occ:∀ m,m<n0->∃ i':Nat,owner[(pth mask h m).j]?=some (some i'):=fun m hm=>by
  obtain⟨o,eo,_⟩:=gd _ (pth_le (mask:=mask) (h:=h) m)
  cases o with
  |none=>exact absurd eo (h3 m hm)
  |some i=>exact⟨i,eo⟩
 refine⟨n0,?_,h2,occ⟩
 refine free_spec (m0:=m0) b c ?_ (fun n hn=>?_) (SetTable.turns mask) 0 (Nat.zero_le _) (by unfold SetTable.turns;lia)
 ·obtain⟨o,eo,eg⟩:=gd _ (pth_le (mask:=mask) (h:=h) n0)
  rw[h2]at eo
  cases eo
  rw[eg]
  rfl
 ·obtain⟨o,eo,eg⟩:=gd _ (pth_le (mask:=mask) (h:=h) n)
  obtain⟨i,ei⟩:=occ n hn
  rw[ei]at eo
  cases eo
  rw[eg]
  rfl
theorem own_set{mask:Nat}{hs:List Int}{k:Nat}{owner:Array (Option Nat)}{pos:Nat->Nat}(O:OwnI mask hs k owner pos){h:Int}(hh:hs[k]?=some h){n:Nat}(e:owner[(pth mask h n).j]?=some none)(occ:∀ m,m<n->∃ i':Nat,owner[(pth mask h m).j]?=some (some i')) :
  OwnI mask hs (k+1) (owner.setIfInBounds (pth mask h n).j (some k)) (fun i=>if i=k then(pth mask h n).j else pos i):=by
 generalize hj:(pth mask h n).j=j at e
 obtain⟨hl,eg⟩:=Array.getElem?_eq_some_iff.mp e
 have get:∀ i:Nat,(owner.setIfInBounds j (some k))[i]?=if i=j then some (some k)else owner[i]?:=fun i=>by
  rw[Array.getElem?_setIfInBounds]
  by_cases c:i=j
  ·subst c
   rw[if_pos rfl,if_pos rfl,if_pos hl]
  ·rw[if_neg (Ne.symm c),if_neg c]
 have keep:∀ q:Nat,(∃ i':Nat,owner[q]?=some (some i'))->∃ i':Nat,(owner.setIfInBounds j (some k))[q]?=some (some i'):=fun q ⟨i',ei⟩=>by
  by_cases c:q=j
  ·exact⟨k,by rw[get,if_pos c]⟩
  ·exact⟨i',by rw[get,if_neg c];exact ei⟩
 refine⟨by rw[Array.size_setIfInBounds];exact O.size,?_,fun i hi=>?_,fun q i ei=>?_,fun i h' hi eh=>?_⟩
 ·rw[Array.toList_setIfInBounds,List.countP_set (by rw[Array.length_toList];exact hl)]
  have e0:owner.toList[j]'(by rw[Array.length_toList];exact hl)=none:=by rw[Array.getElem_toList];exact eg
  rw[e0,O.cnt]
  rfl
 ·show(owner.setIfInBounds j (some k))[if i=k then j else pos i]?=_
  by_cases c:i=k
  ·rw[if_pos c,get,if_pos rfl,c]
  ·rw[if_neg c,get]
   have ep:=O.at_ i (by lia)
   rw[if_neg (fun z=>by rw[z,e]at ep;cases ep)]
   exact ep
 ·rw[get]at ei
  show i<k+1/\(if i=k then j else pos i)=q
  by_cases c:q=j
  ·rw[if_pos c]at ei
   cases ei
   exact⟨Nat.lt_succ_self _,by rw[if_pos rfl,c]⟩
  ·rw[if_neg c]at ei
   obtain⟨a,b⟩:=O.of_ q i ei
   exact⟨by lia,by rw[if_neg (by lia)];exact b⟩
 ·show ∃ n,(pth mask h' n).j=(if i=k then j else pos i)/\_
  by_cases c:i=k
  ·subst c
   rw[hh]at eh
   cases eh
   exact⟨n,by rw[if_pos rfl];exact hj,fun m hm=>keep _ (occ m hm)⟩
  ·obtain⟨n',e1,e2⟩:=O.way i h' (by lia) eh
   exact⟨n',by rw[if_neg c];exact e1,fun m hm=>keep _ (e2 m hm)⟩
theorem lay_ok{mask:Nat}(mk:Mk mask){hs:List Int}(len:hs.length<=mask){f:Option (Array (Option Nat)×Nat)->Int->Option (Array (Option Nat)×Nat)}(hf:∀ owner k h j,SetTable.layClean.free mask owner (SetTable.turns mask) (SetTable.bits h % (mask+1)) (SetTable.bits h)=some j->f (some (owner,k)) h=some (owner.setIfInBounds j (some k),k+1)) :
  ∀ (r:List Int) (k:Nat) (owner:Array (Option Nat)) (pos:Nat->Nat),k<=hs.length->hs.drop k=r->OwnI mask hs k owner pos->∃ owner' pos',r.foldl f (some (owner,k))=some (owner',hs.length)/\OwnI mask hs hs.length owner' pos'
 |[],k,owner,pos,kl,e,O=>by
  have hk:hs.length<=k:=by
   have:=congrArg List.length e
   rw[List.length_drop]at this
   simp at this
   lia
  have kk:k=hs.length:=by lia
  subst kk
  exact⟨owner,pos,rfl,O⟩
 |h :: r,k,owner,pos,kl,e,O=>by
  have hk:k<hs.length:=by
   have:=congrArg List.length e
   rw[List.length_drop]at this
   simp at this
   omega
  have hh:hs[k]?=some h:=by
   have:=congrArg (·[0]?) e
   simpa using this
  have er:hs.drop (k+1)=r:=by
   have:=congrArg (List.drop 1) e
   rw[List.drop_drop]at this
   simpa using this
  obtain⟨n,ef,en,occ⟩:=own_free O mk (by lia) h
  obtain⟨o',p',e1,e2⟩:=lay_ok mk len hf r (k+1) _ _ (by lia) er (own_set O hh en occ)
  refine⟨o',p',?_,e2⟩
  rw[<- e1,List.foldl_cons,hf _ _ _ _ ef]
theorem fm_get{α β:Type}{f:α->Option β}:∀ {l:List α},(∀ x∈l,(f x).isSome=true)->∀ q:Nat,(l.filterMap f)[q]?=(l[q]?).bind f
 |[],_,q=>by simp
 |x :: l,h,q=>by
  obtain⟨y,ey⟩:=Option.isSome_iff_exists.mp (h x (List.mem_cons_self ..))
  rw[List.filterMap_cons,ey]
  cases q with
  |zero=>simp[ey]
  |succ q =>
   rw[List.getElem?_cons_succ,List.getElem?_cons_succ]
   exact fm_get (fun z hz=>h z (List.mem_cons_of_mem _ hz)) q
theorem laid_ok{mask finger moves:Nat}{led plain:Bool}{es:Array (Int×Value)}(mk:Mk mask)(len:es.size<=mask) :
  ∃ t' order,SetTable.laid mask finger moves led plain (es.map (·.1))=some (t',order)/\Tb (order.filterMap (es[·]?)) t'/\(order.filterMap (es[·]?)).toList.Perm es.toList/\t'.mask=mask/\t'.led=led/\t'.plain=plain/\t'.moves=moves:=by
 have hl:((es.map (·.1)).toList).length<=mask:=by simpa using len
 obtain⟨owner,pos,lc,O⟩:∃ owner pos,SetTable.layClean mask (es.map (·.1))=some owner/\OwnI mask (es.map (·.1)).toList (es.map (·.1)).toList.length owner pos:=by
  have fin:∀ f:Option (Array (Option Nat)×Nat)->Int->Option (Array (Option Nat)×Nat),(∀ owner k h j,SetTable.layClean.free mask owner (SetTable.turns mask) (SetTable.bits h % (mask+1)) (SetTable.bits h)=some j->f (some (owner,k)) h=some (owner.setIfInBounds j (some k),k+1)) ->
    ∃ owner pos,((es.map (·.1)).toList.foldl f (some (Array.replicate (mask+1) none,0))).map (·.1)=some owner/\OwnI mask (es.map (·.1)).toList (es.map (·.1)).toList.length owner pos:=fun f hf=>by
   obtain⟨owner,pos,e1,O⟩:=lay_ok mk hl hf (es.map (·.1)).toList 0 _ _ (Nat.zero_le _) rfl own_nil
   exact⟨owner,pos,by rw[e1];rfl,O⟩
  unfold SetTable.layClean
  rw[<- Array.foldl_toList]
  exact fin _ (fun owner k h j e=>by show(SetTable.layClean.free mask owner _ _ _).bind _=_;rw[e];rfl)
 have n:(es.map (·.1)).toList.length=es.size:=by simp
 rw[n]at O
 have hs:∀ i:Nat,(es.map (·.1)).toList[i]?=(es[i]?).map (·.1):=fun i=>by
  rw[Array.getElem?_toList,Array.getElem?_map]
 generalize hL:((List.range (mask+1)).filterMap fun j=>(owner.getD j none).map (j,·))=live
 have mem:∀ j i,(j,i)∈live↔owner[j]?=some (some i):=fun j i=>by
  rw[<- hL,List.mem_filterMap]
  constructor
  ·rintro⟨a,ha,e⟩
   have ha:=List.mem_range.mp ha
   have hs':a<owner.size:=by rw[O.size];exact ha
   rw[Array.getD_eq_getD_getElem?,Array.getElem?_eq_getElem hs']at e
   have e:(owner[a]).map (a,·)=some (j,i):=e
   cases ho:owner[a]with
   |none=>rw[ho]at e;cases e
   |some x =>
    rw[ho]at e
    cases e
    rw[Array.getElem?_eq_getElem hs',ho]
  ·intro e
   obtain⟨hj,_⟩:=Array.getElem?_eq_some_iff.mp e
   refine⟨j,List.mem_range.mpr (by rw[<- O.size];exact hj),?_⟩
   rw[Array.getD_eq_getD_getElem?,e]
   rfl
 have up:live.Pairwise fun a b=>a.1<b.1:=by
  rw[<- hL]
  refine List.Pairwise.filterMap _ (fun a a' l b hb b' hb'=>?_) List.pairwise_lt_range
  obtain⟨x,_,ex⟩:=Option.map_eq_some_iff.mp hb
  obtain⟨y,_,ey⟩:=Option.map_eq_some_iff.mp hb'
  rw[<- ex,<- ey]
  exact l
 have some_:∀ p∈live.map (·.2),(es[p]?).isSome=true:=fun p hp=>by
  obtain⟨⟨j,i⟩,hm,rfl⟩:=List.mem_map.mp hp
  obtain⟨a,_⟩:=O.of_ j i ((mem j i).mp hm)
  rw[Array.getElem?_eq_getElem a]
  rfl
 have tl:(((live.map (·.2)).toArray).filterMap (es[·]?)).toList=(live.map (·.2)).filterMap (es[·]?):=by simp
 have get':∀ q:Nat,(((live.map (·.2)).toArray).filterMap (es[·]?))[q]?=(live[q]?).bind fun p=>es[p.2]?:=fun q=>by
  rw[<- Array.getElem?_toList,tl,fm_get some_,List.getElem?_map]
  cases live[q]? <;> rfl
 have nd:(live.map (·.2)).Nodup:=by
  rw[List.Nodup,List.pairwise_map]
  refine up.imp_of_mem fun {a b} ha hb l z=>?_
  obtain⟨_,p1⟩:=O.of_ a.1 a.2 ((mem _ _).mp ha)
  obtain⟨_,p2⟩:=O.of_ b.1 b.2 ((mem _ _).mp hb)
  rw[z,p2]at p1
  lia
 have pm:(live.map (·.2)).Perm (List.range es.size):=by
  rw[List.perm_ext_iff_of_nodup nd List.nodup_range]
  intro i
  rw[List.mem_range]
  constructor
  ·intro hi
   obtain⟨⟨j,i'⟩,hm,rfl⟩:=List.mem_map.mp hi
   exact(O.of_ _ _ ((mem _ _).mp hm)).1
  ·intro hi
   exact List.mem_map.mpr ⟨(pos i,i),(mem _ _).mpr (O.at_ i hi),rfl⟩
 have ll:live.length=es.size:=by
  have:=pm.length_eq
  rw[List.length_map,List.length_range]at this
  exact this
 have pm2:(((live.map (·.2)).toArray).filterMap (es[·]?)).toList.Perm es.toList:=by
  rw[tl,<- filterMap_getElem?_range es]
  exact pm.filterMap _
 refine⟨{ mask,place:=(live.map (·.1)).toArray,dummies:=#[],finger,led,moves,plain },(live.map (·.2)).toArray,?_,?_,pm2,rfl,rfl,rfl,rfl⟩
 ·unfold SetTable.laid
  rw[lc]
  show some _=_
  rw[<- hL]
 ·have pl:∀ q:Nat,((live.map (·.1)).toArray)[q]?=(live[q]?).map (·.1):=fun q=>by
   rw[List.getElem?_toArray,List.getElem?_map]
  have occ:∀ j i,(j,i)∈live->Occ { mask,place:=(live.map (·.1)).toArray,dummies:=#[],finger,led,moves,plain } j:=fun j i hm=>by
   obtain⟨q,hq,e⟩:=List.getElem_of_mem hm
   exact⟨q,by rw[pl,List.getElem?_eq_getElem hq,e];rfl⟩
  have sz:(((live.map (·.2)).toArray).filterMap (es[·]?)).size=es.size:=by
   have:=pm2.length_eq
   simpa using this
  refine⟨fun a b ab hb=>?_,rfl,?_,mk,?_,fun q j e hp he=>?_⟩
  ·have hb:b<live.length:=by simpa using hb
   have:=(List.pairwise_iff_getElem.mp up) a b (by lia) hb ab
   rw[Array.getD_eq_getD_getElem?,Array.getD_eq_getD_getElem?,pl,pl,List.getElem?_eq_getElem (by lia),List.getElem?_eq_getElem hb]
   exact this
  ·rw[sz,<- ll]
   simp
  ·show((live.map (·.1)).toArray).size<=mask
   have:((live.map (·.1)).toArray).size=live.length:=by simp
   lia
  ·have hp:((live.map (·.1)).toArray)[q]?=some j:=hp
   rw[pl]at hp
   rw[get']at he
   cases hq:live[q]? with
   |none=>rw[hq]at hp;cases hp
   |some p =>
    rw[hq]at hp he
    obtain⟨j',i⟩:=p
    cases hp
    have he:es[i]?=some e:=he
    have hm:(j',i)∈live:=List.mem_of_getElem? hq
    obtain⟨a,b⟩:=O.of_ _ _ ((mem _ _).mp hm)
    obtain⟨n,e1,e2⟩:=O.way i e.1 a (by rw[hs,he];rfl)
    refine⟨n,by rw[e1];exact b,fun m hm'=>?_⟩
    obtain⟨i',ei⟩:=e2 m hm'
    exact occ _ i' ((mem _ _).mpr ei)
open PySem
noncomputable def Clear(es:Array (Int×Value))(t:SetTable)(h:Int)(k n:Nat):Prop:=∀ m,k<=m->m<n->∀ (i:Nat) (e:Int×Value),t.place[i]?=some (pth t.mask h m).j->es[i]?=some e->e.1≠h
theorem Tb.probe{es:Array (Int×Value)}{t:SetTable}(T:Tb es t){hashAt:Nat->Int}(hA:∀ (i:Nat) (e:Int×Value),es[i]?=some e->hashAt i=e.1){h:Int}{n0 k:Nat}(F:First t h n0)(hk:k<=n0) :
  (∃ (n1 i:Nat) (e:Int×Value),k<=n1/\n1<n0/\t.place[i]?=some (pth t.mask h n1).j/\es[i]?=some e/\e.1=h/\Clear es t h k n1/\t.probe hashAt h (pth t.mask h k)=some (.candidate (pth t.mask h n1).j i (pth t.mask h (n1+1)))) \/
  (Clear es t h k n0/\t.probe hashAt h (pth t.mask h k)=some (.empty (pth t.mask h n0).j none)):=by
 have ent:∀ m,m<n0->∃ (i:Nat) (e:Int×Value),t.place[i]?=some (pth t.mask h m).j/\es[i]?=some e:=fun m hm=>by
  obtain⟨i,ei⟩:=F.occ m hm
  obtain⟨hi,_⟩:=Array.getElem?_eq_some_iff.mp ei
  have hi':i<es.size:=by rw[<- T.sz];exact hi
  exact⟨i,es[i],ei,Array.getElem?_eq_getElem hi'⟩
 have uniq:∀ {j i i':Nat},t.place[i]?=some j->t.place[i']?=some j->i=i':=fun {j i i'} a b=>by
  rw[<- below_at T.rs a,<- below_at T.rs b]
 have skips:∀ n1,n1<=n0->Clear es t h k n1->∀ m,k<=m->m<n1->∃ i,t.slot (pth t.mask h m).j = .live i/\hashAt i≠h:=fun n1 h1 C m a b=>by
  obtain⟨i,e,ei,ee⟩:=ent m (by lia)
  exact⟨i,(T.slot _).2 i ei,by rw[hA i e ee];exact C m a b i e ei ee⟩
 have gen:∀ d,∀ n1,n1+d=n0->k<=n1->Clear es t h k n1->(∃ (n1 i:Nat) (e:Int×Value),k<=n1/\n1<n0/\t.place[i]?=some (pth t.mask h n1).j/\es[i]?=some e/\e.1=h/\Clear es t h k n1)\/Clear es t h k n0:=by
  intro d
  induction d with
  |zero =>
   intro n1 e _ C
   have e:n1=n0:=e
   subst e
   exact .inr C
  |succ d ih =>
   intro n1 e a C
   obtain⟨i,en,ei,ee⟩:=ent n1 (by lia)
   by_cases c:en.1=h
   ·exact .inl ⟨n1,i,en,a,by lia,ei,ee,c,C⟩
   ·refine ih (n1+1) (by lia) (by omega) fun m m1 m2 i' e' p1 p2=>?_
    by_cases z:m=n1
    ·subst z
     have:=uniq ei p1
     subst this
     rw[ee]at p2
     cases p2
     exact c
    ·exact C m m1 (by lia) i' e' p1 p2
 have lt:=F.lt
 rcases gen (n0-k) k (by lia) (Nat.le_refl _) (fun m a b=>absurd b (by lia))with⟨n1,i,e,a,b,ei,ee,eh,C⟩ | C
 ·refine .inl ⟨n1,i,e,a,b,ei,ee,eh,C,?_⟩
  unfold SetTable.probe
  obtain⟨f',ef⟩:=go_on (t:=t) (hashAt:=hashAt) (h:=h) (n:=n1) (fuel:=10 * SetTable.turns t.mask) (k:=k) a (by lia) (skips n1 (by lia) C)
  rw[ef,go_hit ((T.slot _).2 i ei) (by rw[hA i e ee,eh])]
 ·refine .inr ⟨C,?_⟩
  unfold SetTable.probe
  obtain⟨f',ef⟩:=go_on (t:=t) (hashAt:=hashAt) (h:=h) (n:=n0) (fuel:=10 * SetTable.turns t.mask) (k:=k) hk (by lia) (skips n0 (Nat.le_refl _) C)
  rw[ef,go_empty ((T.slot _).1 F.free)]
open PySem
section
variable{prog:Program}{w:World}{A:Around}{E:Value->Shared->Prop}{s:Shared}{a:Addr}{o:Obj}{es:Array (Int×Value)}{ep:Nat}{t:SetTable}{x:Value}{h:Int}
theorem Tb.fits(T:Tb es t):t.fits es.size=true:=by
 have:=SetA.fits T
 unfold SetTable.fits
 rw[T.sz]
 simp[this]
theorem Mk.odd{mask:Nat}(m:Mk mask):(mask % 2 == 0)=false:=by
 rcases m with rfl | rfl | rfl | rfl <;> rfl
theorem search(ho:s.heap.get? a=some o)(hd:o.data = .set es ep t)(T:Tb es t){n0:Nat}(F:First t h n0)(eqv:Nat->Bool)(he:∀ (i:Nat) (e:Int×Value),es[i]?=some e->e.1=h->SeqAt.EqAt A s e.2 x (eqv i))
  (seen:∀ Q':Bool->Shared->Prop,Q' false s->wpAny (model prog w) A (searchCouldBeSeen x ((es.filter (·.1 == h)).toList.map (·.2))) Q' E s) (rf:∀ (i:Nat) (e:Int×Value),es[i]?=some e->∃ q,e.2 = .ref q) {Q:SetFound->Shared->Prop}
  (q1:(∃ (i:Nat) (e:Int×Value),es[i]?=some e/\e.1=h/\eqv i=true)->Q (.there none) s)
  (q2:(∀ (i:Nat) (e:Int×Value),es[i]?=some e->e.1=h->eqv i=false)->Q (.free (pth t.mask h n0).j false) s) :
  ∀ (fuel k:Nat) (stand:Option SetTable.Probe),stand.getD (t.probeStart h)=pth t.mask h k->k<=n0->n0<k+fuel ->
   (∀ m,m<k->∀ (i:Nat) (e:Int×Value),t.place[i]?=some (pth t.mask h m).j->es[i]?=some e->e.1=h->eqv i=false) ->
   wpAny (model prog w) A (setSearchFrom a x h true fuel stand) Q E s
 | 0,k,_,_,a1,a2,_=>absurd a2 (by lia)
 |fuel+1,k,stand,hs,a1,a2,past=>by
  unfold setSearchFrom
  refine wpAny_bind (wpAny_setState_of ho hd T.fits ?_)
  dsimp only
  have gw:t.gaveWay=false:=T.msk.odd
  rw[gw]
  simp only[Bool.false_eq_true,↓reduceIte]
  rw[hs]
  generalize hp:SetTable.probe t _ h _=r
  rcases T.probe (hashAt:=fun i=>((es[i]?).map (·.1)).getD 0) (fun i e he=>by show((es[i]?).map (·.1)).getD 0=e.1;rw[he];rfl) F a1 with⟨n1,i,e,b1,b2,ei,ee,eh,C,e1⟩ |⟨C,e1⟩
  ·have er:=hp.symm.trans e1
   subst er
   dsimp only
   have sl:=(T.slot (pth t.mask h n1).j).2 i ei
   have mem:t.sameMemory t.moves t.mask=some true:=by simp[SetTable.sameMemory]
   obtain⟨q,eq'⟩:=rf i e ee
   have next:=search ho hd T F eqv he seen rf q1 q2 fuel (n1+1) (some (pth t.mask h (n1+1))) rfl (by lia) (by lia)
   cases hl:t.led
   case' false =>
    simp only[Bool.not_false,↓reduceIte]
    refine wpAny_bind (seen _ ?_)
    simp only[Bool.false_eq_true,↓reduceIte]
   case' true=>simp only[Bool.not_true,Bool.false_eq_true,↓reduceIte]
   all_goals
    rw[ee]
    obtain⟨eh',y⟩:=e
    dsimp only at eq' eh ⊢
    refine wpAny_bind (wpAny_holding (he i _ ee eh prog w _ _ ?_))
    refine wpAny_bind (wpAny_setState_of ho hd T.fits ?_)
    dsimp only
    rw[Bool.true_and]
    cases hv:eqv i
    case true =>
     simp only[↓reduceIte]
     exact wpAny_pure (q1 ⟨i,_,ee,eh,hv⟩)
    case false =>
     simp only[Bool.false_eq_true,↓reduceIte]
     rw[mem]
     simp only[↓reduceIte]
     rw[sl]
     dsimp only
     rw[ee]
     dsimp only
     subst eq'
     refine wpAny_bind (wpAny_isSame_ref_self ?_)
     simp only[↓reduceIte]
     refine wpAny_bind (wpAny_pure ?_)
     dsimp only
     refine next fun m hm i' e' p1 p2 p3=>?_
     by_cases z:m<k
     ·exact past m z i' e' p1 p2 p3
     ·by_cases z2:m=n1
      ·subst z2
       have:i'=i:=by rw[<- below_at T.rs p1,<- below_at T.rs ei]
       subst this
       exact hv
      ·exact absurd p3 (C m (by lia) (by lia) i' e' p1 p2)
  ·have er:=hp.symm.trans e1
   subst er
   dsimp only
   refine wpAny_pure (q2 fun i e ee eh=>?_)
   obtain⟨n,j,l,ep',en⟩:=T.ahead F ee eh
   subst en
   by_cases z:n<k
   ·exact past n z i e ep' ee eh
   ·exact absurd eh (C n (by lia) l i e ep' ee)
end
open PySem
section
variable{prog:Program}{w:World}{A:Around}{E:Value->Shared->Prop}{s:Shared}{a:Addr}{o:Obj}{es:Array (Int×Value)}{ep:Nat}{t:SetTable}
theorem relay(ho:s.heap.get? a=some o)(hd:o.data = .set es ep t)(T:Tb es t){wanted:Nat}(mk:Mk (SetTable.sizeAbove wanted-1))(len:es.size<=SetTable.sizeAbove wanted-1)(sl:SetTable.sizeAbove wanted<=sizeLine){Q:Unit->Shared->Prop}
  (q:∀ (es':Array (Int×Value)) (t':SetTable) (s':Shared),Tb es' t'->es'.toList.Perm es.toList->t'.mask=SetTable.sizeAbove wanted-1->t'.led=t.led->t'.plain=t.plain->wpAny (model prog w) A (storeSet a es' t') Q E s) :
  wpAny (model prog w) A (setRelay a wanted) Q E s:=by
 unfold setRelay
 refine wpAny_bind (wpAny_setState_of ho hd T.fits ?_)
 dsimp only
 rw[if_neg (Nat.not_lt.mpr sl)]
 obtain⟨t',order,e1,T',pm,m1,m2,m3,m4⟩:=laid_ok (finger:=t.finger) (moves:=t.movedTo (SetTable.sizeAbove wanted-1)) (led:=t.led) (plain:=t.plain) mk len
 generalize hp:SetTable.relaid t _ _=r
 have er:r=some (t',order):=hp.symm.trans e1
 subst er
 refine wpAny_bind ?_
 have sz:(order.filterMap (es[·]?)).size=es.size:=by
  have:=pm.length_eq
  rw[Array.length_toList,Array.length_toList]at this
  exact this
 show wpAny _ _ (if((order.filterMap (es[·]?)).size != es.size)=true then _ else _) _ _ _
 rw[if_neg (by simp[sz])]
 refine wpAny_pure ?_
 exact q _ _ s T' pm m1 m2 m3
end
open PySem
section
variable{prog:Program}{w:World}{A:Around}{E:Value->Shared->Prop}{s:Shared}
theorem for_all{α β:Type}{its:List α}{b:β}{f:α->β->Sem (ForInStep β)}{Q:β->Shared->Prop}:(∀ v∈its,∀ Q':ForInStep β->Shared->Prop,Q' (.yield b) s->wpAny (model prog w) A (f v b) Q' E s)->Q b s->wpAny (model prog w) A (forIn its b f) Q E s:=by
 induction its with
 |nil=>intro _ h;rw[List.forIn_nil];exact wpAny_pure h
 |cons v r ih =>
  intro hf h
  rw[List.forIn_cons]
  exact wpAny_bind (hf v (List.mem_cons_self ..) _ (ih (fun u hu=>hf u (List.mem_cons_of_mem _ hu)) h))
theorem hbv{q:Addr}{o:Obj}{its:Array Value}{n:Nat}{Q:Bool->Shared->Prop}(ho:s.heap.get? q=some o)(hc:o.cls = .type "tuple")(hd:o.data = .seq its n)(hi:∀ v∈its.toList,∃ k t,v = .int k t)(h:Q true s):wpAny (model prog w) A (hashByValue 8 (.ref q)) Q E s:=by
 have hT:s.TypeIs (.ref q) "tuple":=⟨o,ho,hc⟩
 unfold hashByValue
 refine wpAny_bind (wpAny_specialOf hT F.slot_tuple_hash.lookup ?_)
 dsimp only
 refine wpAny_bind (wpAny_seqItems ho hd ?_)
 rw[Option.getD_some,<- Array.forIn_toList]
 refine wpAny_bind (for_all (fun v hv Q' hq=>?_) (wpAny_pure h))
 obtain⟨k,t,rfl⟩:=hi v hv
 refine wpAny_bind ?_
 unfold hashByValue
 refine wpAny_pure ?_
 rw[if_neg (by decide)]
 exact wpAny_pure hq
theorem seen_no{K:Type}[DecidableEq K]{knd:KeyKind prog w K}{q:Addr}{ks:List K}(hk:IsTupleKey knd s.heap ks q)(flat:∀ (p:Addr) (ks:List K),IsTupleKey knd s.heap ks p->∀ Q':Bool->Shared->Prop,Q' false s->wpAny (model prog w) A (ofAClassStatement 8 (.ref p)) Q' E s)
  {ys:List Value} (hy:∀ y∈ys,∃ p ms,y = .ref p/\IsTupleKey knd s.heap ms p) {Q:Bool->Shared->Prop} (h:Q false s):wpAny (model prog w) A (searchCouldBeSeen (.ref q) ys) Q E s:=by
 unfold searchCouldBeSeen
 refine wpAny_bind (for_all (fun v hv Q' hq=>?_) (wpAny_pure h))
 obtain⟨p,ms,rfl,hp⟩:=hy v hv
 dsimp only
 by_cases c:q=p
 ·have e:(q == p)=true:=by simp[c]
  rw[e]
  simp only[Bool.true_or,↓reduceIte]
  exact wpAny_pure hq
 ·have e:(q == p)=false:=by simp[c]
  rw[e]
  have cv:carriedByValue (.ref q)=false:=rfl
  rw[cv]
  simp only[Bool.false_and,Bool.or_self,Bool.false_eq_true,↓reduceIte]
  refine wpAny_bind (wpAny_eqIsQuiet_tuple hk ?_)
  simp only[Bool.not_true,Bool.false_eq_true,↓reduceIte]
  refine wpAny_bind (wpAny_eqIsQuiet_tuple hp ?_)
  simp only[Bool.not_true,Bool.false_eq_true,↓reduceIte]
  refine wpAny_bind (flat q ks hk _ ?_)
  simp only[Bool.false_eq_true,↓reduceIte]
  refine wpAny_bind (flat p ms hp _ ?_)
  simp only[Bool.false_eq_true,↓reduceIte]
  exact wpAny_pure hq
end
open PySem
section
variable{prog:Program}{w:World}{A:Around}{E:Value->Shared->Prop}{s:Shared}
theorem noClass{q:Addr}{o:Obj}{its:Array Value}{n:Nat}{Q:Bool->Shared->Prop}(ho:s.heap.get? q=some o)(hc:o.cls = .type "tuple")(hd:o.data = .seq its n)(hi:∀ v∈its.toList,∃ k t,v = .int k t)(h:Q false s):wpAny (model prog w) A (ofAClassStatement 8 (.ref q)) Q E s:=by
 have hT:s.TypeIs (.ref q) "tuple":=⟨o,ho,hc⟩
 unfold ofAClassStatement
 refine wpAny_bind (wpAny_typeOf hT ?_)
 dsimp only
 refine wpAny_bind (wpAny_pure ?_)
 rw[if_neg (by decide)]
 refine wpAny_bind (wpAny_seqItems ho hd ?_)
 dsimp only
 rw[<- Array.forIn_toList]
 refine wpAny_bind (for_all (fun v hv Q' hq=>?_) (wpAny_pure h))
 obtain⟨k,t,rfl⟩:=hi v hv
 refine wpAny_bind ?_
 unfold ofAClassStatement
 refine wpAny_pure ?_
 rw[if_neg (by decide)]
 exact wpAny_pure hq
variable{a:Addr}{o:Obj}{es:Array (Int×Value)}{ep:Nat}{t:SetTable}{q:Addr}{h:Int}
noncomputable def Lean_(t:SetTable):Prop:=t.place.size * 5<t.mask * 3
theorem stored{h:Heap}(ho:h.get? a=some o)(hd:o.data = .set es ep t)(es':Array (Int×Value))(t':SetTable):(h.update a (Obj.putSet es' t')).get? a=some { o with data:=.set es' (ep+1) t' }:=by
 have:=Heap.get?_update_self (Obj.putSet es' t') ho (by rw[putSet_of es' t' hd];rfl)
 rw[putSet_of es' t' hd]at this
 exact this
theorem add(ho:s.heap.get? a=some o)(hd:o.data = .set es ep t)(T:Tb es t)(ln:Lean_ t)(pl:t.plain=true)(few:es.size<=300)(eqv:Nat->Bool)(he:∀ (i:Nat) (e:Int×Value),es[i]?=some e->e.1=h->SeqAt.EqAt A s e.2 (.ref q) (eqv i))
  (seen:∀ Q':Bool->Shared->Prop,Q' false s->wpAny (model prog w) A (searchCouldBeSeen (.ref q) ((es.filter (·.1 == h)).toList.map (·.2))) Q' E s) (rf:∀ (i:Nat) (e:Int×Value),es[i]?=some e->∃ q,e.2 = .ref q)
  (hv:∀ Q':Bool->Shared->Prop,∀ s':Shared,s'.heap=s.heap->Q' true s'->wpAny (model prog w) A (hashByValue 8 (.ref q)) Q' E s') {Q:Bool->Shared->Prop}
  (q1:(∃ (i:Nat) (e:Int×Value),es[i]?=some e/\e.1=h/\eqv i=true)->Q false s)
  (q2:(∀ (i:Nat) (e:Int×Value),es[i]?=some e->e.1=h->eqv i=false)->∀ (es':Array (Int×Value)) (t':SetTable) (ep':Nat),Tb es' t'->Lean_ t'->t'.plain=true->t'.led=t.led->es'.toList.Perm ((h,.ref q) :: es.toList)->∀ h':Heap,h'.get? a=some { o with data:=.set es' ep' t' }->Heap.SameBut a s.heap h'->Q true { s with heap:=h' }) :
  wpAny (model prog w) A (setAddHashed a (.ref q) h) Q E s:=by
 unfold setAddHashed
 refine wpAny_holding ?_
 unfold setAddHashedIn
 refine wpAny_bind (wpAny_setState_of ho hd T.fits ?_)
 dsimp only
 have bs:byScan (.ref q) es=false:=rfl
 rw[bs]
 simp only[Bool.false_eq_true,↓reduceIte]
 obtain⟨n0,F⟩:=first_ex T.rs T.fl T.msk h
 have n0l:n0<100000:=by
  have:=F.lt
  unfold SetTable.turns at this
  rcases T.msk with e | e | e | e <;> rw[e]at this <;> lia
 unfold setSearch
 refine wpAny_bind (search ho hd T F eqv he seen rf (fun x=>?_) (fun x=>?_) 100000 0 none rfl (Nat.zero_le _) (by omega) (fun m hm=>absurd hm (by lia)))
 ·dsimp only
  exact wpAny_pure (q1 x)
 ·dsimp only
  refine wpAny_bind (wpAny_setState_of ho hd T.fits ?_)
  dsimp only
  have room:t.place.size<t.mask:=by
   have ln:t.place.size * 5<t.mask * 3:=ln
   lia
  have T1:=T.put (x:=.ref q) F room
  have p1:(SetTable.insertAt es (t.put (pth t.mask h n0).j).2 (h,.ref q)).toList.Perm ((h,.ref q) :: es.toList):=by
   refine(SetTable.insertAt_perm es _ _).trans ?_
   rw[Array.toList_push]
   exact List.perm_append_singleton _ _
  have ppl:(t.put (pth t.mask h n0).j).1.plain=true:=pl
  have pld:(t.put (pth t.mask h n0).j).1.led=t.led:=rfl
  have pmk:(t.put (pth t.mask h n0).j).1.mask=t.mask:=rfl
  generalize (t.put (pth t.mask h n0).j).2=pp at T1 p1 ⊢
  generalize (t.put (pth t.mask h n0).j).1=t1 at T1 ppl pld pmk ⊢
  generalize SetTable.insertAt es pp (h,.ref q)=es1 at T1 p1 ⊢
  have sz1:es1.size=es.size+1:=by
   have:=p1.length_eq
   simpa using this
  have sl1:t1.place.size=t.place.size+1:=by rw[T1.sz,sz1,T.sz]
  rw[if_pos ppl]
  refine wpAny_bind (hv _ s rfl ?_)
  simp only[↓reduceIte]
  refine wpAny_bind (wpAny_storeSet_of ho hd ?_ (by rw[sizeLine_eq];lia))
  have g1:=stored ho hd es1 t1
  have sb1:=Heap.SameBut.update s.heap a (Obj.putSet es1 t1)
  generalize s.heap.update a (Obj.putSet es1 t1)=h1 at g1 sb1 ⊢
  have tf:t1.tooFull=decide (t1.place.size * 5 >= t1.mask * 3):=by
   unfold SetTable.tooFull SetTable.fill
   rw[T1.dm]
   rfl
  cases htf:t1.tooFull
  ·simp only[Bool.not_false,Bool.and_false,Bool.false_eq_true,↓reduceIte]
   rw[tf]at htf
   have lt:=of_decide_eq_false htf
   exact wpAny_pure (q2 x es1 t1 (ep+1) T1 (show t1.place.size * 5<t1.mask * 3 by lia) ppl pld p1 h1 g1 sb1)
  ·simp only[Bool.not_false,Bool.and_self,↓reduceIte]
   rw[tf]at htf
   have ge:=of_decide_eq_true htf
   have ln:t.place.size * 5<t.mask * 3:=ln
   rw[sl1,pmk]at ge
   have esz:es.size=t.place.size:=T.sz.symm
   obtain⟨mk',big,len',small⟩:Mk (SetTable.sizeAbove (SetTable.grown (es.size+1))-1)/\(es.size+1) * 5 <(SetTable.sizeAbove (SetTable.grown (es.size+1))-1) * 3/\es1.size<=SetTable.sizeAbove (SetTable.grown (es.size+1))-1/\SetTable.sizeAbove (SetTable.grown (es.size+1))<=sizeLine:=by
    rw[sz1,sizeLine_eq]
    rcases T.msk with e | e | e | e <;> rw[e]at ge ln
    ·have n4:es.size=4:=by lia
     rw[n4]
     exact⟨.inr (.inl (by decide)),by decide,by decide,by decide⟩
    ·have n18:es.size=18:=by lia
     rw[n18]
     exact⟨.inr (.inr (.inl (by decide))),by decide,by decide,by decide⟩
    ·have n76:es.size=76:=by lia
     rw[n76]
     exact⟨.inr (.inr (.inr (by decide))),by decide,by decide,by decide⟩
    ·lia
   refine wpAny_bind (relay (s:={ s with heap:=h1 }) g1 rfl T1 mk' len' small fun es2 t2 s' T2 p2 m2 l2 pl2=>?_)
   have sz2:es2.size=es1.size:=by
    have:=p2.length_eq
    rw[Array.length_toList,Array.length_toList]at this
    exact this
   refine wpAny_storeSet_of g1 rfl ?_ (by rw[sizeLine_eq];lia)
   refine wpAny_pure (q2 x es2 t2 (ep+1+1) T2 ?_ (pl2.trans ppl) (l2.trans pld) (p2.trans p1) _ (stored g1 rfl es2 t2) (sb1.trans (Heap.SameBut.update _ a _)))
   show t2.place.size * 5<t2.mask * 3
   rw[T2.sz,sz2,m2,sz1]
   exact big
end
open PySem L2
section
variable{prog:Program}{w:World}{A:Around}{E:Value->Shared->Prop}{s:Shared}{a:Addr}{T:List Addr}
noncomputable def hsh(prog:Program)(w:World)(k:List Int):Int:=tupleKeyHash (intKind prog w) k
noncomputable def El(prog:Program)(w:World)(T:List Addr)(g:Heap)(e:Int×Value)(k:List Int):Prop:=Srt.TupI g e.2 k/\e.1=hsh prog w k/\∃ q∈T,e.2 = .ref q
structure Cell(prog:Program)(w:World)(T:List Addr)(g:Heap)(a:Addr)(o:Obj)(es:Array (Int×Value))(ep:Nat)(t:SetTable)(ks:List (List Int)):Prop where
 get:g.get? a=some o
 ex:o.ExactSet
 dat:o.data = .set es ep t
 tb:Tb es t
 ln:Lean_ t
 pl:t.plain=true
 el:Paired (El prog w T g) es.toList ks
 nd:ks.Nodup
 ld:t.led = !w.params.followText "set-order"
theorem tupKey{g:Heap}{q:Addr}{k:List Int}(h:Srt.TupI g (.ref q) k):IsTupleKey (intKind prog w) g k q/\∃ o its n,g.get? q=some o/\o.cls = .type "tuple"/\o.data = .seq its n/\∀ v∈its.toList,∃ j t,v = .int j t:=by
 obtain⟨q',o,its,n,e,g1,c1,d1,iv⟩:=h
 cases e
 have gen:∀ {ns:List Int}{vs:List Value},Srt.IntsV ns vs->ItemsAre (intKind prog w) ns vs/\∀ v∈vs,∃ j t,v = .int j t:=by
  intro ns vs h
  induction h with
  |nil=>exact⟨.nil,fun _ h=>nomatch h⟩
  |cons hv _ ih =>
   obtain⟨t,rfl⟩:=hv
   refine⟨.cons (by simp[intKind,Value.isInt]) ih.1,fun u hu=>?_⟩
   rcases List.mem_cons.mp hu with e | hu
   ·exact⟨_,_,e⟩
   ·exact ih.2 u hu
 exact⟨⟨o,its,n,g1,c1,d1,(gen iv).1⟩,o,its,n,g1,c1,d1,(gen iv).2⟩
theorem keyInts{g:Heap}{p:Addr}{k:List Int}(h:IsTupleKey (intKind prog w) g k p):∃ o its n,g.get? p=some o/\o.cls = .type "tuple"/\o.data = .seq its n/\∀ v∈its.toList,∃ j t,v = .int j t:=by
 obtain⟨o,its,n,g1,c1,d1,it⟩:=h
 refine⟨o,its,n,g1,c1,d1,?_⟩
 generalize its.toList=vs at it
 induction it with
 |nil=>exact fun _ h=>nomatch h
 |cons hv _ ih =>
  intro u hu
  rcases List.mem_cons.mp hu with e | hu
  ·subst e
   obtain⟨t,e⟩:=Value.isInt_shape hv
   exact⟨_,t,e⟩
  ·exact ih u hu
theorem paired_perm{α β:Type}{F:α->β->Prop}{l l':List α}(p:l'.Perm l):∀ {ks:List β},Paired F l ks->∃ ms,Paired F l' ms/\ms.Perm ks:=by
 induction p with
 |nil=>intro ks h;exact⟨ks,h,.refl _⟩
 |cons x _ ih =>
  intro ks h
  cases h with
  |cons hx t =>
   obtain⟨ms,m1,m2⟩:=ih t
   exact⟨_,.cons hx m1,m2.cons _⟩
 |swap x y l =>
  intro ks h
  cases h with
  |cons hx t =>
   cases t with
   |cons hy t=>exact⟨_,.cons hy (.cons hx t),.swap _ _ _⟩
 |trans _ _ ih1 ih2 =>
  intro ks h
  obtain⟨ms,m1,m2⟩:=ih2 h
  obtain⟨ns,n1,n2⟩:=ih1 m1
  exact⟨ns,n1,n2.trans m2⟩
theorem paired_getL{α β:Type}{F:α->β->Prop}:∀ {l:List α}{ks:List β},Paired F l ks->∀ (i:Nat) (x:α),l[i]?=some x->∃ k,ks[i]?=some k/\F x k:=by
 intro l ks h
 induction h with
 |nil=>intro i x e;simp at e
 |cons h t ih =>
  intro i x e
  cases i with
  |zero=>cases e;exact⟨_,rfl,h⟩
  |succ i=>exact ih i x e
theorem paired_getR{α β:Type}{F:α->β->Prop}:∀ {l:List α}{ks:List β},Paired F l ks->∀ (i:Nat) (k:β),ks[i]?=some k->∃ x,l[i]?=some x/\F x k:=by
 intro l ks h
 induction h with
 |nil=>intro i x e;simp at e
 |cons h t ih =>
  intro i x e
  cases i with
  |zero=>cases e;exact⟨_,rfl,h⟩
  |succ i=>exact ih i x e
theorem El.move{g g':Heap}{a:Addr}{o:Obj}(ho:g.get? a=some o)(hc:o.cls = .type "set")(sb:Heap.SameBut a g g'){e:Int×Value}{k:List Int}(h:El prog w T g e k):El prog w T g' e k:=by
 obtain⟨⟨q,ob,its,n,e1,g1,c1,d1,iv⟩,eh⟩:=h
 refine⟨⟨q,ob,its,n,e1,?_,c1,d1,iv⟩,eh⟩
 rw[sb.2 q (fun z=>by
  rw[z,ho]at g1
  cases g1
  rw[hc]at c1
  exact absurd c1 (by decide))]
 exact g1
theorem addT{o:Obj}{es:Array (Int×Value)}{ep:Nat}{t:SetTable}{ks:List (List Int)}(hu:A.units<cLine)(C:Cell prog w T s.heap a o es ep t ks)(few:ks.length<=300){q:Addr}{k:List Int}(hk:Srt.TupI s.heap (.ref q) k)(hT:q∈T){Q:Bool->Shared->Prop}
  (q1:k∈ks->Q false s) (q2:k∉ks->∀ (h':Heap) (o':Obj) (es':Array (Int×Value)) (ep':Nat) (t':SetTable) (ms:List (List Int)),Cell prog w T h' a o' es' ep' t' ms->ms.Perm (k :: ks)->Heap.SameBut a s.heap h'->Q true { s with heap:=h' }) :
  wpAny (model prog w) A (setAddHashed a (.ref q) (hsh prog w k)) Q E s:=by
 have len:es.size=ks.length:=by
  have:=Paired.length C.el
  rw[Array.length_toList]at this
  exact this
 have at_:∀ (i:Nat) (e:Int×Value),es[i]?=some e->∃ m,ks[i]?=some m/\El prog w T s.heap e m:=fun i e ee=>paired_getL C.el i e (by rw[Array.getElem?_toList];exact ee)
 have isref:∀ {v:Value}{m:List Int},Srt.TupI s.heap v m->∃ p,v = .ref p:=fun h=>by
  obtain⟨p,_,_,_,e,_⟩:=h
  exact⟨p,e⟩
 obtain⟨tk,oq,iq,nq,gq,cq,dq,vq⟩:=tupKey (prog:=prog) (w:=w) hk
 refine add C.get C.dat C.tb C.ln C.pl (by lia) (fun i=>decide (ks[i]?=some k)) (fun i e ee eh=>?_) (fun Q' hq=>?_) (fun i e ee=>?_) (fun Q' s' hs hq=>?_) (fun x=>?_) (fun x es' t' ep' T' l' p' ld pm h' g' sb=>?_)
 ·obtain⟨m,em,tm,_⟩:=at_ i e ee
  obtain⟨p,ep⟩:=isref tm
  rw[ep]at tm ⊢
  rw[em]
  have:=eqT (A:=A) hu tm hk
  simpa using this
 ·refine seen_no (knd:=intKind prog w) tk (fun p m hp Q'' hq''=>?_) (fun y hy=>?_) hq
  ·obtain⟨o1,i1,n1,g1,c1,d1,v1⟩:=keyInts hp
   exact noClass g1 c1 d1 v1 hq''
  ·obtain⟨e,he,rfl⟩:=List.mem_map.mp hy
   have he:e∈es:=by
    have:=(Array.mem_filter.mp (Array.mem_toList_iff.mp he)).1
    exact this
   obtain⟨i,hi,ei⟩:=Array.getElem_of_mem he
   obtain⟨m,_,tm,_⟩:=at_ i e (by rw[Array.getElem?_eq_getElem hi,ei])
   obtain⟨p,ep⟩:=isref tm
   rw[ep]at tm
   exact⟨p,m,ep,(tupKey tm).1⟩
 ·obtain⟨m,_,tm,_⟩:=at_ i e ee
  exact isref tm
 ·exact hbv (by rw[hs];exact gq) cq dq vq hq
 ·obtain⟨i,e,ee,_,ev⟩:=x
  exact q1 (List.mem_of_getElem? (of_decide_eq_true ev))
 ·have nk:k∉ks:=fun hm=>by
   obtain⟨i,hi,ei⟩:=List.getElem_of_mem hm
   obtain⟨e,ee,tm,eh,_⟩:=paired_getR C.el i k (by rw[List.getElem?_eq_getElem hi,ei])
   have:=x i e (by rw[<- Array.getElem?_toList];exact ee) eh
   exact of_decide_eq_false this (by rw[List.getElem?_eq_getElem hi,ei])
  have el1:Paired (El prog w T s.heap) ((hsh prog w k,Value.ref q) :: es.toList) (k :: ks):=.cons ⟨hk,rfl,q,hT,rfl⟩ C.el
  obtain⟨ms,m1,m2⟩:=paired_perm pm el1
  refine q2 nk h' _ es' ep' t' ms ⟨g',C.ex,rfl,T',l',p',Paired.mapP m1 (fun e m he=>he.move C.get C.ex.1 sb),?_,ld.trans C.ld⟩ m2 sb
  exact m2.nodup_iff.mpr (List.nodup_cons.mpr ⟨nk,C.nd⟩)
end
open PySem L2
section
variable{prog:Program}{w:World}{A:Around}{R:Result->Shared->Prop}{I:Addr}{fp wr:List Addr}{G:Array GenState->Array GenState->Prop}{n:Nat}{P:Nat->Value->Prop}{St:Nat->Shared->Prop}{T:List Addr}
theorem TupI.moved{g g':Heap}{wr:List Addr}(mv:∀ b o,b∉wr->g.get? b=some o->g'.get? b=some o)(no:∀ b∈wr,∃ ob,g.get? b=some ob/\ob.cls≠.type "tuple"){v:Value}{k:List Int}(h:Srt.TupI g v k):Srt.TupI g' v k:=by
 obtain⟨q,ob,its,m,e1,g1,c1,d1,iv⟩:=h
 refine⟨q,ob,its,m,e1,mv q ob (fun z=>?_) g1,c1,d1,iv⟩
 obtain⟨ob',g2,c2⟩:=no q z
 rw[g1]at g2
 cases g2
 exact c2 c1
theorem Cell.moved{g g':Heap}{wr:List Addr}{S:Addr}{o:Obj}{es:Array (Int×Value)}{ep:Nat}{t:SetTable}{ks:List (List Int)}(C:Cell prog w T g S o es ep t ks)(mv:∀ b o,b∉wr->g.get? b=some o->g'.get? b=some o)(no:∀ b∈wr,∃ ob,g.get? b=some ob/\ob.cls≠.type "tuple")(hS:S∉wr):Cell prog w T g' S o es ep t ks :=
 ⟨mv S o hS C.get,C.ex,C.dat,C.tb,C.ln,C.pl,Paired.mapP C.el (fun e k h=>⟨TupI.moved mv no h.1,h.2⟩),C.nd,C.ld⟩
theorem loopT(W:WalksS prog w A.in1 I fp wr G n P St)(S:Addr)(hSf:S∉fp)(val:Nat->List Int)(tq:Nat->Addr)(hT:∀ i,i<n->tq i∈T)(hval:∀ i v,P i v->v = .ref (tq i))(no:∀ i s,St i s->∀ b∈wr,∃ ob,s.heap.get? b=some ob/\ob.cls≠.type "tuple")
  (hb:n<=300) (hu:A.in1.units<cLine):∀ (k i:Nat) (s:Shared),n-i=k->i<=n->St i s->(∀ j,j<n->Srt.TupI s.heap (.ref (tq j)) (val j)) ->
   ∀ (o:Obj) (es:Array (Int×Value)) (ep:Nat) (t:SetTable) (ks:List (List Int)),Cell prog w T s.heap S o es ep t ks->ks.length<=i->(∀ x,x∈ks↔∃ j,j<i/\val j=x) ->
   (∀ s' o es ep t ks,Moved (S :: wr) G s s'->Cell prog w T s'.heap S o es ep t ks->(∀ x,x∈ks↔∃ j,j<n/\val j=x)->R (.ok (.ret .none)) s') ->
   codeAny (model prog w) A (.builtin "set.update.loop" ⟨[.ref S,.ref I],[]⟩) R s:=by
 have hSw:S∉wr:=fun z=>hSf (W.sub _ z)
 have up:∀ b∈wr,b∈S :: wr:=fun b z=>List.mem_cons_of_mem _ z
 intro k
 induction k with
 |zero =>
  intro i s hk hi st tups o es ep t ks C kl mem fin
  obtain rfl:i=n:=by lia
  refine codeAny_builtin PyProof.Rows.F.entry_set_update_loop ?_
  rw[Around.under_plainId PyProof.Rows.F.plain_set_update_loop _]
  show wpAny _ A.in1 (pyNext (.ref I) >>= _) _ _ s
  refine wpAny_bind (W.done s _ _ st fun s' mv=>?_)
  show wpAny _ A.in1 (ret Value.none) _ _ s'
  exact wpAny_pure (fin s' o es ep t ks (mv.mono up) (C.moved mv.heap (no _ s st) hSw) mem)
 |succ k ih =>
  intro i s hk hi st tups o es ep t ks C kl mem fin
  have hlt:i<n:=by omega
  refine codeAny_builtin PyProof.Rows.F.entry_set_update_loop ?_
  rw[Around.under_plainId PyProof.Rows.F.plain_set_update_loop _]
  show wpAny _ A.in1 (pyNext (.ref I) >>= _) _ _ s
  refine wpAny_bind (W.item i s _ _ hlt st fun v s' hP st' mv=>?_)
  obtain rfl:=hval i v hP
  have C1:=C.moved mv.heap (no _ s st) hSw
  have tups1:∀ j,j<n->Srt.TupI s'.heap (.ref (tq j)) (val j):=fun j hj=>TupI.moved mv.heap (no _ s st) (tups j hj)
  show wpAny _ A.in1 (holding [Value.ref (tq i)] (setAdd S (.ref (tq i))) >>= _) _ _ s'
  refine wpAny_bind (wpAny_holding ?_)
  unfold setAdd
  refine wpAny_holding (wpAny_bind (wpAny_pyHash_tuple hu (tupKey (prog:=prog) (w:=w) (tups1 i hlt)).1 ?_))
  refine addT (s:={ s' with toks:=s'.toks+((val i).length+1) }) hu C1 (by lia) (tups1 i hlt) (hT i hlt) (fun hm=>?_) (fun hm h' o' es' ep' t' ms C2 pm sb=>?_)
  ·refine wpAny_pure ⟨plainId_quiet PyProof.Rows.F.plain_set_update_loop _,ih (i+1) _ (by omega) hlt (W.frame _ s' _ _ st' (Nat.le_add_right _ _) fun b hb o e=>e) tups1 o es ep t ks C1 (by lia) (fun x=>?_) fun s'' o es ep t ks mv2 C3 m3=>?_⟩
   ·rw[mem x]
    constructor
    ·rintro⟨j,hj,e⟩;exact⟨j,by lia,e⟩
    ·rintro⟨j,hj,e⟩
     by_cases z:j=i
     ·subst z
      rw[<- e]
      exact(mem _).mp hm
     ·exact⟨j,by lia,e⟩
   ·exact fin s'' o es ep t ks (Moved.trans W.gtrans ((mv.mono up).then_heap (Nat.le_add_right _ _) fun b o hb e=>e) mv2) C3 m3
  ·have tq':∀ j,j<n->Srt.TupI h' (.ref (tq j)) (val j):=fun j hj=>(El.move (prog:=prog) (w:=w) (e:=(hsh prog w (val j),.ref (tq j))) C1.get C1.ex.1 sb (T:=[tq j]) ⟨tups1 j hj,rfl,tq j,List.mem_cons_self ..,rfl⟩).1
   have ml:ms.length=ks.length+1:=by
    have:=pm.length_eq
    simpa using this
   refine wpAny_pure ⟨plainId_quiet PyProof.Rows.F.plain_set_update_loop _,ih (i+1) _ (by omega) hlt (W.frame _ s' _ _ st' (Nat.le_add_right _ _) fun b hb o e=>?_) tq' o' es' ep' t' ms C2 (by lia) (fun x=>?_) fun s'' o es ep t ks mv2 C3 m3=>?_⟩
   ·rw[sb.2 b (fun z=>hSf (by rw[<- z];exact hb))]
    exact e
   ·rw[pm.mem_iff,List.mem_cons,mem x]
    constructor
    ·rintro(e |⟨j,hj,e⟩)
     ·exact⟨i,by lia,e.symm⟩
     ·exact⟨j,by lia,e⟩
    ·rintro⟨j,hj,e⟩
     by_cases z:j=i
     ·subst z;exact .inl e.symm
     ·exact .inr ⟨j,by lia,e⟩
   ·refine fin s'' o es ep t ks (Moved.trans W.gtrans ((mv.mono up).then_heap (Nat.le_add_right _ _) fun b o hb e=>?_) mv2) C3 m3
    rw[sb.2 b (fun z=>hb (by rw[z];exact List.mem_cons_self))]
    exact e
end
open PySem L2
section
variable{prog:Program}{w:World}{A:Around}{E:Value->Shared->Prop}{s:Shared}{T:List Addr}
noncomputable abbrev newO(led:Bool):Obj:={ cls:=.type "set",dict:=none,data:=.set #[] 0 (.fresh 0 0 led) }
theorem fresh_cell{g:Heap}{S:Addr}{led:Bool}(hl:led = !w.params.followText "set-order")(h:g.get? S=some (newO led)):Cell prog w T g S (newO led) #[] 0 (.fresh 0 0 led) []:=by
 refine⟨h,⟨rfl,rfl,rfl⟩,rfl,⟨fun i j _ hj=>absurd hj (by show ¬ j<0;lia),rfl,rfl,.inl rfl,by show 0<=7;decide,fun i j e hp=>?_⟩,by show 0 * 5<7 * 3;decide,rfl,.nil,List.nodup_nil,hl⟩
 have hp:(#[]:Array Nat)[i]?=some j:=hp
 simp at hp
theorem new1(x:Value){Q₁:Value->Shared->Prop}(h:Q₁ (.ref s.heap.objs.size) { s with heap:=s.heap.push (newO (!w.params.followText "set-order")) }):codeAny (model prog w) A (.call (.builtin "set.__new__") ⟨[.type "set",x],[]⟩) (wants Q₁ E) s:=by
 refine codeAny_of_tree ?_;show wpAny _ A.in1 (checkBuiltinCall "set.__new__" ⟨[.type "set",x],[]⟩ >>= fun _=>again (.builtin "set.__new__" ⟨[.type "set",x],[]⟩)) _ _ s
 refine wpAny_bind (wpAny_of_eq (F.newCall_set_1 x) (wpAny_pure ⟨plainId_quiet F.plain_set_new _,codeAny_builtin F.entry_set_new ?_⟩));rw[Around.under_plainId F.plain_set_new _]
 unfold Builtin.«set.__new__» Builtin.Frozenset.newClass;have y:=sub_set_self;obtain⟨hp,g,d,tk,os⟩:=s
 dsimp only;wp_walk;refine wpAny_askSetting (wpAny_pure ?_)
 dsimp only;simp only[newObj];refine wpAny_bind (wpAny_alloc (wpAny_pure (wpAny_pure h)))
theorem call_setT{l:Addr}{items:Array Value}{val:Nat->List Int}{tq:Nat->Addr}{Q:Value->Shared->Prop}(hh:A.handled=none)(hu:A.units+64<cLine)(hl:s.heap.IsList l items)(hi:∀ (i:Nat) (v:Value),items[i]?=some v->v = .ref (tq i))(ht:∀ j,j<items.size->Srt.TupI s.heap (.ref (tq j)) (val j))(hTm:∀ i,i<items.size->tq i∈T)(hb:items.size<=300)
  (h:∀ (h':Heap) (tk:Nat) (o:Obj) (es:Array (Int×Value)) (ep:Nat) (t:SetTable) (ks:List (List Int)),Cell prog w T h' s.heap.objs.size o es ep t ks->(∀ x,x∈ks↔∃ j,j<items.size/\val j=x)->(∀ b o,b<s.heap.objs.size->s.heap.get? b=some o->h'.get? b=some o)->Q (.ref s.heap.objs.size) { s with heap:=h',toks:=tk }) :
  wpAny (model prog w) A (call (.type "set") [.ref l]) Q E s:=by
 obtain⟨c,tl,hmro⟩:=F.called_set.mro;have hmade:=F.called_set.made;have hsub:=F.called_set.sub
 refine wpAny_call (codeAny_of_tree ?_);show wpAny _ _ (callAny (.type "set") _) _ _ _
 refine wpAny_pure ⟨Code.quiet_builtin _ (by decide +kernel),codeAny_builtin F.entry_type_call ?_⟩;rw[Around.under_plain (weight_type_call_type "set" [.ref l] []) rfl]
 have h1:=F.called_set.notType;have h2:=F.called_set.canCreate;have hct:=F.typeCall_set_1 (.ref l)
 repeat (any_goals (first | assumption | wp_step))
 refine codeAny_mono (new1 (.ref l) (E:=E) (Q₁:=fun ob sn=>∃ led:Bool,led=(!w.params.followText "set-order")/\ob = .ref s.heap.objs.size/\sn = { s with heap:=s.heap.push (newO led) }) ⟨_,rfl,rfl,rfl⟩) fun r sn hr=>?_
 cases r with
 |error e=>exact hr
 |ok fl =>
  cases fl with
  |ret ob =>
   obtain⟨led,hled,rfl,rfl⟩:=hr
   have gS:(s.heap.push (newO led)).get? s.heap.objs.size=some (newO led):=Heap.get?_push_size _ rfl
   have hT:Shared.TypeIs { s with heap:=s.heap.push (newO led) } (.ref s.heap.objs.size) "set":=⟨_,gS,rfl⟩
   have hli:=F.called_set.init.lookup;have hbi:=F.called_set.init.bind (.ref s.heap.objs.size)
   repeat (any_goals (first | assumption | wp_step))
   refine codeAny_mono (codeAny_call_builtin (R:=wants (fun r sm=>r = .none/\∃ h' tk o es ep t ks,sm = { s with heap:=h',toks:=tk }/\Cell prog w T h' s.heap.objs.size o es ep t ks/\(∀ x,x∈ks↔∃ j,j<items.size/\val j=x) /\
     (∀ b o,b<s.heap.objs.size->s.heap.get? b=some o->h'.get? b=some o)) E) F.called_set.init.plain F.entry_set_init (check_set_init_1 hT ?_)) fun r2 sm hr2=>?_
   ·obtain⟨ol,gol,hcl,nl,hdl⟩:=hl;obtain⟨ocls,odict,odata,oslots⟩:=ol;simp only at hcl hdl;subst hcl;subst hdl
    have gol':(s.heap.push (newO led)).get? l=some { cls:=.type "list",dict:=odict,data:=.seq items nl,slots:=oslots }:=Heap.get?_push_of_some _ gol
    have x1:=F.sub_list_set;have x2:=F.sub_list_frozenset;have x3:(Value.type "list" == Value.type "dict")=false:=by decide
    have hl1:(s.heap.push (newO led)).IsList l items:=⟨_,gol',rfl,nl,rfl⟩
    unfold Builtin.«set.__init__» noKeywords Builtin.Frozenset.updateFrom;generalize hPI:pyIter=PI
    wp_walk
    subst hPI;refine wpAny_pyIter_list hl1 ?_;refine wpAny_bind (wpAny_runValue ?_)
    have lS:l<s.heap.objs.size:=Heap.lt_size gol
    have hh3:A.in1.in1.in1.handled=none:=by simp[hh]
    have lI:l≠(s.heap.push (newO led)).objs.size:=by rw[Heap.size_push];exact Nat.ne_of_lt (Nat.lt_succ_of_lt lS)
    have Sf:s.heap.objs.size∉[(s.heap.push (newO led)).objs.size,l]:=by
     rw[Heap.size_push];simp only[List.mem_cons,List.not_mem_nil,or_false,not_or];exact⟨Nat.ne_of_lt (Nat.lt_succ_self _),Nat.ne_of_gt lS⟩
    have gS2:((s.heap.push (newO led)).push { cls:=.type "list_iterator",data:=.fields #[.ref l,.int 0 0] }).get? s.heap.objs.size=some (newO led):=Heap.get?_push_of_some _ gS
    have tups:∀ j,j<items.size->Srt.TupI ((s.heap.push (newO led)).push { cls:=.type "list_iterator",data:=.fields #[.ref l,.int 0 0] }) (.ref (tq j)) (val j):=fun j hj=>by
     obtain⟨q,ob,its,m,e1,g1,c1,d1,iv⟩:=ht j hj;exact⟨q,ob,its,m,e1,Heap.get?_push_of_some _ (Heap.get?_push_of_some _ g1),c1,d1,iv⟩
    refine loopT ((Walks.list hh3 _ l lI items).toS) s.heap.objs.size Sf val tq hTm hi (fun i sx st b hb'=>?_) hb ?_ (items.size-0) 0 _ (by lia) (Nat.zero_le _) ⟨⟨_,Heap.get?_push_size _ rfl,rfl,rfl⟩,(hl1.push _)⟩ tups _ _ _ _ [] (fresh_cell hled gS2) (Nat.le_refl _) (fun x=>⟨(fun z=>nomatch z),fun⟨j,hj,_⟩=>absurd hj (by lia)⟩) ?_
    ·obtain⟨⟨oi,gi,ci,_⟩,_⟩:=st
     rw[List.mem_singleton.mp hb']
     exact⟨oi,gi,by rw[ci];decide⟩
    ·exact Nat.lt_of_le_of_lt (Nat.add_le_add_left (show 3<=64 by decide) _) hu
    ·intro s' o es ep t ks mv C3 m3
     obtain⟨h',g',d',tk',os'⟩:=s'
     have eg:g'=s.gens:=mv.gens;have ed:d'=s.drawn:=mv.drawn;have eo:os'=s.os:=mv.os
     subst eg;subst ed;subst eo
     show wpAny _ _ _ _ _ _;refine wpAny_pure ?_;show wpAny _ _ (ret Value.none) _ _ _
     refine wpAny_pure ⟨rfl,h',tk',o,es,ep,t,ks,rfl,C3,m3,fun b ob hb' e=>?_⟩
     have b1:b≠s.heap.objs.size:=Nat.ne_of_lt hb'
     have b2:b≠(s.heap.push (newO led)).objs.size:=by rw[Heap.size_push];exact Nat.ne_of_lt (Nat.lt_succ_of_lt hb')
     exact mv.heap b ob (by simp only[List.mem_cons,List.not_mem_nil,or_false,not_or];exact⟨b1,b2⟩) (Heap.get?_push_of_some _ (Heap.get?_push_of_some _ e))
   ·cases r2 with
    |error e=>exact hr2
    |ok fl2 =>
     cases fl2 with
     |ret r =>
      obtain⟨rfl,h',tk,o,es,ep,t,ks,rfl,C3,m3,k3⟩:=hr2
      repeat (any_goals (first | assumption | wp_step))
      exact h _ _ o es ep t ks C3 m3 k3
     | _=>exact hr2.elim
  | _=>exact hr.elim
end
open PySem PySem.W PyProof.Rows
noncomputable abbrev byT(w:World):Bool:=w.params.followText "set-order"
noncomputable def ord(w:World)(a:Addr)(es:Array (Int×Value))(ep:Nat):Array (Int×Value):=if byT w=true then pickOrder (w.params.setOrder a ep) es else es
theorem cut_perm{α:Type}:∀ (i:Nat) (l:List α) (h:i<l.length),(l[i] :: l.eraseIdx i).Perm l
 | 0,_ :: _,_=>.refl _
 |i+1,x :: l,h=>by
  show(l[i]'(Nat.lt_of_succ_lt_succ h) :: x :: l.eraseIdx i).Perm _
  exact(List.Perm.swap _ _ _).trans ((cut_perm i l (Nat.lt_of_succ_lt_succ h)).cons x)
theorem pick_go{α:Type}(f:Nat->Nat):∀ (n k:Nat) (l:List α) (out:Array α),l.length=n->(pickOrder.go f n k l out).toList.Perm (out.toList++l)
 | 0,k,l,out,h=>by
  have:l=[]:=List.length_eq_zero_iff.mp h
  subst this
  rw[List.append_nil]
  exact .refl _
 |n+1,k,l,out,h=>by
  have lt:f k % l.length<l.length:=Nat.mod_lt _ (by lia)
  unfold pickOrder.go
  rw[List.getElem?_eq_getElem lt]
  dsimp only
  refine(pick_go f n (k+1) _ _ (by rw[List.length_eraseIdx_of_lt lt];lia)).trans ?_
  rw[Array.toList_push,List.append_assoc]
  exact List.Perm.append_left _ (cut_perm _ l lt)
theorem ord_perm{w:World}{a:Addr}{es:Array (Int×Value)}{ep:Nat}:(ord w a es ep).toList.Perm es.toList:=by
 unfold ord
 split
 ·have:=pick_go (w.params.setOrder a ep) es.size 0 es.toList #[] (by simp)
  simpa[pickOrder]using this
 ·exact .refl _
structure Raw(w:World)(a:Addr)(es:Array (Int×Value))(ep:Nat)(t:SetTable)(g:Heap):Prop where
 get:∃ o,g.get? a=some o/\o.ExactSet/\o.data = .set es ep t
 rs:Rs t.place
 ft:t.fits es.size=true
 pl:t.plain=true
 ld:t.led = !byT w
theorem Raw.to{w:World}{a:Addr}{es:Array (Int×Value)}{ep:Nat}{t:SetTable}{g g':Heap}(x:Raw w a es ep t g)(k:∀ o,g.get? a=some o->g'.get? a=some o):Raw w a es ep t g':=by
 obtain⟨o,h,r⟩:=x.get
 exact⟨⟨o,k o h,r⟩,x.rs,x.ft,x.pl,x.ld⟩
theorem Raw.lt{w:World}{a:Addr}{es:Array (Int×Value)}{ep:Nat}{t:SetTable}{g:Heap}(x:Raw w a es ep t g):a<g.objs.size:=by
 obtain⟨o,h,r⟩:=x.get
 exact Heap.lt_size h
theorem Raw.sz{w:World}{a:Addr}{es:Array (Int×Value)}{ep:Nat}{t:SetTable}{g:Heap}(x:Raw w a es ep t g):t.place.size=es.size:=by
 have:=x.ft
 unfold SetTable.fits at this
 simp only[Bool.and_eq_true,beq_iff_eq]at this
 exact this.1
noncomputable def stAt(w:World)(t:SetTable)(i:Nat):Nat:=if byT w=true then 0 else if i=0 then 0 else t.place.getD (i-1) 0+1
theorem below_st{w:World}{t:SetTable}(r:Rs t.place)(hb:byT w=false){i:Nat}(hi:i<=t.place.size):SetTable.below t.place (stAt w t i)=i:=by
 have e:stAt w t i=if i=0 then 0 else t.place.getD (i-1) 0+1:=by
  unfold stAt
  rw[hb]
  rfl
 rw[e]
 obtain⟨b1,b2,b3⟩:=below_spec r (if i=0 then 0 else t.place.getD (i-1) 0+1)
 by_cases z:i=0
 ·rw[if_pos z]at b1 b2 b3 ⊢
  by_cases c:SetTable.below t.place 0=0
  ·lia
  ·exact absurd (b2 0 (by lia)) (by lia)
 ·rw[if_neg z]at b1 b2 b3 ⊢
  generalize SetTable.below t.place (t.place.getD (i-1) 0+1)=b at b1 b2 b3
  have up:i<=b:=by
   refine Nat.le_of_not_lt fun c=>?_
   have:=b3 (i-1) (by lia) (by lia)
   lia
  refine Nat.le_antisymm (Nat.le_of_not_lt fun c=>?_) up
  have h1:=b2 i c
  have h2:=r (i-1) i (by lia) (by lia)
  omega
section
variable{prog:Program}{w:World}{A:Around}{E:Value->Shared->Prop}{s:Shared}{a it:Addr}{es:Array (Int×Value)}{ep i:Nat}{t:SetTable}
theorem setsByText_w{Q:Bool->Shared->Prop}(q:Q (byT w) s):wpAny (model prog w) A setsByText Q E s:=by
 unfold setsByText
 exact wpAny_bind (wpAny_askSetting (wpAny_pure q))
theorem drawn_no{Q:Bool->Shared->Prop}(x:Raw w a es ep t s.heap)(q:Q false s):wpAny (model prog w) A (setDrawn a) Q E s:=by
 obtain⟨o,h,ex,d⟩:=x.get
 unfold setDrawn
 refine wpAny_bind (wpAny_setState_of h d x.ft ?_)
 dsimp only
 refine wpAny_bind (setsByText_w (wpAny_pure ?_))
 have e:∀ z:Bool,z=false->Q z s:=fun z hz=>by rw[hz];exact q
 refine e _ ?_
 show(_ && (!t.plain && _))=false
 rw[x.pl]
 simp
theorem next_ok{n:Nat}{Q:Option (Value×Nat)->Shared->Prop}(x:Raw w a es ep t s.heap)(hi:i<=es.size)(q:Q (((ord w a es ep)[i]?).map fun e=>(e.2,stAt w t (i+1))) s):wpAny (model prog w) A (setNext a (stAt w t i) i ep) Q E s:=by
 obtain⟨o,h,ex,d⟩:=x.get
 unfold setNext
 refine wpAny_bind (wpAny_setState_of h d x.ft ?_)
 dsimp only
 refine wpAny_bind (setsByText_w ?_)
 by_cases hb:byT w=true
 ·rw[if_pos hb]
  simp only[bne_self_eq_false,Bool.false_eq_true,if_false]
  refine wpAny_bind ?_
  unfold setWalk
  refine wpAny_bind (wpAny_setState_of h d x.ft ?_)
  dsimp only
  refine wpAny_bind (setsByText_w ?_)
  rw[if_pos hb]
  refine wpAny_bind (wpAny_askSetting (wpAny_pure (wpAny_pure ?_)))
  have e1:ord w a es ep=pickOrder (w.params.setOrder a ep) es:=by unfold ord;rw[if_pos hb]
  have e2:∀ i,stAt w t i=0:=fun i=>by unfold stAt;rw[if_pos hb]
  rw[e1,e2]at q
  rw[e2]
  exact q
 ·have hb':byT w=false:=by simpa using hb
  rw[if_neg hb]
  refine wpAny_ite_split (fun y=>absurd (show(!t.plain && _)=true from y) (by rw[x.pl];simp)) (fun _=>?_)
  refine wpAny_bind ?_
  show wpAny _ _ (if(!t.led && !es.isEmpty)=true then unsupported _ else pure ()) _ _ _
  rw[x.ld,hb']
  simp only[Bool.not_false,Bool.not_true,Bool.false_and,Bool.false_eq_true,if_false]
  refine wpAny_pure (wpAny_pure ?_)
  have e1:ord w a es ep=es:=by unfold ord;rw[if_neg hb]
  rw[below_st x.rs hb' (by rw[x.sz];exact hi)]
  rw[e1]at q
  by_cases l:i<es.size
  ·have l2:i<t.place.size:=by rw[x.sz];exact l
   rw[Array.getElem?_eq_getElem l,Array.getElem?_eq_getElem l2]
   rw[Array.getElem?_eq_getElem l]at q
   have e2:stAt w t (i+1)=t.place[i]+1:=by
    unfold stAt
    rw[if_neg hb,if_neg (by lia),Nat.add_sub_cancel]
    simp[Array.getD,l2]
   rw[e2]at q
   exact q
  ·rw[Array.getElem?_eq_none (by lia)]at q ⊢
   exact q
noncomputable def ItAt(w:World)(it a:Addr)(t:SetTable)(i n ep:Nat)(g:Heap):Prop:=∃ o,g.get? it=some o/\o.cls = .type "set_iterator"/\o.data = .fields #[.int (stAt w t i:Nat) 0,.int i 0,.ref a,.int n 0,.int ep 0]
theorem it_slot:Slot "set_iterator" "__next__" "set_iterator.__next__":=.of (owner:="set_iterator") (n:="__next__") (by rw[typeLookup_type,builtinLookup_eq_fast];kernel_rfl) (by decide +kernel) (by decide +kernel) (by decide +kernel) (by first | exact .inl (by decide +kernel) | exact .inr (by decide +kernel)) (by rw[isSubtype_type];kernel_rfl)
theorem it_entry:entryFor table "set_iterator.__next__" = some Builtin.«set_iterator.__next__»:=entryFor_of_tree (by kernel_rfl)
theorem it_own:Manifest.owners.lookup (String.ofList ['r','o','t','a','r','e','t','i','_','t','e','s'].reverse)=some Manifest.sig_set_iterator:=by kernel_rfl
theorem it_args(v:Value):argsOk "set_iterator.__next__" ⟨[v],[]⟩:=by
 unfold argsOk;rw[signature?_of (id:="set_iterator.__next__") (n:=['_','_','t','x','e','n','_','_']) (o:=['r','o','t','a','r','e','t','i','_','t','e','s']) (by kernel_rfl) it_own];kernel_rfl
theorem iter_entry:entryFor table "set.__iter__" = some Builtin.«frozenset.__iter__»:=entryFor_alias (id':="frozenset.__iter__") (by kernel_rfl) rfl (by decide +kernel) (by kernel_rfl)
theorem Raw.ty(x:Raw w a es ep t s.heap):s.TypeIs (.ref a) "set":=by
 obtain⟨o,h,ex,d⟩:=x.get
 exact⟨o,h,ex.1⟩
theorem iterOf{Q:Value->Shared->Prop}(x:Raw w a es ep t s.heap)(q:Q (.ref s.heap.objs.size) { s with heap:=s.heap.push { cls:=.type "set_iterator",data:=.fields #[.int (stAt w t 0:Nat) 0,.int (0:Nat) 0,.ref a,.int es.size 0,.int ep 0] } }) :
  wpAny (model prog w) A (pyIter (.ref a)) Q E s:=by
 have ty:=x.ty
 obtain⟨o,h,ex,d⟩:=x.get
 refine wpAny_pyIter_slot ty F.slot_set_iter (wpAny_call_entry F.slot_set_iter ty iter_entry ?_ (F.args_set_iter_1 _))
 unfold Builtin.«frozenset.__iter__» Builtin.Frozenset.slot0 slotArgs
 simp only[List.isEmpty_nil,Bool.not_true,Bool.false_eq_true,↓reduceIte,bind_assoc,List.length_nil,bne_self_eq_false]
 unfold Builtin.Frozenset.addrOf Builtin.Frozenset.sizeOf
 refine wpAny_bind (wpAny_pure ?_)
 dsimp only
 refine wpAny_bind (wpAny_pure (wpAny_bind (wpAny_bind (wpAny_setEntries_of h d x.ft (wpAny_pure ?_)))))
 refine wpAny_bind (drawn_no x ?_)
 simp only[Bool.false_eq_true,if_false]
 refine wpAny_bind (wpAny_pure ?_)
 refine wpAny_bind (wpAny_setEpoch_of h d x.ft ?_)
 refine wpAny_bind (wpAny_newObj_type (wpAny_pure ⟨_,rfl,"set_iterator",_,⟨_,Heap.get?_push_size _ rfl,rfl⟩,it_slot.lookup,?_⟩))
 have e0:stAt w t 0=0:=by unfold stAt;split <;> rfl
 rw[e0]at q
 simpa[rawInt]using q
theorem itemOf{v:Value}{Q:Option Value->Shared->Prop}(hI:ItAt w it a t i es.size ep s.heap)(x:Raw w a es ep t s.heap)(hv:((ord w a es ep)[i]?).map (·.2)=some v)
  (q:∀ g',ItAt w it a t (i+1) es.size ep g'->Heap.SameBut it s.heap g'->Q (some v) { s with heap:=g' }):wpAny (model prog w) A (pyNext (.ref it)) Q E s:=by
 obtain⟨io,a0,c0,d0⟩:=hI
 obtain⟨o,h,ex,d⟩:=x.get
 have ty:s.TypeIs (.ref it) "set_iterator":=⟨_,a0,c0⟩
 unfold pyNext;refine wpAny_bind (wpAny_attempt (wpAny_callSpecial?_slot (name:=Str.ofString "__next__") ty it_slot (wpAny_call_entry it_slot ty it_entry ?_ (it_args _))))
 unfold Builtin.«set_iterator.__next__» slotArgs
 simp only[List.isEmpty_nil,Bool.not_true,Bool.false_eq_true,↓reduceIte,bind_assoc,List.length_nil,bne_self_eq_false]
 refine wpAny_bind (wpAny_pure (wpAny_bind (wpAny_fieldsOf a0 d0 ?_)))
 dsimp only
 refine wpAny_bind (wpAny_setEntries_of h d x.ft ?_)
 simp only[bne_self_eq_false,Bool.false_eq_true,if_false,Int.toNat_natCast]
 have il:i<es.size:=by
  have hl:=ord_perm (w:=w) (a:=a) (es:=es) (ep:=ep)
  have:=hl.length_eq
  rw[Array.length_toList,Array.length_toList]at this
  refine Nat.lt_of_not_le fun c=>?_
  rw[Array.getElem?_eq_none (by lia)]at hv
  cases hv
 refine wpAny_bind (next_ok (n:=0) x (Nat.le_of_lt il) ?_)
 obtain⟨e,he,ev⟩:=Option.map_eq_some_iff.mp hv
 rw[he]
 dsimp only[Option.map]
 refine wpAny_bind (wpAny_setField a0 d0 (by simp) ?_)
 have a1:=Heap.get?_update_self (Obj.mapFields (·.setIfInBounds 0 (rawInt (stAt w t (i+1):Nat)))) a0 (Obj.isFreed_of_fields (Obj.data_mapFields d0 _))
 have d1:=Obj.data_mapFields d0 (·.setIfInBounds 0 (rawInt (stAt w t (i+1):Nat)))
 have c1:=Obj.cls_mapFields io (·.setIfInBounds 0 (rawInt (stAt w t (i+1):Nat)))
 refine wpAny_bind (wpAny_setField a1 d1 (by simp) ?_)
 refine wpAny_pure ⟨_,rfl,?_⟩
 have a2:=Heap.get?_update_self (Obj.mapFields (·.setIfInBounds 1 (rawInt ((i:Int)+1)))) a1 (Obj.isFreed_of_fields (Obj.data_mapFields d1 _))
 rw[ev]
 refine wpAny_pure (q _ ⟨_,a2,(Obj.cls_mapFields ..).trans (c1.trans c0),?_⟩ ((Heap.SameBut.update ..).trans (Heap.SameBut.update ..)))
 rw[Obj.data_mapFields d1]
 simp[rawInt]
theorem endOf{Q:Option Value->Shared->Prop}(hh:A.handled=none)(hI:ItAt w it a t es.size es.size ep s.heap)(x:Raw w a es ep t s.heap)(q:∀ g',Heap.ExtBut it s.heap g'->Q none { s with heap:=g' }):wpAny (model prog w) A (pyNext (.ref it)) Q E s:=by
 obtain⟨io,a0,c0,d0⟩:=hI
 obtain⟨o,h,ex,d⟩:=x.get
 have ty:s.TypeIs (.ref it) "set_iterator":=⟨_,a0,c0⟩
 unfold pyNext;refine wpAny_bind (wpAny_attempt (wpAny_callSpecial?_slot (name:=Str.ofString "__next__") ty it_slot (wpAny_call_entry it_slot ty it_entry ?_ (it_args _))))
 unfold Builtin.«set_iterator.__next__» slotArgs
 simp only[List.isEmpty_nil,Bool.not_true,Bool.false_eq_true,↓reduceIte,bind_assoc,List.length_nil,bne_self_eq_false]
 refine wpAny_bind (wpAny_pure (wpAny_bind (wpAny_fieldsOf a0 d0 ?_)))
 dsimp only
 refine wpAny_bind (wpAny_setEntries_of h d x.ft ?_)
 simp only[bne_self_eq_false,Bool.false_eq_true,if_false,Int.toNat_natCast]
 refine wpAny_bind (next_ok (n:=0) x (Nat.le_refl _) ?_)
 have hl:=(ord_perm (w:=w) (a:=a) (es:=es) (ep:=ep)).length_eq
 rw[Array.length_toList,Array.length_toList]at hl
 rw[Array.getElem?_eq_none (by lia)]
 dsimp only[Option.map]
 refine wpAny_bind (wpAny_setField a0 d0 (by simp) ?_)
 refine wpAny_bind ?_;simp only[newExc,newTuple];refine wpAny_bind (wpAny_newObj_type ?_ (by size_fits))
 refine wpAny_bind (m:=firstArgMember _ _) (wpAny_of_eq (a:=Value.none) (by first | rfl |(simp only[firstArgMember];rfl)) (wpAny_newObj_type ?_ (by size_fits)));simp only[raiseNew];refine wpAny_bind (wpAny_handled ?_)
 rw[show A.in1.handled=none from hh];refine wpAny_bind (wpAny_pure (wpAny_throw ?_));refine wpAny_bind (wpAny_isInstance (T:="StopIteration") (b:=true) ⟨_,Heap.get?_push_size _ rfl,rfl⟩ isSubtype_stop ?_)
 refine wpAny_pure (q _ ?_)
 exact((Heap.SameBut.update ..).extBut.push _).push _
theorem self_slot:Slot "set_iterator" "__iter__" "set_iterator.__iter__":=.of (owner:="set_iterator") (n:="__iter__") (by rw[typeLookup_type,builtinLookup_eq_fast];kernel_rfl) (by decide +kernel) (by decide +kernel) (by decide +kernel) (by first | exact .inl (by decide +kernel) | exact .inr (by decide +kernel)) (by rw[isSubtype_type];kernel_rfl)
theorem self_entry:entryFor table "set_iterator.__iter__" = some Builtin.«dict_keyiterator.__iter__»:=entryFor_alias (id':="dict_keyiterator.__iter__") (by kernel_rfl) rfl (by decide +kernel) (by kernel_rfl)
theorem self_args(v:Value):argsOk "set_iterator.__iter__" ⟨[v],[]⟩:=by
 unfold argsOk;rw[signature?_of (id:="set_iterator.__iter__") (n:=['_','_','r','e','t','i','_','_']) (o:=['r','o','t','a','r','e','t','i','_','t','e','s']) (by kernel_rfl) it_own];kernel_rfl
theorem itSelf{n:Nat}{Q:Value->Shared->Prop}(hI:ItAt w it a t i n ep s.heap)(q:Q (.ref it) s):wpAny (model prog w) A (pyIter (.ref it)) Q E s:=by
 obtain⟨io,a0,c0,d0⟩:=hI
 have ty:s.TypeIs (.ref it) "set_iterator":=⟨_,a0,c0⟩
 refine wpAny_pyIter_slot ty self_slot (wpAny_call_entry self_slot ty self_entry ?_ (self_args _));show wpAny _ _ (ret (.ref it)) _ _ s
 exact wpAny_pure ⟨_,rfl,"set_iterator",_,ty,it_slot.lookup,q⟩
theorem setWalks(hh:A.handled=none)(I a:Addr)(ne:a≠I)(es:Array (Int×Value))(ep:Nat)(t:SetTable):Walks prog w A I [I,a] [I] es.size (fun i v=>((ord w a es ep)[i]?).map (·.2)=some v) (fun i g=>ItAt w I a t i es.size ep g/\Raw w a es ep t g)where
 sub:=fun b z=>by simp at z;simp[z]
 frame:=fun _ _ _ st k=>by
  obtain⟨⟨o,e,r⟩,x⟩:=st
  exact⟨⟨o,k I (by simp) o e,r⟩,x.to fun o e=>k a (by simp) o e⟩
 item:=fun i s Q E hi st hQ=>by
  have hl:=(ord_perm (w:=w) (a:=a) (es:=es) (ep:=ep)).length_eq
  rw[Array.length_toList,Array.length_toList]at hl
  have hx:((ord w a es ep)[i]?).map (·.2)=some ((ord w a es ep)[i]'(by lia)).2:=by rw[Array.getElem?_eq_getElem (by lia)];rfl
  exact itemOf st.1 st.2 hx fun g' it' sb=>hQ _ g' s.toks hx ⟨it',st.2.to fun o e=>sb.extBut a o ne e⟩ fun b o z e=>sb.extBut b o (fun h=>z (by simp[h])) e
 done:=fun s Q E st hQ=>endOf hh st.1 st.2 fun g' e'=>hQ g' s.toks fun b o z e=>e' b o (fun h=>z (by simp[h])) e
 self:=fun i s Q E st hQ=>itSelf st.1 hQ
theorem hintOf{Q:Bool->Shared->Prop}(ty:s.TypeIs (.ref a) "set")(q:Q false s):wpAny (model prog w) A (Builtin.List.listLengthHint (.ref a)) Q E s:=by
 unfold Builtin.List.listLengthHint;refine wpAny_bind (wpAny_specialOf ty F.slot_set_len.lookup ?_)
 generalize hi:("set.__len__":String)=id0;wp_delta
 rw[show splitId id0=some ("set","__len__")from by subst hi;decide +kernel];subst hi
 refine wpAny_bind (wpAny_isInstance (T:="set") (b:=true) ty (by rw[isSubtype_type];kernel_rfl) (wpAny_ite_split (fun z=>absurd z (by decide)) (fun _=>wpAny_ite_split (fun _=>?_) (fun z=>absurd (by decide +kernel) z))))
 exact wpAny_bind (wpAny_typeOf ty (wpAny_pure q))
theorem setSrc(a:Addr)(es:Array (Int×Value))(ep:Nat)(t:SetTable):KdlSrc prog w "set" a a es.size (fun i v=>((ord w a es ep)[i]?).map (·.2)=some v) (Raw w a es ep t)where
 type:=fun _ x=>x.ty
 there:=fun _ x=>⟨x.lt,x.lt⟩
 keep:=fun _ _ x k=>x.to fun o e=>k a (.inl rfl) o e
 notList:=by decide
 notTuple:=by decide
 hint:=fun _ _ _ _ x q=>hintOf x.ty q
 iter:=fun _ _ hh x=>⟨_,_,(fun _ _ q=>iterOf x q),setWalks hh _ a (Nat.ne_of_lt x.lt) es ep t,⟨⟨_,Heap.get?_push_size _ rfl,rfl,rfl⟩,x.to fun o e=>Heap.get?_push_of_some _ e⟩⟩
end
end SetA
namespace Srt
open PySem PySem.W PyProof.Rows
@[reducible] noncomputable def κI:KeyKind where
 α:=Int
 blt a b:=decide (a<b)
 irrefl a:=by simp
 trans a b c h k:=by simp at h k ⊢;lia
 negTrans a b c h:=by simp at h ⊢;lia
 total a b h k:=by simp at h k;lia
 keyOf v:=match v with
  | .int i _=>some i
  | _=>none
 dflt:=(0:Int)
theorem κI_of{v:Value}{i:Int}(h:κI.keyOf v=some i):∃ t,v = .int i t:=by
 cases v with
 |int j t =>
  have e:j=i:=Option.some.inj h
  subst e
  exact⟨t,rfl⟩
 | _=>cases h
theorem ltI_ok{prog:Program}{w:World}{A:Around}{s:Shared}:LtOk κI oneType' prog w A s:=by
 intro E x y a b Q st hk ha hb q
 obtain⟨t,e1⟩:=κI_of ha
 obtain⟨u,e2⟩:=κI_of hb
 rw[lt'_eq]
 refine wpS_bind (wpS_get ?_)
 rw[hk,keyLt'_oneType,e1,e2]
 refine wpS_bind (wpS_lift (wpAny_attempt (oneLt_int ⟨rfl,?_⟩)))
 exact wpS_pure q
end Srt
namespace L2
open PySem PySem.W PyProof.Rows Srt
section
variable{X:Cx}{pins:List (Addr×Obj)}{σ:St}{H:Hp}{s:Shared}
theorem collect_kept{g:Heap}{vs:List Value}:∀ b u,g.get? b=some u->((g.push (seqObj "list" #[] 0)).update g.objs.size (Obj.mapSeq (·++vs.toArray))).get? b=some u:=fun b u e=>by
 rw[Heap.get?_update_ne _ _ _ _ (Nat.ne_of_lt (Heap.lt_size e))]
 exact Heap.get?_push_of_some _ e
theorem call_sortedT:CallR X (.builtin "sorted") (fun xs H Q=>∃ l as ks,xs=[V.ref l]/\SqL X.K H l (List.map V.ref as)/\TupsAt H as ks/\(∀ k∈ks,k≠[])/\as.length<128 /\
  ∀ (l':Addr) (bs:List Addr) (ns:List (List Int)),H l'=none->ns.Perm ks->ns.Pairwise (fun x y=>lexlt y x=false)->TupsAt H bs ns->Q (.ref l') (upd H l' (.lst (bs.map V.ref)))):=by
 intro pins s σ H xs us Q I r h
 obtain⟨l,as,ks,rfl,hq,ht,hne,hlen,q⟩:=h
 obtain⟨u,rfl,rx⟩:=vals1 r
 cases rx
 obtain⟨its,r',pl,hz⟩:=I.list hq
 have er:=refs_of r'
 subst er
 refine Calls.call_function_entry kind_sorted plain_sorted entry_sorted (args_sorted1 _) ?_
 unfold Builtin.«sorted»
 refine wpAny_bind (m:=checkCount "sorted" 1 1 _) (wpAny_pure (wpAny_bind (collect_list pl.isList ?_ (by rw[List.length_map,sizeLine_eq];lia))))
 generalize hh':(s.heap.push (seqObj "list" #[] 0)).update s.heap.objs.size (Obj.mapSeq (·++(as.map Value.ref).toArray))=h'
 have kp:∀ b u,s.heap.get? b=some u->h'.get? b=some u:=hh'▸collect_kept
 refine wpAny_bind (wpAny_newList ?_ (by rw[List.length_map,sizeLine_eq];lia))
 have gL:(h'.push (seqObj "list" (as.map Value.ref).toArray 0)).get? h'.objs.size=some (seqObj "list" (as.map Value.ref).toArray 0):=Heap.get?_push_size _ rfl
 have I1:Inv X pins σ H { s with heap:=h' }:=I.kept (t':=s.toks) kp
 have kp2:∀ b u,h'.get? b=some u->(h'.push (seqObj "list" (as.map Value.ref).toArray 0)).get? b=some u:=fun b u e=>Heap.get?_push_of_some _ e
 have zipne:∀ {as:List Addr}{ks:List (List Int)},TupsAt H as ks->(∀ k∈ks,k≠[])->Paired (fun a k=>H a=some (.tup (List.map V.int k))/\k≠[]) as ks:=by
  intro as ks h
  induction h with
  |nil=>intro _;exact .nil
  |cons r _ ih=>intro hn;exact .cons ⟨r,hn _ (List.mem_cons_self ..)⟩ (ih fun k hk=>hn k (List.mem_cons_of_mem _ hk))
 have tT:Paired (fun a k=>TupI (h'.push (seqObj "list" (as.map Value.ref).toArray 0)) (.ref a) k/\k≠[]) as ks:=Paired.mapP (zipne ht hne) fun a k z=>⟨(tupI_of I1 z.1).to fun b u _ e=>kp2 b u e,z.2⟩
 have memH:=tups_mem ht
 refine wpAny_bind (wpAny_holding (wpAny_call_entry slot_list_sort ⟨_,gL,rfl⟩ entry_list_sort (sort_new (X:=X) (s:={ s with heap:=h'.push (seqObj "list" (as.map Value.ref).toArray 0) }) gL tT hlen fun bs ns g c pb pn pw pt kp3 gg=>⟨_,rfl,?_⟩) (args_list_sort _)))
 refine wpAny_pure ⟨_,rfl,.ref h'.objs.size,_,I1.laid (t':=s.toks) (a:=h'.objs.size) (o:=.lst (bs.map V.ref)) (fun b u e=>kp3 b u (Nat.ne_of_lt (Heap.lt_size e)) (kp2 b u e)) (Nat.le_refl _) (show ObjOk X.prog X.w _ g _ (.lst (bs.map V.ref))from⟨?_,bs.map Value.ref,c,?_,gg⟩),rfl,q _ bs ns (I1.hok.fresh (Nat.le_refl _)) pn pw ?_⟩
 ·rw[List.length_map,pb.length_eq,sizeLine_eq];lia
 ·clear pb pt gg
  induction bs with
  |nil=>exact .nil
  |cons b bs ih=>exact .cons rfl ih
 ·have memB:∀ a∈bs,∃ k:List Int,H a=some (.tup (k.map V.int)):=fun a ha=>memH a (pb.mem_iff.mp ha)
  clear pb gg pn pw
  induction pt with
  |nil=>exact .nil
  | @cons a k l1 l2 r1 _ ih =>
   refine .cons ?_ (ih fun a ha=>memB a (List.mem_cons_of_mem _ ha))
   obtain⟨k',e⟩:=memB a (List.mem_cons_self ..)
   rw[e,r1.inj ((tupI_of I1 e).to fun b u _ z=>kp2 b u z)]
theorem ints_perm:∀ {ws vs:List Value}{ns:List Int},ws.Perm vs->Vals (ns.map V.int) vs->∃ ms:List Int,Vals (ms.map V.int) ws/\ms.Perm ns:=by
 intro ws vs ns hp r
 have hI:=intsAre_of r
 have all:∀ v∈vs,∃ i t,v=Value.int i t:=by
  intro v hv
  obtain⟨j,hj,e⟩:=List.getElem_of_mem hv
  have l:=r.length
  rw[List.length_map]at l
  obtain⟨u,e2,t,e3⟩:=r.get (i:=j) (x:=V.int (ns[j]'(by lia))) (by rw[List.getElem?_map,List.getElem?_eq_getElem (by lia)];rfl)
  rw[List.getElem?_eq_getElem hj,e]at e2
  cases e2
  exact⟨_,t,e3⟩
 let f:Value->Int:=fun v=>match v with
  | .int i _=>i
  | _=>0
 have key:∀ {us:List Value}{ks:List Int},Vals (ks.map V.int) us->us.map f=ks:=by
  intro us
  induction us with
  |nil=>intro ks r;cases ks with
   |nil=>rfl
   |cons _ _=>cases r
  |cons u us ih=>intro ks r;cases ks with
   |nil=>cases r
   |cons k ks =>
    cases r with
    |cons r1 r2 =>
     obtain⟨t,e⟩:=r1
     rw[List.map_cons,ih r2,e]
 refine⟨ws.map f,?_,?_⟩
 ·have all':∀ v∈ws,∃ i t,v=Value.int i t:=fun v hv=>all v (hp.mem_iff.mp hv)
  clear hp
  induction ws with
  |nil=>exact .nil
  |cons w ws ih =>
   obtain⟨i,t,e⟩:=all' w (List.mem_cons_self ..)
   refine .cons ⟨t,by rw[e]⟩ (ih fun v hv=>all' v (List.mem_cons_of_mem _ hv))
 ·rw[<- key r]
  exact hp.map f
theorem call_sortedI:CallR X (.builtin "sorted") (fun xs H Q=>∃ (l:Addr) (ns:List Int),xs=[V.ref l]/\SqL X.K H l (ns.map V.int)/\ns.length<128 /\
  ∀ (l':Addr) (ms:List Int),H l'=none->ms.Perm ns->ms.Pairwise (·<=·)->Q (.ref l') (upd H l' (.lst (ms.map V.int)))):=by
 intro pins s σ H xs us Q I r h
 obtain⟨l,ns,rfl,hq,hlen,q⟩:=h
 obtain⟨u,rfl,rx⟩:=vals1 r
 cases rx
 obtain⟨its,r',pl,hz⟩:=I.list hq
 have li:=r'.length
 rw[List.length_map]at li
 refine Calls.call_function_entry kind_sorted plain_sorted entry_sorted (args_sorted1 _) ?_
 unfold Builtin.«sorted»
 refine wpAny_bind (m:=checkCount "sorted" 1 1 _) (wpAny_pure (wpAny_bind (collect_list pl.isList ?_ (by rw[sizeLine_eq];lia))))
 generalize hh':(s.heap.push (seqObj "list" #[] 0)).update s.heap.objs.size (Obj.mapSeq (·++its.toArray))=h'
 have kp:∀ b u,s.heap.get? b=some u->h'.get? b=some u:=hh'▸collect_kept
 refine wpAny_bind (wpAny_newList ?_ (by rw[sizeLine_eq];lia))
 have gL:(h'.push (seqObj "list" its.toArray 0)).get? h'.objs.size=some (seqObj "list" its.toArray 0):=Heap.get?_push_size _ rfl
 have I1:Inv X pins σ H { s with heap:=h' }:=I.kept (t':=s.toks) kp
 have kp2:∀ b u,h'.get? b=some u->(h'.push (seqObj "list" its.toArray 0)).get? b=some u:=fun b u e=>Heap.get?_push_of_some _ e
 have hI:=intsAre_of r'
 have keys:KeysOf κI (pairsOf its):=fun p hp=>by
  rw[pairsOf_toList]at hp
  obtain⟨e1,e2⟩:=Srt.mem_zip_self hp
  obtain⟨j,hj,e⟩:=List.getElem_of_mem e2
  obtain⟨u,g1,t,g2⟩:=r'.get (i:=j) (x:=V.int (ns[j]'(by lia))) (by rw[List.getElem?_map,List.getElem?_eq_getElem (by lia)];rfl)
  rw[List.getElem?_eq_getElem hj,e]at g1
  cases g1
  rw[e1,g2]
  exact⟨_,rfl⟩
 refine wpAny_bind (wpAny_holding (wpAny_call_entry slot_list_sort ⟨_,gL,rfl⟩ entry_list_sort (sort_at (κ:=κI) (kd:=oneType') gL keys (by lia) (fun l2 g k=>⟨ltI_ok,fun R hR=>?_⟩) fun ws g c pw sw kp3 gg=>⟨_,rfl,?_⟩) (args_list_sort _)))
 ·match its,hI,l2 with
  |v1 :: v2 :: rest,hI,_ =>
   rw[keyKind_ints hI]
   exact wpAny_pure hR
  |[],_,l2=>simp at l2
  |[_],_,l2=>simp at l2
 ·obtain⟨ms,rm,pm⟩:=ints_perm pw r'
  have lw:=rm.length
  rw[List.length_map]at lw
  refine wpAny_pure ⟨_,rfl,.ref h'.objs.size,_,I1.laid (t':=s.toks) (a:=h'.objs.size) (o:=.lst (ms.map V.int)) (fun b u e=>kp3 b u (Nat.ne_of_lt (Heap.lt_size e)) (kp2 b u e)) (Nat.le_refl _) (show ObjOk X.prog X.w _ g _ (.lst (ms.map V.int))from⟨?_,ws,c,rm,gg⟩),rfl,q _ ms (I1.hok.fresh (Nat.le_refl _)) pm ?_⟩
  ·rw[List.length_map,pm.length_eq,sizeLine_eq];lia
  ·rw[List.pairwise_iff_getElem]
   intro i j hi hj ij
   have z:=sw i j (Nat.le_of_lt ij) (by lia)
   have kk:∀ m (hm:m<ms.length),KK κI (pairsOf ws) m=ms[m]:=fun m hm=>by
    obtain⟨u,g1,t,g2⟩:=rm.get (i:=m) (x:=V.int ms[m]) (by rw[List.getElem?_map,List.getElem?_eq_getElem hm];rfl)
    have e:(pairsOf ws)[m]?=some (u,u):=by
     have hm':m<ws.length:=by lia
     have:ws[m]=u:=by rw[List.getElem?_eq_getElem hm']at g1;exact Option.some.inj g1
     simp[pairsOf,hm',this]
    unfold KK
    rw[e,g2]
    rfl
   rw[kk i hi,kk j hj]at z
   have z':decide (ms[j]<ms[i])=false:=z
   have:=of_decide_eq_false z'
   lia
end
open PySem PySem.W PyProof.Rows Srt SetA
noncomputable def setT(w:World)(a:Addr)(qs:List Addr):HO:=.ext fun h=>∃ es ep t,Raw w a es ep t h/\es.toList.map (·.2)=qs.map Value.ref
section
variable{X:Cx}{pins:List (Addr×Obj)}{σ:St}{H:Hp}{s:Shared}
theorem cell_raw{prog:Program}{w:World}{T:List Addr}{g:Heap}{a:Addr}{o:Obj}{es:Array (Int×Value)}{ep:Nat}{t:SetTable}{ks:List (List Int)}(C:Cell prog w T g a o es ep t ks):Raw w a es ep t g :=
 ⟨⟨o,C.get,C.ex,C.dat⟩,C.tb.rs,C.tb.fits,C.pl,C.ld⟩
theorem refs_pick{prog:Program}{w:World}{T:List Addr}{g:Heap}:∀ {l:List (Int×Value)}{ks:List (List Int)},Paired (El prog w T g) l ks->∃ qs:List Addr,l.map (·.2)=qs.map Value.ref/\(∀ q∈qs,q∈T)/\Paired (fun q k=>TupI g (.ref q) k) qs ks:=by
 intro l ks h
 induction h with
 |nil=>exact⟨[],rfl,(fun _ h=>nomatch h),.nil⟩
 |cons h r ih =>
  obtain⟨h1,_,q,hq,he⟩:=h
  obtain⟨qs,e1,e2,e3⟩:=ih
  refine⟨q :: qs,by rw[List.map_cons,List.map_cons,e1,he],fun x hx=>?_,.cons (by rw[<- he];exact h1) e3⟩
  rcases List.mem_cons.mp hx with z | z
  ·rw[z];exact hq
  ·exact e2 x z
theorem call_setR:CallR X (.type "set") (fun xs H Q=>∃ l as ks,xs=[V.ref l]/\SqL X.K H l (List.map V.ref as)/\TupsAt H as ks/\X.A.handled=none/\X.A.units+64<cLine/\as.length<=300 /\
  ∀ (S:Addr) (qs:List Addr) (ms:List (List Int)),H S=none->TupsAt H qs ms->ms.Nodup->(∀ x,x∈ms↔x∈ks)->Q (.ref S) (upd H S (setT X.w S qs))):=by
 intro pins s σ H xs us Q I r h
 obtain⟨l,as,ks,rfl,hq,ht,hh,hu,hlen,q⟩:=h
 obtain⟨u,rfl,rx⟩:=vals1 r
 cases rx
 obtain⟨its,r',pl,hz⟩:=I.list hq
 have er:=refs_of r'
 subst er
 have la:=tups_len ht
 have sz:(as.map Value.ref).toArray.size=as.length:=by simp
 refine call_setT (T:=as) (items:=(as.map Value.ref).toArray) (val:=fun j=>ks.getD j []) (tq:=fun j=>as.getD j (0:Nat)) hh hu pl.isList (fun i v hv=>?_) (fun j hj=>?_) (fun i hi=>?_) (by rw[sz];exact hlen) (fun h' tk o es ep t ms C hm kp=>?_)
 ·have hv:(as.map Value.ref)[i]?=some v:=by simpa using hv
  rw[List.getElem?_map]at hv
  obtain⟨y,hy,e⟩:=Option.map_eq_some_iff.mp hv
  rw[List.getD_eq_getElem?_getD,hy,<- e]
  rfl
 ·rw[sz]at hj
  rw[List.getD_eq_getElem?_getD,List.getD_eq_getElem?_getD,List.getElem?_eq_getElem hj,List.getElem?_eq_getElem (by lia)]
  exact tupI_of I (Paired.at ht j hj (by lia))
 ·rw[sz]at hi
  rw[List.getD_eq_getElem?_getD,List.getElem?_eq_getElem hi]
  exact List.getElem_mem hi
 ·obtain⟨qs,e1,e2,e3⟩:=refs_pick C.el
  have memH:=tups_mem ht
  have kp':∀ b u,s.heap.get? b=some u->h'.get? b=some u:=fun b u e=>kp b u (Heap.lt_size e) e
  have I1:Inv X pins σ H { s with heap:=h',toks:=tk }:=I.kept kp'
  have tq:TupsAt H qs ms:=by
   clear e1 C hm
   induction e3 with
   |nil=>exact .nil
   | @cons a k l1 l2 r1 _ ih =>
    refine .cons ?_ (ih fun a ha=>e2 a (List.mem_cons_of_mem _ ha))
    obtain⟨k',e⟩:=memH a (e2 a (List.mem_cons_self ..))
    rw[e,r1.inj (tupI_of I1 e)]
  refine⟨.ref s.heap.objs.size,_,I.laid (t':=tk) (a:=s.heap.objs.size) (o:=setT X.w s.heap.objs.size qs) kp' (Nat.le_refl _) ?_,rfl,q _ qs ms (I.hok.fresh (Nat.le_refl _)) tq C.nd fun x=>?_⟩
  ·exact⟨⟨es,ep,t,cell_raw C,e1⟩,⟨o,C.get⟩,fun h1 h2 ⟨es,ep,t,x,e⟩ k=>⟨es,ep,t,x.to k,e⟩⟩
  ·rw[hm x]
   rw[sz]
   refine⟨fun⟨j,hj,e⟩=>?_,fun hx=>?_⟩
   ·rw[<- e,List.getD_eq_getElem?_getD,List.getElem?_eq_getElem (by lia)]
    exact List.getElem_mem _
   ·obtain⟨j,hj,e⟩:=List.getElem_of_mem hx
    exact⟨j,by lia,by rw[List.getD_eq_getElem?_getD,List.getElem?_eq_getElem hj];exact e⟩
theorem call_sortedS:CallR X (.builtin "sorted") (fun xs H Q=>∃ S qs ks,xs=[V.ref S]/\H S=some (setT X.w S qs)/\TupsAt H qs ks/\X.A.handled=none/\(∀ k∈ks,k≠[])/\qs.length<128 /\
  ∀ (l':Addr) (bs:List Addr) (ns:List (List Int)),H l'=none->ns.Perm ks->ns.Pairwise (fun x y=>lexlt y x=false)->TupsAt H bs ns->Q (.ref l') (upd H l' (.lst (bs.map V.ref)))):=by
 intro pins s σ H xs us Q I r h
 obtain⟨S,qs,ks,rfl,hS,ht,hh,hne,hlen,q⟩:=h
 obtain⟨u,rfl,rx⟩:=vals1 r
 cases rx
 obtain⟨⟨es,ep,t,x,eq⟩,_,_⟩:=I.hok S _ hS
 have ez:es.size=qs.length:=by
  have:=congrArg List.length eq
  rw[List.length_map,List.length_map,Array.length_toList]at this
  exact this
 refine Calls.call_function_entry kind_sorted plain_sorted entry_sorted (args_sorted1 _) ?_
 unfold Builtin.«sorted»
 refine wpAny_bind (m:=checkCount "sorted" 1 1 _) (wpAny_pure (wpAny_bind (kdu_collect (setSrc S es ep t) hh x (by rw[ez,sizeLine_eq];lia) fun h' tk acc kp items=>?_)))
 have ea:acc.toList=(ord X.w S es ep).toList.map (·.2):=by
  refine List.ext_getElem? fun j=>?_
  rw[List.getElem?_map,Array.getElem?_toList,Array.getElem?_toList]
  have ol:=(ord_perm (w:=X.w) (a:=S) (es:=es) (ep:=ep)).length_eq
  rw[Array.length_toList,Array.length_toList]at ol
  by_cases hj:j<acc.size
  ·have:=items.2 j acc[j] (Array.getElem?_eq_getElem hj)
   rw[Array.getElem?_eq_getElem hj,this]
  ·rw[Array.getElem?_eq_none (by lia),Array.getElem?_eq_none (by have:=items.1;lia)]
   rfl
 have pq:acc.toList.Perm (qs.map Value.ref):=by
  rw[ea,<- eq]
  exact ord_perm.map _
 obtain⟨as,e1,pa⟩:∃ as:List Addr,acc.toList=as.map Value.ref/\as.Perm qs:=by
  refine⟨acc.toList.map unref,?_,?_⟩
  ·have all:∀ v∈acc.toList,∃ a,v=Value.ref a:=fun v hv=>by
    obtain⟨a,_,e⟩:=List.mem_map.mp (pq.mem_iff.mp hv)
    exact⟨a,e.symm⟩
   clear pq ea items
   generalize acc.toList=l at all
   induction l with
   |nil=>rfl
   |cons v l ih =>
    obtain⟨a,rfl⟩:=all _ (List.mem_cons_self ..)
    rw[List.map_cons,List.map_cons,<- ih fun v hv=>all v (List.mem_cons_of_mem _ hv)]
    rfl
  ·have:=pq.map unref
   rw[List.map_map]at this
   have e:(unref ∘ Value.ref)=id:=rfl
   rw[e,List.map_id]at this
   exact this
 obtain⟨ks0,ht0,pk⟩:=paired_perm pa ht
 have hne0:∀ k∈ks0,k≠[]:=fun k hk=>hne k (pk.mem_iff.mp hk)
 have hlen0:as.length<128:=by rw[pa.length_eq];exact hlen
 rw[e1]
 refine wpAny_bind (wpAny_newList ?_ (by rw[List.length_map,sizeLine_eq];lia))
 have gL:(h'.push (seqObj "list" (as.map Value.ref).toArray 0)).get? h'.objs.size=some (seqObj "list" (as.map Value.ref).toArray 0):=Heap.get?_push_size _ rfl
 have I1:Inv X pins σ H { s with heap:=h',toks:=tk }:=I.kept kp
 have kp2:∀ b u,h'.get? b=some u->(h'.push (seqObj "list" (as.map Value.ref).toArray 0)).get? b=some u:=fun b u e=>Heap.get?_push_of_some _ e
 have zipne:∀ {as:List Addr}{ks:List (List Int)},TupsAt H as ks->(∀ k∈ks,k≠[])->Paired (fun a k=>H a=some (.tup (List.map V.int k))/\k≠[]) as ks:=by
  intro as ks h
  induction h with
  |nil=>intro _;exact .nil
  |cons r _ ih=>intro hn;exact .cons ⟨r,hn _ (List.mem_cons_self ..)⟩ (ih fun k hk=>hn k (List.mem_cons_of_mem _ hk))
 have tT:Paired (fun a k=>TupI (h'.push (seqObj "list" (as.map Value.ref).toArray 0)) (.ref a) k/\k≠[]) as ks0:=Paired.mapP (zipne ht0 hne0) fun a k z=>⟨(tupI_of I1 z.1).to fun b u _ e=>kp2 b u e,z.2⟩
 have memH:=tups_mem ht0
 refine wpAny_bind (wpAny_holding (wpAny_call_entry slot_list_sort ⟨_,gL,rfl⟩ entry_list_sort (sort_new (X:=X) (s:={ s with heap:=h'.push (seqObj "list" (as.map Value.ref).toArray 0),toks:=tk }) gL tT hlen0 fun bs ns g c pb pn pw pt kp3 gg=>⟨_,rfl,?_⟩) (args_list_sort _)))
 refine wpAny_pure ⟨_,rfl,.ref h'.objs.size,_,I1.laid (t':=tk) (a:=h'.objs.size) (o:=.lst (bs.map V.ref)) (fun b u e=>kp3 b u (Nat.ne_of_lt (Heap.lt_size e)) (kp2 b u e)) (Nat.le_refl _) (show ObjOk X.prog X.w _ g _ (.lst (bs.map V.ref))from⟨?_,bs.map Value.ref,c,?_,gg⟩),rfl,q _ bs ns (I1.hok.fresh (Nat.le_refl _)) (pn.trans pk) pw ?_⟩
 ·rw[List.length_map,pb.length_eq,sizeLine_eq];lia
 ·clear pb pt gg
  induction bs with
  |nil=>exact .nil
  |cons b bs ih=>exact .cons rfl ih
 ·have memB:∀ a∈bs,∃ k:List Int,H a=some (.tup (k.map V.int)):=fun a ha=>memH a (pb.mem_iff.mp ha)
  clear pb gg pn pw
  induction pt with
  |nil=>exact .nil
  | @cons a k l1 l2 r1 _ ih =>
   refine .cons ?_ (ih fun a ha=>memB a (List.mem_cons_of_mem _ ha))
   obtain⟨k',e⟩:=memB a (List.mem_cons_self ..)
   rw[e,r1.inj ((tupI_of I1 e).to fun b u _ z=>kp2 b u z)]
end
open PySem PySem.W PyProof.Rows Srt
noncomputable abbrev sEmp:HO:=.set (fun _=>false) 0
noncomputable def SPut(H:Hp)(a:Addr)(y:V)(H':Hp):Prop:=∃ S n k,H a=some (.set S n)/\n+1<scanBound/\y = .int k/\H'=upd H a (.set (fun k'=>S k' || decide (k'=k)) (if S k then n else n+1))
section
variable{X:Cx}{pins:List (Addr×Obj)}{σ:St}{H:Hp}{s:Shared}{a:Addr}{y:V}{u:Value}{A:Around}{E:Value->Shared->Prop}
theorem s_add{H':Hp}{Q:Value->Shared->Prop}(I:Inv X pins σ H s)(g:SPut H a y H')(ry:RelV y u)(h:∀ s',Inv X pins σ H' s'->Q .none s'):wpAny (model X.prog X.w) A (call (.builtin "set.add") [.ref a,u]) Q E s:=by
 obtain⟨S,n,k,e,l,ey,eH⟩:=g
 subst ey eH
 obtain⟨t,rfl⟩:=ry
 have hs:s.heap.SetOf (intKind X.prog X.w) a S n:=I.hok a _ e
 refine call_set_add (knd:=intKind X.prog X.w) (k:=k) (by simp[intKind,Value.isInt]) rfl hs l fun h' sb hs'=>h _ ?_
 have he:∃ q,h'.get? a=some q:=let ⟨q,_,_,_,hq,_⟩:=hs';⟨q,hq⟩
 exact d_write I (by rw[e];exact True.intro) sb he hs'
end
section
variable{prog:Program}{w:World}{A:Around}{R:Result->Shared->Prop}{s:Shared}
theorem compTurn_set (vx target iter : Expr) (ifs : List Expr) (scope : Scope) (pos : Pos) (it : Value) (D : Addr) (env : Env) : compTurn (.SetComp vx [⟨target, iter, ifs, 0⟩] scope pos) 0 it (.ref D) env = (do
      standAt iter.pos; match ← pyNext it with
      | none => pure (.done .next)
      | some v => letOwnedTupleGo target it v; assign target env v; let mut ok := true
                  for c in ifs do if ok then ok ← isTrue c env (eval c env)
                  if ok then (do let vv ← eval vx env; standAt vx.pos; let _ ← call (.builtin "set.add") [.ref D, vv])
                  again (.compLoop (.SetComp vx [⟨target, iter, ifs, 0⟩] scope pos) 0 it (.ref D) env)) := by rfl
theorem start_set{prog:Program}{w:World}{A:Around}{R:Result->Shared->Prop}{s:Shared}{vx target iter ifs scope pos it acc env}(h0:codeAny (model prog w) A (.compLoop (.SetComp vx [⟨target,iter,ifs,0⟩] scope pos) 0 it acc env) R s)
  (h:wpAny (model prog w) A (pyIter it) (fun it' s'=>codeAny (model prog w) A (.compLoop (.SetComp vx [⟨target,iter,ifs,0⟩] scope pos) 0 it' acc env) R s') (notedBy (model prog w) A env fun x s'=>R (.error x) s') s):codeAny (model prog w) A (.compStart (.SetComp vx [⟨target,iter,ifs,0⟩] scope pos) 0 it acc env) R s:=by
 refine codeAny_of_tree ?_;show wpAny _ A ((compStart (.SetComp vx [⟨target,iter,ifs,0⟩] scope pos) 0 it acc env).onRaise (fun x=>do noteFrame x env;standAt theWindowsPlace)) _ _ s
 refine wpAny_notedAt ?_;unfold compStart;show wpAny _ A (ask >>= _) _ _ s;refine wpAny_bind (wpAny_askSetting (wpAny_ite ?_));split
 ·first | exact wpAny_bind (wpAny_pure (wpAny_pure (And.intro rfl h0))) | exact wpAny_pure (And.intro rfl h0)
 ·refine wpAny_bind (wpAny_rule ?_);show wpAny _ _ (standAt iter.pos >>= _) _ _ s;refine wpAny_bind (wpAny_standAt (wpAny_bind (wpAny_mono h (fun it' s' h'=>wpAny_pure (And.intro rfl h')) fun _ _ x=>x)))
theorem new_set{prog:Program}{w:World}{A:Around}{E:Value->Shared->Prop}{s:Shared}{Q:Value->Shared->Prop}(h:Q (.ref s.heap.objs.size) { s with heap:=s.heap.push (SetA.newO (!w.params.followText "set-order")) }):wpAny (model prog w) A (newSet (.type "set")) Q E s:=by
 unfold newSet
 refine wpAny_bind (SetA.setsByText_w ?_)
 dsimp only
 simp only[newObj]
 exact wpAny_bind (wpAny_alloc (wpAny_pure h))
theorem scompLoop{vx target iter:Expr}{ifs:List Expr}{scope:Scope}{pos:Pos}{it:Value}{D:Addr}{env:Env}(I:Nat->Shared->Prop)
  (turn:∀ n s,I n s->wpAny (model prog w) A (pyNext it) (fun r s₁=>match r with
   |none=>R (.ok .next) s₁
   |some v=>wpAny (model prog w) A (letOwnedTupleGo target it v) (fun _ s₁'=>wpAny (model prog w) A (assign target env v) (fun _ s₂ =>
     wpAny (model prog w) A (forIn ifs true fun c r=>if r=true then do let ok <- isTrue c env (eval c env);pure (ForInStep.yield ok)else pure (ForInStep.yield r)) (fun ok s₃ =>
      if ok=true then wpAny (model prog w) A (eval vx env) (fun vv s₅=>wpAny (model prog w) A (call (.builtin "set.add") [.ref D,vv]) (fun _ s₆=>∃ m,m<n/\I m s₆) (fun _ _=>False) s₅) (fun _ _=>False) s₃
      else ∃ m,m<n/\I m s₃) (fun _ _=>False) s₂) (fun _ _=>False) s₁') (fun _ _=>False) s₁) (fun _ _=>False) s)
  (n:Nat) (h:I n s):codeAny (model prog w) A (.compLoop (.SetComp vx [⟨target,iter,ifs,0⟩] scope pos) 0 it (.ref D) env) R s:=by
 refine codeAny_loop rfl I (fun n s hI=>?_) n h
 show wpAny _ A ((compTurn (.SetComp vx [⟨target,iter,ifs,0⟩] scope pos) 0 it (.ref D) env).onRaise (fun x=>do noteFrame x env;theTreesLotGoes x)) _ _ s
 refine wpAny_noted ?_
 rw[compTurn_set];refine wpAny_bind (wpAny_standAt (wpAny_bind (wpAny_mono (turn n s hI) (fun r s₁ h₁=>?_) fun _ _ h'=>h'.elim)))
 cases r with
 |none=>exact wpAny_pure h₁
 |some v =>
  refine wpAny_bind (wpAny_mono h₁ (fun _ s₁' h₁'=>?_) fun _ _ h'=>h'.elim);refine wpAny_bind (wpAny_mono h₁' (fun _ s₂ h₂=>wpAny_bind (wpAny_mono h₂ (fun ok s₃ h₃=>?_) fun _ _ h'=>h'.elim)) fun _ _ h'=>h'.elim)
  cases ok with
  |false=>exact wpAny_pure ⟨rfl,h₃⟩
  |true =>
   refine wpAny_bind (wpAny_bind (wpAny_mono h₃ (fun vv s₅ h₅=>wpAny_bind (wpAny_standAt (wpAny_bind (wpAny_mono h₅ (fun _ s₆ h₆=>wpAny_pure (wpAny_pure ⟨rfl,h₆⟩)) fun _ _ h'=>h'.elim)))) fun _ _ h'=>h'.elim))
end
noncomputable def scompTurns(J:It)(cap:List (Option Nat))(σ:St)(H1:Hp)(D:Addr)(Q:VK)(g:TG)(tc:TT)(tv:TE):Prop:=∃ (n:Nat) (P:Nat->Hp->Prop),P 0 H1 /\
 ∀ i H,i<=n->P i H->(J.stop i H/\Q (.ref D) H) \/
  (i<n/\J.go i H/\∀ x H',J.yld i H x H'->g x (capt cap σ) H' fun σ2 H2=>Kp (capt cap σ) σ2/\tc σ2 H2 fun b H3=>if b=true then tv σ2 H3 fun y H5=>∃ H6,SPut H5 D y H6/\P (i+1) H6 else P (i+1) H3)
noncomputable def tSComp(cap:List (Option Nat))(wi:TI)(g:TG)(tc:TT)(tv:TE):TE:=fun σ H Q=>wi σ H fun J H1=>∀ D,H1 D=none->scompTurns J cap σ (upd H1 D sEmp) D Q g tc tv
section
variable{X:Cx}{vx tg iter:Expr}{ifs:List Expr}{scope:Scope}{pos:Pos}{N':List Str}{cap:List (Option Nat)}{wi:TI}{g:TG}{tc:TT}{tv:TE}
theorem scomp_run(hc:X.calm=true)(S:CompScope N' cap X.N X.env.scope scope)(hi:PI X tg iter wi)(hg:∀ C s H fp,PG (cxIn X N' scope C s H fp) tg g)
  (ht:∀ C s H fp,PF (cxIn X N' scope C s H fp) ifs tc) (he:∀ C s H fp,PE (cxIn X N' scope C s H fp) vx tv)
  {pins:List (Addr×Obj)}{s:Shared}{σ:St}{H:Hp}{Q:VK} (I:Inv X pins σ H s) (h:tSComp cap wi g tc tv σ H Q) :
  wpAny (model X.prog X.w) X.A (eval iter X.env) (fun x s₁=>wpAny (model X.prog X.w) X.A (pyIter x) (fun it s₂=>wpAny (model X.prog X.w) X.A (newSet (.type "set")) (fun acc s₃ =>
   wpAny (model X.prog X.w) X.A (newFunctionEnv scope X.env.globals (closCl X.env.cells scope.names []) [] X.env.qual none .none (some X.env)) (fun cenv s₄ =>
    codeAny (model X.prog X.w) X.A (.compStart (.SetComp vx [⟨tg,iter,ifs,0⟩] scope pos) 0 it acc { cenv with scope:=relabel scope X.env }) (CompEnd X pins σ Q acc cenv.locals) s₄) X.xe s₃) X.xe s₂) X.xe s₁) X.xe s:=by
 refine thn (hi pins s σ H _ I h) fun v s1 h1=>thn h1 fun itv s2 h2=>?_
 obtain⟨it,fp,tn,J,H2,e,I2,T,st2,f2,turns⟩:=h2
 subst e
 obtain⟨n,P,p0,turn⟩:=turns s2.heap.objs.size (I2.hok.fresh (Nat.le_refl _))
 refine new_set (wpAny_newFunctionEnv S.nocell (by intro y hy;simp at hy) (fun h₁ hns₁ hsb₁=>?_) S.kind)
 dsimp only at hns₁ hsb₁ ⊢
 generalize hHp:s2.heap.push (SetA.newO (!X.w.params.followText "set-order"))=Hq at hns₁ hsb₁ ⊢
 have hC:Hq.objs.size=s2.heap.objs.size+1:=by rw[<- hHp,Heap.size_push]
 have hDC:s2.heap.objs.size≠Hq.objs.size:=by rw[hC];exact Nat.ne_of_lt (Nat.lt_succ_self _)
 have hCle:s2.heap.objs.size<=Hq.objs.size:=by rw[hC];exact Nat.le_succ _
 have old:∀ b o,s2.heap.get? b=some o->h₁.get? b=some o:=fun b o e =>
  hsb₁.extBut b o (by rw[hC];exact Nat.ne_of_lt (Nat.lt_succ_of_lt (Heap.lt_size e))) (Heap.get?_push_of_some _ (hHp▸Heap.get?_push_of_some _ e))
 have hacc:h₁.get? s2.heap.objs.size=some (SetA.newO (!X.w.params.followText "set-order")):=hsb₁.extBut _ _ hDC (Heap.get?_push_of_some _ (hHp▸Heap.get?_push_size _ rfl))
 have hfo:∀ b∈fp,∃ o,s2.heap.get? b=some o:=fun b hb=>let ⟨o,e,_⟩:=T.obj _ _ st2 b hb;⟨o,e⟩
 have st4:tn 0 h₁:=T.keep _ _ _ st2 fun b _ o e=>old b o e
 let D:Addr:=s2.heap.objs.size
 let C:Addr:=Hq.objs.size
 let Y:Cx:=cxIn X N' scope C s2 H2 fp
 have hDfp:D∉fp:=fun hb=>by
  obtain⟨o,e⟩:=hfo D hb
  exact Nat.lt_irrefl _ (Heap.lt_size e)
 have stat:∀ {H':Hp},(∀ b∈fp,H' b=none)->∀ b∈fp,FpOk Y pins H' b:=fun {H'} hn b hb=>by
  obtain⟨f0,f1,fx,f3,f4,f5⟩:=f2 b hb
  obtain⟨o,e⟩:=hfo b hb
  refine⟨hn b hb,fun z=>?_,fun z=>?_,.inl hb,fun x c e=>f4 x c (closCl_sound _ _ (S.clos I2) (fun y c e=>by simp at e) x c e),f5⟩
  ·have h1:=Nat.lt_of_lt_of_le (Heap.lt_size e) hCle
   have z:b=Hq.objs.size:=z
   rw[z]at h1
   exact Nat.lt_irrefl _ h1
  ·rcases List.mem_cons.mp (I2.stkSub b z)with e | e
   ·exact f1 e
   ·exact fx e
 have loop:∀ s₃:Shared,s₃ = { s2 with heap:=h₁,toks:=s2.toks+([]:List (Str×Value)).length } ->
   codeAny (model X.prog X.w) X.A (.compLoop (.SetComp vx [⟨tg,iter,ifs,0⟩] scope pos) 0 (.ref it) (.ref s2.heap.objs.size) (compEnvC scope (closCl X.env.cells scope.names []) Hq.objs.size X.env))
    (CompEnd X pins σ Q (.ref s2.heap.objs.size) Hq.objs.size) s₃:=by
  rintro s₃ rfl
  have inF:∀ {pl:List (Addr×Obj)}{p:Addr×Obj},p∈pl->p∈Y.pn++(pins++pl):=fun {pl p} hp=>List.mem_append_right _ (List.mem_append_right _ hp)
  refine scompLoop (fun m s'=>∃ i H',m=n-i/\i<=n/\Inv Y pins (capt cap σ) H' s'/\tn i s'.heap/\(∀ b∈fp,H' b=none)/\P i H') ?_ n ?_
  ·rintro m s3 ⟨i,H3,rfl,hin,I3,st3,fr3,p3⟩
   rcases turn i H3 hin p3 with⟨stop,q⟩ |⟨hlt,go,step⟩
   ·refine thn (T.done Y rfl rfl rfl hc i _ s3 _ H3 (fun _ _=>False) I3 (stat fr3) st3 stop) fun r s4 ⟨hr,I4⟩=>?_
    subst hr
    have IX:Inv X pins σ H3 s4:=I2.call' (ch:=fp) I4.os I4.base I4.hok I4.bare fun b hb=>by
     obtain⟨f0,f1,fx,f3,f4,f5⟩:=f2 b hb
     exact⟨f3,f1,f4,f5⟩
    obtain⟨m',hm',_⟩:=I4.loc
    exact⟨.ref D,_,IX,rfl,q,⟨m',hm'⟩,I2.fpOk hCle I4.free⟩
   ·refine thn (T.item Y rfl rfl rfl hc i _ s3 _ H3 (fun _ _=>False) I3 (stat fr3) st3 go) fun r s4 ⟨u,hr,h4⟩=>?_
    subst hr
    refine thn h4 fun _ s5 ⟨x,H5,I5,r5,y5,st5,fr5⟩=>?_
    have I5':=I5.pinned (stat fr5) (T.obj _ _ st5)
    refine thn (hg C s2 H2 fp _ s5 _ H5 x u _ I5' r5 (step x H5 y5)) fun _ s6 ⟨σ6,H6,I6,kp,q6⟩=>?_
    refine thn (ht C s2 H2 fp _ s6 σ6 H6 _ I6 q6) fun b s7 ⟨H7,I7,q7⟩=>?_
    cases b with
    |false =>
     rw[if_neg Bool.false_ne_true]at q7 ⊢
     refine⟨n-(i+1),Nat.sub_succ_lt_self n i hlt,i+1,H7,rfl,hlt,I7.unpinned.weak kp.length kp.get,?_,fun b hb=>?_,q7⟩
     ·exact T.keep _ _ _ st5 fun b hb o e=>(I7.pin (b,o) (inF (mem_pinsAt hb e))).1
     ·obtain⟨o,e,d⟩:=T.obj _ _ st5 b hb
      exact(I7.pin (b,o) (inF (mem_pinsAt hb e))).2.1
    |true =>
     rw[if_pos rfl]at q7 ⊢
     refine thn (he C s2 H2 fp _ s7 σ6 H7 _ I7 q7) fun yv s9 ⟨y,H9,I9,r9,H10,dp,q9⟩=>?_
     refine s_add (X:=Y) I9 dp r9 fun s10 I10=>?_
     refine⟨n-(i+1),Nat.sub_succ_lt_self n i hlt,i+1,H10,rfl,hlt,I10.unpinned.weak kp.length kp.get,?_,fun b hb=>?_,q9⟩
     ·exact T.keep _ _ _ st5 fun b hb o e=>(I10.pin (b,o) (inF (mem_pinsAt hb e))).1
     ·obtain⟨o,e,d⟩:=T.obj _ _ st5 b hb
      exact(I10.pin (b,o) (inF (mem_pinsAt hb e))).2.1
  ·have I4:=cxIn_inv (s4:={ s2 with heap:=h₁,toks:=s2.toks+([]:List (Str×Value)).length }) S I2 hCle f2 hfo rfl rfl old hns₁ hacc (Nat.le_refl _) hDC fun v z=>by cases z
   obtain⟨_,pD1,pD2,pD3,_⟩:=I4.pin (D,(SetA.newO (!X.w.params.followText "set-order"))) (List.mem_append_right _ (List.mem_append_right _ (List.mem_singleton.mpr rfl)))
   have I5:Inv Y pins (capt cap σ) H2 { s2 with heap:=h₁,toks:=s2.toks+([]:List (Str×Value)).length }:=I4.pins_of fun p hp=>I4.pin p (List.mem_append_right _ (List.mem_append_left _ hp))
   have fD:FpOk Y pins H2 D:=⟨pD1,pD2,pD3,.inr (Nat.le_refl _),fun x c e z=>by
    obtain⟨v,q⟩:=I2.cell x c (closCl_sound _ _ (S.clos I2) (fun y c e=>by simp at e) x c e)
    have h1:=q.lt
    rw[show c=s2.heap.objs.size from z]at h1
    exact Nat.lt_irrefl _ h1,fun p hp z=>by
    have h1:=Heap.lt_size (I2.pin p hp).1
    rw[show p.1=s2.heap.objs.size from z]at h1
    exact Nat.lt_irrefl _ h1⟩
   have new:ObjOk X.prog X.w (upd H2 D sEmp) h₁ D sEmp:=⟨_,#[],0,_,hacc,⟨rfl,rfl,rfl⟩,rfl,(fun e he=>by simp at he),fun k=>by simp,by decide,rfl,rfl⟩
   refine⟨0,upd H2 D sEmp,rfl,Nat.zero_le _,I5.track fD new,st4,fun b hb=>?_,p0⟩
   rw[upd_ne (fun z=>hDfp (by rw[<- z];exact hb))]
   exact(f2 b hb).1
 exact start_set (loop _ rfl) (T.self X.A 0 _ _ _ st4 (loop _ rfl))
theorem pe_scomp(hc:X.calm=true)(S:CompScope N' cap X.N X.env.scope scope)(hi:PI X tg iter wi)(hg:∀ C s H fp,PG (cxIn X N' scope C s H fp) tg g)
  (ht:∀ C s H fp,PF (cxIn X N' scope C s H fp) ifs tc) (he:∀ C s H fp,PE (cxIn X N' scope C s H fp) vx tv)
  (hs:∀ x,foldedSetIterable iter X.env x=pure x:=by intro _;rfl):PE X (.SetComp vx [⟨tg,iter,ifs,0⟩] scope pos) (tSComp cap wi g tc tv):=by
 intro pins s σ H Q I h
 rw[arm_eval_SetComp]
 refine wpAny_comprehension_free (use:=none) rfl hs (closureFor_cells (S.clos I)) S.kind S.loc (thn (scomp_run (pos:=pos) hc S hi hg ht he I h) fun x s1 h1=>thn h1 fun it s2 h2=>thn h2 fun acc s3 h3=>thn h3 fun cenv s4 h4=>?_)
 refine codeAny_mono h4 fun r s' hr=>?_
 cases r with
 |error x=>exact hr.elim
 |ok f =>
  obtain⟨v,H',I',rv,q,⟨m,hn⟩,f0,f1,f2,f3,f4,f5⟩:=hr
  refine⟨m,hn,fun h' sb=>⟨v,H',I'.turned (it:=cenv.locals) (t':=s'.toks) (fun b o hb e=>(sb.2 b hb).trans e) f0 f1 f3 f4 f5,rv,q⟩⟩
end
open PySem PySem.W PyProof.Rows Srt
noncomputable def nubF(σ:List Int)(ns:List Int):List Int:=ns.foldl step_dedup σ
noncomputable abbrev nub(ns:List Int):List Int:=nubF [] ns
theorem step_nub(σ:List Int)(v:Int):step_dedup σ v=if v∈σ then σ else σ++[v]:=by
 unfold step_dedup
 by_cases h:v∈σ
 ·rw[if_pos h,if_pos (List.any_eq_true.mpr ⟨v,h,by simp⟩)]
 ·rw[if_neg h,if_neg fun z=>by
   obtain⟨x,hx,e⟩:=List.any_eq_true.mp z
   rw[show v=x by simpa using(beq_iff_eq.mp e).symm]at h
   exact h hx]
theorem nubF_snoc{σ ns:List Int}{v:Int}:nubF σ (ns++[v])=if v∈nubF σ ns then nubF σ ns else nubF σ ns++[v]:=by
 unfold nubF
 rw[List.foldl_append,List.foldl_cons,List.foldl_nil,step_nub]
theorem nubF_spec:∀ (ns σ:List Int),σ.Nodup->(nubF σ ns).Nodup/\(∀ x,x∈nubF σ ns↔x∈σ\/x∈ns)/\(nubF σ ns).length<=σ.length+ns.length/\((nubF σ ns).length=σ.length+ns.length↔(σ++ns).Nodup)
 |[],σ,h=>⟨h,fun x=>⟨.inl,fun z=>z.elim id (fun y=>nomatch y)⟩,Nat.le_refl _,⟨fun _=>by rw[List.append_nil];exact h,fun _=>rfl⟩⟩
 |v :: ns,σ,h=>by
  show(nubF (step_dedup σ v) ns).Nodup/\_
  have e:nubF σ (v :: ns)=nubF (step_dedup σ v) ns:=rfl
  rw[e,step_nub]
  by_cases hv:v∈σ
  ·rw[if_pos hv]
   obtain⟨i1,i2,i3,i4⟩:=nubF_spec ns σ h
   refine⟨i1,fun x=>?_,by rw[List.length_cons];lia,?_⟩
   ·rw[i2 x,List.mem_cons]
    exact⟨fun z=>z.elim .inl (fun y=>.inr (.inr y)),fun z=>z.elim .inl (fun y=>y.elim (fun q=>.inl (q▸hv)) .inr)⟩
   ·rw[List.length_cons]
    refine⟨fun z=>by lia,fun z=>?_⟩
    exact absurd rfl ((List.nodup_append.mp z).2.2 v hv v (List.mem_cons_self ..))
  ·rw[if_neg hv]
   have h':(σ++[v]).Nodup:=List.nodup_append.mpr ⟨h,by simp,fun a ha b hb=>by
    rw[List.mem_singleton.mp hb]
    exact fun z=>hv (z▸ha)⟩
   obtain⟨i1,i2,i3,i4⟩:=nubF_spec ns (σ++[v]) h'
   rw[List.length_append,List.length_singleton]at i3 i4
   refine⟨i1,fun x=>?_,by rw[List.length_cons];lia,?_⟩
   ·rw[i2 x,List.mem_append,List.mem_singleton,List.mem_cons,or_assoc]
   ·rw[List.length_cons,show σ++v :: ns=σ++[v]++ns by simp,<- i4]
    lia
theorem nub_len(ns:List Int):(nub ns).length=ns.length↔ns.Nodup:=by
 have:=(nubF_spec ns [] List.nodup_nil).2.2.2
 simpa using this
theorem nub_le(ns:List Int):(nub ns).length<=ns.length:=by
 have:=(nubF_spec ns [] List.nodup_nil).2.2.1
 simpa using this
noncomputable def setI(ns:List Int):HO:=.set (fun k=>decide (k∈nub ns)) (nub ns).length
theorem setI_snoc(ns:List Int)(v:Int){S:Int->Bool}{n:Nat}(e1:S=fun k=>decide (k∈nub ns))(e2:n=(nub ns).length):HO.set (fun k'=>S k' || decide (k'=v)) (if S v then n else n+1)=setI (ns++[v]):=by
 subst e1 e2
 unfold setI nub
 rw[nubF_snoc]
 by_cases h:v∈nubF [] ns
 ·rw[if_pos h,if_pos (by simpa using h)]
  congr 1
  funext k
  by_cases z:k=v
  ·subst z;simp[h]
  ·simp[z]
 ·rw[if_neg h,if_neg (by simpa using h),List.length_append,List.length_singleton]
  congr 1
  funext k
  by_cases z:k=v
  ·subst z;simp
  ·simp[z]
theorem sput_I{H:Hp}{D:Addr}{ns:List Int}{v:Int}(h:H D=some (setI ns))(l:ns.length+1<scanBound):SPut H D (.int v) (upd H D (setI (ns++[v]))) :=
 ⟨_,_,v,h,Nat.lt_of_le_of_lt (Nat.add_le_add_right (nub_le ns) 1) l,rfl,by rw[setI_snoc ns v rfl rfl]⟩
section
variable{X:Cx}
theorem call_lenS:CallR X (.builtin "len") (fun xs H Q=>∃ a ns,xs=[V.ref a]/\H a=some (setI ns)/\Q (.int (nub ns).length) H):=by
 intro pins s σ H xs us Q I r h
 obtain⟨a,ns,rfl,ha,q⟩:=h
 obtain⟨u,rfl,ru⟩:=vals1 r
 cases ru
 have x:s.heap.SetOf (intKind X.prog X.w) a _ _:=I.hok a _ ha
 obtain⟨o,es,ep,t,ho,hex,hd,_,_,hb,hf,hn⟩:=x
 refine call_len_set ho hex hd hf (by unfold scanBound at hb;lia) ?_
 exact⟨.int (nub ns).length,H,I.tok _,⟨_,by rw[hn]⟩,q⟩
theorem call_setI:CallR X (.type "set") (fun xs H Q=>∃ (l:Addr) (ns:List Int),xs=[V.ref l]/\SqL X.K H l (ns.map V.int)/\X.A.handled=none/\ns.length+1<scanBound/\∀ S:Addr,H S=none->Q (.ref S) (upd H S (setI ns))):=by
 intro pins s σ H xs us Q I r h
 obtain⟨l,ns,rfl,hq,hh,hl,q⟩:=h
 obtain⟨u,rfl,rx⟩:=vals1 r
 cases rx
 obtain⟨its,r',pl,hz⟩:=I.list hq
 have li:=r'.length
 rw[List.length_map]at li
 refine call_set_list hh pl.isList (intsAre_of r') (by rw[List.size_toArray];lia) fun h' tk hS kp=>?_
 have kp':∀ b u,s.heap.get? b=some u->h'.get? b=some u:=fun b u e=>kp b u (Heap.lt_size e) e
 have en:firstMet (fun i=>ns.getD i 0) its.toArray.size=nub ns:=by
  unfold firstMet nub nubF
  congr 1
  rw[List.size_toArray,<- li]
  apply List.ext_getElem
  ·simp
  ·intro i h1 h2
   simp[List.getD_eq_getElem?_getD,List.getElem?_eq_getElem h2]
 rw[en]at hS
 have eS:(fun k'=>(nub ns).any (· == k'))=fun k=>decide (k∈nub ns):=by
  funext k
  rw[Bool.eq_iff_iff,List.any_eq_true,decide_eq_true_eq]
  exact⟨fun⟨x,hx,e⟩=>by rw[<- beq_iff_eq.mp e];exact hx,fun h=>⟨k,h,by simp⟩⟩
 rw[eS]at hS
 exact⟨.ref s.heap.objs.size,_,I.laid (t':=tk) (a:=s.heap.objs.size) (o:=setI ns) kp' (Nat.le_refl _) hS,rfl,q _ (I.hok.fresh (Nat.le_refl _))⟩
end
open PySem PySem.W PyProof.Rows
open PySem PySem.W PyProof.Rows
theorem pe_bmK{X:Cx}(K:PySem.W.Frag)(eK:X.K=K){T id:String}{name:Str}{r:V->List V->Hp->VK->Prop}{o e:Expr}{es:List Expr}{to:TE}{t:TA}{apos cpos:Pos}(pa:PlainAttrs T)(slot:Slot T name id)(hty:typeOf (.builtin id)=pure (.type "method_descriptor"))(hm:MtR X id r)(ho:PE X o to)(ha:PA X (e :: es) t)
  (hbase:attributeBase o name X.env (eval o X.env)=eval o X.env:=by rfl)
  (hfew:((backTo cpos (starEach (e :: es) X.env)).all (fun x=>!x.1) && (backToKw cpos (keywordEach [] X.env)).all (fun x=>x.1.isSome) && decide ((e :: es).length+([]:List Keyword).length+(if([]:List Keyword).isEmpty then 0 else 1)<30))=true:=by rfl)
  (hline:(apos.endLine == cpos.line)=true:=by rfl) (hs:starEach (e :: es) X.env=(false,eval e X.env) :: starEach es X.env:=by rfl) (hplain:(backTo cpos (starEach es X.env)).any (·.1)=false:=by rfl):PE X (.Call (.Attribute o name apos) (e :: es) [] cpos) (tBM K T r to t):=by
 subst eK
 exact pe_bm pa slot hty hm ho ha hbase hfew hline hs hplain
theorem call_len_seqK{X:Cx}(K:PySem.W.Frag)(e:X.K=K):CallR X (.builtin "len") (fun xs H Q=>∃ p ys,xs=[.ref p]/\(SqL K H p ys\/SqT K H p ys)/\Q (.int ys.length) H):=e▸call_len_seq
theorem map_eraseI:∀ (l:List Int) (k:Nat),(l.map V.int).eraseIdx k=(l.eraseIdx k).map V.int
 |[],k=>by cases k <;> rfl
 |x :: r,0=>rfl
 |x :: r,k+1=>by
  show V.int x :: (r.map V.int).eraseIdx k=V.int x :: (r.eraseIdx k).map V.int
  rw[map_eraseI r k]
end L2
namespace K07
open PySem L2 PyProof.Rows
theorem upto_nodup(n:Nat):(upto n).Nodup:=by
 unfold upto List.Nodup
 rw[List.pairwise_map]
 exact(List.nodup_range (n:=n)).imp fun {a b} ne e=>ne (by lia)
structure PostOk(n:Nat)(ps:List Int):Prop where
 nd:ps.Nodup
 rg:∀ x∈ps,0<=x/\x<n
 lo:1<=ps.length
 hi:ps.length<=8
noncomputable def spPo:Sp:=fun vs H Q _=>∃ (p:Addr) (n N:Nat) (mo:Int),vs=[.ref p,.int n,.int mo]/\BoxAt H p N/\N+100<2 ^ 40/\2<=n/\n<=30/\2<=mo/\mo<=6 /\
 ∀ (l:Addr) (ps:List Int) (H':Hp),H l=none->H' l=some (.lst (ps.map V.int))->l≠p->PostOk n ps->BoxAt H' p (N+20)->Kept p H H'->Q (.ref l) H'
noncomputable def spWP:Sp:=fun vs H Q _=>∃ (p:Addr) (N:Nat),vs=[.ref p]/\BoxAt H p N/\N+2000<2 ^ 40 /\
 ∀ (r t l:Addr) (n:Nat) (ties:List Tie) (ps:List Int) (H':Hp),H r=none->H' r=some (.tup [.ref t,.ref l])->2<=n->n<=30->WebAt H' t n ties->(∀ x∈ties,TieOk n x)->ties.Pairwise tieLt->H' l=some (.lst (ps.map V.int))->l≠p->PostOk n ps->BoxAt H' p (N+1500)->Kept p H H'->Q (.ref r) H'
section
variable{P:Program}{w:World}{K:PySem.W.Frag}{mg:Str->Option Value}{base:Heap}
noncomputable abbrev nPo:List Str:=["_law_box_here","_law_many_here","_law_most","_law_some","_law_found"]
theorem scPo:FnScope nPo ["_law_box_here","_law_many_here","_law_most"] (defScope sPosts):=⟨rfl,rfl,rfl,by decide +kernel,rfl,by decide +kernel,by decide +kernel⟩
theorem csPo:CompScope ["_law_turn","_law_box_here","_law_some"] [none,some 0,some 3] nPo (defScope sPosts) (scO [(".0",.local),("_law_turn",.local),("_law_take",.globalImplicit),("len",.globalImplicit),("_law_box_here",.free),("_law_some",.free)]):=⟨rfl,by decide +kernel,by decide +kernel,by decide +kernel,rfl,capB_ok (by decide +kernel)⟩
theorem ndPo:(["_law_turn","_law_box_here","_law_some"]:List Str).Nodup:=by decide +kernel
theorem ok_po{f g:Addr}{fd gd:FuncData}(F:Fun K "_law_posts" "_law_posts" sPosts f fd)(T:Txt mg)(G:TakeF P w K mg base g gd):FnOk P w K mg base CX0 2 f fd ["_law_box_here","_law_many_here","_law_most"] spPo:=by
 refine F.ok scPo (fun vs H Q E h=>?_) (fun cdv A outer s H vs Q E hr h=>?_)
 ·obtain⟨p,n,N,mo,rfl,_⟩:=h
  rfl
 ·obtain⟨p,n,N,mo,rfl,B,hN,n1,n30,mo0,mo6,q⟩:=h
  refine⟨_,pss_cons (ps_set (i:=3) scPo.nd rfl (Or.inr rfl) (pe_callTy (call_list_rng rfl) (by rfl) T.list boot_list (@pa_call _ _ _ _ _ _ _ _ (pe_callTy (call_range _) (by rfl) T.range boot_range (@pa_nam _ _ _ _ _ _ (pv 1) pa_nil)) pa_nil)))
   (pss_cons (ps_comp (i:=4) scPo.nd rfl (Or.inl rfl) rfl csPo (pi_range1 rfl T.range (@pa_call _ _ _ _ _ _ _ _ (pe_callB (call_min2 rfl) (by rfl) T.min boot_min (@pa_nam _ _ _ _ _ _ (pv 1) (@pa_bin _ _ _ _ _ _ _ _ (pe_op op_add pe_int (pe_call G.ok hr rfl G.mg G.kp G.bd .nil pass0 (@pa_nam _ _ _ _ _ _ (pv 0) (@pa_bin _ _ _ _ _ _ _ _ (pe_op op_sub (pv 2) pe_int) pa_nil)))) pa_nil))) pa_nil))
    (fun C s H fp=>pg_name (i:=0) ndPo rfl (Or.inl rfl)) (fun C s H fp=>pf_nil)
    (fun C s H fp=>pe_bmK K rfl PySem.F.plainAttrs_list PySem.F.slot_list_pop PySem.F.type_list_pop mt_popAt (pv 2) (@pa_call _ _ _ _ _ _ _ _ (pe_call G.ok hr rfl G.mg G.kp G.bd .nil pass0 (@pa_nam _ _ _ _ _ _ (pv 1) (@pa_call _ _ _ _ _ _ _ _ (pe_callB (call_len_seqK K rfl) (by rfl) T.len PySem.boot_len (@pa_nam _ _ _ _ _ _ (pv 2) pa_nil)) pa_nil))) pa_nil)))
   (pss_one (ps_ret (pe_callB call_sortedI (by rfl) T.sorted boot_sorted (@pa_nam _ _ _ _ _ _ (pv 4) pa_nil))))),?_⟩
  refine⟨_,rfl,_,rfl,fun r hr=>⟨r,_,rfl,upd_same,by lia,by lia,fun so hso=>?_⟩⟩
  rw[show((n:Int)).toNat=n by lia]
  have so0:H so=none:=(Same.new (o:=.rng 0 (n:Int)) hr).free hso
  have sop:so≠p:=B.ne so0
  have s1:=(Same.new (o:=.rng 0 (n:Int)) hr).trans (Same.new (o:=.lst ((upto n).map V.int)) hso)
  have gs:(upd (upd H r (.rng 0 (n:Int))) so (.lst ((upto n).map V.int))) so=some (.lst ((upto n).map V.int)):=upd_same
  generalize (upd (upd H r (.rng 0 (n:Int))) so (.lst ((upto n).map V.int)))=H1 at s1 gs
  have B1:=B.same s1
  refine⟨_,rfl,_,rfl,_,rfl,_,_,rfl,rfl,p,_,N,rfl,B1,by lia,by lia,by lia,fun z H2 z0 z1 B2 k2=>?_⟩
  refine⟨_,_,rfl,rfl,_,_,rfl,_,rfl,by split <;> lia,by split <;> lia,?_⟩
  obtain⟨ct,ec,c1,c2,c3⟩:∃ ct:Nat,(if 2+z <(n:Int)then 2+z else(n:Int)).toNat=ct/\ct<=n/\ct<=6/\2<=ct:=⟨_,rfl,by split <;> lia,by split <;> lia,by split <;> lia⟩
  rw[ec]
  have k1:Kept p H H1:=fun b o _ e=>s1 b o e
  refine comp_range (lo:=0) (n:=ct) (fun j ys G2=>BoxAt G2 p (N+1+j)/\Kept p H G2/\∃ (rs qs:List Int),G2 so=some (.lst (rs.map V.int))/\ys=qs.map V.int/\(qs++rs).Perm (upto n)/\qs.length=j) (by rw[sizeLine_eq];omega)
   ⟨B2,k1.trans k2,upto n,[],k2 _ _ sop gs,rfl,.refl _,rfl⟩ ?_ ?_
  ·rintro j ys G2 hj ⟨B3,k3,rs,qs,gs3,rfl,pm,ql⟩
   have rl:qs.length+rs.length=n:=by
    have:=pm.length_eq
    rw[List.length_append,upto_length]at this
    exact this
   refine⟨⟨rfl,rfl,trivial⟩,tTru_if ⟨_,rfl,.inl ⟨rfl,_,SqL.of gs3⟩,_,rfl,_,rfl,so,_,rfl,.inl (SqL.of gs3),p,_,_,rfl,B3,by lia,by rw[List.length_map];lia,by rw[List.length_map];lia,fun y G3 y0 y1 B4 k4=>?_⟩⟩
   rw[List.length_map]at y1
   obtain⟨k,rfl⟩:∃ k:Nat,y=(k:Int):=⟨y.toNat,by lia⟩
   have kl:k<rs.length:=by omega
   have gs4:=k4 _ _ sop gs3
   refine⟨so,rs.map V.int,(k:Int),k,V.int rs[k],rfl,rfl,gs4,by lia,by lia,?_,by rw[List.getElem?_map,List.getElem?_eq_getElem kl];rfl,?_⟩
   ·unfold seqIndex?
    rw[List.length_map]
    simp
    omega
   rw[map_eraseI]
   refine⟨(B4.put sop).mono (by lia),(k3.trans k4).put so0,rs.eraseIdx k,qs++[rs[k]],upd_same,by rw[List.map_append];rfl,?_,by rw[List.length_append,ql];rfl⟩
   rw[List.append_assoc]
   exact(List.Perm.append_left _ (SetA.cut_perm k rs kl)).trans pm
  ·rintro ys G2 yl ⟨B3,k3,rs,qs,gs3,rfl,pm,ql⟩ D hD
   have sD:=Same.new (o:=.lst (qs.map V.int)) hD
   refine⟨_,rfl,D,qs,rfl,SqL.of upd_same,by omega,fun l ms hl pq _=>?_⟩
   have hl2:=sD.free hl
   have sL:=Same.new (o:=.lst (ms.map V.int)) hl
   refine q l ms _ (k3.free B3 hl2) upd_same (B3.ne hl2) ?_ (((B3.same sD).same sL).mono (by lia)) (k3.trans (fun b o _ e=>sL b o (sD b o e)))
   have nd:=upto_nodup n
   have ndq:(qs++rs).Nodup:=pm.nodup_iff.mpr nd
   refine⟨pq.nodup_iff.mpr (List.nodup_append.mp ndq).1,fun x hx=>?_,by rw[pq.length_eq];lia,by rw[pq.length_eq];lia⟩
   have hx:x∈upto n:=pm.mem_iff.mp (List.mem_append_left _ (pq.mem_iff.mp hx))
   unfold upto at hx
   obtain⟨i,hi,e⟩:=List.mem_map.mp hx
   have:=List.mem_range.mp hi
   lia
noncomputable abbrev nWP:List Str:=["_law_box_here","_law_web_here"]
theorem scWP:FnScope nWP ["_law_box_here"] (defScope sWithPosts):=⟨rfl,rfl,rfl,by decide +kernel,rfl,by decide +kernel,by decide +kernel⟩
theorem ok_wp{f g1 g2 g3:Addr}{fd d1 d2 d3:FuncData}(F:Fun K "_law_with_posts" "_law_with_posts" sWithPosts f fd)(GM:CalF P w K mg base 2 "_law_many" ["_law_box_here","_law_least","_law_few","_law_most"] spMany g1 d1)(GW:CalF P w K mg base 3 "_law_web" ["_law_box_here","_law_many_here"] spWeb g2 d2)(GP:CalF P w K mg base 2 "_law_posts" ["_law_box_here","_law_many_here","_law_most"] spPo g3 d3):FnOk P w K mg base CX0 4 f fd ["_law_box_here"] spWP:=by
 refine F.ok scWP (fun vs H Q E h=>?_) (fun cdv A outer s H vs Q E hr h=>?_)
 ·obtain⟨p,N,rfl,_⟩:=h
  rfl
 ·obtain⟨p,N,rfl,B,hN,q⟩:=h
  have hr2:Room 2 _:=hr.mono (by decide)
  refine⟨_,pss_cons (ps_set (i:=1) scWP.nd rfl (Or.inl rfl) (pe_call GW.ok hr rfl GW.mg GW.kp GW.bd .nil pass0 (@pa_nam _ _ _ _ _ _ (pv 0) (@pa_call _ _ _ _ _ _ _ _ (pe_call GM.ok hr2 rfl GM.mg GM.kp GM.bd .nil pass0 (@pa_nam _ _ _ _ _ _ (pv 0) (@pa_cst _ _ _ _ _ _ _ pe_int (@pa_cst _ _ _ _ _ _ _ pe_int (@pa_cst _ _ _ _ _ _ _ pe_int pa_nil))))) pa_nil))))
   (pss_one (ps_ret (@pe_tup _ _ _ _ _ (@pa_nam _ _ _ _ _ _ (pv 1) (@pa_call _ _ _ _ _ _ _ _ (pe_call GP.ok hr2 rfl GP.mg GP.kp GP.bd .nil pass0 (@pa_nam _ _ _ _ _ _ (pv 0) (@pa_sub _ _ _ _ _ _ _ (@pe_ix _ _ _ _ _ _ _ ix_tup (pv 1) pe_int (fun _ _=>rfl)) (@pa_cst _ _ _ _ _ _ _ pe_int pa_nil)))) pa_nil))))),?_⟩
  refine⟨_,rfl,_,rfl,p,2,7,30,N,rfl,B,by lia,by decide,by decide,by decide,by decide,fun z H2 hz B2 k2=>?_⟩
  obtain⟨n,rfl⟩:∃ n:Nat,z=(n:Int):=⟨z.toNat,by lia⟩
  refine⟨p,n,_,rfl,B2,by lia,by omega,by omega,fun t ties H3 ht W3 ok pw B3 k3=>?_⟩
  obtain⟨⟨ts,tas,h1,h2,h3⟩,len⟩:=id W3
  refine⟨_,rfl,_,rfl,_,rfl,t,_,_,_,rfl,rfl,SqT.of h1,rfl,?_⟩
  refine⟨p,n,_,6,rfl,B3,by lia,by omega,by omega,by decide,by decide,fun l ps H4 hl gl lp po B4 k4=>?_⟩
  refine⟨(by show 2<=sizeLine;decide),fun r hr=>?_⟩
  have sr:=Same.new (o:=.tup [.ref t,.ref l]) hr
  exact q r t l n ties ps _ ((k2.trans (k3.trans k4)).free B4 hr) upd_same (by omega) (by omega) ((W3.kept B3 k4).same sr) ok pw (sr _ _ gl) lp po ((B4.same sr).mono (by lia)) (k2.trans (k3.trans (k4.trans (fun b o _ e=>sr b o e))))
end
end K07
namespace L2
open PySem PyProof.Rows
theorem star_scomp{e:Expr}{gs:List Comprehension}{sc:Scope}{pos:Pos}{rest:List Expr}{env:Env}:starEach (.SetComp e gs sc pos :: rest) env=(false,eval (.SetComp e gs sc pos) env) :: starEach rest env:=rfl
theorem pa_scomp{X:Cx}{es:List Expr}{pos:Pos}{te:TE}{t:TA}{e:Expr}{gs:List Comprehension}{sc:Scope}(ha:PE X (.SetComp e gs sc pos) te)(hr:PA X es t):PA X (.SetComp e gs sc pos :: es) (tCons te t):=pa_cons ha hr (hs:=star_scomp)
section
variable{K:PySem.W.Frag}{a D:Addr}{xs:List V}{b:Bool}{g:TG}{tc:TT}{tv:TE}{cap:List (Option Nat)}{σ:St}{H1:Hp}{Q:VK}
theorem scomp_seq(P:Nat->Hp->Prop)(p0:P 0 H1)(hl:∀ i H,i<=xs.length->P i H->SqB b K H a xs)
  (hs:∀ i x H,xs[i]?=some x->P i H->g x (capt cap σ) H fun σ2 H2=>Kp (capt cap σ) σ2/\tc σ2 H2 fun b H3=>if b=true then tv σ2 H3 fun y H5=>∃ H6,SPut H5 D y H6/\P (i+1) H6 else P (i+1) H3)
  (hd:∀ H,P xs.length H->Q (.ref D) H):scompTurns (ItB b K a) cap σ H1 D Q g tc tv:=by
 refine⟨xs.length,P,p0,fun i H il p=>?_⟩
 have q:=hl i H il p
 by_cases hlt:i<xs.length
 ·cases b
  all_goals
   refine .inr ⟨hlt,⟨xs,xs[i],q,by simp[hlt]⟩,fun x H' y=>?_⟩
   obtain⟨e,y⟩:=y
   subst e
   exact hs i x _ (y xs q) p
 ·have e:i=xs.length:=by lia
  subst e
  cases b
  all_goals exact .inl ⟨⟨xs,q,Nat.le_refl _⟩,hd H p⟩
end
end L2
namespace K07
open PySem L2 PyProof.Rows
structure Txt3(mg:Str->Option Value):Prop where
 set:mg "set" = none
noncomputable def parted(hs ps:List Int):Bool:=decide ((nub (ps.map (hAt hs))).length=ps.length)
noncomputable def spIP(K:PySem.W.Frag):Sp:=fun vs H Q _=>∃ (t q c:Addr) (n:Nat) (ties:List Tie) (b:Bool) (ps:List Int) (ks:List (List Int)),vs=[.ref t,.ref q,.ref c]/\WebAt H t n ties/\(∀ x∈ties,TieOk n x)/\n<=1000 /\
 SqB b K H q (ps.map V.int)/\(∀ x∈ps,0<=x/\x<n)/\ps.length<=1000/\CutIn K H c ks/\∀ (hs:List Int) (H':Hp),IsHeads n (rest ties ks) hs->Same H H'->Q (.bl (parted hs ps)) H'
noncomputable def spPt(K:PySem.W.Frag):Sp:=fun vs H Q _=>∃ (t q c:Addr) (n:Nat) (ties:List Tie) (cas:List Addr) (ps:List Int) (ks:List (List Int)),vs=[.ref t,.ref q,.ref c]/\WebAt H t n ties/\(∀ x∈ties,TieOk n x)/\n<=1000 /\
 SqL K H q (ps.map V.int)/\(∀ x∈ps,0<=x/\x<n)/\ps.length<=1000/\SqL K H c (cas.map V.ref)/\TupsAt H cas ks/\ks.length<=1000/\∀ (hs:List Int) (H':Hp),IsHeads n (rest ties ks) hs->Same H H'->Q (.bl (parted hs ps)) H'
theorem at_hs{n:Nat}{ties:List Tie}{hs:List Int}(IH:IsHeads n ties hs)(j:Int)(j0:0<=j)(j1:j<n):atI (hs.map V.int) j=some (V.int (hAt hs j)):=by
 obtain⟨j,rfl⟩:∃ j':Nat,j=(j':Int):=⟨j.toNat,by lia⟩
 have jl:j<hs.length:=by rw[IH.len];lia
 exact atI_nat (by rw[List.getElem?_map,List.getElem?_eq_getElem jl,hAt_nat jl];rfl)
theorem eq_bl{m k:Nat}{hs ps:List Int}(e1:m=(nub (ps.map (hAt hs))).length)(e2:k=ps.length):decide (V.int (m:Nat)=V.int (k:Nat))=parted hs ps:=by
 subst e1 e2
 unfold parted
 rw[Bool.eq_iff_iff,decide_eq_true_eq,decide_eq_true_eq]
 exact⟨fun h=>by injection h with h;lia,fun h=>by rw[h]⟩
section
variable{P:Program}{w:World}{K:PySem.W.Frag}{mg:Str->Option Value}{base:Heap}
noncomputable abbrev nIP:List Str:=["web","posts","cut","heads"]
theorem scIP:FnScope nIP ["web","posts","cut"] (defScope sIsParting):=⟨rfl,rfl,rfl,by decide +kernel,rfl,by decide +kernel,by decide +kernel⟩
theorem csIP:CompScope ["post","heads"] [none,some 3] nIP (defScope sIsParting) (scO [(".0",.local),("post",.local),("heads",.free)]):=⟨rfl,by decide +kernel,by decide +kernel,by decide +kernel,rfl,capB_ok (by decide +kernel)⟩
theorem ndIP:(["post","heads"]:List Str).Nodup:=by decide +kernel
theorem ok_ip{f g1 g2:Addr}{fd d1 d2:FuncData}(F:Fun K "is_parting" "is_parting" sIsParting f fd)(T:Txt mg)(GO:CalF P w K mg base 1 "without" ["web","cut"] (spWout K) g1 d1)(GH:CalF P w K mg base 2 "heads_of" ["web"] spHds g2 d2):FnOk P w K mg base CX0 3 f fd ["web","posts","cut"] (spIP K):=by
 refine F.ok scIP (fun vs H Q E h=>?_) (fun cdv A outer s H vs Q E hr h=>?_)
 ·obtain⟨t,q,c,n,ties,b,ps,ks,rfl,_⟩:=h
  rfl
 ·obtain⟨t,q,c,n,ties,b,ps,ks,rfl,W,ok,nb,sq,pr,pl,cu,fin⟩:=h
  have hr1:Room 1 _:=hr.mono (by decide)
  refine⟨_,pss_cons (ps_set (i:=3) scIP.nd rfl (Or.inr rfl) (pe_call GH.ok hr rfl GH.mg GH.kp GH.bd .nil pass0 (@pa_call _ _ _ _ _ _ _ _ (pe_call GO.ok hr1 rfl GO.mg GO.kp GO.bd .nil pass0 (@pa_nam _ _ _ _ _ _ (pv 0) (@pa_nam _ _ _ _ _ _ (pv 2) pa_nil))) pa_nil)))
   (pss_one (ps_ret (pe_cmpR op_eq (pe_callB call_lenS (by rfl) T.len PySem.boot_len (@pa_scomp _ _ _ _ _ _ _ _ (pe_scomp rfl csIP (pi_seq b (pv 1)) (fun C s H fp=>pg_name (i:=0) ndIP rfl (Or.inl rfl)) (fun C s H fp=>pf_nil)
    (fun C s H fp=>pe_ix (ix_listK K rfl) (pv 1) (pv 0) (fun _ _=>rfl))) pa_nil)) (pe_callB call_len_seq (by rfl) T.len PySem.boot_len (@pa_nam _ _ _ _ _ _ (pv 1) pa_nil)) (nomark _)))),?_⟩
  refine⟨_,rfl,_,rfl,t,c,n,ties,ks,rfl,W,cu,fun t' H1 ht' s1 W1=>?_⟩
  refine⟨t',n,rest ties ks,rfl,W1,fun x hx=>ok x (mem_rest.mp hx).1,nb,fun p hs H2 hp gp IH s2=>?_⟩
  have s12:=s1.trans s2
  refine⟨_,rfl,q,rfl,⟨_,s12.seqB sq⟩,fun D hD=>?_⟩
  have sD:=Same.new (o:=sEmp) hD
  refine scomp_seq (b:=b) (K:=K) (a:=q) (xs:=ps.map V.int) (fun i G=>Same H2 G/\G D=some (setI ((ps.take i).map (hAt hs)))) ⟨sD,upd_same⟩ (fun i G _ z=>(s12.trans z.1).seqB sq) ?_ ?_
  ·rintro i x G hx ⟨sG,gD⟩
   obtain⟨il,e⟩:=List.getElem?_eq_some_iff.mp hx
   rw[List.length_map]at il
   rw[List.getElem_map]at e
   subst e
   obtain⟨o1,o2⟩:=pr _ (List.getElem_mem il)
   refine⟨⟨rfl,trivial⟩,tTru_if ?_⟩
   refine⟨_,rfl,_,rfl,p,_,_,_,rfl,rfl,SqL.of (sG _ _ gp),at_hs IH _ o1 o2,_,sput_I gD (by rw[List.length_map,List.length_take];unfold scanBound;lia),?_,?_⟩
   ·intro u o e
    rw[upd_ne (ne_of_none e hD)]
    exact sG _ _ e
   ·rw[upd_same,List.take_succ_eq_append_getElem il,List.map_append]
    rfl
  ·rintro G ⟨sG,gD⟩
   rw[List.take_of_length_le (by rw[List.length_map];lia)]at gD
   refine⟨D,_,rfl,gD,?_⟩
   refine⟨_,rfl,q,ps.map V.int,rfl,?_,rfl,?_⟩
   ·have:=(s12.trans sG).seqB sq
    cases b
    ·exact .inl this
    ·exact .inr this
   ·rw[eq_bl (hs:=hs) (ps:=ps) rfl (by rw[List.length_map])]
    exact fin hs _ IH (s12.trans sG)
noncomputable abbrev nPt:List Str:=["_law_web_here","_law_posts_here","_law_cut_here","_law_firsts_here"]
theorem scPt:FnScope nPt ["_law_web_here","_law_posts_here","_law_cut_here"] (defScope sParts):=⟨rfl,rfl,rfl,by decide +kernel,rfl,by decide +kernel,by decide +kernel⟩
theorem csPt:CompScope ["_law_post","_law_firsts_here"] [none,some 3] nPt (defScope sParts) (scO [(".0",.local),("_law_post",.local),("_law_firsts_here",.free)]):=⟨rfl,by decide +kernel,by decide +kernel,by decide +kernel,rfl,capB_ok (by decide +kernel)⟩
theorem ndPt:(["_law_post","_law_firsts_here"]:List Str).Nodup:=by decide +kernel
theorem ok_pt{f g1:Addr}{fd d1:FuncData}(F:Fun K "_law_parts" "_law_parts" sParts f fd)(T:Txt mg)(T3:Txt3 mg)(GF:CalF P w K mg base 1 "_law_firsts" ["_law_web_here","_law_cut_here"] (spFst K) g1 d1):FnOk P w K mg base CX0 2 f fd ["_law_web_here","_law_posts_here","_law_cut_here"] (spPt K):=by
 refine F.ok scPt (fun vs H Q E h=>?_) (fun cdv A outer s H vs Q E hr h=>?_)
 ·obtain⟨t,q,c,n,ties,cas,ps,ks,rfl,_⟩:=h
  rfl
 ·obtain⟨t,q,c,n,ties,cas,ps,ks,rfl,W,ok,nb,sq,pr,pl,sc,tc,kl,fin⟩:=h
  refine⟨_,pss_cons (ps_set (i:=3) scPt.nd rfl (Or.inr rfl) (pe_call GF.ok hr rfl GF.mg GF.kp GF.bd .nil pass0 (@pa_nam _ _ _ _ _ _ (pv 0) (@pa_nam _ _ _ _ _ _ (pv 2) pa_nil))))
   (pss_one (ps_ret (pe_cmpR op_eq (pe_callB call_lenS (by rfl) T.len PySem.boot_len (@pa_call _ _ _ _ _ _ _ _ (pe_callTy call_setI (by rfl) T3.set PyProof.Rows.boot_set (@pa_comp _ _ _ _ _ _ _ _ (pe_comp rfl csPt (pi_list (pv 1)) (fun C s H fp=>pg_name (i:=0) ndPt rfl (Or.inl rfl)) (fun C s H fp=>pf_nil)
    (fun C s H fp=>pe_ix (ix_listK K rfl) (pv 1) (pv 0) (fun _ _=>rfl))) pa_nil)) pa_nil)) (pe_callB call_len_seq (by rfl) T.len PySem.boot_len (@pa_nam _ _ _ _ _ _ (pv 1) pa_nil)) (nomark _)))),?_⟩
  refine⟨_,rfl,_,rfl,t,c,n,ties,cas,ks,rfl,W,ok,nb,sc,tc,kl,fun p hs H2 hp gp IH s12=>?_⟩
  refine⟨_,rfl,q,rfl,⟨_,s12.seq sq⟩,?_⟩
  refine comp_list (K:=K) (a:=q) (xs:=ps.map V.int) (fun i ys G=>G=H2/\ys=((ps.take i).map (hAt hs)).map V.int) (by rw[List.length_map,sizeLine_eq];lia) ⟨rfl,rfl⟩ (fun i ys G _ z=>by rw[z.1];exact s12.seq sq) ?_ ?_
  ·rintro i x ys G hx ⟨rfl,rfl⟩
   obtain⟨il,e⟩:=List.getElem?_eq_some_iff.mp hx
   rw[List.length_map]at il
   rw[List.getElem_map]at e
   subst e
   obtain⟨o1,o2⟩:=pr _ (List.getElem_mem il)
   refine⟨⟨rfl,trivial⟩,tTru_if ?_⟩
   refine⟨_,rfl,_,rfl,p,_,_,_,rfl,rfl,SqL.of gp,at_hs IH _ o1 o2,rfl,?_⟩
   rw[List.take_succ_eq_append_getElem il,List.map_append,List.map_append]
   rfl
  ·rintro ys G yl ⟨rfl,rfl⟩ D hD
   rw[List.take_of_length_le (by rw[List.length_map];lia)]
   have sD:=Same.new (o:=.lst ((ps.map (hAt hs)).map V.int)) hD
   refine⟨D,_,rfl,SqL.of upd_same,?_,by rw[List.length_map];unfold scanBound;lia,fun S hS=>?_⟩
   ·exact hr.hd
   have sS:=Same.new (o:=setI (ps.map (hAt hs))) hS
   refine⟨S,_,rfl,upd_same,_,rfl,q,ps.map V.int,rfl,.inl ((s12.trans (sD.trans sS)).seq sq),rfl,?_⟩
   rw[eq_bl (hs:=hs) (ps:=ps) rfl (by rw[List.length_map])]
   exact fin hs _ IH (s12.trans (sD.trans sS))
end
end K07
namespace L2
open PySem PySem.W PyProof.Rows
theorem star_ife{c a b:Expr}{pos:Pos}{rest:List Expr}{env:Env}:starEach (.IfExp c a b pos :: rest) env=(false,eval (.IfExp c a b pos) env) :: starEach rest env:=rfl
theorem pa_ife{X:Cx}{es:List Expr}{pos:Pos}{te:TE}{t:TA}{c a b:Expr}(ha:PE X (.IfExp c a b pos) te)(hr:PA X es t):PA X (.IfExp c a b pos :: es) (tCons te t):=pa_cons ha hr (hs:=star_ife)
end L2
namespace K07
open PySem L2 PyProof.Rows
noncomputable def cutOf(ows:List Int)(ties:List Tie):List (List Int):=(ties.filter fun x=>!decide (hAt ows x.1=hAt ows x.2.1)).map pairOf
noncomputable def spOw:Sp:=fun vs H Q _=>∃ (p t l:Addr) (n N:Nat) (ties:List Tie) (ps:List Int),vs=[.ref p,.ref t,.ref l]/\BoxAt H p N/\N+200<2 ^ 40/\WebAt H t n ties/\n<=30/\H l=some (.lst (ps.map V.int))/\l≠p/\PostOk n ps /\
 ∀ (o:Addr) (ows:List Int) (H':Hp),H o=none->H' o=some (.tup (ows.map V.int))->ows.length=n->(∀ x∈ps,hAt ows x=x)->BoxAt H' p (N+100)->Kept p H H'->Q (.ref o) H'
noncomputable def spCO:Sp:=fun vs H Q _=>∃ (t o:Addr) (n:Nat) (ties:List Tie) (ows:List Int),vs=[.ref t,.ref o]/\WebAt H t n ties/\(∀ x∈ties,TieOk n x)/\H o=some (.tup (ows.map V.int))/\ows.length=n /\
 ∀ (l:Addr) (as:List Addr) (H':Hp),H l=none->H' l=some (.lst (as.map V.ref))->TupsAt H' as (cutOf ows ties)->Same H H'->Q (.ref l) H'
theorem at_int{ls:List Int}(j:Int)(j0:0<=j)(j1:j<ls.length):atI (ls.map V.int) j=some (V.int (hAt ls j)):=by
 obtain⟨j,rfl⟩:∃ j':Nat,j=(j':Int):=⟨j.toNat,by lia⟩
 have jl:j<ls.length:=by lia
 exact atI_nat (by rw[List.getElem?_map,List.getElem?_eq_getElem jl,hAt_nat jl];rfl)
section
variable{P:Program}{w:World}{K:PySem.W.Frag}{mg:Str->Option Value}{base:Heap}
noncomputable abbrev nOw:List Str:=["_law_box_here","_law_web_here","_law_posts_here","_law_often","_law_one","_law_found","_law_place","_law_other"]
theorem scOw:FnScope nOw ["_law_box_here","_law_web_here","_law_posts_here"] (defScope sOwners):=⟨rfl,rfl,rfl,by decide +kernel,rfl,by decide +kernel,by decide +kernel⟩
theorem ok_ow{f g:Addr}{fd gd:FuncData}(F:Fun K "_law_owners" "_law_owners" sOwners f fd)(T:Txt mg)(G:TakeF P w K mg base g gd):FnOk P w K mg base CX0 2 f fd ["_law_box_here","_law_web_here","_law_posts_here"] spOw:=by
 refine F.ok scOw (fun vs H Q E h=>?_) (fun cdv A outer s H vs Q E hr h=>?_)
 ·obtain⟨p,t,l,n,N,ties,ps,rfl,_⟩:=h
  rfl
 ·obtain⟨p,t,l,n,N,ties,ps,rfl,B,hN,W,n30,gl,lp,po,q⟩:=h
  refine⟨_,pss_cons (ps_set (i:=3) scOw.nd rfl (Or.inl rfl) (pe_op op_add pe_int (pe_call G.ok hr rfl G.mg G.kp G.bd .nil pass0 (@pa_nam _ _ _ _ _ _ (pv 0) (@pa_cst _ _ _ _ _ _ _ pe_int pa_nil)))))
   (pss_cons (ps_set (i:=4) scOw.nd rfl (Or.inl rfl) (@pe_ix _ _ _ _ _ _ _ ix_list (pv 2) (pe_call G.ok hr rfl G.mg G.kp G.bd .nil pass0 (@pa_nam _ _ _ _ _ _ (pv 0) (@pa_call _ _ _ _ _ _ _ _ (pe_callB call_len_seq (by rfl) T.len PySem.boot_len (@pa_nam _ _ _ _ _ _ (pv 2) pa_nil)) pa_nil))) (fun _ _=>rfl)))
   (pss_cons (ps_set (i:=5) scOw.nd rfl (Or.inl rfl) (@pe_lst _ _ _ _ pa_nil))
   (pss_cons (ps_for PassesOwn.never rfl (pi_range1 rfl T.range (@pa_sub _ _ _ _ _ _ _ (@pe_ix _ _ _ _ _ _ _ ix_tup (pv 1) pe_int (fun _ _=>rfl)) pa_nil)) (pg_name (i:=6) scOw.nd rfl (Or.inl rfl))
    (pss_cons (ps_set (i:=7) scOw.nd rfl (Or.inl rfl) (@pe_ix _ _ _ _ _ _ _ ix_list (pv 2) (pe_call G.ok hr rfl G.mg G.kp G.bd .nil pass0 (@pa_nam _ _ _ _ _ _ (pv 0) (@pa_call _ _ _ _ _ _ _ _ (pe_callB call_len_seq (by rfl) T.len PySem.boot_len (@pa_nam _ _ _ _ _ _ (pv 2) pa_nil)) pa_nil))) (fun _ _=>rfl)))
    (pss_one (ps_expr (pe_bm PySem.F.plainAttrs_list PySem.F.slot_list_append PySem.F.type_list_append mt_append (pv 5) (@pa_ife _ _ _ _ _ _ _ _ (pe_ifExp (pt_cmpR op_in_seq (pv 6) (pv 2) rfl) (pv 6)
     (@pe_ix _ _ _ _ _ _ _ ix_list (@pe_lst _ _ _ _ (@pa_nam _ _ _ _ _ _ (pv 7) (@pa_nam _ _ _ _ _ _ (pv 4) pa_nil))) (pe_callTy call_int1 (by rfl) T.int boot_int (@pa_cmp _ _ _ _ _ _ _ _ (pe_cmpR op_gt (pe_call G.ok hr rfl G.mg G.kp G.bd .nil pass0 (@pa_nam _ _ _ _ _ _ (pv 0) (@pa_nam _ _ _ _ _ _ (pv 3) pa_nil))) pe_int (nomark _)) pa_nil)) (fun _ _=>rfl))) pa_nil))))))
   (pss_one (ps_ret (pe_callTy call_tuple_of (by rfl) T.tuple boot_tuple (@pa_nam _ _ _ _ _ _ (pv 5) pa_nil))))))),?_⟩
  have pl:=po.lo
  have ph:=po.hi
  obtain⟨⟨ts,as,h1,h2,h3⟩,len⟩:=id W
  refine⟨_,rfl,p,_,N,rfl,B,by lia,by decide,by decide,fun z H1 z0 z1 B1 k1=>⟨_,_,rfl,rfl,?_⟩⟩
  have gl1:=k1 _ _ lp gl
  refine⟨_,rfl,_,rfl,_,rfl,l,_,rfl,.inl (SqL.of gl1),p,_,_,rfl,B1,by lia,by rw[List.length_map];lia,by rw[List.length_map];lia,fun y H2 y0 y1 B2 k2=>?_⟩
  rw[List.length_map]at y1
  have gl2:=k2 _ _ lp gl1
  refine⟨l,_,_,_,rfl,rfl,SqL.of gl2,at_int _ y0 (by omega),(by show 0<=sizeLine;decide),fun fo hfo=>?_⟩
  have fop:fo≠p:=B2.ne hfo
  have hfo0:H fo=none:=(k1.trans k2).free B2 hfo
  have W2:=(W.kept B k1).kept B1 k2
  obtain⟨⟨ts2,as2,h12,_,_⟩,_⟩:=id W2
  refine⟨_,rfl,t,_,_,_,rfl,rfl,SqT.of ((Same.new hfo) _ _ h12),rfl,_,rfl,by lia,by lia,?_⟩
  rw[show((n:Int)).toNat=n by lia]
  refine for_range (lo:=0) (n:=n) (fun i σ G=>∃ (v6 v7:Option V) (ows:List Int),σ=[some (.ref p),some (.ref t),some (.ref l),some (.int (1+z)),some (.int (hAt ps y)),some (.ref fo),v6,v7]/\BoxAt G p (N+2+2 * i)/\Kept p H G/\G fo=some (.lst (ows.map V.int))/\ows.length=i/\∀ j:Nat,j<i->(j:Int)∈ps->hAt ows j=j)
   ⟨_,_,[],rfl,(B2.new hfo).mono (by lia),k1.trans (k2.trans (Kept.new hfo)),upd_same,rfl,fun j hj=>absurd hj (by lia)⟩ ?_ ?_
  ·rintro i σ G0 hi ⟨v6,v7,ows,rfl,B3,k3,gf,ol,oo⟩
   rw[show(0:Int)+(i:Int)=(i:Int) by lia]
   have gl3:=k3 _ _ lp gl
   refine⟨_,rfl,_,rfl,_,rfl,l,_,rfl,.inl (SqL.of gl3),p,_,_,rfl,B3,by lia,by rw[List.length_map];lia,by rw[List.length_map];lia,fun x G1 x0 x1 B4 k4=>?_⟩
   rw[List.length_map]at x1
   have gl4:=k4 _ _ lp gl3
   have gf4:=k4 _ _ fop gf
   refine⟨l,_,_,_,rfl,rfl,SqL.of gl4,at_int _ x0 (by omega),?_⟩
   refine⟨_,rfl,.inl ⟨rfl,_,SqL.of gf4⟩,_,rfl,_,rfl,l,_,rfl,.inl (SqL.of gl4),rfl,List.all_eq_true.mpr (fun x hx=>by obtain⟨i,_,rfl⟩:=List.mem_map.mp hx;rfl),_,rfl,?_⟩
   have fin:∀ (v:Int) (G2:Hp),Kept p H G2->G2 fo=some (.lst (ows.map V.int))->BoxAt G2 p (N+2+2 * (i+1))->((i:Int)∈ps->v=i)->∃ (v6 v7:Option V) (ows':List Int),([some (.ref p),some (.ref t),some (.ref l),some (.int (1+z)),some (.int (hAt ps y)),some (.ref fo),some (.int i),some (.int (hAt ps x))]:L2.St)=[some (.ref p),some (.ref t),some (.ref l),some (.int (1+z)),some (.int (hAt ps y)),some (.ref fo),v6,v7]/\BoxAt (upd G2 fo (.lst (ows.map V.int++[V.int v]))) p (N+2+2 * (i+1))/\Kept p H (upd G2 fo (.lst (ows.map V.int++[V.int v])))/\(upd G2 fo (.lst (ows.map V.int++[V.int v]))) fo=some (.lst (ows'.map V.int))/\ows'.length=i+1/\∀ j:Nat,j<i+1->(j:Int)∈ps->hAt ows' j=j:=fun v G2 k5 gf5 B5 hv=>by
    refine⟨_,_,ows++[v],rfl,B5.put fop,k5.put hfo0,by rw[upd_same,List.map_append];rfl,by rw[List.length_append,ol];rfl,fun j hj hm=>?_⟩
    by_cases e:j<i
    ·have:=oo j e hm
     rw[hAt_nat (by rw[ol];exact e)]at this
     rw[hAt_nat (by rw[List.length_append,ol];omega),List.getElem_append_left (by rw[ol];exact e)]
     exact this
    ·have e:j=i:=by lia
     subst e
     rw[hAt_nat (by rw[List.length_append,ol];exact Nat.lt_succ_self _),List.getElem_append_right (by rw[ol];exact Nat.le_refl _)]
     simp[ol,hv hm]
   refine ite2 (fun hin=>?_) (fun hin=>?_)
   ·refine⟨_,rfl,fo,_,_,rfl,rfl,gf4,by rw[List.length_map,ol,sizeLine_eq];lia,?_⟩
    exact fin _ G1 (k3.trans k4) gf4 (B4.mono (by lia)) fun _=>rfl
   ·refine⟨_,rfl,_,rfl,(by show 2<=sizeLine;decide),fun l2 hl2=>?_⟩
    refine⟨_,rfl,_,rfl,p,_,_,rfl,B4.new hl2,by lia,by lia,by lia,fun y5 G2 y50 y51 B5 k5=>?_⟩
    have g2:=k5 _ _ (B4.ne hl2) (upd_same (H:=G1) (a:=l2) (o:=.lst [.int (hAt ps x),.int (hAt ps y)]))
    have gf5:=k5 _ _ fop ((Same.new (o:=.lst [.int (hAt ps x),.int (hAt ps y)]) hl2) _ _ gf4)
    have ni:(i:Int)∉ps:=fun hm=>hin (by
     rw[if_neg (by decide),inV_ints]
     exact List.contains_iff_mem.mpr hm)
    obtain⟨v,jj,ej,hj⟩:∃ (v:Int) (jj:Nat),(if decide (y5 > 0)=true then(1:Int)else 0)=(jj:Int)/\[V.int (hAt ps x),V.int (hAt ps y)][jj]?=some (V.int v):=by
     by_cases e:decide (y5 > 0)=true
     ·exact⟨_,1,by rw[if_pos e];rfl,rfl⟩
     ·exact⟨_,0,by rw[if_neg e];rfl,rfl⟩
    refine⟨_,_,rfl,rfl,.inr ⟨_,rfl,l2,_,_,V.int v,rfl,rfl,SqL.of g2,by rw[ej];exact atI_nat hj,fo,_,_,rfl,rfl,gf5,by rw[List.length_map,ol,sizeLine_eq];lia,?_⟩⟩
    exact fin v G2 (k3.trans (k4.trans ((Kept.new hl2).trans k5))) gf5 (B5.mono (by lia)) fun hm=>absurd hm ni
  ·rintro σ G0 ⟨v6,v7,ows,rfl,B3,k3,gf,ol,oo⟩
   refine⟨_,rfl,fo,_,rfl,.inl ⟨SqL.of gf,fun o ho=>?_⟩⟩
   have so:=Same.new (o:=.tup (ows.map V.int)) ho
   refine q o ows _ (k3.free B3 ho) upd_same ol (fun x hx=>?_) ((B3.same so).mono (by lia)) (k3.trans (Kept.new ho))
   obtain⟨r1,r2⟩:=po.rg x hx
   obtain⟨j,rfl⟩:∃ j:Nat,x=(j:Int):=⟨x.toNat,by lia⟩
   exact oo j (by lia) hx
noncomputable abbrev nCO:List Str:=["_law_web_here","_law_owners_here"]
theorem scCO:FnScope nCO nCO (defScope sCutOf):=⟨rfl,rfl,rfl,by decide +kernel,rfl,by decide +kernel,by decide +kernel⟩
theorem csCO:CompScope ["_law_tie","_law_owners_here"] [none,some 1] nCO (defScope sCutOf) (scO [(".0",.local),("_law_tie",.local),("_law_owners_here",.free)]):=⟨rfl,by decide +kernel,by decide +kernel,by decide +kernel,rfl,capB_ok (by decide +kernel)⟩
theorem ndCO:(["_law_tie","_law_owners_here"]:List Str).Nodup:=by decide +kernel
theorem ok_co{f:Addr}{fd:FuncData}(F:Fun K "_law_cut_of" "_law_cut_of" sCutOf f fd):FnOk P w K mg base CX0 1 f fd nCO spCO:=by
 refine F.ok scCO (fun vs H Q E h=>?_) (fun cdv A outer s H vs Q E hr h=>?_)
 ·obtain⟨t,o,n,ties,ows,rfl,_⟩:=h
  rfl
 ·obtain⟨t,o,n,ties,ows,rfl,W,ok,go,ol,q⟩:=h
  refine⟨_,(pss_one (ps_ret (pe_comp rfl csCO (pi_tup (pe_ix ix_tup (pv 0) pe_int (fun _ _=>rfl))) (fun C s H fp=>pg_name (i:=0) ndCO rfl (Or.inl rfl))
    (fun C s H fp=>pf_one (pt_cmpR op_ne (@pe_ix _ _ _ _ _ _ _ (ix_tupK K rfl) (pv 1) (@pe_ix _ _ _ _ _ _ _ (ix_tupK K rfl) (pv 0) pe_int (fun _ _=>rfl)) (fun _ _=>rfl)) (@pe_ix _ _ _ _ _ _ _ (ix_tupK K rfl) (pv 1) (@pe_ix _ _ _ _ _ _ _ (ix_tupK K rfl) (pv 0) pe_int (fun _ _=>rfl)) (fun _ _=>rfl)) (nomark _)))
    (fun C s H fp=>pe_slice (sl_tupK K rfl) (pv 0) po_none (po_some pe_int))))),?_⟩
  obtain⟨⟨ts,as,h1,h2,h3⟩,len⟩:=id W
  have h3l:as.length=ties.length:=h3.length
  refine⟨_,rfl,t,_,_,_,rfl,rfl,SqT.of h1,rfl,ts,rfl,⟨_,SqT.of h2⟩,?_⟩
  refine comp_tup (K:=K) (a:=ts) (xs:=as.map V.ref) (fun i ys G=>Same H G/\∃ bs:List Addr,ys=bs.map V.ref/\TupsAt G bs (cutOf ows (ties.take i))) (by rw[List.length_map,sizeLine_eq];lia) ⟨Same.refl _,[],rfl,.nil⟩ (fun i ys G _ z=>SqT.of (z.1 _ _ h2)) ?_ ?_
  ·rintro i x ys G hx ⟨sG,bs,rfl,tb⟩
   obtain⟨il,e⟩:=List.getElem?_eq_some_iff.mp hx
   rw[List.length_map]at il
   rw[List.getElem_map]at e
   subst e
   have it:i<ties.length:=by lia
   have hx0:=sG _ _ (Paired.at h3 i il it)
   obtain⟨t0,t1,t2,_⟩:=ok _ (List.getElem_mem it)
   have tk:cutOf ows (ties.take (i+1))=cutOf ows (ties.take i)++cutOf ows [ties[i]]:=by
    unfold cutOf
    rw[List.take_succ_eq_append_getElem it,List.filter_append,List.map_append]
   refine⟨⟨rfl,trivial⟩,_,rfl,_,rfl,as[i],_,_,_,rfl,rfl,SqT.of hx0,rfl,?_⟩
   refine⟨o,_,_,_,rfl,rfl,SqT.of (sG _ _ go),at_int _ t0 (by lia),?_⟩
   refine⟨_,rfl,_,rfl,as[i],_,_,_,rfl,rfl,SqT.of hx0,rfl,?_⟩
   refine⟨o,_,_,_,rfl,rfl,SqT.of (sG _ _ go),at_int _ (by lia) (by lia),rfl,_,rfl,?_⟩
   refine ite2 (fun hc=>?_) (fun hc=>?_)
   ·have e1:cutOf ows [ties[i]]=[pairOf ties[i]]:=by
     unfold cutOf
     rw[List.filter_cons_of_pos (by simpa using hc)]
     rfl
    refine⟨_,rfl,2,rfl,as[i],_,rfl,SqT.of hx0,(fun z=>absurd (show HT.sIx 3 3 (some 2)=3 from z.2) (by decide)),fun pp hpp=>⟨sG.trans (Same.new hpp),bs++[pp],by rw[List.map_append];rfl,?_⟩⟩
    rw[tk,e1]
    exact Paired.snoc (Paired.mapP tb fun b x e=>(Same.new hpp) _ _ e) upd_same
   ·have e1:cutOf ows [ties[i]]=[]:=by
     unfold cutOf
     rw[List.filter_cons_of_neg (by simpa using hc)]
     rfl
    refine⟨sG,bs,rfl,?_⟩
    rw[tk,e1,List.append_nil]
    exact tb
  ·rintro ys G yl ⟨sG,bs,rfl,tb⟩ D hD
   rw[List.take_of_length_le (by rw[List.length_map,h3l];exact Nat.le_refl _)]at tb
   exact q D bs _ (sG.free hD) upd_same (Paired.mapP tb fun b x e=>(Same.new hD) _ _ e) (sG.trans (Same.new hD))
end
end K07
namespace L2
open PySem
theorem Paired.takeP{α β:Type}{F:α->β->Prop}:∀ {l₁:List α}{l₂:List β} (k:Nat),Paired F l₁ l₂->Paired F (l₁.take k) (l₂.take k)
 | _,_,0,_=>by rw[List.take_zero,List.take_zero];exact .nil
 | _,_,k+1,.nil=>.nil
 | _,_,k+1,.cons h t=>.cons h (Paired.takeP k t)
theorem Paired.dropP{α β:Type}{F:α->β->Prop}:∀ {l₁:List α}{l₂:List β} (k:Nat),Paired F l₁ l₂->Paired F (l₁.drop k) (l₂.drop k)
 | _,_,0,h=>h
 | _,_,k+1,.nil=>.nil
 | _,_,k+1,.cons _ t=>Paired.dropP k t
theorem Paired.appP{α β:Type}{F:α->β->Prop}:∀ {l₁ m₁:List α}{l₂ m₂:List β},Paired F l₁ l₂->Paired F m₁ m₂->Paired F (l₁++m₁) (l₂++m₂)
 | _,_,_,_,.nil,r=>r
 | _,_,_,_,.cons h t,r=>.cons h (Paired.appP t r)
end L2
namespace K07
open PySem L2 PyProof.Rows
structure CutL(H:Hp)(ties:List Tie)(c:Addr)(as:List Addr)(ks:List (List Int)):Prop where
 get:H c=some (.lst (as.map V.ref))
 tup:TupsAt H as ks
 sub:∀ k∈ks,k∈ties.map pairOf
 len:ks.length<=300
theorem lst_ne_box{H:Hp}{p c:Addr}{N:Nat}{as:List Addr}(B:BoxAt H p N)(h:H c=some (.lst (as.map V.ref))):c≠p:=fun z=>by
 obtain⟨x,y,w,e,_⟩:=B
 rw[z,e]at h
 injection h with h
 injection h with h
 cases as with
 |nil=>cases h
 |cons a r =>
  rw[List.map_cons]at h
  injection h with h1 _
  cases h1
theorem CutL.kept{H H':Hp}{p:Addr}{N:Nat}{ties:List Tie}{c:Addr}{as:List Addr}{ks:List (List Int)}(C:CutL H ties c as ks)(B:BoxAt H p N)(k:Kept p H H'):CutL H' ties c as ks :=
 ⟨k _ _ (lst_ne_box B C.get) C.get,tups_kept C.tup B k,C.sub,C.len⟩
noncomputable def Cov(ows:List Int)(ties:List Tie)(ks:List (List Int)):Prop:=∀ x∈ties,hAt ows x.1≠hAt ows x.2.1->pairOf x∈ks
theorem cov_own(ows:List Int)(ties:List Tie):Cov ows ties (cutOf ows ties):=fun x hx ne=>List.mem_map.mpr ⟨x,List.mem_filter.mpr ⟨hx,by simpa using ne⟩,rfl⟩
theorem own_sub{ows:List Int}{ties:List Tie}:∀ k∈cutOf ows ties,k∈ties.map pairOf:=fun k hk=>by
 obtain⟨x,hx,e⟩:=List.mem_map.mp hk
 exact List.mem_map.mpr ⟨x,(List.mem_filter.mp hx).1,e⟩
theorem own_len{ows:List Int}{ties:List Tie}:(cutOf ows ties).length<=ties.length:=by
 unfold cutOf
 rw[List.length_map]
 exact List.length_filter_le _ _
theorem nodup_le{α:Type}[DecidableEq α]:∀ {l m:List α},l.Nodup->(∀ x∈l,x∈m)->l.length<=m.length
 |[],m,_,_=>Nat.zero_le _
 |x :: l,m,nd,h=>by
  have hx:=h x (List.mem_cons_self ..)
  obtain⟨n1,n2⟩:=List.nodup_cons.mp nd
  have ih:=nodup_le (m:=m.erase x) n2 fun y hy=>(List.mem_erase_of_ne (fun z:y=x=>n1 (z▸hy))).mpr (h y (List.mem_cons_of_mem _ hy))
  rw[List.length_erase_of_mem hx]at ih
  have:0<m.length:=List.length_pos_of_mem hx
  rw[List.length_cons]
  omega
open PySem L2 PyProof.Rows
noncomputable def spSame(n:Nat):Sp:=fun vs H Q _=>∃ (f u:V) (d:Dt),vs=[f,u]/\Dat H n f d/\Dat H n u d/\∀ H',Same H H'->Q (.bl true) H'
section
variable{P:Program}{w:World}{K:PySem.W.Frag}{mg:Str->Option Value}{base:Heap}
theorem scSame:FnScope ["_law_found","_law_due_here"] ["_law_found","_law_due_here"] (defScope sSame):=⟨rfl,rfl,rfl,by decide +kernel,rfl,by decide +kernel,by decide +kernel⟩
theorem csSame:CompScope ["_law_one","_law_other"] [none,none] ["_law_found","_law_due_here"] (defScope sSame) (scO [(".0",.local),("_law_one",.local),("_law_other",.local),("_law_same",.globalImplicit)]):=⟨rfl,by decide +kernel,by decide +kernel,by decide +kernel,rfl,capB_ok (by decide +kernel)⟩
theorem ndSame:(["_law_one","_law_other"]:List Str).Nodup:=by decide +kernel
theorem same_flat{f:Addr}{cdv:Value}{A:Around}{outer:List Env}{s:Shared}{H:Hp}{Q:VK}{E:XK}(T:Txt mg){x:V}{d:Dt}(hx:Dat H 0 x d)(q:∀ H',Same H H'->Q (.bl true) H') :
  ∃ t,PSs (cxOf CX0 P w K mg base ["_law_found","_law_due_here"] "_law_same" (defScope sSame) f cdv A outer s H E).nox (defBody sSame) t/\t { nx:=fun _ H'=>Q .non H',rt:=Q } (start ["_law_found","_law_due_here"] [x,x]) H:=by
 cases d with
 |int i =>
  have ex:x = .int i:=hx
  subst ex
  refine⟨_,pss_cons (ps_if (pt_val (pe_callB call_isinst2 (by rfl) T.isinst boot_isinstance (@pa_nam _ _ _ _ _ _ (pv 1) (@pa_tup _ _ _ _ _ _ _ (pe_tup (@pa_nam _ _ _ _ _ _ (pe_bltn (v:=.ty "list") (by rfl) T.list boot_list rfl) (@pa_nam _ _ _ _ _ _ (pe_bltn (v:=.ty "tuple") (by rfl) T.tuple boot_tuple rfl) pa_nil))) pa_nil)))) pss_never pss_nil)
   (pss_cons (ps_if (PW.pt (pw_or (pt_cmpR op_isN (pv 1) pe_non (nomark _)) (pw_or1 (pt_val (pe_callB call_isinst (by rfl) T.isinst boot_isinstance (@pa_nam _ _ _ _ _ _ (pv 1) (@pa_nam _ _ _ _ _ _ (pe_bltn (v:=.ty "str") (by rfl) T.str boot_str rfl) pa_nil))))))) pss_never pss_nil)
   (pss_cons (ps_if (pt_val (pe_callB call_isinst (by rfl) T.isinst boot_isinstance (@pa_nam _ _ _ _ _ _ (pv 1) (@pa_nam _ _ _ _ _ _ (pe_bltn (v:=.ty "bool") (by rfl) T.bool boot_bool rfl) pa_nil)))) pss_never pss_nil)
   (pss_one (ps_ret (pe_and (pe_callB call_isinst (by rfl) T.isinst boot_isinstance (@pa_nam _ _ _ _ _ _ (pv 0) (@pa_nam _ _ _ _ _ _ (pe_bltn (v:=.ty "int") (by rfl) T.int boot_int rfl) pa_nil)))
    (pe_and (pe_not (pe_callB call_isinst (by rfl) T.isinst boot_isinstance (@pa_nam _ _ _ _ _ _ (pv 0) (@pa_nam _ _ _ _ _ _ (pe_bltn (v:=.ty "bool") (by rfl) T.bool boot_bool rfl) pa_nil))))
    (pe_one (pe_cmpR op_eq (pv 0) (pv 1) (nomark _))))))))),?_⟩
  refine⟨_,rfl,(by show 2<=sizeLine;decide),fun tp htp=>⟨_,_,tp,false,rfl,TyF.int i,upd_same,rfl,_,rfl,iteF ?_⟩⟩
  refine⟨_,rfl,rfl,_,rfl,?_⟩
  refine ite2 (fun h=>absurd (of_decide_eq_true h) (by intro z;cases z)) (fun _=>?_)
  refine⟨_,rfl,_,_,"str",false,rfl,TyOf.int i,rfl,_,rfl,iteF ?_⟩
  refine⟨_,rfl,_,_,"bool",false,rfl,TyOf.int i,rfl,_,rfl,iteF ?_⟩
  refine⟨_,rfl,_,_,"int",true,rfl,TyOf.int i,rfl,_,rfl,iteT ?_⟩
  refine⟨_,rfl,_,_,"bool",false,rfl,TyOf.int i,rfl,_,rfl,_,rfl,iteT ?_⟩
  refine⟨_,rfl,_,rfl,rfl,?_⟩
  rw[decide_eq_true rfl]
  exact q _ (Same.new htp)
 |bl i =>
  have ex:x = .bl i:=hx
  subst ex
  refine⟨_,pss_cons (ps_if (pt_val (pe_callB call_isinst2 (by rfl) T.isinst boot_isinstance (@pa_nam _ _ _ _ _ _ (pv 1) (@pa_tup _ _ _ _ _ _ _ (pe_tup (@pa_nam _ _ _ _ _ _ (pe_bltn (v:=.ty "list") (by rfl) T.list boot_list rfl) (@pa_nam _ _ _ _ _ _ (pe_bltn (v:=.ty "tuple") (by rfl) T.tuple boot_tuple rfl) pa_nil))) pa_nil)))) pss_never pss_nil)
   (pss_cons (ps_if (PW.pt (pw_or (pt_cmpR op_isN (pv 1) pe_non (nomark _)) (pw_or1 (pt_val (pe_callB call_isinst (by rfl) T.isinst boot_isinstance (@pa_nam _ _ _ _ _ _ (pv 1) (@pa_nam _ _ _ _ _ _ (pe_bltn (v:=.ty "str") (by rfl) T.str boot_str rfl) pa_nil))))))) pss_never pss_nil)
   (pss_cons (ps_if (pt_val (pe_callB call_isinst (by rfl) T.isinst boot_isinstance (@pa_nam _ _ _ _ _ _ (pv 1) (@pa_nam _ _ _ _ _ _ (pe_bltn (v:=.ty "bool") (by rfl) T.bool boot_bool rfl) pa_nil))))
    (pss_one (ps_ret (pe_and (pe_callB call_isinst (by rfl) T.isinst boot_isinstance (@pa_nam _ _ _ _ _ _ (pv 0) (@pa_nam _ _ _ _ _ _ (pe_bltn (v:=.ty "bool") (by rfl) T.bool boot_bool rfl) pa_nil))) (pe_one (pe_cmpR op_eq (pv 0) (pv 1) (nomark _)))))) pss_nil)
   (pss_one ps_never))),?_⟩
  refine⟨_,rfl,(by show 2<=sizeLine;decide),fun tp htp=>⟨_,_,tp,false,rfl,TyF.bl i,upd_same,rfl,_,rfl,iteF ?_⟩⟩
  refine⟨_,rfl,rfl,_,rfl,?_⟩
  refine ite2 (fun h=>absurd (of_decide_eq_true h) (by intro z;cases z)) (fun _=>?_)
  refine⟨_,rfl,_,_,"str",false,rfl,TyOf.bl i,rfl,_,rfl,iteF ?_⟩
  refine⟨_,rfl,_,_,"bool",true,rfl,TyOf.bl i,rfl,_,rfl,iteT ?_⟩
  refine⟨_,rfl,_,_,"bool",true,rfl,TyOf.bl i,rfl,_,rfl,iteT ?_⟩
  refine⟨_,rfl,_,rfl,rfl,?_⟩
  rw[decide_eq_true rfl]
  exact q _ (Same.new htp)
 |non =>
  have ex:x = .non:=hx
  subst ex
  refine⟨_,pss_cons (ps_if (pt_val (pe_callB call_isinst2 (by rfl) T.isinst boot_isinstance (@pa_nam _ _ _ _ _ _ (pv 1) (@pa_tup _ _ _ _ _ _ _ (pe_tup (@pa_nam _ _ _ _ _ _ (pe_bltn (v:=.ty "list") (by rfl) T.list boot_list rfl) (@pa_nam _ _ _ _ _ _ (pe_bltn (v:=.ty "tuple") (by rfl) T.tuple boot_tuple rfl) pa_nil))) pa_nil)))) pss_never pss_nil)
   (pss_cons (ps_if (PW.pt (pw_or (pt_cmpR op_isN (pv 1) pe_non (nomark _)) (pw_or1 (pt_val (pe_callB call_isinst (by rfl) T.isinst boot_isinstance (@pa_nam _ _ _ _ _ _ (pv 1) (@pa_nam _ _ _ _ _ _ (pe_bltn (v:=.ty "str") (by rfl) T.str boot_str rfl) pa_nil)))))))
    (pss_one (ps_ret (pe_and (pe_cmpR op_eq (pv 0) (pv 1) (nomark _)) (pe_one (pe_cmpR op_eq (pe_callB call_isinst (by rfl) T.isinst boot_isinstance (@pa_nam _ _ _ _ _ _ (pv 0) (@pa_nam _ _ _ _ _ _ (pe_bltn (v:=.ty "str") (by rfl) T.str boot_str rfl) pa_nil))) (pe_callB call_isinst (by rfl) T.isinst boot_isinstance (@pa_nam _ _ _ _ _ _ (pv 1) (@pa_nam _ _ _ _ _ _ (pe_bltn (v:=.ty "str") (by rfl) T.str boot_str rfl) pa_nil))) (nomark _)))))) pss_nil)
   (pss_cons ps_never (pss_one ps_never))),?_⟩
  refine⟨_,rfl,(by show 2<=sizeLine;decide),fun tp htp=>⟨_,_,tp,false,rfl,TyF.non,upd_same,rfl,_,rfl,iteF ?_⟩⟩
  refine⟨_,rfl,rfl,_,rfl,?_⟩
  refine ite2 (fun _=>?_) (fun h=>absurd (decide_eq_true rfl) h)
  refine iteT ?_
  refine⟨_,rfl,_,rfl,rfl,_,rfl,?_⟩
  refine ite2 (fun _=>?_) (fun h=>absurd (decide_eq_true rfl) h)
  refine⟨_,rfl,_,_,"str",false,rfl,TyOf.non,rfl,_,rfl,_,_,"str",false,rfl,TyOf.non,rfl,rfl,?_⟩
  rw[decide_eq_true rfl]
  exact q _ (Same.new htp)
 |str i =>
  have ex:x = .str i:=hx
  subst ex
  refine⟨_,pss_cons (ps_if (pt_val (pe_callB call_isinst2 (by rfl) T.isinst boot_isinstance (@pa_nam _ _ _ _ _ _ (pv 1) (@pa_tup _ _ _ _ _ _ _ (pe_tup (@pa_nam _ _ _ _ _ _ (pe_bltn (v:=.ty "list") (by rfl) T.list boot_list rfl) (@pa_nam _ _ _ _ _ _ (pe_bltn (v:=.ty "tuple") (by rfl) T.tuple boot_tuple rfl) pa_nil))) pa_nil)))) pss_never pss_nil)
   (pss_cons (ps_if (PW.pt (pw_or (pt_cmpR op_isN (pv 1) pe_non (nomark _)) (pw_or1 (pt_val (pe_callB call_isinst (by rfl) T.isinst boot_isinstance (@pa_nam _ _ _ _ _ _ (pv 1) (@pa_nam _ _ _ _ _ _ (pe_bltn (v:=.ty "str") (by rfl) T.str boot_str rfl) pa_nil)))))))
    (pss_one (ps_ret (pe_and (pe_cmpR op_eq (pv 0) (pv 1) (nomark _)) (pe_one (pe_cmpR op_eq (pe_callB call_isinst (by rfl) T.isinst boot_isinstance (@pa_nam _ _ _ _ _ _ (pv 0) (@pa_nam _ _ _ _ _ _ (pe_bltn (v:=.ty "str") (by rfl) T.str boot_str rfl) pa_nil))) (pe_callB call_isinst (by rfl) T.isinst boot_isinstance (@pa_nam _ _ _ _ _ _ (pv 1) (@pa_nam _ _ _ _ _ _ (pe_bltn (v:=.ty "str") (by rfl) T.str boot_str rfl) pa_nil))) (nomark _)))))) pss_nil)
   (pss_cons ps_never (pss_one ps_never))),?_⟩
  refine⟨_,rfl,(by show 2<=sizeLine;decide),fun tp htp=>⟨_,_,tp,false,rfl,TyF.str i,upd_same,rfl,_,rfl,iteF ?_⟩⟩
  refine⟨_,rfl,rfl,_,rfl,?_⟩
  refine ite2 (fun h=>absurd (of_decide_eq_true h) (by intro z;cases z)) (fun _=>?_)
  refine⟨_,rfl,_,_,"str",true,rfl,TyOf.str i,rfl,_,rfl,iteT ?_⟩
  refine⟨_,rfl,_,rfl,rfl,_,rfl,?_⟩
  refine ite2 (fun _=>?_) (fun h=>absurd (decide_eq_true rfl) h)
  refine⟨_,rfl,_,_,"str",true,rfl,TyOf.str i,rfl,_,rfl,_,_,"str",true,rfl,TyOf.str i,rfl,rfl,?_⟩
  rw[decide_eq_true rfl]
  exact q _ (Same.new htp)
 |lst ds=>exact(show False from hx).elim
 |tup ds=>exact(show False from hx).elim
end
open PySem L2 PyProof.Rows
theorem rep_snoc(i:Nat):(List.replicate i true).map V.bl++[V.bl true]=(List.replicate (i+1) true).map V.bl:=by rw[List.replicate_succ',List.map_append];rfl
theorem rep_all(i:Nat):(List.replicate i true).all id=true:=by simp
section
variable{P:Program}{w:World}{K:PySem.W.Frag}{mg:Str->Option Value}{base:Heap}
theorem paired_len{H:Hp}{n:Nat}{xs:List V}{ds:List Dt}(h:Paired (Dat H n) xs ds):xs.length=ds.length:=Paired.length h
theorem same_seq{n:Nat}{f:Addr}{fd:FuncData}{cdv:Value}{A:Around}{outer:List Env}{s:Shared}{H:Hp}{Q:VK}{E:XK}(T:Txt mg)(T2:Txt2 mg)(G:CalF P w K mg base (n+1) "_law_same" ["_law_found","_law_due_here"] (spSame n) f fd)
  (hr:Room (n+1) (A.deeper (envOfC "_law_same" (defScope sSame) s.heap.objs.size f cdv))) (b:Bool) {p1 p2:Addr}{xs ys:List V}{ds:List Dt}{t:Value} (ty1:TyF H (.ref p1) t) (ty2:TyF H (.ref p2) t) (kt:t=if b then .type "tuple" else .type "list")
  (q1:SqB b K H p1 xs) (q2:SqB b K H p2 ys) (l1:xs.length<=sizeLine) (r1:Paired (Dat H n) xs ds) (r2:Paired (Dat H n) ys ds) (q:∀ H',Same H H'->Q (.bl true) H') :
  ∃ t,PSs (cxOf CX0 P w K mg base ["_law_found","_law_due_here"] "_law_same" (defScope sSame) f cdv A outer s H E).nox (defBody sSame) t/\t { nx:=fun _ H'=>Q .non H',rt:=Q } (start ["_law_found","_law_due_here"] [.ref p1,.ref p2]) H:=by
 have e1:=paired_len r1
 have e2:=paired_len r2
 refine⟨_,pss_cons (ps_if (pt_val (pe_callB call_isinst2 (by rfl) T.isinst boot_isinstance (@pa_nam _ _ _ _ _ _ (pv 1) (@pa_tup _ _ _ _ _ _ _ (pe_tup (@pa_nam _ _ _ _ _ _ (pe_bltn (v:=.ty "list") (by rfl) T.list boot_list rfl) (@pa_nam _ _ _ _ _ _ (pe_bltn (v:=.ty "tuple") (by rfl) T.tuple boot_tuple rfl) pa_nil))) pa_nil))))
   (pss_cons (ps_if (PW.pt (pw_or (pt_cmpR op_ne (pe_callB call_isinst (by rfl) T.isinst boot_isinstance (@pa_nam _ _ _ _ _ _ (pv 0) (@pa_nam _ _ _ _ _ _ (pe_bltn (v:=.ty "list") (by rfl) T.list boot_list rfl) pa_nil))) (pe_callB call_isinst (by rfl) T.isinst boot_isinstance (@pa_nam _ _ _ _ _ _ (pv 1) (@pa_nam _ _ _ _ _ _ (pe_bltn (v:=.ty "list") (by rfl) T.list boot_list rfl) pa_nil))) (nomark _))
    (pw_or1 (pt_cmpR op_ne (pe_callB call_isinst (by rfl) T.isinst boot_isinstance (@pa_nam _ _ _ _ _ _ (pv 0) (@pa_nam _ _ _ _ _ _ (pe_bltn (v:=.ty "tuple") (by rfl) T.tuple boot_tuple rfl) pa_nil))) (pe_callB call_isinst (by rfl) T.isinst boot_isinstance (@pa_nam _ _ _ _ _ _ (pv 1) (@pa_nam _ _ _ _ _ _ (pe_bltn (v:=.ty "tuple") (by rfl) T.tuple boot_tuple rfl) pa_nil))) (nomark _))))) pss_never pss_nil)
   (pss_one (ps_ret (pe_and (pe_cmpR op_eq (pe_callB call_len_seq (by rfl) T.len PySem.boot_len (@pa_nam _ _ _ _ _ _ (pv 0) pa_nil)) (pe_callB call_len_seq (by rfl) T.len PySem.boot_len (@pa_nam _ _ _ _ _ _ (pv 1) pa_nil)) (nomark _))
    (pe_one (pe_callB (call_all rfl) (by rfl) T2.all boot_all (@pa_comp _ _ _ _ _ _ _ _ (pe_comp rfl csSame (pi_zip b b (by rfl) T2.zip (@pa_nam _ _ _ _ _ _ (pv 0) (@pa_nam _ _ _ _ _ _ (pv 1) pa_nil)))
     (fun C s H fp=>pg_tupK K rfl (n:=2) rfl (pgs_cons (pg_name (i:=0) ndSame rfl (Or.inl rfl)) (pgs_cons (pg_name (i:=1) ndSame rfl (Or.inl rfl)) pgs_nil)) rfl rfl) (fun C s H fp=>pf_nil)
     (fun C s H fp=>pe_call G.ok hr rfl G.mg G.kp G.bd .nil pass0 (@pa_nam _ _ _ _ _ _ (pv 0) (@pa_nam _ _ _ _ _ _ (pv 1) pa_nil)))) pa_nil))))))) pss_nil)
  (pss_cons ps_never (pss_cons ps_never (pss_one ps_never))),?_⟩
 refine⟨_,rfl,(by show 2<=sizeLine;decide),fun tp htp=>?_⟩
 have s0:Same H (upd H tp (.tup [.ty "list",.ty "tuple"])):=Same.new htp
 have up:∀ {x:V}{t:Value},TyF H x t->TyF (upd H tp (.tup [.ty "list",.ty "tuple"])) x t:=fun h=>by
  cases h with
  |non=>exact .non
  |bl x=>exact .bl x
  |int i=>exact .int i
  |str x=>exact .str x
  |lst e=>exact .lst (s0 _ _ e)
  |tup e=>exact .tup (s0 _ _ e)
 have y1:=up ty1
 have y2:=up ty2
 have k1:∃ c,PySem.W.kitOne K t (.type "list")=some c:=by rw[kt];cases b <;> exact⟨_,rfl⟩
 have k2:∃ c,PySem.W.kitOne K t (.type "tuple")=some c:=by rw[kt];cases b <;> exact⟨_,rfl⟩
 have k3:PySem.W.kitAny K t [.type "list",.type "tuple"]=some true:=by rw[kt];cases b <;> rfl
 obtain⟨c1,k1⟩:=k1
 obtain⟨c2,k2⟩:=k2
 refine⟨_,t,tp,true,rfl,y2,upd_same,k3,_,rfl,iteT ?_⟩
 refine⟨_,rfl,_,t,"list",c1,rfl,y1.of,k1,_,rfl,_,t,"list",c1,rfl,y2.of,k1,rfl,_,rfl,?_⟩
 refine iteNS rfl ?_
 refine⟨_,rfl,_,t,"tuple",c2,rfl,y1.of,k2,_,rfl,_,t,"tuple",c2,rfl,y2.of,k2,rfl,_,rfl,?_⟩
 refine iteNS rfl ?_
 have seqOr:∀ {a:Addr}{zs:List V},SqB b K H a zs->SqL K (upd H tp (.tup [.ty "list",.ty "tuple"])) a zs\/SqT K (upd H tp (.tup [.ty "list",.ty "tuple"])) a zs:=fun h=>by
  have h':=s0.seqB h
  cases b
  ·exact .inl h'
  ·exact .inr h'
 refine⟨_,rfl,p1,xs,rfl,seqOr q1,_,rfl,p2,ys,rfl,seqOr q2,rfl,_,rfl,?_⟩
 refine ite2 (fun _=>?_) (fun h=>absurd (decide_eq_true (by rw[e1,e2])) h)
 refine⟨_,rfl,_,rfl,p1,p2,rfl,⟨_,s0.seqB q1⟩,⟨_,s0.seqB q2⟩,?_⟩
 refine comp_zip (K:=K) (b1:=b) (b2:=b) (l1:=p1) (l2:=p2) (xs:=xs) (ys:=ys) (fun i zs G=>Same H G/\zs=(List.replicate i true).map V.bl) (by lia) ⟨s0,rfl⟩ (fun i zs G _ z=>⟨z.1.seqB q1,z.1.seqB q2⟩) ?_ ?_
 ·rintro i x y zs G U hx hy ⟨sm,rfl⟩ hU
  obtain⟨il,ex⟩:=List.getElem?_eq_some_iff.mp hx
  obtain⟨jl,ey⟩:=List.getElem?_eq_some_iff.mp hy
  subst ex ey
  have di:i<ds.length:=by lia
  have sU:=sm.trans (Same.new (o:=.tup [xs[i],ys[i]]) hU)
  refine⟨U,_,rfl,SqT.of upd_same,rfl,_,_,rfl,_,_,rfl,rfl,trivial,tTru_if ⟨_,rfl,_,rfl,xs[i],ys[i],ds[i],rfl,Dat.same sU (Paired.at r1 i il di),Dat.same sU (Paired.at r2 i jl di),fun G2 sm2=>⟨sU.trans sm2,rep_snoc i⟩⟩⟩
 ·rintro zs G _ ⟨sm,rfl⟩ D hD
  refine⟨D,_,rfl,SqL.of upd_same,?_⟩
  rw[rep_all]
  exact q _ (sm.trans (Same.new hD))
theorem ok_same{f:Addr}{fd:FuncData}(F:Fun K "_law_same" "_law_same" sSame f fd)(T:Txt mg)(T2:Txt2 mg)(mf:mg "_law_same" = some (.ref f))(bd:Binds K fd ["_law_found","_law_due_here"] []):∀ n:Nat,FnOk P w K mg base CX0 (n+1) f fd ["_law_found","_law_due_here"] (spSame n)
 | 0=>by
  refine F.ok scSame (fun vs H Q E h=>?_) (fun cdv A outer s H vs Q E hr h=>?_)
  ·obtain⟨x,u,d,rfl,_⟩:=h
   rfl
  ·obtain⟨x,u,d,rfl,h1,h2,q⟩:=h
   cases d with
   |lst ds=>exact(show False from h1).elim
   |tup ds=>exact(show False from h1).elim
   |non=>cases(show x = .non from h1);cases(show u = .non from h2);exact same_flat (d:=.non) T rfl q
   |bl i=>cases(show x = .bl i from h1);cases(show u = .bl i from h2);exact same_flat (d:=.bl i) T rfl q
   |int i=>cases(show x = .int i from h1);cases(show u = .int i from h2);exact same_flat (d:=.int i) T rfl q
   |str i=>cases(show x = .str i from h1);cases(show u = .str i from h2);exact same_flat (d:=.str i) T rfl q
 |n+1=>by
  have IH:=ok_same F T T2 mf bd n
  refine F.ok scSame (fun vs H Q E h=>?_) (fun cdv A outer s H vs Q E hr h=>?_)
  ·obtain⟨x,u,d,rfl,_⟩:=h
   rfl
  ·obtain⟨x,u,d,rfl,h1,h2,q⟩:=h
   cases d with
   |lst ds =>
    obtain⟨p1,xs,rfl,l1,a1,r1⟩:=h1
    obtain⟨p2,ys,rfl,_,a2,r2⟩:=h2
    exact same_seq T T2 ⟨IH,mf,F.kp,bd⟩ hr false (.lst a1) (.lst a2) rfl (SqL.of a1) (SqL.of a2) (by rw[sizeLine_eq];lia) r1 r2 q
   |tup ds =>
    obtain⟨p1,xs,rfl,l1,a1,r1⟩:=h1
    obtain⟨p2,ys,rfl,_,a2,r2⟩:=h2
    exact same_seq T T2 ⟨IH,mf,F.kp,bd⟩ hr true (.tup a1) (.tup a2) rfl (SqT.of a1) (SqT.of a2) (by rw[sizeLine_eq];lia) r1 r2 q
   |non=>cases(show x = .non from h1);cases(show u = .non from h2);exact same_flat (d:=.non) T rfl q
   |bl i=>cases(show x = .bl i from h1);cases(show u = .bl i from h2);exact same_flat (d:=.bl i) T rfl q
   |int i=>cases(show x = .int i from h1);cases(show u = .int i from h2);exact same_flat (d:=.int i) T rfl q
   |str i=>cases(show x = .str i from h1);cases(show u = .str i from h2);exact same_flat (d:=.str i) T rfl q
end
end K07
namespace L2
open PySem PySem.Spec PySem.W PyProof.Rows
open PySem PySem.W PyProof.Rows Srt
open PySem PySem.W PyProof.Rows Srt
open PySem PySem.W PyProof.Rows
noncomputable def sqO:Bool->List V->HO
 |true,xs=>.tup xs
 |false,xs=>.lst xs
theorem sq_or{b:Bool}{K:PySem.W.Frag}{H:Hp}{a:Addr}{xs:List V}(h:H a=some (sqO b xs)):SqL K H a xs\/SqT K H a xs:=by
 cases b
 ·exact .inl (SqL.of h)
 ·exact .inr (SqT.of h)
section
variable{X:Cx}
noncomputable def rIxTh:R2:=fun x y H Q=>∃ p xs i v,x = .ref p/\y = .int i/\H p=some (.tup xs)/\atI xs i=some v/\Q v H
theorem ix_tupH:IxR X rIxTh:=by
 intro value slice pins s σ H x y v u Q I rx ry h hs
 obtain⟨p,xs,i,z,rfl,rfl,hp,he,q⟩:=h
 exact ix_tup value slice pins s σ H _ _ v u Q I rx ry ⟨p,xs,i,z,rfl,rfl,SqT.of hp,he,q⟩ hs
theorem call_lenH:CallR X (.builtin "len") (fun xs H Q=>∃ p ys,xs=[.ref p]/\H p=some (.lst ys)/\Q (.int ys.length) H):=by
 intro pins s σ H xs us Q I r h
 obtain⟨p,ys,rfl,hp,q⟩:=h
 exact call_len_seq pins s σ H _ us Q I r ⟨p,ys,rfl,.inl (SqL.of hp),q⟩
theorem call_tupleH:CallR X (.type "tuple") (fun xs H Q=>∃ p ys,xs=[.ref p]/\H p=some (.lst ys)/\∀ l,H l=none->Q (.ref l) (upd H l (.tup ys))):=by
 intro pins s σ H xs us Q I r h
 obtain⟨p,ys,rfl,hp,q⟩:=h
 exact call_tuple_of pins s σ H _ us Q I r ⟨p,ys,rfl,.inl ⟨SqL.of hp,q⟩⟩
theorem call_listH(b:Bool):CallR X (.type "list") (fun xs H Q=>∃ p ys,xs=[.ref p]/\H p=some (sqO b ys)/\∀ l,H l=none->Q (.ref l) (upd H l (.lst ys))):=by
 intro pins s σ H xs us Q I r h
 obtain⟨p,ys,rfl,hp,q⟩:=h
 exact call_list_of pins s σ H _ us Q I r ⟨p,ys,rfl,sq_or hp,q⟩
noncomputable def tBMh(r:V->List V->Hp->VK->Prop)(to:TE)(t:TA):TE:=fun σ H Q=>to σ H fun x H1=>(∃ p xs,x = .ref p/\H1 p=some (.lst xs))/\t σ H1 fun xs H2=>r x xs H2 Q
theorem pe_bmH{id:String}{name:Str}{r:V->List V->Hp->VK->Prop}{o e:Expr}{es:List Expr}{to:TE}{t:TA}{apos cpos:Pos}(slot:Slot "list" name id)(hty:typeOf (.builtin id)=pure (.type "method_descriptor"))(hm:MtR X id r)(ho:PE X o to)(ha:PA X (e :: es) t)(hbase:attributeBase o name X.env (eval o X.env)=eval o X.env:=by rfl)
  (hfew:((backTo cpos (starEach (e :: es) X.env)).all (fun x=>!x.1) && (backToKw cpos (keywordEach [] X.env)).all (fun x=>x.1.isSome) && decide ((e :: es).length+([]:List Keyword).length+(if([]:List Keyword).isEmpty then 0 else 1)<30))=true:=by rfl) (hline:(apos.endLine == cpos.line)=true:=by rfl)
  (hs:starEach (e :: es) X.env=(false,eval e X.env) :: starEach es X.env:=by rfl) (hplain:(backTo cpos (starEach es X.env)).any (·.1)=false:=by rfl):PE X (.Call (.Attribute o name apos) (e :: es) [] cpos) (tBMh r to t):=by
 intro pins s σ H Q I h
 refine wpAny_Call_method_late hbase hfew hline rfl (thn (ho pins s σ H _ I h) fun v s1 ⟨x,H1,I1,r1,⟨p,xs,ex,hx⟩,q1⟩=>?_)
 subst ex
 obtain⟨h1,h2⟩:=tyV_is (T:="list") I1 r1 (.inl ⟨rfl,xs,SqL.of hx⟩)
 refine⟨"list",id,PySem.F.plainAttrs_list,slot,hty,h1,h2,?_⟩;have hA:=ha cpos pins s1 σ H1 _ I1 q1
 rw[hs]at hA ⊢;refine Calls.callWith_builtin (by show(false ||(backTo cpos (starEach es X.env)).any (·.1))=false;rw[hplain] <;> rfl) (Calls.evalArgs_plain (thn hA fun us s2 ⟨vs,H2,I2,r2,q2⟩=>?_))
 exact hm pins s2 σ H2 _ vs v us Q I2 r1 r2 q2
end
open PySem PySem.W PyProof.Rows
theorem star_un{op:UnaryOp}{a:Expr}{pos:Pos}{es:List Expr}{env:Env}:starEach (.UnaryOp op a pos :: es) env=(false,eval (.UnaryOp op a pos) env) :: starEach es env:=rfl
theorem pa_un{X:Cx}{a:Expr}{op:UnaryOp}{pos:Pos}{es:List Expr}{te:TE}{t:TA}(ha:PE X (.UnaryOp op a pos) te)(hr:PA X es t):PA X (.UnaryOp op a pos :: es) (tCons te t):=pa_cons ha hr (hs:=star_un)
open PySem PySem.W PyProof.Rows
open PySem PySem.W PyProof.Rows
theorem Paired.atV{F:V->Dt->Prop}{xs:List V}{ds:List Dt}(h:Paired F xs ds){j:Nat}(h1:j<xs.length)(h2:j<ds.length):F xs[j] ds[j]:=Paired.at h j h1 h2
theorem eq_same{X:Cx}{pins:List (Addr×Obj)}{σ:St}{H:Hp}{s:Shared}(I:Inv X pins σ H s):∀ {n:Nat}{A:Around}{x y:V}{d:Dt}{u v:Value},Dat H n x d->Dat H n y d->RelV x u->RelV y v->A.units+n<cLine->SeqAt.EqAt A s u v true:=by
 have flat:∀ {A:Around}{x y:V}{d:Dt}{u v:Value},Dat H 0 x d->Dat H 0 y d->RelV x u->RelV y v->SeqAt.EqAt A s u v true:=by
  intro A x y d u v hx hy ru rv
  cases d with
  |non=>have ex:x = .non:=hx;have ey:y = .non:=hy;subst ex ey;cases ru;cases rv;exact SeqAt.EqAt.same _
  |bl b=>have ex:x = .bl b:=hx;have ey:y = .bl b:=hy;subst ex ey;cases ru;cases rv;exact SeqAt.EqAt.same _
  |int i =>
   have ex:x = .int i:=hx
   have ey:y = .int i:=hy
   subst ex ey
   obtain⟨t,rfl⟩:=ru
   obtain⟨t',rfl⟩:=rv
   have:=SeqAt.EqAt.int_int (A:=A) (s:=s) i t i t'
   rwa [beq_self_eq_true]at this
  |str z =>
   have ex:x = .str z:=hx
   have ey:y = .str z:=hy
   subst ex ey
   obtain⟨t,rfl⟩:=ru
   obtain⟨t',rfl⟩:=rv
   have:=SeqAt.EqAt.str_str (A:=A) (s:=s) z t z t'
   rwa [beq_self_eq_true]at this
  |lst ds=>exact(show False from hx).elim
  |tup ds=>exact(show False from hx).elim
 intro n
 induction n with
 |zero=>intro A x y d u v hx hy ru rv _;exact flat hx hy ru rv
 |succ n ih =>
  intro A x y d u v hx hy ru rv hu
  cases d with
  |non=>exact flat (d:=.non) hx hy ru rv
  |bl b=>exact flat (d:=.bl b) hx hy ru rv
  |int i=>exact flat (d:=.int i) hx hy ru rv
  |str z=>exact flat (d:=.str z) hx hy ru rv
  |lst ds =>
   obtain⟨a,xs,rfl,xl,ha,px⟩:=hx
   obtain⟨b,ys,rfl,yl,hb,py⟩:=hy
   cases ru
   cases rv
   by_cases e:a=b
   ·subst e;exact SeqAt.EqAt.same _
   ·obtain⟨its,r,pl,hz⟩:=I.list (SqL.of ha)
    obtain⟨its',r',pl',hz'⟩:=I.list (SqL.of hb)
    have l1:=r.length
    have l2:=r'.length
    have l3:xs.length=ds.length:=Paired.length px
    have l4:ys.length=ds.length:=Paired.length py
    have key:=SeqAt.RcAt.lists (A:=A) (e:=fun _=>true) pl.isList pl'.isList (by simp only[List.size_toArray];lia) (by lia) (fun j h1 h2=>by
     simp only[List.size_toArray]at h1 h2
     have jx:j<xs.length:=by lia
     have jy:j<ys.length:=by lia
     obtain⟨u,e1,q1⟩:=r.get (i:=j) (x:=xs[j]) (List.getElem?_eq_getElem jx)
     obtain⟨u',e2,q2⟩:=r'.get (i:=j) (x:=ys[j]) (List.getElem?_eq_getElem jy)
     rw[List.getElem?_eq_getElem h1]at e1
     rw[List.getElem?_eq_getElem h2]at e2
     have e1:=Option.some.inj e1
     have e2:=Option.some.inj e2
     simp only[List.getElem_toArray]
     rw[e1,e2]
     exact ih (A:=A.in1) (d:=ds[j]'(by lia)) (Paired.atV px jx (by lia)) (Paired.atV py jy (by lia)) q1 q2 (by show A.units+1+n<cLine;lia))
    have t:(List.range its.toArray.size).all (fun _=>true)=true:=by simp
    rw[t]at key
    exact SeqAt.EqAt.of_refs e key
  |tup ds =>
   obtain⟨a,xs,rfl,xl,ha,px⟩:=hx
   obtain⟨b,ys,rfl,yl,hb,py⟩:=hy
   cases ru
   cases rv
   by_cases e:a=b
   ·subst e;exact SeqAt.EqAt.same _
   ·obtain⟨its,r,pl,hz⟩:=I.tuple (SqT.of ha)
    obtain⟨its',r',pl',hz'⟩:=I.tuple (SqT.of hb)
    have l1:=r.length
    have l2:=r'.length
    have l3:xs.length=ds.length:=Paired.length px
    have l4:ys.length=ds.length:=Paired.length py
    have key:=SeqAt.RcAt.tuples (A:=A) (e:=fun _=>true) pl pl' (by lia) (fun j h1 h2=>by
     simp only[List.size_toArray]at h1 h2
     have jx:j<xs.length:=by lia
     have jy:j<ys.length:=by lia
     obtain⟨u,e1,q1⟩:=r.get (i:=j) (x:=xs[j]) (List.getElem?_eq_getElem jx)
     obtain⟨u',e2,q2⟩:=r'.get (i:=j) (x:=ys[j]) (List.getElem?_eq_getElem jy)
     rw[List.getElem?_eq_getElem h1]at e1
     rw[List.getElem?_eq_getElem h2]at e2
     have e1:=Option.some.inj e1
     have e2:=Option.some.inj e2
     simp only[List.getElem_toArray]
     rw[e1,e2]
     exact ih (A:=A.in1) (d:=ds[j]'(by lia)) (Paired.atV px jx (by lia)) (Paired.atV py jy (by lia)) q1 q2 (by show A.units+1+n<cLine;lia))
    have t:((List.range (min its.toArray.size its'.toArray.size)).all (fun _=>true) && its.toArray.size == its'.toArray.size)=true:=by
     simp only[List.size_toArray]
     rw[show its.length=its'.length by lia]
     simp
    rw[t]at key
    exact SeqAt.EqAt.of_refs e key
noncomputable def seqD:Dt->Bool
 | .lst _=>true
 | .tup _=>true
 | _=>false
noncomputable def rSame(b:Bool):R2:=fun x y H Q=>∃ n d,Dat H (n+1) x d/\Dat H (n+1) y d/\seqD d=true/\n<=50/\Q (.bl b) H
section
variable{X:Cx}
theorem items_same{pins:List (Addr×Obj)}{σ:St}{H:Hp}{s:Shared}(I:Inv X pins σ H s){n:Nat}{A:Around}{xs ys:List V}{ds:List Dt}{us vs:List Value}(px:Paired (Dat H n) xs ds)(py:Paired (Dat H n) ys ds)(r:Vals xs us)(r':Vals ys vs)(hu:A.units+n<cLine) :
  ∀ j (h1:j<us.toArray.size) (h2:j<vs.toArray.size),SeqAt.EqAt A s us.toArray[j] vs.toArray[j] true:=fun j h1 h2=>by
 have l1:=r.length
 have l2:=r'.length
 have l3:xs.length=ds.length:=Paired.length px
 have l4:ys.length=ds.length:=Paired.length py
 simp only[List.size_toArray]at h1 h2
 have jx:j<xs.length:=by lia
 have jy:j<ys.length:=by lia
 obtain⟨u,e1,q1⟩:=r.get (i:=j) (x:=xs[j]) (List.getElem?_eq_getElem jx)
 obtain⟨u',e2,q2⟩:=r'.get (i:=j) (x:=ys[j]) (List.getElem?_eq_getElem jy)
 rw[List.getElem?_eq_getElem h1]at e1
 rw[List.getElem?_eq_getElem h2]at e2
 have e1:=Option.some.inj e1
 have e2:=Option.some.inj e2
 simp only[List.getElem_toArray]
 rw[e1,e2]
 exact eq_same I (d:=ds[j]'(by lia)) (Paired.atV px jx (by lia)) (Paired.atV py jy (by lia)) q1 q2 hu
theorem op_neS(hu:X.A.units+64<cLine):OpR X (compareOp .NotEq) (rSame false):=by
 intro pins s σ H x y v u Q I rx ry h
 obtain⟨n,d,hx,hy,sd,hn,q⟩:=h
 have fin:EP X pins σ Q (.bool false) s:=⟨.bl false,H,I,rfl,q⟩
 cases d with
 |lst ds =>
  obtain⟨a,xs,rfl,xl,ha,px⟩:=hx
  obtain⟨b,ys,rfl,yl,hb,py⟩:=hy
  cases rx
  cases ry
  obtain⟨its,r,pl,hz⟩:=I.list (SqL.of ha)
  obtain⟨its',r',pl',hz'⟩:=I.list (SqL.of hb)
  have l1:=r.length
  have l2:=r'.length
  have l3:xs.length=ds.length:=Paired.length px
  have l4:ys.length=ds.length:=Paired.length py
  refine SeqAt.RcNeAt.lists (e:=fun _=>true) pl.isList pl'.isList (by simp only[List.size_toArray];lia) (by lia) (items_same I px py r r' (by show X.A.units+1+n<cLine;lia)) _ _ _ _ ?_
  rw[show(!(List.range its.toArray.size).all (fun _=>true))=false by simp]
  exact fin
 |tup ds =>
  obtain⟨a,xs,rfl,xl,ha,px⟩:=hx
  obtain⟨b,ys,rfl,yl,hb,py⟩:=hy
  cases rx
  cases ry
  obtain⟨its,r,pl,hz⟩:=I.tuple (SqT.of ha)
  obtain⟨its',r',pl',hz'⟩:=I.tuple (SqT.of hb)
  have l1:=r.length
  have l2:=r'.length
  have l3:xs.length=ds.length:=Paired.length px
  have l4:ys.length=ds.length:=Paired.length py
  refine SeqAt.RcNeAt.tuples (e:=fun _=>true) pl pl' (by lia) (items_same I px py r r' (by show X.A.units+1+n<cLine;lia)) _ _ _ _ ?_
  rw[show(!((List.range (min its.toArray.size its'.toArray.size)).all (fun _=>true) && its.toArray.size == its'.toArray.size))=false by simp only[List.size_toArray];rw[show its.length=its'.length by lia];simp]
  exact fin
 |non=>cases sd
 |bl b=>cases sd
 |int i=>cases sd
 |str z=>cases sd
end
theorem hu64{A:Around}{k:Nat}(hr:Room k A):A.units+64<cLine:=hr.units
theorem dat_intsT{H:Hp}{a:Addr}{ns:List Int}(n:Nat)(h:H a=some (.tup (ns.map V.int)))(l:ns.length<=1000):Dat H (n+1) (.ref a) (.tup (ns.map Dt.int)):=by
 refine⟨a,_,rfl,by rw[List.length_map];exact l,h,?_⟩
 clear h l
 induction ns with
 |nil=>exact .nil
 |cons x r ih=>refine .cons ?_ ih;cases n <;> rfl
open PySem PySem.Spec PyProof.Rows
open PySem PySem.W PyProof.Rows
end L2
namespace Srt
open PySem PySem.W PyProof.Rows
open PySem.AutoSeq1 (wpAny_loadPart')
theorem lexlt_nil(ns:List Int):lexlt ns []=false:=by
 cases ns <;> rfl
theorem lexlt_drop{ns ms:List Int}:lexlt (ns.drop (min ns.length ms.length)) (ms.drop (min ns.length ms.length))=decide (ns.length<ms.length):=by
 by_cases h:ns.length<ms.length
 ·rw[Nat.min_eq_left (Nat.le_of_lt h),List.drop_length,decide_eq_true h]
  cases e:ms.drop ns.length with
  |nil =>
   have:=congrArg List.length e
   rw[List.length_drop]at this
   simp at this
   lia
  |cons x r=>rfl
 ·rw[Nat.min_eq_right (by lia),List.drop_length,lexlt_nil,decide_eq_false h]
theorem IntsV.at{ns:List Int}{us:List Value}(h:IntsV ns us):∀ (i:Nat) (h1:i<ns.length) (h2:i<us.length),∃ t,us[i]=Value.int ns[i] t:=by
 induction h with
 |nil=>intro i h1;simp at h1
 |cons r _ ih =>
  intro i h1 h2
  cases i with
  |zero=>exact r
  |succ i=>exact ih i (by simpa using h1) (by simpa using h2)
theorem rcLt{prog:Program}{w:World}{A:Around}{E:Value->Shared->Prop}{s:Shared}{a b:Int}{t u:Tok}{Q:Value->Shared->Prop}(h:Q (.bool (decide (a<b))) s):wpAny (model prog w) A (richCompare .Lt (.int a t) (.int b u)) Q E s:=lt_int h
theorem tuple_lt_meets(l b:Addr)(its its2:Array Value)(ns ms:List Int)(n n2:Nat)(dd dd2:Option Addr)(sl sl2:Array (Option Value))(p1:IntsV ns its.toList)(p2:IntsV ms its2.toList) :
  Meets (Builtin.«tuple.__lt__» ⟨[.ref l,.ref b],[]⟩)
   (fun A R s=>s.heap.get? l=some { cls:=.type "tuple",dict:=dd,data:=.seq its n,slots:=sl }/\s.heap.get? b=some { cls:=.type "tuple",dict:=dd2,data:=.seq its2 n2,slots:=sl2 } /\
    R (.ok (.ret (.bool (lexlt ns ms)))) s) :=
 .of_wp fun prog w A R s h=>by
  obtain⟨hp,g,d,tk,os⟩:=s
  obtain⟨hl,hb,h⟩:=h
  have f2:=AutoSeq1.sub_tuple_tuple
  have e1:its.size=ns.length:=by rw[p1.length];simp
  have e2:its2.size=ms.length:=by rw[p2.length];simp
  have hZ:(its.toList.zip its2.toList).length=min ns.length ms.length:=by simp[e1,e2]
  wp_walk using wpAny_loadPart' hl,wpAny_loadPart' hb,wpAny_forIn_list _ (fun rest q s'=>q.1=none/\s'=⟨hp,g,d,tk,os⟩/\∃ i,i<=min ns.length ms.length/\rest=(its.toList.zip its2.toList).drop i /\
   R (.ok (.ret (.bool (lexlt (ns.drop i) (ms.drop i))))) ⟨hp,g,d,tk,os⟩) _
  case turn =>
   rintro⟨y,x⟩ rest q s' ⟨hq,rfl,i,hi,hz,hR⟩
   have lt:i <(its.toList.zip its2.toList).length:=by
    rcases Nat.lt_or_ge i (its.toList.zip its2.toList).length with z | z
    ·exact z
    ·rw[List.drop_of_length_le z]at hz;cases hz
   have a1:i<ns.length:=by omega
   have a2:i<ms.length:=by omega
   obtain⟨t1,q1⟩:=p1.at i a1 (by simp;lia)
   obtain⟨t2,q2⟩:=p2.at i a2 (by simp;lia)
   rw[List.drop_eq_getElem_cons lt]at hz
   injection hz with hyx hrest
   have hy:y = .int ns[i] t1:=by have:=congrArg Prod.fst hyx;rw[<- q1];simpa using this
   have hx:x = .int ms[i] t2:=by have:=congrArg Prod.snd hyx;rw[<- q2];simpa using this
   subst hy hx
   rw[List.drop_eq_getElem_cons a1,List.drop_eq_getElem_cons a2]at hR
   refine wpAny_bind (SeqAt.EqAt.int_int _ _ _ _ prog w _ _ ?_)
   by_cases z:ns[i]=ms[i]
   ·have zb:(ns[i] == ms[i])=true:=by simpa using z
    rw[zb]
    have l1:lexlt (ns[i] :: ns.drop (i+1)) (ms[i] :: ms.drop (i+1))=lexlt (ns.drop (i+1)) (ms.drop (i+1)):=by simp[lexlt,z]
    rw[l1]at hR
    wp_walk
    exact⟨rfl,rfl,i+1,by lia,hrest,hR⟩
   ·have zb:(ns[i] == ms[i])=false:=by simpa using z
    rw[zb]
    have l1:lexlt (ns[i] :: ns.drop (i+1)) (ms[i] :: ms.drop (i+1))=decide (ns[i]<ms[i]):=by simp[lexlt,z]
    rw[l1]at hR
    wp_walk using rcLt
    exact⟨_,rfl,hR⟩
  case fin =>
   rintro⟨b1,b2⟩ s' ⟨hb',rfl,i,hi,hz,hR⟩
   simp only at hb'
   subst hb'
   have ge:min ns.length ms.length<=i:=by
    rcases Nat.lt_or_ge i (its.toList.zip its2.toList).length with z | z
    ·rw[List.drop_eq_getElem_cons z]at hz;cases hz
    ·exact hZ▸z
   obtain rfl:i=min ns.length ms.length:=by lia
   rw[lexlt_drop]at hR
   wp_walk
   exact⟨_,rfl,by simpa[Builtin.Tuple.tupleCompareSizes,e1,e2]using hR⟩
  case h =>
   exact⟨rfl,rfl,0,Nat.zero_le _,rfl,by simpa using h⟩
section
variable{prog:Program}{w:World}{A:Around}{E:Value->Shared->Prop}{s:Shared}
theorem lt_tups{p q:Addr}{ns ms:List Int}{Q:Value->Shared->Prop}(hu:A.units<cLine)(x:TupI s.heap (.ref p) ns)(y:TupI s.heap (.ref q) ms)(h:Q (.bool (lexlt ns ms)) s):wpAny (model prog w) A (compareOp .Lt (.ref p) (.ref q)) Q E s:=by
 obtain⟨a,⟨cls,dd,data,sl⟩,its,n,e1,g1,c1,d1,p1⟩:=x
 obtain⟨a',⟨cls2,dd2,data2,sl2⟩,its2,n2,e2,g2,c2,d2,p2⟩:=y
 cases e1
 cases e2
 simp only at c1 d1 c2 d2
 subst c1 d1 c2 d2
 exact richCompare_meets_room (op:=.Lt) ⟨_,g1,rfl⟩ ⟨_,g2,rfl⟩ F.slot_tuple_lt F.entry_tuple_lt (F.args_tuple_lt_2 _ _) (tuple_lt_meets p q its its2 ns ms n n2 dd dd2 sl sl2 p1 p2)
  ⟨g1,g2,show Value.bool (lexlt ns ms)≠Value.notImplemented/\Q (.bool (lexlt ns ms)) s from⟨(fun x=>nomatch x),h⟩⟩ hu
end
noncomputable def TupN(g:Heap)(v:Value)(ks:List Int):Prop:=∃ a ob t n x tk ns,v=Value.ref a/\g.get? a=some ob/\ob.cls = .type "tuple"/\ob.data = .seq #[.int x tk,.ref t] n/\TupI g (.ref t) ns/\ks=x :: ns
theorem TupN.inj{g:Heap}{v:Value}{ks js:List Int}(x:TupN g v ks)(y:TupN g v js):ks=js:=by
 obtain⟨a,ob,t,n,i,tk,ns,rfl,g1,_,d1,p1,rfl⟩:=x
 obtain⟨a',ob',t',n',i',tk',ns',e,g2,_,d2,p2,rfl⟩:=y
 cases e
 rw[g1]at g2
 cases g2
 rw[d1]at d2
 cases d2
 rw[p1.inj p2]
theorem TupN.to{g g':Heap}{v:Value}{ks:List Int}(x:TupN g v ks)(k:∀ b u,g.get? b=some u->u.cls = .type "tuple"->g'.get? b=some u):TupN g' v ks:=by
 obtain⟨a,ob,t,n,i,tk,ns,rfl,g1,c1,d1,⟨b,o,its,m,e,g2,c2,r⟩,rfl⟩:=x
 exact⟨a,ob,t,n,i,tk,ns,rfl,k _ _ g1 c1,c1,d1,⟨b,o,its,m,e,k _ _ g2 c2,c2,r⟩,rfl⟩
open Classical in
@[reducible] noncomputable def κN(g:Heap):KeyKind where
 α:=List Int
 blt:=lexlt
 irrefl:=lexlt_irrefl
 trans:=lexlt_trans
 negTrans:=lexlt_neg
 total:=lexlt_total
 keyOf v:=if h:∃ ks,TupN g v ks then some h.choose else none
 dflt:=([]:List Int)
open Classical in
theorem κN_key{g:Heap}{v:Value}{ks:List Int}(x:TupN g v ks):(κN g).keyOf v=some ks:=by
 have h:∃ js,TupN g v js:=⟨ks,x⟩
 show(if h:∃ js,TupN g v js then some h.choose else none)=some ks
 rw[dif_pos h,h.choose_spec.inj x]
open Classical in
theorem κN_of{g:Heap}{v:Value}{ks:List Int}(e:(κN g).keyOf v=some ks):TupN g v ks:=by
 have e':(if h:∃ js,TupN g v js then some h.choose else none)=some ks:=e
 by_cases h:∃ js,TupN g v js
 ·rw[dif_pos h]at e'
  rw[<- Option.some.inj e']
  exact h.choose_spec
 ·rw[dif_neg h]at e'
  cases e'
section
variable{prog:Program}{w:World}{A:Around}{E:Value->Shared->Prop}{s:Shared}
theorem ltN_ok{h₁:Heap}(hu:A.units<cLine)(kp:∀ v ks,TupN h₁ v ks->TupN s.heap v ks):LtOk (κN h₁) (tuples' true) prog w A s:=by
 intro E x y ka kb Q st hk ha hb q
 obtain⟨a,ob,t,n,i,tk,ns,e1,g1,_,d1,p1,rfl⟩:=kp _ _ (κN_of ha)
 obtain⟨a',ob',t',n',j,tk',ms,e2,g2,_,d2,p2,rfl⟩:=kp _ _ (κN_of hb)
 rw[lt'_eq]
 refine wpS_bind (wpS_get ?_)
 rw[hk,e1,e2]
 refine wpS_bind (wpS_lift (wpAny_attempt (kat_lt g1 d1 g2 d2 ?_)))
 have q:Q (some (lexlt (i :: ns) (j :: ms))) st:=q
 show KatLex prog w A true (decide (2<2)) _ [(.int i tk,.int j tk'),(.ref t,.ref t')] 0 s
 refine kat_cons (wpAny_eqBool_int (kat_go (fun z=>kat_yes ?_) fun z=>kat_no ?_))
 ·have z':i=j:=by simpa using z
  have l:lexlt (i :: ns) (j :: ms)=lexlt ns ms:=by simp[lexlt,z']
  refine kat_cons (L2.eqT hu p1 p2 prog w _ _ (kat_go (fun z=>kat_yes (kat_nil ?_)) fun z=>kat_no ?_))
  ·have z2:ns=ms:=of_decide_eq_true z
   refine⟨rfl,?_⟩
   rw[l,z2,lexlt_irrefl]at q
   exact wpS_pure q
  ·refine kat_one _ _ (lt_tups hu p1 p2 ?_)
   refine⟨rfl,?_⟩
   rw[l]at q
   exact wpS_pure q
 ·have z':i≠j:=by simpa using z
  have l:lexlt (i :: ns) (j :: ms)=decide (i<j):=by simp[lexlt,z']
  rw[l]at q
  exact oneLt_int ⟨rfl,wpS_pure q⟩
theorem tupsN_of{g:Heap}:∀ {us:List Value}{ks:List (List Int)},Paired (TupN g) us ks->∃ fs:List Value,KatTups g us fs/\fs.length=us.length/\∀ v∈fs,∃ i t,v=Value.int i t:=by
 intro us ks h
 induction h with
 |nil=>exact⟨[],trivial,rfl,fun _ h=>nomatch h⟩
 |cons h r ih =>
  obtain⟨a,ob,t,n,i,tk,ns,e,g1,c,d,_⟩:=h
  subst e
  obtain⟨fs,t',l,z⟩:=ih
  refine⟨.int i tk :: fs,KatTups.cons g1 c d rfl t',by simp[l],fun v hv=>?_⟩
  rcases List.mem_cons.mp hv with e | e
  ·exact⟨i,tk,e⟩
  ·exact z v e
theorem kindN{us:List Value}{ks:List (List Int)}{Q:SortKind->Shared->Prop}(h:Paired (TupN s.heap) us ks)(h2:2<=us.length)(q:Q (tuples' true) s):wpAny (model prog w) A (keyKind' us.toArray) Q E s:=by
 obtain⟨fs,t,l,z⟩:=tupsN_of h
 refine kat_kind (T:=Value.type "int") t (by lia) (fun v hv=>?_) (by decide) ?_
 ·obtain⟨i,tk,rfl⟩:=z v hv
  exact Looks.now
 ·have e:(Value.type "int" != Value.type "tuple")=true:=by decide
  rw[e]
  exact q
theorem fold_ok{body:Value->PUnit->Sem (ForInStep PUnit)}{vs:List Value}(J:Nat->List Value->Shared->Prop)
  (hb:∀ i x ks s,vs[i]?=some x->J i ks s->wpAny (model prog w) A (body x ⟨⟩) (fun r s'=>r = .yield ⟨⟩/\∃ k,J (i+1) (ks++[k]) s') E s) :
  ∀ (r:List Value) (i:Nat) (ks:List Value) (s:Shared),vs.drop i=r->i<=vs.length->J i ks s->wpAny (model prog w) A (forIn r PUnit.unit body) (fun _ s'=>∃ ks',J vs.length ks' s') E s
 |[],i,ks,s,hr,hi,h=>by
  rw[List.forIn_nil]
  have e:i=vs.length:=by
   have:=congrArg List.length hr
   rw[List.length_drop]at this
   simp at this
   lia
  exact wpAny_pure ⟨ks,by rw[<- e];exact h⟩
 |x :: r,i,ks,s,hr,hi,h=>by
  have hx:vs[i]?=some x:=by
   have:=congrArg (·[0]?) hr
   simpa using this
  have lt:i<vs.length:=(List.getElem?_eq_some_iff.mp hx).1
  rw[List.forIn_cons]
  refine wpAny_bind (wpAny_mono (hb i x ks s hx h) (fun q s' hq=>?_) fun _ _ e=>e)
  obtain⟨rfl,k,h'⟩:=hq
  refine fold_ok J hb r (i+1) _ s' ?_ lt h'
  rw[<- List.drop_drop,hr]
  rfl
theorem sort_keyed{D:Addr}{f:Value}{vs:List Value}{n:Nat}{P:Fin->Shared->Prop}(ho:s.heap.get? D=some (seqObj "list" vs.toArray n))(hl:vs.length<128)
  (h:∀ (kS:Addr) (e1:Nat) (g:Heap),s.heap.objs.size<=kS->g.get? D=some (seqObj "list" #[] e1)->g.get? kS=some (seqObj "list" #[] 0)->(∀ b u,b≠D->s.heap.get? b=some u->g.get? b=some u) ->
   ∃ J:Nat->List Value->Shared->Prop,J 0 [] { s with heap:=g } /\
    (∀ i x ks s1,vs[i]?=some x->J i ks s1->wpAny (model prog w) A (call f [x]) (fun k s2=>∃ e,s2.heap.get? kS=some (seqObj "list" ks.toArray e)/\ks.length<=i /\
     ∀ (g2:Heap) (c:Nat),Heap.SameBut kS s2.heap g2->g2.get? kS=some (seqObj "list" (ks++[k]).toArray c)->J (i+1) (ks++[k]) { s2 with heap:=g2 }) (fun _ _=>False) s1) /\
    ∀ ks s1,J vs.length ks s1->(∃ e,s1.heap.get? kS=some (seqObj "list" ks.toArray e))/\s1.heap.get? D=some (seqObj "list" #[] e1)/\ks.length=vs.length/\∃ js,Paired (TupN s1.heap) ks js /\
     ∀ (xs:Array Keyed) (g2:Heap) (c:Nat),xs.toList.Perm (ks.zip vs)->SortedToK (κN s1.heap) xs xs.size->(∀ b u,b≠D->b≠kS->s1.heap.get? b=some u->g2.get? b=some u)->g2.get? D=some (seqObj "list" (xs.toList.map (·.2)).toArray c) ->
      P (.done (.ret .none)) { s1 with heap:=g2 }) (hu:A.units<cLine) :
  wpAny (model prog w) A (ksk_tree D f false) P E s:=by
 have lt0:D<s.heap.objs.size:=Heap.lt_size ho
 obtain⟨e1,g1⟩:∃ c1,(s.heap.update D (Obj.mapSeq fun _=>#[])).get? D=some (seqObj "list" #[] c1):=⟨_,get?_update_seq ho _⟩
 have k1:∀ b u,b≠D->s.heap.get? b=some u->(s.heap.update D (Obj.mapSeq fun _=>#[])).get? b=some u:=fun b u ne e=>by rw[Heap.get?_update_ne _ _ _ _ ne];exact e
 have z1:(s.heap.update D (Obj.mapSeq fun _=>#[])).objs.size=s.heap.objs.size:=Heap.size_update ..
 generalize hg1:s.heap.update D (Obj.mapSeq fun _=>#[])=G1 at k1 g1 z1
 have kz:(G1.push (seqObj "tuple" vs.toArray 0)).objs.size=s.heap.objs.size+1:=by rw[size_push',z1]
 obtain⟨J,j0,st,fin⟩:=h (G1.push (seqObj "tuple" vs.toArray 0)).objs.size e1 ((G1.push (seqObj "tuple" vs.toArray 0)).push (seqObj "list" #[] 0)) (by rw[kz];exact Nat.le_succ _) (Heap.get?_push_of_some _ (Heap.get?_push_of_some _ g1)) (Heap.get?_push_size _ rfl)
  fun b u ne e=>Heap.get?_push_of_some _ (Heap.get?_push_of_some _ (k1 b u ne e))
 unfold ksk_tree
 refine wpAny_bind (listItems_at ho rfl (wpAny_bind (listUpdate_at ho rfl ?_ (hsz:=by rw[List.size_toArray,sizeLine_eq];lia))))
 rw[hg1]
 refine wpAny_bind (seqEpoch_at g1 rfl (wpAny_bind (wpAny_newTuple ?_ (by show vs.length<=_;rw[sizeLine_eq];lia))))
 refine wpAny_bind (wpAny_newList (wpAny_holding ?_))
 show wpAny (model prog w) A _ P E { s with heap:=(G1.push (seqObj "tuple" vs.toArray 0)).push (seqObj "list" #[] 0) }
 have neKD:(G1.push (seqObj "tuple" vs.toArray 0)).objs.size≠D:=by rw[kz];exact Nat.ne_of_gt (Nat.lt_succ_of_lt lt0)
 generalize (G1.push (seqObj "tuple" vs.toArray 0)).objs.size=kS at st fin neKD ⊢
 generalize (G1.push (seqObj "tuple" vs.toArray 0)).push (seqObj "list" #[] 0)=G2 at j0 ⊢
 unfold ksk_rest
 refine wpAny_bind (wpAny_rule ?_)
 rw[List.forIn_toArray]
 refine wpAny_bind (wpAny_mono (fold_ok (E:=E) J (fun i x ks s1 hx hJ=>?_) vs 0 [] _ rfl (Nat.zero_le _) j0) (fun _ s1 hd=>?_) fun _ _ e=>e)
 ·have lt:i<vs.length:=(List.getElem?_eq_some_iff.mp hx).1
  refine wpAny_bind (wpAny_attempt (wpAny_mono (st i x ks s1 hx hJ) (fun k s2 hk=>?_) fun _ _ hF=>hF.elim))
  obtain⟨e,gk,kl,nx⟩:=hk
  dsimp only
  refine wpAny_bind (listUpdate_at gk rfl ?_ (by rw[List.size_toArray,sizeLine_eq];lia) (by rw[Array.size_push,List.size_toArray,sizeLine_eq];lia))
  obtain⟨c2,hc2⟩:∃ c2,(s2.heap.update kS (Obj.mapSeq (·.push k))).get? kS=some (seqObj "list" (ks++[k]).toArray c2):=⟨_,by rw[show(ks++[k]).toArray=ks.toArray.push k by simp];exact get?_update_seq gk (·.push k)⟩
  exact wpAny_pure ⟨rfl,k,nx _ c2 (Heap.SameBut.update ..) hc2⟩
 ·obtain⟨ks,hJ⟩:=hd
  obtain⟨⟨e,gk⟩,gD,kl,js,PT,out⟩:=fin ks s1 hJ
  try dsimp only
  refine wpAny_bind (listItems_at gk rfl ?_)
  have tail:∀ st':SortSt,failedOf st'=none->(arrOf st').toList.Perm (ks.zip vs)->SortedToK (κN s1.heap) (arrOf st') (arrOf st').size->wpAny (model prog w) A (ksk_tail D false e1 (.ref kS) st') P E s1:=fun st' hf hp hs=>by
   have hz:(arrOf st').size=vs.length:=by
    have:=hp.length_eq
    rw[List.length_zip]at this
    simp at this
    lia
   obtain⟨ck,gk'⟩:∃ c,(s1.heap.update kS (Obj.mapSeq fun _=>#[])).get? kS=some (seqObj "list" #[] c):=⟨_,get?_update_seq gk _⟩
   have gD':(s1.heap.update kS (Obj.mapSeq fun _=>#[])).get? D=some (seqObj "list" #[] e1):=by rw[Heap.get?_update_ne _ _ _ _ (Ne.symm neKD)];exact gD
   have k2:∀ b u,b≠kS->s1.heap.get? b=some u->(s1.heap.update kS (Obj.mapSeq fun _=>#[])).get? b=some u:=fun b u ne e=>by rw[Heap.get?_update_ne _ _ _ _ ne];exact e
   unfold ksk_tail
   try dsimp only
   refine wpAny_bind (listUpdate_at gk rfl ?_ (hsz:=by rw[List.size_toArray,sizeLine_eq];lia))
   refine wpAny_bind (wpAny_letGo ?_)
   generalize s1.heap.update kS (Obj.mapSeq fun _=>#[])=G3 at gD' k2 ⊢
   refine wpAny_bind (seqEpoch_at gD' rfl (wpAny_bind (listUpdate_at gD' rfl ?_ (hsz2:=by simp only[Bool.false_eq_true,if_false];rw[Array.size_map,hz,sizeLine_eq];lia))))
   rw[hf]
   simp only[bne_self_eq_false,Bool.false_eq_true,if_false]
   obtain⟨c3,g3⟩:∃ c3,(G3.update D (Obj.mapSeq fun _=>(arrOf st').map (·.2))).get? D=some (seqObj "list" ((arrOf st').map (·.2)) c3):=⟨_,get?_update_seq gD' _⟩
   refine wpAny_pure (out (arrOf st') _ c3 hp hs (fun b u n1 n2 e=>by rw[Heap.get?_update_ne _ _ _ _ n1];exact k2 b u n2 e) ?_)
   rw[g3]
   congr 2
   apply Array.ext'
   simp
  have zz:(ks.toArray.zip vs.toArray).toList=ks.zip vs:=by simp
  have zs:(ks.toArray.zip vs.toArray).size=vs.length:=by simp[kl]
  unfold ksk_end
  simp only[Bool.false_eq_true,if_false]
  by_cases h2:vs.toArray.size<2
  ·rw[if_pos h2,if_pos h2]
   refine wpAny_bind (wpAny_pure ?_)
   rw[StateT.run_pure]
   refine wpAny_bind (wpAny_pure ?_)
   dsimp only
   refine tail _ rfl (by show(ks.toArray.zip vs.toArray).toList.Perm _;rw[zz]) fun i j ij jl=>?_
   have jl:j <(ks.toArray.zip vs.toArray).size:=jl
   have e:i=j:=by
    rw[zs]at jl
    simp only[List.size_toArray]at h2
    lia
   rw[e]
   exact KeyOrd.kle_refl _
  ·have h2':2<=vs.length:=by simpa using h2
   rw[if_neg h2,if_neg h2]
   refine wpAny_bind (kindN PT (by lia) ?_)
   have h0:KeysOf (κN s1.heap) (ks.toArray.zip vs.toArray):=fun p hp=>by
    rw[zz]at hp
    have m:=(List.of_mem_zip hp).1
    clear out tail zz zs hp gk st j0 kl hJ fin
    induction PT with
    |nil=>cases m
    |cons r _ ih =>
     rcases List.mem_cons.mp m with e | e
     ·rw[e];exact⟨_,κN_key r⟩
     ·exact ih e
   refine wpAny_bind (wpAny_mono (runs_ok (κ:=κN s1.heap) (kd:=tuples' true) (a₀:=ks.toArray.zip vs.toArray) (st:=SortSt.mk' (tuples' true) (ks.toArray.zip vs.toArray) #[] 7 none) (Q:=fun _ st'=>(arrOf st').Perm (ks.toArray.zip vs.toArray)/\failedOf st'=none/\SortedToK (κN s1.heap) (arrOf st') (ks.toArray.zip vs.toArray).size)
    (ltN_ok hu fun _ _ x=>x) h0 ⟨Array.Perm.refl _,rfl,rfl,rfl,fun k z=>absurd z (Nat.not_lt_zero _)⟩ (by rw[zs];exact h2') (by rw[zs];exact hl) fun st' a1 a2 a3=>⟨a1,a2,fun i j ij jl=>by
     have:=a3 i j ij jl
     rw[Nat.zero_add,Nat.zero_add]at this
     exact this⟩) ?_ fun _ _ e=>e)
   rintro⟨⟨⟩,st'⟩ s' ⟨rfl,hp,hf,hs⟩
   dsimp only
   refine tail st' hf ?_ ?_
   ·rw[<- zz];exact Array.perm_iff_toList_perm.mp hp
   ·rw[hp.size_eq];exact hs
end
end Srt
namespace L2
open PySem PySem.W PyProof.Rows Srt
noncomputable def cdO(c:Addr)(q:Str):HO:=.ext fun h=>h.CodeRec (.ref c) q
theorem cdO_ok{P:Program}{w:World}{H:Hp}{h:Heap}{c:Addr}{q:Str}(r:h.CodeRec (.ref c) q):ObjOk P w H h c (cdO c q):=by
 refine⟨r,?_,fun h1 h2 z k=>?_⟩
 ·obtain⟨c',o,vs,t,e,g,_⟩:=r
  cases e
  exact⟨o,g⟩
 ·obtain⟨c',o,vs,t,e,g,d⟩:=z
  cases e
  exact⟨c,o,vs,t,rfl,k o g,d⟩
noncomputable def TabH(P:Addr)(pos:Pos)(q:Str)(H:Hp):Prop:=H P=some (.tbl #[])\/∃ c,H P=some (.tbl #[rawInt pos.line,rawInt pos.col,.ref c])/\H c=some (cdO c q)
noncomputable def BytP(P:Addr)(H H':Hp):Prop:=∀ b o,b≠P->H b=some o->H' b=some o
theorem BytP.trans{P:Addr}{H H' H'':Hp}(a:BytP P H H')(b:BytP P H' H''):BytP P H H'':=fun c o n e=>b c o n (a c o n e)
theorem BytP.of{P:Addr}{H H':Hp}(s:Same H H'):BytP P H H':=fun c o _ e=>s c o e
theorem TabH.same{P:Addr}{pos:Pos}{q:Str}{H H':Hp}(t:TabH P pos q H)(s:Same H H'):TabH P pos q H':=by
 rcases t with t |⟨c,t,u⟩
 ·exact .inl (s _ _ t)
 ·exact .inr ⟨c,s _ _ t,s _ _ u⟩
structure LamCx(X:Cx)(c P:Addr):Prop where
 code:X.env.code = .ref c
 hd:CodeHd X.base c P
 blt:X.base.BuiltinsAt X.mg P
section
variable{X:Cx}{pins:List (Addr×Obj)}{σ:St}{H:Hp}{s:Shared}{c P:Addr}{params:Arguments}{body:Expr}{scope:Scope}{pos:Pos}{N':List Str}{cap:List (Option Nat)}
noncomputable abbrev lamObj(X:Cx)(params:Arguments)(body:Expr)(scope:Scope)(c':Addr)(ctv:Value):Obj:=kla_obj "<lambda>" (X.env.qual++"<lambda>") params body scope (closCl X.env.cells scope.names []) ((X.mg "__name__").getD .none) c' ctv
theorem lam_make(I:Inv X pins σ H s)(LC:LamCx X c P)(S:CompScope N' cap X.N X.env.scope scope)(T:TabH P pos (X.env.qual++"<lambda>") H)(hdef:defaultsOf params X.env=([],[])){Q:Value->Shared->Prop}
  (h:∀ (f c':Addr) (ctv:Value) (H':Hp) (s':Shared),Inv X (pins++[(f,lamObj X params body scope c' ctv)]) σ H' s'->TabH P pos (X.env.qual++"<lambda>") H'->H' c'=some (cdO c' (X.env.qual++"<lambda>"))->BytP P H H'->(∀ b,H' b=none->H b=none)->Q (.ref f) s') :
  wpAny (model X.prog X.w) X.A (eval (.Lambda params body scope pos) X.env) Q X.xe s:=by
 have hg:=I.mod.glob.keeps I.bk
 have hC:=LC.hd.keeps I.bk
 obtain⟨bm,ob,b1,b2,b3,b4,b5,b6⟩:=LC.blt
 have hB:s.heap.BuiltinsAt X.mg P:=⟨bm,ob,b1,b2,b3,b4,I.bk _ _ b5,b6⟩
 have hPn:H P≠none:=by
  rcases T with t |⟨_,t,_⟩ <;> rw[t] <;> simp
 have hgP:mainGlobals≠P:=fun z=>by
  obtain⟨o,_,_,e,_⟩:=I.mod.glob
  exact hPn (z ▸(I.bs _ _ e).2)
 refine kla_eval hdef ?_
 rcases T with t |⟨c',t,u⟩
 ·have hP:s.heap.get? P=some (tabObj #[]):=I.hok P _ t
  refine kla_makeFunction (mg:=X.mg) (closureFor_cells (S.clos I)) I.ok.glob hg LC.code hC hP trivial rfl hgP hB fun c' ctv h' tk hx hge hlt hrec htb=>?_
  have fc:H c'=none:=I.hok.fresh hge
  have cP:c'≠P:=fun z=>hPn (z▸fc)
  have ff:H h'.objs.size=none:=I.hok.fresh (Nat.le_trans hge (Nat.le_of_lt hlt))
  have fP:h'.objs.size≠P:=fun z=>hPn (z▸ff)
  generalize hH:upd (upd H c' (cdO c' (X.env.qual++"<lambda>"))) P (.tbl #[rawInt pos.line,rawInt pos.col,.ref c'])=H'
  have hP':H' P=some (.tbl #[rawInt pos.line,rawInt pos.col,.ref c']):=by rw[<- hH];exact upd_same
  have hc':H' c'=some (cdO c' (X.env.qual++"<lambda>")):=by rw[<- hH,upd_ne cP];exact upd_same
  have old:∀ b,b≠P->b≠c'->H' b=H b:=fun b n1 n2=>by rw[<- hH,upd_ne n1,upd_ne n2]
  have byt:BytP P H H':=fun b o n e=>by rw[old b n (ne_of_none e fc)];exact e
  have lt2:h'.objs.size <(h'.push (lamObj X params body scope c' ctv)).objs.size:=by rw[Heap.size_push];exact Nat.lt_succ_self _
  have kp:∀ b o,b≠P->s.heap.get? b=some o->(h'.push (lamObj X params body scope c' ctv)).get? b=some o:=fun b o n e=>Heap.get?_push_of_some _ (hx b o n e)
  have hok:HOk X.prog X.w H' (h'.push (lamObj X params body scope c' ctv)):=fun b o e=>by
   by_cases hbP:b=P
   ·subst hbP
    rw[hP']at e
    cases e
    show(h'.push _).get? _=some _
    exact Heap.get?_push_of_some _ htb
   ·by_cases hbc:b=c'
    ·subst hbc
     rw[hc']at e
     cases e
     refine cdO_ok ?_
     obtain⟨c1,o1,vs,t1,e1,g1,d1⟩:=hrec
     exact⟨c1,o1,vs,t1,e1,Heap.get?_push_of_some _ g1,d1⟩
    ·rw[old b hbP hbc]at e
     refine(I.hok b o e).stay (fun b' u' hb' q'=>kp b' u' (fun z=>?_) q') (fun b' q'=>byt b' _ (fun z=>?_) q') fun b' xs q'=>byt b' _ (fun z=>?_) q'
     ·rcases hb' with hb' | hb'
      ·exact hbP (hb'.symm.trans z)
      ·rw[z,t]at hb';cases hb'
     ·rw[z,t]at q';cases q'
     ·rw[z,t]at q';cases q'
  have neP:∀ b,H b=none->b≠P:=fun b n z=>hPn (z▸n)
  have I1:Inv X pins σ H' { s with heap:=h'.push (lamObj X params body scope c' ctv),toks:=tk }:=by
   refine I.step (g':=s.gens) (d':=s.drawn) (ch:=[]) (fun _ z=>nomatch z) (fun b o _ _ _ e n=>kp b o (neP b n) e) (fun b o _ _ _ e n=>⟨o.slots,kp b o (neP b n) e⟩) (fun b o _ e n=>?_) (fun b o _ e=>?_) (fun b xs e=>byt b _ (fun z=>?_) e) (fun b o u' e=>byt b _ (fun z=>?_) e) (fun b ps e=>?_) (fun m hm=>?_) hok I.bare
   ·rw[old b (neP b n) (Nat.ne_of_lt (Nat.lt_of_lt_of_le (Heap.lt_size e) hge))]
    exact n
   ·by_cases z:b=P
    ·exact⟨_,z▸Heap.get?_push_of_some _ htb⟩
    ·exact⟨o,kp b o z e⟩
   ·rw[z,t]at e;cases e
   ·rw[z,t]at e;cases e
   ·by_cases z:b=P
    ·subst z
     rw[t]at e
     cases e
     exact⟨#[rawInt pos.line,rawInt pos.col,.ref c'],by rw[hP'];simp⟩
    ·exact⟨#[],by rw[byt b _ z e];simp⟩
   ·obtain⟨o,es,ep,ho,r⟩:=hm
    exact⟨o,es,ep,kp _ o (neP _ I.free) ho,r⟩
  refine h h'.objs.size c' ctv H' _ (I1.pins_of fun p hp=>?_) (.inr ⟨c',hP',hc'⟩) hc' byt fun b n=>?_
  ·rcases List.mem_append.mp hp with hp | hp
   ·exact I1.pin p (List.mem_append_right _ hp)
   ·have e:p=(h'.objs.size,lamObj X params body scope c' ctv):=by simpa using hp
    subst e
    have sz:s.heap.objs.size<=h'.objs.size:=Nat.le_trans hge (Nat.le_of_lt hlt)
    refine⟨Heap.get?_push_size _ rfl,?_,Nat.ne_of_gt (Nat.lt_of_lt_of_le I.lt sz),I.nofs sz,fun v z=>by cases z⟩
    show H' h'.objs.size=none
    rw[old _ fP (Nat.ne_of_gt hlt)]
    exact ff
  ·have n1:b≠P:=fun z=>by rw[z,hP']at n;cases n
   have n2:b≠c':=fun z=>by rw[z,hc']at n;cases n
   rw[<- old b n1 n2]
   exact n
 ·have hP:s.heap.get? P=some (tabObj #[rawInt pos.line,rawInt pos.col,.ref c']):=I.hok P _ t
  have hf:codeAmong pos [rawInt pos.line,rawInt pos.col,.ref c']=some (.ref c'):=codeAmong_snoc [] trivial rfl
  refine kla_makeFunctionHit (mg:=X.mg) (cv:=.ref c') (closureFor_cells (S.clos I)) I.ok.glob hg LC.code hC hP (TriplesOk_snoc _ _ _ [] trivial) hf hB fun ctv h' tk hk hsz=>?_
  have I1:Inv X pins σ H { s with heap:=h'.push (lamObj X params body scope c' ctv),toks:=tk }:=I.kept fun b u e=>Heap.get?_push_of_some _ (hk b u e)
  refine h h'.objs.size c' ctv H _ (I1.pins_of fun p hp=>?_) (.inr ⟨c',t,u⟩) u (fun b o _ e=>e) fun b n=>n
  rcases List.mem_append.mp hp with hp | hp
  ·exact I1.pin p (List.mem_append_right _ hp)
  ·have e:p=(h'.objs.size,lamObj X params body scope c' ctv):=by simpa using hp
   subst e
   exact⟨Heap.get?_push_size _ rfl,I.hok.fresh hsz,Nat.ne_of_gt (Nat.lt_of_lt_of_le I.lt hsz),I.nofs hsz,fun v z=>by cases z⟩
noncomputable abbrev lamEnv(X:Cx)(scope:Scope)(f c':Addr)(s:Shared):Env:=envX (X.env.qual++"<lambda>") scope s.heap.objs.size f (.ref c') (closCl X.env.cells scope.names [])
noncomputable def cxLam(X:Cx)(A':Around)(N':List Str)(scope:Scope)(f c':Addr)(s:Shared)(H:Hp):Cx :=
 ⟨X.prog,X.w,X.K,X.mg,X.base,A'.deeper (lamEnv X scope f c' s),N',s,H,lamEnv X scope f c' s,X.stack,lamEnv X scope f c' s :: X.stack,[],fun _=>false,true,[],fun _ _=>False⟩
theorem lam_call{A':Around}{f c':Addr}{ctv u:Value}{x:Str}{v:V}{te:TE}{Q:VK}(I:Inv X pins σ H s)(hA:A'.frames=some X.stack)(hr:Room 1 A')(hpin:(f,lamObj X params body scope c' ctv)∈X.pn++pins)(hc:H c'=some (cdO c' (X.env.qual++"<lambda>")))
  (S:CompScope N' cap X.N X.env.scope scope) (hco:scope.isCoroutine=false) (hgen:scope.isGenerator=false) (hx:scope.names.lookup x=some .local) (hN:N'[0]?=some x) (h0:cap[0]?=some none) (nd:N'.Nodup)
  (hb:∀ (fd:FuncData),fd.params=params->fd.defaults = .none->fd.kwdefaults = .none->bindArgs fd ⟨[u],[]⟩=pure [(x,u)]) (r:RelV v u)
  (he:∀ (A':Around) (f c':Addr) (s:Shared) (H:Hp),Room 0 (cxLam X A' N' scope f c' s H).A->PE (cxLam X A' N' scope f c' s H) body te) (h:te ((capt cap σ).set 0 (some v)) H Q) :
  wpAny (model X.prog X.w) A' (call (.ref f) [u]) (EP X pins σ Q) (fun _ _=>False) s:=by
 have crec:s.heap.CodeRec (.ref c') (X.env.qual++"<lambda>"):=(I.hok c' _ hc).1
 have ho:=(I.pin _ hpin).1
 have e0:Env0 X.prog X.w X.K X.mg X.base A' X.stack s H:=⟨hA,I.ok.mod,I.bs,Nat.le_trans I.ok.bsz I.sz,I.stack,I.stkFree,I.hok,I.bare⟩
 refine wpAny_call (kla_callFunE hr.depth ho rfl hco hgen rfl crec ?_)
 rw[hb _ rfl rfl rfl]
 refine wpAny_pure (wpAny_newFunctionEnv S.nocell (fun y hy=>?_) (fun h₁ hns hsb=>⟨(I.nolimit).fresh _ hsb,?_⟩) S.kind)
 ·have e:y=(x,u):=by simpa using hy
  rw[e]
  exact hx
 have old:∀ b o,s.heap.get? b=some o->h₁.get? b=some o:=fun b o e=>hsb.extBut b o (Nat.ne_of_lt (Heap.lt_size e)) (Heap.get?_push_of_some _ e)
 have clo:=S.clos I
 have snd:∀ y c,(closCl X.env.cells scope.names []).lookup y=some c->X.env.cells.lookup y=some c:=fun y c e=>closCl_sound scope.names [] clo (fun y c e=>by simp at e) y c e
 have noA:∀ b:Addr,b∉(cxLam X A' N' scope f c' s H).ex:=fun b z=>absurd (show b∈([]:List Addr)from z) (by simp)
 have hcap:0<cap.length:=(List.getElem?_eq_some_iff.mp h0).1
 have len0:(capt cap σ).length=N'.length:=by unfold capt;rw[List.length_map];exact S.len
 have J:Inv (cxLam X A' N' scope f c' s H) [] ((capt cap σ).set 0 (some v)) H { s with heap:=h₁,toks:=s.toks + [(x,u)].length }:=by
  refine⟨⟨I.ok.mod,S.kind,rfl,rfl,Nat.le_refl _,fun y z c h1 h2=>I.ok.inj y z c (snd y c h1) (snd z c h2),fun y hy=>?_,fun y c' h=>(nomatch h),fun _=>hr.hd,Around.frames_deeper hA,.inr ⟨rfl,rfl⟩,fun b z=>absurd z (noA b),e0.bs,e0.bsz,fun b _ _=>noA b,fun b z=>absurd z (noA b),e0.funs,e0.frf⟩,
   rfl,e0.bare,Un.kept old,⟨_,hns,fun j y w' h1 h2 h3=>?_⟩,fun y c1 e=>?_,I.hok.fresh (Nat.le_refl _),fun y c1 e=>I.freeC y c1 (snd y c1 e),fun p hp=>absurd (show p∈([]:List (Addr×Obj))from hp) (by simp),I.hok.kept old,by rw[List.length_set];exact len0⟩
  ·have hy:scope.names.lookup y=some .cell\/scope.names.lookup y=some .free:=hy
   rcases hy with hy | hy
   ·exact absurd rfl (S.nocell _ (lookup_mem hy))
   ·exact closCl_has scope.names [] y (lookup_mem hy)
  ·have h1:N'[j]?=some y:=h1
   by_cases hj:j=0
   ·subst hj
    rw[hN]at h1
    cases h1
    rw[List.getElem?_set_self (by rw[len0];exact(List.getElem?_eq_some_iff.mp hN).1)]at h2
    cases h2
    exact⟨u,r,.inl ⟨hx,by simp⟩⟩
   ·rw[List.getElem?_set_ne (Ne.symm hj)]at h2
    have jl:j<cap.length:=by rw[S.len];exact(List.getElem?_eq_some_iff.mp h1).1
    have hcp:=S.cap j (List.mem_range.mpr jl)
    unfold capt at h2
    rw[List.getElem?_map]at h2
    cases hq:cap[j]? with
    |none=>rw[hq]at h2;cases h2
    |some o =>
     rw[hq]at h2 hcp
     cases o with
     |none=>cases h2
     |some i =>
      simp only[h1]at hcp
      obtain⟨hNi,hfr⟩:=hcp
      have e3:σ[i]?=some (some w'):=by
       have h2:(σ[i]?).join=some w':=Option.some.inj h2
       cases hs:σ[i]? with
       |none=>rw[hs]at h2;cases h2
       |some w2=>rw[hs]at h2;have h2:w2=some w':=h2;rw[h2]
      have hm:=lookup_mem hfr
      have hk:=S.fre _ hm rfl
      obtain⟨m0,hn0,hl0⟩:=I.loc
      obtain⟨u',r',l⟩:=hl0 i y w' hNi e3 (.inr hk)
      refine⟨u',r',?_⟩
      rcases l with⟨l,_⟩ |⟨_,c1,e,z⟩
      ·rcases hk with hk | hk
       ·rw[show X.env.kindOf y=some .cell from hk]at l;cases l
       ·rw[show X.env.kindOf y=some .free from hk]at l;cases l
      ·obtain⟨c2,hc2⟩:=closCl_has (cells:=X.env.cells) scope.names [] y hm
       have hs:=snd y c2 hc2
       rw[e]at hs
       cases hs
       refine .inr ⟨.inr hfr,c1,hc2,?_⟩
       obtain⟨oc,ho',hd'⟩:=z
       exact⟨oc,old _ _ ho',hd'⟩
  ·obtain⟨v1,oc,ho',hd'⟩:=I.cell y c1 (snd y c1 e)
   exact⟨v1,oc,old _ _ ho',hd'⟩
 refine kla_codeExpr (wpAny_mono (he A' f c' s H (hr.deeper _) [] _ _ H _ J h) (fun k s' hk=>?_) fun _ _ z=>z.elim)
 obtain⟨kv,H',J',rk,q⟩:=hk
 exact I.after ⟨kv,H',J'.os,J'.bare,J'.base,J'.hok,rk,q⟩
end
open PySem PySem.W PyProof.Rows Srt
section
variable{prog:Program}{w:World}{A:Around}{E:Value->Shared->Prop}{s:Shared}
theorem collect_tup{l:Addr}{vs:List Value}{Q:List Value->Shared->Prop}(ht:IsTup s.heap l vs.toArray)(hz:vs.length<=sizeLine)
  (h:Q vs { s with heap:=(s.heap.push (seqObj "list" #[] 0)).update s.heap.objs.size (Obj.mapSeq (·++vs.toArray)) }):wpAny (model prog w) A (collect (.ref l)) Q E s:=by
 obtain⟨o,ho,hc,n,hd⟩:=ht
 unfold collect
 refine wpAny_bind (wpAny_runValue (codeAny_builtin entry_proto_collect' ?_))
 show wpAny _ _ (do again (.builtin "list.__iadd__" ⟨[<- newList [],.ref l],[]⟩)) _ _ s
 refine wpAny_bind (wpAny_newList (wpAny_pure ⟨Code.quiet_builtin _ (by decide +kernel),codeAny_builtin entry_list_iadd' ?_⟩))
 show wpAny _ _ (Builtin.List.listExtendWith (.ref s.heap.objs.size) (.ref l) (.ref s.heap.objs.size)) _ _ { s with heap:=s.heap.push (seqObj "list" #[] 0) }
 have ho2:(s.heap.push (seqObj "list" #[] 0)).get? l=some o:=Heap.get?_push_of_some _ ho
 unfold Builtin.List.listExtendWith
 refine wpAny_bind (wpAny_typeOf (T:="tuple") ⟨o,ho2,hc⟩ ?_)
 rw[if_pos (by rw[show(Value.type "tuple" == Value.type "tuple")=true from rfl];simp)]
 refine wpAny_bind (listItems_at ho2 hd (wpAny_bind (listItems_at (xs:=#[]) (n:=0) (Heap.get?_push_size _ rfl) rfl ?_)))
 rw[if_neg (by simp)]
 refine wpAny_bind (listUpdate_at (xs:=#[]) (n:=0) (Heap.get?_push_size _ rfl) rfl ?_ (Nat.zero_le _) (by show(#[]++vs.toArray).size<=sizeLine+1;simp;lia))
 refine wpAny_pure ?_
 show wpAny (model prog w) A (load s.heap.objs.size >>= fun o=>match o.data with
   | .seq xs _=>pure xs.toList
   | _=>unsupported "internal:collect") Q E { s with heap:=(s.heap.push (seqObj "list" #[] 0)).update s.heap.objs.size (Obj.mapSeq (·++vs.toArray)) }
 refine wpAny_bind (wpAny_load (get?_update_seq (Heap.get?_push_size _ rfl) _) ?_)
 have e:((#[]:Array Value)++vs.toArray).toList=vs:=by simp
 show wpAny _ _ (pure ((#[]:Array Value)++vs.toArray).toList) Q E _
 rw[e]
 exact wpAny_pure h
end
theorem pairApp{α β:Type}{F:α->β->Prop}{l1 m1:List α}{l2 m2:List β}(h:Paired F l1 l2)(k:Paired F m1 m2):Paired F (l1++m1) (l2++m2):=by
 induction h with
 |nil=>exact k
 |cons r _ ih=>exact .cons r ih
noncomputable def keyV(g:Heap)(v:Value):List Int:=(show Option (List Int)from(κN g).keyOf v).getD []
theorem keyV_eq{g:Heap}{v:Value}{k:List Int}(x:TupN g v k):keyV g v=k:=by
 unfold keyV
 rw[κN_key x]
 rfl
theorem zip_keys{g:Heap}{us:List Value}{keys:List (List Int)}(h:Paired (TupN g) us keys):∀ {as:List Addr},us.length=as.length->(us.zip (as.map Value.ref)).map (fun p=>(keyV g p.1,unref p.2))=keys.zip as:=by
 induction h with
 |nil=>intro as _;cases as <;> rfl
 |cons r _ ih =>
  intro as hl
  cases as with
  |nil=>rfl
  |cons a as =>
   rw[List.map_cons,List.zip_cons_cons,List.map_cons,List.zip_cons_cons,ih (by simpa using hl),keyV_eq r]
   rfl
theorem refs_back{as:List Addr}{us ws:List Value}:∀ {l:List (Value×Value)},(∀ p∈l,p∈us.zip (as.map Value.ref))->(l.map fun p=>unref p.2).map Value.ref=l.map (·.2)
 |[],_=>rfl
 |p :: l,h=>by
  rw[List.map_cons,List.map_cons,List.map_cons,refs_back (ws:=ws) fun p hp=>h p (List.mem_cons_of_mem _ hp)]
  have m:=(List.of_mem_zip (h p (List.mem_cons_self ..))).2
  obtain⟨a,_,e⟩:=List.mem_map.mp m
  rw[<- e]
  rfl
noncomputable def KeyAt(G:Hp)(a:Addr)(k:List Int):Prop:=∃ (t:Addr) (z:Int) (ns:List Int),G a=some (.tup [.int z,.ref t])/\G t=some (.tup (ns.map V.int))/\k=z :: ns
theorem KeyAt.same{G G':Hp}{a:Addr}{k:List Int}(h:KeyAt G a k)(s:Same G G'):KeyAt G' a k:=by
 obtain⟨t,z,ns,h1,h2,e⟩:=h
 exact⟨t,z,ns,s _ _ h1,s _ _ h2,e⟩
noncomputable def tSortK(P:Addr)(lpos:Pos)(q:Str)(cap:List (Option Nat))(t:TA)(te:TE):TE:=fun σ H Q=>t σ H fun vs H1=>∃ (l:Addr) (b:Bool) (as:List Addr) (keys:List (List Int)),vs=[.ref l]/\H1 l=some (sqO b (as.map V.ref))/\as.length<128/\keys.length=as.length/\TabH P lpos q H1 /\
 ∀ H2,BytP P H1 H2->(∀ b,H2 b=none->H1 b=none) ->
  (∀ (i:Nat) (hi:i<as.length) (G:Hp),Same H2 G->te ((capt cap σ).set 0 (some (.ref as[i]))) G fun k G'=>Same G G'/\∃ (a:Addr) (kk:List Int),k = .ref a/\keys[i]?=some kk/\KeyAt G' a kk) /\
  ∀ (l':Addr) (zs:List (List Int×Addr)) (H3:Hp),TabH P lpos q H3->Same H2 H3->H3 l'=none->zs.Perm (keys.zip as)->zs.Pairwise (fun x y=>lexlt y.1 x.1=false)->Q (.ref l') (upd H3 l' (.lst (zs.map fun z=>V.ref z.2)))
section
variable{X:Cx}{c P:Addr}{params:Arguments}{body e:Expr}{scope:Scope}{lpos p pos kpos:Pos}{N':List Str}{cap:List (Option Nat)}{x:Str}{t:TA}{te:TE}
theorem tupN_of{pins:List (Addr×Obj)}{σ:St}{H:Hp}{s:Shared}(I:Inv X pins σ H s){a:Addr}{k:List Int}(h:KeyAt H a k):TupN s.heap (.ref a) k:=by
 obtain⟨tt,z,ns,h1,h2,rfl⟩:=h
 obtain⟨its,r,⟨o,e,c,n,d⟩,_⟩:=I.tuple (SqT.of h1)
 cases r with
 |cons r1 r2 =>
  cases r2 with
  |cons r2 r3 =>
   cases r3
   obtain⟨tk,rfl⟩:=r1
   cases r2
   exact⟨a,o,tt,n,z,tk,ns,rfl,e,c,d,tupI_of I h2,rfl⟩
theorem tupsN_at{pins:List (Addr×Obj)}{σ:St}{H:Hp}{s:Shared}(I:Inv X pins σ H s){as:List Addr}{ks:List (List Int)}(h:Paired (KeyAt H) as ks):Paired (TupN s.heap) (as.map Value.ref) ks:=by
 induction h with
 |nil=>exact .nil
 |cons r _ ih=>exact .cons (tupN_of I r) ih
theorem pe_sortKey(hr:Room 3 X.A)(LC:LamCx X c P)(S:CompScope N' cap X.N X.env.scope scope)(hg:Gl X "sorted")(hm:X.mg "sorted" = none)(ha:PA X [e] t)
  (he:∀ (A':Around) (f c':Addr) (s:Shared) (H:Hp),Room 0 (cxLam X A' N' scope f c' s H).A->PE (cxLam X A' N' scope f c' s H) body te)
  (hb:∀ (u:Value) (fd:FuncData),fd.params=params->fd.defaults = .none->fd.kwdefaults = .none->bindArgs fd ⟨[u],[]⟩=pure [(x,u)])
  (hx:scope.names.lookup x=some .local) (hN:N'[0]?=some x) (h0:cap[0]?=some none) (nd:N'.Nodup) (hco:scope.isCoroutine=false:=by rfl) (hgen:scope.isGenerator=false:=by rfl) (hdef:defaultsOf params X.env=([],[]):=by rfl)
  (hs:backTo pos (starEach [e] X.env)=(false,eval e X.env) :: backTo pos (starEach [] X.env):=by rfl) (hpl:(backTo pos (starEach [e] X.env)).any (·.1)=false:=by rfl) :
  PE X (.Call (.Name "sorted" p) [e] [⟨some "key",.Lambda params body scope lpos,kpos⟩] pos) (tSortK P lpos (X.env.qual++"<lambda>") cap t te):=by
 intro pins s σ H Q I h
 refine wpAny_Call_Name_kw (ld_blt I hg hm boot_sorted ?_ (by decide) (by decide))
 refine callWith_kw (thn (ha pos pins s σ H _ I h) fun us s1 ⟨vs,H1,I1,r,q⟩=>?_) hs hpl
 obtain⟨l,b,as,keys,rfl,hl,hlen,klen,T,q⟩:=q
 obtain⟨u,rfl,rx⟩:=vals1 r
 cases rx
 refine kws_cons (lam_make I1 LC S T hdef fun f c' ctv H2 s2 I2 T2 hc2 byt fre=>kws_nil ?_)
 have q2:=q H2 byt fre
 obtain⟨qk,qo⟩:=q2
 have lP:l≠P:=fun z=>by
  rcases T with T |⟨_,T,_⟩ <;> rw[z,T]at hl <;> cases b <;> cases hl
 have hl2:=byt _ _ lP hl
 show wpAny (model X.prog X.w) X.A (call (.builtin "sorted") [.ref l] [(Str.ofString "key",.ref f)]) (EP X pins σ Q) X.xe s2
 refine call_function_entry_kw kind_sorted plain_sorted entry_sorted (ksk_s1 _ _) ?_
 unfold Builtin.«sorted»
 refine wpAny_bind (m:=checkCount "sorted" 1 1 _) (wpAny_pure ?_)
 have col:∀ {R:List Value->Shared->Prop},R (as.map Value.ref) { s2 with heap:=(s2.heap.push (seqObj "list" #[] 0)).update s2.heap.objs.size (Obj.mapSeq (·++(as.map Value.ref).toArray)) }->wpAny (model X.prog X.w) X.A.in1 (collect (.ref l)) R X.xe s2:=fun {R} hR=>by
  rcases sq_or (K:=X.K) hl2 with hq | hq
  ·obtain⟨its,r',pl,hz⟩:=I2.list hq
   have er:=refs_of r'
   subst er
   exact collect_list pl.isList hR (by rw[List.length_map,sizeLine_eq];lia)
  ·obtain⟨its,r',pl,hz⟩:=I2.tuple hq
   have er:=refs_of r'
   subst er
   exact collect_tup pl (by rw[List.length_map,sizeLine_eq];lia) hR
 refine wpAny_bind (col ?_)
 generalize hh':(s2.heap.push (seqObj "list" #[] 0)).update s2.heap.objs.size (Obj.mapSeq (·++(as.map Value.ref).toArray))=h'
 have kp:∀ b u,s2.heap.get? b=some u->h'.get? b=some u:=hh'▸collect_kept
 have szh:s2.heap.objs.size<=h'.objs.size:=by rw[<- hh',Heap.size_update,Heap.size_push];exact Nat.le_succ _
 refine wpAny_bind (wpAny_newList ?_ (by rw[List.length_map,sizeLine_eq];lia))
 have gL:(h'.push (seqObj "list" (as.map Value.ref).toArray 0)).get? h'.objs.size=some (seqObj "list" (as.map Value.ref).toArray 0):=Heap.get?_push_size _ rfl
 have kp2:∀ b u,s2.heap.get? b=some u->(h'.push (seqObj "list" (as.map Value.ref).toArray 0)).get? b=some u:=fun b u e=>Heap.get?_push_of_some _ (kp b u e)
 have Dfr:∀ G:Hp,G h'.objs.size=none->∀ {p':List (Addr×Obj)},True:=fun _ _ _=>trivial
 refine wpAny_bind (wpAny_holding (wpAny_call_entry_kw slot_list_sort ⟨_,gL,rfl⟩ entry_list_sort ?body (ksk_l1 _ _)))
 case body =>
  show wpAny (model X.prog X.w) X.A.in1.in1 (Builtin.«list.sort» ⟨[.ref h'.objs.size],[(Str.ofString "key",.ref f)]⟩) _ _ _
  rw[ksk_t1]
  have hr1:Room 1 X.A.in1.in1:=(hr.in1).in1
  refine sort_keyed (s:={ s2 with heap:=h'.push (seqObj "list" (as.map Value.ref).toArray 0) }) gL (by rw[List.length_map];exact hlen) (fun kS e1 g hk gD gk kg=>?_) hr1.units0
  have hD:s2.heap.objs.size<=h'.objs.size:=szh
  have hkS:s2.heap.objs.size<=kS:=by
   have hk:(h'.push (seqObj "list" (as.map Value.ref).toArray 0)).objs.size<=kS:=hk
   rw[Heap.size_push]at hk
   lia
  have neKD:kS≠h'.objs.size:=by
   have hk:(h'.push (seqObj "list" (as.map Value.ref).toArray 0)).objs.size<=kS:=hk
   rw[Heap.size_push]at hk
   exact Nat.ne_of_gt hk
  have k2g:∀ b u,s2.heap.get? b=some u->g.get? b=some u:=fun b u e=>kg b u (Nat.ne_of_lt (Nat.lt_of_lt_of_le (Heap.lt_size e) szh)) (kp2 b u e)
  have fpD:∀ {G:Hp},G h'.objs.size=none->FpOk X (pins++[(f,lamObj X params body scope c' ctv)]) G h'.objs.size:=fun n=>I2.fpOk hD n
  have fpK:∀ {G:Hp},G kS=none->FpOk X (pins++[(f,lamObj X params body scope c' ctv)]) G kS:=fun n=>I2.fpOk hkS n
  generalize hD':h'.objs.size=D at *
  generalize hpn:pins++[(f,lamObj X params body scope c' ctv)]=pn2 at I2 fpD fpK
  refine⟨fun i ks s3=>∃ (G:Hp) (e:Nat) (kas:List Addr),Inv X (pn2++[(D,seqObj "list" #[] e1),(kS,seqObj "list" ks.toArray e)]) σ G s3/\Same H2 G/\ks=kas.map Value.ref/\ks.length=i/\Paired (KeyAt G) kas (keys.take i),?_,?_,?_⟩
  ·refine⟨H2,0,[],?_,Same.refl _,rfl,rfl,.nil⟩
   have Ia:Inv X pn2 σ H2 { s2 with heap:=g,toks:=s2.toks }:=I2.kept k2g
   obtain⟨d0,d1,d2,_⟩:=fpD (G:=H2) (I2.hok.fresh hD)
   obtain⟨c0,c1,c2,_⟩:=fpK (G:=H2) (I2.hok.fresh hkS)
   refine Ia.pins_of fun p hp=>?_
   rcases List.mem_append.mp hp with hp | hp
   ·exact Ia.pin p (List.mem_append_right _ hp)
   ·rcases List.mem_cons.mp hp with hp | hp
    ·subst hp
     exact⟨gD,d0,d1,d2,fun v z=>by cases z⟩
    ·have z:p=(kS,seqObj "list" ([]:List Value).toArray 0):=by simpa using hp
     subst z
     exact⟨gk,c0,c1,c2,fun v z=>by cases z⟩
  ·rintro i xv ks s3 hxi ⟨G,e,kas,I3,sG,rfl,kl,pk⟩
   obtain⟨hi,ex⟩:=List.getElem?_eq_some_iff.mp hxi
   rw[List.length_map]at hi
   rw[List.getElem_map]at ex
   subst ex
   have hpin:(f,lamObj X params body scope c' ctv)∈X.pn++(pn2++[(D,seqObj "list" #[] e1),(kS,seqObj "list" (kas.map Value.ref).toArray e)]):=List.mem_append_right _ (List.mem_append_left _ (by rw[<- hpn];exact List.mem_append_right _ (by simp)))
   refine thn (lam_call (A':=X.A.in1.in1) (v:=.ref as[i]) I3 I.ok.frames hr1 hpin (sG _ _ hc2) S hco hgen hx hN h0 nd (hb _) rfl he (qk i hi G sG)) fun k s4 hk4=>?_
   obtain⟨kv,G',I4,rk,sGG,a,kk,rfl,hkk,ka⟩:=hk4
   cases rk
   have pK:=I4.pin (kS,seqObj "list" (kas.map Value.ref).toArray e) (List.mem_append_right _ (List.mem_append_right _ (by simp)))
   have pD:=I4.pin (D,seqObj "list" #[] e1) (List.mem_append_right _ (List.mem_append_right _ (by simp)))
   have pKn:G' kS=none:=pK.2.1
   refine⟨e,pK.1,by lia,fun g2 c sb gk2=>⟨G',c,kas++[a],?_,sG.trans sGG,by rw[List.map_append];rfl,by rw[List.length_append,kl];rfl,?_⟩⟩
   ·have Ia:Inv X (pn2++[(D,seqObj "list" #[] e1)]) σ G' s4:=I4.pins_of fun p hp=>I4.pin p (List.mem_append_right _ (by
     rcases List.mem_append.mp hp with hp | hp
     ·exact List.mem_append_left _ hp
     ·exact List.mem_append_right _ (List.mem_cons.mpr (.inl (by simpa using hp)))))
    obtain⟨c0,c1,c2,c3,c4,c5⟩:=fpK (G:=G') pKn
    have Ib:Inv X (pn2++[(D,seqObj "list" #[] e1)]) σ G' { s4 with heap:=g2,toks:=s4.toks }:=Ia.turned (it:=kS) (fun b o hb e=>(sb.2 b hb).trans e) c0 c1 c3 c4 fun p hp=>by
     rw[<- List.append_assoc]at hp
     rcases List.mem_append.mp hp with hp | hp
     ·exact c5 p hp
     ·have z:p=(D,seqObj "list" #[] e1):=by simpa using hp
      subst z
      exact Ne.symm neKD
    refine Ib.pins_of fun p hp=>?_
    rcases List.mem_append.mp hp with hp | hp
    ·exact Ib.pin p (List.mem_append_right _ (List.mem_append_left _ hp))
    ·rcases List.mem_cons.mp hp with hp | hp
     ·subst hp
      exact Ib.pin _ (List.mem_append_right _ (List.mem_append_right _ (by simp)))
     ·have z:p=(kS,seqObj "list" (kas.map Value.ref++[Value.ref a]).toArray c):=by simpa using hp
      subst z
      exact⟨gk2,c0,c1,c2,fun v z=>by cases z⟩
   ·obtain⟨kh,ek⟩:=List.getElem?_eq_some_iff.mp hkk
    rw[List.take_succ_eq_append_getElem kh,ek]
    exact pairApp (Paired.mapP pk fun _ _ z=>z.same sGG) (.cons ka .nil)
  ·rintro ks s3 ⟨G,e,kas,I3,sG,rfl,kl,pk⟩
   rw[List.length_map,List.length_map]at kl
   rw[List.length_map,<- klen,List.take_length]at pk
   have pK:=I3.pin (kS,seqObj "list" (kas.map Value.ref).toArray e) (List.mem_append_right _ (List.mem_append_right _ (by simp)))
   have pD:=I3.pin (D,seqObj "list" #[] e1) (List.mem_append_right _ (List.mem_append_right _ (by simp)))
   have pKn:G kS=none:=pK.2.1
   have pDn:G D=none:=pD.2.1
   have PT:Paired (TupN s3.heap) (kas.map Value.ref) keys:=tupsN_at I3 pk
   refine⟨⟨e,pK.1⟩,pD.1,by rw[List.length_map,List.length_map];exact kl,keys,PT,fun xs g2 c hp hs kg2 gD2=>⟨_,rfl,?_⟩⟩
   have T3:TabH P lpos (X.env.qual++"<lambda>") G:=T2.same sG
   have pz:(xs.toList.map fun p=>(keyV s3.heap p.1,unref p.2)).Perm (keys.zip as):=by
    rw[<- zip_keys PT (by rw[List.length_map];exact kl)]
    exact hp.map _
   have er:(xs.toList.map fun p=>unref p.2).map Value.ref=xs.toList.map (·.2):=refs_back (ws:=[]) (us:=kas.map Value.ref) (as:=as) fun p h=>hp.mem_iff.mp h
   have pw:(xs.toList.map fun p=>(keyV s3.heap p.1,unref p.2)).Pairwise (fun x y=>lexlt y.1 x.1=false):=by
    rw[List.pairwise_iff_getElem]
    intro i j hi hj ij
    rw[List.length_map,Array.length_toList]at hi hj
    have z:=hs i j (Nat.le_of_lt ij) hj
    have kk:∀ m (hm:m<xs.size),KK (κN s3.heap) xs m=keyV s3.heap xs[m].1:=fun m hm=>by
     unfold KK
     rw[getElem?_pos xs m hm]
     rfl
    rw[kk i hi,kk j hj]at z
    rw[List.getElem_map,List.getElem_map,Array.getElem_toList,Array.getElem_toList]
    exact z
   have ezs:(xs.toList.map fun p=>(keyV s3.heap p.1,unref p.2)).map (fun z=>V.ref z.2)=(xs.toList.map fun p=>unref p.2).map V.ref:=by
    rw[List.map_map,List.map_map]
    rfl
   have fin:=qo D _ G T3 sG pDn pz pw
   rw[ezs]at fin
   generalize xs.toList.map (fun p=>unref p.2)=bs at er fin
   have blen:bs.length<128:=by
    have e1:=congrArg List.length er
    rw[List.length_map,List.length_map,hp.length_eq,List.length_zip,List.length_map,List.length_map]at e1
    lia
   rw[<- er]at gD2
   obtain⟨d0,d1,d2,d3,d4,d5⟩:=fpD (G:=G) pDn
   obtain⟨c0,c1,c2,c3,c4,c5⟩:=fpK (G:=G) pKn
   have okD:ObjOk X.prog X.w (upd G D (.lst (bs.map V.ref))) g2 D (.lst (bs.map V.ref)):=by
    refine⟨by rw[List.length_map,sizeLine_eq];lia,bs.map Value.ref,c,?_,gD2⟩
    clear er fin blen gD2
    induction bs with
    |nil=>exact .nil
    |cons b bs ih=>exact .cons rfl ih
   have hok:HOk X.prog X.w (upd G D (.lst (bs.map V.ref))) g2:=fun b o eb=>by
    by_cases hb:b=D
    ·subst hb
     rw[upd_same]at eb
     cases eb
     exact okD
    ·rw[upd_ne hb]at eb
     refine(I3.hok b o eb).stay (fun b' u' hb' q'=>kg2 b' u' (fun z=>?_) (fun z=>?_) q') (fun b' q'=>by rw[upd_ne (ne_of_none q' pDn)];exact q') fun b' xs' q'=>by rw[upd_ne (ne_of_none q' pDn)];exact q'
     ·rcases hb' with hb' | hb'
      ·exact hb (hb'.symm.trans z)
      ·rw[z,pDn]at hb';cases hb'
     ·rcases hb' with hb' | hb'
      ·rw[<- hb',z,pKn]at eb;cases eb
      ·rw[z,pKn]at hb';cases hb'
   have Ia:Inv X pins σ G s3:=I3.pins_of fun p hp=>I3.pin p (List.mem_append_right _ (List.mem_append_left _ (by rw[<- hpn];exact List.mem_append_left _ hp)))
   have sub:∀ p∈X.pn++pins,p∈X.pn++pn2:=fun p hp=>by
    rcases List.mem_append.mp hp with hp | hp
    ·exact List.mem_append_left _ hp
    ·exact List.mem_append_right _ (by rw[<- hpn];exact List.mem_append_left _ hp)
   have ch2:∀ b∈[D,kS],(b∈X.ex\/X.s₀.heap.objs.size<=b)/\b≠X.env.locals/\(∀ x c,X.env.cells.lookup x=some c->c≠b)/\∀ p∈X.pn++pins,p.1≠b:=fun b hb=>by
    rcases List.mem_cons.mp hb with e | e
    ·subst e
     exact⟨d3,d1,d4,fun p hp=>d5 p (sub p hp)⟩
    ·have e:b=kS:=by simpa using e
     subst e
     exact⟨c3,c1,c4,fun p hp=>c5 p (sub p hp)⟩
   have nn:∀ {b:Addr},b∉[D,kS]->b≠D/\b≠kS:=fun {b} h=>⟨fun z=>h (by rw[z];simp),fun z=>h (by rw[z];simp)⟩
   have Ib:Inv X pins σ (upd G D (.lst (bs.map V.ref))) { s3 with heap:=g2,gens:=s3.gens,drawn:=s3.drawn,toks:=s3.toks }:=by
    refine Ia.step (ch:=[D,kS]) ch2 (fun b o _ _ h e n=>kg2 b o (nn h).1 (nn h).2 e) (fun b o _ _ h e n=>⟨o.slots,kg2 b o (nn h).1 (nn h).2 e⟩) (fun b o h e n=>by rw[upd_ne (nn h).1];exact n) (fun b o h e=>⟨o,kg2 b o (nn h).1 (nn h).2 e⟩) (fun b xs' e=>by rw[upd_ne (ne_of_none e pDn)];exact e) (fun b o u' e=>by rw[upd_ne (ne_of_none e pDn)];exact e) (fun b ps e=>⟨#[],by rw[upd_ne (ne_of_none e pDn),e];simp⟩) (fun m hm=>?_) hok Ia.bare
    obtain⟨o,es,ep,ho,r⟩:=hm
    exact⟨o,es,ep,kg2 _ o (Ne.symm d1) (Ne.symm c1) ho,r⟩
   exact wpAny_pure ⟨_,rfl,.ref D,_,Ib,rfl,fin⟩
end
open PySem PySem.W PyProof.Rows Srt
noncomputable def OnlyT(T:Addr)(H:Hp):Prop:=H T=some (.tbl #[])/\∀ b,b≠T->H b=none\/∃ o xs,H b=some (.frz o (.lst xs))
section
variable{P:Program}{w:World}{K:PySem.W.Frag}{mg:Str->Option Value}{base:Heap}
theorem Fun.okC{x qual:Str}{st:Stmt}{f:Addr}{fd:FuncData}{N ps:List Str}{k:Nat}{sp:Sp}(F:Fun K x qual st f fd)(S:FnScope N ps (defScope st))(len:∀ vs H Q E,sp vs H Q E->vs.length=ps.length)
  (hbody:∀ (cdv:Value) (A:Around) (outer:List Env) (s:Shared) (H:Hp) (vs:List V) (Q:VK) (E:XK),fd.code=cdv->Room k (A.deeper (envOfC qual (defScope st) s.heap.objs.size f cdv))->sp vs H Q E ->
   ∃ t,PSs (cxOf CX0 P w K mg base N qual (defScope st) f cdv A outer s H E).nox (defBody st) t/\t { nx:=fun _ H'=>Q .non H',rt:=Q } (start N vs) H):FnOk P w K mg base CX0 (k+1) f fd ps sp:=by
 obtain⟨oc,od,kV,doc,pm,an,cdv,ct,osl,rfl,lk,hcd⟩:=F.ex
 refine fn_of lk hcd S len fun A outer s H vs Q E hr hsp=>?_
 obtain⟨t,h,q⟩:=hbody cdv A outer s H vs Q E rfl hr hsp
 exact⟨t,h.nox,q⟩
end
theorem law_callT{P:Program}{w:World}{K:PySem.W.Frag}{mg mb:Str->Option Value}{k:Nat}{fa a c T:Addr}{fd:FuncData}{x:Str}{sp:Sp}{s₁:Shared}{vs:List Value}{ns:List Int}
  (KX:K.In s₁.heap) (hns:s₁.heap.Ns mainGlobals mg) (hb:s₁.heap.Ns builtinsNs mb) (hbb:∀ x:Str,x≠"__name__"->mb x=bootBuiltins x) (hlim:s₁.heap.NoLimit) (hg:s₁.gens = #[])
  (ha:s₁.heap.get? a=some { cls:=.type "list",data:=.seq vs.toArray }) (hi:IntsAre vs ns) (hl:ns.length<=sizeLine) (hr:Room k callerA)
  (hT:s₁.heap.get? T=some (tabObj #[])) (hC:CodeHd s₁.heap c T) (hKT:K.lookup T=none) (hB:s₁.heap.BuiltinsAt mg T)
  (F:∀ base:Heap,K.In base->base.Ns mainGlobals mg->base.BuiltinsAt mg T->FnOk P w K mg base CX0 k fa fd [x] sp) (hbind:∀ (s:Shared) (u:Value),BindsTo s fd ⟨[u],[]⟩ [(x,u)])
  (hsp:∀ H:Hp,OnlyT T H->SqL K H a (ns.map V.int)->sp [.ref a] H (fun v _=>v = .bl true) fun _ _ _=>False) :
  codeAny (model P w) callerA (.call (.ref fa) ⟨[.ref a],[]⟩) (fun r s'=>r = .ok (.ret (.bool true))/\OldK s₁.heap s'.heap/\s'.os=s₁.os/\AllBare s'.gens) s₁:=by
 have rv:=vals_ints hi
 have lenV:=hi.length
 have aT:a≠T:=fun z=>by
  rw[z,hT]at ha
  cases ha
 have core:∀ H:Hp,OnlyT T H->SqL K H a (ns.map V.int)->HOk P w H s₁.heap->(∀ b,H b≠none->b=a\/b=T)->(H a≠none->K.lookup a=none) ->
   codeAny (model P w) callerA (.call (.ref fa) ⟨[.ref a],[]⟩) (fun r s'=>r = .ok (.ret (.bool true))/\OldK s₁.heap s'.heap/\s'.os=s₁.os/\AllBare s'.gens) s₁:=by
  intro H hO hS hok hA hK
  have free:∀ {b:Addr},b≠a->b≠T->H b=none:=fun {b} n1 n2=>by
   cases q:H b with
   |none=>rfl
   |some u=>rcases hA b (by rw[q];simp)with z | z <;> contradiction
  have noA:∀ {b:Addr}{o:Obj},s₁.heap.get? b=some o->(∀ xs n,o.data≠.seq xs n)->(∀ xs,o.data≠.fields xs)->H b=none:=fun {b o} e d1 d2=>by
   refine free (fun z=>?_) (fun z=>?_)
   ·rw[z,ha]at e;cases e;exact d1 _ _ rfl
   ·rw[z,hT]at e;cases e;exact d2 _ rfl
  have nsK:∀ {b:Addr}{m:Str->Option Value},s₁.heap.Ns b m->(hidT s₁.heap H).Ns b m:=fun {b m} ⟨o,es,ep,e,d,r⟩=>⟨o,es,ep,hidT_get e (noA e (fun xs n z=>by rw[d]at z;cases z) fun xs z=>by rw[d]at z;cases z),d,r⟩
  have hKb:K.In (hidT s₁.heap H):=fun b o e=>hidT_get (KX b o e) (by
   cases q:H b with
   |none=>rfl
   |some u =>
    rcases hA b (by rw[q];simp)with z | z
    ·subst z
     rw[hK (by rw[q];simp)]at e;cases e
    ·subst z
     rw[hKT]at e;cases e)
  have hM:Mod K mg (hidT s₁.heap H):=⟨hKb,nsK hns,⟨mb,nsK hb,hbb⟩,let ⟨mc,h1,h2⟩:=hlim;⟨mc,nsK h1,h2⟩⟩
  have hBb:(hidT s₁.heap H).BuiltinsAt mg T:=by
   obtain⟨bm,ob,b1,b2,b3,b4,b5,b6,b7,b8⟩:=hB
   exact⟨bm,ob,b1,b2,b3,b4,hidT_get b5 (noA b5 (fun xs n z=>by rw[b8]at z;cases z) fun xs z=>by rw[b8]at z;cases z),b6,b7,b8⟩
  have e0:Env0 P w K mg (hidT s₁.heap H) callerA [] s₁ H:=⟨rfl,hM,fun b o e=>of_hidT e,Nat.le_of_eq (hidT_size _ _),trivial,fun b hb=>absurd (show b∈([]:List Addr)from hb) (by simp),hok,.of_eq hg⟩
  refine codeAny_mono ((F _ hKb (nsK hns) hBb).run callerA [] s₁ H ⟨[.ref a],[]⟩ [.ref a] [.ref a] _ _ hr e0 (hbind s₁ (.ref a)) (.cons rfl .nil) (hsp H hO hS)) fun r s' h=>?_
  cases r with
  |error e=>exact h.elim
  |ok fl =>
   cases fl with
   |next=>exact False.elim h
   |brk=>exact False.elim h
   |cont=>exact False.elim h
   |ret u =>
    obtain⟨v,H',os,bare,un,hok',r',q⟩:=h
    have q':v = .bl true:=q
    subst q'
    obtain rfl:u=Value.bool true:=r'
    have noe:∀ b:Addr,b∉frs []:=fun b z=>absurd (show b∈([]:List Addr)from z) (by simp)
    obtain⟨more,eT⟩:=un.tbls T #[] hO.1
    have gT:s'.heap.get? T=some (tabObj (#[]++more)):=hok' T _ eT
    have kept:∀ b o,b≠T->s₁.heap.get? b=some o->s'.heap.get? b=some o:=fun b o n e=>by
     cases qb:H b with
     |none=>exact un.keep b o e qb (noe b) (by simp)
     |some u' =>
      rcases hO.2 b n with z |⟨ob,xs,z⟩
      ·rw[qb]at z;cases z
      ·have z2:=un.frzs b ob _ z
       obtain⟨e1,_⟩:=hok b _ z
       obtain⟨e2,_⟩:=hok' b _ z2
       rw[e]at e1;cases e1
       exact e2
    refine⟨rfl,⟨fun b o e=>?_,fun b o e=>?_⟩,os,bare⟩
    ·by_cases hb':b=T
     ·subst hb'
      rw[hT]at e
      cases e
      exact .inr (.inl ⟨(hC.tab hT).isCodeTable,rfl,#[],more,rfl,gT⟩)
     ·exact .inl (kept b o hb' e)
    ·by_cases hb':b=T
     ·subst hb';exact⟨_,gT⟩
     ·exact⟨o,kept b o hb' e⟩
 cases hk:K.lookup a with
 |some o =>
  have e:=KX a o hk
  rw[ha]at e
  cases e
  refine core (fun b=>if b=T then some (.tbl #[])else none) ⟨if_pos rfl,fun b n=>.inl (if_neg n)⟩ (.inr ⟨_,vs.toArray,_,hk,rfl,rfl,rfl,by rw[List.size_toArray,lenV];exact hl,by simpa using rv⟩) (fun b u z=>?_) (fun b z=>?_) fun z=>absurd (if_neg aT) z
  ·by_cases hb':b=T
   ·have z':=(if_pos hb').symm.trans z
    cases z'
    subst hb'
    exact hT
   ·have z':=(if_neg hb').symm.trans z
    cases z'
  ·by_cases hb':b=T
   ·exact .inr hb'
   ·exact absurd (if_neg hb') z
 |none =>
  refine core (fun b=>if b=T then some (.tbl #[])else if b=a then some (.frz { cls:=.type "list",data:=.seq vs.toArray } (.lst (ns.map V.int)))else none) ⟨if_pos rfl,fun b n=>?_⟩ (.inl (.inr ⟨{ cls:=.type "list",data:=.seq vs.toArray },by show(if a=T then _ else _)=_;rw[if_neg aT,if_pos rfl]⟩)) (fun b u z=>?_) (fun b z=>?_) fun _=>hk
  ·show(if b=T then _ else _)=none\/∃ o xs,(if b=T then _ else _)=_
   rw[if_neg n]
   by_cases hb':b=a
   ·exact .inr ⟨_,_,if_pos hb'⟩
   ·exact .inl (if_neg hb')
  ·by_cases hb':b=T
   ·have z':=(if_pos hb').symm.trans z
    cases z'
    subst hb'
    exact hT
   ·have z1:=(if_neg hb').symm.trans z
    by_cases hba:b=a
    ·have z':=(if_pos hba).symm.trans z1
     cases z'
     subst hba
     exact⟨ha,by rw[List.length_map];exact hl,vs,_,rv,ha⟩
    ·have z':=(if_neg hba).symm.trans z1
     cases z'
  ·by_cases hb':b=T
   ·exact .inr hb'
   ·by_cases hba:b=a
    ·exact .inl hba
    ·exact absurd (by show(if b=T then _ else _)=none;rw[if_neg hb',if_neg hba]) z
theorem walk_ofT{l:PySem.W.OpenLaw}{n k:Nat}{q:Program}{loose:List Str}{XP:(Str->Option Value)->Heap->Prop}{YP:World->Heap->Prop}{d:DefRec}{K:Params->PySem.W.Frag}{sp:World->Sp}{x:Str}{c T:Addr}
  (hn:l.most=some n) (hn2:n<=sizeLine) (hdf:d.params.defaults=[]) (hr:Room k callerA)
  (hY:∀ (w:World) (h:Heap),YP w h->(K w.params).In h/\h.get? T=some (tabObj #[]))
  (F:∀ (w:World) (mg:Str->Option Value) (fa:Addr) (h:Heap),(K w.params).In h->h.Ns mainGlobals mg->mg d.name=some (.ref fa) ->
   codeHdIn (K w.params) c T=true/\(K w.params).lookup T=none/\∃ fd:FuncData,(∀ (s:Shared) (u:Value),BindsTo s fd ⟨[u],[]⟩ [(x,u)]) /\
    ∀ base:Heap,(K w.params).In base->base.Ns mainGlobals mg->base.BuiltinsAt mg T->FnOk l.prog w (K w.params) mg base CX0 k fa fd [x] (sp w))
  (hsp:∀ (w:World) (H:Hp) (a:Addr) (ns:List Int),ns.length<=n->OnlyT T H->SqL (K w.params) H a (ns.map V.int)->sp w [.ref a] H (fun v _=>v = .bl true) fun _ _ _=>False) :
  PySem.W.WalkO q loose XP YP l.row.toRowW d [] (fun f vs=>PySem.call f vs):=by
 refine Att.attach_call hn hdf fun w s₀ s₁ mg mb fa o pm cd doc a vs ns G Y ho hd hcd hmg hobj hints hlen hg=>?_
 obtain⟨KX,hT⟩:=hY w _ Y
 obtain⟨hc,hKT,fd,hb,hF⟩:=F w mg fa _ KX G.T.g hmg
 have hC:=codeHd_of_K KX hc
 have hB:s₁.heap.BuiltinsAt mg T:=by
  obtain⟨bm,ob,b1,b2,b3,b4,b5,b6⟩:=G.T.bmain
  refine⟨bm,ob,b1,b2,fun z=>?_,fun z=>?_,b3,b4,b5,b6⟩
  ·obtain⟨o',es,ep,e,d',_⟩:=G.T.g
   rw[z,e]at b3;cases b3;rw[d']at b6;cases b6
  ·rw[z,hT]at b3;cases b3;cases b4
 exact law_callT KX G.T.g G.T.b G.T.builtins G.T.nolimit hg hobj hints (Nat.le_trans hlen hn2) hr hT hC hKT hB hF hb fun H hO hS=>hsp w H a ns hlen hO hS
open PySem PySem.W PyProof.Rows Srt
section
variable{X:Cx}
theorem keyN_back{pins:List (Addr×Obj)}{σ:St}{H:Hp}{s:Shared}{g:Heap}(I:Inv X pins σ H s)(kp:∀ b u,s.heap.get? b=some u->g.get? b=some u){bs kas:List Addr}{keys:List (List Int)}(pk:Paired (KeyAt H) kas keys)(sub:∀ b∈bs,b∈kas) :
  Paired (KeyAt H) bs (bs.map fun b=>keyV g (.ref b)):=by
 have mem:∀ b∈kas,∃ k,KeyAt H b k:=by
  clear sub
  induction pk with
  |nil=>intro b hb;cases hb
  |cons r _ ih =>
   intro b hb
   rcases List.mem_cons.mp hb with e | e
   ·rw[e];exact⟨_,r⟩
   ·exact ih b e
 induction bs with
 |nil=>exact .nil
 |cons b bs ih =>
  obtain⟨k,hk⟩:=mem b (sub b (List.mem_cons_self ..))
  refine .cons ?_ (ih fun c hc=>sub c (List.mem_cons_of_mem _ hc))
  have e:keyV g (.ref b)=k:=keyV_eq ((tupN_of I hk).to fun c u e _=>kp c u e)
  show KeyAt H b (keyV g (.ref b))
  rw[e]
  exact hk
theorem keys_eq{g:Heap}{as:List Addr}{keys:List (List Int)}(h:Paired (TupN g) (as.map Value.ref) keys):keys=as.map fun a=>keyV g (.ref a):=by
 generalize hus:as.map Value.ref=us at h
 induction h generalizing as with
 |nil=>cases as with
  |nil=>rfl
  |cons a as=>cases hus
 |cons r _ ih =>
  cases as with
  |nil=>cases hus
  |cons a as =>
   rw[List.map_cons]at hus
   injection hus with h1 h2
   subst h1
   rw[List.map_cons,keyV_eq r,<- ih h2]
theorem call_sortedN(hu:X.A.units+64<cLine):CallR X (.builtin "sorted") (fun xs H Q=>∃ (l:Addr) (kas:List Addr) (keys:List (List Int)),xs=[V.ref l]/\H l=some (.lst (kas.map V.ref))/\Paired (KeyAt H) kas keys/\kas.length<128 /\
  ∀ (l':Addr) (bs:List Addr) (ns:List (List Int)),H l'=none->ns.Perm keys->ns.Pairwise (fun x y=>lexlt y x=false)->Paired (KeyAt H) bs ns->Q (.ref l') (upd H l' (.lst (bs.map V.ref)))):=by
 intro pins s σ H xs us Q I r h
 obtain⟨l,as,keys,rfl,hl,pk,hlen,q⟩:=h
 obtain⟨u,rfl,rx⟩:=vals1 r
 cases rx
 obtain⟨its,r',pl,hz⟩:=I.list (SqL.of hl)
 have er:=refs_of r'
 subst er
 refine Calls.call_function_entry kind_sorted plain_sorted entry_sorted (args_sorted1 _) ?_
 unfold Builtin.«sorted»
 refine wpAny_bind (m:=checkCount "sorted" 1 1 _) (wpAny_pure (wpAny_bind (collect_list pl.isList ?_ (by rw[List.length_map,sizeLine_eq];lia))))
 generalize hh':(s.heap.push (seqObj "list" #[] 0)).update s.heap.objs.size (Obj.mapSeq (·++(as.map Value.ref).toArray))=h'
 have kp:∀ b u,s.heap.get? b=some u->h'.get? b=some u:=hh'▸collect_kept
 refine wpAny_bind (wpAny_newList ?_ (by rw[List.length_map,sizeLine_eq];lia))
 have gL:(h'.push (seqObj "list" (as.map Value.ref).toArray 0)).get? h'.objs.size=some (seqObj "list" (as.map Value.ref).toArray 0):=Heap.get?_push_size _ rfl
 have I1:Inv X pins σ H { s with heap:=h' }:=I.kept (t':=s.toks) kp
 have kp2:∀ b u,h'.get? b=some u->(h'.push (seqObj "list" (as.map Value.ref).toArray 0)).get? b=some u:=fun b u e=>Heap.get?_push_of_some _ e
 generalize hg0:h'.push (seqObj "list" (as.map Value.ref).toArray 0)=g0 at gL kp2
 have PT:Paired (TupN g0) (as.map Value.ref) keys:=by
  have:=tupsN_at I1 pk
  exact Paired.mapP this fun v k z=>z.to fun b u e _=>kp2 b u e
 have keep:∀ g:Heap,(∀ b u,b≠h'.objs.size->g0.get? b=some u->g.get? b=some u)->∀ v ks,TupN g0 v ks->TupN g v ks:=fun g k v ks z=>z.to fun b u e c=>k b u (fun zz=>by
  rw[zz,gL]at e
  cases e
  exact absurd (show Value.type "list" = Value.type "tuple" from c) (by decide)) e
 refine wpAny_bind (wpAny_holding (wpAny_call_entry slot_list_sort ⟨_,gL,rfl⟩ entry_list_sort (sort_at (κ:=κN g0) (kd:=tuples' true) (s:={ s with heap:=g0 }) gL (fun p hp=>?_) (by rw[List.length_map];exact hlen) (fun l2 g k=>⟨ltN_ok (by show X.A.units+1+1<cLine;lia) (keep g k),fun R hR=>?_⟩) fun ws g c pw sw kp3 gg=>⟨_,rfl,?_⟩) (args_list_sort _)))
 ·rw[pairsOf_toList]at hp
  obtain⟨e1,e2⟩:=Srt.mem_zip_self hp
  rw[e1]
  clear pk hp e1 gL
  have:∀ {us:List Value}{ks:List (List Int)},Paired (TupN g0) us ks->p.2∈us->∃ a,(κN g0).keyOf p.2=some a:=by
   intro us ks h
   induction h with
   |nil=>intro m;cases m
   |cons r _ ih =>
    intro m
    rcases List.mem_cons.mp m with e | e
    ·rw[e];exact⟨_,κN_key r⟩
    ·exact ih e
  exact this PT e2
 ·exact kindN (s:={ s with heap:=g }) (Paired.mapP PT fun v ks z=>keep g k v ks z) l2 hR
 ·have unr:∀ l:List Value,(∀ v∈l,∃ a,v=Value.ref a)->(l.map unref).map Value.ref=l:=fun l hl=>by
   induction l with
   |nil=>rfl
   |cons v l ih =>
    obtain⟨a,rfl⟩:=hl v (List.mem_cons_self ..)
    rw[List.map_cons,List.map_cons,ih fun v hv=>hl v (List.mem_cons_of_mem _ hv)]
    rfl
  have eb:(ws.map unref).map Value.ref=ws:=unr ws fun v hv=>by
   obtain⟨a,_,rfl⟩:=List.mem_map.mp (pw.mem_iff.mp hv)
   exact⟨a,rfl⟩
  have pb:(ws.map unref).Perm as:=by
   have:=pw.map unref
   rw[List.map_map,show(unref ∘ Value.ref)=id from rfl,List.map_id]at this
   exact this
  generalize ws.map unref=bs at eb pb
  subst eb
  have ek:keys=as.map fun a=>keyV g0 (.ref a):=keys_eq PT
  have pk2:=keyN_back (bs:=bs) I1 (fun b u e=>kp2 b u e) pk fun b hb=>pb.mem_iff.mp hb
  refine wpAny_pure ⟨_,rfl,.ref h'.objs.size,_,I1.laid (t':=s.toks) (a:=h'.objs.size) (o:=.lst (bs.map V.ref)) (fun b u e=>kp3 b u (Nat.ne_of_lt (Heap.lt_size e)) (kp2 b u e)) (Nat.le_refl _) (show ObjOk X.prog X.w _ g _ (.lst (bs.map V.ref))from⟨?_,bs.map Value.ref,c,?_,gg⟩),rfl,q _ bs _ (I1.hok.fresh (Nat.le_refl _)) (by rw[ek];exact pb.map _) ?_ pk2⟩
  ·rw[List.length_map,pb.length_eq,sizeLine_eq];lia
  ·clear pb pk2 gg sw pw
   induction bs with
   |nil=>exact .nil
   |cons b bs ih=>exact .cons rfl ih
  ·rw[List.pairwise_iff_getElem]
   intro i j hi hj ij
   rw[List.length_map]at hi hj
   have z:=sw i j (Nat.le_of_lt ij) (by rw[List.length_map];exact hj)
   have kk:∀ m (hm:m<bs.length),KK (κN g0) (pairsOf (bs.map Value.ref)) m=keyV g0 (.ref bs[m]):=fun m hm=>by
    have e:(pairsOf (bs.map Value.ref))[m]?=some (Value.ref bs[m],Value.ref bs[m]):=by simp[pairsOf,hm]
    unfold KK
    rw[e]
    rfl
   rw[kk i hi,kk j hj]at z
   rw[List.getElem_map,List.getElem_map]
   exact z
end
end L2
namespace K07
open PySem L2 PyProof.Rows
theorem tieLt_pairs{ties:List Tie}(h:ties.Pairwise tieLt):(ties.map pairOf).Pairwise (fun x y=>Srt.lexlt x y=true):=by
 rw[List.pairwise_map]
 exact h
noncomputable def kvOf(x:Tie):List Key×V:=([Sum.inl x.1,Sum.inl x.2.1],V.int x.2.2)
noncomputable def wOf(ties:List Tie)(k:List Int):Int:=((ties.find? fun x=>decide (pairOf x=k)).map (·.2.2)).getD 0
theorem keys_inj{x y:Tie}(h:(kvOf x).1=(kvOf y).1):pairOf x=pairOf y:=by
 have h':([Sum.inl x.1,Sum.inl x.2.1]:List Key)=[Sum.inl y.1,Sum.inl y.2.1]:=h
 simp only[List.cons.injEq,Sum.inl.injEq,and_true]at h'
 show [x.1,x.2.1]=[y.1,y.2.1]
 rw[h'.1,h'.2]
theorem pairs_nodup{ties:List Tie}(h:ties.Pairwise tieLt):(ties.map pairOf).Nodup:=(tieLt_pairs h).imp fun {x y} z e=>by rw[e,Srt.lexlt_irrefl]at z;cases z
theorem val_of{ties:List Tie}{k:List Int}(h:k∈ties.map pairOf):valV (ties.map kvOf) (k.map Sum.inl)=some (V.int (wOf ties k)):=by
 induction ties with
 |nil=>cases h
 |cons x ties ih =>
  by_cases e:pairOf x=k
  ·have e1:(kvOf x).1=k.map Sum.inl:=by rw[<- e];rfl
   rw[List.map_cons,valV_pos e1]
   unfold wOf
   rw[List.find?_cons_of_pos (by simp[e])]
   rfl
  ·have e1:¬(kvOf x).1=k.map Sum.inl:=fun z=>e (inl_inj (show(pairOf x).map (Sum.inl:Int->Key)=k.map Sum.inl from z))
   rw[List.map_cons,valV_neg e1,ih (by
    rw[List.map_cons]at h
    rcases List.mem_cons.mp h with z | z
    ·exact absurd z.symm e
    ·exact z)]
   unfold wOf
   rw[List.find?_cons_of_neg (by simp[e])]
theorem perm_pw{α:Type}{r:α->α->Prop}(anti:∀ x y,r x y->r y x->x=y):∀ {l m:List α},l.Perm m->l.Pairwise r->m.Pairwise r->l=m
 |[],m,p,_,_=>(List.nil_perm.mp p).symm
 |x :: l,m,p,hl,hm=>by
  cases m with
  |nil=>cases List.perm_nil.mp p
  |cons y m =>
   obtain⟨h1,h2⟩:=List.pairwise_cons.mp hl
   obtain⟨g1,g2⟩:=List.pairwise_cons.mp hm
   have e:x=y:=by
    rcases List.mem_cons.mp (p.mem_iff.mp (List.mem_cons_self ..))with z | z
    ·exact z
    ·rcases List.mem_cons.mp (p.mem_iff.mpr (List.mem_cons_self ..))with z' | z'
     ·exact z'.symm
     ·exact anti x y (h1 y z') (g1 x z)
   subst e
   rw[perm_pw anti (List.Perm.cons_inv p) h2 g2]
noncomputable def keyOf(ties:List Tie)(k:List Int):List Int:=-(wOf ties k) :: k
structure IsOrd(ties:List Tie)(ks os:List (List Int)):Prop where
 perm:os.Perm ks
 pw:os.Pairwise fun x y=>Srt.lexlt (keyOf ties y) (keyOf ties x)=false
theorem IsOrd.uniq{ties:List Tie}{ks os os':List (List Int)}(a:IsOrd ties ks os)(b:IsOrd ties ks os'):os=os' :=
 perm_pw (fun x y h1 h2=>by
  have:=Srt.lexlt_total _ _ h2 h1
  injection this) (a.perm.trans b.perm.symm) a.pw b.pw
theorem sorted_is{ks ns:List (List Int)}(p:ns.Perm ks)(a:ns.Pairwise fun x y=>Srt.lexlt y x=false)(b:ks.Pairwise fun x y=>Srt.lexlt x y=true):ns=ks :=
 perm_pw (r:=fun x y=>Srt.lexlt y x=false) (fun x y h1 h2=>Srt.lexlt_total _ _ h2 h1) p a (b.imp fun {x y} h=>by
  cases e:Srt.lexlt y x with
  |false=>rfl
  |true =>
   have:=Srt.lexlt_trans _ _ _ h e
   rw[Srt.lexlt_irrefl]at this
   cases this)
theorem Rch.mono{t1 t2:List Tie}(h:∀ x∈t1,x∈t2){a b:Int}(r:Rch t1 a b):Rch t2 a b:=by
 induction r with
 |refl=>exact .refl _
 |up m _ ih=>exact .up (h _ m) ih
 |dn m _ ih=>exact .dn (h _ m) ih
theorem IsHeads.same{n:Nat}{ties:List Tie}{hs:List Int}(h:IsHeads n ties hs){a b:Int}(a0:0<=a)(a1:a<n)(b0:0<=b)(b1:b<n)(r:Rch ties a b):hAt hs a=hAt hs b:=by
 have h1:=h.least a a0 a1 _ (r.trans (h.rch b b0 b1))
 have h2:=h.least b b0 b1 _ (r.symm.trans (h.rch a a0 a1))
 lia
theorem least_ex{ties:List Tie}{n:Nat}(ok:∀ x∈ties,TieOk n x):∀ (m:Nat) (i h:Int),h.toNat=m->0<=i->i<n->0<=h->Rch ties i h->∃ h',Rch ties i h'/\∀ j,Rch ties i j->h'<=j:=by
 intro m
 induction m using Nat.strongRecOn with
 | _ m ih =>
  intro i h e i0 i1 h0 r
  by_cases z:∃ j,Rch ties i j/\j<h
  ·obtain⟨j,rj,lt⟩:=z
   obtain⟨j0,_⟩:=rj.range ok i0 i1
   exact ih j.toNat (by lia) i j rfl i0 i1 j0 rj
  ·exact⟨h,r,fun j rj=>Classical.byContradiction fun c=>z ⟨j,rj,by lia⟩⟩
theorem heads_ex{ties:List Tie}{n:Nat}(ok:∀ x∈ties,TieOk n x):∃ hs,IsHeads n ties hs:=by
 have ch:∀ i:Fin n,∃ h':Int,Rch ties i.1 h'/\∀ j,Rch ties i.1 j->h'<=j:=fun i=>least_ex ok _ i.1 i.1 rfl (by lia) (by have:=i.2;omega) (by lia) (.refl _)
 refine⟨List.ofFn fun i:Fin n=>(ch i).choose,⟨List.length_ofFn ..,fun i i0 i1=>?_,fun i i0 i1 j r=>?_⟩⟩
 all_goals
  obtain⟨i,rfl⟩:∃ a:Nat,i=(a:Int):=⟨i.toNat,by lia⟩
  have hi:i<n:=by lia
  rw[hAt_nat (by rw[List.length_ofFn];exact hi),List.getElem_ofFn]
 ·exact(ch ⟨i,hi⟩).choose_spec.1
 ·exact(ch ⟨i,hi⟩).choose_spec.2 j r
theorem parted_iff{hs ps:List Int}:parted hs ps=true↔(ps.map (hAt hs)).Nodup:=by
 unfold parted
 rw[decide_eq_true_eq,<- nub_len,List.length_map]
theorem parted_mono{n:Nat}{t1 t2:List Tie}{hs gs ps:List Int}(sub:∀ x∈t2,x∈t1)(h:IsHeads n t1 hs)(g:IsHeads n t2 gs)(rg:∀ x∈ps,0<=x/\x<n)(e:parted hs ps=true):parted gs ps=true:=by
 rw[parted_iff]at e ⊢
 unfold List.Nodup at e ⊢
 rw[List.pairwise_map]at e ⊢
 refine List.Pairwise.imp_of_mem (fun {a b} ha hb ne z=>ne ?_) e
 obtain⟨a0,a1⟩:=rg a ha
 obtain⟨b0,b1⟩:=rg b hb
 have r:Rch t2 a b:=(g.rch a a0 a1).trans (by rw[z];exact(g.rch b b0 b1).symm)
 exact h.same a0 a1 b0 b1 (r.mono sub)
open Classical in
noncomputable def pB(n:Nat)(ties:List Tie)(ps:List Int)(ks:List (List Int)):Bool:=decide (∃ hs,IsHeads n (rest ties ks) hs/\parted hs ps=true)
open Classical in
theorem pB_eq{n:Nat}{ties:List Tie}{ps hs:List Int}{ks:List (List Int)}(h:IsHeads n (rest ties ks) hs):parted hs ps=pB n ties ps ks:=by
 unfold pB
 cases e:parted hs ps with
 |true=>exact(decide_eq_true ⟨hs,h,e⟩).symm
 |false =>
  refine(decide_eq_false ?_).symm
  rintro⟨gs,g,e'⟩
  rw[g.uniq h,e]at e'
  cases e'
theorem rest_ok{n:Nat}{ties:List Tie}{ks:List (List Int)}(ok:∀ x∈ties,TieOk n x):∀ x∈rest ties ks,TieOk n x:=fun x hx=>ok x (mem_rest.mp hx).1
theorem pB_mono{n:Nat}{ties:List Tie}{ps:List Int}{ks js:List (List Int)}(ok:∀ x∈ties,TieOk n x)(rg:∀ x∈ps,0<=x/\x<n)(sub:∀ k∈ks,k∈js)(e:pB n ties ps ks=true):pB n ties ps js=true:=by
 obtain⟨hs,h⟩:=heads_ex (rest_ok (ks:=ks) ok)
 obtain⟨gs,g⟩:=heads_ex (rest_ok (ks:=js) ok)
 rw[<- pB_eq h]at e
 rw[<- pB_eq g]
 exact parted_mono (fun x hx=>by
  obtain⟨m1,m2⟩:=mem_rest.mp hx
  exact mem_rest.mpr ⟨m1,fun z=>m2 (sub _ z)⟩) h g rg e
noncomputable def fewer(st:List (List Int))(k:List Int):List (List Int):=st.filter fun o=>!decide (o=k)
theorem mem_fewer{st:List (List Int)}{k o:List Int}:o∈fewer st k↔o∈st/\o≠k:=by
 unfold fewer
 rw[List.mem_filter]
 simp
noncomputable def stepP(n:Nat)(ties:List Tie)(ps:List Int)(st:List (List Int))(k:List Int):List (List Int):=if pB n ties ps (fewer st k)=true then fewer st k else st
noncomputable def prune(n:Nat)(ties:List Tie)(ps:List Int)(os ks:List (List Int)):List (List Int):=os.foldl (stepP n ties ps) ks
section
variable{n:Nat}{ties:List Tie}{ps:List Int}
theorem step_sub(st:List (List Int))(k:List Int):(stepP n ties ps st k).Sublist st:=by
 unfold stepP
 split
 ·exact List.filter_sublist
 ·exact List.Sublist.refl _
theorem prune_sub:∀ (os ks:List (List Int)),(prune n ties ps os ks).Sublist ks
 |[],ks=>List.Sublist.refl _
 |k :: os,ks=>(prune_sub os (stepP n ties ps ks k)).trans (step_sub ks k)
theorem prune_snoc(os ks:List (List Int))(k:List Int):prune n ties ps (os++[k]) ks=stepP n ties ps (prune n ties ps os ks) k:=by
 unfold prune
 rw[List.foldl_append]
 rfl
theorem prune_app(os os' ks:List (List Int)):prune n ties ps (os++os') ks=prune n ties ps os' (prune n ties ps os ks):=by
 unfold prune
 rw[List.foldl_append]
theorem prune_parts:∀ (os ks:List (List Int)),pB n ties ps ks=true->pB n ties ps (prune n ties ps os ks)=true
 |[],ks,h=>h
 |k :: os,ks,h=>prune_parts os _ (by
  unfold stepP
  split
  ·assumption
  ·exact h)
theorem prune_least(ok:∀ x∈ties,TieOk n x)(rg:∀ x∈ps,0<=x/\x<n){os ks:List (List Int)}(p:os.Perm ks):∀ k∈prune n ties ps os ks,pB n ties ps (fewer (prune n ties ps os ks) k)=false:=fun k hk=>by
 have ho:k∈os:=p.mem_iff.mpr ((prune_sub os ks).subset hk)
 obtain⟨o1,o2,rfl⟩:=List.append_of_mem ho
 rw[prune_app]at hk ⊢
 have e2:prune n ties ps (k :: o2) (prune n ties ps o1 ks)=prune n ties ps o2 (stepP n ties ps (prune n ties ps o1 ks) k):=rfl
 rw[e2]at hk ⊢
 generalize prune n ties ps o1 ks=st at hk ⊢
 cases e:pB n ties ps (fewer st k)with
 |true =>
  exfalso
  have:stepP n ties ps st k=fewer st k:=by unfold stepP;rw[if_pos e]
  rw[this]at hk
  exact(mem_fewer.mp ((prune_sub o2 _).subset hk)).2 rfl
 |false =>
  have:stepP n ties ps st k=st:=by unfold stepP;rw[if_neg (by rw[e];simp)]
  rw[this]at hk ⊢
  cases e':pB n ties ps (fewer (prune n ties ps o2 st) k)with
  |false=>rfl
  |true =>
   have:=pB_mono ok rg (js:=fewer st k) (fun o ho=>by
    obtain⟨m1,m2⟩:=mem_fewer.mp ho
    exact mem_fewer.mpr ⟨(prune_sub o2 st).subset m1,m2⟩) e'
   rw[e]at this
   cases this
theorem prune_same{r:List (List Int)}(h:∀ k∈r,pB n ties ps (fewer r k)=false):∀ os:List (List Int),(∀ k∈os,k∈r)->prune n ties ps os r=r
 |[],_=>rfl
 |k :: os,sub=>by
  have e:stepP n ties ps r k=r:=by unfold stepP;rw[if_neg (by rw[h k (sub k (List.mem_cons_self ..))];simp)]
  show prune n ties ps os (stepP n ties ps r k)=r
  rw[e]
  exact prune_same h os fun j hj=>sub j (List.mem_cons_of_mem _ hj)
theorem fewer_at:∀ {r:List (List Int)} (i:Nat) (h:i<r.length),r.Nodup->r.take i++r.drop (i+1)=fewer r r[i]
 |x :: r,0,h,nd=>by
  obtain⟨n1,n2⟩:=List.nodup_cons.mp nd
  unfold fewer
  rw[List.filter_cons_of_neg (by simp)]
  show r=_
  refine(List.filter_eq_self.mpr fun y hy=>?_).symm
  simp only[List.getElem_cons_zero,Bool.not_eq_true',decide_eq_false_iff_not]
  exact fun z=>n1 (z▸hy)
 |x :: r,i+1,h,nd=>by
  obtain⟨n1,n2⟩:=List.nodup_cons.mp nd
  have hi:i<r.length:=by simpa using h
  have ih:=fewer_at i hi n2
  unfold fewer at ih ⊢
  rw[List.filter_cons_of_pos (by
   simp only[List.getElem_cons_succ,Bool.not_eq_true',decide_eq_false_iff_not]
   exact fun z=>n1 (z▸List.getElem_mem hi))]
  simp only[List.getElem_cons_succ,List.take_succ_cons,List.drop_succ_cons,List.cons_append]
  rw[ih]
end
theorem cut_take{xs:List V}{k:Nat}(h:k<=xs.length):cutV xs none (some (k:Int))=xs.take k:=by
 unfold cutV
 rw[HT.sIx_none,HT.sIx_nat,List.drop_zero,Nat.min_eq_left h,Nat.sub_zero]
theorem cut_drop{xs:List V}{k:Nat}(h:k<=xs.length):cutV xs (some (k:Int)) none=xs.drop k:=by
 unfold cutV
 rw[HT.sIx_none,HT.sIx_nat,Nat.min_eq_left h]
 exact List.take_of_length_le (by rw[List.length_drop];exact Nat.le_refl _)
end K07
namespace L2
open PySem PySem.W PyProof.Rows Srt
noncomputable def rNeTT:R2:=fun x y H Q=>∃ (a b:Addr) (ns ms:List Int),x = .ref a/\y = .ref b/\H a=some (.tup (ns.map V.int))/\H b=some (.tup (ms.map V.int))/\Q (.bl (!decide (ns=ms))) H
theorem op_neTT{X:Cx}(hu:X.A.units<cLine):OpR X (compareOp .NotEq) rNeTT:=by
 intro pins s σ H x y v u Q I rx ry h
 obtain⟨a,b,ns,ms,rfl,rfl,ha,hb,q⟩:=h
 cases rx
 cases ry
 obtain⟨its,r,pl,hz⟩:=I.tuple (SqT.of (K:=X.K) ha)
 obtain⟨its',r',pl',hz'⟩:=I.tuple (SqT.of (K:=X.K) hb)
 have l1:=r.length
 have l2:=r'.length
 rw[List.length_map]at l1 l2
 refine SeqAt.RcNeAt.tuples (show s.heap.IsTuple a its.toArray from pl) (show s.heap.IsTuple b its'.toArray from pl') hu (e:=fun j=>decide (ns[j]?=ms[j]?)) (eqAt_ints r r') _ _ _ _ ?_
 have fin:((List.range (min its.toArray.size its'.toArray.size)).all (fun j=>decide (ns[j]?=ms[j]?)) && its.toArray.size == its'.toArray.size)=decide (ns=ms):=by
  rw[Bool.eq_iff_iff,Bool.and_eq_true,List.all_eq_true,decide_eq_true_eq,beq_iff_eq,List.size_toArray,List.size_toArray]
  constructor
  ·rintro⟨h1,h2⟩
   apply List.ext_getElem?
   intro i
   by_cases hi:i<ns.length
   ·exact of_decide_eq_true (h1 i (List.mem_range.mpr (by lia)))
   ·rw[List.getElem?_eq_none (by lia),List.getElem?_eq_none (by lia)]
  ·rintro rfl
   exact⟨fun i _=>decide_eq_true rfl,by lia⟩
 rw[fin]
 exact⟨.bl _,H,I,rfl,q⟩
theorem TabH.ne{B:Addr}{pos:Pos}{q:Str}{H:Hp}(t:TabH B pos q H){a:Addr}{o:HO}(h:H a=some o)(no:∀ ps,o≠.tbl ps):a≠B:=fun z=>by
 rcases t with t |⟨_,t,_⟩ <;> rw[z,t]at h <;> exact no _ (Option.some.inj h).symm
end L2
namespace K07
open PySem L2 PyProof.Rows
noncomputable def spTW:Sp:=fun vs H Q _=>∃ (t:Addr) (n:Nat) (ties:List Tie),vs=[.ref t]/\WebAt H t n ties/\ties.Pairwise tieLt/\∀ (d:Addr) (H':Hp),H d=none->Same H H'->H' d=some (.dT (ties.map kvOf))->Q (.ref d) H'
noncomputable abbrev lamPos:Pos:=⟨38,32,38,64⟩
noncomputable abbrev lamQ:Str:=("pruned":Str)++".<locals>."++"<lambda>"
noncomputable def spPr(B:Addr):Sp:=fun vs H Q _=>∃ (t q c:Addr) (n:Nat) (ties:List Tie) (b e:Bool) (ps:List Int) (as:List Addr) (ks:List (List Int)),vs=[.ref t,.ref q,.ref c]/\WebAt H t n ties/\(∀ x∈ties,TieOk n x)/\ties.Pairwise tieLt/\n<=1000 /\
 H q=some (sqO b (ps.map V.int))/\(∀ x∈ps,0<=x/\x<n)/\ps.length<=1000/\H c=some (sqO e (as.map V.ref))/\TupsAt H as ks/\(∀ k∈ks,k∈ties.map pairOf)/\ks.length<=120/\TabH B lamPos lamQ H /\
 ∀ (l:Addr) (bs:List Addr) (os:List (List Int)) (H':Hp),H l=none->H' l=some (.lst (bs.map V.ref))->TupsAt H' bs (prune n ties ps os ks)->IsOrd ties ks os->BytP B H H'->TabH B lamPos lamQ H'->Q (.ref l) H'
theorem zip_tail(ties:List Tie):∀ (ks:List (List Int)) (as:List Addr),as.length=ks.length->(((ks.map (keyOf ties)).zip as).map fun z=>z.1.tail)=ks
 |[],as,_=>by cases as <;> rfl
 |k :: ks,[],h=>by cases h
 |k :: ks,a :: as,h=>by
  rw[List.map_cons,List.zip_cons_cons,List.map_cons,zip_tail ties ks as (by simpa using h)]
  rfl
theorem zip_mem{H:Hp}{ties:List Tie}{as:List Addr}{ks:List (List Int)}(h:TupsAt H as ks):∀ z∈(ks.map (keyOf ties)).zip as,z.1=keyOf ties z.1.tail/\H z.2=some (.tup (z.1.tail.map V.int)):=by
 induction h with
 |nil=>intro z hz;cases hz
 |cons r _ ih =>
  intro z hz
  rw[List.map_cons,List.zip_cons_cons]at hz
  rcases List.mem_cons.mp hz with e | e
  ·subst e
   exact⟨rfl,r⟩
  ·exact ih z e
theorem zs_ord{H:Hp}{ties:List Tie}{as:List Addr}{ks:List (List Int)}(h:TupsAt H as ks){zs:List (List Int×Addr)}(pz:zs.Perm ((ks.map (keyOf ties)).zip as))(pw:zs.Pairwise fun x y=>Srt.lexlt y.1 x.1=false):IsOrd ties ks (zs.map fun z=>z.1.tail):=by
 refine⟨?_,?_⟩
 ·have:=pz.map fun z=>z.1.tail
  rw[zip_tail ties ks as (tups_len h)]at this
  exact this
 ·rw[List.pairwise_map]
  refine List.Pairwise.imp_of_mem (fun {a b} ha hb z=>?_) pw
  rw[<-(zip_mem h b (pz.mem_iff.mp hb)).1,<-(zip_mem h a (pz.mem_iff.mp ha)).1]
  exact z
theorem sqO_no{b:Bool}{xs:List V}(ps:Array Value):sqO b xs≠.tbl ps:=by
 cases b <;> exact fun z=>by cases z
theorem WebAt.byt{B:Addr}{pos:Pos}{q:Str}{H H':Hp}{t:Addr}{n:Nat}{ties:List Tie}(W:WebAt H t n ties)(TB:TabH B pos q H)(k:BytP B H H'):WebAt H' t n ties:=by
 have np:∀ {x:Addr}{xs:List V},H x=some (.tup xs)->H' x=some (.tup xs):=fun {x xs} h=>k _ _ (TB.ne h fun ps z=>by cases z) h
 obtain⟨⟨ts,as,h1,h2,h3⟩,l⟩:=W
 exact⟨⟨ts,as,np h1,np h2,Paired.mapP h3 fun _ _ z=>np z⟩,l⟩
theorem tups_byt{B:Addr}{pos:Pos}{q:Str}{H H':Hp}{as:List Addr}{ks:List (List Int)}(h:TupsAt H as ks)(TB:TabH B pos q H)(k:BytP B H H'):TupsAt H' as ks:=Paired.mapP h fun _ _ z=>k _ _ (TB.ne z fun ps y=>by cases y) z
theorem sqB_of{b:Bool}{K:PySem.W.Frag}{H:Hp}{a:Addr}{xs:List V}(h:H a=some (sqO b xs)):SqB b K H a xs:=by
 cases b
 ·exact SqL.of h
 ·exact SqT.of h
section
variable{P:Program}{w:World}{K:PySem.W.Frag}{mg:Str->Option Value}{base:Heap}
theorem scTW:FnScope ["web"] ["web"] (defScope sTieWeights):=⟨rfl,rfl,rfl,by decide +kernel,rfl,by decide +kernel,by decide +kernel⟩
theorem csTW:CompScope ["a","b","weight"] [none,none,none] ["web"] (defScope sTieWeights) (scO [(".0",.local),("a",.local),("b",.local),("weight",.local)]):=⟨rfl,by decide +kernel,by decide +kernel,by decide +kernel,rfl,capB_ok (by decide +kernel)⟩
theorem ndTW:(["a","b","weight"]:List Str).Nodup:=by decide +kernel
theorem ok_tw{f:Addr}{fd:FuncData}(F:Fun K "tie_weights" "tie_weights" sTieWeights f fd):FnOk P w K mg base CX0 1 f fd ["web"] spTW:=by
 refine F.ok scTW (fun vs H Q E h=>?_) (fun cdv A outer s H vs Q E hr h=>?_)
 ·obtain⟨t,n,ties,rfl,_⟩:=h
  rfl
 ·obtain⟨t,n,ties,rfl,W,pw,q⟩:=h
  obtain⟨⟨ts,as,h1,h2,h3⟩,len⟩:=id W
  have h3l:as.length=ties.length:=h3.length
  have hu:_<cLine:=hr.units0
  refine⟨_,pss_one (ps_ret (pe_dcomp true hu rfl csTW (pi_tup (pe_ix ix_tup (pv 0) pe_int (fun _ _=>rfl)))
   (fun C s H fp=>pg_tupK K rfl (n:=3) rfl (pgs_cons (pg_name (i:=0) ndTW rfl (Or.inl rfl)) (pgs_cons (pg_name (i:=1) ndTW rfl (Or.inl rfl)) (pgs_cons (pg_name (i:=2) ndTW rfl (Or.inl rfl)) pgs_nil))) rfl rfl)
   (fun C s H fp=>pf_nil) (fun C s H fp=>@pe_tup _ _ _ _ _ (@pa_nam _ _ _ _ _ _ (pv 0) (@pa_nam _ _ _ _ _ _ (pv 1) pa_nil))) (fun C s H fp=>pv 2))),?_⟩
  refine⟨_,rfl,t,_,_,_,rfl,rfl,SqT.of h1,rfl,ts,rfl,⟨_,SqT.of h2⟩,fun D hD=>?_⟩
  refine dcomp_tup (K:=K) (a:=ts) (xs:=as.map V.ref) (fun i G=>Same H G/\G D=some (.dT ((ties.take i).map kvOf))) ⟨Same.new hD,upd_same⟩ (fun i G _ z=>z.1.tupq (SqT.of h2)) ?_ ?_
  ·rintro i x G hx ⟨sm,gD⟩
   obtain⟨il,e⟩:=List.getElem?_eq_some_iff.mp hx
   rw[List.length_map]at il
   rw[List.getElem_map]at e
   subst e
   have it:i<ties.length:=by lia
   have hx:=sm _ _ (Paired.at h3 i il it)
   refine⟨as[i],_,rfl,SqT.of hx,rfl,_,_,rfl,_,_,rfl,_,_,rfl,rfl,trivial,tTru_if ⟨_,rfl,_,rfl,(by show 2<=sizeLine;decide),fun tp htp=>⟨_,rfl,?_⟩⟩⟩
   have gD2:(upd G tp (.tup [V.int ties[i].1,V.int ties[i].2.1])) D=some (.dT ((ties.take i).map kvOf)):=(Same.new htp) _ _ gD
   refine⟨_,DPut.t (k:=[Sum.inl ties[i].1,Sum.inl ties[i].2.1]) gD2 upd_same (by rw[List.length_map,List.length_take,sizeLine_eq];lia),?_,?_⟩
   ·exact fun b o e=>by
     have n1:b≠D:=ne_of_none e hD
     rw[upd_ne n1]
     exact(sm.trans (Same.new htp)) _ _ e
   ·rw[upd_same,List.take_succ_eq_append_getElem it,List.map_append,putK_new]
    ·rfl
    ·refine valV_no fun z=>?_
     rw[List.map_map]at z
     obtain⟨y,hy,e⟩:=List.mem_map.mp z
     have pe:pairOf y=pairOf ties[i]:=keys_inj e
     obtain⟨j,hj,ej⟩:=List.getElem_of_mem hy
     rw[List.length_take]at hj
     rw[List.getElem_take]at ej
     have lt:=List.pairwise_iff_getElem.mp (tieLt_pairs pw) j i (by rw[List.length_map];lia) (by rw[List.length_map];omega) (by lia)
     rw[List.getElem_map,List.getElem_map,ej,pe,Srt.lexlt_irrefl]at lt
     cases lt
  ·rintro G ⟨sm,gD⟩
   rw[List.take_of_length_le (by rw[List.length_map,h3l];exact Nat.le_refl _)]at gD
   exact q D G hD sm gD
noncomputable abbrev nPr:List Str:=["web","posts","cut","weights","staying","pair","fewer"]
theorem scPr:FnScope nPr ["web","posts","cut"] (defScope sPruned):=⟨rfl,rfl,rfl,by decide +kernel,rfl,by decide +kernel,by decide +kernel⟩
theorem csPr1:CompScope ["other","pair"] [none,some 5] nPr (defScope sPruned) (scO [(".0",.local),("other",.local),("pair",.free)]):=⟨rfl,by decide +kernel,by decide +kernel,by decide +kernel,rfl,capB_ok (by decide +kernel)⟩
theorem ndPr1:(["other","pair"]:List Str).Nodup:=by decide +kernel
theorem csLam:CompScope ["tie","weights"] [none,some 3] nPr (defScope sPruned) (scO [("tie",.local),("weights",.free)]):=⟨rfl,by decide +kernel,by decide +kernel,by decide +kernel,rfl,capB_ok (by decide +kernel)⟩
theorem ndLam:(["tie","weights"]:List Str).Nodup:=by decide +kernel
noncomputable abbrev lamArgs:Arguments:={ posonlyargs:=[],args:=[{ arg:="tie",annotation:=none,pos:=⟨38,39,38,42⟩:PySem.Arg }],vararg:=none,kwonlyargs:=[],kw_defaults:=[],kwarg:=none,defaults:=[] }
theorem bindLam(u:Value)(fd:FuncData)(h1:fd.params=lamArgs)(h2:fd.defaults = .none)(h3:fd.kwdefaults = .none):bindArgs fd ⟨[u],[]⟩=pure [(("tie":Str),u)]:=by
 cases fd
 cases h1
 cases h2
 cases h3
 rfl
theorem ok_pr{f g1 g2 c B:Addr}{fd d1 d2:FuncData}(F:Fun K "pruned" "pruned" sPruned f fd)(T:Txt mg)(hc:fd.code = .ref c)(hd:PySem.W.CodeHd base c B)(hB:base.BuiltinsAt mg B)(GT:CalF P w K mg base 1 "tie_weights" ["web"] spTW g1 d1)(GI:CalF P w K mg base 3 "is_parting" ["web","posts","cut"] (spIP K) g2 d2):FnOk P w K mg base CX0 4 f fd ["web","posts","cut"] (spPr B):=by
 refine F.okC scPr (fun vs H Q E h=>?_) (fun cdv A outer s H vs Q E hcd hr h=>?_)
 ·obtain⟨t,q,c,n,ties,b,e,ps,as,ks,rfl,_⟩:=h
  rfl
 ·obtain⟨t,q,c0,n,ties,b,e,ps,as,ks,rfl,W,ok,pw,nb,gq,rg,pl,gc,tc,sub,kl,TB,fin⟩:=h
  have hr3:Room 3 _:=hr
  have hr1:Room 1 _:=hr.mono (by decide)
  have hu:_<cLine:=hr.units0
  have LC:LamCx (cxOf CX0 P w K mg base nPr "pruned" (defScope sPruned) f cdv A outer s H E).nox c B:=⟨hcd.symm.trans hc,hd,hB⟩
  refine⟨_,(pss_cons (ps_set (i:=3) scPr.nd rfl (Or.inr rfl) (pe_call GT.ok hr1 rfl GT.mg GT.kp GT.bd .nil pass0 (@pa_nam _ _ _ _ _ _ (pv 0) pa_nil)))
   (pss_cons (ps_set (i:=4) scPr.nd rfl (Or.inl rfl) (pe_callTy (call_listH e) (by rfl) T.list boot_list (@pa_nam _ _ _ _ _ _ (pv 2) pa_nil)))
   (pss_cons (ps_for PassesOwn.never rfl (pi_list (pe_sortKey hr3 LC csLam (by rfl) T.sorted (@pa_nam _ _ _ _ _ _ (pv 2) pa_nil) (fun A1 f1 c1 s1 H1 hrL=>@pe_tup _ _ _ _ _ (@pa_un _ _ _ _ _ _ _ (pe_un un_neg (pe_dget (hu_of hrL) (pv 1) (pv 0) (fun _ _=>rfl))) (@pa_nam _ _ _ _ _ _ (pv 0) pa_nil))) bindLam rfl rfl rfl ndLam)) (pg_name (i:=5) scPr.nd rfl (Or.inr rfl))
   (pss_cons (ps_comp (i:=6) scPr.nd rfl (Or.inl rfl) rfl csPr1 (pi_list (pv 4)) (fun C s H fp=>(pg_name (i:=0) ndPr1 rfl (Or.inl rfl))) (fun C s H fp=>(pf_one (pt_cmpR (op_neTT hu) (pv 0) (pv 1) (nomark _)))) (fun C s H fp=>(pv 0)))
   (pss_one (ps_if (pt_val (pe_call GI.ok hr3 rfl GI.mg GI.kp GI.bd .nil pass0 (@pa_nam _ _ _ _ _ _ (pv 0) (@pa_nam _ _ _ _ _ _ (pv 1) (@pa_nam _ _ _ _ _ _ (pv 6) pa_nil))))) (pss_one (ps_set (i:=4) scPr.nd rfl (Or.inl rfl) (pv 6))) pss_nil))))
   (pss_one (ps_ret (pv 4)))))),?_⟩
  have ll:=tups_len tc
  refine⟨_,rfl,t,n,ties,rfl,W,pw,fun d H1 hd1 s1 gd=>?_⟩
  refine⟨_,rfl,c0,_,rfl,s1 _ _ gc,fun st hst=>?_⟩
  have s2:=Same.new (o:=.lst (as.map V.ref)) hst
  have hst0:H st=none:=s1.free hst
  have gst:(upd H1 st (.lst (as.map V.ref))) st=some (.lst (as.map V.ref)):=upd_same
  have s02:=s1.trans s2
  have gd2:=s2 _ _ gd
  generalize (upd H1 st (.lst (as.map V.ref)))=H2 at gst s02 gd2
  have TB2:TabH B lamPos lamQ H2:=TB.same s02
  have gc2:=s02 _ _ gc
  have tc2:TupsAt H2 as ks:=Paired.mapP tc fun _ _ z=>s02 _ _ z
  clear s2 s1 hst gd hd1
  refine⟨_,rfl,c0,e,as,ks.map (keyOf ties),rfl,gc2,by lia,by rw[List.length_map];lia,TB2,fun H3 byt fre=>⟨fun i hi G sG=>?_,fun l zs H4 TB4 s34 hl pz pwz=>?_⟩⟩
  ·have hk:i<ks.length:=by lia
   have a1:=sG _ _ (tups_at (tups_byt tc2 TB2 byt) i hi hk)
   have g1:=sG _ _ (byt _ _ (TB2.ne gd2 fun ps z=>by cases z) gd2)
   have g0:DGet G d (V.ref as[i]) (valV (ties.map kvOf) (ks[i].map Sum.inl)):=DGet.t g1 (by rw[a1,List.map_map];rfl)
   rw[val_of (sub _ (List.getElem_mem hk))]at g0
   refine⟨_,rfl,_,rfl,d,_,rfl,g0,_,rfl,_,rfl,(by show 2<=sizeLine;decide),fun tp htp=>?_⟩
   have s3:=Same.new (o:=.tup [V.int (-(wOf ties ks[i])),V.ref as[i]]) htp
   exact⟨s3,tp,keyOf ties ks[i],rfl,by rw[List.getElem?_map,List.getElem?_eq_getElem hk];rfl,as[i],_,ks[i],upd_same,s3 _ _ a1,rfl⟩
  ·have tc4:TupsAt H4 as ks:=Paired.mapP (tups_byt tc2 TB2 byt) fun _ _ z=>s34 _ _ z
   have s5:=Same.new (o:=.lst (zs.map fun z=>V.ref z.2)) hl
   have b45:BytP B H (upd H4 l (.lst (zs.map fun z=>V.ref z.2))):=(BytP.of s02).trans (byt.trans (BytP.of (s34.trans s5)))
   have TB5:TabH B lamPos lamQ (upd H4 l (.lst (zs.map fun z=>V.ref z.2))):=TB4.same s5
   have tc5:TupsAt (upd H4 l (.lst (zs.map fun z=>V.ref z.2))) as ks:=Paired.mapP tc4 fun _ _ z=>s5 _ _ z
   have gst5:=s5 _ _ (s34 _ _ (byt _ _ (TB2.ne gst fun ps z=>by cases z) gst))
   have gl5:(upd H4 l (.lst (zs.map fun z=>V.ref z.2))) l=some (.lst (zs.map fun z=>V.ref z.2)):=upd_same
   refine⟨l,rfl,⟨_,SqL.of gl5⟩,?_⟩
   have od:=zs_ord tc pz pwz
   have mz:∀ z∈zs,(upd H4 l (.lst (zs.map fun z=>V.ref z.2))) z.2=some (.tup (z.1.tail.map V.int)):=fun z hz=>(zip_mem tc5 z (pz.mem_iff.mp hz)).2
   generalize (upd H4 l (.lst (zs.map fun z=>V.ref z.2)))=H5 at b45 TB5 tc5 gst5 gl5 mz
   have W5:WebAt H5 t n ties:=W.byt TB b45
   have gq5:=b45 _ _ (TB.ne gq sqO_no) gq
   have ozl:(zs.map fun z=>z.1.tail).length=zs.length:=List.length_map _
   have oskl:=od.perm.length_eq
   generalize eos:(zs.map fun z=>z.1.tail)=os at od ozl oskl
   clear s5 hl TB4 s34 tc4 byt fre pz pwz H4 H3 tc2 gc2 TB2 gd2 gst s02
   refine for_list (K:=K) (a:=l) (xs:=zs.map fun z=>V.ref z.2) (fun i σ G=>∃ (st:Addr) (bs:List Addr) (v5 v6:Option V),σ=[some (.ref t),some (.ref q),some (.ref c0),some (.ref d),some (.ref st),v5,v6]/\G st=some (.lst (bs.map V.ref))/\TupsAt G bs (prune n ties ps (os.take i) ks)/\H st=none/\Same H5 G) ⟨st,as,_,_,rfl,gst5,tc5,hst0,Same.refl _⟩ (fun i σ G _ z=>by obtain⟨_,_,_,_,_,_,_,_,s⟩:=z;exact SqL.of (s _ _ gl5)) ?_ ?_
   ·rintro i x σ G hx ⟨st',bs,v5,v6,rfl,gs,tb,hs0,sG⟩
    obtain⟨il,ex⟩:=List.getElem?_eq_some_iff.mp hx
    rw[List.length_map]at il
    rw[List.getElem_map]at ex
    subst ex
    have io:i<os.length:=by lia
    have eo:os[i]=zs[i].1.tail:=by simp[<- eos]
    have gp:=sG _ _ (mz _ (List.getElem_mem il))
    rw[<- eo]at gp
    have bl:=tups_len tb
    have prl:=(prune_sub (n:=n) (ties:=ties) (ps:=ps) (os.take i) ks).length_le
    have epr:prune n ties ps (os.take (i+1)) ks=stepP n ties ps (prune n ties ps (os.take i) ks) os[i]:=by rw[List.take_succ_eq_append_getElem io,prune_snoc]
    have prsub:=(prune_sub (n:=n) (ties:=ties) (ps:=ps) (os.take i) ks)
    generalize prune n ties ps (os.take i) ks=pr at tb bl prl epr prsub
    generalize os[i]=kk at gp epr
    refine⟨_,rfl,st',rfl,⟨_,SqL.of gs⟩,?_⟩
    refine comp_list (K:=K) (a:=st') (xs:=bs.map V.ref) (fun j ys G2=>Same G G2/\∃ cs:List Addr,ys=cs.map V.ref/\TupsAt G2 cs (fewer (pr.take j) kk)) (by rw[List.length_map,sizeLine_eq];lia) ⟨Same.refl _,[],rfl,.nil⟩ (fun j ys G2 _ z=>SqL.of (z.1 _ _ gs)) ?_ ?_
    ·rintro j y ys G2 hy ⟨sG2,cs,rfl,tcs⟩
     obtain⟨jl,ey⟩:=List.getElem?_eq_some_iff.mp hy
     rw[List.length_map]at jl
     rw[List.getElem_map]at ey
     subst ey
     have jp:j<pr.length:=by lia
     have gb:=sG2 _ _ (tups_at tb j jl jp)
     have tk:fewer (pr.take (j+1)) kk=fewer (pr.take j) kk++fewer [pr[j]] kk:=by
      unfold fewer
      rw[List.take_succ_eq_append_getElem jp,List.filter_append]
     refine⟨⟨rfl,trivial⟩,_,rfl,_,rfl,bs[j],zs[i].2,pr[j],kk,rfl,rfl,gb,sG2 _ _ gp,_,rfl,ite2 (fun hc=>?_) (fun hc=>?_)⟩
     ·have e1:fewer [pr[j]] kk=[pr[j]]:=by
       unfold fewer
       rw[List.filter_cons_of_pos (by simpa using hc)]
       rfl
      refine⟨_,rfl,sG2,cs++[bs[j]],by rw[List.map_append];rfl,?_⟩
      rw[tk,e1]
      exact Paired.snoc tcs gb
     ·have e1:fewer [pr[j]] kk=[]:=by
       unfold fewer
       rw[List.filter_cons_of_neg (by simpa using hc)]
       rfl
      refine⟨sG2,cs,rfl,?_⟩
      rw[tk,e1,List.append_nil]
      exact tcs
    rintro ys G2 yl ⟨sG2,cs,rfl,tcs⟩ fw hfw
    rw[List.length_map,bl,List.take_length]at tcs
    have s6:=Same.new (o:=.lst (cs.map V.ref)) hfw
    have gfw:(upd G2 fw (.lst (cs.map V.ref))) fw=some (.lst (cs.map V.ref)):=upd_same
    have sG6:=sG2.trans s6
    have tcs6:TupsAt (upd G2 fw (.lst (cs.map V.ref))) cs (fewer pr kk):=Paired.mapP tcs fun _ _ z=>s6 _ _ z
    have hfwH:H fw=none:=by
     cases ez:H fw with
     |none=>rfl
     |some o =>
      exfalso
      by_cases zb:fw=B
      ·have t2:=(TB5.same sG).same sG2
       rw[zb]at hfw
       rcases t2 with t2 |⟨_,t2,_⟩ <;> rw[t2]at hfw <;> cases hfw
      ·have:=sG2 _ _ (sG _ _ (b45 _ _ zb ez))
       rw[hfw]at this
       cases this
    generalize (upd G2 fw (.lst (cs.map V.ref)))=G3 at gfw sG6 tcs6
    have s53:=sG.trans sG6
    have fl:(fewer pr kk).length<=120:=by
     have:(fewer pr kk).length<=pr.length:=List.length_filter_le _ _
     lia
    refine⟨_,rfl,_,rfl,_,rfl,t,q,fw,n,ties,b,ps,fewer pr kk,rfl,W5.same s53,ok,nb,sqB_of (s53 _ _ gq5),rg,pl,⟨false,cs,SqL.of gfw,tcs6,by lia⟩,fun hs G4 IH s7=>⟨_,rfl,?_⟩⟩
    rw[pB_eq IH]
    have s54:=s53.trans s7
    refine ite2 (fun hc=>?_) (fun hc=>?_)
    ·refine⟨_,rfl,fw,cs,_,_,rfl,s7 _ _ gfw,?_,hfwH,s54⟩
     have e2:stepP n ties ps pr kk=fewer pr kk:=by unfold stepP;rw[if_pos hc]
     rw[epr,e2]
     exact Paired.mapP tcs6 fun _ _ z=>s7 _ _ z
    ·refine⟨st',bs,_,_,rfl,(sG6.trans s7) _ _ gs,?_,hs0,s54⟩
     have e2:stepP n ties ps pr kk=pr:=by unfold stepP;rw[if_neg hc]
     rw[epr,e2]
     exact Paired.mapP tb fun _ _ z=>(sG6.trans s7) _ _ z
   ·rintro σ G ⟨st',bs,v5,v6,rfl,gs,tb,hs0,sG⟩
    rw[List.length_map,<- ozl,List.take_length]at tb
    exact⟨_,rfl,fin st' bs os G hs0 gs tb od (b45.trans (BytP.of sG)) (TB5.same sG)⟩
end
end K07
namespace HT
open PySem PySem.Spec PyProof.Rows
section
variable{prog:Program}{w:World}{A:Around}{E:Value->Shared->Prop}{s:Shared}
theorem getItem_tuple_whole{t sl:Addr}{items:Array Value}{vl vu:Value}{lo hi:Option Int}{Q:Value->Shared->Prop}(ht:IsTup s.heap t items)(hs:s.heap.IsSliceOf sl vl vu .none)(pl:IsPart vl lo)(pu:IsPart vu hi)
  (hw:sIx items.size 0 lo=0/\sIx items.size items.size hi=items.size)
  (h:Q (.ref t) s):wpAny (model prog w) A (getItem (.ref t) (.ref sl)) Q E s:=by
 obtain⟨os,hos,hcs,hds⟩:=id hs
 have hTs:s.TypeIs (.ref sl) "slice":=⟨os,hos,hcs⟩
 unfold getItem
 try with_reducible refine wpAny_holding ?_
 first | refine wpAny_bind (wpAny_pure ?_) | skip
 refine wpAny_bind (wpAny_sequenceKey ht.typeIs (by decide) ?_)
 refine wpAny_bind (wpAny_callSpecial?_slot (name:=Str.ofString "__getitem__") ht.typeIs PyProof.Rows.slot_tuple_getitem
  (wpAny_call_entry PyProof.Rows.slot_tuple_getitem ht.typeIs entry_tuple_getitem ?_ (args_tuple_getitem _ _)))
 show wpAny _ _ (Builtin.Tuple.tupleItemsOf (.ref t) >>= _) _ _ s
 refine wpAny_bind (tupleItemsOf_ ht ?_)
 refine wpAny_bind (wpAny_typeOf hTs ?_)
 rw[if_pos (by decide)]
 refine wpAny_bind (sliceApplied_gen hs pl pu ?_)
 have hyes:(((sIx items.size 0 lo:Nat):Int) == 0 && (1:Int) == 1 && (sIx items.size items.size hi-sIx items.size 0 lo) == items.size)=true:=by
  rw[hw.1,hw.2]
  simp
 show wpAny _ _ (if(((sIx items.size 0 lo:Nat):Int) == 0 && (1:Int) == 1 && (sIx items.size items.size hi-sIx items.size 0 lo) == items.size)=true then _ else _) _ _ s
 rw[if_pos hyes]
 refine wpAny_bind (m:=Builtin.Tuple.tupleIsExact (.ref t)) ?_
 unfold Builtin.Tuple.tupleIsExact
 refine wpAny_bind (wpAny_typeOf ht.typeIs (wpAny_pure ?_))
 rw[if_pos (by decide)]
 refine wpAny_bind (wpAny_rule ?_)
 first
  |exact wpAny_pure ⟨_,rfl,wpAny_pure h⟩
  |exact wpAny_bind (wpAny_pure (wpAny_pure ⟨_,rfl,wpAny_pure h⟩))
  |exact wpAny_bind (wpAny_pure ⟨_,rfl,wpAny_pure h⟩)
end
end HT
namespace L2
open PySem PySem.W PyProof.Rows
variable{X:Cx}
noncomputable def rSlA:V->Option Int->Option Int->Hp->VK->Prop:=fun x lo hi H Q=>∃ a xs,x = .ref a/\H a=some (.tup xs)/\∀ p H',Same H H'->H' p=some (.tup (cutV xs lo hi))->Q (.ref p) H'
theorem sl_tupA:SlR X rSlA:=by
 intro pins s σ H x v vl vu lo hi sl Q I rx hs pl pu h
 obtain⟨a,xs,rfl,hx,q⟩:=h
 by_cases hw:HT.sIx xs.length 0 lo=0/\HT.sIx xs.length xs.length hi=xs.length
 ·cases rx
  obtain⟨its,r,ht,hz⟩:=I.tuple (SqT.of (K:=X.K) hx)
  have hlen:its.toArray.size=xs.length:=by rw[List.size_toArray];exact r.length.symm
  refine⟨"tuple",_,PyProof.Rows.slot_tuple_getitem.lookup,ht.typeIs,?_⟩
  refine HT.getItem_tuple_whole ht hs pl pu (by rw[hlen];exact hw) ⟨.ref a,H,I,rfl,q a H (Same.refl _) ?_⟩
  unfold cutV
  rw[hw.1,hw.2,List.drop_zero,Nat.sub_zero,List.take_length]
  exact hx
 ·exact sl_tup pins s σ H _ v vl vu lo hi sl Q I rx hs pl pu ⟨a,xs,rfl,SqT.of hx,hw,fun p hp=>q p _ (Same.new hp) upd_same⟩
end L2
namespace K07
open PySem L2 PyProof.Rows
theorem putPs_map:∀ (m:Nat) (l:List (List Key×Addr×V)),l.length=m->(l.map (·.1)).Nodup->putPs l=l.map fun x=>(x.1,x.2.2):=by
 intro m
 induction m with
 |zero =>
  intro l hl _
  rw[List.length_eq_zero_iff.mp hl]
  rfl
 |succ m ih =>
  intro l hl nd
  have ne:l≠[]:=fun z=>by rw[z]at hl;cases hl
  rw[<- List.dropLast_concat_getLast ne]at nd ⊢
  rw[List.map_append,List.nodup_append]at nd
  have e:=ih l.dropLast (by rw[List.length_dropLast,hl];rfl) nd.1
  rw[putPs_snoc,e,List.map_append,putK_new]
  ·rfl
  ·refine valV_no fun z=>?_
   rw[List.map_map]at z
   exact nd.2.2 _ z _ (by simp) rfl
theorem ns_ord{ties:List Tie}{ks ns:List (List Int)}(pn:ns.Perm (ks.map (keyOf ties)))(pw:ns.Pairwise fun x y=>Srt.lexlt y x=false):IsOrd ties ks (ns.map List.tail):=by
 have mem:∀ z∈ns,z=keyOf ties z.tail:=fun z hz=>by
  obtain⟨k,_,rfl⟩:=List.mem_map.mp (pn.mem_iff.mp hz)
  rfl
 refine⟨?_,?_⟩
 ·have:=pn.map List.tail
  rw[List.map_map,show(List.tail ∘ keyOf ties)=id from rfl,List.map_id]at this
  exact this
 ·rw[List.pairwise_map]
  refine List.Pairwise.imp_of_mem (fun {a b} ha hb z=>?_) pw
  rw[<- mem b hb,<- mem a ha]
  exact z
noncomputable def spDu(K:PySem.W.Frag):Sp:=fun vs H Q _=>∃ (t q c:Addr) (n:Nat) (ties:List Tie) (ps:List Int) (as:List Addr) (ks:List (List Int)),vs=[.ref t,.ref q,.ref c]/\WebAt H t n ties/\(∀ x∈ties,TieOk n x)/\ties.Pairwise tieLt/\n<=1000 /\
 H q=some (.lst (ps.map V.int))/\(∀ x∈ps,0<=x/\x<n)/\ps.length<=1000/\H c=some (.lst (as.map V.ref))/\TupsAt H as ks/\(∀ k∈ks,k∈ties.map pairOf)/\ks.length<=120/\ks.Pairwise (fun x y=>Srt.lexlt x y=true) /\
 ∀ (l:Addr) (bs:List Addr) (os:List (List Int)) (H':Hp),H l=none->H' l=some (.lst (bs.map V.ref))->TupsAt H' bs (prune n ties ps os ks)->IsOrd ties ks os->Same H H'->Q (.ref l) H'
section
variable{P:Program}{w:World}{K:PySem.W.Frag}{mg:Str->Option Value}{base:Heap}
noncomputable abbrev nDu:List Str:=["_law_web_here","_law_posts_here","_law_cut_here","_law_left","_law_weights","_law_weight_here","_law_pair","_law_fewer"]
theorem scDu:FnScope nDu ["_law_web_here","_law_posts_here","_law_cut_here"] (defScope sDue):=⟨rfl,rfl,rfl,by decide +kernel,rfl,by decide +kernel,by decide +kernel⟩
theorem csDu1:CompScope ["_law_tie"] [none] nDu (defScope sDue) (scO [(".0",.local),("_law_tie",.local)]):=⟨rfl,by decide +kernel,by decide +kernel,by decide +kernel,rfl,capB_ok (by decide +kernel)⟩
theorem ndDu1:(["_law_tie"]:List Str).Nodup:=by decide +kernel
theorem csDu2:CompScope ["_law_pair","_law_weights"] [none,some 4] nDu (defScope sDue) (scO [(".0",.local),("_law_pair",.local),("_law_weights",.free)]):=⟨rfl,by decide +kernel,by decide +kernel,by decide +kernel,rfl,capB_ok (by decide +kernel)⟩
theorem ndDu2:(["_law_pair","_law_weights"]:List Str).Nodup:=by decide +kernel
theorem csDu3:CompScope ["_law_other","_law_pair"] [none,some 6] nDu (defScope sDue) (scO [(".0",.local),("_law_other",.local),("_law_pair",.free)]):=⟨rfl,by decide +kernel,by decide +kernel,by decide +kernel,rfl,capB_ok (by decide +kernel)⟩
theorem ndDu3:(["_law_other","_law_pair"]:List Str).Nodup:=by decide +kernel
theorem ok_du{f g1:Addr}{fd d1:FuncData}(F:Fun K "_law_due" "_law_due" sDue f fd)(T:Txt mg)(T2:Txt2 mg)(GP:CalF P w K mg base 2 "_law_parts" ["_law_web_here","_law_posts_here","_law_cut_here"] (spPt K) g1 d1):FnOk P w K mg base CX0 3 f fd ["_law_web_here","_law_posts_here","_law_cut_here"] (spDu K):=by
 refine F.ok scDu (fun vs H Q E h=>?_) (fun cdv A outer s H vs Q E hr h=>?_)
 ·obtain⟨t,q,c,n,ties,ps,as,ks,rfl,_⟩:=h
  rfl
 ·obtain⟨t,q,c0,n,ties,ps,as,ks,rfl,W,ok,pw,nb,gq,rg,pl,gc,tc,sub,kl,so,fin⟩:=h
  have hr2:Room 2 _:=hr
  have hu:=hu_of hr
  have hu0:_<cLine:=hr.units0
  obtain⟨⟨ts,tas,h1,h2,h3⟩,len⟩:=id W
  have h3l:tas.length=ties.length:=h3.length
  refine⟨_,(pss_cons (ps_set (i:=3) scDu.nd rfl (Or.inl rfl) (pe_callB call_sortedT (by rfl) T.sorted boot_sorted (@pa_nam _ _ _ _ _ _ (pv 2) pa_nil)))
   (pss_cons (ps_set (i:=4) scDu.nd rfl (Or.inr rfl) (pe_callTy (call_dict_pairs rfl hr.units) (by rfl) T2.dict PyProof.Rows.boot_dict (@pa_comp _ _ _ _ _ _ _ _ (pe_comp rfl csDu1 (pi_tup (@pe_ix _ _ _ _ _ _ _ ix_tupH (pv 0) pe_int (fun _ _=>rfl))) (fun C s H fp=>(pg_name (i:=0) ndDu1 rfl (Or.inl rfl))) (fun C s H fp=>pf_nil) (fun C s H fp=>(@pe_tup _ _ _ _ _ (@pa_sub _ _ _ _ _ _ _ (pe_slice sl_tupA (pv 0) po_none (po_some pe_int)) (@pa_sub _ _ _ _ _ _ _ (@pe_ix _ _ _ _ _ _ _ ix_tupH (pv 0) pe_int (fun _ _=>rfl)) pa_nil))))) pa_nil)))
   (pss_cons (ps_for PassesOwn.never rfl (pi_list (pe_callB (call_sortedN hr.units) (by rfl) T.sorted boot_sorted (@pa_comp _ _ _ _ _ _ _ _ (pe_comp rfl csDu2 (pi_list (pv 2)) (fun C s H fp=>(pg_name (i:=0) ndDu2 rfl (Or.inl rfl))) (fun C s H fp=>pf_nil) (fun C s H fp=>(@pe_tup _ _ _ _ _ (@pa_un _ _ _ _ _ _ _ (pe_un un_neg (pe_dget hu (pv 1) (pv 0) (fun _ _=>rfl))) (@pa_nam _ _ _ _ _ _ (pv 0) pa_nil))))) pa_nil))) (pg_tup (n:=2) rfl (pgs_cons (pg_name (i:=5) scDu.nd rfl (Or.inl rfl)) (pgs_cons (pg_name (i:=6) scDu.nd rfl (Or.inr rfl)) pgs_nil)))
   (pss_cons (ps_comp (i:=7) scDu.nd rfl (Or.inl rfl) rfl csDu3 (pi_list (pv 3)) (fun C s H fp=>(pg_name (i:=0) ndDu3 rfl (Or.inl rfl))) (fun C s H fp=>(pf_one (pt_cmpR (op_neTT hu0) (pv 0) (pv 1) (nomark _)))) (fun C s H fp=>(pv 0)))
   (pss_one (ps_if (pt_val (pe_call GP.ok hr2 rfl GP.mg GP.kp GP.bd .nil pass0 (@pa_nam _ _ _ _ _ _ (pv 0) (@pa_nam _ _ _ _ _ _ (pv 1) (@pa_nam _ _ _ _ _ _ (pv 7) pa_nil))))) (pss_one (ps_set (i:=3) scDu.nd rfl (Or.inl rfl) (pv 7))) pss_nil))))
   (pss_one (ps_ret (pv 3)))))),?_⟩
  have ll:=tups_len tc
  have kne:∀ k∈ks,k≠[]:=fun k hk=>by
   obtain⟨x,_,e⟩:=List.mem_map.mp (sub k hk)
   rw[<- e]
   exact fun z=>nomatch z
  refine⟨_,rfl,c0,as,ks,rfl,SqL.of gc,tc,kne,by lia,fun l0 bs0 ns0 hl0 pn0 pw0 tb0=>?_⟩
  have en:=sorted_is pn0 pw0 so
  subst en
  have s1:=Same.new (o:=.lst (bs0.map V.ref)) hl0
  have gl0:(upd H l0 (.lst (bs0.map V.ref))) l0=some (.lst (bs0.map V.ref)):=upd_same
  have tl0:TupsAt (upd H l0 (.lst (bs0.map V.ref))) bs0 ns0:=Paired.mapP tb0 fun _ _ z=>s1 _ _ z
  generalize (upd H l0 (.lst (bs0.map V.ref)))=H1 at s1 gl0 tl0
  clear tb0 pn0 pw0
  -- the weights
  refine⟨_,rfl,t,_,_,_,rfl,rfl,s1 _ _ h1,rfl,ts,rfl,⟨_,SqT.of (s1 _ _ h2)⟩,?_⟩
  refine comp_tup (K:=K) (a:=ts) (xs:=tas.map V.ref) (fun j ys G=>Same H1 G/\∃ (bs:List Addr) (ws:List (List Key×Addr×V)),ys=bs.map V.ref/\Paired (fun b (x:List Key×Addr×V)=>G b=some (.tup [.ref x.2.1,x.2.2])/\G x.2.1=some (.tup (x.1.map kV))) bs ws/\ws.map (fun x=>(x.1,x.2.2))=(ties.take j).map kvOf) (by rw[List.length_map,sizeLine_eq];lia) ⟨Same.refl _,[],[],rfl,.nil,rfl⟩ (fun j ys G _ z=>SqT.of (z.1 _ _ (s1 _ _ h2))) ?_ ?_
  ·rintro j x ys G hx ⟨sG,bs,ws,rfl,pb,ew⟩
   obtain⟨jl,e⟩:=List.getElem?_eq_some_iff.mp hx
   rw[List.length_map]at jl
   rw[List.getElem_map]at e
   subst e
   have jt:j<ties.length:=by lia
   have gx:=sG _ _ (s1 _ _ (Paired.at h3 j jl jt))
   refine⟨trivial,tTru_if ⟨_,rfl,2,rfl,tas[j],_,rfl,gx,fun pp G' sG' gp=>⟨_,rfl,tas[j],_,_,_,rfl,rfl,sG' _ _ gx,rfl,(by show 2<=sizeLine;decide),fun tp htp=>?_⟩⟩⟩
   have s3:=Same.new (o:=.tup [V.ref pp,V.int ties[j].2.2]) htp
   have s13:=sG'.trans s3
   have gp':G' pp=some (.tup [V.int ties[j].1,V.int ties[j].2.1]):=gp
   refine⟨sG.trans s13,bs++[tp],ws++[((kvOf ties[j]).1,pp,(kvOf ties[j]).2)],by rw[List.map_append];rfl,?_,?_⟩
   ·exact Paired.snoc (Paired.mapP pb fun _ _ z=>⟨s13 _ _ z.1,s13 _ _ z.2⟩) ⟨upd_same,s3 _ _ gp'⟩
   ·rw[List.map_append,ew,List.take_succ_eq_append_getElem jt,List.map_append]
    rfl
  rintro ys G yl ⟨sG,bs,ws,rfl,pb,ew⟩ D hD
  rw[List.length_map,h3l,List.take_length]at ew
  have wl:ws.length=ties.length:=by
   have:=congrArg List.length ew
   rw[List.length_map,List.length_map]at this
   exact this
  have s2:=Same.new (o:=.lst (bs.map V.ref)) hD
  refine⟨D,bs,ws,rfl,SqL.of upd_same,Paired.mapP pb fun _ _ z=>⟨s2 _ _ z.1,s2 _ _ z.2⟩,by rw[sizeLine_eq];lia,fun d hd=>?_⟩
  have edict:putPs ws=ties.map kvOf:=by
   rw[putPs_map ws.length ws rfl,ew]
   have e1:ws.map (·.1)=(ties.map kvOf).map (·.1):=by
    rw[<- ew,List.map_map]
    rfl
   rw[e1,List.map_map]
   have nd:=pairs_nodup pw
   unfold List.Nodup at nd ⊢
   rw[List.pairwise_map]at nd ⊢
   exact nd.imp fun {x y} h z=>h (keys_inj z)
  rw[edict]
  have s3:=Same.new (o:=.dT (ties.map kvOf)) hd
  have gd:(upd (upd G D (.lst (bs.map V.ref))) d (.dT (ties.map kvOf))) d=some (.dT (ties.map kvOf)):=upd_same
  have s13:=sG.trans (s2.trans s3)
  generalize (upd (upd G D (.lst (bs.map V.ref))) d (.dT (ties.map kvOf)))=H2 at gd s13
  have s02:=s1.trans s13
  have gl02:=s13 _ _ gl0
  have tl2:TupsAt H2 bs0 ns0:=Paired.mapP tl0 fun _ _ z=>s13 _ _ z
  have gc2:=s02 _ _ gc
  have tc2:TupsAt H2 as ns0:=Paired.mapP tc fun _ _ z=>s02 _ _ z
  clear s2 s3 hD hd pb sG yl s13 gl0 tl0 s1 edict ew wl
  -- the order
  refine⟨_,rfl,c0,rfl,⟨_,SqL.of gc2⟩,?_⟩
  refine comp_list (K:=K) (a:=c0) (xs:=as.map V.ref) (fun j ys G=>Same H2 G/\∃ kas:List Addr,ys=kas.map V.ref/\Paired (KeyAt G) kas ((ns0.take j).map (keyOf ties))) (by rw[List.length_map,sizeLine_eq];lia) ⟨Same.refl _,[],rfl,.nil⟩ (fun j ys G _ z=>SqL.of (z.1 _ _ gc2)) ?_ ?_
  ·rintro j x ys G hx ⟨sG,kas,rfl,pk⟩
   obtain⟨jl,e⟩:=List.getElem?_eq_some_iff.mp hx
   rw[List.length_map]at jl
   rw[List.getElem_map]at e
   subst e
   have hk:j<ns0.length:=by lia
   have a1:=sG _ _ (tups_at tc2 j jl hk)
   have g0:DGet G d (V.ref as[j]) (valV (ties.map kvOf) (ns0[j].map Sum.inl)):=DGet.t (sG _ _ gd) (by rw[a1,List.map_map];rfl)
   rw[val_of (sub _ (List.getElem_mem hk))]at g0
   refine⟨⟨rfl,trivial⟩,tTru_if ⟨_,rfl,_,rfl,d,_,rfl,g0,_,rfl,_,rfl,(by show 2<=sizeLine;decide),fun tp htp=>?_⟩⟩
   have s3:=Same.new (o:=.tup [V.int (-(wOf ties ns0[j])),V.ref as[j]]) htp
   refine⟨sG.trans s3,kas++[tp],by rw[List.map_append];rfl,?_⟩
   rw[List.take_succ_eq_append_getElem hk,List.map_append]
   exact Paired.snoc (Paired.mapP pk fun _ _ z=>z.same s3) ⟨as[j],_,ns0[j],upd_same,s3 _ _ a1,rfl⟩
  rintro ys G yl ⟨sG,kas,rfl,pk⟩ D hD
  rw[List.length_map,ll,List.take_length]at pk
  have s3:=Same.new (o:=.lst (kas.map V.ref)) hD
  have kal:kas.length=(ns0.map (keyOf ties)).length:=pk.length
  rw[List.length_map]at kal
  refine⟨D,kas,ns0.map (keyOf ties),rfl,upd_same,Paired.mapP pk fun _ _ z=>z.same s3,by lia,fun l bs ns hl pn pwn pk2=>?_⟩
  have s4:=Same.new (o:=.lst (bs.map V.ref)) hl
  have gl5:(upd (upd G D (.lst (kas.map V.ref))) l (.lst (bs.map V.ref))) l=some (.lst (bs.map V.ref)):=upd_same
  have s25:=sG.trans (s3.trans s4)
  have pk5:Paired (KeyAt (upd (upd G D (.lst (kas.map V.ref))) l (.lst (bs.map V.ref)))) bs ns:=Paired.mapP pk2 fun _ _ z=>z.same s4
  refine⟨l,rfl,⟨_,SqL.of gl5⟩,?_⟩
  have od:=ns_ord pn pwn
  have bnl:bs.length=ns.length:=pk5.length
  generalize (upd (upd G D (.lst (kas.map V.ref))) l (.lst (bs.map V.ref)))=H5 at gl5 s25 pk5
  have s05:=s02.trans s25
  have W5:WebAt H5 t n ties:=W.same s05
  have gq5:=s05 _ _ gq
  have ozl:(ns.map List.tail).length=bs.length:=by rw[List.length_map,bnl]
  generalize eos:ns.map List.tail=os at od ozl
  clear s3 s4 hD hl pk pk2 pn pwn kal sG yl s02 gc2 tc2 gd
  refine for_list (K:=K) (a:=l) (xs:=bs.map V.ref) (fun i σ G=>∃ (st:Addr) (cs:List Addr) (v5 v6 v7:Option V),σ=[some (.ref t),some (.ref q),some (.ref c0),some (.ref st),some (.ref d),v5,v6,v7]/\G st=some (.lst (cs.map V.ref))/\TupsAt G cs (prune n ties ps (os.take i) ns0)/\H st=none/\Same H5 G) ⟨l0,bs0,_,_,_,rfl,s25 _ _ gl02,Paired.mapP tl2 fun _ _ z=>s25 _ _ z,hl0,Same.refl _⟩ (fun i σ G _ z=>by obtain⟨_,_,_,_,_,_,_,_,_,s⟩:=z;exact SqL.of (s _ _ gl5)) ?_ ?_
  ·rintro i x σ G hx ⟨st',cs0,v5,v6,v7,rfl,gs,tb,hs0,sG⟩
   obtain⟨il,ex⟩:=List.getElem?_eq_some_iff.mp hx
   rw[List.length_map]at il
   rw[List.getElem_map]at ex
   subst ex
   have io:i<os.length:=by lia
   obtain⟨tt,z,nn,k1,k2,k3⟩:=(Paired.at pk5 i il (by lia)).same sG
   have eo:os[i]=nn:=by
    have:os[i]=(ns[i]'(by lia)).tail:=by simp[<- eos]
    rw[this,k3]
    rfl
   have bl:=tups_len tb
   have prl:=(prune_sub (n:=n) (ties:=ties) (ps:=ps) (os.take i) ns0).length_le
   have epr:prune n ties ps (os.take (i+1)) ns0=stepP n ties ps (prune n ties ps (os.take i) ns0) os[i]:=by rw[List.take_succ_eq_append_getElem io,prune_snoc]
   rw[eo]at epr
   generalize prune n ties ps (os.take i) ns0=pr at tb bl prl epr
   refine⟨bs[i],_,rfl,SqT.of k1,rfl,_,_,rfl,_,_,rfl,rfl,?_⟩
   refine⟨_,rfl,st',rfl,⟨_,SqL.of gs⟩,?_⟩
   refine comp_list (K:=K) (a:=st') (xs:=cs0.map V.ref) (fun j ys G2=>Same G G2/\∃ cs:List Addr,ys=cs.map V.ref/\TupsAt G2 cs (fewer (pr.take j) nn)) (by rw[List.length_map,sizeLine_eq];lia) ⟨Same.refl _,[],rfl,.nil⟩ (fun j ys G2 _ z=>SqL.of (z.1 _ _ gs)) ?_ ?_
   ·rintro j y ys G2 hy ⟨sG2,cs,rfl,tcs⟩
    obtain⟨jl,ey⟩:=List.getElem?_eq_some_iff.mp hy
    rw[List.length_map]at jl
    rw[List.getElem_map]at ey
    subst ey
    have jp:j<pr.length:=by lia
    have gb:=sG2 _ _ (tups_at tb j jl jp)
    have tk:fewer (pr.take (j+1)) nn=fewer (pr.take j) nn++fewer [pr[j]] nn:=by
     unfold fewer
     rw[List.take_succ_eq_append_getElem jp,List.filter_append]
    refine⟨⟨rfl,trivial⟩,_,rfl,_,rfl,cs0[j],tt,pr[j],nn,rfl,rfl,gb,sG2 _ _ k2,_,rfl,ite2 (fun hc=>?_) (fun hc=>?_)⟩
    ·have e1:fewer [pr[j]] nn=[pr[j]]:=by
      unfold fewer
      rw[List.filter_cons_of_pos (by simpa using hc)]
      rfl
     refine⟨_,rfl,sG2,cs++[cs0[j]],by rw[List.map_append];rfl,?_⟩
     rw[tk,e1]
     exact Paired.snoc tcs gb
    ·have e1:fewer [pr[j]] nn=[]:=by
      unfold fewer
      rw[List.filter_cons_of_neg (by simpa using hc)]
      rfl
     refine⟨sG2,cs,rfl,?_⟩
     rw[tk,e1,List.append_nil]
     exact tcs
   rintro ys G2 yl ⟨sG2,cs,rfl,tcs⟩ fw hfw
   rw[List.length_map,bl,List.take_length]at tcs
   have s6:=Same.new (o:=.lst (cs.map V.ref)) hfw
   have gfw:(upd G2 fw (.lst (cs.map V.ref))) fw=some (.lst (cs.map V.ref)):=upd_same
   have sG6:=sG2.trans s6
   have tcs6:TupsAt (upd G2 fw (.lst (cs.map V.ref))) cs (fewer pr nn):=Paired.mapP tcs fun _ _ z=>s6 _ _ z
   have hfwH:H fw=none:=(s05.trans (sG.trans sG2)).free hfw
   generalize (upd G2 fw (.lst (cs.map V.ref)))=G3 at gfw sG6 tcs6
   have s53:=sG.trans sG6
   have fl:(fewer pr nn).length<=120:=by
    have:(fewer pr nn).length<=pr.length:=List.length_filter_le _ _
    lia
   refine⟨_,rfl,_,rfl,_,rfl,t,q,fw,n,ties,cs,ps,fewer pr nn,rfl,W5.same s53,ok,nb,SqL.of (s53 _ _ gq5),rg,pl,SqL.of gfw,tcs6,by lia,fun hs G4 IH s7=>⟨_,rfl,?_⟩⟩
   rw[pB_eq IH]
   have s54:=s53.trans s7
   refine ite2 (fun hc=>?_) (fun hc=>?_)
   ·refine⟨_,rfl,fw,cs,_,_,_,rfl,s7 _ _ gfw,?_,hfwH,s54⟩
    have e2:stepP n ties ps pr nn=fewer pr nn:=by unfold stepP;rw[if_pos hc]
    rw[epr,e2]
    exact Paired.mapP tcs6 fun _ _ z=>s7 _ _ z
   ·refine⟨st',cs0,_,_,_,rfl,(sG6.trans s7) _ _ gs,?_,hs0,s54⟩
    have e2:stepP n ties ps pr nn=pr:=by unfold stepP;rw[if_neg hc]
    rw[epr,e2]
    exact Paired.mapP tb fun _ _ z=>(sG6.trans s7) _ _ z
  ·rintro σ G ⟨st',cs0,v5,v6,v7,rfl,gs,tb,hs0,sG⟩
   rw[List.length_map,<- ozl,List.take_length]at tb
   exact⟨_,rfl,fin st' cs0 os G hs0 gs tb od (s05.trans sG)⟩
end
open PySem L2 PyProof.Rows
noncomputable def cuD(k:List Int):Dt:=.tup (k.map Dt.int)
theorem dat_tups{H:Hp}{as:List Addr}{ks:List (List Int)}(h:TupsAt H as ks):(∀ k∈ks,k.length<=1000)->Paired (Dat H 1) (as.map V.ref) (ks.map cuD):=by
 induction h with
 |nil=>exact fun _=>.nil
 |cons r _ ih=>exact fun g=>.cons (dat_intsT 0 r (g _ (List.mem_cons_self ..))) (ih fun k hk=>g k (List.mem_cons_of_mem _ hk))
theorem dat_list{H:Hp}{c:Addr}{as:List Addr}{ks:List (List Int)}(g:H c=some (.lst (as.map V.ref)))(h:TupsAt H as ks)(l:ks.length<=1000)(kl:∀ k∈ks,k.length<=1000):Dat H 2 (.ref c) (.lst (ks.map cuD)):=by
 have:=tups_len h
 exact⟨c,_,rfl,by rw[List.length_map];lia,g,dat_tups h kl⟩
theorem seq_byt{K:PySem.W.Frag}{B:Addr}{pos:Pos}{q:Str}{H H':Hp}{a:Addr}{xs:List V}(h:SqL K H a xs)(TB:TabH B pos q H)(k:BytP B H H'):SqL K H' a xs:=by
 rcases h with(h |⟨o,h⟩) | h
 ·exact .inl (.inl (k _ _ (TB.ne h fun ps z=>by cases z) h))
 ·exact .inl (.inr ⟨o,k _ _ (TB.ne h fun ps z=>by cases z) h⟩)
 ·exact .inr h
theorem tab_kept{B p:Addr}{pos:Pos}{q:Str}{H H':Hp}{N:Nat}(TB:TabH B pos q H)(X:BoxAt H p N)(k:Kept p H H'):TabH B pos q H':=by
 obtain⟨a,b,c,e,_⟩:=X
 rcases TB with t |⟨c',t,u⟩
 ·exact .inl (k _ _ (ne_of t e (by intro z;cases z)) t)
 ·exact .inr ⟨c',k _ _ (ne_of t e (by intro z;cases z)) t,k _ _ (ne_of u e (by intro z;cases z)) u⟩
structure Sit(B t l c:Addr)(n:Nat)(ties:List Tie)(ps:List Int)(as:List Addr)(ks:List (List Int))(H:Hp):Prop where
 W:WebAt H t n ties
 gl:H l=some (.lst (ps.map V.int))
 gc:H c=some (.lst (as.map V.ref))
 tc:TupsAt H as ks
 TB:TabH B lamPos lamQ H
section
variable{B t l c:Addr}{n:Nat}{ties:List Tie}{ps:List Int}{as:List Addr}{ks:List (List Int)}{H H':Hp}
theorem Sit.same(S:Sit B t l c n ties ps as ks H)(s:Same H H'):Sit B t l c n ties ps as ks H':=⟨S.W.same s,s _ _ S.gl,s _ _ S.gc,Paired.mapP S.tc fun _ _ z=>s _ _ z,S.TB.same s⟩
theorem Sit.byt(S:Sit B t l c n ties ps as ks H)(b:BytP B H H')(T:TabH B lamPos lamQ H'):Sit B t l c n ties ps as ks H' :=
 ⟨S.W.byt S.TB b,b _ _ (S.TB.ne S.gl fun ps z=>by cases z) S.gl,b _ _ (S.TB.ne S.gc fun ps z=>by cases z) S.gc,tups_byt S.tc S.TB b,T⟩
theorem Sit.but{d:Addr}(S:Sit B t l c n ties ps as ks H)(k:∀ b o,b≠d->H b=some o->H' b=some o)(hl:d≠l)(hc:d≠c)(ht:∀ xs,H d≠some (.tup xs))(h1:∀ ps,H d≠some (.tbl ps))(h2:∀ c' q,H d≠some (cdO c' q)):Sit B t l c n ties ps as ks H':=by
 have np:∀ {x:Addr}{xs:List V},H x=some (.tup xs)->H' x=some (.tup xs):=fun {x xs} h=>k _ _ (fun z=>ht xs (z▸h)) h
 obtain⟨⟨⟨ts,bs,w1,w2,w3⟩,len⟩,gl,gc,tc,TB⟩:=S
 refine⟨⟨⟨ts,bs,np w1,np w2,Paired.mapP w3 fun _ _ z=>np z⟩,len⟩,k _ _ (Ne.symm hl) gl,k _ _ (Ne.symm hc) gc,Paired.mapP tc fun _ _ z=>np z,?_⟩
 rcases TB with t |⟨c',t,u⟩
 ·exact .inl (k _ _ (fun z=>h1 _ (z▸t)) t)
 ·exact .inr ⟨c',k _ _ (fun z=>h1 _ (z▸t)) t,k _ _ (fun z=>h2 _ _ (z▸u)) u⟩
end
structure Cuts(H:Hp)(ties:List Tie)(ows:List Int)(c:Addr)(as:List Addr)(ks:List (List Int)):Prop where
 get:H c=some (.lst (as.map V.ref))
 tup:TupsAt H as ks
 sub:∀ k∈ks,k∈ties.map pairOf
 len:ks.length<=120
 so:ks.Pairwise fun x y=>Srt.lexlt x y=true
 cv:Cov ows ties ks
theorem Cuts.same{H H':Hp}{ties:List Tie}{ows:List Int}{c:Addr}{as:List Addr}{ks:List (List Int)}(C:Cuts H ties ows c as ks)(s:Same H H'):Cuts H' ties ows c as ks:=⟨s _ _ C.get,Paired.mapP C.tup fun _ _ z=>s _ _ z,C.sub,C.len,C.so,C.cv⟩
theorem lex_nodup{ks:List (List Int)}(h:ks.Pairwise fun x y=>Srt.lexlt x y=true):ks.Nodup:=h.imp fun {x y} z e=>by rw[e,Srt.lexlt_irrefl]at z;cases z
theorem lex_of{ms ks:List (List Int)}(p:ks.Perm ms)(nd:ms.Nodup)(h:ks.Pairwise fun x y=>Srt.lexlt y x=false):ks.Pairwise fun x y=>Srt.lexlt x y=true:=by
 have nd':ks.Nodup:=p.nodup_iff.mpr nd
 refine List.Pairwise.imp₂ (fun {x y} h1 h2=>?_) h nd'
 cases e:Srt.lexlt x y with
 |true=>rfl
 |false=>exact absurd (Srt.lexlt_total _ _ e h1) h2
theorem own_so{ows:List Int}{ties:List Tie}(pw:ties.Pairwise tieLt):(cutOf ows ties).Pairwise fun x y=>Srt.lexlt x y=true:=by
 unfold cutOf
 rw[List.pairwise_map]
 exact List.Pairwise.sublist List.filter_sublist pw
theorem pB_cov{n:Nat}{ties:List Tie}{ks:List (List Int)}{ps ows:List Int}(ok:∀ x∈ties,TieOk n x)(po:PostOk n ps)(oo:∀ x∈ps,hAt ows x=x)(cv:Cov ows ties ks):pB n ties ps ks=true:=by
 obtain⟨hs,IH⟩:=heads_ex (rest_ok (ks:=ks) ok)
 rw[<- pB_eq IH,parted_iff]
 unfold List.Nodup
 rw[List.pairwise_map]
 refine List.Pairwise.imp_of_mem (fun {a b} ha hb ne e=>ne ?_) po.nd
 obtain⟨a0,a1⟩:=po.rg a ha
 obtain⟨b0,b1⟩:=po.rg b hb
 have r:Rch (rest ties ks) a b:=(IH.rch a a0 a1).trans (by rw[e];exact(IH.rch b b0 b1).symm)
 have:=Rch.inv (f:=hAt ows) (fun x y v m=>by
  obtain⟨m1,m2⟩:=mem_rest.mp m
  exact Classical.byContradiction fun ne=>m2 (cv _ m1 ne)) r
 rw[oo a ha,oo b hb]at this
 exact this
noncomputable def spLaw(K:PySem.W.Frag)(B:Addr):Sp:=fun vs H Q _=>∃ (a:Addr) (ns:List Int),vs=[.ref a]/\SqL K H a (ns.map V.int)/\ns.length<=63/\TabH B lamPos lamQ H/\∀ H',Q (.bl true) H'
section
variable{P:Program}{w:World}{K:PySem.W.Frag}{mg:Str->Option Value}{base:Heap}
structure Fs(P:Program)(w:World)(K:PySem.W.Frag)(mg:Str->Option Value)(base:Heap)(B g1 g2 g3 g4 g5 g6 g7 g8 g9:Addr)(d1 d2 d3 d4 d5 d6 d7 d8 d9:FuncData):Prop where
 box:CalF P w K mg base 2 "_law_box" ["_law_script","_law_k"] (spBox K) g1 d1
 wp:CalF P w K mg base 4 "_law_with_posts" ["_law_box_here"] spWP g2 d2
 co:CalF P w K mg base 1 "_law_cut_of" ["_law_web_here","_law_owners_here"] spCO g3 d3
 ow:CalF P w K mg base 2 "_law_owners" ["_law_box_here","_law_web_here","_law_posts_here"] spOw g4 d4
 cut:CalF P w K mg base 2 "_law_cut" ["_law_box_here","_law_web_here"] spCut g5 d5
 due:CalF P w K mg base 3 "_law_due" ["_law_web_here","_law_posts_here","_law_cut_here"] (spDu K) g6 d6
 pr:CalF P w K mg base 4 "pruned" ["web","posts","cut"] (spPr B) g7 d7
 same:CalF P w K mg base 3 "_law_same" ["_law_found","_law_due_here"] (spSame 2) g8 d8
 ip:CalF P w K mg base 3 "is_parting" ["web","posts","cut"] (spIP K) g9 d9
noncomputable abbrev nLaw:List Str:=["_law_script","_law_k","_law_box_here","_law_web_here","_law_posts_here","_law_own","_law_some","_law_cut_here","_law_kept","_law_due_here","_law_found","_law_at"]
theorem scLaw:FnScope nLaw ["_law_script"] (defScope sLaw):=⟨rfl,rfl,rfl,by decide +kernel,rfl,by decide +kernel,by decide +kernel⟩
theorem csLaw1:CompScope ["_law_tie"] [none] nLaw (defScope sLaw) (scO [(".0",.local),("_law_tie",.local)]):=⟨rfl,by decide +kernel,by decide +kernel,by decide +kernel,rfl,capB_ok (by decide +kernel)⟩
theorem ndLaw1:(["_law_tie"]:List Str).Nodup:=by decide +kernel
theorem ok_law{f B g1 g2 g3 g4 g5 g6 g7 g8 g9:Addr}{fd d1 d2 d3 d4 d5 d6 d7 d8 d9:FuncData}(F:Fun K "law" "law" sLaw f fd)(T:Txt mg)(T3:Txt3 mg)(S:Fs P w K mg base B g1 g2 g3 g4 g5 g6 g7 g8 g9 d1 d2 d3 d4 d5 d6 d7 d8 d9):FnOk P w K mg base CX0 5 f fd ["_law_script"] (spLaw K B):=by
 refine F.ok scLaw (fun vs H Q E h=>?_) (fun cdv A outer s H vs Q E hr h=>?_)
 ·obtain⟨a,ns,rfl,_⟩:=h
  rfl
 ·obtain⟨a,ns,rfl,hS,hlen,TB,q⟩:=h
  have hr1:Room 1 _:=hr.mono (by decide)
  have hr2:Room 2 _:=hr.mono (by decide)
  have hr3:Room 3 _:=hr.mono (by decide)
  have hr4:Room 4 _:=hr
  have hu64:=L2.hu64 hr
  refine⟨_,(pss_cons (ps_for PassesOwn.never rfl (pi_range1 rfl T.range (@pa_bin _ _ _ _ _ _ _ _ (pe_op op_add pe_int (pe_callB (call_min2 rfl) (by rfl) T.min boot_min (@pa_cst _ _ _ _ _ _ _ pe_int (@pa_call _ _ _ _ _ _ _ _ (pe_callB call_len_seq (by rfl) T.len PySem.boot_len (@pa_nam _ _ _ _ _ _ (pv 0) pa_nil)) pa_nil)))) pa_nil)) (pg_name (i:=1) scLaw.nd rfl (Or.inl rfl))
   (pss_cons (ps_set (i:=2) scLaw.nd rfl (Or.inl rfl) (pe_call S.box.ok hr2 rfl S.box.mg S.box.kp S.box.bd .nil pass0 (@pa_nam _ _ _ _ _ _ (pv 0) (@pa_nam _ _ _ _ _ _ (pv 1) pa_nil))))
   (pss_cons (ps_asg (pe_call S.wp.ok hr4 rfl S.wp.mg S.wp.kp S.wp.bd .nil pass0 (@pa_nam _ _ _ _ _ _ (pv 2) pa_nil)) (pg_tup (n:=2) rfl (pgs_cons (pg_name (i:=3) scLaw.nd rfl (Or.inl rfl)) (pgs_cons (pg_name (i:=4) scLaw.nd rfl (Or.inl rfl)) pgs_nil))))
   (pss_cons (ps_set (i:=5) scLaw.nd rfl (Or.inl rfl) (pe_call S.co.ok hr1 rfl S.co.mg S.co.kp S.co.bd .nil pass0 (@pa_nam _ _ _ _ _ _ (pv 3) (@pa_call _ _ _ _ _ _ _ _ (pe_call S.ow.ok hr2 rfl S.ow.mg S.ow.kp S.ow.bd .nil pass0 (@pa_nam _ _ _ _ _ _ (pv 2) (@pa_nam _ _ _ _ _ _ (pv 3) (@pa_nam _ _ _ _ _ _ (pv 4) pa_nil)))) pa_nil))))
   (pss_cons (ps_set (i:=6) scLaw.nd rfl (Or.inl rfl) (@pe_lst _ _ _ _ (@pa_nam _ _ _ _ _ _ (pv 5) (@pa_call _ _ _ _ _ _ _ _ (pe_callB call_sortedS (by rfl) T.sorted boot_sorted (@pa_call _ _ _ _ _ _ _ _ (pe_callTy call_setR (by rfl) T3.set PyProof.Rows.boot_set (@pa_bin _ _ _ _ _ _ _ _ (pe_op op_cat (pv 5) (pe_call S.cut.ok hr2 rfl S.cut.mg S.cut.kp S.cut.bd .nil pass0 (@pa_nam _ _ _ _ _ _ (pv 2) (@pa_nam _ _ _ _ _ _ (pv 3) pa_nil)))) pa_nil)) pa_nil)) (@pa_comp _ _ _ _ _ _ _ _ (pe_comp rfl csLaw1 (pi_tup (@pe_ix _ _ _ _ _ _ _ ix_tupH (pv 3) pe_int (fun _ _=>rfl))) (fun C s H fp=>(pg_name (i:=0) ndLaw1 rfl (Or.inl rfl))) (fun C s H fp=>pf_nil) (fun C s H fp=>(pe_slice sl_tupA (pv 0) po_none (po_some pe_int)))) pa_nil)))))
   (pss_one (ps_for PassesOwn.never rfl (pi_list (pe_slice sl_list (pv 6) (po_some (pe_callTy call_int1 (by rfl) T.int boot_int (@pa_cmp _ _ _ _ _ _ _ _ (pe_cmpR op_gt (@pe_ix _ _ _ _ _ _ _ ix_tupH (pv 3) pe_int (fun _ _=>rfl)) pe_int (nomark _)) pa_nil))) (po_some (pe_op op_sub pe_int (pe_callTy call_int1 (by rfl) T.int boot_int (@pa_cmp _ _ _ _ _ _ _ _ (pe_cmpR op_gt (@pe_ix _ _ _ _ _ _ _ ix_tupH (pv 3) pe_int (fun _ _=>rfl)) pe_int (nomark _)) pa_nil)))))) (pg_name (i:=7) scLaw.nd rfl (Or.inl rfl))
   (pss_cons (ps_set (i:=8) scLaw.nd rfl (Or.inl rfl) (pe_callTy (call_listH false) (by rfl) T.list boot_list (@pa_nam _ _ _ _ _ _ (pv 7) pa_nil)))
   (pss_cons (ps_set (i:=9) scLaw.nd rfl (Or.inl rfl) (pe_call S.due.ok hr3 rfl S.due.mg S.due.kp S.due.bd .nil pass0 (@pa_nam _ _ _ _ _ _ (pv 3) (@pa_nam _ _ _ _ _ _ (pv 4) (@pa_nam _ _ _ _ _ _ (pv 7) pa_nil)))))
   (pss_cons (ps_set (i:=10) scLaw.nd rfl (Or.inl rfl) (pe_call S.pr.ok hr4 rfl S.pr.mg S.pr.kp S.pr.bd .nil pass0 (@pa_nam _ _ _ _ _ _ (pv 3) (@pa_nam _ _ _ _ _ _ (pv 4) (@pa_nam _ _ _ _ _ _ (pv 7) pa_nil)))))
   (pss_cons (ps_if (PW.pt (pw_or (pt_not (pt_val (pe_call S.same.ok hr3 rfl S.same.mg S.same.kp S.same.bd .nil pass0 (@pa_nam _ _ _ _ _ _ (pv 10) (@pa_nam _ _ _ _ _ _ (pv 9) pa_nil))))) (pw_or1 (pt_cmpR op_isnotB (pe_call S.ip.ok hr3 rfl S.ip.mg S.ip.kp S.ip.bd .nil pass0 (@pa_nam _ _ _ _ _ _ (pv 3) (@pa_nam _ _ _ _ _ _ (pv 4) (@pa_nam _ _ _ _ _ _ (pv 10) pa_nil)))) pe_bl (nomark _))))) pss_never pss_nil)
   (pss_cons (ps_for PassesOwn.never rfl (pi_range1 rfl T.range (@pa_call _ _ _ _ _ _ _ _ (pe_callB call_lenH (by rfl) T.len PySem.boot_len (@pa_nam _ _ _ _ _ _ (pv 10) pa_nil)) pa_nil)) (pg_name (i:=11) scLaw.nd rfl (Or.inl rfl))
   (pss_one (ps_if (pt_cmpR op_isnotB (pe_call S.ip.ok hr3 rfl S.ip.mg S.ip.kp S.ip.bd .nil pass0 (@pa_nam _ _ _ _ _ _ (pv 3) (@pa_nam _ _ _ _ _ _ (pv 4) (@pa_bin _ _ _ _ _ _ _ _ (pe_op op_cat (pe_slice sl_list (pv 10) po_none (po_some (pv 11))) (pe_slice sl_list (pv 10) (po_some (pe_op op_add (pv 11) pe_int)) po_none)) pa_nil)))) pe_bl (nomark _)) pss_never pss_nil)))
   (pss_cons (ps_if (pt_not (pt_val (pe_call S.same.ok hr3 rfl S.same.mg S.same.kp S.same.bd .nil pass0 (@pa_call _ _ _ _ _ _ _ _ (pe_call S.pr.ok hr4 rfl S.pr.mg S.pr.kp S.pr.bd .nil pass0 (@pa_nam _ _ _ _ _ _ (pv 3) (@pa_call _ _ _ _ _ _ _ _ (pe_callTy call_tupleH (by rfl) T.tuple boot_tuple (@pa_nam _ _ _ _ _ _ (pv 4) pa_nil)) (@pa_call _ _ _ _ _ _ _ _ (pe_callTy call_tupleH (by rfl) T.tuple boot_tuple (@pa_nam _ _ _ _ _ _ (pv 7) pa_nil)) pa_nil)))) (@pa_nam _ _ _ _ _ _ (pv 9) pa_nil))))) pss_never pss_nil)
   (pss_cons (ps_if (PW.pt (pw_or (pt_not (pt_val (pe_call S.same.ok hr3 rfl S.same.mg S.same.kp S.same.bd .nil pass0 (@pa_call _ _ _ _ _ _ _ _ (pe_call S.pr.ok hr4 rfl S.pr.mg S.pr.kp S.pr.bd .nil pass0 (@pa_nam _ _ _ _ _ _ (pv 3) (@pa_nam _ _ _ _ _ _ (pv 4) (@pa_nam _ _ _ _ _ _ (pv 10) pa_nil)))) (@pa_nam _ _ _ _ _ _ (pv 9) pa_nil))))) (pw_or1 (pt_cmpR (op_neS hu64) (pv 7) (pv 8) (nomark _))))) pss_never pss_nil)
   (pss_cons (ps_expr (pe_bmH PySem.F.slot_list_append PySem.F.type_list_append mt_append (pv 10) (@pa_tup _ _ _ _ _ _ _ (@pe_tup _ _ _ _ _ (@pa_cst _ _ _ _ _ _ _ pe_int (@pa_cst _ _ _ _ _ _ _ pe_int pa_nil))) pa_nil)))
   (pss_one (ps_if (pt_not (pt_val (pe_call S.same.ok hr3 rfl S.same.mg S.same.kp S.same.bd .nil pass0 (@pa_call _ _ _ _ _ _ _ _ (pe_call S.pr.ok hr4 rfl S.pr.mg S.pr.kp S.pr.bd .nil pass0 (@pa_nam _ _ _ _ _ _ (pv 3) (@pa_nam _ _ _ _ _ _ (pv 4) (@pa_nam _ _ _ _ _ _ (pv 7) pa_nil)))) (@pa_nam _ _ _ _ _ _ (pv 9) pa_nil))))) pss_never pss_nil)))))))))))))))))
   (pss_one (ps_ret pe_bl))),?_⟩
  refine⟨_,rfl,a,_,rfl,.inl hS,_,_,rfl,_,_,rfl,rfl,_,rfl,?_,?_,?_⟩
  ·split <;> lia
  ·split <;> lia
  generalize ((1:Int)+(if((ns.map V.int).length:Int)<5 then((ns.map V.int).length:Int)else 5)).toNat=turns
  refine for_range (lo:=0) (n:=turns) (fun i σ H'=>∃ (v1 v2 v3 v4 v5 v6 v7 v8 v9 v10 v11:Option V),σ=[some (.ref a),v1,v2,v3,v4,v5,v6,v7,v8,v9,v10,v11]/\BytP B H H'/\TabH B lamPos lamQ H') ⟨_,_,_,_,_,_,_,_,_,_,_,rfl,fun _ _ _ e=>e,TB⟩ ?_ ?_
  ·rintro i σ H0 hi ⟨v1,v2,v3,v4,v5,v6,v7,v8,v9,v10,v11,rfl,b0,TB0⟩
   refine⟨_,rfl,_,rfl,a,ns,0+i,by rw[Int.zero_add,Nat.zero_add];rfl,seq_byt hS TB b0,fun p H1 hp B1 k1=>?_⟩
   have TB1:=TB0.same (Kept.same hp k1)
   refine⟨_,rfl,p,0,rfl,B1,by decide,fun r t l n ties ps H2 hr gr n2 n30 W2 ok pw gl lp po B2 k2=>?_⟩
   have TB2:=tab_kept TB1 B1 k2
   have k02:=k1.trans k2
   refine⟨r,_,rfl,SqT.of gr,rfl,_,_,rfl,_,_,rfl,rfl,?_⟩
   clear TB1 k1 k2 B1 gr hr
   refine⟨_,rfl,_,rfl,_,rfl,_,rfl,p,t,l,n,_,ties,ps,rfl,B2,by lia,W2,n30,gl,lp,po,fun o ows H3 ho go ol oo B3 k3=>?_⟩
   have W3:=W2.kept B2 k3
   have TB3:=tab_kept TB2 B2 k3
   have gl3:=k3 _ _ lp gl
   refine⟨t,o,n,ties,ows,rfl,W3,ok,go,ol,fun c0 a0 H4 hc0 g0 t0 s4=>?_⟩
   have B4:=B3.same s4
   have W4:=W3.same s4
   have TB4:=TB3.same s4
   have gl4:=s4 _ _ gl3
   have k04:Kept p H0 H4:=(k02.trans k3).trans fun b o _ e=>s4 b o e
   have C0:CutL H4 ties c0 a0 (cutOf ows ties):=⟨g0,t0,own_sub,by have:=own_len (ows:=ows) (ties:=ties);have:=W4.len;lia⟩
   have a0l:a0.length=(cutOf ows ties).length:=tups_len t0
   have ownl:=own_len (ows:=ows) (ties:=ties)
   have wl:=W4.len
   clear W2 W3 TB2 TB3 B2 B3 gl gl3 k02 k3 s4 g0 t0 go ho hc0
   refine⟨_,rfl,_,rfl,_,rfl,_,rfl,p,t,n,_,ties,rfl,B4,by lia,W4,fun m am km H7 hm gm tm sub B7 k7=>?_⟩
   have sl:=sub.length_le
   rw[List.length_map]at sl
   have C7:=C0.kept B4 k7
   have W7:=W4.kept B4 k7
   have TB7:=tab_kept TB4 B4 k7
   have gl7:=k7 _ _ lp gl4
   have k07:=k04.trans k7
   have aml:am.length=km.length:=tups_len tm
   clear B4 C0 W4 TB4 gl4 k04 k7
   refine⟨c0,m,_,_,rfl,rfl,C7.get,gm,by rw[List.length_map,List.length_map,sizeLine_eq];lia,fun m2 hm2=>?_⟩
   rw[<- List.map_append]
   have s8:=Same.new (o:=.lst ((a0++am).map V.ref)) hm2
   have gm2:(upd H7 m2 (.lst ((a0++am).map V.ref))) m2=some (.lst ((a0++am).map V.ref)):=upd_same
   have tm2:TupsAt (upd H7 m2 (.lst ((a0++am).map V.ref))) (a0++am) (cutOf ows ties++km):=Paired.mapP (Paired.appP C7.tup tm) fun a k e=>s8 _ _ e
   refine⟨m2,a0++am,cutOf ows ties++km,rfl,SqL.of gm2,tm2,hr1.hd,hr1.units,by rw[List.length_append];lia,fun S0 qs ms hS0 tq nd mem=>?_⟩
   have msub:∀ k∈ms,k∈ties.map pairOf:=fun k hk=>by
    rcases List.mem_append.mp ((mem k).mp hk)with h | h
    ·exact own_sub k h
    ·exact sub.subset h
   have mlen:ms.length<=120:=by
    have:=nodup_le nd msub
    rw[List.length_map]at this
    lia
   have qlen:qs.length=ms.length:=tups_len tq
   have s9:=Same.new (o:=setT w S0 qs) hS0
   have s79:=s8.trans s9
   have tq9:TupsAt (upd (upd H7 m2 (.lst ((a0++am).map V.ref))) S0 (setT w S0 qs)) qs ms:=Paired.mapP tq fun a k e=>s9 _ _ e
   have gS:(upd (upd H7 m2 (.lst ((a0++am).map V.ref))) S0 (setT w S0 qs)) S0=some (setT w S0 qs):=upd_same
   refine⟨S0,qs,ms,rfl,gS,tq9,hr1.hd,fun k hk=>?_,by lia,fun c2 a2 k2 hc2 pn pw2 tb=>?_⟩
   ·obtain⟨x,_,e⟩:=List.mem_map.mp (msub k hk)
    rw[<- e]
    exact fun z=>nomatch z
   have hc2:(upd (upd H7 m2 (.lst ((a0++am).map V.ref))) S0 (setT w S0 qs)) c2=none:=hc2
   have tb:TupsAt (upd (upd H7 m2 (.lst ((a0++am).map V.ref))) S0 (setT w S0 qs)) a2 k2:=tb
   have sA:=Same.new (o:=.lst (a2.map V.ref)) hc2
   have s7A:=s79.trans sA
   have E0':Cuts (upd (upd (upd H7 m2 (.lst ((a0++am).map V.ref))) S0 (setT w S0 qs)) c2 (.lst (a2.map V.ref))) ties ows c0 a0 (cutOf ows ties) :=
    ⟨s7A _ _ C7.get,Paired.mapP C7.tup fun _ _ z=>s7A _ _ z,own_sub,by lia,own_so pw,cov_own ows ties⟩
   have E2:Cuts (upd (upd (upd H7 m2 (.lst ((a0++am).map V.ref))) S0 (setT w S0 qs)) c2 (.lst (a2.map V.ref))) ties ows c2 a2 k2 :=
    ⟨upd_same,Paired.mapP tb fun a k e=>sA _ _ e,fun k hk=>msub k (pn.mem_iff.mp hk),by rw[pn.length_eq];omega,lex_of pn nd pw2,fun x hx ne=>pn.mem_iff.mpr ((mem _).mpr (List.mem_append_left _ (cov_own ows ties x hx ne)))⟩
   have WA:=W7.same s7A
   have TBA:=TB7.same s7A
   have glA:=s7A _ _ gl7
   have kA:Kept p H0 (upd (upd (upd H7 m2 (.lst ((a0++am).map V.ref))) S0 (setT w S0 qs)) c2 (.lst (a2.map V.ref))):=k07.trans fun b o _ e=>s7A b o e
   generalize hHA:(upd (upd (upd H7 m2 (.lst ((a0++am).map V.ref))) S0 (setT (cxOf CX0 P w K mg base nLaw "law" (defScope sLaw) f cdv A outer s H E).nox.w S0 qs)) c2 (.lst (a2.map V.ref)))=HA
   replace E0':Cuts HA ties ows c0 a0 (cutOf ows ties):=by rw[<- hHA];exact E0'
   replace E2:Cuts HA ties ows c2 a2 k2:=by rw[<- hHA];exact E2
   replace WA:WebAt HA t n ties:=by rw[<- hHA];exact WA
   replace TBA:TabH B lamPos lamQ HA:=by rw[<- hHA];exact TBA
   replace glA:HA l=some (.lst (ps.map V.int)):=by rw[<- hHA];exact glA
   replace kA:Kept p H0 HA:=by rw[<- hHA];exact kA
   clear B7 C7 W7 TB7 gl7 k07 s8 s9 s79 tq tq9 gS hS0 hc2 tb gm2 tm2 hm2 gm tm hm sA s7A hHA
   obtain⟨⟨ts,tas,h1,h2,h3⟩,len⟩:=id WA
   have h3l:tas.length=ties.length:=h3.length
   refine⟨_,rfl,t,_,_,_,rfl,rfl,h1,rfl,ts,rfl,⟨_,SqT.of h2⟩,?_⟩
   refine comp_tup (K:=K) (a:=ts) (xs:=tas.map V.ref) (fun j ys G=>Same HA G/\∃ bs:List Addr,ys=bs.map V.ref/\TupsAt G bs ((ties.take j).map pairOf)) (by rw[List.length_map,sizeLine_eq];lia) ⟨Same.refl _,[],rfl,.nil⟩ (fun j ys G _ z=>SqT.of (z.1 _ _ h2)) ?_ ?_
   ·rintro j x ys G hx ⟨sG,bs,rfl,tb⟩
    obtain⟨jl,e⟩:=List.getElem?_eq_some_iff.mp hx
    rw[List.length_map]at jl
    rw[List.getElem_map]at e
    subst e
    have jt:j<ties.length:=by lia
    have gx:=sG _ _ (Paired.at h3 j jl jt)
    refine⟨trivial,tTru_if ⟨_,rfl,2,rfl,tas[j],_,rfl,gx,fun pp G' sG' gp=>⟨sG.trans sG',bs++[pp],by rw[List.map_append];rfl,?_⟩⟩⟩
    rw[List.take_succ_eq_append_getElem jt,List.map_append]
    exact Paired.snoc (Paired.mapP tb fun _ _ z=>sG' _ _ z) gp
   rintro ys G yl ⟨sG,a3,rfl,t3⟩ c3 hc3
   rw[List.length_map,h3l,List.take_length]at t3
   have s10:=Same.new (o:=.lst (a3.map V.ref)) hc3
   have E3:Cuts (upd G c3 (.lst (a3.map V.ref))) ties ows c3 a3 (ties.map pairOf):=⟨upd_same,Paired.mapP t3 fun _ _ z=>s10 _ _ z,fun _ h=>h,by rw[List.length_map];omega,tieLt_pairs pw,fun x hx _=>List.mem_map.mpr ⟨x,hx,rfl⟩⟩
   refine⟨(by show 3<=sizeLine;decide),fun so hso=>?_⟩
   have s11:=Same.new (o:=.lst [.ref c0,.ref c2,.ref c3]) hso
   have sAB:=sG.trans (s10.trans s11)
   have F0:=E0'.same sAB
   have F2:=E2.same sAB
   have F3:=E3.same s11
   have WB:=WA.same sAB
   have TBB:=TBA.same sAB
   have glB:=sAB _ _ glA
   have kB:=kA.trans (fun b o _ e=>sAB b o e:Kept p _ _)
   have gso:(upd (upd G c3 (.lst (a3.map V.ref))) so (.lst [.ref c0,.ref c2,.ref c3])) so=some (.lst [.ref c0,.ref c2,.ref c3]):=upd_same
   generalize (upd (upd G c3 (.lst (a3.map V.ref))) so (.lst [.ref c0,.ref c2,.ref c3]))=HB at F0 F2 F3 WB TBB glB kB gso ⊢
   clear E0' E2 E3 WA TBA glA kA s10 s11 sG sAB hc3 hso t3 yl h1 h2 h3
   obtain⟨⟨ts',tas',h1,h2,h3⟩,len'⟩:=id WB
   refine⟨_,rfl,_,rfl,t,_,_,_,rfl,rfl,h1,rfl,_,_,rfl,rfl,.inr ⟨_,rfl,_,rfl,_,rfl,t,_,_,_,rfl,rfl,h1,rfl,_,_,rfl,rfl,.inr ⟨_,rfl,_,_,rfl,rfl,_,rfl,so,_,rfl,SqL.of gso,fun sl hsl=>?_⟩⟩⟩
   have three:∀ x∈cutV [V.ref c0,V.ref c2,V.ref c3] (some (if decide ((12:Int) <(n:Int))=true then(1:Int)else 0)) (some (3-(if decide ((12:Int) <(n:Int))=true then(1:Int)else 0))),∃ (c:Addr) (as:List Addr) (ks:List (List Int)),x=V.ref c/\Cuts HB ties ows c as ks:=fun x hx=>by
    have hx:x∈[V.ref c0,V.ref c2,V.ref c3]:=List.mem_of_mem_drop (List.mem_of_mem_take hx)
    rcases List.mem_cons.mp hx with e | hx
    ·exact⟨c0,a0,_,e,F0⟩
    ·rcases List.mem_cons.mp hx with e | hx
     ·exact⟨c2,a2,_,e,F2⟩
     ·exact⟨c3,a3,_,by simpa using hx,F3⟩
   generalize cutV [V.ref c0,V.ref c2,V.ref c3] (some (if decide ((12:Int) <(n:Int))=true then(1:Int)else 0)) (some (3-(if decide ((12:Int) <(n:Int))=true then(1:Int)else 0)))=cc at three ⊢
   have s12:=Same.new (o:=.lst cc) hsl
   have gsl:(upd HB sl (.lst cc)) sl=some (.lst cc):=upd_same
   have threeC:∀ x∈cc,∃ (c:Addr) (as:List Addr) (ks:List (List Int)),x=V.ref c/\Cuts (upd HB sl (.lst cc)) ties ows c as ks:=fun x hx=>by
    obtain⟨c,as,ks,e,C⟩:=three x hx
    exact⟨c,as,ks,e,C.same s12⟩
   have WC:=WB.same s12
   have TBC:=TBB.same s12
   have glC:=s12 _ _ glB
   have kC:=kB.trans (fun b o _ e=>s12 b o e:Kept p _ _)
   refine⟨sl,rfl,⟨_,SqL.of gsl⟩,?_⟩
   generalize (upd HB sl (.lst cc))=HC at gsl threeC WC TBC glC kC
   clear F0 F2 F3 WB TBB glB kB s12 hsl gso three h1 h2 h3
   have p6:=po.hi
   have p6':ps.length<=1000:=by lia
   refine for_list (K:=K) (a:=sl) (xs:=cc) (fun j σ G=>∃ (v7 v8 v9 v10 v11:Option V),σ=[some (.ref a),some (.int (0+(i:Int))),some (.ref p),some (.ref t),some (.ref l),some (.ref c0),some (.ref so),v7,v8,v9,v10,v11]/\BytP B HC G/\TabH B lamPos lamQ G) ⟨_,_,_,_,_,rfl,fun _ _ _ e=>e,TBC⟩ (fun j σ G _ z=>by obtain⟨_,_,_,_,_,_,b,_⟩:=z;exact SqL.of (b _ _ (TBC.ne gsl fun ps z=>by cases z) gsl)) ?_ ?_
   ·rintro j x σ G hx ⟨w7,w8,w9,w10,w11,rfl,bG,TBG⟩
    obtain⟨c,as,ks,rfl,C⟩:=threeC x (List.mem_of_getElem? hx)
    have SG:Sit B t l c n ties ps as ks G:=(⟨WC,glC,C.get,C.tup,TBC⟩:Sit B t l c n ties ps as ks HC).byt bG TBG
    have kl:=C.len
    have asl:=tups_len C.tup
    -- kept
    refine⟨_,rfl,c,_,rfl,SG.gc,fun kp hkp=>?_⟩
    have s1:=Same.new (o:=.lst (as.map V.ref)) hkp
    have S1:=SG.same s1
    have gkp:(upd G kp (.lst (as.map V.ref))) kp=some (.lst (as.map V.ref)):=upd_same
    have bG1:=bG.trans (BytP.of (P:=B) s1)
    generalize (upd G kp (.lst (as.map V.ref)))=G1 at S1 gkp bG1
    clear s1 hkp SG bG TBG
    -- due
    refine⟨_,rfl,_,rfl,_,rfl,t,l,c,n,ties,ps,as,ks,rfl,S1.W,ok,pw,by lia,S1.gl,po.rg,p6',S1.gc,S1.tc,C.sub,C.len,C.so,fun du dbs os G2 hdu gdu tdu od s2=>?_⟩
    have S2:=S1.same s2
    have gkp2:=s2 _ _ gkp
    have bG2:=bG1.trans (BytP.of (P:=B) s2)
    clear S1 gkp bG1
    -- found
    refine⟨_,rfl,_,rfl,_,rfl,t,l,c,n,ties,false,false,ps,as,ks,rfl,S2.W,ok,pw,by lia,S2.gl,po.rg,p6',S2.gc,S2.tc,C.sub,C.len,S2.TB,fun fo fbs os' G3 hfo gfo tfo od' b3 T3'=>?_⟩
    obtain rfl:=od'.uniq od
    have hB:pB n ties ps (prune n ties ps os' ks)=true:=prune_parts _ _ (pB_cov ok po oo C.cv)
    have least:=prune_least ok po.rg (os:=os') od.perm
    have rnd:(prune n ties ps os' ks).Nodup:=(lex_nodup C.so).sublist (prune_sub _ _)
    have rsub:∀ k∈prune n ties ps os' ks,k∈ties.map pairOf:=fun k hk=>C.sub k ((prune_sub _ _).subset hk)
    have rlen:=(prune_sub (n:=n) (ties:=ties) (ps:=ps) os' ks).length_le
    generalize er:prune n ties ps os' ks=r at tdu tfo hB least rnd rsub rlen
    have r1000:∀ k∈r,k.length<=1000:=fun k hk=>by
     obtain⟨x,_,e⟩:=List.mem_map.mp (rsub k hk)
     rw[<- e]
     show 2<=1000
     decide
    have S3:=S2.byt b3 T3'
    have gdu3:=b3 _ _ (S2.TB.ne gdu fun ps z=>by cases z) gdu
    have tdu3:=tups_byt tdu S2.TB b3
    have gkp3:=b3 _ _ (S2.TB.ne gkp2 fun ps z=>by cases z) gkp2
    have bG3:=bG2.trans b3
    have fod:fo≠du:=fun z=>by rw[z,gdu]at hfo;cases hfo
    have fokp:fo≠kp:=fun z=>by rw[z,gkp2]at hfo;cases hfo
    have fol:fo≠l:=fun z=>by rw[z,S2.gl]at hfo;cases hfo
    have foc:fo≠c:=fun z=>by rw[z,S2.gc]at hfo;cases hfo
    have hfoC:HC fo=none:=by
     cases e:HC fo with
     |none=>rfl
     |some o =>
      by_cases z:fo=B
      ·have t2:=S2.TB
       rw[z]at hfo
       rcases t2 with t2 |⟨_,t2,_⟩ <;> rw[t2]at hfo <;> cases hfo
      ·have:=bG2 _ _ z e
       rw[hfo]at this
       cases this
    clear S2 gkp2 bG2 b3 T3' hdu hfo gdu tdu od
    refine⟨_,rfl,_,rfl,V.ref fo,V.ref du,.lst (r.map cuD),rfl,dat_list gfo tfo (by lia) r1000,dat_list gdu3 tdu3 (by lia) r1000,fun G4 s4=>⟨_,rfl,iteF ?_⟩⟩
    have S4:=S3.same s4
    have tfo4:TupsAt G4 fbs r:=Paired.mapP tfo fun _ _ z=>s4 _ _ z
    refine⟨_,rfl,_,rfl,_,rfl,t,l,fo,n,ties,false,ps,r,rfl,S4.W,ok,by lia,SqL.of S4.gl,po.rg,p6',⟨false,fbs,SqL.of (s4 _ _ gfo),tfo4,by lia⟩,fun hs G5 IH s5=>?_⟩
    rw[pB_eq IH,hB]
    refine⟨_,_,rfl,rfl,_,rfl,ite2 (fun h=>absurd h (by simp)) (fun _=>?_)⟩
    have s35:=s4.trans s5
    have S5:=S3.same s35
    have gfo5:=s35 _ _ gfo
    have tfo5:TupsAt G5 fbs r:=Paired.mapP tfo fun _ _ z=>s35 _ _ z
    have gdu5:=s35 _ _ gdu3
    have tdu5:TupsAt G5 dbs r:=Paired.mapP tdu3 fun _ _ z=>s35 _ _ z
    have gkp5:=s35 _ _ gkp3
    have bG5:=bG3.trans (BytP.of (P:=B) s35)
    have fbl:=tups_len tfo5
    clear S3 S4 gfo tfo tfo4 gdu3 tdu3 gkp3 bG3 s4 s5 s35 IH
    -- each tie of it is needed
    refine⟨_,rfl,fo,_,rfl,gfo5,_,rfl,by rw[List.length_map];lia,by rw[List.length_map];lia,?_⟩
    rw[show(((fbs.map V.ref).length:Nat):Int).toNat=r.length by rw[List.length_map];lia]
    refine for_range (lo:=0) (n:=r.length) (fun m σ G6=>∃ (v11:Option V),σ=[some (.ref a),some (.int (0+(i:Int))),some (.ref p),some (.ref t),some (.ref l),some (.ref c0),some (.ref so),some (.ref c),some (.ref kp),some (.ref du),some (.ref fo),v11]/\Same G5 G6) ⟨_,rfl,Same.refl _⟩ ?_ ?_
    ·rintro m σ G6 hm ⟨v11',rfl,s6⟩
     have gfo6:=s6 _ _ gfo5
     refine⟨_,rfl,_,rfl,_,rfl,_,rfl,_,rfl,fo,_,rfl,SqL.of gfo6,fun u1 hu1=>?_⟩
     have ec1:cutV (fbs.map V.ref) none (some (0+(m:Int)))=(fbs.take m).map V.ref:=by rw[Int.zero_add,cut_take (k:=m) (by rw[List.length_map];lia),List.map_take]
     have ec2:cutV (fbs.map V.ref) (some (0+(m:Int)+1)) none=(fbs.drop (m+1)).map V.ref:=by rw[Int.zero_add,show((m:Int)+1)=((m+1:Nat):Int) by lia,cut_drop (k:=m+1) (by rw[List.length_map];lia),List.map_drop]
     rw[ec1]
     have s7:=Same.new (o:=.lst ((fbs.take m).map V.ref)) hu1
     have gu1:(upd G6 u1 (.lst ((fbs.take m).map V.ref))) u1=some (.lst ((fbs.take m).map V.ref)):=upd_same
     have gfo7:=s7 _ _ gfo6
     have s57:=s6.trans s7
     generalize (upd G6 u1 (.lst ((fbs.take m).map V.ref)))=G7 at gu1 gfo7 s57
     refine⟨_,rfl,_,rfl,_,_,rfl,rfl,_,rfl,fo,_,rfl,SqL.of gfo7,fun u2 hu2=>?_⟩
     rw[ec2]
     have s8:=Same.new (o:=.lst ((fbs.drop (m+1)).map V.ref)) hu2
     have gu2:(upd G7 u2 (.lst ((fbs.drop (m+1)).map V.ref))) u2=some (.lst ((fbs.drop (m+1)).map V.ref)):=upd_same
     have gu18:=s8 _ _ gu1
     have s58:=s57.trans s8
     generalize (upd G7 u2 (.lst ((fbs.drop (m+1)).map V.ref)))=G8 at gu2 gu18 s58
     refine⟨u1,u2,_,_,rfl,rfl,gu18,gu2,by rw[List.length_map,List.length_map,List.length_take,List.length_drop,sizeLine_eq];lia,fun cc' hcc'=>?_⟩
     rw[<- List.map_append]
     have s9:=Same.new (o:=.lst ((fbs.take m++fbs.drop (m+1)).map V.ref)) hcc'
     have s59:=s58.trans s9
     have S9:=S5.same s59
     have t9:TupsAt (upd G8 cc' (.lst ((fbs.take m++fbs.drop (m+1)).map V.ref))) (fbs.take m++fbs.drop (m+1)) (fewer r r[m]):=by
      rw[<- fewer_at m hm rnd]
      exact Paired.mapP (Paired.appP (Paired.takeP m tfo5) (Paired.dropP (m+1) tfo5)) fun _ _ z=>s59 _ _ z
     have fl:(fewer r r[m]).length<=r.length:=List.length_filter_le _ _
     refine⟨t,l,cc',n,ties,false,ps,fewer r r[m],rfl,S9.W,ok,by lia,SqL.of S9.gl,po.rg,p6',⟨false,_,SqL.of upd_same,t9,by lia⟩,fun hs G10 IH s10=>?_⟩
     rw[pB_eq IH,least _ (List.getElem_mem hm)]
     refine⟨_,_,rfl,rfl,_,rfl,ite2 (fun h=>absurd h (by simp)) (fun _=>?_)⟩
     exact⟨_,rfl,s59.trans s10⟩
    rintro σ G6 ⟨v11',rfl,s6⟩
    have S6:=S5.same s6
    have gfo6:=s6 _ _ gfo5
    have tfo6:TupsAt G6 fbs r:=Paired.mapP tfo5 fun _ _ z=>s6 _ _ z
    have gdu6:=s6 _ _ gdu5
    have tdu6:TupsAt G6 dbs r:=Paired.mapP tdu5 fun _ _ z=>s6 _ _ z
    have gkp6:=s6 _ _ gkp5
    have bG6:=bG5.trans (BytP.of (P:=B) s6)
    clear S5 gfo5 tfo5 gdu5 tdu5 gkp5 bG5 s6
    -- of tuples
    refine⟨_,rfl,_,rfl,l,_,rfl,S6.gl,fun lt hlt=>?_⟩
    have s7:=Same.new (o:=.tup (ps.map V.int)) hlt
    have S7:=S6.same s7
    refine⟨_,rfl,c,_,rfl,S7.gc,fun ct hct=>?_⟩
    have s8:=Same.new (o:=.tup (as.map V.ref)) hct
    have S8:=S7.same s8
    have s68:=s7.trans s8
    have glt:=s8 _ _ (upd_same (H:=G6) (a:=lt) (o:=.tup (ps.map V.int)))
    refine⟨t,lt,ct,n,ties,true,true,ps,as,ks,rfl,S8.W,ok,pw,by lia,glt,po.rg,p6',upd_same,S8.tc,C.sub,C.len,S8.TB,fun f2 fbs2 os2 G9 hf2 gf2 tf2 od2 b9 T9=>?_⟩
    obtain rfl:=od2.uniq od'
    rw[er]at tf2
    have S9:=S8.byt b9 T9
    have b69:BytP B G6 G9:=(BytP.of s68).trans b9
    have gdu9:=b69 _ _ (S6.TB.ne gdu6 fun ps z=>by cases z) gdu6
    have tdu9:=tups_byt tdu6 S6.TB b69
    have gfo9:=b69 _ _ (S6.TB.ne gfo6 fun ps z=>by cases z) gfo6
    have tfo9:=tups_byt tfo6 S6.TB b69
    have gkp9:=b69 _ _ (S6.TB.ne gkp6 fun ps z=>by cases z) gkp6
    have bG9:=bG6.trans b69
    clear S6 S7 S8 s7 s8 s68 glt b9 T9 b69 gdu6 tdu6 gfo6 tfo6 gkp6 bG6 hlt hct hf2
    refine⟨_,rfl,V.ref f2,V.ref du,.lst (r.map cuD),rfl,dat_list gf2 tf2 (by lia) r1000,dat_list gdu9 tdu9 (by lia) r1000,fun G10 s10=>⟨_,rfl,iteF ?_⟩⟩
    have S10:=S9.same s10
    have gfo10:=s10 _ _ gfo9
    have tfo10:TupsAt G10 fbs r:=Paired.mapP tfo9 fun _ _ z=>s10 _ _ z
    have gdu10:=s10 _ _ gdu9
    have tdu10:TupsAt G10 dbs r:=Paired.mapP tdu9 fun _ _ z=>s10 _ _ z
    have gkp10:=s10 _ _ gkp9
    have bG10:=bG9.trans (BytP.of (P:=B) s10)
    clear S9 gfo9 tfo9 gdu9 tdu9 gkp9 bG9 s10 gf2 tf2
    -- pruned again
    refine⟨_,rfl,_,rfl,_,rfl,t,l,fo,n,ties,false,false,ps,fbs,r,rfl,S10.W,ok,pw,by lia,S10.gl,po.rg,p6',gfo10,tfo10,rsub,by lia,S10.TB,fun f3 fbs3 os3 G11 hf3 gf3 tf3 od3 b11 T11=>?_⟩
    rw[prune_same least os3 fun k hk=>od3.perm.mem_iff.mp hk]at tf3
    have S11:=S10.byt b11 T11
    have gfo11:=b11 _ _ (S10.TB.ne gfo10 fun ps z=>by cases z) gfo10
    have gdu11:=b11 _ _ (S10.TB.ne gdu10 fun ps z=>by cases z) gdu10
    have tdu11:=tups_byt tdu10 S10.TB b11
    have gkp11:=b11 _ _ (S10.TB.ne gkp10 fun ps z=>by cases z) gkp10
    have bG11:=bG10.trans b11
    clear S10 gfo10 tfo10 gdu10 tdu10 gkp10 bG10 b11 T11 hf3
    refine⟨_,rfl,V.ref f3,V.ref du,.lst (r.map cuD),rfl,dat_list gf3 tf3 (by lia) r1000,dat_list gdu11 tdu11 (by lia) r1000,fun G12 s12=>⟨_,rfl,iteF ?_⟩⟩
    have S12:=S11.same s12
    have gkp12:=s12 _ _ gkp11
    have k1000:∀ k∈ks,k.length<=1000:=fun k hk=>by
     obtain⟨x,_,e⟩:=List.mem_map.mp (C.sub k hk)
     rw[<- e]
     show 2<=1000
     decide
    refine⟨_,rfl,_,rfl,1,.lst (ks.map cuD),dat_list S12.gc S12.tc (by lia) k1000,dat_list gkp12 S12.tc (by lia) k1000,rfl,by decide,_,rfl,iteF ?_⟩
    -- it is spoilt
    have gfo12:=s12 _ _ gfo11
    refine⟨_,rfl,⟨_,_,rfl,gfo12⟩,(by show 2<=sizeLine;decide),fun tp htp=>?_⟩
    have s13:=Same.new (o:=.tup [V.int 0,V.int 99]) htp
    have S13:=S12.same s13
    have gfo13:=s13 _ _ gfo12
    have gdu13:=s13 _ _ (s12 _ _ gdu11)
    have tdu13:TupsAt (upd G12 tp (.tup [V.int 0,V.int 99])) dbs r:=Paired.mapP tdu11 fun _ _ z=>s13 _ _ (s12 _ _ z)
    have bG13:=bG11.trans (BytP.of (P:=B) (s12.trans s13))
    generalize (upd G12 tp (.tup [V.int 0,V.int 99]))=G13 at S13 gfo13 gdu13 tdu13 bG13
    clear S11 S12 gfo11 gfo12 gdu11 tdu11 gkp11 gkp12 bG11 s12 s13 htp gf3 tf3
    refine⟨fo,_,_,rfl,rfl,gfo13,by rw[List.length_map,sizeLine_eq];lia,?_⟩
    have k14:∀ b o,b≠fo->G13 b=some o->(upd G13 fo (.lst (fbs.map V.ref++[V.ref tp]))) b=some o:=fun b o nb e=>by rw[upd_ne nb];exact e
    have S14:=S13.but k14 fol foc (fun xs z=>by rw[gfo13]at z;cases z) (fun ps z=>by rw[gfo13]at z;cases z) (fun c' q z=>by rw[gfo13]at z;cases z)
    have gdu14:=k14 _ _ (Ne.symm fod) gdu13
    have tdu14:TupsAt (upd G13 fo (.lst (fbs.map V.ref++[V.ref tp]))) dbs r:=Paired.mapP tdu13 fun a _ z=>k14 _ _ (fun y=>by rw[y,gfo13]at z;cases z) z
    have bG14:BytP B HC (upd G13 fo (.lst (fbs.map V.ref++[V.ref tp]))):=fun b o nb e=>k14 _ _ (ne_of_none e hfoC) (bG13 _ _ nb e)
    generalize (upd G13 fo (.lst (fbs.map V.ref++[V.ref tp])))=G14 at S14 gdu14 tdu14 bG14
    refine⟨_,rfl,_,rfl,_,rfl,t,l,c,n,ties,false,false,ps,as,ks,rfl,S14.W,ok,pw,by lia,S14.gl,po.rg,p6',S14.gc,S14.tc,C.sub,C.len,S14.TB,fun f4 fbs4 os4 G15 hf4 gf4 tf4 od4 b15 T15=>?_⟩
    obtain rfl:=od4.uniq od'
    rw[er]at tf4
    have gdu15:=b15 _ _ (S14.TB.ne gdu14 fun ps z=>by cases z) gdu14
    have tdu15:=tups_byt tdu14 S14.TB b15
    refine⟨_,rfl,V.ref f4,V.ref du,.lst (r.map cuD),rfl,dat_list gf4 tf4 (by lia) r1000,dat_list gdu15 tdu15 (by lia) r1000,fun G16 s16=>⟨_,rfl,iteF ?_⟩⟩
    exact⟨_,_,_,_,_,rfl,(bG14.trans b15).trans (BytP.of s16),T15.same s16⟩
   ·rintro σ G ⟨w7,w8,w9,w10,w11,rfl,bG,TBG⟩
    exact⟨_,_,_,_,_,_,_,_,_,_,_,rfl,fun b o nb e=>bG _ _ nb (kC _ _ (ne_of_none (b0 _ _ nb e) hp) (b0 _ _ nb e)),TBG⟩
  ·rintro σ H' ⟨v1,v2,v3,v4,v5,v6,v7,v8,v9,v10,v11,rfl,b0,TB0⟩
   exact q H'
end
open PySem L2 PyProof.Rows
theorem leS{k:Nat}{motive:List Value->Prop}(us:List Value)(hl:us.length=k+1)(h:∀ a t,t.length=k->motive (a :: t)):motive us:=by
 cases us with
 |nil=>cases hl
 |cons a t=>exact h a t (Nat.succ.inj hl)
theorem leZ{motive:List Value->Prop}(us:List Value)(hl:us.length=0)(h:motive []):motive us:=by
 cases us with
 |nil=>exact h
 |cons a t=>cases hl
@[elab_as_elim] theorem le1{motive:List Value->Prop}(us:List Value)(hl:us.length=1)(k:∀ a0,motive [a0]):motive us:=leS (motive:=fun u=>motive (u)) us hl fun a0 t0 h0=>leZ (motive:=fun u=>motive (a0 :: u)) t0 h0 (k a0)
@[elab_as_elim] theorem le2{motive:List Value->Prop}(us:List Value)(hl:us.length=2)(k:∀ a0 a1,motive [a0,a1]):motive us:=leS (motive:=fun u=>motive (u)) us hl fun a0 t0 h0=>leS (motive:=fun u=>motive (a0 :: u)) t0 h0 fun a1 t1 h1=>leZ (motive:=fun u=>motive (a0 :: a1 :: u)) t1 h1 (k a0 a1)
@[elab_as_elim] theorem le3{motive:List Value->Prop}(us:List Value)(hl:us.length=3)(k:∀ a0 a1 a2,motive [a0,a1,a2]):motive us:=leS (motive:=fun u=>motive (u)) us hl fun a0 t0 h0=>leS (motive:=fun u=>motive (a0 :: u)) t0 h0 fun a1 t1 h1=>leS (motive:=fun u=>motive (a0 :: a1 :: u)) t1 h1 fun a2 t2 h2=>leZ (motive:=fun u=>motive (a0 :: a1 :: a2 :: u)) t2 h2 (k a0 a1 a2)
@[elab_as_elim] theorem le4{motive:List Value->Prop}(us:List Value)(hl:us.length=4)(k:∀ a0 a1 a2 a3,motive [a0,a1,a2,a3]):motive us:=leS (motive:=fun u=>motive (u)) us hl fun a0 t0 h0=>leS (motive:=fun u=>motive (a0 :: u)) t0 h0 fun a1 t1 h1=>leS (motive:=fun u=>motive (a0 :: a1 :: u)) t1 h1 fun a2 t2 h2=>leS (motive:=fun u=>motive (a0 :: a1 :: a2 :: u)) t2 h2 fun a3 t3 h3=>leZ (motive:=fun u=>motive (a0 :: a1 :: a2 :: a3 :: u)) t3 h3 (k a0 a1 a2 a3)
theorem all_mk{l:PySem.W.OpenLaw}{w:World}{K:PySem.W.Frag}{h:Heap}{mg:Str->Option Value}{fa f1 f2 f3 f4 f5 f6 f7 f8 f9 f10 f11 f12 f13 f14 f15 f16 f17 f18 f19 f20 f21 f22 f23:Addr}(X:K.In h)(G:h.Ns mainGlobals mg)(hfa:mg "law" = some (.ref fa))
  {od1 an1 od2 an2 od3 an3 od4 an4 od5 an5 od6 an6 od7 an7 od8 an8 od9 an9 od10 an10 od11 an11 od12 an12 od13 an13 od14 an14 od15 an15 od16 an16 od17 an17 od18 an18 od19 an19 od20 an20 od21 an21 od22 an22 od23 an23:Option Addr}{sl1 sl2 sl3 sl4 sl5 sl6 sl7 sl8 sl9 sl10 sl11 sl12 sl13 sl14 sl15 sl16 sl17 sl18 sl19 sl20 sl21 sl22 sl23:Array (Option Value)}{oc1 kV1 dc1 pm1 cd1 ct1 oc2 kV2 dc2 pm2 cd2 ct2 oc3 kV3 dc3 pm3 cd3 ct3 oc4 kV4 dc4 pm4 cd4 ct4 oc5 kV5 dc5 pm5 cd5 ct5 oc6 kV6 dc6 pm6 cd6 ct6 oc7 kV7 dc7 pm7 cd7 ct7 oc8 kV8 dc8 pm8 cd8 ct8 oc9 kV9 dc9 pm9 cd9 ct9 oc10 kV10 dc10 pm10 cd10 ct10 oc11 kV11 dc11 pm11 cd11 ct11 oc12 kV12 dc12 pm12 cd12 ct12 oc13 kV13 dc13 pm13 cd13 ct13 oc14 kV14 dc14 pm14 cd14 ct14 oc15 kV15 dc15 pm15 cd15 ct15 oc16 kV16 dc16 pm16 cd16 ct16 oc17 kV17 dc17 pm17 cd17 ct17 oc18 kV18 dc18 pm18 cd18 ct18 oc19 kV19 dc19 pm19 cd19 ct19 oc20 kV20 dc20 pm20 cd20 ct20 oc21 kV21 dc21 pm21 cd21 ct21 oc22 kV22 dc22 pm22 cd22 ct22 oc23 kV23 dc23 pm23 cd23 ct23:Value}
  (a1:PySem.W.nsIn K mainGlobals "tie_weights" = some (some (.ref f1))) (l1:K.lookup f1=some ⟨oc1,od1,.func (PySem.W.fnOf "tie_weights" "tie_weights" (defArgs sTieWeights) (defBody sTieWeights) (defScope sTieWeights) .none kV1 dc1 pm1 an1 cd1 ct1),sl1⟩) (c1:PySem.W.codeIn K cd1 "tie_weights" = true) (k1:PySem.W.keepIn K (.ref f1)=true)
  (a2:PySem.W.nsIn K mainGlobals "without" = some (some (.ref f2))) (l2:K.lookup f2=some ⟨oc2,od2,.func (PySem.W.fnOf "without" "without" (defArgs sWithout) (defBody sWithout) (defScope sWithout) .none kV2 dc2 pm2 an2 cd2 ct2),sl2⟩) (c2:PySem.W.codeIn K cd2 "without" = true) (k2:PySem.W.keepIn K (.ref f2)=true)
  (a3:PySem.W.nsIn K mainGlobals "beside_each" = some (some (.ref f3))) (l3:K.lookup f3=some ⟨oc3,od3,.func (PySem.W.fnOf "beside_each" "beside_each" (defArgs sBesideEach) (defBody sBesideEach) (defScope sBesideEach) .none kV3 dc3 pm3 an3 cd3 ct3),sl3⟩) (c3:PySem.W.codeIn K cd3 "beside_each" = true) (k3:PySem.W.keepIn K (.ref f3)=true)
  (a4:PySem.W.nsIn K mainGlobals "heads_of" = some (some (.ref f4))) (l4:K.lookup f4=some ⟨oc4,od4,.func (PySem.W.fnOf "heads_of" "heads_of" (defArgs sHeadsOf) (defBody sHeadsOf) (defScope sHeadsOf) .none kV4 dc4 pm4 an4 cd4 ct4),sl4⟩) (c4:PySem.W.codeIn K cd4 "heads_of" = true) (k4:PySem.W.keepIn K (.ref f4)=true)
  (a5:PySem.W.nsIn K mainGlobals "spread" = some (some (.ref f5))) (l5:K.lookup f5=some ⟨oc5,od5,.func (PySem.W.fnOf "spread" "spread" (defArgs sSpread) (defBody sSpread) (defScope sSpread) .none kV5 dc5 pm5 an5 cd5 ct5),sl5⟩) (c5:PySem.W.codeIn K cd5 "spread" = true) (k5:PySem.W.keepIn K (.ref f5)=true)
  (a6:PySem.W.nsIn K mainGlobals "is_parting" = some (some (.ref f6))) (l6:K.lookup f6=some ⟨oc6,od6,.func (PySem.W.fnOf "is_parting" "is_parting" (defArgs sIsParting) (defBody sIsParting) (defScope sIsParting) .none kV6 dc6 pm6 an6 cd6 ct6),sl6⟩) (c6:PySem.W.codeIn K cd6 "is_parting" = true) (k6:PySem.W.keepIn K (.ref f6)=true)
  (a7:PySem.W.nsIn K mainGlobals "pruned" = some (some (.ref f7))) (l7:K.lookup f7=some ⟨oc7,od7,.func (PySem.W.fnOf "pruned" "pruned" (defArgs sPruned) (defBody sPruned) (defScope sPruned) .none kV7 dc7 pm7 an7 cd7 ct7),sl7⟩) (c7:PySem.W.codeIn K cd7 "pruned" = true) (k7:PySem.W.keepIn K (.ref f7)=true)
  (a8:PySem.W.nsIn K mainGlobals "_law_cell_at" = some (some (.ref f8))) (l8:K.lookup f8=some ⟨oc8,od8,.func (PySem.W.fnOf "_law_cell_at" "_law_cell_at" (defArgs sCell) (defBody sCell) (defScope sCell) .none kV8 dc8 pm8 an8 cd8 ct8),sl8⟩) (c8:PySem.W.codeIn K cd8 "_law_cell_at" = true) (k8:PySem.W.keepIn K (.ref f8)=true)
  (a9:PySem.W.nsIn K mainGlobals "_law_box" = some (some (.ref f9))) (l9:K.lookup f9=some ⟨oc9,od9,.func (PySem.W.fnOf "_law_box" "_law_box" (defArgs sBox) (defBody sBox) (defScope sBox) .none kV9 dc9 pm9 an9 cd9 ct9),sl9⟩) (c9:PySem.W.codeIn K cd9 "_law_box" = true) (k9:PySem.W.keepIn K (.ref f9)=true)
  (a10:PySem.W.nsIn K mainGlobals "_law_take" = some (some (.ref f10))) (l10:K.lookup f10=some ⟨oc10,od10,.func (PySem.W.fnOf "_law_take" "_law_take" (defArgs sTake) (defBody sTake) (defScope sTake) .none kV10 dc10 pm10 an10 cd10 ct10),sl10⟩) (c10:PySem.W.codeIn K cd10 "_law_take" = true) (k10:PySem.W.keepIn K (.ref f10)=true)
  (a11:PySem.W.nsIn K mainGlobals "_law_many" = some (some (.ref f11))) (l11:K.lookup f11=some ⟨oc11,od11,.func (PySem.W.fnOf "_law_many" "_law_many" (defArgs sMany) (defBody sMany) (defScope sMany) .none kV11 dc11 pm11 an11 cd11 ct11),sl11⟩) (c11:PySem.W.codeIn K cd11 "_law_many" = true) (k11:PySem.W.keepIn K (.ref f11)=true)
  (a12:PySem.W.nsIn K mainGlobals "_law_weight" = some (some (.ref f12))) (l12:K.lookup f12=some ⟨oc12,od12,.func (PySem.W.fnOf "_law_weight" "_law_weight" (defArgs sWeight) (defBody sWeight) (defScope sWeight) .none kV12 dc12 pm12 an12 cd12 ct12),sl12⟩) (c12:PySem.W.codeIn K cd12 "_law_weight" = true) (k12:PySem.W.keepIn K (.ref f12)=true)
  (a13:PySem.W.nsIn K mainGlobals "_law_web" = some (some (.ref f13))) (l13:K.lookup f13=some ⟨oc13,od13,.func (PySem.W.fnOf "_law_web" "_law_web" (defArgs sWeb) (defBody sWeb) (defScope sWeb) .none kV13 dc13 pm13 an13 cd13 ct13),sl13⟩) (c13:PySem.W.codeIn K cd13 "_law_web" = true) (k13:PySem.W.keepIn K (.ref f13)=true)
  (a14:PySem.W.nsIn K mainGlobals "_law_posts" = some (some (.ref f14))) (l14:K.lookup f14=some ⟨oc14,od14,.func (PySem.W.fnOf "_law_posts" "_law_posts" (defArgs sPosts) (defBody sPosts) (defScope sPosts) .none kV14 dc14 pm14 an14 cd14 ct14),sl14⟩) (c14:PySem.W.codeIn K cd14 "_law_posts" = true) (k14:PySem.W.keepIn K (.ref f14)=true)
  (a15:PySem.W.nsIn K mainGlobals "_law_with_posts" = some (some (.ref f15))) (l15:K.lookup f15=some ⟨oc15,od15,.func (PySem.W.fnOf "_law_with_posts" "_law_with_posts" (defArgs sWithPosts) (defBody sWithPosts) (defScope sWithPosts) .none kV15 dc15 pm15 an15 cd15 ct15),sl15⟩) (c15:PySem.W.codeIn K cd15 "_law_with_posts" = true) (k15:PySem.W.keepIn K (.ref f15)=true)
  (a16:PySem.W.nsIn K mainGlobals "_law_cut" = some (some (.ref f16))) (l16:K.lookup f16=some ⟨oc16,od16,.func (PySem.W.fnOf "_law_cut" "_law_cut" (defArgs sCut) (defBody sCut) (defScope sCut) .none kV16 dc16 pm16 an16 cd16 ct16),sl16⟩) (c16:PySem.W.codeIn K cd16 "_law_cut" = true) (k16:PySem.W.keepIn K (.ref f16)=true)
  (a17:PySem.W.nsIn K mainGlobals "_law_firsts" = some (some (.ref f17))) (l17:K.lookup f17=some ⟨oc17,od17,.func (PySem.W.fnOf "_law_firsts" "_law_firsts" (defArgs sFirsts) (defBody sFirsts) (defScope sFirsts) .none kV17 dc17 pm17 an17 cd17 ct17),sl17⟩) (c17:PySem.W.codeIn K cd17 "_law_firsts" = true) (k17:PySem.W.keepIn K (.ref f17)=true)
  (a18:PySem.W.nsIn K mainGlobals "_law_parts" = some (some (.ref f18))) (l18:K.lookup f18=some ⟨oc18,od18,.func (PySem.W.fnOf "_law_parts" "_law_parts" (defArgs sParts) (defBody sParts) (defScope sParts) .none kV18 dc18 pm18 an18 cd18 ct18),sl18⟩) (c18:PySem.W.codeIn K cd18 "_law_parts" = true) (k18:PySem.W.keepIn K (.ref f18)=true)
  (a19:PySem.W.nsIn K mainGlobals "_law_owners" = some (some (.ref f19))) (l19:K.lookup f19=some ⟨oc19,od19,.func (PySem.W.fnOf "_law_owners" "_law_owners" (defArgs sOwners) (defBody sOwners) (defScope sOwners) .none kV19 dc19 pm19 an19 cd19 ct19),sl19⟩) (c19:PySem.W.codeIn K cd19 "_law_owners" = true) (k19:PySem.W.keepIn K (.ref f19)=true)
  (a20:PySem.W.nsIn K mainGlobals "_law_cut_of" = some (some (.ref f20))) (l20:K.lookup f20=some ⟨oc20,od20,.func (PySem.W.fnOf "_law_cut_of" "_law_cut_of" (defArgs sCutOf) (defBody sCutOf) (defScope sCutOf) .none kV20 dc20 pm20 an20 cd20 ct20),sl20⟩) (c20:PySem.W.codeIn K cd20 "_law_cut_of" = true) (k20:PySem.W.keepIn K (.ref f20)=true)
  (a21:PySem.W.nsIn K mainGlobals "_law_same" = some (some (.ref f21))) (l21:K.lookup f21=some ⟨oc21,od21,.func (PySem.W.fnOf "_law_same" "_law_same" (defArgs sSame) (defBody sSame) (defScope sSame) .none kV21 dc21 pm21 an21 cd21 ct21),sl21⟩) (c21:PySem.W.codeIn K cd21 "_law_same" = true) (k21:PySem.W.keepIn K (.ref f21)=true)
  (a22:PySem.W.nsIn K mainGlobals "_law_due" = some (some (.ref f22))) (l22:K.lookup f22=some ⟨oc22,od22,.func (PySem.W.fnOf "_law_due" "_law_due" (defArgs sDue) (defBody sDue) (defScope sDue) .none kV22 dc22 pm22 an22 cd22 ct22),sl22⟩) (c22:PySem.W.codeIn K cd22 "_law_due" = true) (k22:PySem.W.keepIn K (.ref f22)=true)
  (a23:PySem.W.nsIn K mainGlobals "law" = some (some (.ref f23))) (l23:K.lookup f23=some ⟨oc23,od23,.func (PySem.W.fnOf "law" "law" (defArgs sLaw) (defBody sLaw) (defScope sLaw) .none kV23 dc23 pm23 an23 cd23 ct23),sl23⟩) (c23:PySem.W.codeIn K cd23 "law" = true) (k23:PySem.W.keepIn K (.ref f23)=true)
  {c0 B0:Addr} (e0:cd7 = .ref c0) (h0:PySem.W.codeHdIn K c0 B0=true) (n0:K.lookup B0=none)
  (z1:PySem.W.nsIn K mainGlobals "abs" = some none) (z2:PySem.W.nsIn K mainGlobals "int" = some none) (z3:PySem.W.nsIn K mainGlobals "len" = some none) (z4:PySem.W.nsIn K mainGlobals "range" = some none) (z5:PySem.W.nsIn K mainGlobals "min" = some none) (z6:PySem.W.nsIn K mainGlobals "max" = some none) (z7:PySem.W.nsIn K mainGlobals "tuple" = some none) (z8:PySem.W.nsIn K mainGlobals "sorted" = some none) (z9:PySem.W.nsIn K mainGlobals "isinstance" = some none) (z10:PySem.W.nsIn K mainGlobals "list" = some none) (z11:PySem.W.nsIn K mainGlobals "str" = some none) (z12:PySem.W.nsIn K mainGlobals "bool" = some none) (z13:PySem.W.nsIn K mainGlobals "sum" = some none) (z14:PySem.W.nsIn K mainGlobals "all" = some none) (z15:PySem.W.nsIn K mainGlobals "zip" = some none) (z16:PySem.W.nsIn K mainGlobals "enumerate" = some none) (z17:PySem.W.nsIn K mainGlobals "dict" = some none) (z18:PySem.W.nsIn K mainGlobals "set" = some none) :
  PySem.W.codeHdIn K c0 B0=true/\K.lookup B0=none/\∃ fd:FuncData,(∀ (s:Shared) (v:Value),BindsTo s fd ⟨[v],[]⟩ [("_law_script",v)])/\∀ base:Heap,K.In base->base.Ns mainGlobals mg->base.BuiltinsAt mg B0->FnOk l.prog w K mg base CX0 5 fa fd ["_law_script"] (spLaw K B0):=by
 have e:=hfa.symm.trans (PySem.W.mg_of X G a23)
 cases e
 have T:Txt mg:=⟨PySem.W.mg_none_of X G z1,PySem.W.mg_none_of X G z2,PySem.W.mg_none_of X G z3,PySem.W.mg_none_of X G z4,PySem.W.mg_none_of X G z5,PySem.W.mg_none_of X G z6,PySem.W.mg_none_of X G z7,PySem.W.mg_none_of X G z8,PySem.W.mg_none_of X G z9,PySem.W.mg_none_of X G z10,PySem.W.mg_none_of X G z11,PySem.W.mg_none_of X G z12,PySem.W.mg_none_of X G z13⟩
 have T2:Txt2 mg:=⟨PySem.W.mg_none_of X G z14,PySem.W.mg_none_of X G z15,PySem.W.mg_none_of X G z16,PySem.W.mg_none_of X G z17⟩
 have T3:Txt3 mg:=⟨PySem.W.mg_none_of X G z18⟩
 have F1:=fun_mk (st:=sTieWeights) l1 c1 k1
 have F2:=fun_mk (st:=sWithout) l2 c2 k2
 have F3:=fun_mk (st:=sBesideEach) l3 c3 k3
 have F4:=fun_mk (st:=sHeadsOf) l4 c4 k4
 have F5:=fun_mk (st:=sSpread) l5 c5 k5
 have F6:=fun_mk (st:=sIsParting) l6 c6 k6
 have F7:=fun_mk (st:=sPruned) l7 c7 k7
 have F8:=fun_mk (st:=sCell) l8 c8 k8
 have F9:=fun_mk (st:=sBox) l9 c9 k9
 have F10:=fun_mk (st:=sTake) l10 c10 k10
 have F11:=fun_mk (st:=sMany) l11 c11 k11
 have F12:=fun_mk (st:=sWeight) l12 c12 k12
 have F13:=fun_mk (st:=sWeb) l13 c13 k13
 have F14:=fun_mk (st:=sPosts) l14 c14 k14
 have F15:=fun_mk (st:=sWithPosts) l15 c15 k15
 have F16:=fun_mk (st:=sCut) l16 c16 k16
 have F17:=fun_mk (st:=sFirsts) l17 c17 k17
 have F18:=fun_mk (st:=sParts) l18 c18 k18
 have F19:=fun_mk (st:=sOwners) l19 c19 k19
 have F20:=fun_mk (st:=sCutOf) l20 c20 k20
 have F21:=fun_mk (st:=sSame) l21 c21 k21
 have F22:=fun_mk (st:=sDue) l22 c22 k22
 have F23:=fun_mk (st:=sLaw) l23 c23 k23
 have b1:=F1.binds (ps:=["web"]) fun _ _ _ _ _ _ us hl=>le1 us hl fun _=>rfl
 have b2:=F2.binds (ps:=["web","cut"]) fun _ _ _ _ _ _ us hl=>le2 us hl fun _ _=>rfl
 have b3:=F3.binds (ps:=["web"]) fun _ _ _ _ _ _ us hl=>le1 us hl fun _=>rfl
 have b4:=F4.binds (ps:=["web"]) fun _ _ _ _ _ _ us hl=>le1 us hl fun _=>rfl
 have b5:=F5.binds (ps:=["beside","heads","head"]) fun _ _ _ _ _ _ us hl=>le3 us hl fun _ _ _=>rfl
 have b6:=F6.binds (ps:=["web","posts","cut"]) fun _ _ _ _ _ _ us hl=>le3 us hl fun _ _ _=>rfl
 have b7:=F7.binds (ps:=["web","posts","cut"]) fun _ _ _ _ _ _ us hl=>le3 us hl fun _ _ _=>rfl
 have b8:=F8.binds (ps:=["_law_script","_law_k"]) fun _ _ _ _ _ _ us hl=>le2 us hl fun _ _=>rfl
 have b9:=F9.binds (ps:=["_law_script","_law_k"]) fun _ _ _ _ _ _ us hl=>le2 us hl fun _ _=>rfl
 have b10:=F10.binds (ps:=["_law_box_here","_law_many_here"]) fun _ _ _ _ _ _ us hl=>le2 us hl fun _ _=>rfl
 have b11:=F11.binds (ps:=["_law_box_here","_law_least","_law_few","_law_most"]) fun _ _ _ _ _ _ us hl=>le4 us hl fun _ _ _ _=>rfl
 have b12:=F12.binds (ps:=["_law_box_here","_law_heavy"]) fun _ _ _ _ _ _ us hl=>le2 us hl fun _ _=>rfl
 have b13:=F13.binds (ps:=["_law_box_here","_law_many_here"]) fun _ _ _ _ _ _ us hl=>le2 us hl fun _ _=>rfl
 have b14:=F14.binds (ps:=["_law_box_here","_law_many_here","_law_most"]) fun _ _ _ _ _ _ us hl=>le3 us hl fun _ _ _=>rfl
 have b15:=F15.binds (ps:=["_law_box_here"]) fun _ _ _ _ _ _ us hl=>le1 us hl fun _=>rfl
 have b16:=F16.binds (ps:=["_law_box_here","_law_web_here"]) fun _ _ _ _ _ _ us hl=>le2 us hl fun _ _=>rfl
 have b17:=F17.binds (ps:=["_law_web_here","_law_cut_here"]) fun _ _ _ _ _ _ us hl=>le2 us hl fun _ _=>rfl
 have b18:=F18.binds (ps:=["_law_web_here","_law_posts_here","_law_cut_here"]) fun _ _ _ _ _ _ us hl=>le3 us hl fun _ _ _=>rfl
 have b19:=F19.binds (ps:=["_law_box_here","_law_web_here","_law_posts_here"]) fun _ _ _ _ _ _ us hl=>le3 us hl fun _ _ _=>rfl
 have b20:=F20.binds (ps:=["_law_web_here","_law_owners_here"]) fun _ _ _ _ _ _ us hl=>le2 us hl fun _ _=>rfl
 have b21:=F21.binds (ps:=["_law_found","_law_due_here"]) fun _ _ _ _ _ _ us hl=>le2 us hl fun _ _=>rfl
 have b22:=F22.binds (ps:=["_law_web_here","_law_posts_here","_law_cut_here"]) fun _ _ _ _ _ _ us hl=>le3 us hl fun _ _ _=>rfl
 have m1:=PySem.W.mg_of X G a1
 have m2:=PySem.W.mg_of X G a2
 have m3:=PySem.W.mg_of X G a3
 have m4:=PySem.W.mg_of X G a4
 have m5:=PySem.W.mg_of X G a5
 have m6:=PySem.W.mg_of X G a6
 have m7:=PySem.W.mg_of X G a7
 have m8:=PySem.W.mg_of X G a8
 have m9:=PySem.W.mg_of X G a9
 have m10:=PySem.W.mg_of X G a10
 have m11:=PySem.W.mg_of X G a11
 have m12:=PySem.W.mg_of X G a12
 have m13:=PySem.W.mg_of X G a13
 have m14:=PySem.W.mg_of X G a14
 have m15:=PySem.W.mg_of X G a15
 have m16:=PySem.W.mg_of X G a16
 have m17:=PySem.W.mg_of X G a17
 have m18:=PySem.W.mg_of X G a18
 have m19:=PySem.W.mg_of X G a19
 have m20:=PySem.W.mg_of X G a20
 have m21:=PySem.W.mg_of X G a21
 have m22:=PySem.W.mg_of X G a22
 have m23:=PySem.W.mg_of X G a23
 refine⟨h0,n0,PySem.W.fnOf "law" "law" (defArgs sLaw) (defBody sLaw) (defScope sLaw) .none kV23 dc23 pm23 an23 cd23 ct23,fun s v=>.of_eq rfl,fun base KB _ hB=>?_⟩
 have C__law_box:CalF l.prog w K mg base 2 "_law_box" ["_law_script","_law_k"] (spBox K) f9 _:=⟨ok_box F9 T F8 m8 b8,m9,k9,b9⟩
 have TK:TakeF l.prog w K mg base f10 _:=⟨ok_take F10,m10,k10,b10⟩
 have C__law_many:CalF l.prog w K mg base 2 "_law_many" ["_law_box_here","_law_least","_law_few","_law_most"] spMany f11 _:=⟨ok_many F11 TK,m11,k11,b11⟩
 have TW:WeightF l.prog w K mg base f12 _:=⟨ok_weight F12 TK,m12,k12,b12⟩
 have C__law_web:CalF l.prog w K mg base 3 "_law_web" ["_law_box_here","_law_many_here"] spWeb f13 _:=⟨ok_web F13 T TK TW,m13,k13,b13⟩
 have C__law_posts:CalF l.prog w K mg base 2 "_law_posts" ["_law_box_here","_law_many_here","_law_most"] spPo f14 _:=⟨ok_po F14 T TK,m14,k14,b14⟩
 have C__law_with_posts:CalF l.prog w K mg base 4 "_law_with_posts" ["_law_box_here"] spWP f15 _:=⟨ok_wp F15 C__law_many C__law_web C__law_posts,m15,k15,b15⟩
 have C__law_cut_of:CalF l.prog w K mg base 1 "_law_cut_of" ["_law_web_here","_law_owners_here"] spCO f20 _:=⟨ok_co F20,m20,k20,b20⟩
 have C__law_owners:CalF l.prog w K mg base 2 "_law_owners" ["_law_box_here","_law_web_here","_law_posts_here"] spOw f19 _:=⟨ok_ow F19 T TK,m19,k19,b19⟩
 have C__law_cut:CalF l.prog w K mg base 2 "_law_cut" ["_law_box_here","_law_web_here"] spCut f16 _:=⟨ok_cut F16 TK,m16,k16,b16⟩
 have C__law_firsts:CalF l.prog w K mg base 1 "_law_firsts" ["_law_web_here","_law_cut_here"] (spFst K) f17 _:=⟨ok_fst F17 T T2,m17,k17,b17⟩
 have C__law_parts:CalF l.prog w K mg base 2 "_law_parts" ["_law_web_here","_law_posts_here","_law_cut_here"] (spPt K) f18 _:=⟨ok_pt F18 T T3 C__law_firsts,m18,k18,b18⟩
 have C__law_due:CalF l.prog w K mg base 3 "_law_due" ["_law_web_here","_law_posts_here","_law_cut_here"] (spDu K) f22 _:=⟨ok_du F22 T T2 C__law_parts,m22,k22,b22⟩
 have C_tie_weights:CalF l.prog w K mg base 1 "tie_weights" ["web"] spTW f1 _:=⟨ok_tw F1,m1,k1,b1⟩
 have C_without:CalF l.prog w K mg base 1 "without" ["web","cut"] (spWout K) f2 _:=⟨ok_wout F2 T,m2,k2,b2⟩
 have C_beside_each:CalF l.prog w K mg base 1 "beside_each" ["web"] spBes f3 _:=⟨ok_bes F3 T,m3,k3,b3⟩
 have C_spread:CalF l.prog w K mg base 1 "spread" ["beside","heads","head"] spSpr f5 _:=⟨ok_spr F5,m5,k5,b5⟩
 have C_heads_of:CalF l.prog w K mg base 2 "heads_of" ["web"] spHds f4 _:=⟨ok_hds F4 T C_beside_each C_spread,m4,k4,b4⟩
 have C_is_parting:CalF l.prog w K mg base 3 "is_parting" ["web","posts","cut"] (spIP K) f6 _:=⟨ok_ip F6 T C_without C_heads_of,m6,k6,b6⟩
 have C_pruned:CalF l.prog w K mg base 4 "pruned" ["web","posts","cut"] (spPr B0) f7 _:=⟨ok_pr F7 T e0 (PySem.W.codeHd_of_K KB h0) hB C_tie_weights C_is_parting,m7,k7,b7⟩
 have C__law_same:CalF l.prog w K mg base 3 "_law_same" ["_law_found","_law_due_here"] (spSame 2) f21 _:=⟨ok_same F21 T T2 m21 b21 2,m21,k21,b21⟩
 exact ok_law F23 T T3 ⟨C__law_box,C__law_with_posts,C__law_cut_of,C__law_owners,C__law_cut,C__law_due,C_pruned,C__law_same,C_is_parting⟩
theorem walk{l:PySem.W.OpenLaw}{q:Program}{loose:List Str}{XP:(Str->Option Value)->Heap->Prop}{YP:World->Heap->Prop}{d:DefRec}{K:Params->PySem.W.Frag}{c0 B0:Addr}(hn:l.most=some 63)(hdf:d.params.defaults=[])(hY:∀ (w:World) (h:Heap),YP w h->(K w.params).In h/\h.get? B0=some (PySem.W.tabObj #[]))
  (F:∀ (w:World) (mg:Str->Option Value) (fa:Addr) (h:Heap),(K w.params).In h->h.Ns mainGlobals mg->mg d.name=some (.ref fa)->PySem.W.codeHdIn (K w.params) c0 B0=true/\(K w.params).lookup B0=none/\∃ fd:FuncData,(∀ (s:Shared) (u:Value),BindsTo s fd ⟨[u],[]⟩ [("_law_script",u)])/\∀ base:Heap,(K w.params).In base->base.Ns mainGlobals mg->base.BuiltinsAt mg B0->FnOk l.prog w (K w.params) mg base CX0 5 fa fd ["_law_script"] (spLaw (K w.params) B0)) :
  PySem.W.WalkO q loose XP YP l.row.toRowW d [] (fun f vs=>PySem.call f vs) :=
 L2.walk_ofT (n:=63) (k:=5) (x:="_law_script") (c:=c0) (T:=B0) (sp:=fun w=>spLaw (K w.params) B0) hn (by decide) hdf ⟨rfl,by decide,by decide,rfl⟩ hY F (fun _ _ a ns hl hO hS=>⟨a,ns,rfl,hS,hl,.inl hO.1,fun _=>rfl⟩)
end K07
open PySem PySem.W PyProof.Rows
set_option maxRecDepth 100000 in
set_option maxHeartbeats 0 in
theorem PySem.Challenge.cw_partedweb_k07_partings_pruned_holds : PySem.Challenge.rw_partedweb_k07_partings_pruned.Holds := by
  w_on; o_law; k_head; (case hw => w_witness2)
  k_fill
  refine' K07.walk (c0 := ?c0) (B0 := 50) (l := PySem.Challenge.rw_partedweb_k07_partings_pruned) rfl rfl (fun w h Y => ⟨PySem.W.km_in_of Y, PySem.W.km_tabs_of Y 50 (by simp)⟩) ?F
  case F =>
    intro w mg fa h KX G hmg
    refine' K07.all_mk KX G hmg ?a1 ?l1 ?c1 ?k1 ?a2 ?l2 ?c2 ?k2 ?a3 ?l3 ?c3 ?k3 ?a4 ?l4 ?c4 ?k4 ?a5 ?l5 ?c5 ?k5 ?a6 ?l6 ?c6 ?k6 ?a7 ?l7 ?c7 ?k7 ?a8 ?l8 ?c8 ?k8 ?a9 ?l9 ?c9 ?k9 ?a10 ?l10 ?c10 ?k10 ?a11 ?l11 ?c11 ?k11 ?a12 ?l12 ?c12 ?k12 ?a13 ?l13 ?c13 ?k13 ?a14 ?l14 ?c14 ?k14 ?a15 ?l15 ?c15 ?k15 ?a16 ?l16 ?c16 ?k16 ?a17 ?l17 ?c17 ?k17 ?a18 ?l18 ?c18 ?k18 ?a19 ?l19 ?c19 ?k19 ?a20 ?l20 ?c20 ?k20 ?a21 ?l21 ?c21 ?k21 ?a22 ?l22 ?c22 ?k22 ?a23 ?l23 ?c23 ?k23 ?e0 ?h0 ?n0 ?z1 ?z2 ?z3 ?z4 ?z5 ?z6 ?z7 ?z8 ?z9 ?z10 ?z11 ?z12 ?z13 ?z14 ?z15 ?z16 ?z17 ?z18
    (case a1 => k_is); (case l1 => k_is); (case c1 => k_is); (case k1 => k_is); (case a2 => k_is); (case l2 => k_is)
    (case c2 => k_is); (case k2 => k_is); (case a3 => k_is); (case l3 => k_is); (case c3 => k_is); (case k3 => k_is)
    (case a4 => k_is); (case l4 => k_is); (case c4 => k_is); (case k4 => k_is); (case a5 => k_is); (case l5 => k_is)
    (case c5 => k_is); (case k5 => k_is); (case a6 => k_is); (case l6 => k_is); (case c6 => k_is); (case k6 => k_is)
    (case a7 => k_is); (case l7 => k_is); (case c7 => k_is); (case k7 => k_is); (case a8 => k_is); (case l8 => k_is)
    (case c8 => k_is); (case k8 => k_is); (case a9 => k_is); (case l9 => k_is); (case c9 => k_is); (case k9 => k_is)
    (case a10 => k_is); (case l10 => k_is); (case c10 => k_is); (case k10 => k_is); (case a11 => k_is); (case l11 => k_is)
    (case c11 => k_is); (case k11 => k_is); (case a12 => k_is); (case l12 => k_is); (case c12 => k_is); (case k12 => k_is)
    (case a13 => k_is); (case l13 => k_is); (case c13 => k_is); (case k13 => k_is); (case a14 => k_is); (case l14 => k_is)
    (case c14 => k_is); (case k14 => k_is); (case a15 => k_is); (case l15 => k_is); (case c15 => k_is); (case k15 => k_is)
    (case a16 => k_is); (case l16 => k_is); (case c16 => k_is); (case k16 => k_is); (case a17 => k_is); (case l17 => k_is)
    (case c17 => k_is); (case k17 => k_is); (case a18 => k_is); (case l18 => k_is); (case c18 => k_is); (case k18 => k_is)
    (case a19 => k_is); (case l19 => k_is); (case c19 => k_is); (case k19 => k_is); (case a20 => k_is); (case l20 => k_is)
    (case c20 => k_is); (case k20 => k_is); (case a21 => k_is); (case l21 => k_is); (case c21 => k_is); (case k21 => k_is)
    (case a22 => k_is); (case l22 => k_is); (case c22 => k_is); (case k22 => k_is); (case a23 => k_is); (case l23 => k_is)
    (case c23 => k_is); (case k23 => k_is); (case e0 => exact rfl); (case h0 => kernel_rfl); (case n0 => kernel_rfl); (case z1 => k_is)
    (case z2 => k_is); (case z3 => k_is); (case z4 => k_is); (case z5 => k_is); (case z6 => k_is); (case z7 => k_is)
    (case z8 => k_is); (case z9 => k_is); (case z10 => k_is); (case z11 => k_is); (case z12 => k_is); (case z13 => k_is)
    (case z14 => k_is); (case z15 => k_is); (case z16 => k_is); (case z17 => k_is); (case z18 => k_is)
#print axioms PySem.Challenge.cw_partedweb_k07_partings_pruned_holds
