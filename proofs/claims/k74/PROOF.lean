import PyProof.Rows.All
import Wide.All
import OpenK.AllK
import Wide.FinOn
import Lean
import PyProof.EqAt
import PyProof.EqKinds
import PyProof.TupleCall
import PySem.Challenge.RW_partedweb_k74_webs_written_and_read
set_option Elab.async false
set_option linter.all false
set_option maxRecDepth 100000
namespace L2
open PySem PySem.Spec PyProof.Rows
noncomputable abbrev Key:=Sum Int Str
noncomputable def keyIs:Key->Value->Bool
 | .inl k,v=>Value.isInt k v
 | .inr x,v=>Value.isStrOf x v
noncomputable def keyH(w:World):Key->Int
 | .inl k=>hashInt k
 | .inr x=>hashStr w x
theorem keyIs_shape:∀ {k:Key}{v:Value},keyIs k v=true->(∃ i t,k=Sum.inl i/\v=Value.int i t)\/(∃ x t,k=Sum.inr x/\v=Value.str x t)
 | .inl i,v,h=>by
  obtain⟨t,e⟩:=Value.isInt_shape (k:=i) (v:=v) h
  exact .inl ⟨i,t,rfl,e⟩
 | .inr x,v,h=>by
  obtain⟨t,e⟩:=Value.isStrOf_shape (x:=x) (v:=v) h
  exact .inr ⟨x,t,rfl,e⟩
theorem keyIs_int(i:Int)(t:Tok):keyIs (.inl i) (.int i t)=true:=by simp[keyIs,Value.isInt]
theorem keyIs_str(x:Str)(t:Tok):keyIs (.inr x) (.str x t)=true:=by simp[keyIs,Value.isStrOf]
theorem key_ll(a b:Int):decide ((Sum.inl a:Key)=Sum.inl b)=(a == b):=by
 by_cases e:a=b
 ·subst e;simp
 ·have h:¬(Sum.inl a:Key)=Sum.inl b:=fun q=>e (Sum.inl.inj q)
  rw[decide_eq_false h]
  exact(beq_eq_false_iff_ne.mpr e).symm
theorem key_rr(a b:Str):decide ((Sum.inr a:Key)=Sum.inr b)=decide (a=b):=by
 by_cases e:a=b
 ·subst e;simp
 ·have h:¬(Sum.inr a:Key)=Sum.inr b:=fun q=>e (Sum.inr.inj q)
  rw[decide_eq_false h,decide_eq_false e]
theorem key_lr(a:Int)(b:Str):decide ((Sum.inl a:Key)=Sum.inr b)=false:=decide_eq_false (fun q=>nomatch q)
theorem key_rl(a:Str)(b:Int):decide ((Sum.inr a:Key)=Sum.inl b)=false:=decide_eq_false (fun q=>nomatch q)
noncomputable def mixKind(prog:Program)(w:World):PySem.KeyKind prog w Key where
 is:=keyIs
 hash:=keyH w
 inj:=fun v a b ha hb=>by
  rcases keyIs_shape ha with⟨i,t,rfl,rfl⟩ |⟨x,t,rfl,rfl⟩
  ·rcases keyIs_shape hb with⟨j,u,rfl,e⟩ |⟨y,u,rfl,e⟩
   ·injection e with e1 _;rw[e1]
   ·exact nomatch e
  ·rcases keyIs_shape hb with⟨j,u,rfl,e⟩ |⟨y,u,rfl,e⟩
   ·exact nomatch e
   ·injection e with e1 _;rw[e1]
 byValue:=fun k v h=>by
  rcases keyIs_shape h with⟨i,t,rfl,rfl⟩ |⟨x,t,rfl,rfl⟩ <;> rfl
 pyHash:=fun hv h=>by
  rcases keyIs_shape hv with⟨i,t,rfl,rfl⟩ |⟨x,t,rfl,rfl⟩
  ·exact wpAny_pyHash_int h
  ·exact wpAny_pyHash_str h
 eqBool:=fun hu hv h=>by
  rcases keyIs_shape hu with⟨i,t,rfl,rfl⟩ |⟨x,t,rfl,rfl⟩
  ·rcases keyIs_shape hv with⟨j,u,rfl,rfl⟩ |⟨y,u,rfl,rfl⟩
   ·rw[key_ll]at h;exact wpAny_eqBool_int h
   ·rw[key_lr]at h;exact SeqAt.EqAt.int_str i t y u _ _ _ _ h
  ·rcases keyIs_shape hv with⟨j,u,rfl,rfl⟩ |⟨y,u,rfl,rfl⟩
   ·rw[key_rl]at h;exact SeqAt.EqAt.str_int x t j u _ _ _ _ h
   ·rw[key_rr]at h;exact wpAny_eqBool_str h
 «strs»:=fun k x t v h=>by
  rcases keyIs_shape h with⟨i,u,rfl,e⟩ |⟨y,u,rfl,e⟩
  ·exact nomatch e
  ·injection e with e1 _
   subst e1
   cases v <;> rfl
theorem mixKind_int(prog:Program)(w:World)(i:Int)(t:Tok):(mixKind prog w).is (.inl i) (.int i t)=true:=keyIs_int i t
theorem mixKind_str(prog:Program)(w:World)(x:Str)(t:Tok):(mixKind prog w).is (.inr x) (.str x t)=true:=keyIs_str x t
open PySem PySem.Spec PyProof.Rows
inductive V where
 |non | bl (b:Bool) | int (i:Int) | str (x:Str) | byt (b:Array UInt8) | flt (b:UInt64) | ref (a:Addr) | ty (n:String)
 deriving DecidableEq
noncomputable def RelV:V->Value->Prop
 | .non,u=>u=Value.none
 | .bl b,u=>u=Value.bool b
 | .int i,u=>∃ t,u=Value.int i t
 | .str x,u=>∃ t,u=Value.str x t
 | .byt b,u=>∃ t,u=Value.bytes b t
 | .flt b,u=>∃ t,u=Value.float b t
 | .ref a,u=>u=Value.ref a
 | .ty n,u=>u=Value.type n
noncomputable abbrev Vals:List V->List Value->Prop:=Paired RelV
theorem Vals.length{xs:List V}{us:List Value}(r:Vals xs us):xs.length=us.length:=Paired.length r
theorem Vals.get:∀ {xs:List V}{us:List Value}{i:Nat}{x:V},Vals xs us->xs[i]?=some x->∃ u,us[i]?=some u/\RelV x u
 | _,_,_,_,.nil,e=>by simp at e
 | _,_,0,_,.cons r _,e=>by simp at e;subst e;exact⟨_,rfl,r⟩
 | _,_,i+1,x,.cons _ t,e=>by
  obtain⟨u,h1,h2⟩:=Vals.get (i:=i) (x:=x) t (by simpa using e)
  exact⟨u,by simpa using h1,h2⟩
theorem Vals.set{x:V}{u:Value}(r:RelV x u):∀ {xs:List V}{us:List Value} (i:Nat),Vals xs us->Vals (xs.set i x) (us.set i u)
 | _,_,_,.nil=>.nil
 | _,_,0,.cons _ t=>.cons r t
 | _,_,i+1,.cons q t=>.cons q (Vals.set r i t)
theorem Vals.append:∀ {xs ys:List V}{us ws:List Value},Vals xs us->Vals ys ws->Vals (xs++ys) (us++ws)
 | _,_,_,_,.nil,s=>s
 | _,_,_,_,.cons r t,s=>.cons r (Vals.append t s)
theorem Vals.take:∀ {xs:List V}{us:List Value} (n:Nat),Vals xs us->Vals (xs.take n) (us.take n)
 | _,_,0,_=>.nil
 | _,_,_+1,.nil=>.nil
 | _,_,n+1,.cons r t=>.cons r (Vals.take n t)
theorem Vals.drop:∀ {xs:List V}{us:List Value} (n:Nat),Vals xs us->Vals (xs.drop n) (us.drop n)
 | _,_,0,r=>r
 | _,_,_+1,.nil=>.nil
 | _,_,n+1,.cons _ t=>Vals.drop n t
noncomputable def RelO:Option V->Option Value->Prop
 |some v,some u=>RelV v u
 |none,none=>True
 | _,_=>False
noncomputable def KV{κ:Type}:List (κ×V)->List (κ×Value)->Prop:=Paired fun(p:κ×V) (q:κ×Value)=>p.1=q.1/\RelV p.2 q.2
noncomputable def kV:Key->V
 | .inl i=>.int i
 | .inr x=>.str x
inductive HO where
 /-- a list -/
 |lst (xs:List V)
 /-- a tuple (never changes) -/
 |tup (xs:List V)
 /-- a dict whose keys are ints and texts;one whose keys are tuples of ints and texts (the empty one is both) -/
 |dK (kvs:List (Key×V)) | dT (kvs:List (List Key×V))
 /-- a set of ints: its members,its size -/
 |set (S:Int->Bool) (n:Nat)
 /-- an instance of the class at C,its dict at dx,its attributes -/
 |ins (C dx:Addr) (fs:List (Str×V))
 /-- the dict of the instance at x -/
 |own (x:Addr)
 /-- the dict of an exception -/
 |xd (fs:List (Str×V))
 /-- a bound method,f of x -/
 |met (f x:Addr)
 /-- a range object lo,lo+1,.. below hi -/
 |rng (lo hi:Int)
 /-- a thing that is known to the object (the script;a dict while a loop walks it): read,never written while it is so -/
 |frz (o:Obj) (u:HO)
 /-- a code object's table -/
 |tbl (ps:Array Value)
 /-- any other thing,by what is true of its one object (a def of one's own: SetO a S n:=HO.ext fun h=>..) -/
 |ext (φ:Heap->Prop)
noncomputable abbrev Hp:=Addr->Option HO
noncomputable def upd(H:Hp)(a:Addr)(o:HO):Hp:=fun b=>if b=a then some o else H b
theorem upd_same{H:Hp}{a:Addr}{o:HO}:upd H a o a=some o:=by unfold upd;rw[if_pos rfl]
theorem upd_ne{H:Hp}{a b:Addr}{o:HO}(h:b≠a):upd H a o b=H b:=by unfold upd;rw[if_neg h]
theorem ne_of{H:Hp}{a b:Addr}{o u:HO}(h:H a=some o)(h':H b=some u)(d:o≠u):a≠b:=by
 intro e;subst e;rw[h]at h';exact d (Option.some.inj h')
theorem ne_of_none{H:Hp}{a b:Addr}{o:HO}(h:H a=some o)(h':H b=none):a≠b:=by
 intro e;subst e;rw[h]at h';cases h'
section
variable(P:Program)(w:World)
noncomputable def ObjOk(H:Hp)(h:Heap)(a:Addr):HO->Prop
 | .lst xs=>xs.length<=sizeLine/\∃ (its:List Value) (n:Nat),Vals xs its/\h.get? a=some { cls:=.type "list",data:=.seq its.toArray n }
 | .tup xs=>xs.length<=sizeLine/\∃ its:List Value,Vals xs its/\IsTup h a its.toArray
 | .dK kvs=>kvs.length<=sizeLine/\(a == sysModules)=false/\∃ vs,KV kvs vs/\h.DictOf (mixKind P w) a vs
 | .dT kvs=>kvs.length<=sizeLine/\(a == sysModules)=false/\∃ xs:List (List Key×Addr×Value),
   Paired (fun(p:List Key×V) (q:List Key×Addr×Value)=>p.1=q.1/\H q.2.1=some (.tup (p.1.map kV))/\RelV p.2 q.2.2) kvs xs /\
   ∃ o es ep,h.get? a=some o/\o.ExactDict/\o.data = .dict es ep/\es.toList=xs.map (entryOfKey (tupleKind (mixKind P w)))/\(xs.map (·.1)).Nodup
 | .set S n=>h.SetOf (intKind P w) a S n
 | .ins C dx fs=>H dx=some (.own a)/\fs.length<=1000/\dx≠a/\h.get? a=some (PySem.W.instObj C dx) /\
   ∃ mA,h.Ns1 dx mA/\(∀ f,RelO (fs.lookup f) (mA f))/\PySem.Within mA (fs.map (·.1))
 | .own _=>∃ o,h.get? a=some o
 | .xd fs=>∃ mA,h.Ns1 a mA/\∀ f,RelO (fs.lookup f) (mA f)
 | .rng lo hi=>∃ t u v,h.get? a=some { cls:=.type "range",data:=.fields #[.int lo t,.int hi u,.int 1 v] }
 | .frz o u=>h.get? a=some o/\ObjOk H h a u
 | .tbl ps=>h.get? a=some { cls:=.none,data:=.fields ps }
 | .met f x=>h.get? a=some (PySem.W.methodObj (.ref f) (.ref x))
 | .ext φ=>φ h/\(∃ o,h.get? a=some o)/\∀ h1 h2:Heap,φ h1->(∀ o,h1.get? a=some o->h2.get? a=some o)->φ h2
noncomputable def HOk(H:Hp)(h:Heap):Prop:=∀ a o,H a=some o->ObjOk P w H h a o
end
section
variable{P:Program}{w:World}{H H':Hp}{h h':Heap}{a:Addr}{o:HO}
theorem ObjOk.lt(x:ObjOk P w H h a o):a<h.objs.size:=by
 cases o with
 |lst xs=>obtain⟨_,_,_,_,e⟩:=x;exact Heap.lt_size e
 |tup xs=>obtain⟨_,_,_,p⟩:=x;exact p.lt
 |dK kvs=>obtain⟨_,_,_,_,o,_,_,e,_⟩:=x;exact Heap.lt_size e
 |dT kvs=>obtain⟨_,_,_,_,o,_,_,e,_⟩:=x;exact Heap.lt_size e
 |set S n=>obtain⟨o,_,_,_,e,_⟩:=x;exact Heap.lt_size e
 |ins C dx fs=>obtain⟨_,_,_,e,_⟩:=x;exact Heap.lt_size e
 |own y=>obtain⟨_,e⟩:=x;exact Heap.lt_size e
 |xd fs=>obtain⟨_,⟨_,_,_,e,_⟩,_⟩:=x;exact Heap.lt_size e
 |rng lo hi=>obtain⟨_,_,_,e⟩:=x;exact Heap.lt_size e
 |frz ob u=>obtain⟨e,_⟩:=x;exact Heap.lt_size e
 |tbl ps=>exact Heap.lt_size (show h.get? a=some _ from x)
 |met f y=>exact Heap.lt_size (show h.get? a=some _ from x)
 |ext φ=>obtain⟨_,⟨_,e⟩,_⟩:=x;exact Heap.lt_size e
theorem Paired.mapP{α β:Type}{F G:α->β->Prop}:∀ {l₁:List α}{l₂:List β},Paired F l₁ l₂->(∀ a b,F a b->G a b)->Paired G l₁ l₂
 | _,_,.nil,_=>.nil
 | _,_,.cons r t,f=>.cons (f _ _ r) (Paired.mapP t f)
theorem ObjOk.stay(x:ObjOk P w H h a o)(k:∀ b u,(b=a\/H b=some (.own a))->h.get? b=some u->h'.get? b=some u)
  (ho:∀ b,H b=some (.own a)->H' b=some (.own a)) (ht:∀ b xs,H b=some (.tup xs)->H' b=some (.tup xs)):ObjOk P w H' h' a o:=by
 induction o with
 |lst xs=>obtain⟨z,its,n,r,e⟩:=x;exact⟨z,its,n,r,k _ _ (.inl rfl) e⟩
 |tup xs=>obtain⟨z,its,r,ob,e,c⟩:=x;exact⟨z,its,r,ob,k _ _ (.inl rfl) e,c⟩
 |dK kvs=>obtain⟨z,y,vs,r,ob,es,ep,e,c⟩:=x;exact⟨z,y,vs,r,ob,es,ep,k _ _ (.inl rfl) e,c⟩
 |dT kvs =>
  obtain⟨z,y,xs,r,ob,es,ep,e,c⟩:=x
  exact⟨z,y,xs,Paired.mapP r fun p q z=>⟨z.1,ht _ _ z.2.1,z.2.2⟩,ob,es,ep,k _ _ (.inl rfl) e,c⟩
 |set S n=>obtain⟨ob,es,ep,t,e,c⟩:=x;exact⟨ob,es,ep,t,k _ _ (.inl rfl) e,c⟩
 |ins C dx fs =>
  obtain⟨d,z,ne,e,mA,⟨od,es,ep,e2,c⟩,r⟩:=x
  exact⟨ho _ d,z,ne,k _ _ (.inl rfl) e,mA,⟨od,es,ep,k _ _ (.inr d) e2,c⟩,r⟩
 |own y=>obtain⟨ob,e⟩:=x;exact⟨ob,k _ _ (.inl rfl) e⟩
 |xd fs=>obtain⟨mA,⟨od,es,ep,e,c⟩,r⟩:=x;exact⟨mA,⟨od,es,ep,k _ _ (.inl rfl) e,c⟩,r⟩
 |rng lo hi=>obtain⟨t,u,v,e⟩:=x;exact⟨t,u,v,k _ _ (.inl rfl) e⟩
 |frz ob u ih=>obtain⟨e,q⟩:=x;exact⟨k _ _ (.inl rfl) e,ih q⟩
 |tbl ps =>
  have e:h.get? a=some { cls:=.none,data:=.fields ps }:=x
  show h'.get? a=some { cls:=.none,data:=.fields ps }
  exact k a _ (.inl rfl) e
 |met f y =>
  have e:h.get? a=some (PySem.W.methodObj (.ref f) (.ref y)):=x
  show h'.get? a=some (PySem.W.methodObj (.ref f) (.ref y))
  exact k a _ (.inl rfl) e
 |ext φ=>obtain⟨p,⟨o,e⟩,st⟩:=x;exact⟨st _ _ p fun o q=>k _ _ (.inl rfl) q,⟨o,k _ _ (.inl rfl) e⟩,st⟩
theorem HOk.lt(x:HOk P w H h)(e:H a=some o):a<h.objs.size:=(x a o e).lt
theorem HOk.fresh(x:HOk P w H h)(e:h.objs.size<=a):H a=none:=by
 cases q:H a with
 |none=>rfl
 |some u=>exact absurd (Nat.lt_of_lt_of_le (x.lt q) e) (Nat.lt_irrefl _)
theorem HOk.kept(x:HOk P w H h)(k:∀ b u,h.get? b=some u->h'.get? b=some u):HOk P w H h':=fun a o e =>
 (x a o e).stay (fun b u _ q=>k b u q) (fun _ q=>q) fun _ _ q=>q
theorem HOk.laid(x:HOk P w H h)(k:∀ b u,h.get? b=some u->h'.get? b=some u)(hp:h.objs.size<=a)(new:ObjOk P w (upd H a o) h' a o):HOk P w (upd H a o) h':=fun b u e=>by
 have hn:=x.fresh hp
 by_cases hb:b=a
 ·subst hb;rw[upd_same]at e;cases e;exact new
 ·rw[upd_ne hb]at e
  exact(x b u e).stay (fun c v _ q=>k c v q) (fun c q=>by rw[upd_ne (ne_of_none q hn)];exact q) fun c xs q=>by rw[upd_ne (ne_of_none q hn)];exact q
end
noncomputable def Rd(H:Hp)(a:Addr)(u:HO):Prop:=H a=some u\/∃ o,H a=some (.frz o u)
theorem Rd.ok{P:Program}{w:World}{H:Hp}{h:Heap}{a:Addr}{u:HO}(r:Rd H a u)(x:HOk P w H h):ObjOk P w H h a u:=by
 rcases r with r |⟨o,r⟩
 ·exact x a u r
 ·obtain⟨_,q⟩:=x a _ r
  exact q
noncomputable def Mut:Option HO->Prop
 |some (.lst _)=>True
 |some (.dK _)=>True
 |some (.dT _)=>True
 |some (.set _ _)=>True
 |some (.ins _ _ _)=>True
 |some (.ext _)=>True
 | _=>False
section
variable{P:Program}{w:World}{H:Hp}{h h':Heap}{x e:Addr}{o':HO}
theorem HOk.write(ok:HOk P w H h)(mu:Mut (H x))(he:e=x\/H e=some (.own x))(k:∀ b u,b≠e->h.get? b=some u->h'.get? b=some u)(heo:∃ u,h'.get? e=some u)
  (new:ObjOk P w (upd H x o') h' x o'):HOk P w (upd H x o') h':=fun b u q=>by
 have nown:∀ c y,H c=some (.own y)->c≠x:=fun c y r z=>by subst z;rw[r]at mu;exact mu
 have ntup:∀ c xs,H c=some (.tup xs)->c≠x:=fun c xs r z=>by subst z;rw[r]at mu;exact mu
 by_cases hb:b=x
 ·subst hb;rw[upd_same]at q;cases q;exact new
 ·rw[upd_ne hb]at q
  by_cases hbe:b=e
  ·have q':H b=some (.own x):=by
    rcases he with z | z
    ·exact absurd (hbe.trans z) hb
    ·rw[hbe];exact z
   rw[q]at q';cases q'
   obtain⟨v,hv⟩:=heo
   exact⟨v,by rw[hbe];exact hv⟩
  ·refine(ok b u q).stay (fun c v hc r=>k c v ?_ r) (fun c r=>by rw[upd_ne (nown c b r)];exact r) fun c xs r=>by rw[upd_ne (ntup c xs r)];exact r
   rcases hc with rfl | hc
   ·exact hbe
   ·rintro rfl
    rcases he with z | z
    ·exact nown c b hc z
    ·rw[hc]at z;cases z;exact hb rfl
end
structure Un(fs ex:List Addr)(H H':Hp)(h h':Heap):Prop where
 keep:∀ b o,h.get? b=some o->H b=none->b∉fs->b∉ex->h'.get? b=some o
 slot:∀ b o,h.get? b=some o->H b=none->b∈fs->b∉ex->∃ sl,h'.get? b=some { o with slots:=sl }
 free:∀ b o,h.get? b=some o->H b=none->b∉ex->H' b=none
 there:∀ b o,h.get? b=some o->b∉ex->∃ o',h'.get? b=some o'
 tups:∀ b xs,H b=some (.tup xs)->H' b=some (.tup xs)
 frzs:∀ b o u,H b=some (.frz o u)->H' b=some (.frz o u)
 tbls:∀ b ps,H b=some (.tbl ps)->∃ more,H' b=some (.tbl (ps++more))
section
variable{fs fs' ex ex':List Addr}{H H1 H2:Hp}{h h1 h2 h':Heap}{a x e:Addr}{o:HO}
theorem Un.any(u:Un fs ex H H1 h h1){b:Addr}{ob:Obj}(q:h.get? b=some ob)(n:H b=none)(hx:b∉ex):∃ sl,h1.get? b=some { ob with slots:=sl }:=by
 by_cases hb:b∈fs
 ·exact u.slot b ob q n hb hx
 ·exact⟨ob.slots,u.keep b ob q n hb hx⟩
theorem Un.kept(k:∀ b u,h.get? b=some u->h'.get? b=some u):Un fs ex H H h h' :=
 ⟨fun b ob q _ _ _=>k b ob q,fun b ob q _ _ _=>⟨ob.slots,k b ob q⟩,fun _ _ _ n _=>n,fun b ob q _=>⟨ob,k b ob q⟩,fun _ _ q=>q,fun _ _ _ q=>q,fun _ ps q=>⟨#[],by rw[q];simp⟩⟩
theorem Un.refl:Un fs ex H H h h:=Un.kept fun _ _ q=>q
theorem Un.laid(k:∀ b u,h.get? b=some u->h'.get? b=some u)(hp:h.objs.size<=a)(hn:H a=none):Un fs ex H (upd H a o) h h' where
 keep:=fun b u q _ _ _=>k b u q
 slot:=fun b u q _ _ _=>⟨u.slots,k b u q⟩
 free:=fun b u q n _=>by rw[upd_ne (Nat.ne_of_lt (Nat.lt_of_lt_of_le (Heap.lt_size q) hp))];exact n
 there:=fun b u q _=>⟨u,k b u q⟩
 tups:=fun b xs q=>by rw[upd_ne (ne_of_none q hn)];exact q
 frzs:=fun b u xs q=>by rw[upd_ne (ne_of_none q hn)];exact q
 tbls:=fun b ps q=>⟨#[],by rw[upd_ne (ne_of_none q hn),q];simp⟩
theorem Un.write(mu:Mut (H x))(he:e=x\/H e=some (.own x))(k:∀ b u,b≠e->h.get? b=some u->h'.get? b=some u)(heo:∃ u,h'.get? e=some u):Un fs ex H (upd H x o) h h':=by
 have hx:∀ b,H b=none->b≠x:=fun b n z=>by subst z;rw[n]at mu;exact mu
 have hb:∀ b,H b=none->b≠e:=fun b n z=>by
  subst z
  rcases he with r | r
  ·exact hx b n r
  ·rw[n]at r;cases r
 have hm:∀ b u,H b=some u->¬ Mut (some u)->b≠x:=fun b u q nm z=>by subst z;rw[q]at mu;exact nm mu
 refine⟨fun b u q n _ _=>k b u (hb b n) q,fun b u q n _ _=>⟨u.slots,k b u (hb b n) q⟩,fun b u q n _=>by rw[upd_ne (hx b n)];exact n,fun b u q _=>?_,
  fun b xs q=>by rw[upd_ne (hm b _ q fun z=>z)];exact q,fun b u xs q=>by rw[upd_ne (hm b _ q fun z=>z)];exact q,fun b ps q=>⟨#[],by rw[upd_ne (hm b _ q fun z=>z),q];simp⟩⟩
 by_cases hbe:b=e
 ·subst hbe;exact heo
 ·exact⟨u,k b u hbe q⟩
end
noncomputable def trk(h:Heap)(H:Hp):List Addr:=(List.range h.objs.size).filter fun a=>(H a).isSome
noncomputable def hidT(h:Heap)(H:Hp):Heap:=PySem.W.hideAll h (trk h H)
theorem hidT_size(h:Heap)(H:Hp):(hidT h H).objs.size=h.objs.size:=PySem.W.hideAll_size _ _
theorem hidT_get{h:Heap}{H:Hp}{b:Addr}{o:Obj}(e:h.get? b=some o)(n:H b=none):(hidT h H).get? b=some o :=
 PySem.W.hideAll_get _ e fun hm=>by
  have q:(H b).isSome=true:=(List.mem_filter.mp hm).2
  rw[n]at q;simp at q
theorem of_hidT{h:Heap}{H:Hp}{b:Addr}{o:Obj}(e:(hidT h H).get? b=some o):h.get? b=some o/\H b=none:=by
 have e':h.get? b=some o:=PySem.W.of_hideAll (trk h H) e
 refine⟨e',?_⟩
 cases q:H b with
 |none=>rfl
 |some x =>
  have hm:b∈trk h H:=List.mem_filter.mpr ⟨List.mem_range.mpr (Heap.lt_size e'),by simp[q]⟩
  have z:(hidT h H).get? b=none:=PySem.W.hideAll_none (trk h H) hm
  rw[z]at e;cases e
open PySem PySem.Spec PyProof.Rows
structure Mod(K:PySem.W.Frag)(mg:Str->Option Value)(base:Heap):Prop where
 kin:K.In base
 glob:base.Ns mainGlobals mg
 blt:∃ mb,base.Ns builtinsNs mb/\∀ x:Str,x≠"__name__"->mb x=bootBuiltins x
 nolimit:base.NoLimit
structure Cx where
 prog:Program
 w:World
 K:PySem.W.Frag
 mg:Str->Option Value
 base:Heap
 A:Around
 N:List Str
 s₀:Shared
 H₀:Hp
 env:Env
 outer:List Env
 stack:List Env
 ex:List Addr
 fn:Str->Bool
 calm:Bool
 pn:List (Addr×Obj)
 xe:Value->Shared->Prop
noncomputable def frs(l:List Env):List Addr:=l.filterMap (·.frame)
noncomputable abbrev Cx.fs(X:Cx):List Addr:=frs X.outer
noncomputable def Vis(sc:Scope)(x:Str):Prop:=sc.names.lookup x=some .local\/sc.names.lookup x=some .cell\/sc.names.lookup x=some .free
noncomputable def Loc(sc:Scope)(x:Str):Prop:=sc.names.lookup x=some .local\/sc.names.lookup x=some .cell
noncomputable def Look(env:Env)(h:Heap)(m:Str->Option Value)(x:Str)(u:Value):Prop :=
 (env.kindOf x=some .local/\m x=some u)\/((env.kindOf x=some .cell\/env.kindOf x=some .free)/\∃ c,env.cells.lookup x=some c/\h.IsCell c (some u))
structure Cx.Ok(X:Cx):Prop where
 mod:Mod X.K X.mg X.base
 kind:X.env.scope.kind = .function
 glob:X.env.globals=mainGlobals
 blt:X.env.builtins=builtinsNs
 above:X.s₀.heap.objs.size<=X.env.locals
 inj:∀ x y c,X.env.cells.lookup x=some c->X.env.cells.lookup y=some c->x=y
 has:∀ x,(X.env.kindOf x=some .cell\/X.env.kindOf x=some .free)->∃ c,X.env.cells.lookup x=some c
 cab:∀ x c,X.fn x=true->X.env.cells.lookup x=some c->X.s₀.heap.objs.size<=c
 hd:X.calm=true->X.A.handled=none
 frames:X.A.frames=some X.stack
 stk:X.stack=X.outer\/(X.stack=X.env :: X.outer/\X.env.frame=some X.env.locals)
 exf:∀ b∈X.ex,b≠X.env.locals/\∀ x c,X.env.cells.lookup x=some c->c≠b
 bs:∀ b o,X.base.get? b=some o->X.s₀.heap.get? b=some o/\X.H₀ b=none
 bsz:X.base.objs.size<=X.s₀.heap.objs.size
 noex:∀ b o,X.base.get? b=some o->b∉X.ex
 exfs:∀ b∈X.ex,b∉X.fs
 funs:X.s₀.heap.FunFrames X.base X.outer
 frf:∀ b∈X.fs,X.H₀ b=none
structure Inv(X:Cx)(pins:List (Addr×Obj))(σ:List (Option V))(H:Hp)(s:Shared):Prop where
 ok:X.Ok
 os:s.os=X.s₀.os
 bare:AllBare s.gens
 base:Un X.fs X.ex X.H₀ H X.s₀.heap s.heap
 loc:∃ m,s.heap.Ns X.env.locals m/\∀ (i:Nat) (x:Str) (v:V),X.N[i]?=some x->σ[i]?=some (some v)->Vis X.env.scope x->∃ u,RelV v u/\Look X.env s.heap m x u
 cell:∀ x c,X.env.cells.lookup x=some c->∃ v,s.heap.IsCell c v
 free:H X.env.locals=none
 freeC:∀ x c,X.env.cells.lookup x=some c->H c=none
 pin:∀ p∈X.pn++pins,s.heap.get? p.1=some p.2/\H p.1=none/\p.1≠X.env.locals/\p.1∉X.fs/\∀ v,p.2.data≠.cell v
 hok:HOk X.prog X.w H s.heap
 len:σ.length=X.N.length
section
variable{X:Cx}{pins:List (Addr×Obj)}{σ:List (Option V)}{H H':Hp}{s:Shared}{h':Heap}
theorem Cx.Ok.nofr(ok:X.Ok){b:Addr}{o:Obj}(e:X.base.get? b=some o):b∉X.fs:=fun hb=>by
 have:=(ok.funs.mem hb).1
 rw[e]at this;cases this
theorem Inv.bs(I:Inv X pins σ H s):∀ b o,X.base.get? b=some o->s.heap.get? b=some o/\H b=none:=fun b o e =>
 ⟨I.base.keep b o (I.ok.bs b o e).1 (I.ok.bs b o e).2 (I.ok.nofr e) (I.ok.noex b o e),I.base.free b o (I.ok.bs b o e).1 (I.ok.bs b o e).2 (I.ok.noex b o e)⟩
theorem Inv.bk(I:Inv X pins σ H s):∀ b o,X.base.get? b=some o->s.heap.get? b=some o:=fun b o e=>(I.bs b o e).1
theorem Inv.mod(I:Inv X pins σ H s):Mod X.K X.mg X.base:=I.ok.mod
theorem Inv.kIn(I:Inv X pins σ H s):X.K.In s.heap:=I.ok.mod.kin.keeps I.bk
theorem Inv.lt(I:Inv X pins σ H s):X.env.locals<s.heap.objs.size:=let ⟨_,hn,_⟩:=I.loc;hn.lt
theorem Inv.sz(I:Inv X pins σ H s):X.s₀.heap.objs.size<=s.heap.objs.size:=Nat.le_trans I.ok.above (Nat.le_of_lt I.lt)
theorem Inv.nofs(I:Inv X pins σ H s){a:Addr}(h:s.heap.objs.size<=a):a∉X.fs:=fun hb=>by
 obtain⟨_,o,ho,_⟩:=I.ok.funs.mem hb
 exact absurd (Nat.lt_of_lt_of_le (Heap.lt_size ho) (Nat.le_trans I.sz h)) (Nat.lt_irrefl _)
theorem Inv.cne(I:Inv X pins σ H s):∀ x c,X.env.cells.lookup x=some c->c≠X.env.locals:=fun x c e z=>by
 obtain⟨v,o,ho,hd⟩:=I.cell x c e
 obtain⟨m,⟨o',es,ep,ho',hd',_⟩,_⟩:=I.loc
 rw[z,ho']at ho;cases ho;rw[hd']at hd;cases hd
theorem Inv.funs(I:Inv X pins σ H s):s.heap.FunFrames X.base X.outer:=by
 have all:∀ (l:List Env),(∀ b∈frs l,b∈X.fs)->X.s₀.heap.FunFrames X.base l->s.heap.FunFrames X.base l:=by
  intro l
  induction l with
  |nil=>intro _ _;trivial
  |cons env r ih =>
   intro hs hl
   obtain⟨hk,⟨L,o,hf,hn,ho,hd⟩,hr⟩:=hl
   have hL:L∈X.fs:=hs L (by unfold frs;rw[List.filterMap_cons,hf];exact List.mem_cons_self)
   obtain⟨sl,e⟩:=I.base.slot L o ho (I.ok.frf L hL) hL fun z=>I.ok.exfs L z hL
   exact⟨hk,⟨L,_,hf,hn,e,hd⟩,ih (fun b hb=>hs b (by unfold frs;rw[List.filterMap_cons,hf];exact List.mem_cons_of_mem _ hb)) hr⟩
 exact all X.outer (fun _ hb=>hb) I.ok.funs
theorem Inv.stack(I:Inv X pins σ H s):s.heap.FunFrames X.base X.stack:=by
 rcases I.ok.stk with e |⟨e,hf⟩
 ·rw[e];exact I.funs
 ·rw[e]
  obtain⟨m,hn,_⟩:=I.loc
  refine .cons (by rw[I.ok.kind];decide) hf hn ?_ I.funs
  exact Heap.get?_none_of_le (Nat.le_trans I.ok.bsz I.ok.above)
theorem Inv.stkSub(I:Inv X pins σ H s):∀ b∈frs X.stack,b∈X.env.locals :: X.fs:=fun b hb=>by
 rcases I.ok.stk with e |⟨e,hf⟩
 ·rw[e]at hb;exact List.mem_cons_of_mem _ hb
 ·rw[e]at hb
  unfold frs at hb
  rw[List.filterMap_cons,hf]at hb
  exact hb
theorem Inv.stkFree(I:Inv X pins σ H s):∀ b∈frs X.stack,H b=none:=fun b hb=>by
 rcases List.mem_cons.mp (I.stkSub b hb)with e | hb
 ·rw[e];exact I.free
 ·obtain⟨_,o,ho,_⟩:=I.ok.funs.mem hb
  exact I.base.free b o ho (I.ok.frf b hb) fun z=>I.ok.exfs b z hb
theorem Inv.step{g':Array GenState}{t':Nat}{d':Drawn}{ch:List Addr}(I:Inv X pins σ H s)
  (hch:∀ b∈ch,(b∈X.ex\/X.s₀.heap.objs.size<=b)/\b≠X.env.locals/\(∀ x c,X.env.cells.lookup x=some c->c≠b)/\∀ p∈X.pn++pins,p.1≠b)
  (keep:∀ b o,b≠X.env.locals->b∉X.fs->b∉ch->s.heap.get? b=some o->H b=none->h'.get? b=some o)
  (slot:∀ b o,b≠X.env.locals->b∈X.fs->b∉ch->s.heap.get? b=some o->H b=none->∃ sl,h'.get? b=some { o with slots:=sl }) (free:∀ b o,b∉ch->s.heap.get? b=some o->H b=none->H' b=none)
  (there:∀ b o,b∉ch->s.heap.get? b=some o->∃ o',h'.get? b=some o')
  (tups:∀ b xs,H b=some (.tup xs)->H' b=some (.tup xs)) (frzs:∀ b o u,H b=some (.frz o u)->H' b=some (.frz o u)) (tbls:∀ b ps,H b=some (.tbl ps)->∃ more,H' b=some (.tbl (ps++more)))
  (ns:∀ m,s.heap.Ns X.env.locals m->h'.Ns X.env.locals m) (hok:HOk X.prog X.w H' h') (hg:AllBare g') :
  Inv X pins σ H' { s with heap:=h',gens:=g',drawn:=d',toks:=t' }:=by
 have neL:∀ b o,X.s₀.heap.get? b=some o->b≠X.env.locals:=fun b o e=>Nat.ne_of_lt (Nat.lt_of_lt_of_le (Heap.lt_size e) I.ok.above)
 have neC:∀ b o,X.s₀.heap.get? b=some o->b∉X.ex->b∉ch:=fun b o e hx hb=>by
  rcases(hch b hb).1 with z | z
  ·exact hx z
  ·exact absurd (Nat.lt_of_lt_of_le (Heap.lt_size e) z) (Nat.lt_irrefl _)
 have cellK:∀ x c,X.env.cells.lookup x=some c->∀ v,s.heap.IsCell c v->h'.IsCell c v:=fun x c e v ⟨o,ho,hd⟩=>by
  have nch:c∉ch:=fun z=>(hch c z).2.2.1 x c e rfl
  by_cases hc:c∈X.fs
  ·obtain⟨sl,q⟩:=slot c o (I.cne x c e) hc nch ho (I.freeC x c e)
   exact⟨_,q,hd⟩
  ·exact⟨o,keep c o (I.cne x c e) hc nch ho (I.freeC x c e),hd⟩
 refine⟨I.ok,I.os,hg,⟨fun b o e n hb hx=>?_,fun b o e n hb hx=>?_,fun b o e n hx=>?_,fun b o e hx=>?_,fun b xs e=>tups b xs (I.base.tups b xs e),fun b o xs e=>frzs b o xs (I.base.frzs b o xs e),fun b ps e=>?_⟩,?_,fun x c e=>?_,?_,fun x c e=>?_,fun p hp=>?_,hok,I.len⟩
 ·exact keep b o (neL b o e) hb (neC b o e hx) (I.base.keep b o e n hb hx) (I.base.free b o e n hx)
 ·obtain⟨sl,e1⟩:=I.base.slot b o e n hb hx
  obtain⟨sl',e2⟩:=slot b _ (neL b o e) hb (neC b o e hx) e1 (I.base.free b o e n hx)
  exact⟨sl',e2⟩
 ·obtain⟨o',e1⟩:=I.base.there b o e hx
  exact free b o' (neC b o e hx) e1 (I.base.free b o e n hx)
 ·obtain⟨o',e1⟩:=I.base.there b o e hx
  exact there b o' (neC b o e hx) e1
 ·obtain⟨m1,e1⟩:=I.base.tbls b ps e
  obtain⟨m2,e2⟩:=tbls b _ e1
  exact⟨m1++m2,by rw[e2,Array.append_assoc]⟩
 ·obtain⟨m,hn,hl⟩:=I.loc
  refine⟨m,ns m hn,fun i x v e1 e2 e3=>?_⟩
  obtain⟨u,r,l⟩:=hl i x v e1 e2 e3
  refine⟨u,r,?_⟩
  rcases l with l |⟨k,c,e,z⟩
  ·exact .inl l
  ·exact .inr ⟨k,c,e,cellK x c e _ z⟩
 ·obtain⟨v,z⟩:=I.cell x c e
  exact⟨v,cellK x c e v z⟩
 ·obtain⟨m,⟨o,_,_,ho,_⟩,_⟩:=I.loc
  exact free _ o (fun z=>(hch _ z).2.1 rfl) ho I.free
 ·obtain⟨v,o,ho,hd⟩:=I.cell x c e
  exact free c o (fun z=>(hch c z).2.2.1 x c e rfl) ho (I.freeC x c e)
 ·obtain⟨e,n,ne,nf,d⟩:=I.pin p hp
  have nch:p.1∉ch:=fun z=>(hch p.1 z).2.2.2 p hp rfl
  exact⟨keep p.1 p.2 ne nf nch e n,free p.1 p.2 nch e n,ne,nf,d⟩
theorem Inv.un{t':Nat}(I:Inv X pins σ H s)(u:Un X.fs [] H H' s.heap h')(hok:HOk X.prog X.w H' h'):Inv X pins σ H' { s with heap:=h',toks:=t' }:=by
 obtain⟨m,⟨o,es,ep,ho,r⟩,_⟩:=id I.loc
 obtain⟨sl,hL⟩:=u.any ho I.free (by simp)
 exact I.step (g':=s.gens) (d':=s.drawn) (ch:=[]) (fun _ z=>nomatch z) (fun b o _ hb _ e n=>u.keep b o e n hb (by simp)) (fun b o _ hb _ e n=>u.slot b o e n hb (by simp)) (fun b o _ e n=>u.free b o e n (by simp)) (fun b o _ e=>u.there b o e (by simp)) u.tups u.frzs u.tbls (fun m' hm=>by
  obtain⟨o',es',ep',ho',r'⟩:=hm
  rw[ho]at ho';cases ho'
  exact⟨_,es',ep',hL,r'⟩) hok I.bare
theorem Inv.call{g':Array GenState}{t':Nat}{d':Drawn}{ch:List Addr}(I:Inv X pins σ H s)(u:Un (frs X.stack) ch H H' s.heap h')(hok:HOk X.prog X.w H' h')(hg:AllBare g')
  (hch:∀ b∈ch,(b∈X.ex\/X.s₀.heap.objs.size<=b)/\b≠X.env.locals/\(∀ x c,X.env.cells.lookup x=some c->c≠b)/\∀ p∈X.pn++pins,p.1≠b) :
  Inv X pins σ H' { s with heap:=h',gens:=g',drawn:=d',toks:=t' }:=by
 obtain⟨m,⟨o,es,ep,ho,r⟩,_⟩:=id I.loc
 obtain⟨sl,hL⟩:=u.any ho I.free fun z=>(hch _ z).2.1 rfl
 exact I.step (ch:=ch) hch (fun b o hL hb hc e n=>u.keep b o e n (fun z=>(List.mem_cons.mp (I.stkSub b z)).elim hL hb) hc) (fun b o _ _ hc e n=>u.any e n hc) (fun b o hc e n=>u.free b o e n hc) (fun b o hc e=>u.there b o e hc) u.tups u.frzs u.tbls (fun m' hm=>by
  obtain⟨o',es',ep',ho',r'⟩:=hm
  rw[ho]at ho';cases ho'
  exact⟨_,es',ep',hL,r'⟩) hok hg
theorem Inv.turned{t':Nat}{it:Addr}(I:Inv X pins σ H s)(k:∀ b o,b≠it->s.heap.get? b=some o->h'.get? b=some o)(hn:H it=none)(hL:it≠X.env.locals)
  (h1:it∈X.ex\/X.s₀.heap.objs.size<=it) (h2:∀ x c,X.env.cells.lookup x=some c->c≠it) (h3:∀ p∈X.pn++pins,p.1≠it):Inv X pins σ H { s with heap:=h',toks:=t' }:=by
 have nit:∀ b u,H b=some u->b≠it:=fun b u e z=>by rw[z,hn]at e;cases e
 refine I.step (g':=s.gens) (d':=s.drawn) (ch:=[it]) (fun b hb=>?_) (fun b o _ _ hc e _=>k b o (fun z=>hc (by simp[z])) e) (fun b o _ _ hc e _=>⟨o.slots,k b o (fun z=>hc (by simp[z])) e⟩) (fun _ _ _ _ n=>n)
  (fun b o hc e=>⟨o,k b o (fun z=>hc (by simp[z])) e⟩) (fun _ _ e=>e) (fun _ _ _ e=>e) (fun b ps e=>⟨#[],by rw[e];simp⟩) (fun m hm=>?_) (fun b u e=>?_) I.bare
 ·have e:b=it:=by simpa using hb
  subst e
  exact⟨h1,hL,h2,h3⟩
 ·obtain⟨o,es,ep,ho,r⟩:=hm
  exact⟨o,es,ep,k _ o (Ne.symm hL) ho,r⟩
 ·refine(I.hok b u e).stay (fun c v hc q=>k c v ?_ q) (fun _ q=>q) fun _ _ q=>q
  rcases hc with z | z
  ·rw[z];exact nit b u e
  ·exact nit c _ z
theorem Inv.tok(I:Inv X pins σ H s)(t:Nat):Inv X pins σ H { s with toks:=t }:=I.un (h':=s.heap) (t':=t) Un.refl I.hok
theorem Inv.kept{t':Nat}(I:Inv X pins σ H s)(k:∀ b u,s.heap.get? b=some u->h'.get? b=some u):Inv X pins σ H { s with heap:=h',toks:=t' }:=I.un (Un.kept k) (I.hok.kept k)
theorem Inv.laid{a:Addr}{o:HO}{t':Nat}(I:Inv X pins σ H s)(k:∀ b u,s.heap.get? b=some u->h'.get? b=some u)(hp:s.heap.objs.size<=a)(new:ObjOk X.prog X.w (upd H a o) h' a o) :
  Inv X pins σ (upd H a o) { s with heap:=h',toks:=t' }:=I.un (Un.laid k hp (I.hok.fresh hp)) (I.hok.laid k hp new)
theorem Inv.write{x e:Addr}{o:HO}{t':Nat}(I:Inv X pins σ H s)(mu:Mut (H x))(he:e=x\/H e=some (.own x))(k:∀ b u,b≠e->s.heap.get? b=some u->h'.get? b=some u)(heo:∃ u,h'.get? e=some u)
  (new:ObjOk X.prog X.w (upd H x o) h' x o):Inv X pins σ (upd H x o) { s with heap:=h',toks:=t' }:=I.un (Un.write mu he k heo) (I.hok.write mu he k heo new)
theorem Inv.weak{σ':List (Option V)}(I:Inv X pins σ H s)(hl:σ'.length=σ.length)(w:∀ (i:Nat) v,σ'[i]?=some (some v)->σ[i]?=some (some v)):Inv X pins σ' H s :=
 ⟨I.ok,I.os,I.bare,I.base,let ⟨m,hn,hl'⟩:=I.loc;⟨m,hn,fun i x v e1 e2 e3=>hl' i x v e1 (w i v e2) e3⟩,I.cell,I.free,I.freeC,I.pin,I.hok,hl.trans I.len⟩
theorem Inv.pins_of{pins':List (Addr×Obj)}(I:Inv X pins σ H s)(h:∀ p∈pins',s.heap.get? p.1=some p.2/\H p.1=none/\p.1≠X.env.locals/\p.1∉X.fs/\∀ v,p.2.data≠.cell v):Inv X pins' σ H s :=
 ⟨I.ok,I.os,I.bare,I.base,I.loc,I.cell,I.free,I.freeC,fun p hp=>(List.mem_append.mp hp).elim (fun z=>I.pin p (List.mem_append_left _ z)) (h p),I.hok,I.len⟩
theorem nodup_ix{N:List Str}(hN:N.Nodup){i j:Nat}{x:Str}(a:N[i]?=some x)(b:N[j]?=some x):i=j:=by
 obtain⟨h1,e1⟩:=List.getElem?_eq_some_iff.mp a
 obtain⟨h2,e2⟩:=List.getElem?_eq_some_iff.mp b
 exact(List.getElem_inj hN).mp (e1.trans e2.symm)
theorem store_ok2{M:Model}{A:Around}{E:Value->Shared->Prop}{i:Nat}{x:Str}{v:V}{u:Value}{Q:Unit->Shared->Prop}(I:Inv X pins σ H s)(hN:X.N.Nodup)(hi:X.N[i]?=some x)(hx:Loc X.env.scope x)(r:RelV v u)
  (h:∀ s',Inv X pins (σ.set i (some v)) H s'->(∃ a,Heap.SameBut a s.heap s'.heap/\(a=X.env.locals\/X.env.cells.lookup x=some a))->Q () s') (hf:X.fn x=true\/X.env.scope.names.lookup x=some .local:=by first | exact .inl rfl | exact .inr rfl | assumption):wpAny M A (storeName X.env x u) Q E s:=by
 obtain⟨m,hn,hl⟩:=id I.loc
 have hcls:(X.env.scope.kind == .class ||(X.env.scope.kind == .module && X.env.locals != X.env.globals))=false:=by rw[I.ok.kind];rfl
 have hiσ:i<σ.length:=by rw[I.len];exact(List.getElem?_eq_some_iff.mp hi).1
 have cne:=I.cne
 have tracked:∀ {a:Addr}{h':Heap},(∃ o,s.heap.get? a=some o/\H a=none)->Heap.SameBut a s.heap h'->HOk X.prog X.w H h':=fun {a h'} ha hs b ob e=>by
  obtain⟨_,_,hfree⟩:=ha
  refine(I.hok b ob e).stay (fun c w' hc q=>(hs.2 c ?_).trans q) (fun _ q=>q) fun _ _ q=>q
  rintro rfl
  rcases hc with rfl | hc
  ·rw[hfree]at e;cases e
  ·rw[hfree]at hc;cases hc
 rcases hx with hk | hk
 ·refine wpAny_storeName_local hk hn (fun h' hn' hs=>?_) hcls
  obtain⟨oL,_,_,hoL,_⟩:=id hn
  refine h _ ⟨I.ok,I.os,I.bare,⟨fun b o e n hb hx=>?_,fun b o e n hb hx=>?_,I.base.free,fun b o e hx=>?_,I.base.tups,I.base.frzs,I.base.tbls⟩,⟨_,hn',fun j y v' e1 e2 e3=>?_⟩,fun y c e=>?_,I.free,I.freeC,fun p hp=>?_,tracked ⟨oL,hoL,I.free⟩ hs,by simpa using I.len⟩ ⟨_,hs,.inl rfl⟩
  ·exact(hs.2 b (Nat.ne_of_lt (Nat.lt_of_lt_of_le (Heap.lt_size e) I.ok.above))).trans (I.base.keep b o e n hb hx)
  ·obtain⟨sl,e1⟩:=I.base.slot b o e n hb hx
   exact⟨sl,(hs.2 b (Nat.ne_of_lt (Nat.lt_of_lt_of_le (Heap.lt_size e) I.ok.above))).trans e1⟩
  ·obtain⟨o',e1⟩:=I.base.there b o e hx
   exact⟨o',(hs.2 b (Nat.ne_of_lt (Nat.lt_of_lt_of_le (Heap.lt_size e) I.ok.above))).trans e1⟩
  ·by_cases hj:j=i
   ·subst hj
    rw[hi]at e1;cases e1
    rw[List.getElem?_set_self hiσ]at e2
    cases e2
    exact⟨u,r,.inl ⟨hk,by simp⟩⟩
   ·rw[List.getElem?_set_ne (Ne.symm hj)]at e2
    obtain⟨u',r',q⟩:=hl j y v' e1 e2 e3
    refine⟨u',r',?_⟩
    rcases q with⟨k,e⟩ |⟨k,c,e,z⟩
    ·refine .inl ⟨k,?_⟩
     have:y≠x:=fun e=>hj (nodup_ix hN e1 (e▸hi))
     simp[this,e]
    ·exact .inr ⟨k,c,e,z.sameBut hs (cne y c e)⟩
  ·obtain⟨w',z⟩:=I.cell y c e
   exact⟨w',z.sameBut hs (cne y c e)⟩
  ·obtain⟨e,n,ne,nf,d⟩:=I.pin p hp
   exact⟨(hs.2 p.1 ne).trans e,n,ne,nf,d⟩
 ·have hfn:X.fn x=true:=by
   rcases hf with z | z
   ·exact z
   ·rw[z]at hk;cases hk
  obtain⟨c,hc⟩:=I.ok.has x (.inl hk)
  obtain⟨w',z⟩:=I.cell x c hc
  refine wpAny_storeName_cell I.ok.kind hk hc z (fun h' hc' hs=>?_)
  obtain⟨oc,hoc,hocd⟩:=id z
  refine h { s with heap:=h' } ⟨I.ok,I.os,I.bare,⟨fun b o e n hb hx=>?_,fun b o e n hb hx=>?_,I.base.free,fun b o e hx=>?_,I.base.tups,I.base.frzs,I.base.tbls⟩,⟨m,hn.sameBut hs (Ne.symm (cne x c hc)),fun j y v' e1 e2 e3=>?_⟩,fun y c' e=>?_,I.free,I.freeC,fun p hp=>?_,tracked ⟨oc,hoc,I.freeC x c hc⟩ hs,by simpa using I.len⟩ ⟨c,hs,.inr hc⟩
  ·exact(hs.2 b (Nat.ne_of_lt (Nat.lt_of_lt_of_le (Heap.lt_size e) (I.ok.cab x c hfn hc)))).trans (I.base.keep b o e n hb hx)
  ·obtain⟨sl,e1⟩:=I.base.slot b o e n hb hx
   exact⟨sl,(hs.2 b (Nat.ne_of_lt (Nat.lt_of_lt_of_le (Heap.lt_size e) (I.ok.cab x c hfn hc)))).trans e1⟩
  ·obtain⟨o',e1⟩:=I.base.there b o e hx
   exact⟨o',(hs.2 b (Nat.ne_of_lt (Nat.lt_of_lt_of_le (Heap.lt_size e) (I.ok.cab x c hfn hc)))).trans e1⟩
  ·by_cases hj:j=i
   ·subst hj
    rw[hi]at e1;cases e1
    rw[List.getElem?_set_self hiσ]at e2
    cases e2
    exact⟨u,r,.inr ⟨.inl hk,c,hc,hc'⟩⟩
   ·rw[List.getElem?_set_ne (Ne.symm hj)]at e2
    obtain⟨u',r',q⟩:=hl j y v' e1 e2 e3
    refine⟨u',r',?_⟩
    rcases q with q |⟨k,c',e,z'⟩
    ·exact .inl q
    ·refine .inr ⟨k,c',e,z'.sameBut hs ?_⟩
     rintro rfl
     exact hj (nodup_ix hN e1 (I.ok.inj _ _ _ e hc▸hi))
  ·by_cases hcc:c'=c
   ·subst hcc;exact⟨_,hc'⟩
   ·obtain⟨w2,z2⟩:=I.cell y c' e
    exact⟨w2,z2.sameBut hs hcc⟩
  ·obtain⟨e,n,ne,nf,d⟩:=I.pin p hp
   refine⟨(hs.2 p.1 ?_).trans e,n,ne,nf,d⟩
   intro q
   rw[q,hoc]at e
   have q':oc=p.2:=Option.some.inj e
   exact d w' (by rw[<- q'];exact hocd)
theorem store_ok{M:Model}{A:Around}{E:Value->Shared->Prop}{i:Nat}{x:Str}{v:V}{u:Value}{Q:Unit->Shared->Prop}(I:Inv X pins σ H s)(hN:X.N.Nodup)(hi:X.N[i]?=some x)(hx:Loc X.env.scope x)(r:RelV v u)
  (h:∀ s',Inv X pins (σ.set i (some v)) H s'->Q () s') (hf:X.fn x=true\/X.env.scope.names.lookup x=some .local:=by first | exact .inl rfl | exact .inr rfl | assumption):wpAny M A (storeName X.env x u) Q E s :=
 store_ok2 I hN hi hx r (fun s' I' _=>h s' I') hf
theorem Inv.call'{s':Shared}{ch:List Addr}(I:Inv X pins σ H s)(ho:s'.os=s.os)(u:Un (frs X.stack) ch H H' s.heap s'.heap)(hok:HOk X.prog X.w H' s'.heap)(hg:AllBare s'.gens)
  (hch:∀ b∈ch,(b∈X.ex\/X.s₀.heap.objs.size<=b)/\b≠X.env.locals/\(∀ x c,X.env.cells.lookup x=some c->c≠b)/\∀ p∈X.pn++pins,p.1≠b):Inv X pins σ H' s':=by
 obtain⟨h',g',d',t',o'⟩:=s'
 have e:o'=s.os:=ho
 subst e
 exact I.call (g':=g') (t':=t') (d':=d') u hok hg hch
end
noncomputable abbrev XK:=Value->Option Addr->Hp->Prop
noncomputable abbrev St:=List (Option V)
noncomputable abbrev VK:=V->Hp->Prop
noncomputable abbrev TE:=St->Hp->VK->Prop
noncomputable abbrev TT:=St->Hp->(Bool->Hp->Prop)->Prop
noncomputable abbrev TA:=St->Hp->(List V->Hp->Prop)->Prop
structure Ends where
 nx:St->Hp->Prop
 rt:VK
 bk:St->Hp->Prop:=fun _ _=>False
 ct:St->Hp->Prop:=fun _ _=>False
noncomputable abbrev TS:=Ends->St->Hp->Prop
noncomputable def EP(X:Cx)(pins:List (Addr×Obj))(σ:St)(Q:VK)(u:Value)(s':Shared):Prop:=∃ v H',Inv X pins σ H' s'/\RelV v u/\Q v H'
noncomputable def TP(X:Cx)(pins:List (Addr×Obj))(σ:St)(Q:Bool->Hp->Prop)(b:Bool)(s':Shared):Prop:=∃ H',Inv X pins σ H' s'/\Q b H'
noncomputable def AP(X:Cx)(pins:List (Addr×Obj))(σ:St)(Q:List V->Hp->Prop)(us:List Value)(s':Shared):Prop:=∃ vs H',Inv X pins σ H' s'/\Vals vs us/\Q vs H'
noncomputable def SP(X:Cx)(pins:List (Addr×Obj))(D:Ends)(f:Flow)(s':Shared):Prop :=
 match f with
 | .next=>∃ σ' H',Inv X pins σ' H' s'/\D.nx σ' H'
 | .brk=>∃ σ' H',Inv X pins σ' H' s'/\D.bk σ' H'
 | .cont=>∃ σ' H',Inv X pins σ' H' s'/\D.ct σ' H'
 | .ret u=>∃ v σ' H',Inv X pins σ' H' s'/\RelV v u/\D.rt v H'
noncomputable def PE(X:Cx)(e:Expr)(t:TE):Prop :=
 ∀ (pins:List (Addr×Obj)) (s:Shared) (σ:St) (H:Hp) (Q:VK),Inv X pins σ H s->t σ H Q->wpAny (model X.prog X.w) X.A (eval e X.env) (EP X pins σ Q) X.xe s
noncomputable def PT(X:Cx)(e:Expr)(t:TT):Prop :=
 ∀ (pins:List (Addr×Obj)) (s:Shared) (σ:St) (H:Hp) (Q:Bool->Hp->Prop),Inv X pins σ H s->t σ H Q->wpAny (model X.prog X.w) X.A (isTrue e X.env (eval e X.env)) (TP X pins σ Q) X.xe s
noncomputable def PW(X:Cx)(e:Expr)(t:TT):Prop :=
 ∀ (whole:Sem Value) (pins:List (Addr×Obj)) (s:Shared) (σ:St) (H:Hp) (Q:Bool->Hp->Prop),Inv X pins σ H s->t σ H Q->wpAny (model X.prog X.w) X.A (isTrue e X.env whole) (TP X pins σ Q) X.xe s
theorem PW.pt{X:Cx}{e:Expr}{t:TT}(h:PW X e t):PT X e t:=h _
noncomputable def PA(X:Cx)(es:List Expr)(t:TA):Prop :=
 ∀ (pos:Pos) (pins:List (Addr×Obj)) (s:Shared) (σ:St) (H:Hp) (Q:List V->Hp->Prop),Inv X pins σ H s->t σ H Q->wpAny (model X.prog X.w) X.A (spliced (backTo pos (starEach es X.env))) (AP X pins σ Q) X.xe s
noncomputable def PS(X:Cx)(st:Stmt)(t:TS):Prop :=
 ∀ (pins:List (Addr×Obj)) (s:Shared) (σ:St) (H:Hp) (D:Ends),Inv X pins σ H s->t D σ H->wpAny (model X.prog X.w) X.A (exec st X.env) (SP X pins D) X.xe s
noncomputable def PSs(X:Cx)(st:List Stmt)(t:TS):Prop :=
 ∀ (pins:List (Addr×Obj)) (s:Shared) (σ:St) (H:Hp) (D:Ends),Inv X pins σ H s->t D σ H->wpAny (model X.prog X.w) X.A (execs st X.env) (SP X pins D) X.xe s
theorem thn{α:Type}{t:Sem α}{Q Q':α->Shared->Prop}{M:Model}{A:Around}{E:Value->Shared->Prop}{s:Shared}(h:wpAny M A t Q E s)(hQ:∀ a s,Q a s->Q' a s):wpAny M A t Q' E s:=wpAny_mono h hQ fun _ _ x=>x
open PySem PySem.Spec PyProof.Rows
section
variable{X:Cx}
noncomputable def tVar(i:Nat):TE:=fun σ H Q=>∃ v,σ[i]?=some (some v)/\Q v H
noncomputable def tC(v:V):TE:=fun _ H Q=>Q v H
theorem pe_var{i:Nat}{x:Str}{pos:Pos}(hN:X.N[i]?=some x)(hv:Vis X.env.scope x)(hd:(x ==("__debug__":Str))=false:=by decide)(hcd:(x ==("__classdict__":Str))=false:=by decide):PE X (.Name x pos) (tVar i):=by
 intro pins s σ H Q I h
 obtain⟨v,e,h⟩:=h
 obtain⟨m,hn,hl⟩:=I.loc
 obtain⟨u,r,l⟩:=hl i x v hN e hv
 have fin:EP X pins σ Q u s:=⟨v,H,I,r,h⟩
 rcases l with⟨hk,hm⟩ |⟨hk,c,hc,hcell⟩
 ·exact wpAny_Name (wpAny_loadName_local I.ok.kind hk hn hm fin) hd
 ·rcases hk with hk | hk
  ·exact wpAny_Name (wpAny_loadName_cell I.ok.kind hk hc hcell fin) hd
  ·exact wpAny_Name (wpAny_loadName_free I.ok.kind hk hc hcell fin hcd) hd
theorem pe_int{i j pos}:PE X (.Constant (.int i) j pos) (tC (.int i)):=fun _ _ _ H _ I h=>wpAny_Constant_int ⟨.int i,H,I.tok _,⟨_,rfl⟩,h⟩
theorem pe_bl{b j pos}:PE X (.Constant (.bool b) j pos) (tC (.bl b)):=fun _ _ _ H _ I h=>Constant_bool ⟨.bl b,H,I,rfl,h⟩
theorem pe_non{j pos}:PE X (.Constant .none j pos) (tC .non):=fun _ _ _ H _ I h=>Constant_none ⟨.non,H,I,rfl,h⟩
theorem pe_str{x j pos}:PE X (.Constant (.str x) j pos) (tC (.str x)):=fun _ _ _ H _ I h=>Calls.Constant_str ⟨.str x,H,I.tok _,⟨_,rfl⟩,h⟩
noncomputable def Gl(X:Cx)(x:Str):Prop:=X.env.kindOf x=some .globalImplicit
theorem ld_glob{E:Value->Shared->Prop}{pins:List (Addr×Obj)}{s:Shared}{σ:St}{H:Hp}{x:Str}{u:Value}{pos:Pos}{Q:Value->Shared->Prop}(I:Inv X pins σ H s)(hg:Gl X x)(hm:X.mg x=some u)(h:Q u s)
  (hd:(x ==("__debug__":Str))=false:=by decide):wpAny (model X.prog X.w) X.A (eval (.Name x pos) X.env) Q E s :=
 Calls.Name_function_global I.ok.kind hg (Calls.loadGlobal_global (by rw[I.ok.glob];exact I.mod.glob.keeps I.bk) hm h) hd
theorem ld_blt{E:Value->Shared->Prop}{pins:List (Addr×Obj)}{s:Shared}{σ:St}{H:Hp}{x:Str}{u:Value}{pos:Pos}{Q:Value->Shared->Prop}(I:Inv X pins σ H s)(hg:Gl X x)(hm:X.mg x=none)(hv:bootBuiltins x=some u)(h:Q u s)
  (hn:x≠"__name__":=by decide) (hd:(x ==("__debug__":Str))=false:=by decide):wpAny (model X.prog X.w) X.A (eval (.Name x pos) X.env) Q E s:=by
 obtain⟨mb,h1,h2⟩:=I.mod.blt
 exact Calls.Name_function_global I.ok.kind hg (Calls.loadGlobal_builtin (by rw[I.ok.glob];exact I.mod.glob.keeps I.bk) hm (by rw[I.ok.blt];exact h1.keeps I.bk) ((h2 x hn).trans hv) h) hd
theorem pe_bltn{x:Str}{v:V}{u:Value}{pos:Pos}(hg:Gl X x)(hm:X.mg x=none)(hv:bootBuiltins x=some u)(r:RelV v u)(hn:x≠"__name__":=by decide)(hd:(x ==("__debug__":Str))=false:=by decide):PE X (.Name x pos) (tC v) :=
 fun _ _ _ H _ I h=>ld_blt I hg hm hv ⟨v,H,I,r,h⟩ hn hd
variable{a b:Expr}{ta tb:TE}{pos:Pos}
noncomputable def PC(X:Cx)(op:CmpOp)(a b:Expr)(t:TE):Prop :=
 ∀ (pins:List (Addr×Obj)) (s:Shared) (σ:St) (H:Hp) (Q:VK),Inv X pins σ H s->t σ H Q ->
  wpAny (model X.prog X.w) X.A (eval a X.env) (fun v s₁=>wpAny (model X.prog X.w) X.A (eval b X.env) (fun u s₂=>wpAny (model X.prog X.w) X.A (compareOp op v u) (EP X pins σ Q) X.xe s₂) X.xe s₁) X.xe s
theorem nobehind(b:Expr){op:CmpOp}(h:op≠.In)(h2:op≠.NotIn):behindInMarks op b=false:=by
 have e1:(op == CmpOp.In)=false:=by cases op <;> first | rfl | exact absurd rfl h
 have e2:(op == CmpOp.NotIn)=false:=by cases op <;> first | rfl | exact absurd rfl h2
 cases b <;> simp[behindInMarks,e1,e2]
noncomputable def tIsN(ta:TE):TE:=fun σ H Q=>ta σ H fun x H1=>Q (.bl (decide (x = .non))) H1
noncomputable def tNotN(ta:TE):TE:=fun σ H Q=>ta σ H fun x H1=>Q (.bl (!decide (x = .non))) H1
theorem RelV.none_iff{x:V}{v:Value}(r:RelV x v):(v == Value.none)=decide (x = .non):=by
 cases x with
 |non=>cases r;rfl
 |bl _=>cases r;rfl
 |int _=>obtain⟨t,rfl⟩:=r;rfl
 |str _=>obtain⟨t,rfl⟩:=r;rfl
 |byt _=>obtain⟨t,rfl⟩:=r;rfl
 |flt _=>obtain⟨t,rfl⟩:=r;rfl
 |ref _=>cases r;rfl
 |ty _=>cases r;rfl
theorem pc_isN{j pos'}(ha:PE X a ta):PC X .Is a (.Constant .none j pos') (tIsN ta):=by
 intro pins s σ H Q I h
 refine thn (ha pins s σ H _ I h) fun v s1 ⟨x,H1,I1,r1,q1⟩=>?_
 exact Constant_none (is_none_gen ⟨.bl _,H1,I1,by rw[r1.none_iff];rfl,q1⟩)
theorem pc_notN{j pos'}(ha:PE X a ta):PC X .IsNot a (.Constant .none j pos') (tNotN ta):=by
 intro pins s σ H Q I h
 refine thn (ha pins s σ H _ I h) fun v s1 ⟨x,H1,I1,r1,q1⟩=>?_
 exact Constant_none (isnot_none_gen ⟨.bl _,H1,I1,by rw[r1.none_iff];rfl,q1⟩)
noncomputable def tB(t:TE):TT:=fun σ H Q=>t σ H fun x H1=>∃ c,x = .bl c/\Q c H1
theorem pt_cmp{op:CmpOp}{t:TE}(h:PC X op a b t)(h1:behindInMarks op b=false:=by first | exact nobehind _ (by decide) (by decide) | rfl):PT X (.Compare a [op] [b] pos) (tB t):=by
 intro pins s σ H Q I hw
 refine wpAny_isTrue_Compare1 (thn (h pins s σ H _ I hw) fun v s1 h1=>thn h1 fun u s2 h2=>thn h2 fun c s3 ⟨x,H1,I1,r1,q1⟩=>?_) h1
 obtain⟨d,rfl,q⟩:=q1
 cases r1
 exact wpAny_truthy_bool ⟨H1,I1,q⟩
theorem pt_val{e:Expr}{t:TE}(h:PE X e t)(he:∀ whole,isTrue e X.env whole=(do let v <- whole;standAt e.pos;holding [v] (truthy v)):=by intro _;rfl):PT X e (tB t):=by
 intro pins s σ H Q I hw
 refine isTrue_plain (thn (h pins s σ H _ I hw) fun v s1 ⟨x,H1,I1,r1,q1⟩=>?_) (he _)
 obtain⟨d,rfl,q⟩:=q1
 cases r1
 exact wpAny_truthy_bool ⟨H1,I1,q⟩
variable{tA tB':TT}{rest:List Expr}
noncomputable def tAnd(t u:TT):TT:=fun σ H Q=>t σ H fun c H1=>if c=true then u σ H1 Q else Q false H1
noncomputable def tOr(t u:TT):TT:=fun σ H Q=>t σ H fun c H1=>if c=true then Q true H1 else u σ H1 Q
noncomputable def tNot(t:TT):TT:=fun σ H Q=>t σ H fun c H1=>Q (!c) H1
theorem pw_and1(ha:PT X a tA):PW X (.BoolOp .And [a] pos) tA:=by
 intro wh pins s σ H Q I h
 refine isTrue_and (thn (ha pins s σ H Q I h) fun c s1 e=>?_)
 cases c with
 |true=>exact isTrue_and_nil e
 |false=>exact e
theorem pw_or1(ha:PT X a tA):PW X (.BoolOp .Or [a] pos) tA:=by
 intro wh pins s σ H Q I h
 refine isTrue_or (thn (ha pins s σ H Q I h) fun c s1 e=>?_)
 cases c with
 |false=>exact isTrue_or_nil e
 |true=>exact e
theorem pw_and(ha:PT X a tA)(hb:PW X (.BoolOp .And (b :: rest) pos) tB'):PW X (.BoolOp .And (a :: b :: rest) pos) (tAnd tA tB'):=by
 intro wh pins s σ H Q I h
 refine isTrue_and (thn (ha pins s σ H _ I h) fun c s1 ⟨H1,I1,q1⟩=>?_)
 cases c with
 |true=>exact hb wh pins s1 σ H1 Q I1 q1
 |false=>exact⟨H1,I1,q1⟩
theorem pw_or(ha:PT X a tA)(hb:PW X (.BoolOp .Or (b :: rest) pos) tB'):PW X (.BoolOp .Or (a :: b :: rest) pos) (tOr tA tB'):=by
 intro wh pins s σ H Q I h
 refine isTrue_or (thn (ha pins s σ H _ I h) fun c s1 ⟨H1,I1,q1⟩=>?_)
 cases c with
 |true=>exact⟨H1,I1,q1⟩
 |false=>exact hb wh pins s1 σ H1 Q I1 q1
theorem pt_not(ha:PT X a tA):PT X (.UnaryOp .Not a pos) (tNot tA):=by
 intro pins s σ H Q I h
 exact isTrue_not (ha pins s σ H (fun c H1=>Q (!c) H1) I h)
noncomputable def tAndV(ta tb:TE):TE:=fun σ H Q=>ta σ H fun x H1=>∃ c,x = .bl c/\if c=true then tb σ H1 Q else Q (.bl false) H1
noncomputable def tOrV(ta tb:TE):TE:=fun σ H Q=>ta σ H fun x H1=>∃ c,x = .bl c/\if c=true then Q (.bl true) H1 else tb σ H1 Q
noncomputable def tNotV(ta:TE):TE:=fun σ H Q=>ta σ H fun x H1=>∃ c,x = .bl c/\Q (.bl (!c)) H1
theorem pe_one{op}{t:TE}(h:PE X a t):PE X (.BoolOp op [a] pos) t:=fun pins s σ H Q I hw=>BoolOp_one (h pins s σ H Q I hw)
theorem pe_and(ha:PE X a ta)(hb:PE X (.BoolOp .And (b :: rest) pos) tb):PE X (.BoolOp .And (a :: b :: rest) pos) (tAndV ta tb):=by
 intro pins s σ H Q I h
 refine BoolOp_and (thn (ha pins s σ H _ I h) fun v s1 ⟨x,H1,I1,r1,q1⟩=>?_)
 obtain⟨c,rfl,q1⟩:=q1
 cases r1
 refine wpAny_truthy_bool ?_
 cases c with
 |true=>exact hb pins s1 σ H1 Q I1 q1
 |false=>exact⟨.bl false,H1,I1,rfl,q1⟩
theorem pe_or(ha:PE X a ta)(hb:PE X (.BoolOp .Or (b :: rest) pos) tb):PE X (.BoolOp .Or (a :: b :: rest) pos) (tOrV ta tb):=by
 intro pins s σ H Q I h
 refine BoolOp_or (thn (ha pins s σ H _ I h) fun v s1 ⟨x,H1,I1,r1,q1⟩=>?_)
 obtain⟨c,rfl,q1⟩:=q1
 cases r1
 refine wpAny_truthy_bool ?_
 cases c with
 |false=>exact hb pins s1 σ H1 Q I1 q1
 |true=>exact⟨.bl true,H1,I1,rfl,q1⟩
theorem pe_not(ha:PE X a ta):PE X (.UnaryOp .Not a pos) (tNotV ta):=by
 intro pins s σ H Q I h
 refine UnaryOp_ (thn (ha pins s σ H _ I h) fun v s1 ⟨x,H1,I1,r1,q1⟩=>?_)
 obtain⟨c,rfl,q1⟩:=q1
 cases r1
 exact not_of (wpAny_truthy_bool ⟨.bl (!c),H1,I1,rfl,q1⟩)
end
open PySem PySem.Spec PyProof.Rows
noncomputable def SqL(K:PySem.W.Frag)(H:Hp)(a:Addr)(xs:List V):Prop :=
 Rd H a (.lst xs) \/
  ∃ (o:Obj) (its:Array Value) (n:Nat),K.lookup a=some o/\o.cls = .type "list"/\o.dict=none/\o.data = .seq its n/\its.size<=sizeLine/\Vals xs its.toList
noncomputable def SqT(K:PySem.W.Frag)(H:Hp)(a:Addr)(xs:List V):Prop :=
 Rd H a (.tup xs) \/
  ∃ (o:Obj) (its:Array Value) (n:Nat),K.lookup a=some o/\o.cls = .type "tuple"/\o.data = .seq its n/\its.size<=sizeLine/\Vals xs its.toList
noncomputable def absV:Value->Option V
 | .none=>some .non
 | .bool b=>some (.bl b)
 | .int i _=>some (.int i)
 | .str x _=>some (.str x)
 | .bytes b _=>some (.byt b)
 | .float b _=>some (.flt b)
 | .ref a=>some (.ref a)
 | .type n=>some (.ty n)
 | _=>none
theorem RelV.abs{x:V}{u:Value}(r:RelV x u):absV u=some x:=by
 cases x with
 |non=>cases r;rfl
 |bl _=>cases r;rfl
 |int _=>obtain⟨t,rfl⟩:=r;rfl
 |str _=>obtain⟨t,rfl⟩:=r;rfl
 |byt _=>obtain⟨t,rfl⟩:=r;rfl
 |flt _=>obtain⟨t,rfl⟩:=r;rfl
 |ref _=>cases r;rfl
 |ty _=>cases r;rfl
theorem RelV.inj{x y:V}{u:Value}(r:RelV x u)(q:RelV y u):x=y:=Option.some.inj (r.abs.symm.trans q.abs)
theorem Vals.inj:∀ {xs ys:List V}{us:List Value},Vals xs us->Vals ys us->xs=ys:=by
 intro xs ys us h
 induction h generalizing ys with
 |nil=>intro h';cases h';rfl
 |cons r t ih =>
  intro h'
  cases h' with
  |cons r' t'=>rw[r.inj r',ih t']
section
variable{X:Cx}{pins:List (Addr×Obj)}{σ:St}{H:Hp}{s:Shared}{a:Addr}{xs ys:List V}
theorem SqL.of{K:PySem.W.Frag}(h:H a=some (.lst xs)):SqL K H a xs:=.inl (.inl h)
theorem SqT.of{K:PySem.W.Frag}(h:H a=some (.tup xs)):SqT K H a xs:=.inl (.inl h)
theorem Inv.list(I:Inv X pins σ H s)(h:SqL X.K H a xs):∃ its:List Value,Vals xs its/\PlainL s.heap a its.toArray/\xs.length<=sizeLine:=by
 rcases h with h |⟨o,its,n,hk,hc,hd,hs,hz,r⟩
 ·obtain⟨z,its,n,r,e⟩:=h.ok I.hok
  exact⟨its,r,⟨_,n,e,rfl,rfl,rfl⟩,z⟩
 ·refine⟨its.toList,r,⟨o,n,I.kIn a o hk,hc,hd,by simpa using hs⟩,?_⟩
  have e:=r.length
  simp only[Array.length_toList]at e
  lia
theorem Inv.tuple(I:Inv X pins σ H s)(h:SqT X.K H a xs):∃ its:List Value,Vals xs its/\IsTup s.heap a its.toArray/\xs.length<=sizeLine:=by
 rcases h with h |⟨o,its,n,hk,hc,hs,hz,r⟩
 ·obtain⟨z,its,r,p⟩:=h.ok I.hok
  exact⟨its,r,p,z⟩
 ·refine⟨its.toList,r,⟨o,I.kIn a o hk,hc,n,by simpa using hs⟩,?_⟩
  have e:=r.length
  simp only[Array.length_toList]at e
  lia
theorem Inv.list_inj(I:Inv X pins σ H s)(h:SqL X.K H a xs)(h':SqL X.K H a ys):xs=ys:=by
 obtain⟨its,r,⟨o,n,e,_,_,d⟩,_⟩:=I.list h
 obtain⟨its',r',⟨o',n',e',_,_,d'⟩,_⟩:=I.list h'
 rw[e]at e';cases e'
 rw[d]at d'
 injection d' with d1 _
 have:its=its':=by simpa using congrArg Array.toList d1
 subst this
 exact r.inj r'
theorem Inv.tuple_inj(I:Inv X pins σ H s)(h:SqT X.K H a xs)(h':SqT X.K H a ys):xs=ys:=by
 obtain⟨its,r,⟨o,e,_,n,d⟩,_⟩:=I.tuple h
 obtain⟨its',r',⟨o',e',_,n',d'⟩,_⟩:=I.tuple h'
 rw[e]at e';cases e'
 rw[d]at d'
 injection d' with d1 _
 have:its=its':=by simpa using congrArg Array.toList d1
 subst this
 exact r.inj r'
end
noncomputable abbrev Cx.wish(X:Cx)(E:Value->Shared->Prop):Cx:={ X with xe:=E }
noncomputable abbrev Cx.nox(X:Cx):Cx:=X.wish fun _ _=>False
theorem Cx.Ok.wish{X:Cx}(ok:X.Ok)(E:Value->Shared->Prop):(X.wish E).Ok :=
 ⟨ok.mod,ok.kind,ok.glob,ok.blt,ok.above,ok.inj,ok.has,ok.cab,ok.hd,ok.frames,ok.stk,ok.exf,ok.bs,ok.bsz,ok.noex,ok.exfs,ok.funs,ok.frf⟩
theorem Cx.Ok.unwish{X:Cx}{E:Value->Shared->Prop}(ok:(X.wish E).Ok):X.Ok :=
 ⟨ok.mod,ok.kind,ok.glob,ok.blt,ok.above,ok.inj,ok.has,ok.cab,ok.hd,ok.frames,ok.stk,ok.exf,ok.bs,ok.bsz,ok.noex,ok.exfs,ok.funs,ok.frf⟩
section
variable{X:Cx}{pins:List (Addr×Obj)}{σ:St}{H:Hp}{s:Shared}{E:Value->Shared->Prop}
theorem Inv.wish(I:Inv X pins σ H s)(E:Value->Shared->Prop):Inv (X.wish E) pins σ H s:=⟨I.ok.wish E,I.os,I.bare,I.base,I.loc,I.cell,I.free,I.freeC,I.pin,I.hok,I.len⟩
theorem Inv.unwish(I:Inv (X.wish E) pins σ H s):Inv X pins σ H s:=⟨I.ok.unwish,I.os,I.bare,I.base,I.loc,I.cell,I.free,I.freeC,I.pin,I.hok,I.len⟩
theorem SP.unwish{D:Ends}{f:Flow}{s':Shared}(h:SP (X.wish E) pins D f s'):SP X pins D f s':=by
 cases f with
 |next=>obtain⟨σ',H',I,q⟩:=h;exact⟨σ',H',I.unwish,q⟩
 |brk=>obtain⟨σ',H',I,q⟩:=h;exact⟨σ',H',I.unwish,q⟩
 |cont=>obtain⟨σ',H',I,q⟩:=h;exact⟨σ',H',I.unwish,q⟩
 |ret u=>obtain⟨v,σ',H',I,r,q⟩:=h;exact⟨v,σ',H',I.unwish,r,q⟩
theorem PSs.nox{st:List Stmt}{t:TS}(h:PSs X.nox st t):PSs X st t:=fun pins s σ H D I hw =>
 wpAny_mono (h pins s σ H D (I.wish _) hw) (fun _ _ q=>q.unwish) fun _ _ z=>False.elim z
end
section
variable{X:Cx}{st:Stmt}{rest:List Stmt}{t u:TS}{e:Expr}{te:TE}{pos:Pos}
noncomputable def tNext:TS:=fun D σ H=>D.nx σ H
noncomputable def tSeq(t u:TS):TS:=fun D σ H=>t { D with nx:=u D } σ H
theorem pss_nil:PSs X [] tNext:=fun _ _ σ H _ I h=>wpAny_execs_nil ⟨σ,H,I,h⟩
theorem pss_cons(h1:PS X st t)(h2:PSs X rest u):PSs X (st :: rest) (tSeq t u):=by
 intro pins s σ H D I h
 refine wpAny_execs_cons (thn (h1 pins s σ H { D with nx:=u D } I h) fun f s1 q=>?_)
 cases f with
 |next =>
  obtain⟨σ',H',I',q⟩:=q
  exact h2 pins s1 σ' H' D I' q
 |ret v=>exact q
 |brk=>exact q
 |cont=>exact q
theorem pss_one(h1:PS X st t):PSs X [st] t:=by
 intro pins s σ H D I h
 refine wpAny_execs_cons (thn (h1 pins s σ H D I h) fun f s1 q=>?_)
 cases f with
 |next=>exact wpAny_execs_nil q
 |ret v=>exact q
 |brk=>exact q
 |cont=>exact q
theorem Inv.quiet{pins:List (Addr×Obj)}{σ:St}{H:Hp}{s:Shared}(I:Inv X pins σ H s):interactive X.env=false:=by simp[interactive,I.ok.kind]
noncomputable def tDrop(te:TE):TS:=fun D σ H=>te σ H fun _ H1=>D.nx σ H1
theorem ps_expr(he:PE X e te)(hs:swapsWith e none pos.line X.env=pure false:=by rfl):PS X (.Expr e pos) (tDrop te):=by
 intro pins s σ H D I h
 exact wpAny_Expr_any (thn (he pins s σ H _ I h) fun v s1 ⟨x,H1,I1,r1,q1⟩=>⟨σ,H1,I1,q1⟩) I.quiet hs
noncomputable def tRet(te:TE):TS:=fun D σ H=>te σ H D.rt
theorem ps_ret(he:PE X e te):PS X (.Return (some e) pos) (tRet te):=by
 intro pins s σ H D I h
 exact wpAny_Return_some (thn (he pins s σ H _ I h) fun v s1 ⟨x,H1,I1,r1,q1⟩=>⟨x,σ,H1,I1,r1,q1⟩)
noncomputable def tIfS(c:TT)(t u:TS):TS:=fun D σ H=>c σ H fun b H1=>if b=true then t D σ H1 else u D σ H1
theorem ps_if{c:Expr}{a b:List Stmt}{tc:TT}(hc:PT X c tc)(ha:PSs X a t)(hb:PSs X b u):PS X (.If c a b pos) (tIfS tc t u):=by
 intro pins s σ H D I h
 refine wpAny_If (thn (hc pins s σ H _ I h) fun d s1 ⟨H1,I1,q1⟩=>?_)
 cases d with
 |true=>exact ha pins s1 σ H1 D I1 q1
 |false=>exact hb pins s1 σ H1 D I1 q1
noncomputable def tNever:TS:=fun _ _ _=>False
theorem ps_never:PS X st tNever:=fun _ _ _ _ _ _ h=>h.elim
theorem pss_never{sts:List Stmt}:PSs X sts tNever:=fun _ _ _ _ _ _ h=>h.elim
end
noncomputable abbrev TG:=V->St->Hp->(St->Hp->Prop)->Prop
noncomputable abbrev TGs:=List V->St->Hp->(St->Hp->Prop)->Prop
noncomputable def PG(X:Cx)(target:Expr)(t:TG):Prop :=
 ∀ (pins:List (Addr×Obj)) (s:Shared) (σ:St) (H:Hp) (v:V) (u:Value) (Q:St->Hp->Prop),Inv X pins σ H s->RelV v u->t v σ H Q ->
  wpAny (model X.prog X.w) X.A (assign target X.env u) (fun _ s'=>∃ σ' H',Inv X pins σ' H' s'/\Q σ' H') X.xe s
noncomputable def PGs(X:Cx)(ts:List Expr)(t:TGs):Prop :=
 ∀ (pins:List (Addr×Obj)) (s:Shared) (σ:St) (H:Hp) (vs:List V) (us:List Value) (Q:St->Hp->Prop),Inv X pins σ H s->Vals vs us->t vs σ H Q ->
  wpAny (model X.prog X.w) X.A (assignInOrder ((assignEach ts X.env).map (·.2)) us) (fun _ s'=>∃ σ' H',Inv X pins σ' H' s'/\Q σ' H') X.xe s
noncomputable abbrev TSet:=V->V->V->Hp->(Hp->Prop)->Prop
noncomputable def PSet(X:Cx)(t:TSet):Prop :=
 ∀ (pins:List (Addr×Obj)) (s:Shared) (σ:St) (H:Hp) (o i v:V) (ov iv u:Value) (Q:Hp->Prop),Inv X pins σ H s->RelV o ov->RelV i iv->RelV v u->t o i v H Q ->
  wpAny (model X.prog X.w) X.A (setItem ov iv u) (fun _ s'=>∃ H',Inv X pins σ H' s'/\Q H') X.xe s
section
variable{X:Cx}{pos:Pos}
noncomputable def gName(i:Nat):TG:=fun v σ H Q=>Q (σ.set i (some v)) H
theorem pg_name{i:Nat}{x:Str}(hN:X.N.Nodup)(hi:X.N[i]?=some x)(hx:Loc X.env.scope x)(hf:X.fn x=true\/X.env.scope.names.lookup x=some .local:=by first | exact .inl rfl | exact .inr rfl | assumption):PG X (.Name x pos) (gName i):=by
 intro pins s σ H v u Q I r h
 exact wpAny_assign_Name (store_ok I hN hi hx r (fun s' I'=>⟨_,H,I',h⟩) hf)
noncomputable def gNil:TGs:=fun vs σ H Q=>vs=[]/\Q σ H
noncomputable def gCons(t:TG)(u:TGs):TGs:=fun vs σ H Q=>∃ v r,vs=v :: r/\t v σ H fun σ' H'=>u r σ' H' Q
theorem pgs_nil:PGs X [] gNil:=by
 intro pins s σ H vs us Q I r h
 obtain⟨e,h⟩:=h
 subst e
 cases r
 exact assignInOrder_nil ⟨σ,H,I,h⟩
theorem pgs_cons{e:Expr}{es:List Expr}{t:TG}{u:TGs}(h1:PG X e t)(h2:PGs X es u)
  (hs:(assignEach (e :: es) X.env).map (·.2)=assign e X.env :: (assignEach es X.env).map (·.2):=by rfl):PGs X (e :: es) (gCons t u):=by
 intro pins s σ H vs us Q I r h
 obtain⟨v,vr,e1,h⟩:=h
 subst e1
 cases r with
 |cons r rr =>
  rw[hs]
  refine assignInOrder_cons (thn (h1 pins s σ H _ _ _ I r h) fun _ s1 ⟨σ1,H1,I1,q1⟩=>?_)
  exact h2 pins s1 σ1 H1 _ _ Q I1 rr q1
noncomputable def gTup(K:PySem.W.Frag)(n:Nat)(t:TGs):TG:=fun v σ H Q=>∃ a xs,v = .ref a/\SqT K H a xs/\xs.length=n/\t xs σ H Q
theorem pg_tup{es:List Expr}{k:Nat}{t:TGs}{n:Nat}(hc:X.calm=true)(h:PGs X es t)
  (hn:(assignEach es X.env).length=n:=by rfl) (hst:(assignEach es X.env).findIdx? (·.1)=none:=by rfl):PG X (.Tuple es k pos) (gTup X.K n t):=by
 intro pins s σ H v u Q I r hw
 obtain⟨a,xs,e1,hq,hl,hw⟩:=hw
 subst e1
 cases r
 obtain⟨its,rv,ht,hz⟩:=I.tuple hq
 refine assign_Tuple_tuple (I.ok.hd hc) ht (by simp[hn,<- hl,rv.length]) hst fun h' hx=>?_
 have I1:Inv X pins σ H { s with heap:=h' }:=I.kept (t':=s.toks) fun b o e=>hx b o (Nat.ne_of_lt (Heap.lt_size e)) e
 exact h pins _ σ H xs _ Q I1 (by simpa using rv) hw
noncomputable def gSub(to ti:TE)(t:TSet):TG:=fun v σ H Q=>to σ H fun o H1=>ti σ H1 fun i H2=>t o i v H2 fun H3=>Q σ H3
theorem pg_sub{o i:Expr}{to ti:TE}{t:TSet}(ho:PE X o to)(hi:PE X i ti)(hs:PSet X t)
  (ha:∀ v,assign (.Subscript o i pos) X.env v=(do
   let ov <- holding [v] (eval o X.env)
   let iv <- holding [v,ov] (eval i X.env)
   standAt pos
   holding [v,ov,iv] (setItem ov iv v)
   release [v,ov,iv] []):=by intro _;rfl):PG X (.Subscript o i pos) (gSub to ti t):=by
 intro pins s σ H v u Q I r h
 rw[ha]
 refine wpAny_bind (wpAny_holding (thn (ho pins s σ H _ I h) fun ov s1 ⟨x,H1,I1,r1,q1⟩=>?_))
 refine wpAny_bind (wpAny_holding (thn (hi pins s1 σ H1 _ I1 q1) fun iv s2 ⟨y,H2,I2,r2,q2⟩=>?_))
 refine wpAny_bind (wpAny_standAt (wpAny_bind (wpAny_holding (thn (hs pins s2 σ H2 x y v ov iv u _ I2 r1 r2 r q2) fun _ s3 ⟨H3,I3,q3⟩=>?_))))
 exact wpAny_release ⟨σ,H3,I3,q3⟩
noncomputable def tAsg(te:TE)(g:TG):TS:=fun D σ H=>te σ H fun x H1=>g x σ H1 D.nx
theorem ps_asg{tg e:Expr}{te:TE}{g:TG}(he:PE X e te)(hg:PG X tg g)(hs:swapsWithSole [tg] e pos.line X.env=pure false:=by rfl)(hw:swappedStores [tg] e X.env=pure none:=by rfl)
  (h1:(assignEach [tg] X.env).map (·.2)=[assign tg X.env]:=by rfl):PS X (.Assign [tg] e pos) (tAsg te g):=by
 intro pins s σ H D I h
 refine wpAny_Assign_stores (thn (he pins s σ H _ I h) fun v s1 ⟨x,H1,I1,r1,q1⟩=>?_) hs hw
 rw[h1]
 exact thn (hg pins s1 σ H1 x v _ I1 r1 q1) fun _ s2 q=>q
theorem ps_set{i:Nat}{x:Str}{e:Expr}{te:TE}{pos':Pos}(hN:X.N.Nodup)(hi:X.N[i]?=some x)(hx:Loc X.env.scope x)(he:PE X e te)(hs:swapsWith e (some (.Name x pos')) pos.line X.env=pure false:=by rfl)(hf:X.fn x=true\/X.env.scope.names.lookup x=some .local:=by first | exact .inl rfl | exact .inr rfl | assumption) :
  PS X (.Assign [.Name x pos'] e pos) (tAsg te (gName i)):=by
 intro pins s σ H D I h
 refine wpAny_Assign_Name (thn (he pins s σ H _ I h) fun v s1 ⟨y,H1,I1,r1,q1⟩=>?_) hs
 exact store_ok I1 hN hi hx r1 (fun s2 I2=>⟨_,H1,I2,q1⟩) hf
noncomputable def tPar(i j:Nat)(ta:TA):TS:=fun D σ H=>ta σ H fun vs H1=>∃ v w,vs=[v,w]/\D.nx ((σ.set i (some v)).set j (some w)) H1
theorem ps_par{i j:Nat}{x y:Str}{a b:Expr}{ta:TA}{px py pt:Pos}{kt k2 pt2}(hc:X.calm=true)(hN:X.N.Nodup)(hi:X.N[i]?=some x)(hj:X.N[j]?=some y)(hij:i≠j)
  (hx:X.env.scope.names.lookup x=some .local) (hy:X.env.scope.names.lookup y=some .local) (ha:PA X [a,b] ta)
  (hw:swappedStores [.Tuple [.Name x px,.Name y py] kt pt] (.Tuple [a,b] k2 pt2) X.env=pure (some [x,y]))
  (hs:swapsWithSole [.Tuple [.Name x px,.Name y py] kt pt] (.Tuple [a,b] k2 pt2) pos.line X.env=pure false:=by rfl) :
  PS X (.Assign [.Tuple [.Name x px,.Name y py] kt pt] (.Tuple [a,b] k2 pt2) pos) (tPar i j ta):=by
 intro pins s σ H D I h
 rw[exec_Assign_arm]
 refine wpAny_bind (wpAny_standAt ?_)
 rw[hs]
 refine wpAny_bind (wpAny_pure ?_)
 rw[if_neg (by decide)]
 refine wpAny_bind (Tuple_ (thn (ha _ pins s σ H _ I h) fun us s1 ⟨vs,H1,I1,r1,q1⟩=>?_))
 obtain⟨v,w,e1,q1⟩:=q1
 subst e1
 obtain⟨u1,u2,rfl,rv,rw'⟩:∃ u1 u2,us=[u1,u2]/\RelV v u1/\RelV w u2:=by
  cases r1 with
  |cons p q =>
   cases q with
   |cons p' q' =>
    cases q'
    exact⟨_,_,rfl,p,p'⟩
 refine wpAny_newObj_type ?_ (by show 2<=sizeLine;decide)
 have I2:Inv X pins σ H1 { s1 with heap:=s1.heap.push { cls:=.type "tuple",data:=.seq [u1,u2].toArray } }:=I1.kept (t':=s1.toks) fun b o e=>Heap.get?_push_of_some _ e
 rw[hw]
 refine wpAny_bind (wpAny_pure ?_)
 show wpAny (model X.prog X.w) X.A (do rule "assign.swapped-stores";let items <- unpackItems (.ref s1.heap.objs.size) 2 none;assignInOrder [fun v=>bindName X.env y v,fun v=>bindName X.env x v] items.reverse;pure Flow.next) _ _ _
 refine wpAny_bind (wpAny_rule (wpAny_bind (unpackItems_tuple (items:=#[u1,u2]) (I.ok.hd hc) (IsTup.new s1.heap _) fun h' hx'=>?_)))
 have I3:=I2.kept (h':=h') (t':=s1.toks) fun b o e=>hx' b o (Nat.ne_of_lt (Heap.lt_size e)) e
 show wpAny _ _ (assignInOrder [fun v=>bindName X.env y v,fun v=>bindName X.env x v] [u2,u1] >>= fun _=>pure Flow.next) _ _ _
 refine wpAny_bind (assignInOrder_cons (wpAny_bindName (store_ok I3 hN hj (.inl hy) rw' (fun s2 I4=>?_) (.inr hy))))
 refine assignInOrder_cons (wpAny_bindName (store_ok I4 hN hi (.inl hx) rv (fun s3 I5=>assignInOrder_nil (wpAny_pure ?_)) (.inr hx)))
 rw[List.set_comm _ _ (Ne.symm hij)]at I5
 exact⟨_,H1,I5,q1⟩
end
structure It where
 go:Nat->Hp->Prop
 yld:Nat->Hp->V->Hp->Prop
 stop:Nat->Hp->Prop
noncomputable def FpOk(X:Cx)(pins:List (Addr×Obj))(H:Hp)(b:Addr):Prop :=
 H b=none/\b≠X.env.locals/\b∉X.fs/\(b∈X.ex\/X.s₀.heap.objs.size<=b)/\(∀ x c,X.env.cells.lookup x=some c->c≠b)/\∀ p∈X.pn++pins,p.1≠b
theorem Inv.fpOk{X:Cx}{pins:List (Addr×Obj)}{σ:St}{H H':Hp}{s:Shared}{b:Addr}(I:Inv X pins σ H s)(hb:s.heap.objs.size<=b)(hn:H' b=none):FpOk X pins H' b:=by
 refine⟨hn,Nat.ne_of_gt (Nat.lt_of_lt_of_le I.lt hb),I.nofs hb,.inr (Nat.le_trans I.sz hb),fun x c e z=>?_,fun p hp z=>?_⟩
 ·obtain⟨v,q⟩:=I.cell x c e
  exact absurd (Nat.lt_of_lt_of_le q.lt (by rw[z];exact hb)) (Nat.lt_irrefl _)
 ·exact absurd (Nat.lt_of_lt_of_le (Heap.lt_size (I.pin p hp).1) (by rw[z];exact hb)) (Nat.lt_irrefl _)
structure Turn(P:Program)(w:World)(K:PySem.W.Frag)(tg:Expr)(J:It)(fp:List Addr)(it:Addr)(tn:Nat->Heap->Prop):Prop where
 mem:it∈fp
 obj:∀ i h,tn i h->∀ b∈fp,∃ o,h.get? b=some o/\∀ v,o.data≠.cell v
 keep:∀ i h h',tn i h->(∀ b∈fp,∀ o,h.get? b=some o->h'.get? b=some o)->tn i h'
 item:∀ (X:Cx),X.prog=P->X.w=w->X.K=K->X.calm=true->∀ (i:Nat) (pins:List (Addr×Obj)) (s:Shared) (σ:St) (H:Hp) (E:Value->Shared->Prop),Inv X pins σ H s->(∀ b∈fp,FpOk X pins H b)->tn i s.heap->J.go i H ->
  wpAny (model P w) X.A (pyNext (.ref it)) (fun r s1=>∃ u,r=some u /\
   wpAny (model P w) X.A (letOwnedTupleGo tg (.ref it) u) (fun _ s2=>∃ x H',Inv X pins σ H' s2/\RelV x u/\J.yld i H x H'/\tn (i+1) s2.heap/\∀ b∈fp,H' b=none) E s1) E s
 done:∀ (X:Cx),X.prog=P->X.w=w->X.K=K->X.calm=true->∀ (i:Nat) (pins:List (Addr×Obj)) (s:Shared) (σ:St) (H:Hp) (E:Value->Shared->Prop),Inv X pins σ H s->(∀ b∈fp,FpOk X pins H b)->tn i s.heap->J.stop i H ->
  wpAny (model P w) X.A (pyNext (.ref it)) (fun r s1=>r=none/\Inv X pins σ H s1) E s
 self:∀ (A:Around) (i:Nat) (s:Shared) (Q:Value->Shared->Prop) (E:Value->Shared->Prop),tn i s.heap->Q (.ref it) s->wpAny (model P w) A (pyIter (.ref it)) Q E s
noncomputable abbrev TI:=St->Hp->(It->Hp->Prop)->Prop
noncomputable def PIE(X:Cx)(pins:List (Addr×Obj))(σ:St)(tg:Expr)(R:It->Hp->Prop)(itv:Value)(s2:Shared):Prop :=
 ∃ (it:Addr) (fp:List Addr) (tn:Nat->Heap->Prop) (J:It) (H':Hp),itv = .ref it/\Inv X pins σ H' s2/\Turn X.prog X.w X.K tg J fp it tn/\tn 0 s2.heap/\(∀ b∈fp,FpOk X pins H' b)/\R J H'
noncomputable def PI(X:Cx)(tg iter:Expr)(wi:TI):Prop :=
 ∀ (pins:List (Addr×Obj)) (s:Shared) (σ:St) (H:Hp) (R:It->Hp->Prop),Inv X pins σ H s->wi σ H R ->
  wpAny (model X.prog X.w) X.A (eval iter X.env) (fun v s1=>wpAny (model X.prog X.w) X.A (pyIter v) (PIE X pins σ tg R) X.xe s1) X.xe s
theorem go_of {M : Model} {A : Around} {E : Value → Shared → Prop} {s : Shared} {tg : Expr} {it : Addr} {u : Value} {o : Obj} {n : String} {vs : Array Value} {Q : Unit → Shared → Prop} (ho : s.heap.get? it = some o) (hc : o.cls = .type n) (hd : o.data = .fields vs)
    (hn : ["enumerate", "zip", "dict_itemiterator", "dict_reverseitemiterator", "odict_iterator", "itertools.zip_longest", "itertools.pairwise"].contains n = false) (hQ : Q () s) : wpAny M A (letOwnedTupleGo tg (.ref it) u) Q E s := by
  unfold letOwnedTupleGo
  cases tg <;> first
    | exact wpAny_pure hQ
    | (cases u <;> first
        | exact wpAny_pure hQ
        | (refine wpAny_bind (wpAny_load ho ?_)
           rw [hc, hd]
           show wpAny M A (if (["enumerate", "zip", "dict_itemiterator", "dict_reverseitemiterator", "odict_iterator", "itertools.zip_longest", "itertools.pairwise"].contains n && vs[0]? == some (rawInt _)) = true then _ else _) Q E s
           rw [if_neg (by intro h; rw [hn, Bool.false_and] at h; cases h)]
           exact wpAny_pure hQ))
noncomputable def Itl(K:PySem.W.Frag)(a:Addr):It :=
 ⟨fun i H=>∃ xs x,SqL K H a xs/\xs[i]?=some x,fun i H x H'=>H'=H/\∀ xs,SqL K H a xs->xs[i]?=some x,fun i H=>∃ xs,SqL K H a xs/\xs.length<=i⟩
noncomputable def Itt(K:PySem.W.Frag)(a:Addr):It :=
 ⟨fun i H=>∃ xs x,SqT K H a xs/\xs[i]?=some x,fun i H x H'=>H'=H/\∀ xs,SqT K H a xs->xs[i]?=some x,fun i H=>∃ xs,SqT K H a xs/\xs.length<=i⟩
noncomputable def Itr(lo:Int)(n:Nat):It:=⟨fun i _=>i<n,fun i H x H'=>H'=H/\x = .int (lo+i),fun i _=>n<=i⟩
theorem turn_list{P:Program}{w:World}{K:PySem.W.Frag}{tg:Expr}(a it:Addr):Turn P w K tg (Itl K a) [it] it (fun i h=>h.IsListIter it a i)where
 mem:=by simp
 obj:=fun i h st b hb=>by
  have e:b=it:=by simpa using hb
  subst e
  obtain⟨o,e,c,d⟩:=st
  exact⟨o,e,fun v z=>by rw[d]at z;cases z⟩
 keep:=fun i h h' st k=>st.at fun o e=>k it (by simp) o e
 item:=by
  intro X hP hw hK hc i pins s σ H E I hf st hg
  subst hP hw hK
  obtain⟨xs,x,hq,hx⟩:=hg
  obtain⟨its,rv,p,hz⟩:=I.list hq
  obtain⟨u,hu,ru⟩:=rv.get hx
  obtain⟨f0,f1,f2,f3,f4,f5⟩:=hf it (by simp)
  refine wpAny_pyNext_list_item st p.isList (x:=u) (by simpa using hu) fun h' st' sb=>?_
  have I1:Inv X pins σ H { s with heap:=h' }:=I.turned (t':=s.toks) (fun b o hb e=>(sb.2 b hb).trans e) f0 f1 f3 f4 f5
  obtain⟨o,e,c,d⟩:=id st'
  exact⟨u,rfl,go_of (s:={ s with heap:=h' }) e c d (by decide) ⟨x,H,I1,ru,⟨rfl,fun ys hy=>by rw[I.list_inj hy hq];exact hx⟩,st',fun b hb=>(hf b hb).1⟩⟩
 done:=by
  intro X hP hw hK hc i pins s σ H E I hf st hg
  subst hP hw hK
  obtain⟨xs,hq,hx⟩:=hg
  obtain⟨its,rv,p,hz⟩:=I.list hq
  obtain⟨f0,f1,f2,f3,f4,f5⟩:=hf it (by simp)
  have hl:=rv.length
  exact wpAny_pyNext_list_end (I.ok.hd hc) st p.isList (by simp;lia) fun h' eb=>⟨rfl,I.turned (t':=s.toks) (fun b o hb e=>eb b o hb e) f0 f1 f3 f4 f5⟩
 self:=fun _ _ _ _ _ st h=>wpAny_pyIter_listiter st h
theorem turn_tuple{P:Program}{w:World}{K:PySem.W.Frag}{tg:Expr}(a it:Addr):Turn P w K tg (Itt K a) [it] it (fun i h=>h.IsTupleIter it a i)where
 mem:=by simp
 obj:=fun i h st b hb=>by
  have e:b=it:=by simpa using hb
  subst e
  obtain⟨o,e,c,d⟩:=st
  exact⟨o,e,fun v z=>by rw[d]at z;cases z⟩
 keep:=fun i h h' st k=>st.at fun o e=>k it (by simp) o e
 item:=by
  intro X hP hw hK hc i pins s σ H E I hf st hg
  subst hP hw hK
  obtain⟨xs,x,hq,hx⟩:=hg
  obtain⟨its,rv,p,hz⟩:=I.tuple hq
  obtain⟨u,hu,ru⟩:=rv.get hx
  obtain⟨f0,f1,f2,f3,f4,f5⟩:=hf it (by simp)
  refine wpAny_pyNext_tuple_item st (show s.heap.IsTuple a its.toArray from p) (x:=u) (by simpa using hu) fun h' st' sb=>?_
  have I1:Inv X pins σ H { s with heap:=h' }:=I.turned (t':=s.toks) (fun b o hb e=>(sb.2 b hb).trans e) f0 f1 f3 f4 f5
  obtain⟨o,e,c,d⟩:=id st'
  exact⟨u,rfl,go_of (s:={ s with heap:=h' }) e c d (by decide) ⟨x,H,I1,ru,⟨rfl,fun ys hy=>by rw[I.tuple_inj hy hq];exact hx⟩,st',fun b hb=>(hf b hb).1⟩⟩
 done:=by
  intro X hP hw hK hc i pins s σ H E I hf st hg
  subst hP hw hK
  obtain⟨xs,hq,hx⟩:=hg
  obtain⟨its,rv,p,hz⟩:=I.tuple hq
  obtain⟨f0,f1,f2,f3,f4,f5⟩:=hf it (by simp)
  have hl:=rv.length
  exact wpAny_pyNext_tuple_end (I.ok.hd hc) st (show s.heap.IsTuple a its.toArray from p) (by simp;lia) fun h' eb=>⟨rfl,I.turned (t':=s.toks) (fun b o hb e=>eb b o hb e) f0 f1 f3 f4 f5⟩
 self:=fun _ _ _ _ _ st h=>wpAny_pyIter_tupleiter st h
theorem turn_range{P:Program}{w:World}{K:PySem.W.Frag}{tg:Expr}(it:Addr)(lo:Int)(n:Nat):Turn P w K tg (Itr lo n) [it] it (fun i h=>IsRangeIter h it (lo+(i:Nat) * 1) ((n:Int)-(i:Nat)) 1)where
 mem:=by simp
 obj:=fun i h st b hb=>by
  have e:b=it:=by simpa using hb
  subst e
  exact⟨_,st,fun v z=>by
   have z':Data.fields _=Data.cell v:=z
   cases z'⟩
 keep:=fun i h h' st k=>k it (by simp) _ st
 item:=by
  intro X hP hw hK hc i pins s σ H E I hf st hg
  subst hP hw hK
  obtain⟨f0,f1,f2,f3,f4,f5⟩:=hf it (by simp)
  have W:=Walks.range (prog:=X.prog) (w:=X.w) (I.ok.hd hc) it lo 1 n
  refine W.item i s _ _ hg st fun v h' tk hv st' kk=>?_
  obtain⟨t,rfl⟩:=hv
  have I1:Inv X pins σ H { s with heap:=h',toks:=tk }:=I.turned (fun b o hb e=>kk b o (by simpa using hb) e) f0 f1 f3 f4 f5
  refine⟨_,rfl,go_of (s:={ s with heap:=h',toks:=tk }) (n:="range_iterator") st' rfl rfl (by decide) ⟨.int (lo+i),H,I1,⟨t,?_⟩,⟨rfl,rfl⟩,st',fun b hb=>(hf b hb).1⟩⟩
  rw[Int.mul_one]
 done:=by
  intro X hP hw hK hc i pins s σ H E I hf st hg
  subst hP hw hK
  obtain⟨f0,f1,f2,f3,f4,f5⟩:=hf it (by simp)
  exact wpAny_pyNext_range_end (I.ok.hd hc) st (by have:n<=i:=hg;lia) fun h' eb=>⟨rfl,I.turned (t':=s.toks) (fun b o hb e=>eb b o hb e) f0 f1 f3 f4 f5⟩
 self:=fun _ _ _ _ _ st h=>wpAny_pyIter_rangeiter st h
open PySem PySem.Spec PyProof.Rows
section
variable{X:Cx}{tg:Expr}
noncomputable def iList(K:PySem.W.Frag)(tl:TE):TI:=fun σ H R=>tl σ H fun x H1=>∃ a,x = .ref a/\(∃ xs,SqL K H1 a xs)/\R (Itl K a) H1
noncomputable def iTup(K:PySem.W.Frag)(tl:TE):TI:=fun σ H R=>tl σ H fun x H1=>∃ a,x = .ref a/\(∃ xs,SqT K H1 a xs)/\R (Itt K a) H1
theorem pi_list{l:Expr}{tl:TE}(hl:PE X l tl):PI X tg l (iList X.K tl):=by
 intro pins s σ H R I h
 refine thn (hl pins s σ H _ I h) fun v s1 ⟨x,H1,I1,r1,q1⟩=>?_
 obtain⟨a,e,⟨xs,hq⟩,q⟩:=q1
 subst e
 cases r1
 obtain⟨its,rv,p,hz⟩:=I1.list hq
 refine wpAny_pyIter_list p.isList ?_
 refine⟨s1.heap.objs.size,[s1.heap.objs.size],_,_,H1,rfl,I1.kept (t':=s1.toks) fun b o e=>Heap.get?_push_of_some _ e,turn_list a _,⟨_,Heap.get?_push_size _ rfl,rfl,rfl⟩,fun b hb=>?_,q⟩
 have e:b=s1.heap.objs.size:=by simpa using hb
 subst e
 exact I1.fpOk (Nat.le_refl _) (I1.hok.fresh (Nat.le_refl _))
theorem pi_tup{l:Expr}{tl:TE}(hl:PE X l tl):PI X tg l (iTup X.K tl):=by
 intro pins s σ H R I h
 refine thn (hl pins s σ H _ I h) fun v s1 ⟨x,H1,I1,r1,q1⟩=>?_
 obtain⟨a,e,⟨xs,hq⟩,q⟩:=q1
 subst e
 cases r1
 obtain⟨its,rv,p,hz⟩:=I1.tuple hq
 refine wpAny_pyIter_tuple (show s1.heap.IsTuple a its.toArray from p) ?_
 refine⟨s1.heap.objs.size,[s1.heap.objs.size],_,_,H1,rfl,I1.kept (t':=s1.toks) fun b o e=>Heap.get?_push_of_some _ e,turn_tuple a _,⟨_,Heap.get?_push_size _ rfl,rfl,rfl⟩,fun b hb=>?_,q⟩
 have e:b=s1.heap.objs.size:=by simpa using hb
 subst e
 exact I1.fpOk (Nat.le_refl _) (I1.hok.fresh (Nat.le_refl _))
theorem range_it{pins:List (Addr×Obj)}{σ:St}{H:Hp}{s:Shared}{R:It->Hp->Prop}{E:Value->Shared->Prop}{lo hi:Int}{t u v:Tok}{tk:Nat}(I:Inv X pins σ H s)(h1:-(2 ^ 62)<=lo)(h2:lo<2 ^ 62)(h3:-(2 ^ 62)<=hi)(h4:hi<2 ^ 62)
  (q:R (Itr lo (hi-lo).toNat) H):wpAny (model X.prog X.w) X.A (pyIter (.ref s.heap.objs.size)) (PIE X pins σ tg R) E { s with heap:=s.heap.push { cls:=.type "range",data:=.fields #[.int lo t,.int hi u,.int 1 v] },toks:=tk }:=by
 refine wpAny_pyIter_range (IsRange.new ..) (small_one h1 h2 h3 h4) ?_
 have I1:Inv X pins σ H { s with heap:=s.heap.push { cls:=.type "range",data:=.fields #[.int lo t,.int hi u,.int 1 v] },toks:=tk }:=I.kept fun b o e=>Heap.get?_push_of_some _ e
 refine⟨(s.heap.push { cls:=.type "range",data:=.fields #[.int lo t,.int hi u,.int 1 v] }).objs.size,[(s.heap.push { cls:=.type "range",data:=.fields #[.int lo t,.int hi u,.int 1 v] }).objs.size],_,_,H,rfl,
  I1.kept (t':=tk) fun b o e=>Heap.get?_push_of_some _ e,turn_range _ lo (hi-lo).toNat,?_,fun b hb=>?_,q⟩
 ·have e1:lo+((0:Nat):Int) * 1=lo:=by simp
  have e2:(((hi-lo).toNat:Nat):Int)-((0:Nat):Int)=Builtin.Range.rangeSize lo hi 1:=by rw[rangeSize_one];split <;> lia
  show IsRangeIter _ _ (lo+((0:Nat):Int) * 1) ((((hi-lo).toNat:Nat):Int)-((0:Nat):Int)) 1
  rw[e1,e2]
  exact Heap.get?_push_size _ rfl
 ·have e:b=(s.heap.push { cls:=.type "range",data:=.fields #[.int lo t,.int hi u,.int 1 v] }).objs.size:=by simpa using hb
  subst e
  exact I1.fpOk (Nat.le_refl _) (I1.hok.fresh (Nat.le_refl _))
noncomputable def iRng1(ta:TA):TI:=fun σ H R=>ta σ H fun vs H1=>∃ j:Int,vs=[.int j]/\-(2 ^ 62)<=j/\j<2 ^ 62/\R (Itr 0 j.toNat) H1
noncomputable def iRng2(ta:TA):TI:=fun σ H R=>ta σ H fun vs H1=>∃ i j:Int,vs=[.int i,.int j]/\(-(2 ^ 62)<=i/\i<2 ^ 62/\-(2 ^ 62)<=j/\j<2 ^ 62)/\R (Itr i (j-i).toNat) H1
theorem pi_range1{a:Expr}{ta:TA}{p pos:Pos}(hg:Gl X "range")(hm:X.mg "range" = none)(ha:PA X [a] ta)(hs:starEach [a] X.env=[(false,eval a X.env)]:=by rfl):PI X tg (.Call (.Name "range" p) [a] [] pos) (iRng1 ta):=by
 intro pins s σ H R I h
 refine Call_ (ld_blt I hg hm boot_range (PyProof.Rows.callWith_type1 (thn (ha pos pins s σ H _ I h) fun us s1 ⟨vs,H1,I1,r1,q1⟩=>?_) hs rfl))
 obtain⟨j,e,q1,q2,q⟩:=q1
 subst e
 cases r1 with
 |cons r rr =>
  cases rr
  obtain⟨t,rfl⟩:=r
  exact call_range_1 (range_it I1 (by lia) (by lia) q1 q2 (by simpa using q))
theorem pi_range2{a b:Expr}{ta:TA}{p pos:Pos}(hg:Gl X "range")(hm:X.mg "range" = none)(ha:PA X [a,b] ta)(hs:starEach [a,b] X.env=[(false,eval a X.env),(false,eval b X.env)]:=by rfl)(hs2:starEach [b] X.env=[(false,eval b X.env)]:=by rfl) :
  PI X tg (.Call (.Name "range" p) [a,b] [] pos) (iRng2 ta):=by
 intro pins s σ H R I h
 refine Call_ (ld_blt I hg hm boot_range (PyProof.Rows.callWith_type1 (thn (ha pos pins s σ H _ I h) fun us s1 ⟨vs,H1,I1,r1,q1⟩=>?_) (by rw[hs,hs2]) (by rw[hs2];rfl)))
 obtain⟨i,j,e,⟨q1,q2,q3,q4⟩,q⟩:=q1
 subst e
 cases r1 with
 |cons r rr =>
  cases rr with
  |cons r' rr =>
   cases rr
   obtain⟨t,rfl⟩:=r
   obtain⟨t',rfl⟩:=r'
   exact call_range_2 (range_it I1 q1 q2 q3 q4 q)
noncomputable def tFor(wi:TI)(g:TG)(tb:TS):TS:=fun D σ H=>wi σ H fun J H1=>∃ W:Nat->Nat->St->Hp->Prop,(∃ m,W 0 m σ H1)/\∀ i m σ H,W i m σ H ->
 (J.stop i H/\D.nx σ H)\/(J.go i H/\∃ N:St->Hp->Prop,(∀ σ' H',N σ' H'->∃ m',m'<m/\W (i+1) m' σ' H')/\∀ x H',J.yld i H x H'->g x σ H' fun σ2 H2=>tb { D with nx:=N,ct:=N,bk:=D.nx } σ2 H2)
noncomputable def pinsAt(fp:List Addr)(h:Heap):List (Addr×Obj):=fp.filterMap fun b=>(h.get? b).map fun o=>(b,o)
theorem mem_pinsAt{fp:List Addr}{h:Heap}{b:Addr}{o:Obj}(hb:b∈fp)(e:h.get? b=some o):(b,o)∈pinsAt fp h:=List.mem_filterMap.mpr ⟨b,hb,by rw[e];rfl⟩
theorem of_pinsAt{fp:List Addr}{h:Heap}{p:Addr×Obj}(hp:p∈pinsAt fp h):p.1∈fp/\h.get? p.1=some p.2:=by
 obtain⟨b,hb,e⟩:=List.mem_filterMap.mp hp
 cases q:h.get? b with
 |none=>rw[q]at e;cases e
 |some o =>
  rw[q]at e
  have e':(b,o)=p:=Option.some.inj e
  subst e'
  exact⟨hb,q⟩
theorem Inv.pinned{pins:List (Addr×Obj)}{σ:St}{H:Hp}{s:Shared}{fp:List Addr}(I:Inv X pins σ H s)(hf:∀ b∈fp,FpOk X pins H b)(ho:∀ b∈fp,∃ o,s.heap.get? b=some o/\∀ v,o.data≠.cell v):Inv X (pins++pinsAt fp s.heap) σ H s :=
 I.pins_of fun p hp=>(List.mem_append.mp hp).elim (fun z=>I.pin p (List.mem_append_right _ z)) fun z=>by
  obtain⟨hb,e⟩:=of_pinsAt z
  obtain⟨f0,f1,f2,_⟩:=hf p.1 hb
  obtain⟨o,e',d⟩:=ho p.1 hb
  rw[e]at e';cases e'
  exact⟨e,f0,f1,f2,d⟩
theorem Inv.unpinned{pins pl:List (Addr×Obj)}{σ:St}{H:Hp}{s:Shared}(I:Inv X (pins++pl) σ H s):Inv X pins σ H s:=I.pins_of fun p hp=>I.pin p (List.mem_append_right _ (List.mem_append_left _ hp))
theorem ps_for{iter:Expr}{body:List Stmt}{wi:TI}{g:TG}{tb:TS}{pos:Pos}(hp:PassesOwn (model X.prog X.w) X.A X.env X.xe)(hc:X.calm=true)(hi:PI X tg iter wi)(hg:PG X tg g)(hb:PSs X body tb)
  (hs:∀ x,foldedSetIterable iter X.env x=pure x:=by intro _;rfl):PS X (.For tg iter body [] pos) (tFor wi g tb):=by
 intro pins s σ H D I h
 refine wpAny_For (thn (hi pins s σ H _ I h) fun v s1 h1=>thn h1 fun itv s2 h2=>?_) hs
 obtain⟨it,fp,tn,J,H2,e,I2,T,st2,f2,W,⟨m0,w0⟩,turn⟩:=h2
 subst e
 -- what stays true of the iterator's objects through the loop
 have stat:∀ {H':Hp},(∀ b∈fp,H' b=none)->∀ b∈fp,FpOk X pins H' b:=fun hn b hb=>⟨hn b hb,(f2 b hb).2⟩
 refine codeAny_forLoop_any (fun n s'=>∃ i σ' H',Inv X pins σ' H' s'/\tn i s'.heap/\(∀ b∈fp,H' b=none)/\W i n σ' H') ?_ m0 ⟨0,σ,H2,I2,st2,fun b hb=>(f2 b hb).1,w0⟩
 rintro n s3 ⟨i,σ3,H3,I3,st3,fr3,w3⟩
 rcases turn i n σ3 H3 w3 with⟨stop,qn⟩ |⟨go,N,hN,step⟩
 ·refine wpAny_passesOwn hp (thn (T.done X rfl rfl rfl hc i pins s3 σ3 H3 X.xe I3 (stat fr3) st3 stop) fun r s4 ⟨hr,I4⟩=>?_)
  subst hr
  exact wpAny_execs_nil ⟨σ3,H3,I4,qn⟩
 ·refine wpAny_passesOwn hp (thn (T.item X rfl rfl rfl hc i pins s3 σ3 H3 X.xe I3 (stat fr3) st3 go) fun r s4 ⟨u,hr,h4⟩=>?_)
  subst hr
  refine wpAny_passesOwn hp (thn h4 fun _ s5 ⟨x,H5,I5,r5,y5,st5,fr5⟩=>?_)
  have I5':=I5.pinned (stat fr5) (T.obj _ _ st5)
  refine wpAny_passesOwn hp (thn (hg _ s5 σ3 H5 x u _ I5' r5 (step x H5 y5)) fun _ s6 ⟨σ6,H6,I6,q6⟩=>?_)
  refine wpAny_passesOwn hp (thn (hb _ s6 σ6 H6 _ I6 q6) fun f s7 q7=>?_)
  have again:∀ {σ7:St}{H7:Hp},Inv X (pins++pinsAt fp s5.heap) σ7 H7 s7->N σ7 H7->∃ m,m<n/\∃ i σ' H',Inv X pins σ' H' s7/\tn i s7.heap/\(∀ b∈fp,H' b=none)/\W i m σ' H':=fun {σ7 H7} I7 n7=>by
   obtain⟨m',hm,w7⟩:=hN σ7 H7 n7
   refine⟨m',hm,i+1,σ7,H7,I7.unpinned,T.keep _ _ _ st5 fun b hb o e=>(I7.pin (b,o) (List.mem_append_right _ (List.mem_append_right _ (mem_pinsAt hb e)))).1,fun b hb=>?_,w7⟩
   obtain⟨o,e,d⟩:=T.obj _ _ st5 b hb
   exact(I7.pin (b,o) (List.mem_append_right _ (List.mem_append_right _ (mem_pinsAt hb e)))).2.1
  cases f with
  |next=>obtain⟨σ7,H7,I7,n7⟩:=q7;exact again I7 n7
  |cont=>obtain⟨σ7,H7,I7,n7⟩:=q7;exact again I7 n7
  |brk=>obtain⟨σ7,H7,I7,q7⟩:=q7;exact⟨σ7,H7,I7.unpinned,q7⟩
  |ret v=>obtain⟨x7,σ7,H7,I7,r7,q7⟩:=q7;exact⟨x7,σ7,H7,I7.unpinned,r7,q7⟩
end
theorem for_range{lo:Int}{n:Nat}{g:TG}{tb:TS}{D:Ends}{σ:St}{H:Hp}(Pv:Nat->St->Hp->Prop)(h0:Pv 0 σ H)
  (hs:∀ i σ H,i<n->Pv i σ H->g (.int (lo+i)) σ H fun σ2 H2=>tb { D with nx:=Pv (i+1),ct:=Pv (i+1),bk:=D.nx } σ2 H2) (hd:∀ σ H,Pv n σ H->D.nx σ H) :
  ∃ W:Nat->Nat->St->Hp->Prop,(∃ m,W 0 m σ H)/\∀ i m σ H,W i m σ H ->
   ((Itr lo n).stop i H/\D.nx σ H)\/((Itr lo n).go i H/\∃ N:St->Hp->Prop,(∀ σ' H',N σ' H'->∃ m',m'<m/\W (i+1) m' σ' H')/\∀ x H',(Itr lo n).yld i H x H'->g x σ H' fun σ2 H2=>tb { D with nx:=N,ct:=N,bk:=D.nx } σ2 H2):=by
 refine⟨fun i m σ H=>m=n-i/\i<=n/\Pv i σ H,⟨n,by simp,Nat.zero_le _,h0⟩,?_⟩
 rintro i m σ H ⟨rfl,hi,p⟩
 by_cases hlt:i<n
 ·refine .inr ⟨hlt,Pv (i+1),fun σ' H' p'=>⟨n-(i+1),by omega,rfl,hlt,p'⟩,fun x H' y=>?_⟩
  obtain⟨e,y⟩:=y
  subst e y
  exact hs i σ _ hlt p
 ·have e:i=n:=by lia
  subst e
  exact .inl ⟨Nat.le_refl _,hd σ H p⟩
open PySem PySem.Spec PyProof.Rows
noncomputable abbrev R2:=V->V->Hp->VK->Prop
noncomputable def OpR(X:Cx)(f:Value->Value->Sem Value)(r:R2):Prop :=
 ∀ (pins:List (Addr×Obj)) (s:Shared) (σ:St) (H:Hp) (x y:V) (v u:Value) (Q:VK),Inv X pins σ H s->RelV x v->RelV y u->r x y H Q ->
  wpAny (model X.prog X.w) X.A (f v u) (EP X pins σ Q) X.xe s
noncomputable def UnR(X:Cx)(f:Value->Sem Value)(r:V->Hp->VK->Prop):Prop :=
 ∀ (pins:List (Addr×Obj)) (s:Shared) (σ:St) (H:Hp) (x:V) (v:Value) (Q:VK),Inv X pins σ H s->RelV x v->r x H Q ->
  wpAny (model X.prog X.w) X.A (f v) (EP X pins σ Q) X.xe s
noncomputable def CallR(X:Cx)(f:Value)(r:List V->Hp->VK->Prop):Prop :=
 ∀ (pins:List (Addr×Obj)) (s:Shared) (σ:St) (H:Hp) (xs:List V) (us:List Value) (Q:VK),Inv X pins σ H s->Vals xs us->r xs H Q ->
  wpAny (model X.prog X.w) X.A (call f us) (EP X pins σ Q) X.xe s
noncomputable def TruR(X:Cx)(r:V->Hp->(Bool->Hp->Prop)->Prop):Prop :=
 ∀ (pins:List (Addr×Obj)) (s:Shared) (σ:St) (H:Hp) (x:V) (v:Value) (Q:Bool->Hp->Prop),Inv X pins σ H s->RelV x v->r x H Q ->
  wpAny (model X.prog X.w) X.A (truthy v) (TP X pins σ Q) X.xe s
noncomputable def tOp(r:R2)(ta tb:TE):TE:=fun σ H Q=>ta σ H fun x H1=>tb σ H1 fun y H2=>r x y H2 Q
noncomputable def tUn(r:V->Hp->VK->Prop)(ta:TE):TE:=fun σ H Q=>ta σ H fun x H1=>r x H1 Q
noncomputable def rI(C:Int->Int->Prop)(g:Int->Int->V):R2:=fun x y H Q=>∃ i j,x = .int i/\y = .int j/\C i j/\Q (g i j) H
noncomputable def rI0(g:Int->Int->V):R2:=fun x y H Q=>∃ i j,x = .int i/\y = .int j/\Q (g i j) H
noncomputable def rU(g:Int->V):V->Hp->VK->Prop:=fun x H Q=>∃ i,x = .int i/\Q (g i) H
section
variable{X:Cx}{a b c:Expr}{ta tb tc:TE}{pos:Pos}
theorem binT(ha:PE X a ta)(hb:PE X b tb){pins:List (Addr×Obj)}{s:Shared}{σ:St}{H:Hp}{R:V->V->Hp->Prop}(I:Inv X pins σ H s)
  (h:ta σ H fun x H1=>tb σ H1 fun y H2=>R x y H2) {Q:Value->Shared->Prop}{f:Value->Value->Sem Value}
  (hf:∀ v u s2 x y H2,Inv X pins σ H2 s2->RelV x v->RelV y u->R x y H2->wpAny (model X.prog X.w) X.A (f v u) Q X.xe s2) :
  wpAny (model X.prog X.w) X.A (eval a X.env) (fun v s₁=>wpAny (model X.prog X.w) X.A (eval b X.env) (fun u s₂=>wpAny (model X.prog X.w) X.A (f v u) Q X.xe s₂) X.xe s₁) X.xe s:=by
 refine thn (ha pins s σ H _ I h) fun v s1 ⟨x,H1,I1,r1,q1⟩=>?_
 refine thn (hb pins s1 σ H1 _ I1 q1) fun u s2 ⟨y,H2,I2,r2,q2⟩=>?_
 exact hf v u s2 x y H2 I2 r1 r2 q2
theorem pe_op{op:Operator}{r:R2}(ho:OpR X (binaryOp op) r)(ha:PE X a ta)(hb:PE X b tb):PE X (.BinOp a op b pos) (tOp r ta tb):=by
 intro pins s σ H Q I h
 exact wpAny_BinOp (binT ha hb I h fun v u s2 x y H2 I2 rx ry q=>ho pins s2 σ H2 x y v u Q I2 rx ry q)
theorem pe_un{op:UnaryOp}{r:V->Hp->VK->Prop}(ho:UnR X (unaryOp op) r)(ha:PE X a ta):PE X (.UnaryOp op a pos) (tUn r ta):=by
 intro pins s σ H Q I h
 exact UnaryOp_ (thn (ha pins s σ H _ I h) fun v s1 ⟨x,H1,I1,r1,q1⟩=>ho pins s1 σ H1 x v Q I1 r1 q1)
theorem opI{f:Value->Value->Sem Value}{C:Int->Int->Prop}{g:Int->Int->Int}
  (rule:∀ (i j:Int) (t u:Tok) (s:Shared) (Q:Value->Shared->Prop) (E:Value->Shared->Prop),C i j->Q (.int (g i j) s.toks) { s with toks:=s.toks+1 }->wpAny (model X.prog X.w) X.A (f (.int i t) (.int j u)) Q E s) :
  OpR X f (rI C fun i j=>.int (g i j)):=by
 intro pins s σ H x y v u Q I rx ry h
 obtain⟨i,j,rfl,rfl,hc,q⟩:=h
 obtain⟨t,rfl⟩:=rx
 obtain⟨t',rfl⟩:=ry
 exact rule i j t t' s _ _ hc ⟨.int (g i j),H,I.tok _,⟨_,rfl⟩,q⟩
theorem opI0{f:Value->Value->Sem Value}{g:Int->Int->Int}
  (rule:∀ (i j:Int) (t u:Tok) (s:Shared) (Q:Value->Shared->Prop) (E:Value->Shared->Prop),Q (.int (g i j) s.toks) { s with toks:=s.toks+1 }->wpAny (model X.prog X.w) X.A (f (.int i t) (.int j u)) Q E s) :
  OpR X f (rI0 fun i j=>.int (g i j)):=by
 intro pins s σ H x y v u Q I rx ry h
 obtain⟨i,j,rfl,rfl,q⟩:=h
 obtain⟨t,rfl⟩:=rx
 obtain⟨t',rfl⟩:=ry
 exact rule i j t t' s _ _ ⟨.int (g i j),H,I.tok _,⟨_,rfl⟩,q⟩
theorem opB0{f:Value->Value->Sem Value}{g:Int->Int->Bool}
  (rule:∀ (i j:Int) (t u:Tok) (s:Shared) (Q:Value->Shared->Prop) (E:Value->Shared->Prop),Q (.bool (g i j)) s->wpAny (model X.prog X.w) X.A (f (.int i t) (.int j u)) Q E s) :
  OpR X f (rI0 fun i j=>.bl (g i j)):=by
 intro pins s σ H x y v u Q I rx ry h
 obtain⟨i,j,rfl,rfl,q⟩:=h
 obtain⟨t,rfl⟩:=rx
 obtain⟨t',rfl⟩:=ry
 exact rule i j t t' s _ _ ⟨.bl (g i j),H,I,rfl,q⟩
noncomputable def CDiv(i j:Int):Prop:=0<j/\j<1073741824
noncomputable def CPow(i j:Int):Prop:=0<=j/\j<=1000000/\i.natAbs<2 ^ 64
noncomputable def CMul(i j:Int):Prop:=(-(2 ^ 64)<i/\i<2 ^ 64)\/(-(2 ^ 64)<j/\j<2 ^ 64)
theorem CMul.ok{i j:Int}(h:CMul i j):IntMulOk i j:=by
 rcases h with⟨h1,h2⟩ |⟨h1,h2⟩
 ·exact .of_left (intBits_le_64 h1 h2)
 ·exact .of_right (intBits_le_64 h1 h2)
theorem op_add:OpR X (binaryOp .Add) (rI0 fun i j=>.int (i+j)):=opI0 fun _ _ _ _ _ _ _ q=>add_int q
theorem op_sub:OpR X (binaryOp .Sub) (rI0 fun i j=>.int (i-j)):=opI0 fun _ _ _ _ _ _ _ q=>sub_int q
theorem op_mul:OpR X (binaryOp .Mult) (rI CMul fun i j=>.int (i * j)):=opI fun _ _ _ _ _ _ _ hc q=>mul_int q hc.ok
theorem op_fdiv:OpR X (binaryOp .FloorDiv) (rI CDiv fun i j=>.int (i / j)):=opI fun i j _ _ _ _ _ hc q=>by
 have h1:(0:Int)<j:=hc.1
 have h2:j<1073741824:=hc.2
 exact floordiv_int (by lia) (by rw[Int.fdiv_eq_ediv_of_nonneg i (by lia)];exact q) (.inl (PyProof.noPylong_small (by omega)))
theorem op_mod:OpR X (binaryOp .Mod) (rI (fun _ j=>0<j) fun i j=>.int (i % j)):=opI fun i j _ _ _ _ _ hc q=>by
 have h1:(0:Int)<j:=hc
 exact mod_int' (by lia) (by rw[Int.fmod_eq_emod_of_nonneg i (by lia)];exact q)
theorem op_pow:OpR X (binaryOp .Pow) (rI CPow fun i j=>.int (i ^ j.toNat)):=opI fun _ _ _ _ _ _ _ hc q=>pow_int_small hc.1 hc.2.1 hc.2.2 q
theorem unI{f:Value->Sem Value}{g:Int->Int}
  (rule:∀ (i:Int) (t:Tok) (s:Shared) (Q:Value->Shared->Prop) (E:Value->Shared->Prop),Q (.int (g i) s.toks) { s with toks:=s.toks+1 }->wpAny (model X.prog X.w) X.A (f (.int i t)) Q E s) :
  UnR X f (rU fun i=>.int (g i)):=by
 intro pins s σ H x v Q I rx h
 obtain⟨i,rfl,q⟩:=h
 obtain⟨t,rfl⟩:=rx
 exact rule i t s _ _ ⟨.int (g i),H,I.tok _,⟨_,rfl⟩,q⟩
theorem un_neg:UnR X (unaryOp .USub) (rU fun i=>.int (-i)):=unI fun _ _ _ _ _ q=>neg_int q
end
noncomputable def scal:V->V->Bool
 | .non,.non=>true | .non,.int _=>true | .int _,.non=>true | .non,.bl _=>true | .bl _,.non=>true | .non,.str _=>true | .str _,.non=>true
 | .int _,.int _=>true | .bl _,.bl _=>true | .str _,.str _=>true | .byt _,.byt _=>true
 | .int _,.str _=>true | .str _,.int _=>true | .bl _,.str _=>true | .str _,.bl _=>true
 | _,_=>false
noncomputable def rEq:R2:=fun x y H Q=>scal x y=true/\Q (.bl (decide (x=y))) H
noncomputable def rNe:R2:=fun x y H Q=>scal x y=true/\Q (.bl (!decide (x=y))) H
theorem dec_int{i j:Int}:decide (V.int i=V.int j)=(i == j):=by
 rw[Bool.eq_iff_iff]
 simp
theorem dec_bl{i j:Bool}:decide (V.bl i=V.bl j)=(i == j):=by
 rw[Bool.eq_iff_iff]
 simp
theorem dec_str{i j:Str}:decide (V.str i=V.str j)=(i == j):=by
 rw[Bool.eq_iff_iff]
 simp
theorem dec_byt{i j:Array UInt8}:decide (V.byt i=V.byt j)=(i.toList == j.toList):=by
 rw[Bool.eq_iff_iff]
 cases i
 cases j
 simp
section
variable{X:Cx}{a b c:Expr}{ta tb tc:TE}{pos:Pos}
theorem fin_bl{pins:List (Addr×Obj)}{σ:St}{H:Hp}{s:Shared}{Q:VK}{k k':Bool}(I:Inv X pins σ H s)(q:Q (.bl k) H)(e:k=k'):EP X pins σ Q (.bool k') s:=by
 subst e
 exact⟨.bl k,H,I,rfl,q⟩
theorem op_eq:OpR X (compareOp .Eq) rEq:=by
 intro pins s σ H x y v u Q I rx ry h
 obtain⟨hs,q⟩:=h
 cases x with
 |non =>
  cases rx
  cases y with
  |non=>cases ry;exact PySem.EqNone.eq_none_none (fin_bl I q (by simp))
  |bl j=>cases ry;exact PySem.EqNone.eq_none_bool (fin_bl I q (by simp))
  |int j=>obtain⟨t',rfl⟩:=ry;exact PySem.EqNone.eq_none_int (fin_bl I q (by simp))
  |str j=>obtain⟨t',rfl⟩:=ry;exact PySem.EqNone.eq_none_str (fin_bl I q (by simp))
  | _=>exact absurd (show false=true from hs) Bool.false_ne_true
 |bl i =>
  cases rx
  cases y with
  |non=>cases ry;exact PySem.EqNone.eq_bool_none (fin_bl I q (by simp))
  |bl j=>cases ry;exact eq_bool (fin_bl I q dec_bl)
  |str j=>obtain⟨t',rfl⟩:=ry;exact PySem.EqMixed.eq_bool_str (fin_bl I q (by simp))
  | _=>exact absurd (show false=true from hs) Bool.false_ne_true
 |int i =>
  obtain⟨t,rfl⟩:=rx
  cases y with
  |non=>cases ry;exact PySem.EqNone.eq_int_none (fin_bl I q (by simp))
  |int j=>obtain⟨t',rfl⟩:=ry;exact eq_int (fin_bl I q dec_int)
  |str j=>obtain⟨t',rfl⟩:=ry;exact PySem.EqMixed.eq_int_str (fin_bl I q (by simp))
  | _=>exact absurd (show false=true from hs) Bool.false_ne_true
 |str i =>
  obtain⟨t,rfl⟩:=rx
  cases y with
  |non=>cases ry;exact PySem.EqNone.eq_str_none (fin_bl I q (by simp))
  |bl j=>cases ry;exact PySem.EqMixed.eq_str_bool (fin_bl I q (by simp))
  |int j=>obtain⟨t',rfl⟩:=ry;exact PySem.EqMixed.eq_str_int (fin_bl I q (by simp))
  |str j=>obtain⟨t',rfl⟩:=ry;exact eq_str (fin_bl I q dec_str)
  | _=>exact absurd (show false=true from hs) Bool.false_ne_true
 |byt i =>
  obtain⟨t,rfl⟩:=rx
  cases y with
  |byt j=>obtain⟨t',rfl⟩:=ry;exact PySem.W.eq_bytes (fin_bl I q dec_byt)
  | _=>exact absurd (show false=true from hs) Bool.false_ne_true
 | _=>cases y <;> exact absurd (show false=true from hs) Bool.false_ne_true
theorem op_ne:OpR X (compareOp .NotEq) rNe:=by
 intro pins s σ H x y v u Q I rx ry h
 obtain⟨hs,q⟩:=h
 cases x with
 |non =>
  cases rx
  cases y with
  |non=>cases ry;exact PySem.EqNone.ne_none_none (fin_bl I q (by simp))
  |bl j=>cases ry;exact PySem.EqNone.ne_none_bool (fin_bl I q (by simp))
  |int j=>obtain⟨t',rfl⟩:=ry;exact PySem.EqNone.ne_none_int (fin_bl I q (by simp))
  |str j=>obtain⟨t',rfl⟩:=ry;exact PySem.EqNone.ne_none_str (fin_bl I q (by simp))
  | _=>exact absurd (show false=true from hs) Bool.false_ne_true
 |bl i =>
  cases rx
  cases y with
  |non=>cases ry;exact PySem.EqNone.ne_bool_none (fin_bl I q (by simp))
  |bl j=>cases ry;exact ne_bool (fin_bl I q (congrArg not dec_bl))
  |str j=>obtain⟨t',rfl⟩:=ry;exact PySem.EqMixed.ne_bool_str (fin_bl I q (by simp))
  | _=>exact absurd (show false=true from hs) Bool.false_ne_true
 |int i =>
  obtain⟨t,rfl⟩:=rx
  cases y with
  |non=>cases ry;exact PySem.EqNone.ne_int_none (fin_bl I q (by simp))
  |int j=>obtain⟨t',rfl⟩:=ry;exact ne_int (fin_bl I q (congrArg not dec_int))
  |str j=>obtain⟨t',rfl⟩:=ry;exact PySem.EqMixed.ne_int_str (fin_bl I q (by simp))
  | _=>exact absurd (show false=true from hs) Bool.false_ne_true
 |str i =>
  obtain⟨t,rfl⟩:=rx
  cases y with
  |non=>cases ry;exact PySem.EqNone.ne_str_none (fin_bl I q (by simp))
  |bl j=>cases ry;exact PySem.EqMixed.ne_str_bool (fin_bl I q (by simp))
  |int j=>obtain⟨t',rfl⟩:=ry;exact PySem.EqMixed.ne_str_int (fin_bl I q (by simp))
  |str j=>obtain⟨t',rfl⟩:=ry;exact ne_str (fin_bl I q (congrArg not dec_str))
  | _=>exact absurd (show false=true from hs) Bool.false_ne_true
 |byt i =>
  obtain⟨t,rfl⟩:=rx
  cases y with
  |byt j=>obtain⟨t',rfl⟩:=ry;exact PySem.W.ne_bytes (fin_bl I q (congrArg not dec_byt))
  | _=>exact absurd (show false=true from hs) Bool.false_ne_true
 | _=>cases y <;> exact absurd (show false=true from hs) Bool.false_ne_true
theorem op_lt:OpR X (compareOp .Lt) (rI0 fun i j=>.bl (decide (i<j))):=opB0 fun _ _ _ _ _ _ _ q=>lt_int q
theorem op_le:OpR X (compareOp .LtE) (rI0 fun i j=>.bl (decide (i<=j))):=opB0 fun _ _ _ _ _ _ _ q=>le_int q
theorem op_gt:OpR X (compareOp .Gt) (rI0 fun i j=>.bl (decide (j<i))):=opB0 fun _ _ _ _ _ _ _ q=>gt_int q
theorem op_ge:OpR X (compareOp .GtE) (rI0 fun i j=>.bl (decide (j<=i))):=opB0 fun _ _ _ _ _ _ _ q=>ge_int q
theorem op_in_str:OpR X (compareOp .In) (fun x y H Q=>∃ i j,x = .str i/\y = .str j/\Q (.bl (!(Builtin.Str.occurrences j i 0 j.length 1).isEmpty)) H):=by
 intro pins s σ H x y v u Q I rx ry h
 obtain⟨i,j,rfl,rfl,q⟩:=h
 obtain⟨t,rfl⟩:=rx
 obtain⟨t',rfl⟩:=ry
 exact in_str (fin_bl I q rfl)
theorem op_isN:OpR X (compareOp .Is) (fun x y H Q=>y = .non/\Q (.bl (decide (x = .non))) H):=by
 intro pins s σ H x y v u Q I rx ry h
 obtain⟨rfl,q⟩:=h
 cases ry
 refine is_none_gen (fin_bl I q ?_)
 cases x <;> first
  |(cases rx;rfl)
  |(obtain⟨t,rfl⟩:=rx;rfl)
theorem nomark(b:Expr){op:CmpOp}(h:op≠.In:=by decide)(h2:op≠.NotIn:=by decide):behindInMarks op b=false:=by
 have e1:(op == CmpOp.In)=false:=by cases op <;> first | rfl | exact absurd rfl h
 have e2:(op == CmpOp.NotIn)=false:=by cases op <;> first | rfl | exact absurd rfl h2
 cases b <;> simp[behindInMarks,e1,e2]
theorem pe_cmpR{op:CmpOp}{r:R2}(ho:OpR X (compareOp op) r)(ha:PE X a ta)(hb:PE X b tb)(hm:behindInMarks op b=false):PE X (.Compare a [op] [b] pos) (tOp r ta tb):=by
 intro pins s σ H Q I h
 exact wpAny_Compare1 (binT ha hb I h fun v u s2 x y H2 I2 rx ry q=>ho pins s2 σ H2 x y v u Q I2 rx ry q) hm
noncomputable def tTest(t:TE):TT:=fun σ H Q=>t σ H fun x H'=>∃ k,x = .bl k/\Q k H'
theorem pt_cmpR{op:CmpOp}{r:R2}(ho:OpR X (compareOp op) r)(ha:PE X a ta)(hb:PE X b tb)(hm:behindInMarks op b=false):PT X (.Compare a [op] [b] pos) (tTest (tOp r ta tb)):=by
 intro pins s σ H Q I h
 refine wpAny_isTrue_Compare1 (thn (ha pins s σ H _ I h) fun v s1 ⟨x,H1,I1,r1,q1⟩=>thn (hb pins s1 σ H1 _ I1 q1) fun u s2 ⟨y,H2,I2,r2,q2⟩ =>
  thn (ho pins s2 σ H2 x y v u _ I2 r1 r2 q2) fun c s3 ⟨z,H3,I3,r3,k,e,q3⟩=>?_) hm
 subst e
 cases r3
 exact wpAny_truthy_bool ⟨H3,I3,q3⟩
noncomputable def TruV(K:PySem.W.Frag)(x:V)(H:Hp)(k:Bool):Prop :=
 match x with
 | .non=>k=false
 | .bl b=>k=b
 | .int i=>k=(i != 0)
 | .str y=>y.length<=sizeLine/\k=((y.length:Int) != 0)
 | .byt y=>y.size<=sizeLine/\k=((y.size:Int) != 0)
 | .ref p=>(∃ xs,SqL K H p xs/\k = !xs.isEmpty)\/(∃ xs,SqT K H p xs/\k = !xs.isEmpty)\/∃ kvs,H p=some (.dK kvs)/\k = !kvs.isEmpty
 | _=>False
theorem isEmpty_kv{κ:Type}{kvs:List (κ×V)}{vs:List (κ×Value)}(r:KV kvs vs):(!vs.isEmpty) = !kvs.isEmpty:=by
 cases r <;> rfl
theorem isEmpty_of{xs:List V}{its:List Value}(r:Vals xs its):(!its.toArray.isEmpty) = !xs.isEmpty:=by
 cases r <;> simp
theorem line63:(sizeLine:Nat)<2 ^ 63:=by rw[sizeLine_eq];decide
theorem tru_ok:TruR X (fun x H Q=>∃ k,TruV X.K x H k/\Q k H):=by
 intro pins s σ H x v Q I rx h
 obtain⟨k,e,q⟩:=h
 have hl:=line63
 have hs:sizeLine=16777216:=sizeLine_eq
 cases x with
 |non =>
  cases rx
  have e':k=false:=e
  subst e'
  exact truthy_none ⟨H,I,q⟩
 |bl b =>
  cases rx
  have e':k=b:=e
  subst e'
  exact wpAny_truthy_bool ⟨H,I,q⟩
 |int i =>
  obtain⟨t,rfl⟩:=rx
  have e':k=(i != 0):=e
  subst e'
  exact PySem.P.truthy_int ⟨H,I,q⟩
 |str y =>
  obtain⟨t,rfl⟩:=rx
  obtain⟨hy,e'⟩:y.length<=sizeLine/\k=((y.length:Int) != 0):=e
  subst e'
  exact PySem.P.truthy_str (by lia) ⟨H,I.tok _,q⟩
 |byt y =>
  obtain⟨t,rfl⟩:=rx
  obtain⟨hy,e'⟩:y.size<=sizeLine/\k=((y.size:Int) != 0):=e
  subst e'
  exact PySem.W.truthy_bytes (by lia) ⟨H,I.tok _,q⟩
 |ref p =>
  cases rx
  have e':(∃ xs,SqL X.K H p xs/\k = !xs.isEmpty)\/(∃ xs,SqT X.K H p xs/\k = !xs.isEmpty)\/∃ kvs,H p=some (.dK kvs)/\k = !kvs.isEmpty:=e
  rcases e' with⟨xs,hx,e'⟩ |⟨xs,hx,e'⟩ |⟨kvs,hx,e'⟩
  ·subst e'
   obtain⟨its,r,pl,hz⟩:=I.list hx
   have hlen:=r.length
   exact wpAny_truthy_list pl.isList (by simp only[List.size_toArray];lia) ⟨H,I.tok _,by rw[isEmpty_of r];exact q⟩
  ·subst e'
   obtain⟨its,r,pl,hz⟩:=I.tuple hx
   have hlen:=r.length
   exact truthy_tuple pl (by simp only[List.size_toArray];lia) ⟨H,I.tok _,by rw[isEmpty_of r];exact q⟩
  ·subst e'
   obtain⟨hz,hS,vs,r,m⟩:kvs.length<=sizeLine/\(p == sysModules)=false/\∃ vs,KV kvs vs/\s.heap.DictOf (mixKind X.prog X.w) p vs:=I.hok p _ hx
   have hlen:kvs.length=vs.length:=Paired.length r
   exact wpAny_truthy_dict hS m (by lia) ⟨H,I.tok _,by rw[isEmpty_kv r];exact q⟩
 | _=>exact(show False from e).elim
theorem pt_truth(ha:PE X a ta)(he:∀ whole,isTrue a X.env whole=(do let v <- whole;standAt a.pos;holding [v] (truthy v))) :
  PT X a (fun σ H Q=>ta σ H fun x H'=>∃ k,TruV X.K x H' k/\Q k H'):=by
 intro pins s σ H Q I h
 exact isTrue_plain (thn (ha pins s σ H _ I h) fun v s1 ⟨x,H1,I1,r1,q1⟩=>tru_ok pins s1 σ H1 x v Q I1 r1 q1) (he _)
theorem op_add_str:OpR X (binaryOp .Add) (fun x y H Q=>∃ i j,x = .str i/\y = .str j/\i.length+j.length<=sizeLine/\Q (.str (i++j)) H):=by
 intro pins s σ H x y v u Q I rx ry h
 obtain⟨i,j,rfl,rfl,hz,q⟩:=h
 obtain⟨t,rfl⟩:=rx
 obtain⟨t',rfl⟩:=ry
 exact add_str (fun t' tk=>⟨.str (i++j),H,I.tok _,⟨_,rfl⟩,q⟩) hz
theorem vals1{x:V}{us:List Value}(r:Vals [x] us):∃ u,us=[u]/\RelV x u:=by
 cases r with
 |cons r1 r2=>cases r2;exact⟨_,rfl,r1⟩
theorem vals2{x y:V}{us:List Value}(r:Vals [x,y] us):∃ u w',us=[u,w']/\RelV x u/\RelV y w':=by
 cases r with
 |cons r1 r2 =>
  cases r2 with
  |cons r3 r4=>cases r4;exact⟨_,_,rfl,r1,r3⟩
theorem call_abs:CallR X (.builtin "abs") (fun xs H Q=>∃ i,xs=[.int i]/\Q (.int (if i<0 then -i else i)) H):=by
 intro pins s σ H xs us Q I r h
 obtain⟨i,rfl,q⟩:=h
 obtain⟨u,rfl,t,rfl⟩:=vals1 r
 exact call_abs_int fun u tk=>⟨.int (if i<0 then -i else i),H,I.tok _,⟨_,rfl⟩,q⟩
theorem call_max2(hc:X.calm=true):CallR X (.builtin "max") (fun xs H Q=>∃ i j,xs=[.int i,.int j]/\Q (.int (if j > i then j else i)) H):=by
 intro pins s σ H xs us Q I r h
 obtain⟨i,j,rfl,q⟩:=h
 obtain⟨u,w',rfl,⟨t,rfl⟩,⟨t',rfl⟩⟩:=vals2 r
 refine max_two_ints (I.ok.hd hc) fun h' tk k=>⟨_,H,I.kept k,?_,q⟩
 by_cases hj:j > i
 ·rw[if_pos hj,if_pos hj];exact⟨_,rfl⟩
 ·rw[if_neg hj,if_neg hj];exact⟨_,rfl⟩
theorem call_min2(hc:X.calm=true):CallR X (.builtin "min") (fun xs H Q=>∃ i j,xs=[.int i,.int j]/\Q (.int (if j<i then j else i)) H):=by
 intro pins s σ H xs us Q I r h
 obtain⟨i,j,rfl,q⟩:=h
 obtain⟨u,w',rfl,⟨t,rfl⟩,⟨t',rfl⟩⟩:=vals2 r
 refine min_two_ints (I.ok.hd hc) fun h' tk k=>⟨_,H,I.kept k,?_,q⟩
 by_cases hj:j<i
 ·rw[if_pos hj,if_pos hj];exact⟨_,rfl⟩
 ·rw[if_neg hj,if_neg hj];exact⟨_,rfl⟩
theorem call_int1:CallR X (.type "int") (fun xs H Q=>(∃ i,xs=[.int i]/\Q (.int i) H)\/∃ k,xs=[.bl k]/\Q (.int (if k then 1 else 0)) H):=by
 intro pins s σ H xs us Q I r h
 rcases h with⟨i,rfl,q⟩ |⟨k,rfl,q⟩
 ·obtain⟨u,rfl,t,rfl⟩:=vals1 r
  exact call_int_int ⟨.int i,H,I,⟨_,rfl⟩,q⟩
 ·obtain⟨u,rfl,r1⟩:=vals1 r
  cases r1
  exact call_int_bool ⟨.int (if k then 1 else 0),H,I.tok _,⟨_,rfl⟩,q⟩
theorem call_str_int:CallR X (.type "str") (fun xs H Q=>∃ i,xs=[.int i]/\i.natAbs.log2<1920/\Q (.str (toString i)) H):=by
 intro pins s σ H xs us Q I r h
 obtain⟨i,rfl,hz,q⟩:=h
 obtain⟨u,rfl,t,rfl⟩:=vals1 r
 exact PySem.P.str_of_int hz ⟨.str _,H,I.tok _,⟨_,rfl⟩,q⟩
end
open PySem PySem.Spec PyProof.Rows
structure ObjM(h:Heap)(x dx C:Addr)(mA:Str->Option Value):Prop where
 obj:h.get? x=some (PySem.W.instObj C dx)
 ns:h.Ns1 dx mA
 ne:dx≠x
theorem lookIn_ns{h:Heap}{dx:Addr}{mA:Str->Option Value}(n:h.Ns1 dx mA):∃ od,h.get? dx=some od/\∀ name,PySem.W.lookIn name od=some (mA name):=by
 obtain⟨o,es,ep,ho,hd,hk,_,hm⟩:=n
 refine⟨o,ho,fun name=>?_⟩
 have e:=hm name
 unfold nsFind findBy at e
 rw[<- Array.find?_toList]at e
 unfold PySem.W.lookIn
 rw[hd]
 dsimp only
 split
 ·rename_i y q
  rw[q]at e
  exact congrArg some e
 ·rename_i q
  rw[q]at e
  have a:es.toList.any (·.refKey)=false:=by
   rw[List.any_eq_false]
   intro y hy
   obtain⟨z,t,hkey⟩:=hk y (Array.mem_toList_iff.mp hy)
   simp[DictEntry.refKey,hkey]
  have a':¬ es.toList.any (·.refKey)=true:=by rw[a];exact Bool.false_ne_true
  rw[if_neg a']
  exact congrArg some e
theorem ObjM.look{h:Heap}{x dx C:Addr}{mA:Str->Option Value}(I:ObjM h x dx C mA):∃ od,PySem.W.InstAt h x (PySem.W.instObj C dx) C (some od)/\∀ name,PySem.W.lookIn name od=some (mA name) :=
 let ⟨od,ho,hl⟩:=lookIn_ns I.ns
 ⟨od,⟨I.obj,rfl,rfl,ho⟩,hl⟩
theorem RelO.some_of{v:V}{o:Option Value}(r:RelO (some v) o):∃ u,o=some u/\RelV v u:=by
 cases o with
 |none=>exact(show False from r).elim
 |some u=>exact⟨u,rfl,r⟩
section
variable{P:Program}{w:World}{H H':Hp}{h h':Heap}{a C dx:Addr}{fs fs':List (Str×V)}
theorem ins_get(hok:HOk P w H h)(e:H a=some (.ins C dx fs)):∃ mA,ObjM h a dx C mA/\(∀ f,RelO (fs.lookup f) (mA f))/\PySem.Within mA (fs.map (·.1))/\fs.length<=1000/\H dx=some (.own a):=by
 obtain⟨d,z,ne,ob,mA,n,r,q⟩:=(show ObjOk P w H h a (.ins C dx fs)from hok a _ e)
 exact⟨mA,⟨ob,n,ne⟩,r,q,z,d⟩
end
structure Cls(K:PySem.W.Frag)(C:Addr):Prop where
 pg:PySem.W.plainGet K C Str.empty=true
 hd:PySem.W.hasDictIn K C=true
 po:PySem.W.plainOver K C=true
 sa:PySem.W.findIn K (.ref C) "__setattr__" = some (some (.builtin "object.__setattr__"))
theorem Cls.get{K:PySem.W.Frag}{C:Addr}(c:Cls K C)(f:Str):PySem.W.plainGet K C f=true:=c.pg
section
variable{X:Cx}{pins:List (Addr×Obj)}{σ:St}{H:Hp}{s:Shared}{A:Around}{E:Value->Shared->Prop}{Q:Value->Shared->Prop}{c:Value}{b:Bool}
inductive TyOf(K:PySem.W.Frag)(H:Hp):V->Value->Prop where
 |non:TyOf K H .non (.type "NoneType")
 |bl (x:Bool):TyOf K H (.bl x) (.type "bool")
 |int (i:Int):TyOf K H (.int i) (.type "int")
 |str (x:Str):TyOf K H (.str x) (.type "str")
 |flt (x:UInt64):TyOf K H (.flt x) (.type "float")
 |lst {a:Addr}{xs:List V} (e:H a=some (.lst xs)):TyOf K H (.ref a) (.type "list")
 |frz {a:Addr}{o:Obj}{xs:List V} (e:H a=some (.frz o (.lst xs))):TyOf K H (.ref a) (.type "list")
 |tup {a:Addr}{xs:List V} (e:H a=some (.tup xs)):TyOf K H (.ref a) (.type "tuple")
 |dK {a:Addr}{kvs:List (Key×V)} (e:H a=some (.dK kvs)):TyOf K H (.ref a) (.type "dict")
 |dT {a:Addr}{kvs:List (List Key×V)} (e:H a=some (.dT kvs)):TyOf K H (.ref a) (.type "dict")
 |ins {a C dx:Addr}{fs:List (Str×V)} (e:H a=some (.ins C dx fs)) (cl:Cls K C) (ha:PySem.W.findIn K (.ref C) "__class__" = some (some (.builtin "object.__class__")))
   (hn:PySem.W.specialIn K (.builtin "object.__class__") "__get__" = some (some (.builtin "getset_descriptor.__get__"))) (htk:PySem.W.takesIn K (.builtin "object.__class__")=some true)
   (hm:PySem.W.mroIn K C (.type "object")=some true):TyOf K H (.ref a) (.ref C)
theorem isinst_ok{x:V}{u t:Value}(I:Inv X pins σ H s)(rx:RelV x u)(ty:TyOf X.K H x t)(e:PySem.W.kitOne X.K t c=some b)(h:∀ tk,Q (.bool b) { s with toks:=tk }) :
  wpAny (model X.prog X.w) A (call (.builtin "isinstance") [u,c]) Q E s:=by
 cases ty with
 |non=>cases(show u=Value.none from rx);exact PySem.W.kia_one PySem.W.kitx_none I.kIn True.intro e (fun z=>nomatch z) h
 |bl y=>cases(show u=Value.bool y from rx);exact PySem.W.kia_one PySem.W.kitx_bool I.kIn True.intro e (fun z=>nomatch z) h
 |int i=>obtain⟨t,q⟩:=(show ∃ t,u=Value.int i t from rx);cases q;exact PySem.W.kia_one PySem.W.kitx_int I.kIn True.intro e (fun z=>nomatch z) h
 |str y=>obtain⟨t,q⟩:=(show ∃ t,u=Value.str y t from rx);cases q;exact PySem.W.kia_one PySem.W.kitx_str I.kIn True.intro e (fun z=>nomatch z) h
 |flt y=>obtain⟨t,q⟩:=(show ∃ t,u=Value.float y t from rx);cases q;exact PySem.W.kia_one PySem.W.kitx_float I.kIn True.intro e (fun z=>nomatch z) h
 | @lst a xs ea =>
  cases(show u=Value.ref a from rx)
  obtain⟨_,_,n,_,h1⟩:=(show ObjOk X.prog X.w H s.heap a (.lst xs)from I.hok a _ ea)
  exact PySem.W.kia_one PySem.W.kitx_list I.kIn ⟨_,h1,rfl⟩ e (fun z=>nomatch z) h
 | @frz a ob xs ea =>
  cases(show u=Value.ref a from rx)
  obtain⟨_,_,_,n,_,h1⟩:=(show ObjOk X.prog X.w H s.heap a (.frz ob (.lst xs))from I.hok a _ ea)
  exact PySem.W.kia_one PySem.W.kitx_list I.kIn ⟨_,h1,rfl⟩ e (fun z=>nomatch z) h
 | @tup a xs ea =>
  cases(show u=Value.ref a from rx)
  obtain⟨_,_,_,p⟩:=(show ObjOk X.prog X.w H s.heap a (.tup xs)from I.hok a _ ea)
  obtain⟨o,h1,h2,_⟩:=p
  exact PySem.W.kia_one PySem.W.kitx_tuple I.kIn ⟨o,h1,h2⟩ e (fun z=>nomatch z) h
 | @dK a kvs ea =>
  cases(show u=Value.ref a from rx)
  obtain⟨_,_,vs,_,p⟩:=(show ObjOk X.prog X.w H s.heap a (.dK kvs)from I.hok a _ ea)
  obtain⟨o,es,ep,h1,h2,_⟩:=p
  exact PySem.W.kia_one PySem.W.kitx_dict I.kIn ⟨o,h1,h2.1⟩ e (fun z=>nomatch z) h
 | @dT a kvs ea =>
  cases(show u=Value.ref a from rx)
  obtain⟨_,_,xs,_,o,es,ep,h1,h2,_⟩:=(show ObjOk X.prog X.w H s.heap a (.dT kvs)from I.hok a _ ea)
  exact PySem.W.kia_one PySem.W.kitx_dict I.kIn ⟨o,h1,h2.1⟩ e (fun z=>nomatch z) h
 | @ins a C dx fs ea cl ha hn htk hm =>
  cases(show u=Value.ref a from rx)
  obtain⟨mA,O,_⟩:=ins_get I.hok ea
  obtain⟨od,J,_⟩:=O.look
  exact PySem.W.kia_one (PySem.W.kitx_own (cl.get _) cl.hd ha hn htk hm) I.kIn J e (fun z=>nomatch z) h
end
open PySem PySem.Spec PyProof.Rows
theorem deep_gd{A:Around}{env:Env}(h:A.guards=some []):(A.deeper env).guards=some []:=by
 first | exact h | simp[Around.deeper,h]
structure Room(k:Nat)(A:Around):Prop where
 hd:A.handled=none
 dp:A.depth+3 * k+5<recursionLimit
 un:A.units+16 * k+200<cLine
 gd:A.guards=some []
theorem Room.mono{j k:Nat}{A:Around}(r:Room k A)(h:j<=k):Room j A:=⟨r.hd,by have:=r.dp;lia,by have:=r.un;lia,r.gd⟩
theorem Room.deeper{k:Nat}{A:Around}(r:Room (k+1) A)(env:Env):Room k (A.deeper env) :=
 ⟨r.hd,by have:=r.dp;show A.depth+1+3 * k+5<_;lia,by have:=r.un;show A.units+3+16 * k+200<_;lia,deep_gd r.gd⟩
theorem Room.depth{k:Nat}{A:Around}(r:Room k A):A.depth<recursionLimit:=by have:=r.dp;lia
theorem Room.units{k:Nat}{A:Around}(r:Room k A):A.units+64<cLine:=by have:=r.un;lia
theorem Room.units0{k:Nat}{A:Around}(r:Room k A):A.units<cLine:=by have:=r.un;lia
noncomputable def tNil:TA:=fun _ H Q=>Q [] H
noncomputable def tCons(ta:TE)(tr:TA):TA:=fun σ H Q=>ta σ H fun x H1=>tr σ H1 fun xs H2=>Q (x :: xs) H2
section
variable{X:Cx}{e:Expr}{es:List Expr}{te:TE}{t:TA}{pos:Pos}
theorem pa_nil:PA X [] tNil:=fun _ _ _ _ H Q I h=>Calls.spliced_nil ⟨[],H,I,.nil,h⟩
theorem pa_cons(ha:PE X e te)(hr:PA X es t)(hs:starEach (e :: es) X.env=(false,eval e X.env) :: starEach es X.env:=by rfl):PA X (e :: es) (tCons te t):=by
 intro pos pins s σ H Q I h
 rw[hs]
 show wpAny _ _ (spliced ((false,eval e X.env) :: backTo pos (starEach es X.env))) _ _ s
 refine Calls.spliced_cons (thn (ha pins s σ H _ I h) fun u s1 ⟨x,H1,I1,r1,q1⟩=>?_)
 exact thn (hr pos pins s1 σ H1 _ I1 q1) fun us s2 ⟨xs,H2,I2,r2,q2⟩=>⟨x :: xs,H2,I2,.cons r1 r2,q2⟩
noncomputable def tTup(t:TA):TE:=fun σ H Q=>t σ H fun xs H1=>xs.length<=sizeLine/\∀ p,H1 p=none->Q (.ref p) (upd H1 p (.tup xs))
noncomputable def tLst(t:TA):TE:=fun σ H Q=>t σ H fun xs H1=>xs.length<=sizeLine/\∀ p,H1 p=none->Q (.ref p) (upd H1 p (.lst xs))
theorem pe_tup{x1}(h:PA X es t):PE X (.Tuple es x1 pos) (tTup t):=by
 intro pins s σ H Q I hq
 refine wpAny_Tuple_spliced (thn (h pos pins s σ H _ I hq) fun us s1 ⟨xs,H1,I1,r,z,q⟩=>⟨by rw[<- r.length];exact z,?_⟩)
 have hf:H1 s1.heap.objs.size=none:=I1.hok.fresh (Nat.le_refl _)
 refine⟨.ref s1.heap.objs.size,upd H1 s1.heap.objs.size (.tup xs),I1.laid (t':=s1.toks) (fun b u e=>Heap.get?_push_of_some _ e) (Nat.le_refl _) ?_,rfl,q _ hf⟩
 exact⟨z,us,r,⟨_,Heap.get?_push_size _ rfl,rfl,_,rfl⟩⟩
theorem pe_lst(h:PA X es t):PE X (.List es pos) (tLst t):=by
 intro pins s σ H Q I hq
 refine wpAny_List_spliced (thn (h pos pins s σ H _ I hq) fun us s1 ⟨xs,H1,I1,r,z,q⟩=>⟨by rw[<- r.length];exact z,?_⟩)
 have hf:H1 s1.heap.objs.size=none:=I1.hok.fresh (Nat.le_refl _)
 refine⟨.ref s1.heap.objs.size,upd H1 s1.heap.objs.size (.lst xs),I1.laid (t':=s1.toks) (fun b u e=>Heap.get?_push_of_some _ e) (Nat.le_refl _) ?_,rfl,q _ hf⟩
 exact⟨z,us,0,r,Heap.get?_push_size _ rfl⟩
end
noncomputable abbrev Sp:=List V->Hp->VK->XK->Prop
noncomputable abbrev CXT:=List Env->Hp->Shared->XK->Value->Shared->Prop
structure Env0(P:Program)(w:World)(K:PySem.W.Frag)(mg:Str->Option Value)(base:Heap)(A:Around)(outer:List Env)(s:Shared)(H:Hp):Prop where
 frames:A.frames=some outer
 mod:Mod K mg base
 bs:∀ b o,base.get? b=some o->s.heap.get? b=some o/\H b=none
 bsz:base.objs.size<=s.heap.objs.size
 funs:s.heap.FunFrames base outer
 frf:∀ b∈frs outer,H b=none
 hok:HOk P w H s.heap
 bare:AllBare s.gens
noncomputable def CE(outer:List Env)(P:Program)(w:World)(H:Hp)(s:Shared)(Q:VK)(u:Value)(s':Shared):Prop :=
 ∃ v H',s'.os=s.os/\AllBare s'.gens/\Un (frs outer) [] H H' s.heap s'.heap/\HOk P w H' s'.heap/\RelV v u/\Q v H'
noncomputable def CR(CX:CXT)(outer:List Env)(P:Program)(w:World)(H:Hp)(s:Shared)(Q:VK)(E:XK)(r:Result)(s':Shared):Prop :=
 match r with
 | .ok (.ret u)=>CE outer P w H s Q u s'
 | .ok _=>False
 | .error e=>CX outer H s E e s'
structure FnOk(P:Program)(w:World)(K:PySem.W.Frag)(mg:Str->Option Value)(base:Heap)(CX:CXT)(k:Nat)(f:Addr)(fd:FuncData)(ps:List Str)(sp:Sp):Prop where
 len:∀ vs H Q E,sp vs H Q E->vs.length=ps.length
 run:∀ (A:Around) (outer:List Env) (s:Shared) (H:Hp) (args:Args) (us:List Value) (vs:List V) (Q:VK) (E:XK),Room k A->Env0 P w K mg base A outer s H->BindsTo s fd args (ps.zip us)->Vals vs us->sp vs H Q E ->
  codeAny (model P w) A (.call (.ref f) args) (CR CX outer P w H s Q E) s
section
variable{X:Cx}{pins:List (Addr×Obj)}{σ:St}{H:Hp}{s s':Shared}
theorem Inv.env0(I:Inv X pins σ H s):Env0 X.prog X.w X.K X.mg X.base X.A X.stack s H :=
 ⟨I.ok.frames,I.ok.mod,I.bs,Nat.le_trans I.ok.bsz I.sz,I.stack,I.stkFree,I.hok,I.bare⟩
theorem Inv.after{Q:VK}{u:Value}(I:Inv X pins σ H s)(h:CE X.stack X.prog X.w H s Q u s'):EP X pins σ Q u s':=by
 obtain⟨v,H',os,bare,un,hok,r,q⟩:=h
 obtain⟨hh,g,d,t,os'⟩:=s'
 obtain rfl:os'=s.os:=os
 exact⟨v,H',I.call (h':=hh) (g':=g) (d':=d) (t':=t) (ch:=[]) un hok bare (fun b z=>absurd z (by simp)),r,q⟩
end
noncomputable def tCall(sp:Sp)(dvs:List V)(E:XK)(t:TA):TE:=fun σ H Q=>t σ H fun vs H1=>sp (vs++dvs) H1 Q E
noncomputable def Binds(K:PySem.W.Frag)(fd:FuncData)(ps:List Str)(ds:List Value):Prop :=
 ∀ (s:Shared) (us:List Value),K.In s.heap->(us++ds).length=ps.length->BindsTo s fd ⟨us,[]⟩ (ps.zip (us++ds))
theorem Binds.all{K:PySem.W.Frag}{fd:FuncData}{ps:List Str}(h:∀ us:List Value,us.length=ps.length->bindArgs fd ⟨us,[]⟩=pure (ps.zip us)):Binds K fd ps []:=fun s us _ hl=>by
 rw[List.append_nil]at hl ⊢
 exact .of_eq (h us hl)
noncomputable def Passes(CX:CXT)(X:Cx)(E:XK):Prop:=∀ (pins:List (Addr×Obj)) (σ:St) (H:Hp) (s:Shared) (e:Value) (s':Shared),Inv X pins σ H s->CX X.stack H s E e s'->X.xe e s'
section
variable{X:Cx}{CX:CXT}{k:Nat}{f C:Addr}{fd:FuncData}{ps:List Str}{sp:Sp}{dvs:List V}{ds:List Value}{E:XK}{x m:Str}{p pos apos:Pos}{e o:Expr}{es:List Expr}{ta:TE}{t:TA}
theorem run_fn{pins:List (Addr×Obj)}{σ:St}{H:Hp}{s:Shared}{Q:VK}{us:List Value}{vs:List V}(F:FnOk X.prog X.w X.K X.mg X.base CX k f fd ps sp)(hr:Room k X.A)(hb:Binds X.K fd ps ds)(hd:Vals dvs ds)(hx:Passes CX X E)
  (I:Inv X pins σ H s) (r:Vals vs us) (h:sp (vs++dvs) H Q E):wpAny (model X.prog X.w) X.A (call (.ref f) us) (EP X pins σ Q) X.xe s:=by
 have r2:Vals (vs++dvs) (us++ds):=r.append hd
 have hl:(us++ds).length=ps.length:=by rw[<- r2.length];exact F.len _ _ _ _ h
 refine wpAny_call (codeAny_mono (F.run X.A X.stack s H ⟨us,[]⟩ (us++ds) (vs++dvs) Q E hr I.env0 (hb s us I.kIn hl) r2 h) fun r s' hq=>?_)
 cases r with
 |error e=>exact hx pins σ H s e s' I hq
 |ok fl =>
  cases fl with
  |ret u=>exact I.after hq
  |next=>exact False.elim hq
  |brk=>exact False.elim hq
  |cont=>exact False.elim hq
theorem pe_call(F:FnOk X.prog X.w X.K X.mg X.base CX k f fd ps sp)(hr:Room k X.A)(hg:Gl X x)(hm:X.mg x=some (.ref f))(hk:PySem.W.keepIn X.K (.ref f)=true)(hb:Binds X.K fd ps ds)(hd:Vals dvs ds)(hx:Passes CX X E)
  (ha:PA X (e :: es) t) (hdb:(x ==("__debug__":Str))=false:=by decide) (he:starEach (e :: es) X.env=(false,eval e X.env) :: starEach es X.env:=by rfl) (hpl:(backTo pos (starEach es X.env)).any (·.1)=false:=by rfl) :
  PE X (.Call (.Name x p) (e :: es) [] pos) (tCall sp dvs E t):=by
 intro pins s σ H Q I h
 refine wpAny_Call_Name_kw (ld_glob I hg hm ?_ hdb)
 refine PySem.W.callWith_K (h₀:=X.base) I.ok.mod.kin hk (thn (ha pos pins s σ H _ I h) fun us s1 ⟨vs,H1,I1,r,q⟩=>⟨I1.kIn,?_⟩) he hpl
 exact run_fn F hr hb hd hx I1 r q
end
noncomputable def PK(X:Cx)(kws:List Keyword)(t:TA):Prop :=
 ∀ (pos:Pos) (pins:List (Addr×Obj)) (s:Shared) (σ:St) (H:Hp) (Q:List V->Hp->Prop),Inv X pins σ H s->t σ H Q->wpAny (model X.prog X.w) X.A (evalAll ((backToKw pos (keywordEach kws X.env)).map (·.2))) (AP X pins σ Q) X.xe s
section
variable{X:Cx}{CX:CXT}{k:Nat}{f C:Addr}{fd:FuncData}{ps ks:List Str}{sp:Sp}{E:XK}{x m:Str}{p pos apos kpos:Pos}{e o:Expr}{es:List Expr}{kws:List Keyword}{te ta:TE}{t tk:TA}{nm:Option Str}
theorem pk_nil:PK X [] tNil:=fun _ _ _ _ H Q I h=>wpAny_evalAll_nil ⟨[],H,I,.nil,h⟩
theorem pk_cons(ha:PE X e te)(hr:PK X kws t):PK X (⟨nm,e,kpos⟩ :: kws) (tCons te t):=by
 intro pos pins s σ H Q I h
 show wpAny _ _ (evalAll ((do let v <- eval e X.env;standAt pos;pure v) :: (backToKw pos (keywordEach kws X.env)).map (·.2))) _ _ s
 refine wpAny_evalAll_cons (wpAny_bind (thn (ha pins s σ H _ I h) fun u s1 ⟨x,H1,I1,r1,q1⟩=>wpAny_bind (wpAny_standAt (wpAny_pure ?_))))
 exact thn (hr pos pins s1 σ H1 _ I1 q1) fun us s2 ⟨xs,H2,I2,r2,q2⟩=>⟨x :: xs,H2,I2,.cons r1 r2,q2⟩
variable{g:List Value->List Value->List Value}{gV:List V->List V->List V}
end
structure FnScope(N P:List Str)(sc:Scope):Prop where
 kind:sc.kind = .function
 co:sc.isCoroutine=false
 gen:sc.isGenerator=false
 nd:N.Nodup
 pre:N.take P.length=P
 par:∀ x∈P,sc.names.lookup x=some .local\/sc.names.lookup x=some .cell
 nofree:∀ y∈sc.names,y.2≠.free
theorem bindL_out{kindOf:Str->Option NameKind}{x:Str}:∀ {binds:List (Str×Value)}{m:Str->Option Value},(∀ v,(x,v)∉binds)->bindL kindOf binds m x=m x
 |[],_,_=>rfl
 |(n,v) :: r,m,h=>by
  unfold bindL
  rw[bindL_out fun w hw=>h w (List.mem_cons_of_mem _ hw)]
  split
  ·have:x≠n:=by rintro rfl;exact h v List.mem_cons_self
   simp[this]
  ·rfl
theorem bindC_out{kindOf:Str->Option NameKind}{x:Str}:∀ {binds:List (Str×Value)}{m:Str->Option Value},(∀ v,(x,v)∉binds)->bindC kindOf binds m x=m x
 |[],_,_=>rfl
 |(n,v) :: r,m,h=>by
  unfold bindC
  rw[bindC_out fun w hw=>h w (List.mem_cons_of_mem _ hw)]
  split
  ·rfl
  ·have:x≠n:=by rintro rfl;exact h v List.mem_cons_self
   simp[this]
theorem bindL_get{kindOf:Str->Option NameKind}{x:Str}{v:Value}:∀ {P:List Str}{vs:List Value}{i:Nat}{m:Str->Option Value},P.Nodup->P[i]?=some x->vs[i]?=some v->kindOf x=some .local ->
  bindL kindOf (P.zip vs) m x=some v
 |[],_,_,_,_,h,_,_=>by simp at h
 | _ :: _,[],_,_,_,_,h,_=>by simp at h
 |p :: P,w :: vs,0,m,nd,h1,h2,hk=>by
  simp at h1 h2;subst h1;subst h2
  show bindL kindOf ((p,w) :: P.zip vs) m p=_
  unfold bindL
  rw[bindL_out fun v hv=>(List.nodup_cons.mp nd).1 (List.of_mem_zip hv).1,if_pos hk]
  simp
 |p :: P,w :: vs,i+1,m,nd,h1,h2,hk=>by
  show bindL kindOf ((p,w) :: P.zip vs) m x=_
  unfold bindL
  exact bindL_get (i:=i) (List.nodup_cons.mp nd).2 (by simpa using h1) (by simpa using h2) hk
theorem bindC_get{kindOf:Str->Option NameKind}{x:Str}{v:Value}:∀ {P:List Str}{vs:List Value}{i:Nat}{m:Str->Option Value},P.Nodup->P[i]?=some x->vs[i]?=some v->kindOf x≠some .local ->
  bindC kindOf (P.zip vs) m x=some v
 |[],_,_,_,_,h,_,_=>by simp at h
 | _ :: _,[],_,_,_,_,h,_=>by simp at h
 |p :: P,w :: vs,0,m,nd,h1,h2,hk=>by
  simp at h1 h2;subst h1;subst h2
  show bindC kindOf ((p,w) :: P.zip vs) m p=_
  unfold bindC
  rw[bindC_out fun v hv=>(List.nodup_cons.mp nd).1 (List.of_mem_zip hv).1,if_neg hk]
  simp
 |p :: P,w :: vs,i+1,m,nd,h1,h2,hk=>by
  show bindC kindOf ((p,w) :: P.zip vs) m x=_
  unfold bindC
  exact bindC_get (i:=i) (List.nodup_cons.mp nd).2 (by simpa using h1) (by simpa using h2) hk
noncomputable def start(N:List Str)(vs:List V):St:=vs.map some++List.replicate (N.length-vs.length) none
noncomputable def cxOf(CX:CXT)(P:Program)(w:World)(K:PySem.W.Frag)(mg:Str->Option Value)(base:Heap)(N:List Str)(qual:Str)(scope:Scope)(f:Addr)(cd:Value)(A:Around)(outer:List Env)(s:Shared)(H:Hp)(E:XK):Cx where
 prog:=P
 w:=w
 K:=K
 mg:=mg
 base:=base
 A:=A.deeper (envOfC qual scope s.heap.objs.size f cd)
 N:=N
 s₀:=s
 H₀:=H
 env:=envOfC qual scope s.heap.objs.size f cd
 outer:=outer
 stack:=envOfC qual scope s.heap.objs.size f cd :: outer
 ex:=[]
 calm:=true
 fn:=fun _=>true
 pn:=[]
 xe:=fun e s'=>wpAny (model P w) (A.deeper (envOfC qual scope s.heap.objs.size f cd)) (leaving (envOfC qual scope s.heap.objs.size f cd) e) (fun _ s''=>CX outer H s E e s'') (fun e' s''=>CX outer H s E e' s'') s'
theorem cell_has{sc:Scope}{n:Nat}{x:Str}(h:sc.names.lookup x=some .cell):∃ c,(cellsFrom n sc.names []).lookup x=some c:=by
 have q:=PySem.W.cellsFrom_some sc.names n [] (.inl h)
 exact Option.isSome_iff_exists.mp q
theorem inv_start{CX:CXT}{P:Program}{w:World}{K:PySem.W.Frag}{mg:Str->Option Value}{base:Heap}{N ps:List Str}{qual:Str}{scope:Scope}{f:Addr}{cd:Value}{A:Around}{outer:List Env}{s s1:Shared}{H:Hp}{E:XK}{us:List Value}{vs:List V}
  (S:FnScope N ps scope) (hd:A.handled=none) (e0:Env0 P w K mg base A outer s H) (hl:vs.length=ps.length) (r:Vals vs us)
  (x:InCallC s s.heap.objs.size (bindL (envOfC qual scope s.heap.objs.size f cd).kindOf (ps.zip us) fun _=>none) (cellsFrom (s.heap.objs.size+1) scope.names []) (bindC (envOfC qual scope s.heap.objs.size f cd).kindOf (ps.zip us) fun _=>none) s1) :
  Inv (cxOf CX P w K mg base N qual scope f cd A outer s H E) [] (start N vs) H s1:=by
 have hpl:ps.length<=N.length:=by have:=congrArg List.length S.pre;rw[List.length_take]at this;lia
 obtain⟨h1,tk,rfl,hk⟩:=x.done
 have noA:∀ b:Addr,b∉(cxOf CX P w K mg base N qual scope f cd A outer s H E).ex:=fun b z=>absurd (show b∈([]:List Addr)from z) (by simp)
 refine⟨⟨e0.mod,S.kind,rfl,rfl,Nat.le_refl _,fun y z c h1 h2=>?_,fun y hy=>?_,fun y c _ h=>?_,fun _=>hd,Around.frames_deeper e0.frames,.inr ⟨rfl,rfl⟩,fun b z=>absurd z (noA b),e0.bs,e0.bsz,fun b _ _=>noA b,fun b z=>absurd z (noA b),e0.funs,e0.frf⟩,
  rfl,e0.bare,Un.kept hk,⟨_,x.toInCall.ns,fun i y v h1 h2 h3=>?_⟩,fun y c h=>⟨_,x.cell y c h⟩,e0.hok.fresh (Nat.le_refl _),fun y c h=>?_,fun p hp=>absurd (show p∈([]:List (Addr×Obj))from hp) (by simp),e0.hok.kept hk,?_⟩
 ·exact name_of_addr x.apart (PySem.mem_of_lookup h1) (PySem.mem_of_lookup h2)
 ·have hy:scope.names.lookup y=some .cell\/scope.names.lookup y=some .free:=hy
  rcases hy with hy | hy
  ·exact cell_has hy
  ·exact absurd rfl (S.nofree _ (PySem.mem_of_lookup hy))
 ·exact Nat.le_of_lt (x.above y c (PySem.mem_of_lookup h))
 ·have hi:i<vs.length:=by
   unfold start at h2
   by_cases hi:i<vs.length
   ·exact hi
   ·rw[List.getElem?_append_right (by simpa using hi)]at h2
    rw[List.getElem?_replicate]at h2
    split at h2 <;> cases h2
  have ha:vs[i]?=some v:=by
   unfold start at h2
   rw[List.getElem?_append_left (by simpa using hi),List.getElem?_map]at h2
   cases e:vs[i]? with
   |none=>rw[e]at h2;cases h2
   |some a=>rw[e]at h2;cases h2;rfl
  obtain⟨u,hu,rv⟩:=r.get ha
  have hp:ps[i]?=some y:=by
   rw[<- S.pre,List.getElem?_take_of_lt (by lia)];exact h1
  have ndP:ps.Nodup:=by rw[<- S.pre];exact S.nd.sublist (List.take_sublist _ _)
  refine⟨u,rv,?_⟩
  rcases S.par y (List.mem_of_getElem? hp)with k | k
  ·exact .inl ⟨k,bindL_get ndP hp hu k⟩
  ·obtain⟨c,e⟩:=cell_has (n:=s.heap.objs.size+1) k
   refine .inr ⟨.inl k,c,e,?_⟩
   have q:=x.cell y c e
   rw[bindC_get ndP hp hu (by show scope.names.lookup y≠_;rw[k];decide)]at q
   exact q
 ·exact e0.hok.fresh (Nat.le_of_lt (x.above y c (PySem.mem_of_lookup h)))
 ·unfold start
  show _=N.length
  rw[List.length_append,List.length_map,List.length_replicate]
  lia
theorem fn_of{CX:CXT}{P:Program}{w:World}{K:PySem.W.Frag}{mg:Str->Option Value}{base:Heap}{k:Nat}{f:Addr}{name qual:Str}{params:Arguments}{body:List Stmt}{scope:Scope}{dV kV doc pm cdv ct oc:Value}{an od:Option Addr}
  {osl:Array (Option Value)}{N ps:List Str}{sp:Sp} (lk:K.lookup f=some ⟨oc,od,.func (PySem.W.fnOf name qual params body scope dV kV doc pm an cdv ct),osl⟩) (hcd:PySem.W.codeIn K cdv qual=true) (S:FnScope N ps scope)
  (len:∀ vs H Q E,sp vs H Q E->vs.length=ps.length)
  (hbody:∀ (A:Around) (outer:List Env) (s:Shared) (H:Hp) (vs:List V) (Q:VK) (E:XK),Room k (A.deeper (envOfC qual scope s.heap.objs.size f cdv))->sp vs H Q E ->
   ∃ t,PSs (cxOf CX P w K mg base N qual scope f cdv A outer s H E) body t/\t { nx:=fun _ H'=>Q .non H',rt:=Q } (start N vs) H) :
  FnOk P w K mg base CX (k+1) f (PySem.W.fnOf name qual params body scope dV kV doc pm an cdv ct) ps sp:=by
 refine⟨len,fun A outer s H args us vs Q E hr e0 hb r hsp=>?_⟩
 have hl:=len _ _ _ _ hsp
 have KX:K.In s.heap:=e0.mod.kin.keeps fun b o e=>(e0.bs b o e).1
 have lim:s.heap.NoLimit:=e0.mod.nolimit.keeps fun b o e=>(e0.bs b o e).1
 have hkind:∀ y∈ps.zip us,scope.names.lookup y.1=some .local\/(scope.names.lookup y.1=some .cell/\((cellsFrom (s.heap.objs.size+1) scope.names []).lookup y.1).isSome=true):=fun⟨n,v⟩ hy=>by
  rcases S.par n (List.of_mem_zip hy).1 with q | q
  ·exact .inl q
  ·exact .inr ⟨q,PySem.W.cellsFrom_some _ _ _ (.inl q)⟩
 refine codeAny_call_function hr.depth (KX _ _ lk) rfl S.co S.gen rfl (PySem.W.codeRec_of KX hcd) (hb _ _ _ _ ?_)
 refine wpAny_newFunctionEnv_cells S.kind hkind fun env he s1 x=>?_
 subst he
 refine⟨lim.keeps x.toInCall.keep,codeAny_func ?_⟩
 obtain⟨t,ht,hq⟩:=hbody A outer s H vs Q E (hr.deeper _) hsp
 have I:Inv (cxOf CX P w K mg base N qual scope f cdv A outer s H E) [] (start N vs) H s1:=inv_start S hr.hd e0 hl r x
 refine wpAny_mono (ht [] s1 (start N vs) H _ I hq) (fun fl s' hs=>?_) fun e s' hs=>hs
 have fin:∀ {σ':St}{H':Hp}{v:V}{u:Value},Inv (cxOf CX P w K mg base N qual scope f cdv A outer s H E) [] σ' H' s'->RelV v u->Q v H'->CE outer P w H s Q u s' :=
  fun {σ' H' v u} J rv q=>⟨v,H',J.os,J.bare,J.base,J.hok,rv,q⟩
 cases fl with
 |ret u =>
  obtain⟨v,σ',H',J,rv,q⟩:=hs
  exact fin J rv q
 |next =>
  obtain⟨σ',H',J,q⟩:=hs
  exact fin (v:=V.non) (u:=Value.none) J rfl q
 |brk =>
  obtain⟨_,_,_,q⟩:=hs
  exact False.elim q
 |cont =>
  obtain⟨_,_,_,q⟩:=hs
  exact False.elim q
open PySem PySem.Spec PyProof.Rows
section
variable{X:Cx}{x:Str}{p pos:Pos}{e:Expr}{es:List Expr}{t:TA}{id T:String}{r:List V->Hp->VK->Prop}
noncomputable def tCB(r:List V->Hp->VK->Prop)(t:TA):TE:=fun σ H Q=>t σ H fun vs H1=>r vs H1 Q
theorem pe_callB(hc:CallR X (.builtin id) r)(hg:Gl X x)(hm:X.mg x=none)(hv:bootBuiltins x=some (.builtin id))(ha:PA X (e :: es) t)(hn:x≠"__name__":=by decide)(hdb:(x ==("__debug__":Str))=false:=by decide)
  (he:starEach (e :: es) X.env=(false,eval e X.env) :: starEach es X.env:=by rfl) (hpl:(backTo pos (starEach es X.env)).any (·.1)=false:=by rfl):PE X (.Call (.Name x p) (e :: es) [] pos) (tCB r t):=by
 intro pins s σ H Q I h
 refine wpAny_Call_Name_kw (ld_blt I hg hm hv ?_ hn hdb)
 exact PyProof.Rows.callWith_builtin1 (thn (ha pos pins s σ H _ I h) fun us s1 ⟨vs,H1,I1,r1,q1⟩=>hc pins s1 σ H1 vs us Q I1 r1 q1) he hpl
theorem pe_callTy(hc:CallR X (.type T) r)(hg:Gl X x)(hm:X.mg x=none)(hv:bootBuiltins x=some (.type T))(ha:PA X (e :: es) t)(hn:x≠"__name__":=by decide)(hdb:(x ==("__debug__":Str))=false:=by decide)
  (he:starEach (e :: es) X.env=(false,eval e X.env) :: starEach es X.env:=by rfl) (hpl:(backTo pos (starEach es X.env)).any (·.1)=false:=by rfl):PE X (.Call (.Name x p) (e :: es) [] pos) (tCB r t):=by
 intro pins s σ H Q I h
 refine wpAny_Call_Name_kw (ld_blt I hg hm hv ?_ hn hdb)
 exact PyProof.Rows.callWith_type1 (thn (ha pos pins s σ H _ I h) fun us s1 ⟨vs,H1,I1,r1,q1⟩=>hc pins s1 σ H1 vs us Q I1 r1 q1) he hpl
end
open PySem PySem.Spec PyProof.Rows
section
variable{κ:Type}[DecidableEq κ]
noncomputable def valV(kvs:List (κ×V))(k:κ):Option V:=(kvs.find? fun kv=>decide (kv.1=k)).map (·.2)
noncomputable def putK(kvs:List (κ×V))(k:κ)(v:V):List (κ×V) :=
 if(kvs.any fun kv=>decide (kv.1=k))=true then kvs.map (fun kv=>if kv.1=k then(kv.1,v)else kv)else kvs++[(k,v)]
theorem valV_nil{k:κ}:valV ([]:List (κ×V)) k=none:=rfl
theorem valV_pos{p:κ×V}{r:List (κ×V)}{k:κ}(e:p.1=k):valV (p :: r) k=some p.2:=by simp[valV,List.find?_cons,e]
theorem valV_neg{p:κ×V}{r:List (κ×V)}{k:κ}(e:¬ p.1=k):valV (p :: r) k=valV r k:=by simp[valV,List.find?_cons,e]
theorem valV_any(k:κ):∀ kvs:List (κ×V),(kvs.any fun kv=>decide (kv.1=k))=(valV kvs k).isSome
 |[]=>rfl
 |p :: r=>by
  rw[List.any_cons]
  by_cases e:p.1=k
  ·simp only[valV_pos e,decide_eq_true e,Bool.true_or,Option.isSome_some]
  ·rw[valV_neg e,decide_eq_false e,Bool.false_or];exact valV_any k r
theorem length_putK(kvs:List (κ×V))(k:κ)(v:V):(putK kvs k v).length<=kvs.length+1:=by
 unfold putK
 split
 ·rw[List.length_map];lia
 ·rw[List.length_append,List.length_cons,List.length_nil];lia
theorem RelO.isSome_eq{o:Option V}{u:Option Value}(r:RelO o u):o.isSome=u.isSome:=by
 cases o with
 |none=>cases u with
  |none=>rfl
  |some _=>exact(show False from r).elim
 |some _=>cases u with
  |none=>exact(show False from r).elim
  |some _=>rfl
theorem KV.val{kvs:List (κ×V)}{vs:List (κ×Value)}(r:KV kvs vs)(k:κ):RelO (valV kvs k) (valueAt vs k):=by
 unfold KV at r
 induction r with
 |nil=>exact True.intro
 | @cons p q ps qs h t ih =>
  obtain⟨h1,h2⟩:=h
  by_cases e:p.1=k
  ·have e':q.1=k:=h1.symm.trans e
   have b:valueAt (q :: qs) k=some q.2:=by simp[valueAt,List.find?_cons,e']
   rw[valV_pos e,b];exact h2
  ·have e':¬ q.1=k:=fun z=>e (h1.trans z)
   have b:valueAt (q :: qs) k=valueAt qs k:=by simp[valueAt,List.find?_cons,e']
   rw[valV_neg e,b];exact ih
theorem KV.any{kvs:List (κ×V)}{vs:List (κ×Value)}(r:KV kvs vs)(k:κ):(kvs.any fun kv=>decide (kv.1=k))=vs.any fun kv=>decide (kv.1=k):=by
 unfold KV at r
 induction r with
 |nil=>rfl
 |cons h t ih=>rw[List.any_cons,List.any_cons,ih,h.1]
theorem KV.repl{kvs:List (κ×V)}{vs:List (κ×Value)}(r:KV kvs vs)(k:κ){y:V}{u:Value}(ry:RelV y u) :
  KV (kvs.map fun kv=>if kv.1=k then(kv.1,y)else kv) (vs.map fun kv=>if kv.1=k then(kv.1,u)else kv):=by
 unfold KV at r ⊢
 induction r with
 |nil=>exact .nil
 | @cons p q ps qs h t ih =>
  rw[List.map_cons,List.map_cons]
  refine .cons ?_ ih
  obtain⟨h1,h2⟩:=h
  by_cases e:p.1=k
  ·rw[if_pos e,if_pos (h1.symm.trans e)];exact⟨h1,ry⟩
  ·rw[if_neg e,if_neg (fun z=>e (h1.trans z))];exact⟨h1,h2⟩
theorem KV.put{kvs:List (κ×V)}{vs:List (κ×Value)}(r:KV kvs vs)(k:κ){y:V}{u:Value}(ry:RelV y u):KV (putK kvs k y) (stored vs k u):=by
 unfold putK stored
 rw[r.any k]
 by_cases e:(vs.any fun kv=>decide (kv.1=k))=true
 ·rw[if_pos e,if_pos e];exact r.repl k ry
 ·rw[if_neg e,if_neg e];exact Paired.snoc r ⟨rfl,ry⟩
theorem KV.length{kvs:List (κ×V)}{vs:List (κ×Value)}(r:KV kvs vs):kvs.length=vs.length:=Paired.length r
end
theorem kV_is{P:Program}{w:World}{k:Key}{u:Value}(r:RelV (kV k) u):(mixKind P w).is k u=true:=by
 cases k with
 |inl i=>obtain⟨t,e⟩:=(show ∃ t,u=Value.int i t from r);subst e;exact mixKind_int P w i t
 |inr x=>obtain⟨t,e⟩:=(show ∃ t,u=Value.str x t from r);subst e;exact mixKind_str P w x t
theorem items_are{P:Program}{w:World}:∀ {ks:List Key}{us:List Value},Vals (ks.map kV) us->ItemsAre (mixKind P w) ks us
 |[],_,r=>by rw[List.map_nil]at r;cases r;exact .nil
 |k :: ks,_,r=>by
  rw[List.map_cons]at r
  cases r with
  |cons h t=>exact .cons (kV_is h) (items_are t)
noncomputable abbrev KT(H:Hp):List (List Key×V)->List (List Key×Addr×Value)->Prop:=Paired fun p q=>p.1=q.1/\H q.2.1=some (.tup (p.1.map kV))/\RelV p.2 q.2.2
theorem KT.val{H:Hp}{kvs:List (List Key×V)}{xs:List (List Key×Addr×Value)}(r:KT H kvs xs)(k:List Key):RelO (valV kvs k) ((atKey xs k).map (·.2)):=by
 induction r with
 |nil=>exact True.intro
 | @cons p q ps qs h t ih =>
  obtain⟨h1,_,h2⟩:=h
  by_cases e:p.1=k
  ·have e':q.1=k:=h1.symm.trans e
   have b:atKey (q :: qs) k=some q.2:=by simp[atKey,List.find?_cons,e']
   rw[valV_pos e,b];exact h2
  ·have e':¬ q.1=k:=fun z=>e (h1.trans z)
   have b:atKey (q :: qs) k=atKey qs k:=by simp[atKey,List.find?_cons,e']
   rw[valV_neg e,b];exact ih
theorem KT.repl{H:Hp}{kvs:List (List Key×V)}{xs:List (List Key×Addr×Value)}(r:KT H kvs xs)(k:List Key){y:V}{u:Value}(ry:RelV y u) :
  KT H (kvs.map fun kv=>if kv.1=k then(kv.1,y)else kv) (xs.map (putAt k u)):=by
 induction r with
 |nil=>exact .nil
 | @cons p q ps qs h t ih =>
  rw[List.map_cons,List.map_cons]
  refine .cons ?_ ih
  obtain⟨h1,h2,h3⟩:=h
  unfold putAt
  by_cases e:p.1=k
  ·rw[if_pos e,if_pos (h1.symm.trans e)];exact⟨h1,h2,ry⟩
  ·rw[if_neg e,if_neg (fun z=>e (h1.trans z))];exact⟨h1,h2,h3⟩
theorem KT.put{H:Hp}{kvs:List (List Key×V)}{xs:List (List Key×Addr×Value)}(r:KT H kvs xs)(k:List Key){b:Addr}{y:V}{u:Value}(hb:H b=some (.tup (k.map kV)))(ry:RelV y u) :
  KT H (putK kvs k y) (storedH xs k b u):=by
 have e:(kvs.any fun kv=>decide (kv.1=k))=(atKey xs k).isSome:=by
  rw[valV_any,(r.val k).isSome_eq,Option.isSome_map]
 unfold putK storedH
 rw[e]
 by_cases q:(atKey xs k).isSome=true
 ·rw[if_pos q,if_pos q];exact r.repl k ry
 ·rw[if_neg q,if_neg q];exact Paired.snoc r ⟨rfl,hb,ry⟩
theorem KT.keeps{H H':Hp}{kvs:List (List Key×V)}{xs:List (List Key×Addr×Value)}(r:KT H kvs xs)(ht:∀ b ys,H b=some (.tup ys)->H' b=some (.tup ys)):KT H' kvs xs :=
 Paired.mapP r fun _ _ z=>⟨z.1,ht _ _ z.2.1,z.2.2⟩
section
variable{P:Program}{w:World}{H:Hp}{h:Heap}{a:Addr}
theorem rd_of{u:HO}(ok:HOk P w H h)(e:Rd H a u):ObjOk P w H h a u:=e.ok ok
theorem dk_rd{kvs:List (Key×V)}(ok:HOk P w H h)(e:Rd H a (.dK kvs)):kvs.length<=sizeLine/\(a == sysModules)=false/\∃ vs,KV kvs vs/\h.DictOf (mixKind P w) a vs :=
 show ObjOk P w H h a (.dK kvs)from rd_of ok e
theorem dk_of{kvs:List (Key×V)}(ok:HOk P w H h)(e:H a=some (.dK kvs)):kvs.length<=sizeLine/\(a == sysModules)=false/\∃ vs,KV kvs vs/\h.DictOf (mixKind P w) a vs:=dk_rd ok (.inl e)
theorem key_of{ks:List Key}(ok:HOk P w H h)(e:H a=some (.tup (ks.map kV))):(tupleKind (mixKind P w)).is h ks a:=by
 obtain⟨_,its,r,o,h1,h2,n,h3⟩:=(show ObjOk P w H h a (.tup (ks.map kV))from ok a _ e)
 exact⟨o,its.toArray,n,h1,h2,h3,by simpa using items_are r⟩
theorem dt_rd{kvs:List (List Key×V)}(ok:HOk P w H h)(e:Rd H a (.dT kvs)):kvs.length<=sizeLine/\(a == sysModules)=false /\
  ∃ xs,KT H kvs xs/\h.DictOfH (tupleKind (mixKind P w)) a xs:=by
 obtain⟨z,y,xs,r,o,es,ep,h1,h2,h3,h4,h5⟩:=(show ObjOk P w H h a (.dT kvs)from rd_of ok e)
 refine⟨z,y,xs,r,o,es,ep,h1,h2,h3,h4,fun x hx=>?_,h5⟩
 have all:∀ {l:List (List Key×V)}{m:List (List Key×Addr×Value)},KT H l m->∀ x∈m,(tupleKind (mixKind P w)).is h x.1 x.2.1:=by
  intro l m q
  induction q with
  |nil=>intro x hx;exact nomatch hx
  | @cons p q ps qs hq t ih =>
   intro x hx
   rcases List.mem_cons.mp hx with e | hx
   ·subst e
    exact key_of ok (by rw[<- hq.1];exact hq.2.1)
   ·exact ih x hx
 exact all r x hx
theorem dt_of{kvs:List (List Key×V)}(ok:HOk P w H h)(e:H a=some (.dT kvs)):kvs.length<=sizeLine/\(a == sysModules)=false /\
  ∃ xs,KT H kvs xs/\h.DictOfH (tupleKind (mixKind P w)) a xs:=dt_rd ok (.inl e)
end
noncomputable def DGet(H:Hp)(a:Addr)(y:V)(r:Option V):Prop :=
 (∃ kvs k,Rd H a (.dK kvs)/\y=kV k/\r=valV kvs k)\/∃ kvs k b,Rd H a (.dT kvs)/\y = .ref b/\H b=some (.tup (k.map kV))/\r=valV kvs k
noncomputable def DPut(H:Hp)(a:Addr)(y v:V)(H':Hp):Prop :=
 (∃ kvs k,H a=some (.dK kvs)/\y=kV k/\kvs.length<sizeLine/\H'=upd H a (.dK (putK kvs k v))) \/
 ∃ kvs k b,H a=some (.dT kvs)/\y = .ref b/\H b=some (.tup (k.map kV))/\kvs.length<sizeLine/\H'=upd H a (.dT (putK kvs k v))
theorem DGet.t{H:Hp}{a b:Addr}{kvs:List (List Key×V)}{k:List Key}(e:H a=some (.dT kvs))(eb:H b=some (.tup (k.map kV))):DGet H a (.ref b) (valV kvs k):=.inr ⟨kvs,k,b,.inl e,rfl,eb,rfl⟩
theorem DPut.t{H:Hp}{a b:Addr}{kvs:List (List Key×V)}{k:List Key}{v:V}(e:H a=some (.dT kvs))(eb:H b=some (.tup (k.map kV)))(hl:kvs.length<sizeLine) :
  DPut H a (.ref b) v (upd H a (.dT (putK kvs k v))):=.inr ⟨kvs,k,b,e,rfl,eb,hl,rfl⟩
section
variable{X:Cx}{pins:List (Addr×Obj)}{σ:St}{H:Hp}{s:Shared}{a:Addr}{y v:V}{u r:Value}{o:Option V}{A:Around}{E:Value->Shared->Prop}
theorem Inv.big(I:Inv X pins σ H s):sysModules<s.heap.objs.size:=by
 have h:mainGlobals<s.heap.objs.size:=(I.mod.glob.keeps I.bk).lt
 exact Nat.lt_trans (by decide) h
theorem d_getItem{Q:Value->Shared->Prop}(hu:A.units+1<cLine)(I:Inv X pins σ H s)(g:DGet H a y (some v))(ry:RelV y u)(h:∀ w' s',Inv X pins σ H s'->RelV v w'->Q w' s') :
  wpAny (model X.prog X.w) A (getItem (.ref a) u) Q E s:=by
 rcases g with⟨kvs,k,e,ey,l⟩ |⟨kvs,k,b,e,ey,eb,l⟩
 ·subst ey
  obtain⟨z,hd,vs,rel,dd⟩:=dk_rd I.hok e
  obtain⟨w',hw,rw'⟩:=RelO.some_of (v:=v) (o:=valueAt vs k) (by rw[l];exact rel.val k)
  exact wpAny_getItem_of (kV_is ry) dd.mapOf hw (h w' _ (I.tok _) rw')
 ·subst ey
  cases(show u=Value.ref b from ry)
  obtain⟨z,hd,xs,rel,dd⟩:=dt_rd I.hok e
  obtain⟨w',hw,rw'⟩:=RelO.some_of (v:=v) (o:=(atKey xs k).map (·.2)) (by rw[l];exact rel.val k)
  obtain⟨p,hp,hp2⟩:=Option.map_eq_some_iff.mp hw
  refine wpAny_getItem_heap (tupleKind_room_in1 hu) (key_of I.hok eb) dd hp ?_
  rw[hp2]
  exact h w' _ (I.tok _) rw'
theorem d_write{h':Heap}{t':Nat}{ob:HO}(I:Inv X pins σ H s)(mu:Mut (H a))(hs:Heap.SameBut a s.heap h')(he:∃ q,h'.get? a=some q)(new:ObjOk X.prog X.w (upd H a ob) h' a ob) :
  Inv X pins σ (upd H a ob) { s with heap:=h',toks:=t' } :=
 I.write (x:=a) (e:=a) mu (.inl rfl) (fun b q hb z=>(hs.2 b hb).trans z) he new
theorem dk_new{P:Program}{w:World}{H':Hp}{h':Heap}{kvs:List (Key×V)}{vs:List (Key×Value)}(z:kvs.length<=sizeLine)(hd:(a == sysModules)=false)(rel:KV kvs vs)(dd:h'.DictOf (mixKind P w) a vs) :
  ObjOk P w H' h' a (.dK kvs):=⟨z,hd,vs,rel,dd⟩
theorem d_setItem{H':Hp}{Q:Unit->Shared->Prop}(hu:A.units+1<cLine)(I:Inv X pins σ H s)(g:DPut H a y v H')(ry:RelV y u)(rv:RelV v r)(h:∀ s',Inv X pins σ H' s'->Q () s') :
  wpAny (model X.prog X.w) A (setItem (.ref a) u r) Q E s:=by
 rcases g with⟨kvs,k,e,ey,l,eH⟩ |⟨kvs,k,b,e,ey,eb,l,eH⟩
 ·subst ey eH
  obtain⟨z,hd,vs,rel,dd⟩:=dk_of I.hok e
  have hz:vs.length<=sizeLine:=by rw[<- rel.length];exact z
  have hl:(putK kvs k v).length<=sizeLine:=by have:=length_putK kvs k v;lia
  refine wpAny_setItem_pairs (hsz:=hz) (kV_is ry) dd fun h' dd' hs=>h _ ?_
  have he:∃ q,h'.get? a=some q:=let ⟨q,_,_,hq,_⟩:=dd';⟨q,hq⟩
  exact d_write I (by rw[e];exact True.intro) hs he (dk_new hl hd (rel.put k rv) dd')
 ·subst ey eH
  cases(show u=Value.ref b from ry)
  obtain⟨z,hd,xs,rel,dd⟩:=dt_of I.hok e
  have hz:xs.length<=sizeLine:=by rw[<- Paired.length rel];exact z
  have hl:(putK kvs k v).length<=sizeLine:=by have:=length_putK kvs k v;lia
  refine wpAny_setItem_heap (hsz:=hz) (tupleKind_room_in1 hu) (key_of I.hok eb) dd fun h' dd' hs=>h _ ?_
  obtain⟨q,es,ep,hq,h2,h3,h4,_,h5⟩:=dd'
  refine d_write I (by rw[e];exact True.intro) hs ⟨q,hq⟩ ⟨hl,hd,_,(rel.put k eb rv).keeps fun c ys ec=>?_,q,es,ep,hq,h2,h3,h4,h5⟩
  rw[upd_ne (ne_of ec e (fun z=>nomatch z))]
  exact ec
end
noncomputable def NoSl(i:Expr):Prop:=∀ ov iv,subscripted i false ov iv=operate [ov,iv] (getItem ov iv)
theorem subD_of{prog:Program}{w:World}{A:Around}{E:Value->Shared->Prop}{s:Shared}{env:Env}{value slice:Expr}{pos:Pos}{T id:String}{Q:Value->Shared->Prop}
  (hl:typeLookup (.type T) "__getitem__" = pure (some (.builtin id))) (hs:NoSl slice)
  (h:wpAny (model prog w) A (eval value env) (fun o s₁=>wpAny (model prog w) A (eval slice env) (fun i s₂=>s₂.TypeIs o T/\wpAny (model prog w) A (getItem o i) Q E s₂) E s₁) E s) :
  wpAny (model prog w) A (eval (.Subscript value slice pos) env) Q E s:=by
 refine Subscript_ (wpAny_mono h (fun o s₁ h₁=>wpAny_mono h₁ (fun i s₂ h₂=>?_) fun _ _ x=>x) fun _ _ x=>x)
 obtain⟨hT,h₂⟩:=h₂
 unfold subscriptTail
 refine wpAny_bind ?_
 rw[getitemInPython_of_ne hT.not_modules]
 refine wpAny_bind (wpAny_specialOf hT hl ?_)
 have fin:wpAny (model prog w) A (subscripted slice false o i) (fun r s₃=>wpAny (model prog w) A (letTemporaryGo value o r >>= fun _=>pure r) Q E s₃) E s₂:=by
  rw[hs o i]
  exact wpAny_operating (wpAny_mono h₂ (fun r s₃ h₃=>wpAny_bind (wpAny_letTemporaryGo (wpAny_pure h₃))) fun _ _ x=>x)
 first
  |exact wpAny_pure (wpAny_bind fin)
  |exact wpAny_bind (wpAny_pure (wpAny_bind fin))
  |exact wpAny_bind fin
theorem dict_typeIs{X:Cx}{pins:List (Addr×Obj)}{σ:St}{H:Hp}{s:Shared}{a:Addr}{y:V}{o:Option V}(I:Inv X pins σ H s)(g:DGet H a y o):s.TypeIs (.ref a) "dict":=by
 rcases g with⟨kvs,k,e,_,_⟩ |⟨kvs,k,b,e,_,_,_⟩
 ·obtain⟨_,_,vs,_,dd⟩:=dk_rd I.hok e
  exact dd.typeIs
 ·obtain⟨_,_,xs,_,dd⟩:=dt_rd I.hok e
  exact dd.typeIs
noncomputable def tDGet(td ty:TE):TE:=fun σ H Q=>td σ H fun x H1=>ty σ H1 fun y H2=>∃ a v,x = .ref a/\DGet H2 a y (some v)/\Q v H2
noncomputable def sDPut(td ty tv:TE):TS:=fun D σ H=>tv σ H fun v H1=>td σ H1 fun x H2=>ty σ H2 fun y H3=>∃ a H4,x = .ref a/\DPut H3 a y v H4/\D.nx σ H4
section
variable{X:Cx}{o i e value:Expr}{pos pos' tpos:Pos}{td ty tv:TE}
theorem pe_dget(hu:X.A.units+1<cLine)(ho:PE X o td)(hi:PE X i ty)(hs:NoSl i):PE X (.Subscript o i pos) (tDGet td ty):=by
 intro pins s σ H Q I h
 refine subD_of PySem.F.slot_dict_getitem.lookup hs (thn (ho pins s σ H _ I h) fun u s1 ⟨x,H1,I1,rx,q1⟩=>thn (hi pins s1 σ H1 _ I1 q1) fun iv s2 ⟨y,H2,I2,ry,a,v,ex,g,q2⟩=>?_)
 subst ex
 obtain rfl:u=Value.ref a:=rx
 exact⟨dict_typeIs I2 g,d_getItem hu I2 g ry fun w' s3 I3 rw'=>⟨v,H2,I3,rw',q2⟩⟩
theorem ps_dput(hu:X.A.units+1<cLine)(ho:PE X o td)(hi:PE X i ty)(hv:PE X value tv)(hs:swapsWith value (some (.Subscript o i pos')) pos.line X.env=pure false) :
  PS X (.Assign [.Subscript o i pos'] value pos) (sDPut td ty tv):=by
 intro pins s σ H D I h
 refine wpAny_Assign_Subscript (thn (hv pins s σ H _ I h) fun r s1 ⟨v,H1,I1,rv,q1⟩=>thn (ho pins s1 σ H1 _ I1 q1) fun u s2 ⟨x,H2,I2,rx,q2⟩=>thn (hi pins s2 σ H2 _ I2 q2) fun iv s3 ⟨y,H3,I3,ry,a,H4,ex,g,q3⟩=>?_) hs
 subst ex
 obtain rfl:u=Value.ref a:=rx
 exact d_setItem hu I3 g ry rv fun s4 I4=>⟨σ,H4,I4,q3⟩
end
theorem dt_empty{P:Program}{w:World}{H:Hp}(h:Heap)(hb:sysModules<h.objs.size):ObjOk P w H (h.push { cls:=.type "dict",data:=.dict #[] }) h.objs.size (.dT []) :=
 ⟨Nat.zero_le _,beq_eq_false_iff_ne.mpr (Ne.symm (Nat.ne_of_lt hb)),[],.nil,_,#[],0,Heap.get?_push_size _ rfl,⟨rfl,rfl,rfl⟩,rfl,rfl,List.nodup_nil⟩
noncomputable def tDNewT:TE:=fun _ H Q=>∀ p,H p=none->Q (.ref p) (upd H p (.dT []))
section
variable{X:Cx}{pos:Pos}
theorem pe_dnewT:PE X (.Dict [] [] pos) tDNewT:=fun pins s σ H Q I h =>
 wpAny_Dict_empty ⟨.ref s.heap.objs.size,_,I.laid (a:=s.heap.objs.size) (o:=.dT []) (t':=s.toks) (fun _ _ q=>Heap.get?_push_of_some _ q) (Nat.le_refl _) (dt_empty s.heap I.big),rfl,h _ (I.hok.fresh (Nat.le_refl _))⟩
end
end L2
namespace HT
open PySem PyProof.Rows
section
open PySem.SeqAt
open PySem.AutoSeq1 (wpAny_loadPart')
open PySem.MeetsSeq PySem.MeetsSeq2 PySem.MeetsSeq3
end
section
variable{prog:Program}{w:World}{A:Around}{E:Value->Shared->Prop}{s:Shared}
theorem cat_tup{t b:Addr}{vs ws:List Value}{Q:Value->Shared->Prop}(ht:IsTup s.heap t vs.toArray)(hb:IsTup s.heap b ws.toArray)(hv:vs≠[])
  (h1:ws=[]->Q (.ref t) s) (h2:ws≠[]->Q (.ref s.heap.objs.size) { s with heap:=s.heap.push { cls:=.type "tuple",data:=.seq (vs++ws).toArray } })
  (hsz:vs.length+ws.length<=sizeLine):wpAny (model prog w) A (binaryOp .Add (.ref t) (.ref b)) Q E s:=by
 obtain⟨⟨cls,dd,data,sl⟩,ho,hc,n,hd⟩:=id ht
 obtain⟨⟨cls2,dd2,data2,sl2⟩,ho2,hc2,n2,hd2⟩:=id hb
 simp only at hc hd hc2 hd2
 subst hc hd hc2 hd2
 have e:vs.toArray++ws.toArray=(vs++ws).toArray:=by simp
 by_cases hw:ws=[]
 ·exact concat_meets ⟨_,ho,rfl⟩ ⟨_,ho2,rfl⟩ noFill_tuple_add seq_tuple_add PySem.F.slot_tuple_add PySem.F.entry_tuple_add (PySem.F.args_tuple_add_2 _ _)
   (tuple_addW1 t b vs.toArray ws.toArray n n2 dd dd2 sl sl2 (by simpa using hv) (by simp[hw])) ⟨ho,ho2,h1 hw⟩
 ·refine concat_meets ⟨_,ho,rfl⟩ ⟨_,ho2,rfl⟩ noFill_tuple_add seq_tuple_add PySem.F.slot_tuple_add PySem.F.entry_tuple_add (PySem.F.args_tuple_add_2 _ _)
   (tuple_addW2 t b vs.toArray ws.toArray n n2 dd dd2 sl sl2 (by simpa using hv) (by simpa using hw) (by rw[List.size_toArray,List.size_toArray];exact hsz)) ⟨ho,ho2,?_⟩
  rw[e]
  exact h2 hw
noncomputable def sIx(n d:Nat):Option Int->Nat
 |none=>d
 |some v=>if v<0 then(v+(n:Int)).toNat else min v.toNat n
theorem sIx_le(n d:Nat)(hd:d<=n)(o:Option Int):sIx n d o<=n:=by
 cases o with
 |none=>exact hd
 |some v =>
  show(if v<0 then(v+(n:Int)).toNat else min v.toNat n)<=n
  by_cases hv:v<0
  ·rw[if_pos hv];lia
  ·rw[if_neg hv];exact Nat.min_le_right _ _
theorem clip_eq(v:Int)(n d:Nat):(if v<0 then max (v+(n:Int)) 0 else min v (n:Int))=((sIx n d (some v):Nat):Int):=by
 show(if v<0 then max (v+(n:Int)) 0 else min v (n:Int))=(((if v<0 then(v+(n:Int)).toNat else min v.toNat n):Nat):Int)
 by_cases hv:v<0
 ·simp only[if_pos hv];lia
 ·simp only[if_neg hv];lia
theorem adjust_gen(lo hi:Option Int)(n:Nat):Builtin.Slice.sliceAdjust lo hi 1 (n:Int)=(((sIx n 0 lo:Nat):Int),((sIx n n hi:Nat):Int)):=by
 have h1:¬((1:Int)<0):=by lia
 unfold Builtin.Slice.sliceAdjust
 simp only[h1,if_false]
 refine Prod.ext ?_ ?_
 ·cases lo with
  |none=>rfl
  |some v=>exact clip_eq v n 0
 ·cases hi with
  |none=>rfl
  |some v=>exact clip_eq v n n
theorem places_gen(i j:Nat):Builtin.Slice.slicePlaces (i:Int) (j:Int) 1=j-i:=by
 unfold Builtin.Slice.slicePlaces
 have h1:(1:Int) > 0:=by lia
 simp only[h1,if_true,Int.ediv_one]
 split <;> lia
theorem slicePart_{v:Value}{o:Option Int}{Q:Option Int->Shared->Prop}(p:IsPart v o)(h:Q o s):wpAny (model prog w) A (Builtin.Slice.slicePartIndex v) Q E s:=by
 cases p with
 |none=>exact slicePart_none h
 |int i t=>exact slicePart_int h
theorem sliceApplied_gen{sl:Addr}{vl vu:Value}{lo hi:Option Int}{n:Nat}{Q:Int×Int×Nat->Shared->Prop}(hs:s.heap.IsSliceOf sl vl vu .none)(pl:IsPart vl lo)(pu:IsPart vu hi)
  (h:Q (((sIx n 0 lo:Nat):Int),1,sIx n n hi-sIx n 0 lo) s):wpAny (model prog w) A (Builtin.Slice.sliceApplied (.ref sl) (pure (n:Int))) Q E s:=by
 obtain⟨os,hos,hcs,hds⟩:=id hs
 unfold Builtin.Slice.sliceApplied Builtin.Slice.sliceFields
 refine wpAny_bind (wpAny_bind (wpAny_field hos hds (x:=vl) rfl (wpAny_bind (wpAny_field hos hds (x:=vu) rfl (wpAny_bind (wpAny_field hos hds (x:=.none) rfl (wpAny_pure ?_)))))))
 refine wpAny_bind (slicePart_none ?_)
 show wpAny _ _ (if((1:Int) == 0)=true then _ else _) _ _ s
 rw[if_neg (by decide)]
 refine wpAny_bind (slicePart_ pl (wpAny_bind (slicePart_ pu (wpAny_bind (wpAny_pure ?_)))))
 show wpAny _ _ (match Builtin.Slice.sliceAdjust lo hi 1 (n:Int)with |(lo,hi)=>pure (lo,(1:Int),Builtin.Slice.slicePlaces lo hi 1)) _ _ s
 rw[adjust_gen lo hi n]
 show wpAny _ _ (pure (((sIx n 0 lo:Nat):Int),(1:Int),Builtin.Slice.slicePlaces ((sIx n 0 lo:Nat):Int) ((sIx n n hi:Nat):Int) 1)) _ _ s
 rw[places_gen]
 exact wpAny_pure h
theorem pick_gen(xs:Array Value)(i k:Nat):((List.range k).filterMap fun(m:Nat)=>xs[((i:Int)+(m:Int) * 1).toNat]?).toArray=((xs.toList.drop i).take k).toArray:=by
 have e:(fun(m:Nat)=>xs[((i:Int)+(m:Int) * 1).toNat]?)=fun m=>xs[i+m]?:=by
  funext m
  have:((i:Int)+(m:Int) * 1).toNat=i+m:=by lia
  rw[this]
 rw[e]
 have:=pick_run xs i k
 rw[List.filterMap_map]at this
 have e2:((fun x=>xs[x]?) ∘ fun x=>i+x)=fun m=>xs[i+m]?:=rfl
 rw[e2]at this
 rw[this]
theorem getItem_tuple_cut{t sl:Addr}{items:Array Value}{vl vu:Value}{lo hi:Option Int}{Q:Value->Shared->Prop}(ht:IsTup s.heap t items)(hs:s.heap.IsSliceOf sl vl vu .none)(pl:IsPart vl lo)(pu:IsPart vu hi)
  (hw:¬(sIx items.size 0 lo=0/\sIx items.size items.size hi=items.size))
  (h:Q (.ref s.heap.objs.size) { s with heap:=s.heap.push { cls:=.type "tuple",data:=.seq ((items.toList.drop (sIx items.size 0 lo)).take (sIx items.size items.size hi-sIx items.size 0 lo)).toArray } })
  (hsz:items.size<=sizeLine):wpAny (model prog w) A (getItem (.ref t) (.ref sl)) Q E s:=by
 have htake:sizeOk (.seq ((items.toList.drop (sIx items.size 0 lo)).take (sIx items.size items.size hi-sIx items.size 0 lo)).toArray):=by
  show((items.toList.drop (sIx items.size 0 lo)).take (sIx items.size items.size hi-sIx items.size 0 lo)).toArray.size<=sizeLine
  rw[List.size_toArray,List.length_take,List.length_drop,Array.length_toList]
  omega
 have hj:sIx items.size items.size hi<=items.size:=sIx_le _ _ (Nat.le_refl _) hi
 obtain⟨os,hos,hcs,hds⟩:=id hs
 have hTs:s.TypeIs (.ref sl) "slice":=⟨os,hos,hcs⟩
 unfold getItem
 try with_reducible refine wpAny_holding ?_
 first | refine wpAny_bind (wpAny_pure ?_) | skip
 refine wpAny_bind (wpAny_sequenceKey ht.typeIs (by decide) ?_)
 refine wpAny_bind (wpAny_callSpecial?_slot (name:=Str.ofString "__getitem__") ht.typeIs PyProof.Rows.slot_tuple_getitem
  (wpAny_call_entry PyProof.Rows.slot_tuple_getitem ht.typeIs entry_tuple_getitem ?_ (args_tuple_getitem _ _)))
 show wpAny _ _ (Builtin.Tuple.tupleItemsOf (.ref t) >>= _) _ _ s
 refine wpAny_bind (tupleItemsOf_ ht ?_)
 refine wpAny_bind (wpAny_typeOf hTs ?_)
 rw[if_pos (by decide)]
 refine wpAny_bind (sliceApplied_gen hs pl pu ?_)
 have hno:¬((((sIx items.size 0 lo:Nat):Int) == 0 && (1:Int) == 1 && (sIx items.size items.size hi-sIx items.size 0 lo) == items.size)=true):=by
  intro q
  rw[Bool.and_eq_true,Bool.and_eq_true]at q
  have q1:((sIx items.size 0 lo:Nat):Int)=0:=eq_of_beq q.1.1
  have q2:sIx items.size items.size hi-sIx items.size 0 lo=items.size:=eq_of_beq q.2
  exact hw ⟨by lia,by omega⟩
 show wpAny _ _ (if(((sIx items.size 0 lo:Nat):Int) == 0 && (1:Int) == 1 && (sIx items.size items.size hi-sIx items.size 0 lo) == items.size)=true then _ else _) _ _ s
 rw[if_neg hno,pick_gen]
 first
  |exact wpAny_bind (m:=Builtin.Tuple.tupleExact _) (wpAny_newObj_type (wpAny_pure ⟨_,rfl,wpAny_pure h⟩) htake)
  |exact wpAny_bind (m:=Builtin.Tuple.tupleExact _) (wpAny_newObj_type (wpAny_bind (wpAny_pure (wpAny_pure ⟨_,rfl,wpAny_pure h⟩))) htake)
  |exact wpAny_bind (wpAny_bind (m:=Builtin.Tuple.tupleExact _) (wpAny_newObj_type (wpAny_pure (wpAny_pure ⟨_,rfl,wpAny_pure h⟩)) htake))
  |exact wpAny_bind (wpAny_bind (m:=Builtin.Tuple.tupleExact _) (wpAny_newObj_type (wpAny_pure ⟨_,rfl,wpAny_pure h⟩) htake))
end
end HT
namespace L2
open PySem PySem.Spec PyProof.Rows
noncomputable abbrev TO:=St->Hp->(Option Int->Hp->Prop)->Prop
noncomputable def PO(X:Cx)(e:Option Expr)(t:TO):Prop :=
 ∀ (pins:List (Addr×Obj)) (s:Shared) (σ:St) (H:Hp) (Q:Option Int->Hp->Prop),Inv X pins σ H s->t σ H Q ->
  wpAny (model X.prog X.w) X.A (evalPart e X.env) (fun u s'=>∃ o H',Inv X pins σ H' s'/\IsPart u o/\Q o H') X.xe s
noncomputable def tNoPart:TO:=fun _ H Q=>Q none H
noncomputable def tPart(t:TE):TO:=fun σ H Q=>t σ H fun x H1=>∃ i,x = .int i/\Q (some i) H1
theorem intsAre_of{ns:List Int}:∀ {us:List Value},Vals (ns.map V.int) us->IntsAre us ns:=by
 induction ns with
 |nil=>intro us r;rw[List.map_nil]at r;cases r;exact .nil
 |cons n ns ih =>
  intro us r
  rw[List.map_cons]at r
  cases r with
  |cons r1 r2 =>
   obtain⟨t,e⟩:=r1
   subst e
   exact .cons n t (ih r2)
section
variable{X:Cx}{e:Expr}{te:TE}{lo hi:Option Expr}{tl th:TO}{pos p2:Pos}
theorem po_none:PO X none tNoPart:=by
 intro pins s σ H Q I h
 rw[evalPart_none]
 exact wpAny_pure ⟨none,H,I,.none,h⟩
theorem po_some(h:PE X e te):PO X (some e) (tPart te):=by
 intro pins s σ H Q I hw
 rw[evalPart_some]
 refine thn (h pins s σ H _ I hw) fun u s1 ⟨x,H1,I1,r1,q1⟩=>?_
 obtain⟨i,rfl,q⟩:=q1
 obtain⟨t,rfl⟩:=r1
 exact⟨some i,H1,I1,.int i t,q⟩
noncomputable def SlR(X:Cx)(r:V->Option Int->Option Int->Hp->VK->Prop):Prop :=
 ∀ (pins:List (Addr×Obj)) (s:Shared) (σ:St) (H:Hp) (x:V) (v vl vu:Value) (lo hi:Option Int) (sl:Addr) (Q:VK),Inv X pins σ H s->RelV x v->s.heap.IsSliceOf sl vl vu .none->IsPart vl lo->IsPart vu hi->r x lo hi H Q ->
  ∃ T id,typeLookup (.type T) "__getitem__" = pure (some (.builtin id))/\s.TypeIs v T/\wpAny (model X.prog X.w) X.A (getItem v (.ref sl)) (EP X pins σ Q) X.xe s
noncomputable def tSl(r:V->Option Int->Option Int->Hp->VK->Prop)(te:TE)(tl th:TO):TE:=fun σ H Q=>te σ H fun x H1=>tl σ H1 fun l H2=>th σ H2 fun u H3=>r x l u H3 Q
theorem pe_slice{r:V->Option Int->Option Int->Hp->VK->Prop}(hr:SlR X r)(he:PE X e te)(hl:PO X lo tl)(hu:PO X hi th):PE X (.Subscript e (.Slice lo hi none p2) pos) (tSl r te tl th):=by
 intro pins s σ H Q I h
 refine Subscript_ (thn (he pins s σ H _ I h) fun v s1 ⟨x,H1,I1,r1,q1⟩=>?_)
 refine wpAny_Slice (thn (hl pins s1 σ H1 _ I1 q1) fun vl s2 ⟨l,H2,I2,pl,q2⟩=>thn (hu pins s2 σ H2 _ I2 q2) fun vu s3 ⟨u,H3,I3,pu,q3⟩=>?_)
 rw[evalPart_none]
 refine wpAny_pure ?_
 have I4:Inv X pins σ H3 { s3 with heap:=s3.heap.push { cls:=.type "slice",data:=.fields #[vl,vu,.none] } }:=I3.kept (t':=s3.toks) fun b ob q=>Heap.get?_push_of_some _ q
 obtain⟨T,id,hT,ht,hg⟩:=hr pins { s3 with heap:=s3.heap.push { cls:=.type "slice",data:=.fields #[vl,vu,.none] } } σ H3 x v vl vu l u s3.heap.objs.size Q I4 r1 (Heap.IsSliceOf.new ..) pl pu q3
 show wpAny (model X.prog X.w) X.A (subscriptTail e (.Slice lo hi none p2) v (.ref s3.heap.objs.size)) (EP X pins σ Q) X.xe { s3 with heap:=s3.heap.push { cls:=.type "slice",data:=.fields #[vl,vu,.none] } }
 exact tail_any (ops:=[.ref s3.heap.objs.size,v]) ht hT hg (by with_unfolding_all rfl)
noncomputable def cutV(xs:List V)(lo hi:Option Int):List V:=(xs.drop (HT.sIx xs.length 0 lo)).take (HT.sIx xs.length xs.length hi-HT.sIx xs.length 0 lo)
theorem cutV_length(xs:List V)(lo hi:Option Int):(cutV xs lo hi).length<=xs.length:=by
 unfold cutV
 rw[List.length_take,List.length_drop]
 omega
noncomputable def rSlT(K:PySem.W.Frag):V->Option Int->Option Int->Hp->VK->Prop:=fun x lo hi H Q=>∃ a xs,x = .ref a/\SqT K H a xs /\
 ¬(HT.sIx xs.length 0 lo=0/\HT.sIx xs.length xs.length hi=xs.length)/\∀ p,H p=none->Q (.ref p) (upd H p (.tup (cutV xs lo hi)))
theorem sl_tup:SlR X (rSlT X.K):=by
 intro pins s σ H x v vl vu lo hi sl Q I rx hs pl pu h
 obtain⟨a,xs,rfl,hx,hw,q⟩:=h
 cases rx
 obtain⟨its,r,ht,hz⟩:=I.tuple hx
 have hlen:its.toArray.size=xs.length:=by rw[List.size_toArray];exact r.length.symm
 refine⟨"tuple",_,PyProof.Rows.slot_tuple_getitem.lookup,ht.typeIs,?_⟩
 refine HT.getItem_tuple_cut ht hs pl pu (by rw[hlen];exact hw) ?_ (by rw[hlen];exact hz)
 rw[hlen]
 refine⟨.ref s.heap.objs.size,_,I.laid (t':=s.toks) (o:=.tup (cutV xs lo hi)) (fun b ob q=>Heap.get?_push_of_some _ q) (Nat.le_refl _) ?_,rfl,q _ (I.hok.fresh (Nat.le_refl _))⟩
 exact⟨Nat.le_trans (cutV_length xs lo hi) hz,_,(r.drop (HT.sIx xs.length 0 lo)).take (HT.sIx xs.length xs.length hi-HT.sIx xs.length 0 lo),IsTup.new _ _⟩
noncomputable def rCatT(K:PySem.W.Frag):R2:=fun x y H Q=>∃ a b xs ys,x = .ref a/\y = .ref b/\SqT K H a xs/\SqT K H b ys/\xs≠[]/\xs.length+ys.length<=sizeLine /\
 (ys=[]->Q (.ref a) H)/\(ys≠[]->∀ p,H p=none->Q (.ref p) (upd H p (.tup (xs++ys))))
theorem Vals.nil_iff{xs:List V}{us:List Value}(r:Vals xs us):us=[]↔xs=[]:=by
 cases r with
 |nil=>simp
 |cons _ _=>simp
theorem op_catT:OpR X (binaryOp .Add) (rCatT X.K):=by
 intro pins s σ H x y v u Q I rx ry h
 obtain⟨a,b,xs,ys,rfl,rfl,ha,hb,hx,hz,q1,q2⟩:=h
 cases rx
 cases ry
 obtain⟨its,r1,p1,_⟩:=I.tuple ha
 obtain⟨its2,r2,p2,_⟩:=I.tuple hb
 refine HT.cat_tup p1 p2 (fun z=>hx (r1.nil_iff.mp z)) (fun z=>⟨.ref a,H,I,rfl,q1 (r2.nil_iff.mp z)⟩) (fun z=>?_) (by rw[<- r1.length,<- r2.length];exact hz)
 refine⟨.ref s.heap.objs.size,_,I.laid (t':=s.toks) (o:=.tup (xs++ys)) (fun b ob q=>Heap.get?_push_of_some _ q) (Nat.le_refl _) ?_,rfl,q2 (fun w=>z (r2.nil_iff.mpr w)) _ (I.hok.fresh (Nat.le_refl _))⟩
 exact⟨by rw[List.length_append];exact hz,_,r1.append r2,IsTup.new _ _⟩
end
open PySem PySem.Spec PyProof.Rows
noncomputable def ixN(n:Nat)(i:Int):Option Nat:=if 0<=i then(if i<n then some i.toNat else none)else if -(n:Int)<=i then some (i+n).toNat else none
noncomputable def atI{α:Type}(xs:List α)(i:Int):Option α:=(ixN xs.length i).bind fun j=>xs[j]?
theorem ixN_seq{n:Nat}{i:Int}{j:Nat}(h:ixN n i=some j):seqIndex? i n=some j/\j<n/\-(n:Int)<=i/\i<n:=by
 unfold ixN at h
 by_cases h0:0<=i
 ·rw[if_pos h0]at h
  by_cases h1:i<n
  ·rw[if_pos h1]at h
   have e:i.toNat=j:=Option.some.inj h
   exact⟨by rw[seqIndex_of h0 h1,e],by omega,by lia,h1⟩
  ·rw[if_neg h1]at h;cases h
 ·rw[if_neg h0]at h
  by_cases h1:-(n:Int)<=i
  ·rw[if_pos h1]at h
   have e:(i+n).toNat=j:=Option.some.inj h
   exact⟨by rw[seqIndex_neg (by lia) h1,e],by lia,h1,by lia⟩
  ·rw[if_neg h1]at h;cases h
theorem atI_get{α:Type}{xs:List α}{i:Int}{v:α}(h:atI xs i=some v):∃ j,seqIndex? i xs.length=some j/\xs[j]?=some v/\j<xs.length/\-(xs.length:Int)<=i/\i<xs.length:=by
 unfold atI at h
 cases e:ixN xs.length i with
 |none=>rw[e]at h;cases h
 |some j =>
  rw[e]at h
  obtain⟨h1,h2,h3,h4⟩:=ixN_seq e
  exact⟨j,h1,h,h2,h3,h4⟩
theorem atI_nat{α:Type}{xs:List α}{j:Nat}{v:α}(h:xs[j]?=some v):atI xs (j:Int)=some v:=by
 have hj:j<xs.length:=(List.getElem?_eq_some_iff.mp h).1
 have e:ixN xs.length (j:Int)=some j:=by
  unfold ixN
  rw[if_pos (by lia),if_pos (by lia)];simp
 unfold atI;rw[e];exact h
noncomputable def PlainIx(b:Expr):Prop:=∀ o i,subscripted b false o i=operate [o,i] (getItem o i)
noncomputable def IxR(X:Cx)(r:R2):Prop :=
 ∀ (value slice:Expr) (pins:List (Addr×Obj)) (s:Shared) (σ:St) (H:Hp) (x y:V) (v u:Value) (Q:VK),Inv X pins σ H s->RelV x v->RelV y u->r x y H Q ->
  subscripted slice false v u=operate [v,u] (getItem v u)->wpAny (model X.prog X.w) X.A (subscriptTail value slice v u) (EP X pins σ Q) X.xe s
noncomputable def MtR(X:Cx)(id:String)(r:V->List V->Hp->VK->Prop):Prop :=
 ∀ (pins:List (Addr×Obj)) (s:Shared) (σ:St) (H:Hp) (x:V) (xs:List V) (v:Value) (us:List Value) (Q:VK),Inv X pins σ H s->RelV x v->Vals xs us->r x xs H Q ->
  wpAny (model X.prog X.w) X.A (call (.builtin id) (v :: us)) (EP X pins σ Q) X.xe s
section
variable{X:Cx}{a b:Expr}{ta tb:TE}{pos:Pos}
theorem pe_ix{r:R2}(hr:IxR X r)(ha:PE X a ta)(hb:PE X b tb)(hs:PlainIx b):PE X (.Subscript a b pos) (tOp r ta tb):=by
 intro pins s σ H Q I h
 exact Subscript_ (binT ha hb I h fun v u s2 x y H2 I2 rx ry q=>hr a b pins s2 σ H2 x y v u Q I2 rx ry q (hs _ _))
noncomputable def rIxL(K:PySem.W.Frag):R2:=fun x y H Q=>∃ p xs i v,x = .ref p/\y = .int i/\SqL K H p xs/\atI xs i=some v/\Q v H
noncomputable def rIxT(K:PySem.W.Frag):R2:=fun x y H Q=>∃ p xs i v,x = .ref p/\y = .int i/\SqT K H p xs/\atI xs i=some v/\Q v H
theorem ix_list:IxR X (rIxL X.K):=by
 intro value slice pins s σ H x y v u Q I rx ry h hs
 obtain⟨p,xs,i,z,rfl,rfl,hq,he,q⟩:=h
 cases rx
 obtain⟨t,rfl⟩:=ry
 obtain⟨its,r,pl,hz⟩:=I.list hq
 obtain⟨j,h1,h2,h3,h4,h5⟩:=atI_get he
 obtain⟨w,ew,rw'⟩:=r.get h2
 have hl:=r.length
 have hn:=line63
 have fin:EP X pins σ Q w s:=⟨z,H,I,rw',q⟩
 by_cases h0:0<=i
 ·have hj:i.toNat=j:=by
   rw[seqIndex_of h0 h5]at h1
   exact Option.some.inj h1
  exact item_listR pl.isList h0 (by lia) (by rw[hj];simpa using ew) fin hs
 ·have hj:(i+(its.toArray.size:Int)).toNat=j:=by
   rw[seqIndex_neg (by lia) h4]at h1
   rw[List.size_toArray,<- hl]
   exact Option.some.inj h1
  exact subscriptTail_builtinR (x:=w) pl.isList.typeIs slot_list_getitem.lookup
   (wpAny_getItem_list_neg (Q:=fun r s'=>r=w/\EP X pins σ Q r s') pl.isList (by lia) (by rw[List.size_toArray] <;> lia) (by lia) (by rw[hj];simpa using ew) ⟨rfl,fin⟩) hs
theorem ix_tup:IxR X (rIxT X.K):=by
 intro value slice pins s σ H x y v u Q I rx ry h hs
 obtain⟨p,xs,i,z,rfl,rfl,hq,he,q⟩:=h
 cases rx
 obtain⟨t,rfl⟩:=ry
 obtain⟨its,r,pl,hz⟩:=I.tuple hq
 obtain⟨j,h1,h2,h3,h4,h5⟩:=atI_get he
 obtain⟨w,ew,rw'⟩:=r.get h2
 have hl:=r.length
 have hn:=line63
 have fin:EP X pins σ Q w s:=⟨z,H,I,rw',q⟩
 exact subscriptTail_builtinR (x:=w) pl.typeIs slot_tuple_getitem.lookup
  (getItem_tuple (j:=j) (Q:=fun r s'=>r=w/\EP X pins σ Q r s') pl (by lia) (by lia) (by rw[List.size_toArray,<- hl];exact h1) (by simpa using ew) ⟨rfl,fin⟩) hs
theorem mapSeq_set(its:List Value)(n j:Nat)(u:Value):Obj.mapSeq (·.setIfInBounds j u) { cls:=.type "list",data:=.seq its.toArray n } = { cls:=.type "list",data:=.seq (its.set j u).toArray n }:=by
 simp[Obj.mapSeq]
theorem Inv.lst{pins:List (Addr×Obj)}{σ:St}{H:Hp}{s:Shared}{p:Addr}{xs:List V}(I:Inv X pins σ H s)(h:H p=some (.lst xs)) :
  ∃ (its:List Value) (n:Nat),Vals xs its/\s.heap.get? p=some { cls:=.type "list",data:=.seq its.toArray n }/\xs.length<=sizeLine:=by
 obtain⟨z,its,n,r,e⟩:=I.hok p _ h
 exact⟨its,n,r,e,z⟩
theorem Inv.lstUpd{pins:List (Addr×Obj)}{σ:St}{H:Hp}{s:Shared}{p:Addr}{xs ys:List V}{its its':List Value}{n n':Nat}{f:Obj->Obj}(I:Inv X pins σ H s)(h:H p=some (.lst xs))
  (ho:s.heap.get? p=some { cls:=.type "list",data:=.seq its.toArray n }) (hf:f { cls:=.type "list",data:=.seq its.toArray n } = { cls:=.type "list",data:=.seq its'.toArray n' }) (r:Vals ys its') (hz:ys.length<=sizeLine) (t:Nat) :
  Inv X pins σ (upd H p (.lst ys)) { s with heap:=s.heap.update p f,toks:=t }:=by
 have e:(s.heap.update p f).get? p=some { cls:=.type "list",data:=.seq its'.toArray n' }:=by
  rw[Heap.get?_update_self f ho (by rw[hf] <;> rfl),hf]
 refine I.write (x:=p) (e:=p) (by rw[h];trivial) (.inl rfl) (fun b u hb q=>(Heap.get?_update_other _ _ (Ne.symm hb)).trans q) ⟨_,e⟩ ?_
 exact⟨hz,its',n',r,e⟩
noncomputable def rSetL:V->V->V->Hp->(Hp->Prop)->Prop:=fun o i v H Q=>∃ p xs k j,o = .ref p/\i = .int k/\H p=some (.lst xs)/\ixN xs.length k=some j/\Q (upd H p (.lst (xs.set j v)))
theorem set_list:PSet X rSetL:=by
 intro pins s σ H o i v ov iv u Q I ro ri rv h
 obtain⟨p,xs,k,j,rfl,rfl,hp,hj,q⟩:=h
 cases ro
 obtain⟨t,rfl⟩:=ri
 obtain⟨its,n,r,ho,hz⟩:=I.lst hp
 obtain⟨h1,h2,h3,h4⟩:=ixN_seq hj
 have hl:=r.length
 have hn:=line63
 have I':Inv X pins σ (upd H p (.lst (xs.set j v))) { s with heap:=s.heap.update p (Obj.mapSeq (·.setIfInBounds j u)) } :=
  I.lstUpd hp ho (mapSeq_set its n j u) (r.set rv j) (by rw[List.length_set];exact hz) s.toks
 by_cases h0:0<=k
 ·have hk:k.toNat=j:=by
   rw[seqIndex_of h0 h4]at h1
   exact Option.some.inj h1
  exact PySem.W.ki_setAt ho h0 (by lia) (by rw[List.size_toArray,<- hl];exact h4) (by rw[hk];exact⟨_,I',q⟩)
 ·have hk:(k+(its.toArray.size:Int)).toNat=j:=by
   rw[seqIndex_neg (by lia) h3]at h1
   rw[List.size_toArray,<- hl]
   exact Option.some.inj h1
  exact PySem.W.ki_setBack ho (by lia) (by rw[List.size_toArray,<- hl];exact h3) (by lia) (by rw[hk];exact⟨_,I',q⟩)
theorem slice_bounds(lo hi:Option Int)(n:Nat):(sliceBounds lo hi none n).1=((HT.sIx n 0 lo:Nat):Int)/\(sliceBounds lo hi none n).2.1=((HT.sIx n n hi:Nat):Int)/\(sliceBounds lo hi none n).2.2=1:=by
 refine⟨?_,?_,rfl⟩
 ·cases lo with
  |none=>simp[sliceBounds,HT.sIx]
  |some i =>
   simp only[sliceBounds,HT.sIx,Option.getD_none,show(1:Int) > 0 by decide,if_true]
   by_cases h:i<0
   ·simp only[h,if_true] <;> lia
   ·simp only[h,if_false] <;> lia
 ·cases hi with
  |none=>simp[sliceBounds,HT.sIx]
  |some i =>
   simp only[sliceBounds,HT.sIx,Option.getD_none,show(1:Int) > 0 by decide,if_true]
   by_cases h:i<0
   ·simp only[h,if_true] <;> lia
   ·simp only[h,if_false] <;> lia
theorem slicePick_cut(its:List Value)(lo hi:Option Int):slicePick its.toArray lo hi none=((its.drop (HT.sIx its.length 0 lo)).take (HT.sIx its.length its.length hi-HT.sIx its.length 0 lo)).toArray:=by
 obtain⟨h1,h2,h3⟩:=slice_bounds lo hi its.toArray.size
 unfold slicePick
 rw[h1,h2,h3]
 simp only[sliceRange_one,pick_run,List.size_toArray] <;> rfl
noncomputable def rSlL(K:PySem.W.Frag):V->Option Int->Option Int->Hp->VK->Prop:=fun x lo hi H Q=>∃ a xs,x = .ref a/\SqL K H a xs/\∀ p,H p=none->Q (.ref p) (upd H p (.lst (cutV xs lo hi)))
theorem sl_list:SlR X (rSlL X.K):=by
 intro pins s σ H x v vl vu lo hi sl Q I rx hs pl pu h
 obtain⟨a,xs,rfl,hx,q⟩:=h
 cases rx
 obtain⟨its,r,ht,hz⟩:=I.list hx
 have hlen:=r.length
 refine⟨"list",_,slot_list_getitem.lookup,ht.isList.typeIs,?_⟩
 refine wpAny_getItem_list_slice ht.isList hs pl pu .none (by simp) ?_ (by rw[List.size_toArray] <;> lia)
 rw[slicePick_cut,<- hlen]
 refine⟨.ref s.heap.objs.size,_,I.laid (t':=s.toks) (o:=.lst (cutV xs lo hi)) (fun b ob q=>Heap.get?_push_of_some _ q) (Nat.le_refl _) ?_,rfl,q _ (I.hok.fresh (Nat.le_refl _))⟩
 exact⟨Nat.le_trans (cutV_length xs lo hi) hz,_,0,(r.drop (HT.sIx xs.length 0 lo)).take (HT.sIx xs.length xs.length hi-HT.sIx xs.length 0 lo),Heap.get?_push_size _ rfl⟩
noncomputable def flatV:V->Bool
 | .non=>true
 | .bl _=>true
 | .int _=>true
 | .str _=>true
 | _=>false
noncomputable def eqV:V->V->Bool
 | .non,.non=>true
 | .bl a,.bl b=>a == b
 | .bl a,.int b=>(if a then 1 else 0) == b
 | .int a,.bl b=>a ==(if b then 1 else 0)
 | .int a,.int b=>a == b
 | .str a,.str b=>a == b
 | _,_=>false
theorem eqAt_V{A:Around}{s:Shared}{y x:V}{u v:Value}(ry:RelV y u)(rx:RelV x v)(fy:flatV y=true)(fx:flatV x=true):SeqAt.EqAt A s u v (eqV y x):=by
 cases y with
 |non =>
  cases ry
  cases x with
  |non=>cases rx;exact SeqAt.EqAt.same _
  |bl b=>cases rx;exact SeqAt.EqAt.none_bool b
  |int b=>obtain⟨t,rfl⟩:=rx;exact SeqAt.EqAt.none_int b t
  |str b=>obtain⟨t,rfl⟩:=rx;exact SeqAt.EqAt.none_str b t
  | _=>exact absurd (show false=true from fx) Bool.false_ne_true
 |bl a =>
  cases ry
  cases x with
  |non=>cases rx;exact SeqAt.EqAt.bool_none a
  |bl b=>cases rx;exact SeqAt.EqAt.bool_bool a b
  |int b=>obtain⟨t,rfl⟩:=rx;exact SeqAt.EqAt.bool_int a b t
  |str b=>obtain⟨t,rfl⟩:=rx;exact SeqAt.EqAt.bool_str a b t
  | _=>exact absurd (show false=true from fx) Bool.false_ne_true
 |int a =>
  obtain⟨t',rfl⟩:=ry
  cases x with
  |non=>cases rx;exact SeqAt.EqAt.int_none a t'
  |bl b=>cases rx;exact SeqAt.EqAt.int_bool a t' b
  |int b=>obtain⟨t,rfl⟩:=rx;exact SeqAt.EqAt.int_int a t' b t
  |str b=>obtain⟨t,rfl⟩:=rx;exact SeqAt.EqAt.int_str a t' b t
  | _=>exact absurd (show false=true from fx) Bool.false_ne_true
 |str a =>
  obtain⟨t',rfl⟩:=ry
  cases x with
  |non=>cases rx;exact SeqAt.EqAt.str_none a t'
  |bl b=>cases rx;exact SeqAt.EqAt.str_bool a t' b
  |int b=>obtain⟨t,rfl⟩:=rx;exact SeqAt.EqAt.str_int a t' b t
  |str b=>obtain⟨t,rfl⟩:=rx;exact SeqAt.EqAt.str_str a t' b t
  | _=>exact absurd (show false=true from fx) Bool.false_ne_true
 | _=>exact absurd (show false=true from fy) Bool.false_ne_true
noncomputable def eqU(x:V)(u:Value):Bool:=match u with
 | .none=>eqV .non x
 | .bool b=>eqV (.bl b) x
 | .int i _=>eqV (.int i) x
 | .str z _=>eqV (.str z) x
 | _=>false
theorem eqU_of{x y:V}{u:Value}(r:RelV y u)(f:flatV y=true):eqU x u=eqV y x:=by
 cases y with
 |non=>cases r;rfl
 |bl b=>cases r;rfl
 |int i=>obtain⟨t,rfl⟩:=r;rfl
 |str z=>obtain⟨t,rfl⟩:=r;rfl
 | _=>exact absurd (show false=true from f) Bool.false_ne_true
theorem any_eqU{x:V}:∀ {xs:List V}{us:List Value},Vals xs us->xs.all flatV=true->us.any (eqU x)=xs.any fun y=>eqV y x
 | _,_,.nil,_=>rfl
 |y :: xs,u :: us,.cons r t,f=>by
  rw[List.all_cons,Bool.and_eq_true]at f
  rw[List.any_cons,List.any_cons,eqU_of r f.1,any_eqU t f.2]
theorem mem_eqAt{A:Around}{s:Shared}{x:V}{v:Value}(rx:RelV x v)(fx:flatV x=true):∀ {xs:List V}{us:List Value},Vals xs us->xs.all flatV=true->∀ u∈us,SeqAt.EqAt A s u v (eqU x u)
 | _,_,.nil,_=>fun u hu=>by cases hu
 |y :: xs,u :: us,.cons r t,f=>fun u' hu=>by
  rw[List.all_cons,Bool.and_eq_true]at f
  rcases List.mem_cons.mp hu with rfl | hu
  ·rw[eqU_of r f.1];exact eqAt_V r rx f.1 fx
  ·exact mem_eqAt rx fx t f.2 u' hu
noncomputable def inV(x:V)(xs:List V):Bool:=xs.any fun y=>eqV y x
noncomputable def rIn(K:PySem.W.Frag)(neg:Bool):R2:=fun x y H Q=>∃ p xs,y = .ref p/\(SqL K H p xs\/SqT K H p xs)/\flatV x=true/\xs.all flatV=true/\Q (.bl (if neg then !inV x xs else inV x xs)) H
theorem op_notIn_seq:OpR X (compareOp .NotIn) (rIn X.K true):=by
 intro pins s σ H x y v u Q I rx ry h
 obtain⟨p,xs,rfl,hq,fx,fs,q⟩:=h
 cases ry
 rcases hq with hq | hq
 ·obtain⟨its,r,pl,hz⟩:=I.list hq
  refine SeqAt.notIn_listAt (eqU x) pl.isList (fun w hw=>mem_eqAt rx fx r fs w (by simpa using hw)) ⟨.bl _,H,I,rfl,?_⟩
  rw[show its.toArray.any (eqU x)=its.any (eqU x) by simp,any_eqU r fs]
  exact q
 ·obtain⟨its,r,pl,hz⟩:=I.tuple hq
  refine SeqAt.notIn_tupleAt (eqU x) pl (fun w hw=>mem_eqAt rx fx r fs w (by simpa using hw)) ⟨.bl _,H,I,rfl,?_⟩
  rw[show its.toArray.any (eqU x)=its.any (eqU x) by simp,any_eqU r fs]
  exact q
theorem call_len_seq:CallR X (.builtin "len") (fun xs H Q=>∃ p ys,xs=[.ref p]/\(SqL X.K H p ys\/SqT X.K H p ys)/\Q (.int ys.length) H):=by
 intro pins s σ H xs us Q I r h
 obtain⟨p,ys,rfl,hq,q⟩:=h
 obtain⟨u,rfl,rx⟩:=vals1 r
 cases rx
 have hn:=line63
 rcases hq with hq | hq
 ·obtain⟨its,r',pl,hz⟩:=I.list hq
  have hlen:=r'.length
  exact Calls.call_len_list pl.isList (by simp only[List.size_toArray] <;> lia) ⟨.int ys.length,H,I.tok _,⟨s.toks+1,by rw[List.size_toArray,hlen]⟩,q⟩
 ·obtain⟨its,r',pl,hz⟩:=I.tuple hq
  have hlen:=r'.length
  exact len_tuple pl (by simp only[List.size_toArray] <;> lia) ⟨.int ys.length,H,I.tok _,⟨s.toks+1,by rw[List.size_toArray,hlen]⟩,q⟩
theorem call_list_of:CallR X (.type "list") (fun xs H Q=>∃ p ys,xs=[.ref p]/\(SqL X.K H p ys\/SqT X.K H p ys)/\∀ l,H l=none->Q (.ref l) (upd H l (.lst ys))):=by
 intro pins s σ H xs us Q I r h
 obtain⟨p,ys,rfl,hq,q⟩:=h
 obtain⟨u,rfl,rx⟩:=vals1 r
 cases rx
 have fin:∀ (its:List Value),Vals ys its->ys.length<=sizeLine->∀ (h':Heap) (c':Nat),(∀ b o',s.heap.get? b=some o'->h'.get? b=some o') ->
   h'.get? s.heap.objs.size=some { cls:=.type "list",dict:=none,data:=.seq its.toArray c',slots:=#[] }->EP X pins σ Q (.ref s.heap.objs.size) { s with heap:=h' }:=fun its r' hz h' c' kp e =>
  ⟨.ref s.heap.objs.size,_,I.laid (t':=s.toks) kp (Nat.le_refl _) (show ObjOk X.prog X.w _ h' _ (.lst ys)from⟨hz,its,c',r',e⟩),rfl,q _ (I.hok.fresh (Nat.le_refl _))⟩
 rcases hq with hq | hq
 ·obtain⟨its,r',pl,hz⟩:=I.list hq
  have hlen:=r'.length
  obtain⟨o,ho,hc,n,hd⟩:=pl.isList
  exact call_list_seq p (.inl rfl) ho hc hd (fun h' c' kp e=>fin its r' hz h' c' kp e) (by simp only[List.size_toArray] <;> lia)
 ·obtain⟨its,r',pl,hz⟩:=I.tuple hq
  have hlen:=r'.length
  obtain⟨o,ho,hc,n,hd⟩:=pl
  exact call_list_seq p (.inr rfl) ho hc hd (fun h' c' kp e=>fin its r' hz h' c' kp e) (by simp only[List.size_toArray] <;> lia)
theorem call_tuple_of:CallR X (.type "tuple") (fun xs H Q=>∃ p ys,xs=[.ref p]/\((SqL X.K H p ys/\∀ l,H l=none->Q (.ref l) (upd H l (.tup ys)))\/(SqT X.K H p ys/\Q (.ref p) H))):=by
 intro pins s σ H xs us Q I r h
 obtain⟨p,ys,rfl,h⟩:=h
 obtain⟨u,rfl,rx⟩:=vals1 r
 cases rx
 rcases h with⟨hq,q⟩ |⟨hq,q⟩
 ·obtain⟨its,r',pl,hz⟩:=I.list hq
  have hlen:=r'.length
  refine call_tuple_list pl.isList (fun h' kp=>?_) (by simp only[List.size_toArray] <;> lia)
  have I1:Inv X pins σ H { s with heap:=h' }:=I.kept (t':=s.toks) kp
  have I2:Inv X pins σ (upd H h'.objs.size (.tup ys)) { s with heap:=h'.push { cls:=.type "tuple",data:=.seq its.toArray } } :=
   I1.laid (t':=s.toks) (fun b o e=>Heap.get?_push_of_some _ e) (Nat.le_refl _) (show ObjOk X.prog X.w _ _ _ (.tup ys)from⟨hz,its,r',IsTup.new _ _⟩)
  exact⟨.ref h'.objs.size,_,I2,rfl,q _ (I1.hok.fresh (Nat.le_refl _))⟩
 ·obtain⟨its,r',pl,hz⟩:=I.tuple hq
  exact call_tuple_same pl ⟨.ref p,H,I,rfl,q⟩
noncomputable def tyV(K:PySem.W.Frag)(T:String)(x:V)(H:Hp):Prop:=match x with
 | .str _=>T = "str"
 | .int _=>T = "int"
 | .ref p=>(T = "list"/\∃ xs,SqL K H p xs)\/(T = "tuple"/\∃ o,K.lookup p=some o/\o.cls = .type "tuple"/\o.dict=none) \/
   (T = "dict"/\((∃ kvs,H p=some (.dK kvs))\/∃ kvs,H p=some (.dT kvs)))\/(T = "set"/\∃ S n,H p=some (.set S n))
 | _=>False
theorem tyV_is{pins:List (Addr×Obj)}{σ:St}{H:Hp}{s:Shared}{T:String}{x:V}{v:Value}(I:Inv X pins σ H s)(r:RelV x v)(ty:tyV X.K T x H) :
  s.TypeIs v T/\∀ a,v = .ref a->∃ ob,s.heap.get? a=some ob/\ob.dict=none:=by
 cases x with
 |str z =>
  obtain⟨t,rfl⟩:=r
  cases(show T = "str" from ty)
  exact⟨typeIs_str s z t,fun _ e=>nomatch e⟩
 |int i =>
  obtain⟨t,rfl⟩:=r
  cases(show T = "int" from ty)
  exact⟨typeIs_int s i t,fun _ e=>nomatch e⟩
 |ref p =>
  cases r
  rcases ty with⟨rfl,xs,hq⟩ |⟨rfl,o,hk,hc,hd⟩ |⟨rfl,hk⟩ |⟨rfl,S,n,hk⟩
  ·obtain⟨its,_,pl,_⟩:=I.list hq
   refine⟨pl.isList.typeIs,fun a e=>?_⟩
   cases e
   obtain⟨o,n,e,c,hd,_⟩:=pl
   exact⟨o,e,hd⟩
  ·refine⟨⟨o,I.kIn p o hk,hc⟩,fun a e=>?_⟩
   cases e
   exact⟨o,I.kIn _ o hk,hd⟩
  ·have z:∃ o,s.heap.get? p=some o/\o.ExactDict:=by
    rcases hk with⟨kvs,hk⟩ |⟨kvs,hk⟩
    ·obtain⟨_,_,_,_,o,_,_,e,ex,_⟩:=I.hok p _ hk
     exact⟨o,e,ex⟩
    ·obtain⟨_,_,_,_,o,_,_,e,ex,_⟩:=I.hok p _ hk
     exact⟨o,e,ex⟩
   obtain⟨o,e,ex⟩:=z
   refine⟨⟨o,e,ex.1⟩,fun a e2=>?_⟩
   cases e2
   exact⟨o,e,ex.2.1⟩
  ·obtain⟨o,_,_,_,e,ex,_⟩:=I.hok p _ hk
   refine⟨⟨o,e,ex.1⟩,fun a e2=>?_⟩
   cases e2
   exact⟨o,e,ex.2.1⟩
 | _=>exact False.elim ty
noncomputable def tBM(K:PySem.W.Frag)(T:String)(r:V->List V->Hp->VK->Prop)(to:TE)(t:TA):TE:=fun σ H Q=>to σ H fun x H1=>tyV K T x H1/\t σ H1 fun xs H2=>r x xs H2 Q
variable{o e:Expr}{es:List Expr}{to:TE}{t:TA}{name:Str}{apos cpos:Pos}{T id:String}{r:V->List V->Hp->VK->Prop}
theorem pe_bm(pa:PlainAttrs T)(slot:Slot T name id)(hty:typeOf (.builtin id)=pure (.type "method_descriptor"))(hm:MtR X id r)(ho:PE X o to)(ha:PA X (e :: es) t)
  (hbase:attributeBase o name X.env (eval o X.env)=eval o X.env:=by rfl)
  (hfew:((backTo cpos (starEach (e :: es) X.env)).all (fun x=>!x.1) && (backToKw cpos (keywordEach [] X.env)).all (fun x=>x.1.isSome)
   && decide ((e :: es).length+([]:List Keyword).length+(if([]:List Keyword).isEmpty then 0 else 1)<30))=true:=by rfl)
  (hline:(apos.endLine == cpos.line)=true:=by rfl) (hs:starEach (e :: es) X.env=(false,eval e X.env) :: starEach es X.env:=by rfl) (hplain:(backTo cpos (starEach es X.env)).any (·.1)=false:=by rfl) :
  PE X (.Call (.Attribute o name apos) (e :: es) [] cpos) (tBM X.K T r to t):=by
 intro pins s σ H Q I h
 refine wpAny_Call_method_late hbase hfew hline rfl (thn (ho pins s σ H _ I h) fun v s1 ⟨x,H1,I1,r1,ty,q1⟩=>?_)
 obtain⟨h1,h2⟩:=tyV_is I1 r1 ty
 refine⟨T,id,pa,slot,hty,h1,h2,?_⟩
 have hA:=ha cpos pins s1 σ H1 _ I1 q1
 rw[hs]at hA ⊢
 refine Calls.callWith_builtin (by show(false ||(backTo cpos (starEach es X.env)).any (·.1))=false;rw[hplain] <;> rfl) (Calls.evalArgs_plain ?_)
 exact thn hA fun us s2 ⟨vs,H2,I2,r2,q2⟩=>hm pins s2 σ H2 x vs v us Q I2 r1 r2 q2
end
open PySem PySem.Spec PyProof.Rows
noncomputable def MtM(X:Cx)(id:String)(r:V->List V->Hp->VK->Prop):Prop :=
 ∀ (pins:List (Addr×Obj)) (s:Shared) (σ:St) (H:Hp) (x:V) (xs:List V) (v:Value) (us:List Value) (Q:VK),Inv X pins σ H s->RelV x v->Vals xs us->r x xs H Q ->
  wpAny (model X.prog X.w) X.A (call (.builtin id) (v :: us)) (EP X pins σ Q) X.xe s
theorem Vals.one{x:V}{us:List Value}(h:Vals [x] us):∃ u,us=[u]/\RelV x u:=by
 cases h with | cons r q=>cases q;exact⟨_,rfl,r⟩
theorem Vals.eraseIdx:∀ {xs:List V}{us:List Value} (i:Nat),Vals xs us->Vals (xs.eraseIdx i) (us.eraseIdx i)
 | _,_,_,.nil=>.nil
 | _,_,0,.cons _ t=>t
 | _,_,i+1,.cons r t=>.cons r (Vals.eraseIdx i t)
theorem len_erase{α:Type}:∀ (l:List α) (i:Nat),(l.eraseIdx i).length<=l.length
 |[],_=>Nat.le_refl _
 | _ :: _,0=>Nat.le_succ _
 | _ :: r,i+1=>Nat.succ_le_succ (len_erase r i)
section
variable{X:Cx}{pins:List (Addr×Obj)}{σ:St}{H:Hp}{s:Shared}{l b:Addr}{xs ys zs:List V}
theorem Inv.lset{its its':List Value}{n:Nat}{f:Array Value->Array Value}{t':Nat}(I:Inv X pins σ H s)(hH:H l=some (.lst xs))
  (e:s.heap.get? l=some { cls:=.type "list",data:=.seq its.toArray n }) (hf:f its.toArray=its'.toArray) (hv:Vals ys its') (hz:ys.length<=sizeLine) :
  Inv X pins σ (upd H l (.lst ys)) { s with heap:=s.heap.update l (Obj.mapSeq f),toks:=t' }:=by
 have q:=PySem.IsL.update e f
 rw[hf]at q
 refine I.write (x:=l) (e:=l) (by rw[hH];exact trivial) (.inl rfl) (fun b' u hb hu=>(Heap.get?_update_other s.heap (Obj.mapSeq f) (Ne.symm hb)).trans hu) ⟨_,q⟩ ?_
 exact⟨hz,its',_,hv,q⟩
theorem Inv.lnew{its:List Value}{t':Nat}(I:Inv X pins σ H s)(hv:Vals ys its)(hz:ys.length<=sizeLine) :
  Inv X pins σ (upd H s.heap.objs.size (.lst ys)) { s with heap:=s.heap.push { cls:=.type "list",data:=.seq its.toArray },toks:=t' } :=
 I.laid (fun _ _ q=>Heap.get?_push_of_some _ q) (Nat.le_refl _) ⟨hz,its,0,hv,Heap.get?_push_size _ rfl⟩
theorem Inv.fresh(I:Inv X pins σ H s):H s.heap.objs.size=none:=I.hok.fresh (Nat.le_refl _)
theorem Inv.lstM(I:Inv X pins σ H s)(hH:H l=some (.lst xs)):xs.length<=sizeLine/\∃ (its:List Value) (n:Nat),Vals xs its/\xs.length=its.length/\s.heap.get? l=some { cls:=.type "list",data:=.seq its.toArray n }:=by
 obtain⟨z,its,n,r,e⟩:=I.hok l _ hH
 exact⟨z,its,n,r,r.length,e⟩
theorem notLongL{n:Nat}(h:n<=sizeLine):Builtin.List.listTooLong n=false:=by
 unfold Builtin.List.listTooLong
 exact decide_eq_false (by lia)
end
section
variable{X:Cx}
noncomputable def rAppend:V->List V->Hp->VK->Prop:=fun x vs H Q=>∃ l xs y,x = .ref l/\vs=[y]/\H l=some (.lst xs)/\xs.length<sizeLine/\Q .non (upd H l (.lst (xs++[y])))
theorem mt_append:MtM X "list.append" rAppend:=by
 intro pins s σ H x vs v us Q I rx rv h
 obtain⟨l,xs,y,rfl,rfl,hH,hz,q⟩:=h
 cases rx
 obtain⟨u,rfl,ru⟩:=rv.one
 obtain⟨z,its,n,r,hl,e⟩:=I.lstM hH
 refine call_meets F.slot_list_append ⟨_,e,rfl⟩ F.entry_list_append (F.args_list_append_2 _ _) (PySem.list_append l its.toArray n u (by rw[List.size_toArray];lia)) ⟨e,?_⟩
 refine⟨.non,_,I.lset (its':=its++[u]) hH e (by simp) (r.append (.cons ru .nil)) ?_,rfl,q⟩
 rw[List.length_append,List.length_singleton]
 lia
noncomputable def rExtend:V->List V->Hp->VK->Prop:=fun x vs H Q=>∃ l b xs zs,x = .ref l/\vs=[.ref b]/\H l=some (.lst xs)/\H b=some (.lst zs)/\xs.length+zs.length<=sizeLine/\Q .non (upd H l (.lst (xs++zs)))
theorem mt_extend:MtM X "list.extend" rExtend:=by
 intro pins s σ H x vs v us Q I rx rv h
 obtain⟨l,b,xs,zs,rfl,rfl,hH,hB,hz,q⟩:=h
 cases rx
 obtain⟨u,rfl,ru⟩:=rv.one
 cases ru
 obtain⟨z,its,n,r,hl,e⟩:=I.lstM hH
 obtain⟨z2,its2,n2,r2,hl2,e2⟩:=I.lstM hB
 have hsz:its.toArray.size+its2.toArray.size<=sizeLine:=by rw[List.size_toArray,List.size_toArray];lia
 have hlong:¬(!its.toArray.isEmpty && Builtin.List.listTooLong (its.toArray.size+its2.toArray.size))=true:=by
  rw[notLongL hsz,Bool.and_false]
  exact Bool.false_ne_true
 refine call_meets F.slot_list_extend ⟨_,e,rfl⟩ F.entry_list_extend (F.args_list_extend_2 _ _)
  (AutoSeq1.list_extend_list_list_0 l its.toArray n b its2.toArray n2 hlong (by rw[List.size_toArray];lia) (by lia)) ⟨e,e2,?_⟩
 refine⟨.non,_,I.lset (its':=its++its2) hH e (by simp) (r.append r2) ?_,rfl,q⟩
 rw[List.length_append]
 omega
noncomputable def rPopAt:V->List V->Hp->VK->Prop:=fun x vs H Q=>∃ l xs i k y,x = .ref l/\vs=[.int i]/\H l=some (.lst xs)/\-(2 ^ 63)<=i/\i<2 ^ 63/\seqIndex? i xs.length=some k/\xs[k]?=some y/\Q y (upd H l (.lst (xs.eraseIdx k)))
theorem mt_popAt:MtM X "list.pop" rPopAt:=by
 intro pins s σ H x vs v us Q I rx rv h
 obtain⟨l,xs,i,k,y,rfl,rfl,hH,h1,h2,hk,hy,q⟩:=h
 cases rx
 obtain⟨u,rfl,ru⟩:=rv.one
 obtain⟨t,rfl⟩:=ru
 obtain⟨z,its,n,r,hl,e⟩:=I.lstM hH
 obtain⟨w,hw,rw'⟩:=r.get hy
 refine call_meets F.slot_list_pop ⟨_,e,rfl⟩ F.entry_list_pop (F.args_list_pop_2 _ _)
  (MeetsSeq.list_pop_at l its.toArray n i t k w (fitsIndex_both h1 h2) (by rw[List.size_toArray,<- hl];exact hk) (by rw[<- Array.getElem?_toList];exact hw) (by rw[List.size_toArray];lia)) ⟨e,?_⟩
 refine⟨y,_,I.lset (its':=its.eraseIdx k) hH e ?_ (r.eraseIdx k) ?_,rw',q⟩
 ·show its.toArray.eraseIdxIfInBounds k=(its.eraseIdx k).toArray
  rw[List.eraseIdxIfInBounds_toArray]
 ·have:=len_erase xs k
  lia
noncomputable def rCat:R2:=fun x y H Q=>∃ l b xs zs,x = .ref l/\y = .ref b/\H l=some (.lst xs)/\H b=some (.lst zs)/\xs.length+zs.length<=sizeLine/\∀ p,H p=none->Q (.ref p) (upd H p (.lst (xs++zs)))
theorem op_cat:OpR X (binaryOp .Add) rCat:=by
 intro pins s σ H x y v u Q I rx ry h
 obtain⟨l,b,xs,zs,rfl,rfl,hH,hB,hz,q⟩:=h
 cases rx
 cases ry
 obtain⟨z,its,n,r,hl,e⟩:=I.lstM hH
 obtain⟨z2,its2,n2,r2,hl2,e2⟩:=I.lstM hB
 refine PySem.P.add_list e e2 ?_ (by rw[List.size_toArray,List.size_toArray];lia)
 have ea:its.toArray++its2.toArray=(its++its2).toArray:=by simp
 rw[ea]
 exact⟨.ref _,_,I.lnew (t':=s.toks) (r.append r2) (by rw[List.length_append];omega),rfl,q _ I.fresh⟩
end
end L2
namespace Att
open PySem PySem.W PySem.Calls PyProof.Rows
theorem ints_of_wellAll{P:Params}{h:Heap}:∀ (ns:List Int) (vs:List Value),WellAll P h vs (ns.map WData.int)->IntsAre vs ns:=by
 intro ns
 induction ns with
 |nil =>
  intro vs w
  rw[List.map_nil]at w
  cases w
  exact .nil
 |cons n ns ih =>
  intro vs w
  rw[List.map_cons]at w
  cases w with
  |cons a b =>
   cases a
   exact .cons _ _ (ih _ b)
theorem script_of{l:OpenLaw}{n:Nat}(hn:l.most=some n){P:Params}{h:Heap}{args:List WData}{vals:List Value}
  (hpre:l.row.toRowW.claim.pre args=true) (hwl:WellAll P h vals args) :
  ∃ a vs ns,vals=[Value.ref a]/\args=[WData.list (ns.map WData.int)]/\h.get? a=some { cls:=.type "list",data:=.seq vs.toArray }/\IntsAre vs ns/\ns.length<=n:=by
 have hsh:WShape.hasAll [] args [.list .int]=true:=(pre_splitW hpre).1
 have hc:l.pre.holds [] { args:=args } = true:=(pre_splitW hpre).2
 obtain⟨d,r,rfl,h1,h2⟩:=hasAllW_cons hsh
 obtain rfl:=hasAllW_nil h2
 obtain⟨xs,rfl,h3⟩:=hasW_list h1
 obtain⟨ns,rfl⟩:=items_int h3
 have hlen:ns.length<=n:=by
  unfold OpenLaw.pre at hc
  have h4:(WTm.not (.lt (.lit (.int (n:Int))) (.len (.arg 0)))).holds [] { args:=[.list (ns.map .int)] } = true:=by
   have h4:=(holds_andW hc).1
   rw[hn]at h4
   exact h4
  have h5:=condW_of h4 (w_not (w_lt w_lit (w_len_list (w_arg rfl))))
  rw[List.length_map]at h5
  refine Nat.le_of_not_lt fun q=>?_
  have q':(n:Int) <((ns.length:Nat):Int):=by omega
  first
   |(rw[decide_eq_true q']at h5;exact absurd h5 (by decide))
   |(simp at h5;omega)
 cases hwl with
 |cons w1 w2 =>
  cases w2
  cases w1 with
  |list ho hall=>exact⟨_,_,ns,rfl,rfl,ho,ints_of_wellAll ns _ hall,hlen⟩
theorem post_true(l:OpenLaw)(args:List WData):l.row.toRowW.claim.post args (.bool true) args=true :=
 postW_of (r:=l.row.toRowW) (X:=(true == true))
  (show WShape.has [] (.bool true) .bool=true by first | rfl | decide | simp[WShape.has,WShape.arms,WShape.armsAll])
  (show(WTm.eq .res (.lit (.bool true))).value [] { args:=args,res:=some (.bool true),after:=args } = some (.bool (true == true))from w_eq_bool (w_res rfl) w_lit) rfl
theorem attach_call{l:OpenLaw}{n:Nat}{q:Program}{loose:List Str}{XP:(Str->Option Value)->Heap->Prop}{YP:World->Heap->Prop}{d:DefRec}
  (hn:l.most=some n) (hdf:d.params.defaults=[])
  (call:∀ (w:World) (s₀ s₁:Shared) (mg mb:Str->Option Value) (fa:Addr) (o:Obj) (pm cd doc:Value) (a:Addr) (vs:List Value) (ns:List Int),
   Ground q loose [] XP w s₀ mg mb s₁.heap->YP w s₁.heap ->
   s₁.heap.get? fa=some o->o.data = .func (docDef d.name d.params d.body d.scope pm cd doc)->s₁.heap.CodeRec cd d.name->mg d.name=some (.ref fa) ->
   s₁.heap.get? a=some { cls:=.type "list",data:=.seq vs.toArray }->IntsAre vs ns->ns.length<=n->s₁.gens = #[] ->
   codeAny (model l.prog w) callerA (.call (.ref fa) ⟨[.ref a],[]⟩) (fun r s'=>r = .ok (.ret (.bool true))/\OldK s₁.heap s'.heap/\s'.os=s₁.os/\AllBare s'.gens) s₁) :
  WalkO q loose XP YP l.row.toRowW d [] (fun f vs=>PySem.call f vs):=by
 intro w s₀ s₁ mg mb G Y fa o pm cd doc dV kV ho hd hcd hD hmg hg args vals as hpre hlay hrd hwl hlo
 obtain rfl:dV = .none:=Dflts.none hD hdf
 obtain rfl:kV = .none:=Dflts.noKw hD
 obtain⟨a,vs,ns,rfl,rfl,hobj,hints,hlen⟩:=script_of hn hpre hwl
 refine enter_call (codeAny_mono (call w s₀ s₁ mg mb fa o pm cd doc a vs ns G Y ho (fd_plain hd) hcd hmg hobj hints hlen hg) fun r s' hq=>?_)
 obtain⟨rfl,h2,h3,h4⟩:=hq
 exact⟨.inl ⟨.bool true,.bool true,[],rfl,fun _=>rfl,.bool true,post_true l _,fun _=>⟨List.Pairwise.nil,fun _ hm=>(nomatch hm)⟩⟩,h2,h3,h4⟩
end Att
namespace L2
open PySem PySem.Spec PyProof.Rows
theorem vals_ints:∀ {vs:List Value}{ns:List Int},IntsAre vs ns->Vals (ns.map V.int) vs
 | _,_,.nil=>.nil
 | _,_,.cons n t h=>.cons ⟨t,rfl⟩ (vals_ints h)
noncomputable def Only(H:Hp):Prop:=∀ b,H b=none\/∃ o xs,H b=some (.frz o (.lst xs))
theorem law_call{P:Program}{w:World}{K:PySem.W.Frag}{mg mb:Str->Option Value}{CX:CXT}{k:Nat}{fa a:Addr}{fd:FuncData}{x:Str}{sp:Sp}{s₁:Shared}{vs:List Value}{ns:List Int}
  (KX:K.In s₁.heap) (hns:s₁.heap.Ns mainGlobals mg) (hb:s₁.heap.Ns builtinsNs mb) (hbb:∀ x:Str,x≠"__name__"->mb x=bootBuiltins x) (hlim:s₁.heap.NoLimit) (hg:s₁.gens = #[])
  (ha:s₁.heap.get? a=some { cls:=.type "list",data:=.seq vs.toArray }) (hi:IntsAre vs ns) (hl:ns.length<=sizeLine) (hr:Room k callerA)
  (F:∀ base:Heap,K.In base->base.Ns mainGlobals mg->FnOk P w K mg base CX k fa fd [x] sp) (hbind:∀ (s:Shared) (u:Value),BindsTo s fd ⟨[u],[]⟩ [(x,u)])
  (hsp:∀ H:Hp,Only H->SqL K H a (ns.map V.int)->sp [.ref a] H (fun v _=>v = .bl true) fun _ _ _=>False)
  (hCX:∀ H e s',CX [] H s₁ (fun _ _ _=>False) e s'->False) :
  codeAny (model P w) callerA (.call (.ref fa) ⟨[.ref a],[]⟩) (fun r s'=>r = .ok (.ret (.bool true))/\OldK s₁.heap s'.heap/\s'.os=s₁.os/\AllBare s'.gens) s₁:=by
 have rv:=vals_ints hi
 have lenV:=hi.length
 -- from an abstract heap in which nothing but the script may be tracked
 have core:∀ H:Hp,Only H->SqL K H a (ns.map V.int)->HOk P w H s₁.heap->(∀ b,H b≠none->b=a)->(H a≠none->K.lookup a=none) ->
   codeAny (model P w) callerA (.call (.ref fa) ⟨[.ref a],[]⟩) (fun r s'=>r = .ok (.ret (.bool true))/\OldK s₁.heap s'.heap/\s'.os=s₁.os/\AllBare s'.gens) s₁:=by
  intro H hO hS hok hA hK
  have base_of:∀ {b:Addr}{o:Obj},s₁.heap.get? b=some o->H b=none->(hidT s₁.heap H).get? b=some o:=fun e n=>hidT_get e n
  have noA:∀ {b:Addr}{o:Obj}{es:Array DictEntry}{ep:Nat},s₁.heap.get? b=some o->o.data = .dict es ep->H b=none:=fun {b o es ep} e d=>by
   cases q:H b with
   |none=>rfl
   |some u =>
    have e':b=a:=hA b (by rw[q];simp)
    subst e'
    rw[ha]at e;cases e
    have d':Data.seq vs.toArray _=Data.dict es ep:=d
    cases d'
  have nsK:∀ {b:Addr}{m:Str->Option Value},s₁.heap.Ns b m->(hidT s₁.heap H).Ns b m:=fun {b m} ⟨o,es,ep,e,d,r⟩=>⟨o,es,ep,base_of e (noA e d),d,r⟩
  have hKb:K.In (hidT s₁.heap H):=fun b o e=>base_of (KX b o e) (by
   cases q:H b with
   |none=>rfl
   |some u =>
    have e':b=a:=hA b (by rw[q];simp)
    subst e'
    rw[hK (by rw[q];simp)]at e;cases e)
  have hM:Mod K mg (hidT s₁.heap H):=⟨hKb,nsK hns,⟨mb,nsK hb,hbb⟩,let ⟨mc,h1,h2⟩:=hlim;⟨mc,nsK h1,h2⟩⟩
  have e0:Env0 P w K mg (hidT s₁.heap H) callerA [] s₁ H:=⟨rfl,hM,fun b o e=>of_hidT e,Nat.le_of_eq (hidT_size _ _),trivial,fun b hb=>absurd (show b∈([]:List Addr)from hb) (by simp),hok,.of_eq hg⟩
  refine codeAny_mono ((F _ hKb (nsK hns)).run callerA [] s₁ H ⟨[.ref a],[]⟩ [.ref a] [.ref a] _ _ hr e0 (hbind s₁ (.ref a)) (.cons rfl .nil) (hsp H hO hS)) fun r s' h=>?_
  cases r with
  |error e=>exact(hCX H e s' h).elim
  |ok fl =>
   cases fl with
   |next=>exact False.elim h
   |brk=>exact False.elim h
   |cont=>exact False.elim h
   |ret u =>
    obtain⟨v,H',os,bare,un,hok',r',q⟩:=h
    have q':v = .bl true:=q
    subst q'
    obtain rfl:u=Value.bool true:=r'
    refine⟨rfl,OldK.of_keep fun b o e=>?_,os,bare⟩
    cases q:H b with
    |none=>exact un.keep b o e q (by intro z;exact absurd (show b∈([]:List Addr)from z) (by simp)) (by simp)
    |some u =>
     rcases hO b with z |⟨ob,xs,z⟩
     ·rw[q]at z;cases z
     ·have z2:=un.frzs b ob _ z
      obtain⟨e1,_⟩:=hok b _ z
      obtain⟨e2,_⟩:=hok' b _ z2
      rw[e]at e1;cases e1
      exact e2
 cases hk:K.lookup a with
 |some o =>
  -- the script is one of the module's own objects
  have e:=KX a o hk
  rw[ha]at e
  cases e
  refine core (fun _=>none) (fun _=>.inl rfl) (.inr ⟨_,vs.toArray,_,hk,rfl,rfl,rfl,by rw[List.size_toArray,lenV];exact hl,by simpa using rv⟩) (fun b u z=>by have z':(none:Option HO)=some u:=z;cases z') (fun b z=>absurd rfl z) fun z=>absurd rfl z
 |none =>
  refine core (fun b=>if b=a then some (.frz { cls:=.type "list",data:=.seq vs.toArray } (.lst (ns.map V.int)))else none) (fun b=>?_) (.inl (.inr ⟨{ cls:=.type "list",data:=.seq vs.toArray },if_pos rfl⟩)) (fun b u z=>?_) (fun b z=>?_) fun _=>hk
  ·by_cases hb:b=a
   ·exact .inr ⟨_,_,if_pos hb⟩
   ·exact .inl (if_neg hb)
  ·by_cases hb:b=a
   ·have z':=(if_pos hb).symm.trans z
    cases z'
    subst hb
    exact⟨ha,by rw[List.length_map];exact hl,vs,_,rv,ha⟩
   ·have z':=(if_neg hb).symm.trans z
    cases z'
  ·by_cases hb:b=a
   ·exact hb
   ·exact absurd (if_neg hb) z
open PySem PySem.Spec PyProof.Rows
theorem walk_of{l:PySem.W.OpenLaw}{n k:Nat}{q:Program}{loose:List Str}{XP:(Str->Option Value)->Heap->Prop}{YP:World->Heap->Prop}{d:DefRec}{K:Params->PySem.W.Frag}{CX:World->CXT}{sp:World->Sp}{x:Str}
  (hn:l.most=some n) (hn2:n<=sizeLine) (hdf:d.params.defaults=[]) (hr:Room k callerA)
  (hY:∀ (w:World) (h:Heap),YP w h->(K w.params).In h)
  (F:∀ (w:World) (mg:Str->Option Value) (fa:Addr) (h:Heap),(K w.params).In h->h.Ns mainGlobals mg->mg d.name=some (.ref fa) ->
   ∃ fd:FuncData,(∀ (s:Shared) (u:Value),BindsTo s fd ⟨[u],[]⟩ [(x,u)]) /\
    ∀ base:Heap,(K w.params).In base->base.Ns mainGlobals mg->FnOk l.prog w (K w.params) mg base (CX w) k fa fd [x] (sp w))
  (hsp:∀ (w:World) (H:Hp) (a:Addr) (ns:List Int),ns.length<=n->Only H->SqL (K w.params) H a (ns.map V.int)->sp w [.ref a] H (fun v _=>v = .bl true) fun _ _ _=>False)
  (hCX:∀ (w:World) (H:Hp) (s:Shared) (e:Value) (s':Shared),CX w [] H s (fun _ _ _=>False) e s'->False) :
  PySem.W.WalkO q loose XP YP l.row.toRowW d [] (fun f vs=>PySem.call f vs):=by
 refine Att.attach_call hn hdf fun w s₀ s₁ mg mb fa o pm cd doc a vs ns G Y ho hd hcd hmg hobj hints hlen hg=>?_
 have KX:=hY w _ Y
 obtain⟨fd,hb,hF⟩:=F w mg fa _ KX G.T.g hmg
 exact law_call KX G.T.g G.T.b G.T.builtins G.T.nolimit hg hobj hints (Nat.le_trans hlen hn2) hr hF hb (fun H hO hS=>hsp w H a ns hlen hO hS) fun H e s'=>hCX w H s₁ e s'
open PySem PySem.Spec PyProof.Rows
noncomputable def defArgs(s:Stmt):Arguments:=match s with
 | .FunctionDef _ a _ _ _ _ _ _ _ _=>a
 | _=>{ posonlyargs:=[],args:=[],vararg:=none,kwonlyargs:=[],kw_defaults:=[],kwarg:=none,defaults:=[] }
noncomputable def defBody(s:Stmt):List Stmt:=match s with
 | .FunctionDef _ _ b _ _ _ _ _ _ _=>b
 | _=>[]
noncomputable def defScope(s:Stmt):Scope:=match s with
 | .FunctionDef _ _ _ _ _ _ sc _ _ _=>sc
 | _=>{ kind:=.function,names:=[],isGenerator:=false,isCoroutine:=false }
noncomputable abbrev CX0:CXT:=fun _ _ _ _ _ _=>False
noncomputable abbrev E0:XK:=fun _ _ _=>False
theorem pass0{X:Cx}:Passes CX0 X E0:=fun _ _ _ _ _ _ _ h=>h.elim
structure Fun(K:PySem.W.Frag)(x qual:Str)(st:Stmt)(f:Addr)(fd:FuncData):Prop where
 ex:∃ (oc:Value) (od:Option Addr) (kV doc pm:Value) (an:Option Addr) (cdv ct:Value) (osl:Array (Option Value)),
  fd=PySem.W.fnOf x qual (defArgs st) (defBody st) (defScope st) .none kV doc pm an cdv ct/\K.lookup f=some ⟨oc,od,.func fd,osl⟩/\PySem.W.codeIn K cdv qual=true
 kp:PySem.W.keepIn K (.ref f)=true
section
variable{P:Program}{w:World}{K:PySem.W.Frag}{mg:Str->Option Value}{base:Heap}
theorem Fun.ok{x qual:Str}{st:Stmt}{f:Addr}{fd:FuncData}{N ps:List Str}{k:Nat}{sp:Sp}(F:Fun K x qual st f fd)(S:FnScope N ps (defScope st))(len:∀ vs H Q E,sp vs H Q E->vs.length=ps.length)
  (hbody:∀ (cdv:Value) (A:Around) (outer:List Env) (s:Shared) (H:Hp) (vs:List V) (Q:VK) (E:XK),Room k (A.deeper (envOfC qual (defScope st) s.heap.objs.size f cdv))->sp vs H Q E ->
   ∃ t,PSs (cxOf CX0 P w K mg base N qual (defScope st) f cdv A outer s H E).nox (defBody st) t/\t { nx:=fun _ H'=>Q .non H',rt:=Q } (start N vs) H):FnOk P w K mg base CX0 (k+1) f fd ps sp:=by
 obtain⟨oc,od,kV,doc,pm,an,cdv,ct,osl,rfl,lk,hcd⟩:=F.ex
 refine fn_of lk hcd S len fun A outer s H vs Q E hr hsp=>?_
 obtain⟨t,h,q⟩:=hbody cdv A outer s H vs Q E hr hsp
 exact⟨t,h.nox,q⟩
theorem Fun.binds{x qual:Str}{st:Stmt}{f:Addr}{fd:FuncData}{ps:List Str}(F:Fun K x qual st f fd)
  (h:∀ (kV doc pm:Value) (an:Option Addr) (cdv ct:Value) (us:List Value),us.length=ps.length->bindArgs (PySem.W.fnOf x qual (defArgs st) (defBody st) (defScope st) .none kV doc pm an cdv ct) ⟨us,[]⟩=pure (ps.zip us)):Binds K fd ps []:=by
 obtain⟨oc,od,kV,doc,pm,an,cdv,ct,osl,rfl,lk,hcd⟩:=F.ex
 exact .all (h kV doc pm an cdv ct)
theorem fun_mk{x qual:Str}{st:Stmt}{f:Addr}{oc:Value}{od an:Option Addr}{osl:Array (Option Value)}{kV doc pm cdv ct:Value}(l:K.lookup f=some ⟨oc,od,.func (PySem.W.fnOf x qual (defArgs st) (defBody st) (defScope st) .none kV doc pm an cdv ct),osl⟩)
  (c:PySem.W.codeIn K cdv qual=true) (k:PySem.W.keepIn K (.ref f)=true):Fun K x qual st f (PySem.W.fnOf x qual (defArgs st) (defBody st) (defScope st) .none kV doc pm an cdv ct):=⟨⟨oc,od,kV,doc,pm,an,cdv,ct,osl,rfl,l,c⟩,k⟩
end
theorem hu_of{A:Around}{k:Nat}(hr:Room k A):A.units+1<cLine:=Nat.lt_of_le_of_lt (Nat.add_le_add_left (by decide:1<=64) _) hr.units
section
variable{X:Cx}
theorem pv(i:Nat){x:Str}{pos:Pos}(hN:X.N[i]?=some x:=by rfl)(hv:Vis X.env.scope x:=by first | exact Or.inl rfl | exact Or.inr (Or.inl rfl) | exact Or.inr (Or.inr rfl))(hd:(x ==("__debug__":Str))=false:=by decide)
  (hcd:(x ==("__classdict__":Str))=false:=by decide):PE X (.Name x pos) (tVar i):=pe_var hN hv hd hcd
end
theorem iteF{A B:Prop}(h:B):if false=true then A else B:=by
 rw[if_neg Bool.false_ne_true]
 exact h
theorem iteT{A B:Prop}(h:A):if true=true then A else B:=by
 rw[if_pos rfl]
 exact h
theorem ite2{c A B:Prop}[Decidable c](h1:c->A)(h2:¬ c->B):if c then A else B:=by
 by_cases h:c
 ·rw[if_pos h]
  exact h1 h
 ·rw[if_neg h]
  exact h2 h
theorem iteNS{c A B:Prop}[Decidable c](hc:c)(h:B):if(!decide c)=true then A else B:=by
 rw[decide_eq_true hc]
 exact iteF h
noncomputable def Same(H H':Hp):Prop:=∀ b o,H b=some o->H' b=some o
theorem Same.refl(H:Hp):Same H H:=fun _ _ h=>h
theorem Same.trans{H H1 H2:Hp}(a:Same H H1)(b:Same H1 H2):Same H H2:=fun c o h=>b c o (a c o h)
theorem Same.free{H H':Hp}(e:Same H H'){l:Addr}(h:H' l=Option.none):H l=Option.none:=by
 cases q:H l with
 |none=>rfl
 |some o =>
  rw[e l o q]at h
  cases h
theorem Same.seq{K:PySem.W.Frag}{H H':Hp}{a:Addr}{xs:List V}(e:Same H H')(h:SqL K H a xs):SqL K H' a xs:=by
 rcases h with(h |⟨o,h⟩) | h
 ·exact .inl (.inl (e _ _ h))
 ·exact .inl (.inr ⟨o,e _ _ h⟩)
 ·exact .inr h
open PySem PySem.Spec PyProof.Rows
end L2
set_option maxHeartbeats 4000000
namespace L2
open PySem PySem.Spec PyProof.Rows
noncomputable def closCl(cells:List (Str×Addr)):List (Str×NameKind)->List (Str×Addr)->List (Str×Addr)
 |[],acc=>acc
 |(n,k) :: r,acc=>closCl cells r (if k == .free then(n,(cells.lookup n).getD 0) :: acc else acc)
theorem closureFor_cells{scope:Scope}{env:Env}(h:∀ x∈scope.names,x.2 = .free->∃ c,env.cells.lookup x.1=some c) :
  closureFor scope env=pure (closCl env.cells scope.names []):=by
 have gen:∀ (l:List (Str×NameKind)) (acc:List (Str×Addr)),(∀ x∈l,x.2 = .free->∃ c,env.cells.lookup x.1=some c) ->
   (forIn l acc fun(x:Str×NameKind) (cs:List (Str×Addr))=>(do
    if x.2 == .free then
     let c <- cellOf env x.1
     pure (ForInStep.yield ((x.1,c) :: cs))
    else pure (ForInStep.yield cs):Sem (ForInStep (List (Str×Addr)))))=pure (closCl env.cells l acc):=by
  intro l
  induction l with
  |nil=>intro acc _;rfl
  |cons x r ih =>
   intro acc hx
   obtain⟨n,k⟩:=x
   rw[List.forIn_cons]
   have hr:=fun y hy=>hx y (List.mem_cons_of_mem _ hy)
   by_cases hk:k = .free
   ·subst hk
    obtain⟨c,hc⟩:=hx (n,.free) List.mem_cons_self rfl
    have e1:cellOf env n=pure c:=by unfold cellOf;rw[hc]
    simp only[e1,beq_self_eq_true,if_true,pure_bind]
    rw[ih _ hr]
    have hc':env.cells.lookup n=some c:=hc
    simp[closCl,hc']
   ·have hb:(k == NameKind.free)=false:=by simpa using hk
    simp only[hb,Bool.false_eq_true,if_false,pure_bind]
    rw[ih _ hr]
    simp[closCl,hb]
 have g:=gen scope.names [] h
 unfold closureFor
 simp only[bind_pure]
 exact g
theorem closCl_sound{cells:List (Str×Addr)}:∀ (l:List (Str×NameKind)) (acc:List (Str×Addr)),(∀ x∈l,x.2 = .free->∃ c,cells.lookup x.1=some c) ->
  (∀ y c,acc.lookup y=some c->cells.lookup y=some c)->∀ y c,(closCl cells l acc).lookup y=some c->cells.lookup y=some c
 |[],_,_,ha,y,c,e=>ha y c e
 |(n,k) :: r,acc,h,ha,y,c,e=>by
  refine closCl_sound r _ (fun x hx=>h x (List.mem_cons_of_mem _ hx)) ?_ y c e
  intro y c e
  by_cases hk:k = .free
  ·subst hk
   obtain⟨c',hc⟩:=h (n,.free) List.mem_cons_self rfl
   have hc:cells.lookup n=some c':=hc
   simp only[beq_self_eq_true,if_true,List.lookup_cons]at e
   by_cases hy:y == n
   ·have:y=n:=by simpa using hy
    subst this
    simp[hc]at e
    rw[hc,e]
   ·simp only[hy]at e
    exact ha y c e
  ·have hb:(k == NameKind.free)=false:=by simpa using hk
   rw[hb,if_neg (by simp)]at e
   exact ha y c e
theorem closCl_acc{cells:List (Str×Addr)}:∀ (l:List (Str×NameKind)) (acc:List (Str×Addr)) (y:Str),(∃ c,acc.lookup y=some c)->∃ c,(closCl cells l acc).lookup y=some c
 |[],_,_,h=>h
 |(n,k) :: r,acc,y,h=>by
  refine closCl_acc r _ y ?_
  by_cases hk:(k == NameKind.free)=true
  ·rw[if_pos hk,List.lookup_cons]
   by_cases hy:(y == n)=true
   ·rw[hy];exact⟨_,rfl⟩
   ·rw[Bool.eq_false_iff.mpr hy];exact h
  ·rw[if_neg hk];exact h
theorem closCl_has{cells:List (Str×Addr)}:∀ (l:List (Str×NameKind)) (acc:List (Str×Addr)) (y:Str),(y,NameKind.free)∈l->∃ c,(closCl cells l acc).lookup y=some c
 |[],_,_,h=>nomatch h
 |(n,k) :: r,acc,y,h=>by
  rcases List.mem_cons.mp h with e | h
  ·have e1:n=y:=(congrArg Prod.fst e).symm
   have e2:k=NameKind.free:=(congrArg Prod.snd e).symm
   subst e1 e2
   refine closCl_acc r _ n ?_
   rw[if_pos (by rfl),List.lookup_cons,beq_self_eq_true]
   exact⟨_,rfl⟩
  ·exact closCl_has r _ y h
theorem relabel_mem{scope:Scope}{env:Env}:∀ {l:List (Str×NameKind)}{x:Str}{k':NameKind},
  (l.map fun(n,k)=>if(k == NameKind.free && env.scope.kind == .function && env.kindOf n == some .cell)then(n,NameKind.cell)else(n,k)).lookup x=some k' ->
  ∃ k,(x,k)∈l/\(k=k'\/(k = .free/\k' = .cell))
 |[],_,_,h=>by simp at h
 |(n,k) :: r,x,k',h=>by
  rw[List.map_cons]at h
  dsimp only at h
  by_cases hc:(k == NameKind.free && env.scope.kind == .function && env.kindOf n == some .cell)=true
  ·simp only[hc,if_true,List.lookup_cons]at h
   by_cases hx:(x == n)=true
   ·rw[hx]at h
    have:x=n:=by simpa using hx
    subst this
    have hk:k = .free:=by
     rw[Bool.and_eq_true,Bool.and_eq_true]at hc
     simpa using hc.1.1
    exact⟨k,List.mem_cons_self,.inr ⟨hk,by cases h;rfl⟩⟩
   ·rw[Bool.eq_false_iff.mpr hx]at h
    obtain⟨k1,h1,h2⟩:=relabel_mem (scope:=scope) h
    exact⟨k1,List.mem_cons_of_mem _ h1,h2⟩
  ·rw[if_neg hc,List.lookup_cons]at h
   by_cases hx:(x == n)=true
   ·rw[hx]at h
    have:x=n:=by simpa using hx
    subst this
    exact⟨k,List.mem_cons_self,.inl (by cases h;rfl)⟩
   ·rw[Bool.eq_false_iff.mpr hx]at h
    obtain⟨k1,h1,h2⟩:=relabel_mem (scope:=scope) h
    exact⟨k1,List.mem_cons_of_mem _ h1,h2⟩
theorem relabel_free{env:Env}:∀ {l:List (Str×NameKind)}{x:Str},l.lookup x=some .free ->
  (l.map fun(n,k)=>if(k == NameKind.free && env.scope.kind == .function && env.kindOf n == some .cell)then(n,NameKind.cell)else(n,k)).lookup x=some .cell \/
  (l.map fun(n,k)=>if(k == NameKind.free && env.scope.kind == .function && env.kindOf n == some .cell)then(n,NameKind.cell)else(n,k)).lookup x=some .free
 |[],_,h=>by simp at h
 |(n,k) :: r,x,h=>by
  rw[List.map_cons]
  dsimp only
  rw[List.lookup_cons]at h
  by_cases hx:(x == n)=true
  ·rw[hx]at h
   have hk:k = .free:=by cases h;rfl
   by_cases hc:(k == NameKind.free && env.scope.kind == .function && env.kindOf n == some .cell)=true
   ·left;rw[if_pos hc,List.lookup_cons,hx]
   ·right;rw[if_neg hc,List.lookup_cons,hx,hk]
  ·rw[Bool.eq_false_iff.mpr hx]at h
   have ih:=relabel_free (env:=env) h
   by_cases hc:(k == NameKind.free && env.scope.kind == .function && env.kindOf n == some .cell)=true
   ·rw[if_pos hc,List.lookup_cons,Bool.eq_false_iff.mpr hx];exact ih
   ·rw[if_neg hc,List.lookup_cons,Bool.eq_false_iff.mpr hx];exact ih
theorem lookup_mem{α:Type}[BEq α][LawfulBEq α]{β:Type}:∀ {l:List (α×β)}{x:α}{k:β},l.lookup x=some k->(x,k)∈l
 |[],_,_,h=>by simp at h
 |(n,k') :: r,x,k,h=>by
  rw[List.lookup_cons]at h
  by_cases hx:(x == n)=true
  ·rw[hx]at h
   have:x=n:=by simpa using hx
   subst this
   cases h
   exact List.mem_cons_self
  ·rw[Bool.eq_false_iff.mpr hx]at h
   exact List.mem_cons_of_mem _ (lookup_mem h)
noncomputable def cxIn(X:Cx)(N':List Str)(scope:Scope)(C:Addr)(s2:Shared)(H2:Hp)(fp:List Addr):Cx :=
 { X with N:=N',s₀:=s2,H₀:=H2,env:=compEnvC scope (closCl X.env.cells scope.names []) C X.env,outer:=X.stack,ex:=fp,fn:=fun _=>false,xe:=fun _ _=>False }
noncomputable def capt(cap:List (Option Nat))(σ:St):St:=cap.map fun o=>o.bind fun j=>(σ[j]?).join
structure CompScope(N':List Str)(cap:List (Option Nat))(N:List Str)(sc0 scope:Scope):Prop where
 kind:scope.kind = .function
 nocell:∀ x∈scope.names,x.2≠.cell
 loc:∀ x∈scope.names,x.2 = .local->scope.names.lookup x.1=some .local
 fre:∀ x∈scope.names,x.2 = .free->sc0.names.lookup x.1=some .cell\/sc0.names.lookup x.1=some .free
 len:cap.length=N'.length
 cap:∀ j∈List.range cap.length,match cap[j]? with
  |some (some i)=>match N'[j]? with
   |some x=>N[i]?=some x/\scope.names.lookup x=some .free
   |none=>False
  | _=>True
section
variable{X:Cx}{N':List Str}{cap:List (Option Nat)}{scope:Scope}{C:Addr}{s2 s4:Shared}{H2:Hp}{fp:List Addr}{pins:List (Addr×Obj)}{σ:St}
theorem CompScope.clos(S:CompScope N' cap X.N X.env.scope scope)(I:Inv X pins σ H2 s2):∀ x∈scope.names,x.2 = .free->∃ c,X.env.cells.lookup x.1=some c :=
 fun x hx hf=>I.ok.has x.1 (S.fre x hx hf)
theorem cxIn_ok(S:CompScope N' cap X.N X.env.scope scope)(I:Inv X pins σ H2 s2)(hC:s2.heap.objs.size<=C)(hfp:∀ b∈fp,FpOk X pins H2 b)(hfo:∀ b∈fp,∃ o,s2.heap.get? b=some o):(cxIn X N' scope C s2 H2 fp).Ok where
 mod:=I.ok.mod
 kind:=S.kind
 glob:=I.ok.glob
 blt:=I.ok.blt
 above:=hC
 inj:=fun x y c e1 e2=>I.ok.inj x y c (closCl_sound _ _ (S.clos I) (fun y c e=>by simp at e) x c e1) (closCl_sound _ _ (S.clos I) (fun y c e=>by simp at e) y c e2)
 has:=fun x h=>by
  have hm:(x,NameKind.free)∈scope.names:=by
   rcases h with h | h
   ·obtain⟨k,hk,e |⟨e,_⟩⟩:=relabel_mem (scope:=scope) (l:=scope.names) h
    ·subst e;exact absurd rfl (S.nocell _ hk)
    ·subst e;exact hk
   ·obtain⟨k,hk,e |⟨_,e⟩⟩:=relabel_mem (scope:=scope) (l:=scope.names) h
    ·subst e;exact hk
    ·cases e
  exact closCl_has _ _ x hm
 cab:=fun _ _ h _=>nomatch h
 hd:=I.ok.hd
 frames:=I.ok.frames
 stk:=.inl rfl
 exf:=fun b hb=>⟨fun z=>by
   obtain⟨o,ho⟩:=hfo b hb
   have h1:=Nat.lt_of_lt_of_le (Heap.lt_size ho) hC
   have z:b=C:=z
   rw[z]at h1
   exact Nat.lt_irrefl _ h1,fun x c e=>(hfp b hb).2.2.2.2.1 x c (closCl_sound _ _ (S.clos I) (fun y c e=>by simp at e) x c e)⟩
 bs:=I.bs
 bsz:=Nat.le_trans I.ok.bsz I.sz
 noex:=fun b o e hb=>by
  rcases(hfp b hb).2.2.2.1 with z | z
  ·exact I.ok.noex b o e z
  ·exact absurd (Nat.lt_of_lt_of_le (Heap.lt_size e) (Nat.le_trans I.ok.bsz z)) (Nat.lt_irrefl _)
 exfs:=fun b hb z=>by
  rcases List.mem_cons.mp (I.stkSub b z)with e | e
  ·exact(hfp b hb).2.1 e
  ·exact(hfp b hb).2.2.1 e
 funs:=I.stack
 frf:=I.stkFree
theorem cxIn_inv(S:CompScope N' cap X.N X.env.scope scope)(I:Inv X pins σ H2 s2)(hC:s2.heap.objs.size<=C)(hfp:∀ b∈fp,FpOk X pins H2 b)(hfo:∀ b∈fp,∃ o,s2.heap.get? b=some o)
  (ho:s4.os=s2.os) (hg:s4.gens=s2.gens) (k:∀ b o,s2.heap.get? b=some o->s4.heap.get? b=some o) {m:Str->Option Value} (hn:s4.heap.Ns C m) {D:Addr}{oD:Obj}
  (hD:s4.heap.get? D=some oD) (hDs:s2.heap.objs.size<=D) (hDC:D≠C) (hDc:∀ v,oD.data≠.cell v) :
  Inv (cxIn X N' scope C s2 H2 fp) (pins++[(D,oD)]) (capt cap σ) H2 s4 where
 ok:=cxIn_ok S I hC hfp hfo
 os:=ho
 bare:=by rw[hg];exact I.bare
 base:=Un.kept k
 loc:=by
  refine⟨m,hn,fun j x v e1 e2 _=>?_⟩
  have hj:j<cap.length:=by rw[S.len];exact(List.getElem?_eq_some_iff.mp e1).1
  have e1:N'[j]?=some x:=e1
  have hc:=S.cap j (List.mem_range.mpr hj)
  unfold capt at e2
  rw[List.getElem?_map]at e2
  cases hq:cap[j]? with
  |none=>rw[hq]at e2;cases e2
  |some o =>
   rw[hq]at e2 hc
   cases o with
   |none=>cases e2
   |some i =>
    simp only[e1]at hc
    obtain⟨hN,hfr⟩:=hc
    have e3:σ[i]?=some (some v):=by
     have e2:(σ[i]?).join=some v:=Option.some.inj e2
     cases hs:σ[i]? with
     |none=>rw[hs]at e2;cases e2
     |some w=>rw[hs]at e2;have e2:w=some v:=e2;rw[e2]
    have hm:=lookup_mem hfr
    have hk:=S.fre _ hm rfl
    obtain⟨m0,hn0,hl0⟩:=I.loc
    obtain⟨u,r,l⟩:=hl0 i x v hN e3 (.inr hk)
    refine⟨u,r,?_⟩
    rcases l with⟨l,_⟩ |⟨_,c,e,z⟩
    ·rcases hk with hk | hk
     ·rw[show X.env.kindOf x=some .cell from hk]at l;cases l
     ·rw[show X.env.kindOf x=some .free from hk]at l;cases l
    ·obtain⟨c',hc'⟩:=closCl_has (cells:=X.env.cells) scope.names [] x hm
     have hs:=closCl_sound scope.names [] (S.clos I) (fun y c e=>by simp at e) x c' hc'
     rw[e]at hs
     cases hs
     refine .inr ⟨relabel_free hfr,c,hc',?_⟩
     obtain⟨oc,ho',hd'⟩:=z
     exact⟨oc,k _ _ ho',hd'⟩
 cell:=fun x c e=>by
  obtain⟨v,oc,ho',hd'⟩:=I.cell x c (closCl_sound scope.names [] (S.clos I) (fun y c e=>by simp at e) x c e)
  exact⟨v,oc,k _ _ ho',hd'⟩
 free:=I.hok.fresh hC
 freeC:=fun x c e=>I.freeC x c (closCl_sound scope.names [] (S.clos I) (fun y c e=>by simp at e) x c e)
 pin:=fun p hp=>by
  have hp:p∈X.pn++(pins++[(D,oD)]):=hp
  have cne:∀ b o,s2.heap.get? b=some o->b≠C:=fun b o e z=>by
   have h1:=Nat.lt_of_lt_of_le (Heap.lt_size e) hC
   rw[z]at h1
   exact Nat.lt_irrefl _ h1
  rw[<- List.append_assoc]at hp
  rcases List.mem_append.mp hp with hp | hp
  ·obtain⟨e,n,ne,nf,d⟩:=I.pin p hp
   exact⟨k _ _ e,n,cne _ _ e,fun z=>by
    rcases List.mem_cons.mp (I.stkSub p.1 z)with e | e
    ·exact ne e
    ·exact nf e,d⟩
  ·have e:p=(D,oD):=by simpa using hp
   subst e
   refine⟨hD,I.hok.fresh hDs,hDC,fun z=>?_,hDc⟩
   rcases List.mem_cons.mp (I.stkSub D z)with e | e
   ·have h1:=Nat.lt_of_lt_of_le I.lt hDs
    rw[e]at h1
    exact Nat.lt_irrefl _ h1
   ·exact I.nofs hDs e
 hok:=I.hok.kept k
 len:=by unfold capt;rw[List.length_map];exact S.len
end
noncomputable def PF(X:Cx)(ifs:List Expr)(t:TT):Prop :=
 ∀ (pins:List (Addr×Obj)) (s:Shared) (σ:St) (H:Hp) (Q:Bool->Hp->Prop),Inv X pins σ H s->t σ H Q ->
  wpAny (model X.prog X.w) X.A (forIn ifs true fun c r=>if r=true then do let ok <- isTrue c X.env (eval c X.env);pure (ForInStep.yield ok)else pure (ForInStep.yield r)) (TP X pins σ Q) X.xe s
noncomputable def tTru:TT:=fun _ H Q=>Q true H
theorem pf_nil{X:Cx}:PF X [] tTru:=fun _ _ _ H _ I h=>wpAny_tests_nil ⟨H,I,h⟩
section
variable{prog:Program}{w:World}{A:Around}{E:Value->Shared->Prop}{R:Result->Shared->Prop}{s:Shared}
theorem codeAny_compLoop_any{elt target iter:Expr}{ifs:List Expr}{scope:Scope}{pos:Pos}{it acc:Value}{env:Env}(I:Nat->Shared->Prop)
  (turn:∀ n s,I n s->wpAny (model prog w) A (pyNext it) (fun r s₁=>match r with
   |none=>R (.ok .next) s₁
   |some v=>wpAny (model prog w) A (letOwnedTupleGo target it v) (fun _ s₁'=>wpAny (model prog w) A (assign target env v) (fun _ s₂ =>
     wpAny (model prog w) A (forIn ifs true fun c r=>if r=true then do let ok <- isTrue c env (eval c env);pure (ForInStep.yield ok)else pure (ForInStep.yield r)) (fun ok s₃ =>
      if ok=true then wpAny (model prog w) A (eval elt env) (fun x s₄ =>
       wpAny (model prog w) A (call (.builtin "list.append") [acc,x]) (fun _ s₅=>∃ m,m<n/\I m s₅) (fun _ _=>False) s₄) (fun _ _=>False) s₃
      else ∃ m,m<n/\I m s₃) (fun _ _=>False) s₂) (fun _ _=>False) s₁') (fun _ _=>False) s₁) (fun _ _=>False) s)
  (n:Nat) (h:I n s) :
  codeAny (model prog w) A (.compLoop (.ListComp elt [⟨target,iter,ifs,0⟩] scope pos) 0 it acc env) R s:=by
 refine codeAny_loop rfl I (fun n s hI=>?_) n h
 show wpAny _ A ((compTurn (.ListComp elt [⟨target,iter,ifs,0⟩] scope pos) 0 it acc env).onRaise (fun x=>do noteFrame x env;theTreesLotGoes x)) _ _ s
 refine wpAny_noted ?_
 rw[compTurn_list]
 refine wpAny_bind (wpAny_standAt (wpAny_bind (wpAny_mono (turn n s hI) (fun r s₁ h₁=>?_) fun _ _ h'=>h'.elim)))
 cases r with
 |none=>exact wpAny_pure h₁
 |some v =>
  refine wpAny_bind (wpAny_mono h₁ (fun _ s₁' h₁'=>?_) fun _ _ h'=>h'.elim)
  refine wpAny_bind (wpAny_mono h₁' (fun _ s₂ h₂=>wpAny_bind (wpAny_mono h₂ (fun ok s₃ h₃=>?_) fun _ _ h'=>h'.elim)) fun _ _ h'=>h'.elim)
  cases ok with
  |false=>exact wpAny_pure ⟨rfl,h₃⟩
  |true =>
   exact wpAny_bind (wpAny_bind (wpAny_mono h₃ (fun x s₄ h₄=>wpAny_bind (wpAny_mono h₄ (fun _ s₅ h₅=>wpAny_pure (wpAny_pure ⟨rfl,h₅⟩)) fun _ _ h'=>h'.elim)) fun _ _ h'=>h'.elim))
end
noncomputable def Kp:St->St->Prop
 |[],[]=>True
 |none :: r,_ :: r'=>Kp r r'
 |some v :: r,o :: r'=>o=some v/\Kp r r'
 | _,_=>False
theorem Kp.length:∀ {a b:St},Kp a b->a.length=b.length
 |[],[],_=>rfl
 |none :: r,_ :: r',h=>congrArg (· + 1) (Kp.length (a:=r) (b:=r') h)
 |some v :: r,o :: r',h=>congrArg (· + 1) (Kp.length (a:=r) (b:=r') h.2)
 |[],_ :: _,h=>h.elim
 |none :: _,[],h=>h.elim
 |some _ :: _,[],h=>h.elim
theorem Kp.get:∀ {a b:St},Kp a b->∀ (i:Nat) (v:V),a[i]?=some (some v)->b[i]?=some (some v)
 |[],[],_,i,v,e=>e
 |none :: r,_ :: r',h,0,v,e=>by simp at e
 |none :: r,_ :: r',h,i+1,v,e=>by simpa using Kp.get (a:=r) (b:=r') h i v (by simpa using e)
 |some w :: r,o :: r',h,0,v,e=>by rw[h.1];simpa using e
 |some w :: r,o :: r',h,i+1,v,e=>by simpa using Kp.get (a:=r) (b:=r') h.2 i v (by simpa using e)
 |[],_ :: _,h,_,_,_=>h.elim
 |none :: _,[],h,_,_,_=>h.elim
 |some _ :: _,[],h,_,_,_=>h.elim
noncomputable def compTurns(J:It)(cap:List (Option Nat))(σ:St)(H1:Hp)(Q:VK)(g:TG)(tc:TT)(te:TE):Prop:=∃ (n:Nat) (P:Nat->List V->Hp->Prop),n<=sizeLine/\P 0 [] H1 /\
 ∀ i ys H,ys.length<=i->i<=n->P i ys H->(J.stop i H/\∀ D,H D=none->Q (.ref D) (upd H D (.lst ys))) \/
  (i<n/\J.go i H/\∀ x H',J.yld i H x H'->g x (capt cap σ) H' fun σ2 H2=>Kp (capt cap σ) σ2/\tc σ2 H2 fun b H3=>if b=true then te σ2 H3 fun y H4=>P (i+1) (ys++[y]) H4 else P (i+1) ys H3)
noncomputable def tComp(cap:List (Option Nat))(wi:TI)(g:TG)(tc:TT)(te:TE):TE:=fun σ H Q=>wi σ H fun J H1=>compTurns J cap σ H1 Q g tc te
noncomputable def CompEnd(X:Cx)(pins:List (Addr×Obj))(σ:St)(Q:VK)(acc:Value)(C:Addr)(r:Result)(s':Shared):Prop :=
 match r with
 | .ok _=>∃ v H',Inv X pins σ H' s'/\RelV v acc/\Q v H'/\(∃ m,s'.heap.Ns C m)/\FpOk X pins H' C
 | .error _=>False
section
variable{X:Cx}{elt tg iter:Expr}{ifs:List Expr}{scope:Scope}{pos:Pos}{N':List Str}{cap:List (Option Nat)}{wi:TI}{g:TG}{tc:TT}{te:TE}
theorem comp_run(hc:X.calm=true)(S:CompScope N' cap X.N X.env.scope scope)(hi:PI X tg iter wi)(hg:∀ C s H fp,PG (cxIn X N' scope C s H fp) tg g)
  (ht:∀ C s H fp,PF (cxIn X N' scope C s H fp) ifs tc) (he:∀ C s H fp,PE (cxIn X N' scope C s H fp) elt te)
  {pins:List (Addr×Obj)}{s:Shared}{σ:St}{H:Hp}{Q:VK} (I:Inv X pins σ H s) (h:tComp cap wi g tc te σ H Q) :
  wpAny (model X.prog X.w) X.A (eval iter X.env) (fun x s₁=>wpAny (model X.prog X.w) X.A (pyIter x) (fun it s₂=>wpAny (model X.prog X.w) X.A (newList []) (fun acc s₃ =>
   wpAny (model X.prog X.w) X.A (newFunctionEnv scope X.env.globals (closCl X.env.cells scope.names []) [] X.env.qual none .none (some X.env)) (fun cenv s₄ =>
    codeAny (model X.prog X.w) X.A (.compStart (.ListComp elt [⟨tg,iter,ifs,0⟩] scope pos) 0 it acc { cenv with scope:=relabel scope X.env }) (CompEnd X pins σ Q acc cenv.locals) s₄) X.xe s₃) X.xe s₂) X.xe s₁) X.xe s:=by
 refine thn (hi pins s σ H _ I h) fun v s1 h1=>thn h1 fun itv s2 h2=>?_
 obtain⟨it,fp,tn,J,H2,e,I2,T,st2,f2,n,P,hn,p0,turn⟩:=h2
 subst e
 refine wpAny_newObj_type (wpAny_newFunctionEnv S.nocell (by intro y hy;simp at hy) (fun h₁ hns₁ hsb₁=>?_) S.kind)
 dsimp only at hns₁ hsb₁ ⊢
 generalize hHp:s2.heap.push { cls:=.type "list",dict:=none,data:=.seq ([]:List Value).toArray } = Hq at hns₁ hsb₁ ⊢
 have hC:Hq.objs.size=s2.heap.objs.size+1:=by rw[<- hHp,Heap.size_push]
 have hDC:s2.heap.objs.size≠Hq.objs.size:=by rw[hC];exact Nat.ne_of_lt (Nat.lt_succ_self _)
 have hCle:s2.heap.objs.size<=Hq.objs.size:=by rw[hC];exact Nat.le_succ _
 have old:∀ b o,s2.heap.get? b=some o->h₁.get? b=some o:=fun b o e =>
  hsb₁.extBut b o (by rw[hC];exact Nat.ne_of_lt (Nat.lt_succ_of_lt (Heap.lt_size e))) (Heap.get?_push_of_some _ (hHp▸Heap.get?_push_of_some _ e))
 have hacc:h₁.PlainList s2.heap.objs.size #[]:=⟨_,hsb₁.extBut _ _ hDC (Heap.get?_push_of_some _ (hHp▸Heap.get?_push_size _ rfl))⟩
 have hfo:∀ b∈fp,∃ o,s2.heap.get? b=some o:=fun b hb=>let ⟨o,e,_⟩:=T.obj _ _ st2 b hb;⟨o,e⟩
 have st4:tn 0 h₁:=T.keep _ _ _ st2 fun b _ o e=>old b o e
 let D:Addr:=s2.heap.objs.size
 let C:Addr:=Hq.objs.size
 let Y:Cx:=cxIn X N' scope C s2 H2 fp
 have hDfp:D∉fp:=fun hb=>by
  obtain⟨o,e⟩:=hfo D hb
  exact Nat.lt_irrefl _ (Heap.lt_size e)
 -- the iterator's objects,seen from within
 have stat:∀ {H':Hp}{oD:Obj},(∀ b∈fp,H' b=none)->∀ b∈fp,FpOk Y (pins++[(D,oD)]) H' b:=fun {H' oD} hn b hb=>by
  obtain⟨f0,f1,fx,f3,f4,f5⟩:=f2 b hb
  obtain⟨o,e⟩:=hfo b hb
  refine⟨hn b hb,fun z=>?_,fun z=>?_,.inl hb,fun x c e=>f4 x c (closCl_sound _ _ (S.clos I2) (fun y c e=>by simp at e) x c e),fun p hp=>?_⟩
  ·have h1:=Nat.lt_of_lt_of_le (Heap.lt_size e) hCle
   have z:b=Hq.objs.size:=z
   rw[z]at h1
   exact Nat.lt_irrefl _ h1
  ·rcases List.mem_cons.mp (I2.stkSub b z)with e | e
   ·exact f1 e
   ·exact fx e
  ·have hp:p∈X.pn++(pins++[(D,oD)]):=hp
   rw[<- List.append_assoc]at hp
   rcases List.mem_append.mp hp with hp | hp
   ·exact f5 p hp
   ·have q:p=(D,oD):=by simpa using hp
    subst q
    exact fun z=>hDfp (by rw[show D=b from z];exact hb)
 have loop:∀ s₃:Shared,s₃ = { s2 with heap:=h₁,toks:=s2.toks+([]:List (Str×Value)).length } ->
   codeAny (model X.prog X.w) X.A (.compLoop (.ListComp elt [⟨tg,iter,ifs,0⟩] scope pos) 0 (.ref it) (.ref s2.heap.objs.size) (compEnvC scope (closCl X.env.cells scope.names []) Hq.objs.size X.env))
    (CompEnd X pins σ Q (.ref s2.heap.objs.size) Hq.objs.size) s₃:=by
  rintro s₃ rfl
  have cellD:∀ x c,Y.env.cells.lookup x=some c->c≠D:=fun x c e z=>by
   obtain⟨v,q⟩:=I2.cell x c (closCl_sound _ _ (S.clos I2) (fun y c e=>by simp at e) x c e)
   have h1:=q.lt
   rw[show c=s2.heap.objs.size from z]at h1
   exact Nat.lt_irrefl _ h1
  have pinD:∀ p∈X.pn++pins,p.1≠D:=fun p hp z=>by
   have h1:=Heap.lt_size (I2.pin p hp).1
   rw[show p.1=s2.heap.objs.size from z]at h1
   exact Nat.lt_irrefl _ h1
  have inD:∀ {pl:List (Addr×Obj)}{oD:Obj},(D,oD)∈Y.pn++((pins++[(D,oD)])++pl):=fun {pl oD}=>List.mem_append_right _ (List.mem_append_left _ (List.mem_append_right _ (by simp)))
  have inF:∀ {pl:List (Addr×Obj)}{oD:Obj}{p:Addr×Obj},p∈pl->p∈Y.pn++((pins++[(D,oD)])++pl):=fun {pl oD p} hp=>List.mem_append_right _ (List.mem_append_right _ hp)
  refine codeAny_compLoop_any (fun m s'=>∃ i ys H' its ep,m=n-i/\i<=n/\ys.length<=i/\Vals ys its/\Inv Y (pins++[(D,{ cls:=.type "list",data:=.seq its.toArray ep })]) (capt cap σ) H' s'/\tn i s'.heap/\(∀ b∈fp,H' b=none)/\P i ys H') ?_ n ?_
  ·rintro m s3 ⟨i,ys,H3,its,ep,rfl,hin,hyl,rv,I3,st3,fr3,p3⟩
   rcases turn i ys H3 hyl hin p3 with⟨stop,q⟩ |⟨hlt,go,step⟩
   ·refine thn (T.done Y rfl rfl rfl hc i _ s3 _ H3 (fun _ _=>False) I3 (stat fr3) st3 stop) fun r s4 ⟨hr,I4⟩=>?_
    subst hr
    obtain⟨eD,nD,_⟩:=I4.pin (D,{ cls:=.type "list",data:=.seq its.toArray ep }) (List.mem_append_right _ (List.mem_append_right _ (by simp)))
    have nD:H3 D=none:=nD
    have okn:ObjOk X.prog X.w (upd H3 D (.lst ys)) s4.heap D (.lst ys):=⟨Nat.le_trans hyl (Nat.le_trans hin hn),its,ep,rv,eD⟩
    have hok:HOk X.prog X.w (upd H3 D (.lst ys)) s4.heap:=fun b u e=>by
     by_cases hb:b=D
     ·subst hb;rw[upd_same]at e;cases e;exact okn
     ·rw[upd_ne hb]at e
      exact(I4.hok b u e).stay (fun c v _ q=>q) (fun c q=>by rw[upd_ne (ne_of_none q nD)];exact q) fun c xs q=>by rw[upd_ne (ne_of_none q nD)];exact q
    have B:=I4.base
    have u:Un (frs X.stack) fp H2 (upd H3 D (.lst ys)) s2.heap s4.heap :=
     ⟨B.keep,B.slot,fun b o e n hx=>by rw[upd_ne (Nat.ne_of_lt (Heap.lt_size e))];exact B.free b o e n hx,B.there,fun b xs e=>by rw[upd_ne (ne_of_none (B.tups b xs e) nD)];exact B.tups b xs e,
      fun b o xs e=>by rw[upd_ne (ne_of_none (B.frzs b o xs e) nD)];exact B.frzs b o xs e,fun b ps e=>by
       obtain⟨more,z⟩:=B.tbls b ps e
       exact⟨more,by rw[upd_ne (ne_of_none z nD)];exact z⟩⟩
    have IX:Inv X pins σ (upd H3 D (.lst ys)) s4:=I2.call' (ch:=fp) I4.os u hok I4.bare fun b hb=>by
     obtain⟨f0,f1,fx,f3,f4,f5⟩:=f2 b hb
     exact⟨f3,f1,f4,f5⟩
    have nC:(upd H3 D (.lst ys)) Hq.objs.size=none:=by rw[upd_ne (Ne.symm hDC)];exact I4.free
    obtain⟨m',hm',_⟩:=I4.loc
    exact⟨.ref D,_,IX,rfl,q D nD,⟨m',hm'⟩,I2.fpOk hCle nC⟩
   ·refine thn (T.item Y rfl rfl rfl hc i _ s3 _ H3 (fun _ _=>False) I3 (stat fr3) st3 go) fun r s4 ⟨u,hr,h4⟩=>?_
    subst hr
    refine thn h4 fun _ s5 ⟨x,H5,I5,r5,y5,st5,fr5⟩=>?_
    have I5':=I5.pinned (stat fr5) (T.obj _ _ st5)
    refine thn (hg C s2 H2 fp _ s5 _ H5 x u _ I5' r5 (step x H5 y5)) fun _ s6 ⟨σ6,H6,I6,kp,q6⟩=>?_
    refine thn (ht C s2 H2 fp _ s6 σ6 H6 _ I6 q6) fun b s7 ⟨H7,I7,q7⟩=>?_
    cases b with
    |false =>
     rw[if_neg Bool.false_ne_true]at q7 ⊢
     refine⟨n-(i+1),Nat.sub_succ_lt_self n i hlt,i+1,ys,H7,its,ep,rfl,hlt,Nat.le_succ_of_le hyl,rv,I7.unpinned.weak kp.length kp.get,?_,fun b hb=>?_,q7⟩
     ·exact T.keep _ _ _ st5 fun b hb o e=>(I7.pin (b,o) (inF (mem_pinsAt hb e))).1
     ·obtain⟨o,e,d⟩:=T.obj _ _ st5 b hb
      exact(I7.pin (b,o) (inF (mem_pinsAt hb e))).2.1
    |true =>
     rw[if_pos rfl]at q7 ⊢
     refine thn (he C s2 H2 fp _ s7 σ6 H7 _ I7 q7) fun yv s8 ⟨y,H8,I8,r8,q8⟩=>?_
     obtain⟨eD,nD,_⟩:=I8.pin (D,{ cls:=.type "list",data:=.seq its.toArray ep }) inD
     have hsz:its.toArray.size<=sizeLine:=by
      rw[List.size_toArray,<- rv.length]
      exact Nat.le_trans hyl (Nat.le_trans hin hn)
     refine wpAny_list_append_plain (items:=its.toArray) ⟨ep,eD⟩ (fun h9 pl9 sb9=>?_) hsz
     obtain⟨ep',e9⟩:=pl9
     have e9:h9.get? D=some { cls:=.type "list",data:=.seq (its++[yv]).toArray ep' }:=by rw[e9];simp
     have Ia:Inv Y pins σ6 H8 s8:=I8.pins_of fun p hp=>I8.pin p (List.mem_append_right _ (List.mem_append_left _ (List.mem_append_left _ hp)))
     have Ib:Inv Y pins σ6 H8 { s8 with heap:=h9 }:=Ia.turned (it:=D) (t':=s8.toks) (fun b o hb e=>(sb9.2 b hb).trans e) nD hDC (.inr (Nat.le_refl _)) cellD pinD
     have Ic:Inv Y (pins++[(D,{ cls:=.type "list",data:=.seq (its++[yv]).toArray ep' })]) σ6 H8 { s8 with heap:=h9 }:=Ib.pins_of fun p hp=>by
      rcases List.mem_append.mp hp with hp | hp
      ·exact Ib.pin p (List.mem_append_right _ hp)
      ·have q:p=(D,{ cls:=.type "list",data:=.seq (its++[yv]).toArray ep' }):=by simpa using hp
       subst q
       obtain⟨_,_,z1,z2,_⟩:=I8.pin (D,{ cls:=.type "list",data:=.seq its.toArray ep }) inD
       exact⟨e9,nD,z1,z2,fun v z=>by cases z⟩
     refine⟨n-(i+1),Nat.sub_succ_lt_self n i hlt,i+1,ys++[y],H8,its++[yv],ep',rfl,hlt,by simp;omega,Vals.append rv (.cons r8 .nil),Ic.weak kp.length kp.get,?_,fun b hb=>?_,q8⟩
     ·exact T.keep _ _ _ st5 fun b hb o e=>sb9.extBut b o (fun z=>hDfp (by rw[show D=b from Eq.symm z];exact hb)) (I8.pin (b,o) (inF (mem_pinsAt hb e))).1
     ·obtain⟨o,e,d⟩:=T.obj _ _ st5 b hb
      exact(I8.pin (b,o) (inF (mem_pinsAt hb e))).2.1
  ·obtain⟨ep,e⟩:=hacc
   refine⟨0,[],H2,[],ep,rfl,Nat.zero_le _,Nat.le_refl _,.nil,?_,st4,fun b hb=>(f2 b hb).1,p0⟩
   exact cxIn_inv (s4:={ s2 with heap:=h₁,toks:=s2.toks+([]:List (Str×Value)).length }) S I2 hCle f2 hfo rfl rfl old hns₁ e (Nat.le_refl _) hDC fun v z=>by cases z
 exact codeAny_compStart_list (loop _ rfl) (T.self X.A 0 _ _ _ st4 (loop _ rfl))
theorem pe_comp(hc:X.calm=true)(S:CompScope N' cap X.N X.env.scope scope)(hi:PI X tg iter wi)(hg:∀ C s H fp,PG (cxIn X N' scope C s H fp) tg g)
  (ht:∀ C s H fp,PF (cxIn X N' scope C s H fp) ifs tc) (he:∀ C s H fp,PE (cxIn X N' scope C s H fp) elt te)
  (hs:∀ x,foldedSetIterable iter X.env x=pure x:=by intro _;rfl):PE X (.ListComp elt [⟨tg,iter,ifs,0⟩] scope pos) (tComp cap wi g tc te):=by
 intro pins s σ H Q I h
 rw[eval_ListComp]
 refine wpAny_comprehension_free (use:=none) rfl hs (closureFor_cells (S.clos I)) S.kind S.loc (thn (comp_run (pos:=pos) hc S hi hg ht he I h) fun x s1 h1=>thn h1 fun it s2 h2=>thn h2 fun acc s3 h3=>thn h3 fun cenv s4 h4=>?_)
 refine codeAny_mono h4 fun r s' hr=>?_
 cases r with
 |error x=>exact hr.elim
 |ok f =>
  obtain⟨v,H',I',rv,q,⟨m,hn⟩,f0,f1,f2,f3,f4,f5⟩:=hr
  refine⟨m,hn,fun h' sb=>⟨v,H',I'.turned (it:=cenv.locals) (t':=s'.toks) (fun b o hb e=>(sb.2 b hb).trans e) f0 f1 f3 f4 f5,rv,q⟩⟩
theorem ps_comp{i:Nat}{x:Str}{pos' spos:Pos}(hN:X.N.Nodup)(hx:X.N[i]?=some x)(hl:Loc X.env.scope x)(hc:X.calm=true)(S:CompScope N' cap X.N X.env.scope scope)(hi:PI X tg iter wi)(hg:∀ C s H fp,PG (cxIn X N' scope C s H fp) tg g)
  (ht:∀ C s H fp,PF (cxIn X N' scope C s H fp) ifs tc) (he:∀ C s H fp,PE (cxIn X N' scope C s H fp) elt te)
  (hs:∀ x,foldedSetIterable iter X.env x=pure x:=by intro _;rfl) (hsw:swapsWith (.ListComp elt [⟨tg,iter,ifs,0⟩] scope pos) (some (.Name x pos')) spos.line X.env=pure true:=by rfl)
  (hf:X.fn x=true\/X.env.scope.names.lookup x=some .local:=by first | exact .inl rfl | exact .inr rfl | assumption) :
  PS X (.Assign [.Name x pos'] (.ListComp elt [⟨tg,iter,ifs,0⟩] scope pos) spos) (tAsg (tComp cap wi g tc te) (gName i)):=by
 intro pins s σ H D I h
 rw[exec_Assign_Name_used _ _ _ _ hsw]
 refine wpAny_bind (wpAny_standAt (wpAny_bind ?_))
 show wpAny _ _ (do let _ <- comprehension (.ListComp elt [⟨tg,iter,ifs,0⟩] scope pos) scope X.env _ (newList []) false (eval iter X.env) (some (assign (.Name x pos') X.env))) _ _ s
 refine wpAny_bind (wpAny_mono (wpAny_comprehension_free (use:=some (assign (.Name x pos') X.env)) (Q:=fun _ s'=>SP X pins D .next s') rfl hs (closureFor_cells (S.clos I)) S.kind S.loc
  (thn (comp_run (pos:=pos) hc S hi hg ht he I h) fun x s1 h1=>thn h1 fun it s2 h2=>thn h2 fun acc s3 h3=>thn h3 fun cenv s4 h4=>?_)) (fun _ s' hq=>wpAny_pure (wpAny_pure hq)) fun _ _ e=>e)
 refine codeAny_mono h4 fun r s' hr=>?_
 cases r with
 |error x=>exact hr.elim
 |ok f =>
  obtain⟨v,H',I',rv,q,⟨m,hn⟩,f0,f1,f2,f3,f4,f5⟩:=hr
  show wpAny _ _ (assign (.Name _ pos') X.env acc) _ _ _
  refine wpAny_assign_Name (store_ok2 I' hN hx hl rv (fun s'' I'' ⟨a,sb,ha⟩=>?_) hf)
  have hac:cenv.locals≠a:=by
   rcases ha with ha | ha
   ·rw[ha];exact f1
   ·exact Ne.symm (f4 _ a ha)
  refine⟨m,hn.sameBut sb hac,fun h' sb'=>⟨_,H',I''.turned (it:=cenv.locals) (t':=s''.toks) (fun b o hb e=>(sb'.2 b hb).trans e) f0 f1 f3 f4 f5,q⟩⟩
end
end L2
namespace Srt
open PySem PyProof.Rows
noncomputable def LtOk(κ:KeyKind)(kd:SortKind)(prog:Program)(w:World)(A:Around)(s:Shared):Prop :=
 ∀ (E:Value->Shared->Prop) (x y:Keyed) (a b:κ.α) (Q:Option Bool->SortSt->Prop) (st:SortSt),kindOf st=kd->κ.keyOf x.1=some a->κ.keyOf y.1=some b ->
  Q (some (κ.blt a b)) st->wpS (model prog w) A E s (lt' x y) Q st
structure SB(kd:SortKind)(a₀ b:Array Keyed)(lo:Nat)(pd:Array (Nat×Nat×Nat))(st:SortSt):Prop where
 perm:(arrOf st).Perm a₀
 kind:kindOf st=kd
 failed:failedOf st=none
 pend:pendingOf st=pd
 low:∀ k,k<lo->(arrOf st)[k]?=b[k]?
noncomputable def SIn(κ:KeyKind)(xs:Array Keyed)(lo n:Nat):Prop:=∀ i j,i<=j->j<n->κ.kle (KK κ xs (lo+i)) (KK κ xs (lo+j))
noncomputable def DIn(κ:KeyKind)(xs:Array Keyed)(lo n:Nat):Prop:=∀ i j,i<=j->j<n->κ.kle (KK κ xs (lo+j)) (KK κ xs (lo+i))
theorem at_key{κ:KeyKind}{a₀ xs:Array Keyed}(hp:xs.Perm a₀)(h0:KeysOf κ a₀){i:Nat}(hi:i<xs.size):∃ p a,xs[i]?=some p/\κ.keyOf p.1=some a/\KK κ xs i=a:=by
 have hm:xs[i]∈a₀.toList:=(Array.perm_iff_toList_perm.mp hp).mem_iff.mp (by simp)
 obtain⟨a,ha⟩:=h0 _ hm
 have e:xs[i]?=some xs[i]:=getElem?_pos _ i hi
 refine⟨xs[i],a,e,ha,?_⟩
 unfold KK;rw[e];simp[ha]
section
variable{prog:Program}{w:World}{A:Around}{E:Value->Shared->Prop}{s:Shared}{a₀ b:Array Keyed}{κ:KeyKind}{kd:SortKind}{lo:Nat}{pd:Array (Nat×Nat×Nat)}
theorem SB.size{st:SortSt}(h:SB kd a₀ b lo pd st):(arrOf st).size=a₀.size:=h.perm.size_eq
theorem SB.arr{st:SortSt}(h:SB kd a₀ b lo pd st){xs:Array Keyed}(hp:xs.Perm (arrOf st))(hl:∀ k,k<lo->xs[k]?=(arrOf st)[k]?):SB kd a₀ b lo pd (setArr st xs) :=
 ⟨hp.trans h.perm,h.kind,h.failed,h.pend,fun k hk=>(hl k hk).trans (h.low k hk)⟩
theorem SB.mirror{st:SortSt}(h:SB kd a₀ b lo pd st){i j:Nat}(hi:lo<=i)(hj:j<=a₀.size):SB kd a₀ b lo pd (setArr st (mirror (arrOf st) i j ((j-i) / 2))) :=
 h.arr (mirror_perm _ _ _ _) fun k hk=>by rw[getElem?_mirror_all (by rw[h.size];exact hj),if_neg (by lia)]
theorem elem_ok{arr:Array Keyed}{i:Nat}{p:Keyed}{Q:Keyed->SortSt->Prop}{st:SortSt}(h:arr[i]?=some p)(hq:Q p st):wpS (model prog w) A E s (elem' arr i) Q st:=by
 rw[elem'_eq,h];exact wpS_pure hq
theorem ltAt_ok{st:SortSt}{i j:Nat}{Q:Option Bool->SortSt->Prop}(hO:LtOk κ kd prog w A s)(hB:SB kd a₀ b lo pd st)(h0:KeysOf κ a₀)(hi:i<a₀.size)(hj:j<a₀.size)
  (h:Q (some (κ.blt (KK κ (arrOf st) i) (KK κ (arrOf st) j))) st):wpS (model prog w) A E s (ltAt' i j) Q st:=by
 obtain⟨x,a,e1,ha,ka⟩:=at_key hB.perm h0 (i:=i) (by rw[hB.size];exact hi)
 obtain⟨y,c,e2,hc,kc⟩:=at_key hB.perm h0 (i:=j) (by rw[hB.size];exact hj)
 rw[ka,kc]at h
 rw[ltAt'_eq]
 refine wpS_bind (wpS_get (wpS_bind (elem_ok e1 (wpS_bind (elem_ok e2 ?_)))))
 exact hO E x y a c Q st hB.kind ha hc h
theorem rev_ok{st:SortSt}{i j:Nat}{Q:Unit->SortSt->Prop}(h:Q () (setArr st (mirror (arrOf st) i j ((j-i) / 2)))):wpS (model prog w) A E s (reverseSlice' i j) Q st:=by
 rw[reverseSlice'_eq];exact wpS_modify h
theorem bcong{σ α β:Type}{m m':StateT σ Sem α}{f f':α->StateT σ Sem β}(h:m=m')(hf:∀ a,f a=f' a):(m >>= f)=(m' >>= f'):=by
 subst h
 rw[show f=f' from funext hf]
noncomputable def asc(lo a nrem:Nat):StateT SortSt Sem AscSt :=
 forIn [a:nrem] ((none,a):AscSt) fun _ c=>do
  let x <- ltAt' (lo+c.2) (lo+c.2-1)
  match x with
  |some sm=>if sm=true then pure (ForInStep.done (none,c.2))else pure (ForInStep.yield (none,c.2+1))
  | _=>pure (ForInStep.done (some none,c.2))
noncomputable def tl3(lo n nrem:Nat):StateT SortSt Sem (Option Nat):=do
 reverseSlice' lo (lo+n)
 let c <- asc lo n nrem
 match c.1 with
 |some r=>pure r
 |none=>pure (some c.2)
noncomputable def dsc(lo n nrem:Nat):StateT SortSt Sem DescSt :=
 forIn [n:nrem] ((none,n,0):DescSt) fun _ c=>do
  let x <- ltAt' (lo+c.2.1) (lo+c.2.1-1)
  match x with
  |some sm =>
   if sm=true then
    if c.2.2 > 0 then do
     reverseSlice' (lo+c.2.1-(c.2.2+1)) (lo+c.2.1)
     pure (ForInStep.yield (none,c.2.1+1,0))
    else pure (ForInStep.yield (none,c.2.1+1,0))
   else do
    let x <- ltAt' (lo+c.2.1-1) (lo+c.2.1)
    match x with
    |some la =>
     if la=true then pure (ForInStep.done (none,c.2.1,c.2.2))
     else pure (ForInStep.yield (none,c.2.1+1,c.2.2+1))
    | _=>pure (ForInStep.done (some none,c.2.1,c.2.2))
  | _=>pure (ForInStep.done (some none,c.2.1,c.2.2))
noncomputable def dpt(lo n nrem:Nat):StateT SortSt Sem (Option Nat):=do
 liftM (rule "list.sort.descending-run")
 let c <- dsc lo (n+1) nrem
 match c.1 with
 |some r=>pure r
 |none =>
  if c.2.2 > 0 then do
   reverseSlice' (lo+c.2.1-(c.2.2+1)) (lo+c.2.1)
   tl3 lo c.2.1 nrem
  else tl3 lo c.2.1 nrem
theorem count_eq(lo nrem:Nat):countRun' lo nrem=(do
  let c <- asc lo 1 nrem
  match c.1 with
  |some r=>pure r
  |none =>
   if(c.2 == nrem)=true then pure (some c.2)
   else if c.2 > 1 then do
    let x <- ltAt' lo (lo+c.2-1)
    match x with
    |some rose=>if rose=true then pure (some c.2)else do
      reverseSlice' lo (lo+c.2)
      dpt lo c.2 nrem
    | _=>pure none
   else dpt lo c.2 nrem):=by
 rw[countRun'_eq]
 unfold dpt tl3 dsc asc
 refine bcong rfl fun c=>?_
 obtain⟨r,n⟩:=c
 cases r with
 |some r=>rfl
 |none =>
  dsimp only
  split
  ·rfl
  ·split
   ·refine bcong rfl fun x=>?_
    cases x with
    |none=>rfl
    |some rose =>
     dsimp only
     split
     ·rfl
     ·refine bcong rfl fun _=>bcong rfl fun _=>bcong rfl fun s2=>?_
      obtain⟨r2,n2,q2⟩:=s2
      cases r2 with
      |some r2=>rfl
      |none =>
       dsimp only
       split
       ·refine bcong rfl fun _=>bcong rfl fun _=>bcong rfl fun s3=>?_
        obtain⟨r3,n3⟩:=s3
        cases r3 <;> rfl
       ·refine bcong rfl fun _=>bcong rfl fun s3=>?_
        obtain⟨r3,n3⟩:=s3
        cases r3 <;> rfl
   ·refine bcong rfl fun _=>bcong rfl fun s2=>?_
    obtain⟨r2,n2,q2⟩:=s2
    cases r2 with
    |some r2=>rfl
    |none =>
     dsimp only
     split
     ·refine bcong rfl fun _=>bcong rfl fun _=>bcong rfl fun s3=>?_
      obtain⟨r3,n3⟩:=s3
      cases r3 <;> rfl
     ·refine bcong rfl fun _=>bcong rfl fun s3=>?_
      obtain⟨r3,n3⟩:=s3
      cases r3 <;> rfl
theorem asc_ok{st:SortSt}{a nrem:Nat}{Q:AscSt->SortSt->Prop}(hO:LtOk κ kd prog w A s)(h0:KeysOf κ a₀)(hn:lo+nrem<=a₀.size)(ha:1<=a)(han:a<=nrem)(hB:SB kd a₀ b lo pd st)(hs:SIn κ (arrOf st) lo a)
  (h:∀ n,a<=n->n<=nrem->SIn κ (arrOf st) lo n->(n=nrem\/κ.klt (KK κ (arrOf st) (lo+n)) (KK κ (arrOf st) (lo+n-1)))->Q (none,n) st):wpS (model prog w) A E s (asc lo a nrem) Q st:=by
 unfold asc
 refine wpS_forRange (I:=fun x c st'=>st'=st/\c=(none,x)/\SIn κ (arrOf st) lo x) ?step ?fin ⟨rfl,rfl,hs⟩
 case fin =>
  rintro c st' ⟨rfl,rfl,g⟩
  rw[show max a nrem=nrem by lia]at g ⊢
  exact h nrem han (Nat.le_refl _) g (.inl rfl)
 case step =>
  rintro x c st' hax hxn ⟨rfl,rfl,g⟩
  dsimp only
  refine wpS_bind (ltAt_ok hO hB h0 (by lia) (by omega) ?_)
  cases q:κ.blt (KK κ (arrOf st') (lo+x)) (KK κ (arrOf st') (lo+x-1))with
  |true=>exact wpS_pure (h x hax (by lia) g (.inr q))
  |false =>
   refine wpS_pure ⟨rfl,rfl,fun i j hij hj=>?_⟩
   by_cases z:j<x
   ·exact g i j hij z
   ·have z:j=x:=by lia
    subst z
    by_cases y:i=j
    ·subst y;exact KeyOrd.kle_refl _
    ·have u:=g i (j-1) (by lia) (by lia)
     rw[show lo+(j-1)=lo+j-1 by lia]at u
     exact KeyOrd.kle_trans u q
theorem tl3_ok{st:SortSt}{n nrem:Nat}{Q:Option Nat->SortSt->Prop}(hO:LtOk κ kd prog w A s)(h0:KeysOf κ a₀)(hn:lo+nrem<=a₀.size)(h1:1<=n)(hnn:n<=nrem)(hB:SB kd a₀ b lo pd st)(hs:DIn κ (arrOf st) lo n)
  (h:∀ m st',SB kd a₀ b lo pd st'->1<=m->m<=nrem->SIn κ (arrOf st') lo m->Q (some m) st'):wpS (model prog w) A E s (tl3 lo n nrem) Q st:=by
 unfold tl3
 have hsz:lo+n<=(arrOf st).size:=by rw[hB.size];lia
 have hB':=hB.mirror (i:=lo) (j:=lo+n) (Nat.le_refl _) (by lia)
 refine wpS_bind (rev_ok (wpS_bind (asc_ok hO h0 hn h1 hnn hB' ?_ fun m p1 p2 p3 _=>wpS_pure (h m _ hB' (by lia) p2 p3))))
 intro i j hij hj
 show κ.kle (KK κ (mirror (arrOf st) lo (lo+n) ((lo+n-lo) / 2)) (lo+i)) (KK κ (mirror (arrOf st) lo (lo+n) ((lo+n-lo) / 2)) (lo+j))
 rw[KK_mirror hsz,KK_mirror hsz,if_pos (by lia),if_pos (by lia),show lo+(lo+n)-1-(lo+i)=lo+(n-1-i) by lia,show lo+(lo+n)-1-(lo+j)=lo+(n-1-j) by omega]
 exact hs _ _ (by omega) (by omega)
theorem dsc_ok{st:SortSt}{n nrem:Nat}{Q:DescSt->SortSt->Prop}(hO:LtOk κ kd prog w A s)(h0:KeysOf κ a₀)(hn:lo+nrem<=a₀.size)(h1:1<=n)(hnn:n<=nrem)(hB:SB kd a₀ b lo pd st)(hs:DIn κ (arrOf st) lo n)
  (h:∀ m q st',SB kd a₀ b lo pd st'->n<=m->m<=nrem->DIn κ (arrOf st') lo m->q+1<=m->(∀ i,m-(q+1)<=i->i<m->KK κ (arrOf st') (lo+i)=KK κ (arrOf st') (lo+m-1))->Q (none,m,q) st') :
  wpS (model prog w) A E s (dsc lo n nrem) Q st:=by
 unfold dsc
 refine wpS_forRange (I:=fun x c st'=>∃ q,c=(none,x,q)/\SB kd a₀ b lo pd st'/\DIn κ (arrOf st') lo x/\q+1<=x/\(∀ i,x-(q+1)<=i->i<x->KK κ (arrOf st') (lo+i)=KK κ (arrOf st') (lo+x-1))) ?step ?fin
  ⟨0,rfl,hB,hs,by omega,fun i h1 h2=>by rw[show lo+i=lo+n-1 by lia]⟩
 case fin =>
  rintro c st' ⟨q,rfl,g1,g2,g3,g4⟩
  rw[show max n nrem=nrem by lia]at g2 g3 g4 ⊢
  exact h nrem q st' g1 hnn (Nat.le_refl _) g2 g3 g4
 case step =>
  rintro x c st' hax hxn ⟨q,rfl,g1,g2,g3,g4⟩
  dsimp only
  have hsz:lo+x<=(arrOf st').size:=by rw[g1.size];lia
  refine wpS_bind (ltAt_ok hO g1 h0 (by lia) (by lia) ?_)
  cases t:κ.blt (KK κ (arrOf st') (lo+x)) (KK κ (arrOf st') (lo+x-1))with
  |true =>
   have step1:∀ xs:Array Keyed,(∀ k,KK κ xs k=KK κ (arrOf st') k)->DIn κ xs lo (x+1):=by
    intro xs hk i j hij hj
    rw[hk,hk]
    by_cases z:j<x
    ·exact g2 i j hij z
    ·have z:j=x:=by lia
     subst z
     by_cases y:i=j
     ·subst y;exact KeyOrd.kle_refl _
     ·have u:=g2 i (j-1) (by lia) (by lia)
      rw[show lo+(j-1)=lo+j-1 by lia]at u
      exact KeyOrd.kle_trans (KeyOrd.kle_of_klt t) u
   dsimp only
   rw[if_pos rfl]
   by_cases y:q > 0
   ·rw[if_pos y]
    have eqs:∀ k,lo+x-(q+1)<=k->k<lo+x->KK κ (arrOf st') k=KK κ (arrOf st') (lo+x-1):=fun k k1 k2=>by
     have u:=g4 (k-lo) (by omega) (by lia)
     rwa [show lo+(k-lo)=k by lia]at u
    refine wpS_bind (rev_ok (wpS_pure ⟨0,rfl,g1.mirror (by omega) (by lia),step1 _ (KK_mirror_equal hsz eqs),by lia,fun i h1 h2=>by rw[show lo+i=lo+(x+1)-1 by lia]⟩))
   ·rw[if_neg y]
    exact wpS_pure ⟨0,rfl,g1,step1 _ (fun _=>rfl),by lia,fun i h1 h2=>by rw[show lo+i=lo+(x+1)-1 by lia]⟩
  |false =>
   dsimp only
   rw[if_neg Bool.false_ne_true]
   refine wpS_bind (ltAt_ok hO g1 h0 (by lia) (by lia) ?_)
   cases u:κ.blt (KK κ (arrOf st') (lo+x-1)) (KK κ (arrOf st') (lo+x))with
   |true=>exact wpS_pure (h x q st' g1 hax (by lia) g2 g3 g4)
   |false =>
    have ex:KK κ (arrOf st') (lo+x)=KK κ (arrOf st') (lo+x-1):=KeyOrd.kle_antisymm u t
    refine wpS_pure ⟨q+1,rfl,g1,fun i j hij hj=>?_,by lia,fun i h1 h2=>?_⟩
    ·by_cases z:j<x
     ·exact g2 i j hij z
     ·have z:j=x:=by lia
      subst z
      by_cases y:i=j
      ·subst y;exact KeyOrd.kle_refl _
      ·rw[ex]
       have v:=g2 i (j-1) (by lia) (by lia)
       rwa [show lo+(j-1)=lo+j-1 by lia]at v
    ·rw[show lo+(x+1)-1=lo+x by lia]
     by_cases z:i=x
     ·subst z;rfl
     ·rw[ex];exact g4 i (by lia) (by lia)
theorem dpt_ok{st:SortSt}{n nrem:Nat}{Q:Option Nat->SortSt->Prop}(hO:LtOk κ kd prog w A s)(h0:KeysOf κ a₀)(hn:lo+nrem<=a₀.size)(hnn:n+1<=nrem)(hB:SB kd a₀ b lo pd st)(hs:DIn κ (arrOf st) lo (n+1))
  (h:∀ m st',SB kd a₀ b lo pd st'->1<=m->m<=nrem->SIn κ (arrOf st') lo m->Q (some m) st'):wpS (model prog w) A E s (dpt lo n nrem) Q st:=by
 unfold dpt
 refine wpS_bind (wpS_lift (wpAny_rule ⟨rfl,wpS_bind (dsc_ok hO h0 hn (by lia) hnn hB hs fun m q st' g1 m1 m2 g2 g3 g4=>?_)⟩))
 dsimp only
 have hsz:lo+m<=(arrOf st').size:=by rw[g1.size];lia
 by_cases y:q > 0
 ·rw[if_pos y]
  have eqs:∀ k,lo+m-(q+1)<=k->k<lo+m->KK κ (arrOf st') k=KK κ (arrOf st') (lo+m-1):=fun k k1 k2=>by
   have u:=g4 (k-lo) (by omega) (by lia)
   rwa [show lo+(k-lo)=k by lia]at u
  refine wpS_bind (rev_ok (tl3_ok hO h0 hn (by lia) m2 (g1.mirror (by omega) (by lia)) (fun i j hij hj=>?_) h))
  show κ.kle (KK κ (mirror (arrOf st') _ _ _) (lo+j)) (KK κ (mirror (arrOf st') _ _ _) (lo+i))
  rw[KK_mirror_equal hsz eqs,KK_mirror_equal hsz eqs]
  exact g2 i j hij hj
 ·rw[if_neg y]
  exact tl3_ok hO h0 hn (by lia) m2 g1 g2 h
theorem count_ok{st:SortSt}{nrem:Nat}{Q:Option Nat->SortSt->Prop}(hO:LtOk κ kd prog w A s)(h0:KeysOf κ a₀)(hn:lo+nrem<=a₀.size)(h1:1<=nrem)(hB:SB kd a₀ b lo pd st)
  (h:∀ m st',SB kd a₀ b lo pd st'->1<=m->m<=nrem->SIn κ (arrOf st') lo m->Q (some m) st'):wpS (model prog w) A E s (countRun' lo nrem) Q st:=by
 rw[count_eq]
 refine wpS_bind (asc_ok hO h0 hn (Nat.le_refl 1) h1 hB (fun i j hij hj=>by rw[show i=j by lia];exact KeyOrd.kle_refl _) fun n n1 n2 g1 g2=>?_)
 dsimp only
 by_cases z:n=nrem
 ·rw[if_pos (by simpa using z)]
  exact wpS_pure (h n st hB n1 n2 g1)
 ·rw[if_neg (by simpa using z)]
  have t:=g2.resolve_left z
  by_cases y:n > 1
  ·rw[if_pos y]
   refine wpS_bind (ltAt_ok hO hB h0 (by lia) (by omega) ?_)
   cases u:κ.blt (KK κ (arrOf st) lo) (KK κ (arrOf st) (lo+n-1))with
   |true=>exact wpS_pure (h n st hB n1 n2 g1)
   |false =>
    have hsz:lo+n<=(arrOf st).size:=by rw[hB.size];lia
    have eqs:∀ k,lo<=k->k<lo+n->KK κ (arrOf st) k=KK κ (arrOf st) (lo+n-1):=fun k k1 k2=>by
     have a1:=g1 0 (k-lo) (by lia) (by omega)
     have a2:=g1 (k-lo) (n-1) (by lia) (by omega)
     rw[show lo+(k-lo)=k by lia]at a1 a2
     rw[show lo+(n-1)=lo+n-1 by lia]at a2
     exact KeyOrd.kle_antisymm a2 (KeyOrd.kle_trans u a1)
    dsimp only
    rw[if_neg Bool.false_ne_true]
    refine wpS_bind (rev_ok (dpt_ok hO h0 hn (by lia) (hB.mirror (Nat.le_refl _) (by lia)) (fun i j hij hj=>?_) h))
    show κ.kle (KK κ (mirror (arrOf st) _ _ _) (lo+j)) (KK κ (mirror (arrOf st) _ _ _) (lo+i))
    rw[KK_mirror_equal hsz eqs,KK_mirror_equal hsz eqs]
    by_cases v:j<n
    ·rw[eqs (lo+i) (by lia) (by lia),eqs (lo+j) (by lia) (by lia)];exact KeyOrd.kle_refl _
    ·have v:j=n:=by lia
     subst v
     by_cases v:i=j
     ·subst v;exact KeyOrd.kle_refl _
     ·rw[eqs (lo+i) (by lia) (by lia)];exact KeyOrd.kle_of_klt t
  ·rw[if_neg y]
   have z:n=1:=by lia
   subst z
   refine dpt_ok hO h0 hn (by lia) hB (fun i j hij hj=>?_) h
   by_cases v:i=j
   ·subst v;exact KeyOrd.kle_refl _
   ·have e1:i=0:=by lia
    have e2:j=1:=by lia
    subst e1 e2
    exact KeyOrd.kle_of_klt t
theorem bin_ok{st:SortSt}{n ok:Nat}{Q:Bool->SortSt->Prop}(hO:LtOk κ kd prog w A s)(h0:KeysOf κ a₀)(hn:lo+n<=a₀.size)(hok:ok<=n)(hB:SB kd a₀ b lo pd st)(hs:SIn κ (arrOf st) lo ok)
  (h:∀ st',SB kd a₀ b lo pd st'->SIn κ (arrOf st') lo n->Q true st'):wpS (model prog w) A E s (binarySort' lo n ok) Q st:=by
 rw[binarySort'_eq]
 refine wpS_bind (wpS_mono (wpS_forRange (I:=fun k c st'=>c=(none,())/\SB kd a₀ b lo pd st'/\SIn κ (arrOf st') lo (min k n)) (Q:=fun c st'=>c=(none,())/\SB kd a₀ b lo pd st'/\SIn κ (arrOf st') lo n) ?step ?fin ?init) ?post)
 case post =>
  rintro c st' ⟨rfl,g1,g2⟩
  exact wpS_pure (h st' g1 g2)
 case init =>
  refine⟨rfl,hB,fun i j hij hj=>?_⟩
  by_cases h1:ok=0
  ·rw[show i=j by lia];exact KeyOrd.kle_refl _
  ·exact hs i j hij (by lia)
 case fin =>
  rintro c st' ⟨g0,g1,g2⟩
  refine⟨g0,g1,?_⟩
  rwa [show min (max (max ok 1) n) n=n by lia]at g2
 case step =>
  rintro k c st' hak hkn ⟨rfl,g1,g2⟩
  rw[show min k n=k by lia]at g2
  have hk:lo+k<a₀.size:=by lia
  refine wpS_bind (wpS_mono (wpS_forRange (I:=fun x c st''=>st''=st'/\∃ l r,c=(none,l,r)/\l<=r/\r<=k/\r-l<=k-x/\(∀ i,i<l->κ.kle (KK κ (arrOf st') (lo+i)) (KK κ (arrOf st') (lo+k))) /\
     (∀ i,r<=i->i<k->κ.klt (KK κ (arrOf st') (lo+k)) (KK κ (arrOf st') (lo+i))))
   (Q:=fun c st''=>st''=st'/\∃ l r,c=(none,l,r)/\l<=k/\(∀ i,i<l->κ.kle (KK κ (arrOf st') (lo+i)) (KK κ (arrOf st') (lo+k)))/\(∀ i,l<=i->i<k->κ.klt (KK κ (arrOf st') (lo+k)) (KK κ (arrOf st') (lo+i)))) ?istep ?ifin ?iinit) ?ipost)
  case iinit=>exact⟨rfl,0,k,rfl,by lia,by lia,by lia,fun i hi=>by lia,fun i h1 h2=>by lia⟩
  case ifin =>
   rintro c st'' ⟨rfl,l,r,rfl,i1,i2,i3,i4,i5⟩
   have z:l=r:=by lia
   subst z
   exact⟨rfl,l,l,rfl,i2,i4,i5⟩
  case istep =>
   rintro x c st'' _ hxk ⟨rfl,l,r,rfl,i1,i2,i3,i4,i5⟩
   dsimp only
   by_cases y:l >= r
   ·rw[if_pos y]
    have z:l=r:=by lia
    subst z
    exact wpS_pure ⟨rfl,l,l,rfl,i2,i4,i5⟩
   ·rw[if_neg y]
    refine wpS_bind (ltAt_ok hO g1 h0 hk (by lia) ?_)
    cases t:κ.blt (KK κ (arrOf st'') (lo+k)) (KK κ (arrOf st'') (lo+(l+r) / 2))with
    |true =>
     refine wpS_pure ⟨rfl,l,(l+r) / 2,rfl,by lia,by lia,by omega,i4,fun i h1 h2=>?_⟩
     exact KeyOrd.klt_of_klt_of_kle t (g2 _ _ h1 h2)
    |false =>
     refine wpS_pure ⟨rfl,(l+r) / 2+1,r,rfl,by lia,by omega,by omega,fun i h1=>?_,i5⟩
     exact KeyOrd.kle_trans (g2 i ((l+r) / 2) (by lia) (by lia)) (show κ.kle _ _ from t)
  case ipost =>
   rintro c st'' ⟨rfl,l,r,rfl,i2,i4,i5⟩
   show wpS _ _ _ _ (do moveDown' (lo+k) (lo+l);pure (ForInStep.yield (none,()))) _ _
   rw[moveDown'_eq]
   have hks:lo+k <(arrOf st'').size:=by rw[g1.size];exact hk
   refine wpS_bind (wpS_modify (wpS_pure ⟨rfl,g1.arr (bubble_perm _ _ _) fun m hm=>?_,?_⟩))
   ·rw[getElem?_bubble hks _ (by omega),if_neg (by omega),if_neg (by omega)]
   rw[show min (k+1) n=k+1 by lia]
   intro i j hij hj
   show κ.kle (KK κ (bubble (arrOf st'') (lo+k) (lo+k-(lo+l))) (lo+i)) (KK κ (bubble (arrOf st'') (lo+k) (lo+k-(lo+l))) (lo+j))
   rw[KK_bubble hks (by omega),KK_bubble hks (by omega),show lo+k-(lo+k-(lo+l))=lo+l by lia]
   have sh:∀ m,lo+l<lo+m->lo+m-1=lo+(m-1):=fun m hm=>by lia
   repeat' split
   all_goals first
    |(exfalso;lia)
    |exact KeyOrd.kle_refl _
    |exact i4 _ (by lia)
    |(rw[sh _ (by lia)];exact KeyOrd.kle_of_klt (i5 _ (by lia) (by lia)))
    |exact KeyOrd.kle_of_klt (i5 _ (by omega) (by omega))
    |exact g2 _ _ (by omega) (by lia)
    |(rw[sh _ (by lia),sh _ (by lia)];exact g2 _ _ (by omega) (by lia))
    |(rw[sh _ (by lia)];exact g2 _ _ (by lia) (by omega))
end
open PySem PyProof.Rows
noncomputable def gallopP:Bool->Keyed->Array Keyed->Nat->Nat->Nat->StateT SortSt Sem (Option Nat):=sortPriv% PySem.Builtin.gallop
noncomputable def bey(left:Bool)(key:Keyed)(arr:Array Keyed)(base i:Nat):StateT SortSt Sem (Option Bool):=do
 let x <- elem' arr (base+i)
 if left then lt' x key else return (<- lt' key x).map (!·)
noncomputable def gUp(left:Bool)(key:Keyed)(arr:Array Keyed)(base n hint maxofs:Nat):StateT SortSt Sem (Option (Option Nat)×Nat×Nat) :=
 forIn [0:n] ((none,0,1):Option (Option Nat)×Nat×Nat) fun _ c=>do
  if c.2.2 >= maxofs then pure (.done (none,c.2.1,c.2.2))else do
   let x <- bey left key arr base (hint+c.2.2)
   match x with
   |some more=>if(!more)=true then pure (.done (none,c.2.1,c.2.2))else pure (.yield (none,c.2.2,2 * c.2.2+1))
   | _=>pure (.done (some none,c.2.1,c.2.2))
noncomputable def gDn(left:Bool)(key:Keyed)(arr:Array Keyed)(base n hint maxofs:Nat):StateT SortSt Sem (Option (Option Nat)×Nat×Nat) :=
 forIn [0:n] ((none,0,1):Option (Option Nat)×Nat×Nat) fun _ c=>do
  if c.2.2 >= maxofs then pure (.done (none,c.2.1,c.2.2))else do
   let x <- bey left key arr base (hint-c.2.2)
   match x with
   |some found=>if found=true then pure (.done (none,c.2.1,c.2.2))else pure (.yield (none,c.2.2,2 * c.2.2+1))
   | _=>pure (.done (some none,c.2.1,c.2.2))
noncomputable def gBin(left:Bool)(key:Keyed)(arr:Array Keyed)(base n lo hi:Nat):StateT SortSt Sem (Option Nat):=do
 let c <- forIn [0:n] ((none,lo,hi):Option (Option Nat)×Nat×Nat) fun _ c=>do
  if c.2.1 >= c.2.2 then pure (.done (none,c.2.1,c.2.2))else do
   let x <- bey left key arr base (c.2.1+(c.2.2-c.2.1) / 2)
   match x with
   |some more=>if more=true then pure (.yield (none,c.2.1+(c.2.2-c.2.1) / 2+1,c.2.2))else pure (.yield (none,c.2.1,c.2.1+(c.2.2-c.2.1) / 2))
   | _=>pure (.done (some none,c.2.1,c.2.2))
 match c.1 with
 |some r=>pure r
 |none=>pure (some c.2.2)
theorem gallop_eq(left:Bool)(key:Keyed)(arr:Array Keyed)(base n hint:Nat):gallopP left key arr base n hint=(do
  let x <- bey left key arr base hint
  match x with
  |some right =>
   if right=true then do
    let c <- gUp left key arr base n hint (n-hint)
    match c.1 with
    |some r=>pure r
    |none=>gBin left key arr base n (hint+c.2.1+1) (hint+min c.2.2 (n-hint))
   else do
    let c <- gDn left key arr base n hint (hint+1)
    match c.1 with
    |some r=>pure r
    |none=>gBin left key arr base n (hint+1-min c.2.2 (hint+1)) (hint-c.2.1)
  | _=>pure none):=by
 refine bcong (m:=bey left key arr base hint) rfl fun x=>?_
 cases x with
 |none=>rfl
 |some right =>
  dsimp only
  split
  ·refine bcong rfl fun c=>?_
   obtain⟨r,l,o⟩:=c
   cases r with
   |some r=>rfl
   |none =>
    refine bcong rfl fun c=>?_
    obtain⟨r,l,o⟩:=c
    cases r <;> rfl
  ·refine bcong rfl fun c=>?_
   obtain⟨r,l,o⟩:=c
   cases r with
   |some r=>rfl
   |none =>
    refine bcong rfl fun c=>?_
    obtain⟨r,l,o⟩:=c
    cases r <;> rfl
section
variable{prog:Program}{w:World}{A:Around}{E:Value->Shared->Prop}{s:Shared}{kd:SortKind}{left:Bool}{key:Keyed}{arr:Array Keyed}{base n hint:Nat}{Pr:Nat->Bool}{st:SortSt}
noncomputable def BeyOk(prog:Program)(w:World)(A:Around)(s:Shared)(kd:SortKind)(left:Bool)(key:Keyed)(arr:Array Keyed)(base n:Nat)(Pr:Nat->Bool):Prop :=
 ∀ (i:Nat) (E:Value->Shared->Prop) (Q:Option Bool->SortSt->Prop) (st:SortSt),i<n->kindOf st=kd->Q (some (Pr i)) st->wpS (model prog w) A E s (bey left key arr base i) Q st
theorem gBin_ok{lo hi:Nat}{Q:Option Nat->SortSt->Prop}(hb:BeyOk prog w A s kd left key arr base n Pr)(hk:kindOf st=kd)(mono:∀ i j,i<=j->j<n->Pr j=true->Pr i=true)(h1:lo<=hi)(h2:hi<=n)
  (hl:∀ i,i<lo->Pr i=true) (hh:∀ i,hi<=i->i<n->Pr i=false) (h:∀ r,r<=n->(∀ i,i<r->Pr i=true)->(∀ i,r<=i->i<n->Pr i=false)->Q (some r) st) :
  wpS (model prog w) A E s (gBin left key arr base n lo hi) Q st:=by
 unfold gBin
 refine wpS_bind (wpS_mono (wpS_forRange (I:=fun x c st'=>st'=st/\∃ l r,c=(none,l,r)/\l<=r/\r<=n/\r-l<=n-x/\(∀ i,i<l->Pr i=true)/\(∀ i,r<=i->i<n->Pr i=false))
  (Q:=fun c st'=>st'=st/\∃ l r,c=(none,l,r)/\r<=n/\(∀ i,i<r->Pr i=true)/\(∀ i,r<=i->i<n->Pr i=false)) ?step ?fin ⟨rfl,lo,hi,rfl,h1,h2,by lia,hl,hh⟩) ?post)
 case post =>
  rintro c st' ⟨rfl,l,r,rfl,r1,r2,r3⟩
  exact wpS_pure (h r r1 r2 r3)
 case fin =>
  rintro c st' ⟨rfl,l,r,rfl,r1,r2,r3,r4,r5⟩
  have e:l=r:=by lia
  subst e
  exact⟨rfl,l,l,rfl,r2,r4,r5⟩
 case step =>
  rintro x c st' _ hx ⟨rfl,l,r,rfl,r1,r2,r3,r4,r5⟩
  dsimp only
  by_cases y:l >= r
  ·rw[if_pos y]
   have e:l=r:=by lia
   subst e
   exact wpS_pure ⟨rfl,l,l,rfl,r2,r4,r5⟩
  ·rw[if_neg y]
   refine wpS_bind (hb _ _ _ _ (by lia) hk ?_)
   cases t:Pr (l+(r-l) / 2)with
   |true=>exact wpS_pure ⟨rfl,_,_,rfl,by lia,by omega,by omega,fun i hi=>mono i _ (by lia) (by lia) t,r5⟩
   |false =>
    refine wpS_pure ⟨rfl,_,_,rfl,by lia,by lia,by omega,r4,fun i i1 i2=>?_⟩
    cases u:Pr i with
    |false=>rfl
    |true=>rw[mono _ i i1 i2 u]at t;cases t
theorem gallop_ok{Q:Option Nat->SortSt->Prop}(hb:BeyOk prog w A s kd left key arr base n Pr)(hk:kindOf st=kd)(mono:∀ i j,i<=j->j<n->Pr j=true->Pr i=true)(hh:hint<n)
  (h:∀ r,r<=n->(∀ i,i<r->Pr i=true)->(∀ i,r<=i->i<n->Pr i=false)->Q (some r) st):wpS (model prog w) A E s (gallopP left key arr base n hint) Q st:=by
 have anti:∀ i j,i<=j->j<n->Pr i=false->Pr j=false:=fun i j a b c=>by
  cases u:Pr j with
  |false=>rfl
  |true=>rw[mono i j a b u]at c;cases c
 rw[gallop_eq]
 refine wpS_bind (hb _ _ _ _ hh hk ?_)
 cases t:Pr hint with
 |true =>
  dsimp only
  rw[if_pos rfl]
  unfold gUp
  refine wpS_bind (wpS_mono (wpS_forRange (I:=fun x c st'=>st'=st/\∃ l o,c=(none,l,o)/\l<o/\x<o/\l<n-hint/\Pr (hint+l)=true)
   (Q:=fun c st'=>st'=st/\∃ l o,c=(none,l,o)/\l<o/\l<n-hint/\Pr (hint+l)=true/\(o >= n-hint\/(o<n-hint/\Pr (hint+o)=false))) ?step ?fin ⟨rfl,0,1,rfl,by lia,by lia,by omega,t⟩) ?post)
  case post =>
   rintro c st' ⟨rfl,l,o,rfl,c1,c2,c3,c4⟩
   dsimp only
   refine gBin_ok hb hk mono (by omega) (by omega) (fun i hi=>mono i _ (by lia) (by lia) c3) (fun i i1 i2=>?_) h
   rcases c4 with c4 |⟨c4,c5⟩
   ·omega
   ·exact anti _ i (by omega) i2 c5
  case fin =>
   rintro c st' ⟨rfl,l,o,rfl,c1,c2,c3,c4⟩
   exact⟨rfl,l,o,rfl,c1,c3,c4,.inl (by lia)⟩
  case step =>
   rintro x c st' _ hx ⟨rfl,l,o,rfl,c1,c2,c3,c4⟩
   dsimp only
   by_cases y:o >= n-hint
   ·rw[if_pos y]
    exact wpS_pure ⟨rfl,l,o,rfl,c1,c3,c4,.inl y⟩
   ·rw[if_neg y]
    refine wpS_bind (hb _ _ _ _ (by lia) hk ?_)
    cases u:Pr (hint+o)with
    |true=>exact wpS_pure ⟨rfl,o,_,rfl,by lia,by lia,by lia,u⟩
    |false=>exact wpS_pure ⟨rfl,l,o,rfl,c1,c3,c4,.inr ⟨by lia,u⟩⟩
 |false =>
  dsimp only
  rw[if_neg Bool.false_ne_true]
  unfold gDn
  refine wpS_bind (wpS_mono (wpS_forRange (I:=fun x c st'=>st'=st/\∃ l o,c=(none,l,o)/\l<o/\x<o/\l<=hint/\Pr (hint-l)=false)
   (Q:=fun c st'=>st'=st/\∃ l o,c=(none,l,o)/\l<o/\l<=hint/\Pr (hint-l)=false/\(o >= hint+1\/(o<hint+1/\Pr (hint-o)=true))) ?dstep ?dfin ⟨rfl,0,1,rfl,by lia,by lia,by lia,t⟩) ?dpost)
  case dpost =>
   rintro c st' ⟨rfl,l,o,rfl,c1,c2,c3,c4⟩
   dsimp only
   refine gBin_ok hb hk mono (by omega) (by omega) (fun i hi=>?_) (fun i i1 i2=>anti _ i i1 i2 c3) h
   rcases c4 with c4 |⟨c4,c5⟩
   ·omega
   ·exact mono i _ (by omega) (by omega) c5
  case dfin =>
   rintro c st' ⟨rfl,l,o,rfl,c1,c2,c3,c4⟩
   exact⟨rfl,l,o,rfl,c1,c3,c4,.inl (by lia)⟩
  case dstep =>
   rintro x c st' _ hx ⟨rfl,l,o,rfl,c1,c2,c3,c4⟩
   dsimp only
   by_cases y:o >= hint+1
   ·rw[if_pos y]
    exact wpS_pure ⟨rfl,l,o,rfl,c1,c3,c4,.inl y⟩
   ·rw[if_neg y]
    refine wpS_bind (hb _ _ _ _ (by omega) hk ?_)
    cases u:Pr (hint-o)with
    |false=>exact wpS_pure ⟨rfl,o,_,rfl,by lia,by lia,by lia,u⟩
    |true=>exact wpS_pure ⟨rfl,l,o,rfl,c1,c3,c4,.inr ⟨by lia,u⟩⟩
end
noncomputable def mergeLoP:Array Keyed->Array Keyed->StateT SortSt Sem (Array Keyed):=sortPriv% PySem.Builtin.mergeLo
noncomputable def mergeHiP:Array Keyed->Array Keyed->StateT SortSt Sem (Array Keyed):=sortPriv% PySem.Builtin.mergeHi
open PySem PyProof.Rows
noncomputable def kk(κ:KeyKind)(p:Keyed):κ.α:=(κ.keyOf p.1).getD κ.dflt
noncomputable def kL(κ:KeyKind)(p q:Keyed):Prop:=κ.kle (kk κ p) (kk κ q)
theorem KK_of{κ:KeyKind}{xs:Array Keyed}{i:Nat}{p:Keyed}(h:xs[i]?=some p):KK κ xs i=kk κ p:=by unfold KK;rw[h];rfl
structure MI(κ:KeyKind)(T o A B:List Keyed):Prop where
 perm:(o++(A++B)).Perm T
 so:o.Pairwise (kL κ)
 cr:∀ x∈o,∀ y∈A++B,kL κ x y
 sA:A.Pairwise (kL κ)
 sB:B.Pairwise (kL κ)
section
variable{κ:KeyKind}{T o A A' B B' blk:List Keyed}
theorem MI.a(h:MI κ T o (blk++A') B)(hx:∀ x∈blk,∀ y∈B,kL κ x y):MI κ T (o++blk) A' B:=by
 obtain⟨s1,s2,s3⟩:=List.pairwise_append.mp h.sA
 refine⟨?_,List.pairwise_append.mpr ⟨h.so,s1,fun x hx y hy=>h.cr x hx y (by simp[hy])⟩,fun x hx' y hy=>?_,s2,h.sB⟩
 ·have e:=h.perm
  simp only[List.append_assoc]at e ⊢
  exact e
 ·rcases List.mem_append.mp hx' with z | z
  ·exact h.cr x z y (by rcases List.mem_append.mp hy with q | q <;> simp[q])
  ·rcases List.mem_append.mp hy with q | q
   ·exact s3 x z y q
   ·exact hx x z y q
theorem MI.b(h:MI κ T o A (blk++B'))(hx:∀ x∈blk,∀ y∈A,kL κ x y):MI κ T (o++blk) A B':=by
 obtain⟨s1,s2,s3⟩:=List.pairwise_append.mp h.sB
 refine⟨?_,List.pairwise_append.mpr ⟨h.so,s1,fun x hx y hy=>h.cr x hx y (by simp[hy])⟩,fun x hx' y hy=>?_,h.sA,s2⟩
 ·refine List.Perm.trans ?_ h.perm
  rw[List.append_assoc]
  refine List.Perm.append_left o ?_
  rw[<- List.append_assoc,<- List.append_assoc]
  exact List.Perm.append_right B' List.perm_append_comm
 ·rcases List.mem_append.mp hx' with z | z
  ·exact h.cr x z y (by rcases List.mem_append.mp hy with q | q <;> simp[q])
  ·rcases List.mem_append.mp hy with q | q
   ·exact hx x z y q
   ·exact s3 x z y q
noncomputable def Good(κ:KeyKind)(T:List Keyed)(R:Array Keyed):Prop:=R.toList.Perm T/\R.toList.Pairwise (kL κ)
theorem MI.endB{R:Array Keyed}(h:MI κ T o A [])(e:R.toList=o++A):Good κ T R:=by
 refine⟨by rw[e];simpa using h.perm,?_⟩
 rw[e]
 exact List.pairwise_append.mpr ⟨h.so,h.sA,fun x hx y hy=>h.cr x hx y (by simp[hy])⟩
theorem MI.endA{R:Array Keyed}(h:MI κ T o [] B)(e:R.toList=o++B):Good κ T R:=by
 refine⟨by rw[e];simpa using h.perm,?_⟩
 rw[e]
 exact List.pairwise_append.mpr ⟨h.so,h.sB,fun x hx y hy=>h.cr x hx y (by simp[hy])⟩
theorem MI.last{R:Array Keyed}{l:Keyed}(h:MI κ T o [l] B)(hl:∀ y∈B,kL κ y l)(e:R.toList=o++B++[l]):Good κ T R:=by
 have h2:MI κ T (o++B) [l] []:=MI.b (blk:=B) (B':=[]) (by simpa using h) fun x hx y hy=>by
  rw[List.mem_singleton.mp hy]
  exact hl x hx
 exact h2.endB e
structure MH(κ:KeyKind)(T o A B:List Keyed):Prop where
 perm:(A++B++o).Perm T
 so:o.Pairwise (kL κ)
 cr:∀ x∈o,∀ y∈A++B,kL κ y x
 sA:A.Pairwise (kL κ)
 sB:B.Pairwise (kL κ)
theorem MH.a(h:MH κ T o (A'++blk) B)(hx:∀ x∈blk,∀ y∈B,kL κ y x):MH κ T (blk++o) A' B:=by
 obtain⟨s1,s2,s3⟩:=List.pairwise_append.mp h.sA
 refine⟨?_,List.pairwise_append.mpr ⟨s2,h.so,fun x hx y hy=>h.cr y hy x (by simp[hx])⟩,fun x hx' y hy=>?_,s1,h.sB⟩
 ·refine List.Perm.trans ?_ h.perm
  simp only[List.append_assoc]
  refine List.Perm.append_left A' ?_
  rw[<- List.append_assoc,<- List.append_assoc]
  exact List.Perm.append_right o List.perm_append_comm
 ·rcases List.mem_append.mp hx' with z | z
  ·rcases List.mem_append.mp hy with q | q
   ·exact s3 y q x z
   ·exact hx x z y q
  ·exact h.cr x z y (by rcases List.mem_append.mp hy with q | q <;> simp[q])
theorem MH.b(h:MH κ T o A (B'++blk))(hx:∀ x∈blk,∀ y∈A,kL κ y x):MH κ T (blk++o) A B':=by
 obtain⟨s1,s2,s3⟩:=List.pairwise_append.mp h.sB
 refine⟨?_,List.pairwise_append.mpr ⟨s2,h.so,fun x hx y hy=>h.cr y hy x (by simp[hx])⟩,fun x hx' y hy=>?_,h.sA,s1⟩
 ·have e:=h.perm
  simp only[List.append_assoc]at e ⊢
  exact e
 ·rcases List.mem_append.mp hx' with z | z
  ·rcases List.mem_append.mp hy with q | q
   ·exact hx x z y q
   ·exact s3 y q x z
  ·exact h.cr x z y (by rcases List.mem_append.mp hy with q | q <;> simp[q])
theorem MH.endA{R:Array Keyed}(h:MH κ T o [] B)(e:R.toList=B++o):Good κ T R:=by
 refine⟨by rw[e];simpa using h.perm,?_⟩
 rw[e]
 exact List.pairwise_append.mpr ⟨h.sB,h.so,fun x hx y hy=>h.cr y hy x (by simp[hx])⟩
theorem MH.endB{R:Array Keyed}(h:MH κ T o A [])(e:R.toList=A++o):Good κ T R:=by
 refine⟨by rw[e];simpa using h.perm,?_⟩
 rw[e]
 exact List.pairwise_append.mpr ⟨h.sA,h.so,fun x hx y hy=>h.cr y hy x (by simp[hx])⟩
theorem MH.first{R:Array Keyed}{l:Keyed}(h:MH κ T o A [l])(hl:∀ y∈A,kL κ l y)(e:R.toList=[l]++A++o):Good κ T R:=by
 have h2:MH κ T (A++o) [] [l]:=MH.a (blk:=A) (A':=[]) (by simpa using h) fun x hx y hy=>by
  rw[List.mem_singleton.mp hy]
  exact hl x hx
 exact h2.endA (by rw[e,List.append_assoc])
end
theorem drop_at{xs:Array Keyed}{i:Nat}{p:Keyed}(h:xs[i]?=some p):xs.toList.drop i=[p]++xs.toList.drop (i+1):=by
 have hi:i<xs.toList.length:=by
  have:=(Array.getElem?_eq_some_iff.mp h).1
  simpa using this
 rw[List.drop_eq_getElem_cons hi]
 have e:xs.toList[i]=p:=by
  have:=(Array.getElem?_eq_some_iff.mp h).2
  simpa using this
 rw[e];rfl
theorem take_at{xs:Array Keyed}{i:Nat}{p:Keyed}(h:xs[i]?=some p):xs.toList.take (i+1)=xs.toList.take i++[p]:=by
 rw[List.take_add_one]
 have e:xs.toList[i]?=some p:=by rw[<- h];simp
 rw[e];rfl
theorem mem_drop{xs:Array Keyed}{i:Nat}{y:Keyed}(h:y∈xs.toList.drop i):∃ j,i<=j/\j<xs.size/\xs[j]?=some y:=by
 obtain⟨j,hj,e⟩:=List.getElem_of_mem h
 rw[List.length_drop]at hj
 refine⟨i+j,by lia,?_,?_⟩
 ·have:xs.toList.length=xs.size:=by simp
  omega
 ·rw[List.getElem_drop]at e
  have:xs.toList[i+j]?=some y:=by rw[<- e];exact List.getElem?_eq_getElem (by omega)
  rw[<- this];simp
theorem mem_take{xs:Array Keyed}{i:Nat}{y:Keyed}(h:y∈xs.toList.take i):∃ j,j<i/\j<xs.size/\xs[j]?=some y:=by
 obtain⟨j,hj,e⟩:=List.getElem_of_mem h
 rw[List.length_take]at hj
 have hl:xs.toList.length=xs.size:=by simp
 refine⟨j,by lia,by omega,?_⟩
 rw[List.getElem_take]at e
 have:xs.toList[j]?=some y:=by rw[<- e];exact List.getElem?_eq_getElem (by lia)
 rw[<- this];simp
theorem get_of_lt{xs:Array Keyed}{i:Nat}(h:i<xs.size):∃ p,xs[i]?=some p:=⟨xs[i],getElem?_pos _ i h⟩
structure Sm(st st':SortSt):Prop where
 k:kindOf st'=kindOf st
 a:arrOf st'=arrOf st
 p:pendingOf st'=pendingOf st
 f:failedOf st'=failedOf st
theorem Sm.refl(st:SortSt):Sm st st:=⟨rfl,rfl,rfl,rfl⟩
theorem Sm.min{st st':SortSt}(h:Sm st st')(g:Nat):Sm st (SortSt.mk' (kindOf st') (arrOf st') (pendingOf st') g (failedOf st')):=⟨h.k,h.a,h.p,h.f⟩
section
variable{prog:Program}{w:World}{A:Around}{E:Value->Shared->Prop}{s:Shared}{κ:KeyKind}{kd:SortKind}{st:SortSt}
theorem lt_ok{x y:Keyed}{Q:Option Bool->SortSt->Prop}(hO:LtOk κ kd prog w A s)(hk:kindOf st=kd)(hx:∃ a,κ.keyOf x.1=some a)(hy:∃ a,κ.keyOf y.1=some a)(h:Q (some (κ.blt (kk κ x) (kk κ y))) st) :
  wpS (model prog w) A E s (lt' x y) Q st:=by
 obtain⟨a,ha⟩:=hx
 obtain⟨c,hc⟩:=hy
 refine hO E x y a c Q st hk ha hc ?_
 have e1:kk κ x=a:=by unfold kk;rw[ha];rfl
 have e2:kk κ y=c:=by unfold kk;rw[hc];rfl
 rwa [e1,e2]at h
noncomputable def Keyd(κ:KeyKind)(xs:Array Keyed):Prop:=∀ (i:Nat) (p:Keyed),xs[i]?=some p->∃ a,κ.keyOf p.1=some a
theorem bey_left{key:Keyed}{arr:Array Keyed}{base n:Nat}(hO:LtOk κ kd prog w A s)(hk:∃ a,κ.keyOf key.1=some a)(ha:Keyd κ arr)(hn:base+n<=arr.size) :
  BeyOk prog w A s kd true key arr base n fun i=>κ.blt (KK κ arr (base+i)) (kk κ key):=by
 intro i E Q st hi hs h
 obtain⟨p,hp⟩:=get_of_lt (xs:=arr) (i:=base+i) (by lia)
 unfold bey
 refine wpS_bind (elem_ok hp ?_)
 rw[if_pos rfl]
 refine lt_ok hO hs (ha _ _ hp) hk ?_
 dsimp only at h
 rwa [KK_of hp]at h
theorem bey_right{key:Keyed}{arr:Array Keyed}{base n:Nat}(hO:LtOk κ kd prog w A s)(hk:∃ a,κ.keyOf key.1=some a)(ha:Keyd κ arr)(hn:base+n<=arr.size) :
  BeyOk prog w A s kd false key arr base n fun i=>!(κ.blt (kk κ key) (KK κ arr (base+i))):=by
 intro i E Q st hi hs h
 obtain⟨p,hp⟩:=get_of_lt (xs:=arr) (i:=base+i) (by lia)
 unfold bey
 refine wpS_bind (elem_ok hp ?_)
 rw[if_neg Bool.false_ne_true]
 refine wpS_bind (lt_ok hO hs hk (ha _ _ hp) (wpS_pure ?_))
 dsimp only at h
 rwa [KK_of hp]at h
end
open PySem PyProof.Rows
theorem ext_drop(xs:Array Keyed)(i:Nat):(xs.extract i xs.size).toList=xs.toList.drop i:=by
 simp[Array.toList_extract,List.extract_eq_drop_take]
 rw[List.take_of_length_le]
 simp
theorem ext_blk(xs:Array Keyed)(i k:Nat):(xs.extract i (i+k)).toList=(xs.toList.drop i).take k:=by
 simp[Array.toList_extract,List.extract_eq_drop_take]
theorem ext_take(xs:Array Keyed)(k:Nat):(xs.extract 0 k).toList=xs.toList.take k:=by
 simp[Array.toList_extract,List.extract_eq_drop_take]
theorem blk_drop(xs:Array Keyed)(i k:Nat):xs.toList.drop i=(xs.toList.drop i).take k++xs.toList.drop (i+k):=by
 rw[<- List.drop_drop,List.take_append_drop]
theorem drop_all(xs:Array Keyed):xs.toList.drop xs.size=[]:=by simp
section
variable{κ:KeyKind}{a b out:Array Keyed}{T:List Keyed}{ia ib k:Nat}{p:Keyed}
theorem fin_b(h:MI κ T out.toList (a.toList.drop ia) (b.toList.drop ib))(e:ib=b.size):Good κ T (out++a.extract ia a.size++b.extract ib b.size):=by
 subst e
 rw[drop_all]at h
 exact h.endB (by rw[Array.toList_append,Array.toList_append,ext_drop,ext_drop,drop_all,List.append_nil])
theorem fin_a(h:MI κ T out.toList (a.toList.drop ia) (b.toList.drop ib))(e:ia=a.size):Good κ T (out++a.extract ia a.size++b.extract ib b.size):=by
 subst e
 rw[drop_all]at h
 exact h.endA (by rw[Array.toList_append,Array.toList_append,ext_drop,ext_drop,drop_all,List.append_nil])
theorem fin_l(h:MI κ T out.toList (a.toList.drop ia) (b.toList.drop ib))(e:ia+1=a.size)(hl:∀ j,j<b.size->κ.kle (KK κ b j) (KK κ a (a.size-1))):Good κ T (out++b.extract ib b.size++a.extract ia a.size):=by
 obtain⟨l,hl'⟩:=get_of_lt (xs:=a) (i:=ia) (by lia)
 have ed:a.toList.drop ia=[l]:=by rw[drop_at hl',e,drop_all];rfl
 rw[ed]at h
 refine h.last (fun y hy=>?_) (by rw[Array.toList_append,Array.toList_append,ext_drop,ext_drop,ed])
 obtain⟨j,_,j2,j3⟩:=mem_drop hy
 have q:=hl j j2
 rw[show a.size-1=ia by lia,KK_of j3,KK_of hl']at q
 exact q
theorem mv_b(h:MI κ T out.toList (a.toList.drop ia) (b.toList.drop ib))(hp:b[ib]?=some p)(hx:∀ i,ia<=i->i<a.size->κ.kle (KK κ b ib) (KK κ a i)):MI κ T (out.push p).toList (a.toList.drop ia) (b.toList.drop (ib+1)):=by
 rw[drop_at hp]at h
 rw[Array.toList_push]
 refine h.b fun x hx' y hy=>?_
 rw[List.mem_singleton.mp hx']
 obtain⟨j,j1,j2,j3⟩:=mem_drop hy
 have q:=hx j j1 j2
 rw[KK_of hp,KK_of j3]at q
 exact q
theorem mv_a(h:MI κ T out.toList (a.toList.drop ia) (b.toList.drop ib))(hp:a[ia]?=some p)(hx:∀ j,ib<=j->j<b.size->κ.kle (KK κ a ia) (KK κ b j)):MI κ T (out.push p).toList (a.toList.drop (ia+1)) (b.toList.drop ib):=by
 rw[drop_at hp]at h
 rw[Array.toList_push]
 refine h.a fun x hx' y hy=>?_
 rw[List.mem_singleton.mp hx']
 obtain⟨j,j1,j2,j3⟩:=mem_drop hy
 have q:=hx j j1 j2
 rw[KK_of hp,KK_of j3]at q
 exact q
theorem mem_blk{xs:Array Keyed}{i k:Nat}{y:Keyed}(h:y∈(xs.toList.drop i).take k):∃ j,i<=j/\j<i+k/\j<xs.size/\xs[j]?=some y:=by
 obtain⟨j,hj,e⟩:=List.getElem_of_mem h
 rw[List.length_take,List.length_drop]at hj
 have hl:xs.toList.length=xs.size:=by simp
 refine⟨i+j,by lia,by lia,by omega,?_⟩
 rw[List.getElem_take,List.getElem_drop]at e
 have:xs.toList[i+j]?=some y:=by rw[<- e];exact List.getElem?_eq_getElem (by omega)
 rw[<- this];simp
theorem blk_a(h:MI κ T out.toList (a.toList.drop ia) (b.toList.drop ib))(hx:∀ i,ia<=i->i<ia+k->i<a.size->∀ j,ib<=j->j<b.size->κ.kle (KK κ a i) (KK κ b j)) :
  MI κ T (out++a.extract ia (ia+k)).toList (a.toList.drop (ia+k)) (b.toList.drop ib):=by
 rw[blk_drop a ia k]at h
 rw[Array.toList_append,ext_blk]
 refine h.a fun x hx' y hy=>?_
 obtain⟨i,i1,i2,i3,i4⟩:=mem_blk hx'
 obtain⟨j,j1,j2,j3⟩:=mem_drop hy
 have q:=hx i i1 i2 i3 j j1 j2
 rw[KK_of i4,KK_of j3]at q
 exact q
theorem blk_b(h:MI κ T out.toList (a.toList.drop ia) (b.toList.drop ib))(hx:∀ j,ib<=j->j<ib+k->j<b.size->∀ i,ia<=i->i<a.size->κ.kle (KK κ b j) (KK κ a i)) :
  MI κ T (out++b.extract ib (ib+k)).toList (a.toList.drop ia) (b.toList.drop (ib+k)):=by
 rw[blk_drop b ib k]at h
 rw[Array.toList_append,ext_blk]
 refine h.b fun x hx' y hy=>?_
 obtain⟨i,i1,i2,i3,i4⟩:=mem_blk hx'
 obtain⟨j,j1,j2,j3⟩:=mem_drop hy
 have q:=hx i i1 i2 i3 j j1 j2
 rw[KK_of i4,KK_of j3]at q
 exact q
end
theorem wpS_if{M:Model}{A:Around}{E:Value->Shared->Prop}{s:Shared}{σ α:Type}{c:Prop}[Decidable c]{x y:StateT σ Sem α}{Q:α->σ->Prop}{st:σ}(h1:c->wpS M A E s x Q st)(h2:¬ c->wpS M A E s y Q st):wpS M A E s (if c then x else y) Q st:=by
 by_cases h:c
 ·rw[if_pos h];exact h1 h
 ·rw[if_neg h];exact h2 h
theorem pw_of{κ:KeyKind}{xs:Array Keyed}(h:∀ i j,i<=j->j<xs.size->κ.kle (KK κ xs i) (KK κ xs j)):xs.toList.Pairwise (kL κ):=by
 rw[List.pairwise_iff_getElem]
 intro i j hi hj hij
 have hl:xs.toList.length=xs.size:=by simp
 have q:=h i j (by lia) (by omega)
 rw[KK_of (p:=xs.toList[i]) (by rw[<- List.getElem?_eq_getElem hi];simp),KK_of (p:=xs.toList[j]) (by rw[<- List.getElem?_eq_getElem hj];simp)]at q
 exact q
section
variable{prog:Program}{w:World}{A:Around}{E:Value->Shared->Prop}{s:Shared}{κ:KeyKind}{kd:SortKind}{st:SortSt}
variable{a b:Array Keyed}
@[elab_as_elim] theorem el4{α0 α1 α2 α3 ε:Type}{P:α0->α1->α2->α3->Prop}{motive:Option ε×α0×α1×α2×α3->Prop}(c:Option ε×α0×α1×α2×α3)(h:∃ x0 x1 x2 x3,c=(none,x0,x1,x2,x3)/\P x0 x1 x2 x3)(k:∀ x0 x1 x2 x3,P x0 x1 x2 x3->motive (none,x0,x1,x2,x3)):motive c:=by
 obtain⟨x0,x1,x2,x3,rfl,p⟩:=h
 exact k x0 x1 x2 x3 p
@[elab_as_elim] theorem el5{α0 α1 α2 α3 α4 ε:Type}{P:α0->α1->α2->α3->α4->Prop}{motive:Option ε×α0×α1×α2×α3×α4->Prop}(c:Option ε×α0×α1×α2×α3×α4)(h:∃ x0 x1 x2 x3 x4,c=(none,x0,x1,x2,x3,x4)/\P x0 x1 x2 x3 x4)(k:∀ x0 x1 x2 x3 x4,P x0 x1 x2 x3 x4->motive (none,x0,x1,x2,x3,x4)):motive c:=by
 obtain⟨x0,x1,x2,x3,x4,rfl,p⟩:=h
 exact k x0 x1 x2 x3 x4 p
@[elab_as_elim] theorem eo5{α0 α1 α2 α3 α4 ε:Type}{P:α0->α1->α2->α3->α4->Prop}{G:ε->Prop}{motive:Option ε×α0×α1×α2×α3×α4->Prop}(c:Option ε×α0×α1×α2×α3×α4)(h:(∃ R r,c=(some R,r)/\G R)\/∃ x0 x1 x2 x3 x4,c=(none,x0,x1,x2,x3,x4)/\P x0 x1 x2 x3 x4)(k1:∀ R r,G R->motive (some R,r))(k:∀ x0 x1 x2 x3 x4,P x0 x1 x2 x3 x4->motive (none,x0,x1,x2,x3,x4)):motive c:=by
 obtain⟨R,r,rfl,g⟩ | h:=h
 ·exact k1 R r g
 ·exact el5 c h k
@[elab_as_elim] theorem el6{α0 α1 α2 α3 α4 α5 ε:Type}{P:α0->α1->α2->α3->α4->α5->Prop}{motive:Option ε×α0×α1×α2×α3×α4×α5->Prop}(c:Option ε×α0×α1×α2×α3×α4×α5)(h:∃ x0 x1 x2 x3 x4 x5,c=(none,x0,x1,x2,x3,x4,x5)/\P x0 x1 x2 x3 x4 x5)(k:∀ x0 x1 x2 x3 x4 x5,P x0 x1 x2 x3 x4 x5->motive (none,x0,x1,x2,x3,x4,x5)):motive c:=by
 obtain⟨x0,x1,x2,x3,x4,x5,rfl,p⟩:=h
 exact k x0 x1 x2 x3 x4 x5 p
@[elab_as_elim] theorem eo6{α0 α1 α2 α3 α4 α5 ε:Type}{P:α0->α1->α2->α3->α4->α5->Prop}{G:ε->Prop}{motive:Option ε×α0×α1×α2×α3×α4×α5->Prop}(c:Option ε×α0×α1×α2×α3×α4×α5)(h:(∃ R r,c=(some R,r)/\G R)\/∃ x0 x1 x2 x3 x4 x5,c=(none,x0,x1,x2,x3,x4,x5)/\P x0 x1 x2 x3 x4 x5)(k1:∀ R r,G R->motive (some R,r))(k:∀ x0 x1 x2 x3 x4 x5,P x0 x1 x2 x3 x4 x5->motive (none,x0,x1,x2,x3,x4,x5)):motive c:=by
 obtain⟨R,r,rfl,g⟩ | h:=h
 ·exact k1 R r g
 ·exact el6 c h k
structure Shd(P:Prop):Prop where
 out:P
theorem wpS_ifS{c:Prop}[Decidable c]{σ α:Type}{M:Model}{x y:StateT σ Sem α}{Q:α->σ->Prop}{t:σ}{P:Prop}(g:P)(h1:c->Shd P->wpS M A E s x Q t)(h2:¬ c->Shd P->wpS M A E s y Q t):wpS M A E s (if c then x else y) Q t:=by
 split
 ·exact h1 (by assumption) ⟨g⟩
 ·exact h2 (by assumption) ⟨g⟩
theorem mergeLo_ok{Q:Array Keyed->SortSt->Prop}(hO:LtOk κ kd prog w A s)(hk:kindOf st=kd)(ka:Keyd κ a)(kb:Keyd κ b)(hA:∀ i j,i<=j->j<a.size->κ.kle (KK κ a i) (KK κ a j))(hB:∀ i j,i<=j->j<b.size->κ.kle (KK κ b i) (KK κ b j))
  (ha:0<a.size) (hb:0<b.size) (h1:κ.kle (KK κ b 0) (KK κ a 0)) (h2:κ.kle (KK κ b (b.size-1)) (KK κ a (a.size-1)))
  (h:∀ R st',Sm st st'->Good κ (a.toList++b.toList) R->Q R st'):wpS (model prog w) A E s (mergeLoP a b) Q st:=by
 obtain⟨b0,e0⟩:=get_of_lt hb
 generalize hT:a.toList++b.toList=T at h
 have hl:∀ j,j<b.size->κ.kle (KK κ b j) (KK κ a (a.size-1)):=fun j hj=>KeyOrd.kle_trans (hB j (b.size-1) (by omega) (by omega)) h2
 have m0:MI κ T (#[]:Array Keyed).toList (a.toList.drop 0) (b.toList.drop 0):=⟨by rw[<- hT];simp,.nil,fun x hx=>by simp at hx,by simpa using pw_of hA,by simpa using pw_of hB⟩
 have m1:MI κ T (#[b0]:Array Keyed).toList (a.toList.drop 0) (b.toList.drop 1):=mv_b m0 e0 fun i _ hi=>KeyOrd.kle_trans h1 (hA 0 i (by omega) hi)
 refine wpS_bind (wpS_lift (wpAny_rule ⟨rfl,wpS_bind (elem_ok e0 ?_)⟩))
 dsimp only
 by_cases y1:1=b.size
 ·rw[if_pos (by simpa using y1)]
  exact wpS_pure (h _ _ (Sm.refl _) (fin_b m1 y1))
 rw[if_neg (by simpa using y1)]
 by_cases y2:0+1=a.size
 ·rw[if_pos (by simpa using y2)]
  exact wpS_pure (h _ _ (Sm.refl _) (fin_l m1 y2 hl))
 rw[if_neg (by simpa using y2)]
 refine wpS_bind (wpS_get ?_)
 refine wpS_bind (wpS_mono (wpS_forRange (I:=fun x c st'=>Sm st st'/\∃ out ia ib mg,c=(none,out,ia,ib,mg)/\MI κ T out.toList (a.toList.drop ia) (b.toList.drop ib)/\ia+1<a.size/\ib<b.size/\x<ia+ib)
  (Q:=fun c st'=>Sm st st'/\∃ R r,c=(some R,r)/\Good κ T R) ?ostep ?ofin ⟨Sm.refl _,_,_,_,_,rfl,m1,by lia,by lia,by lia⟩) ?opost)
 case opost =>
  rintro c st' ⟨sm,R,r,rfl,g⟩
  exact wpS_pure (h R st' sm g)
 case ofin =>
  rintro c st' ⟨sm,out,ia,ib,mg,rfl,m,q1,q2,q3⟩
  lia
 case ostep =>
  intro x c st1 _ hx hI
  have sm1:=hI.1
  refine el4 c hI.2 fun out ia ib mg hP=>?_
  have m:=hP.1
  have q1:=hP.2.1
  have q2:=hP.2.2.1
  have q3:=hP.2.2.2
  clear hI hP
  dsimp only
  refine wpS_bind (wpS_mono (wpS_forRange (I:=fun y c st'=>Sm st st'/\∃ out ia ib ac bc,c=(none,out,ia,ib,ac,bc)/\MI κ T out.toList (a.toList.drop ia) (b.toList.drop ib)/\ia+1<a.size/\ib<b.size/\x+min y 1<ia+ib)
   (Q:=fun c st'=>Sm st st'/\((∃ R r,c=(some R,r)/\Good κ T R)\/∃ out ia ib ac bc,c=(none,out,ia,ib,ac,bc)/\MI κ T out.toList (a.toList.drop ia) (b.toList.drop ib)/\ia+1<a.size/\ib<b.size/\x+1<ia+ib))
   ?istep ?ifin ⟨sm1,_,_,_,_,_,rfl,m,q1,q2,by lia⟩) ?ipost)
  case ifin =>
   rintro c st' ⟨sm,out,ia,ib,ac,bc,rfl,m,q1,q2,q3⟩
   exact⟨sm,.inr ⟨out,ia,ib,ac,bc,rfl,m,q1,q2,by lia⟩⟩
  case istep =>
   intro y c st2 _ hy hI
   have sm:=hI.1
   refine el5 c hI.2 fun out ia ib ac bc hP=>?_
   have m:=hP.1
   have q1:=hP.2.1
   have q2:=hP.2.2.1
   have q3:=hP.2.2.2
   clear hI hP
   dsimp only
   obtain⟨pb,eb⟩:=get_of_lt q2
   obtain⟨pa,ea⟩:=get_of_lt (xs:=a) (i:=ia) (by lia)
   refine wpS_bind (elem_ok eb (wpS_bind (elem_ok ea (wpS_bind (lt_ok hO (sm.k.trans hk) (kb _ _ eb) (ka _ _ ea) ?_)))))
   cases t:κ.blt (kk κ pb) (kk κ pa)with
   |true =>
    dsimp only
    rw[if_pos rfl]
    have tk:κ.kle (KK κ b ib) (KK κ a ia):=by rw[KK_of eb,KK_of ea];exact KeyOrd.kle_of_klt t
    have m':=mv_b m eb fun i i1 i2=>KeyOrd.kle_trans tk (hA ia i i1 i2)
    refine wpS_bind (elem_ok eb ?_)
    by_cases z:ib+1=b.size
    ·rw[if_pos (by simpa using z)]
     exact wpS_pure ⟨sm,.inl ⟨_,_,rfl,fin_b m' z⟩⟩
    ·rw[if_neg (by simpa using z)]
     split
     ·exact wpS_pure ⟨sm,.inr ⟨_,_,_,_,_,rfl,m',q1,by lia,by lia⟩⟩
     ·exact wpS_pure ⟨sm,_,_,_,_,_,rfl,m',q1,by lia,by lia⟩
   |false =>
    dsimp only
    rw[if_neg Bool.false_ne_true]
    have tk:κ.kle (KK κ a ia) (KK κ b ib):=by rw[KK_of eb,KK_of ea];exact t
    have m':=mv_a m ea fun i i1 i2=>KeyOrd.kle_trans tk (hB ib i i1 i2)
    refine wpS_bind (elem_ok ea ?_)
    by_cases z:ia+1+1=a.size
    ·rw[if_pos (by simpa using z)]
     exact wpS_pure ⟨sm,.inl ⟨_,_,rfl,fin_l m' z hl⟩⟩
    ·rw[if_neg (by simpa using z)]
     split
     ·exact wpS_pure ⟨sm,.inr ⟨_,_,_,_,_,rfl,m',by lia,q2,by lia⟩⟩
     ·exact wpS_pure ⟨sm,_,_,_,_,_,rfl,m',by lia,q2,by lia⟩
  case ipost =>
   intro c st2 hI
   have sm2:=hI.1
   refine eo5 c hI.2 (fun R r g=>?_) fun out ia ib ac bc hP=>?_
   ·exact wpS_pure ⟨sm2,R,_,rfl,g⟩
   have m:=hP.1
   have q1:=hP.2.1
   have q2:=hP.2.2.1
   have q3:=hP.2.2.2
   clear hI hP
   dsimp only
   refine wpS_bind (wpS_lift (wpAny_rule ⟨rfl,?_⟩))
   refine wpS_bind (wpS_mono (wpS_forRange (I:=fun y c st'=>Sm st st'/\∃ out ia ib mg ac bc,c=(none,out,ia,ib,mg,ac,bc)/\MI κ T out.toList (a.toList.drop ia) (b.toList.drop ib)/\ia+1<a.size/\ib<b.size/\x+1<ia+ib)
    (Q:=fun c st'=>Sm st st'/\((∃ R r,c=(some R,r)/\Good κ T R)\/∃ out ia ib mg ac bc,c=(none,out,ia,ib,mg,ac,bc)/\MI κ T out.toList (a.toList.drop ia) (b.toList.drop ib)/\ia+1<a.size/\ib<b.size/\x+1<ia+ib))
    ?gstep ?gfin ⟨sm2,_,_,_,_,_,_,rfl,m,q1,q2,q3⟩) ?gpost)
   case gfin =>
    exact fun c st' hI=>⟨hI.1,.inr hI.2⟩
   case gpost =>
    intro c st3 hI
    have sm3:=hI.1
    refine eo6 c hI.2 (fun R r g=>?_) fun out ia ib mg ac bc hP=>?_
    ·exact wpS_pure ⟨sm3,R,_,rfl,g⟩
    dsimp only
    exact wpS_bind (wpS_modify (wpS_pure ⟨sm3.min _,_,_,_,_,rfl,hP⟩))
   case gstep =>
    intro y c st3 _ hy hI
    have sm:=hI.1
    refine el6 c hI.2 fun out ia ib mg ac bc hP=>?_
    have m:=hP.1
    have q1:=hP.2.1
    have q2:=hP.2.2.1
    have q3:=hP.2.2.2
    clear hI hP
    dsimp only
    obtain⟨pb,eb⟩:=get_of_lt q2
    refine' wpS_ifS (P:=_) ?A0 (fun _ H=>?A1) fun _ H=>?A2
    case A1=>generalize mg-1=z;revert z;exact H.out
    case A2=>exact H.out _
    intro mg
    refine wpS_bind (wpS_modify ?_)
    refine wpS_bind (elem_ok eb (wpS_bind (gallop_ok (bey_right hO (kb _ _ eb) ka (base:=ia) (n:=a.size-ia) (by omega)) ((sm.min _).k.trans hk) (fun i j hij hj t=>?_) (by omega) fun k k1 k2 k3=>?_)))
    ·have t1:κ.kle (KK κ a (ia+j)) (kk κ pb):=by simpa[KeyOrd.kle]using t
     have t2:=KeyOrd.kle_trans (hA (ia+i) (ia+j) (by lia) (by omega)) t1
     simpa[KeyOrd.kle]using t2
    dsimp only
    have low:∀ i,ia<=i->i<ia+k->κ.kle (KK κ a i) (KK κ b ib):=fun i i1 i2=>by
     have q:=k2 (i-ia) (by omega)
     rw[show ia+(i-ia)=i by omega]at q
     rw[KK_of eb]
     simpa[KeyOrd.kle]using q
    have hi0:∀ i,ia+k<=i->i<a.size->κ.kle (KK κ b ib) (KK κ a i):=fun i i1 i2=>by
     have q:=k3 (i-ia) (by omega) (by omega)
     rw[show ia+(i-ia)=i by lia]at q
     rw[KK_of eb]
     exact KeyOrd.kle_of_klt (show κ.blt _ _=true by simpa using q)
    refine' wpS_ifS (P:=_) ?B0 (fun kz H=>?B1) fun kz H=>?B2
    case B1 =>
     have mk:=blk_a (k:=k) m fun i i1 i2 _ j j1 j2=>KeyOrd.kle_trans (low i i1 i2) (hB ib j j1 j2)
     by_cases w1:ia+k+1=a.size
     ·rw[if_pos (by simpa using w1)]
      exact wpS_pure ⟨sm.min _,.inl ⟨_,_,rfl,fin_l mk w1 hl⟩⟩
     rw[if_neg (by simpa using w1)]
     by_cases w2:ia+k=a.size
     ·rw[if_pos (by simpa using w2)]
      exact wpS_pure ⟨sm.min _,.inl ⟨_,_,rfl,fin_a mk w2⟩⟩
     rw[if_neg (by simpa using w2)]
     have pr:x+1<ia+k+ib:=by lia
     have p1:ia+k+1<a.size:=by lia
     have hi1:=hi0
     revert pr p1 hi1 mk
     generalize out++a.extract ia (ia+k)=out1
     generalize ia+k=ia1
     revert out1 ia1
     exact H.out
    case B2 =>
     have k0:k=0:=by lia
     exact H.out _ _ m q3 q1 (fun i i1 i2=>hi0 i (by lia) i2)
    clear low hi0 k1 k2 k3 m q3 q1
    intro out1 ia1 m1 pr p1 hi1
    refine wpS_bind (elem_ok eb ?_)
    have m2:=mv_b m1 eb hi1
    by_cases z:ib+1=b.size
    ·rw[if_pos (by simpa using z)]
     exact wpS_pure ⟨sm.min _,.inl ⟨_,_,rfl,fin_b m2 z⟩⟩
    rw[if_neg (by simpa using z)]
    obtain⟨pa,ea⟩:=get_of_lt (xs:=a) (i:=ia1) (by lia)
    refine wpS_bind (elem_ok ea (wpS_bind (gallop_ok (bey_left hO (ka _ _ ea) kb (base:=ib+1) (n:=b.size-(ib+1)) (by omega)) ((sm.min _).k.trans hk) (fun i j hij hj t=>?_) (by omega) fun k2 l1 l2 l3=>?_)))
    ·exact KeyOrd.klt_of_kle_of_klt (hB (ib+1+i) (ib+1+j) (by lia) (by omega)) t
    dsimp only
    have low2:∀ j,ib+1<=j->j<ib+1+k2->κ.kle (KK κ b j) (KK κ a ia1):=fun j j1 j2=>by
     have q:=l2 (j-(ib+1)) (by omega)
     rw[show ib+1+(j-(ib+1))=j by omega]at q
     rw[KK_of ea]
     exact KeyOrd.kle_of_klt q
    have high2:∀ j,ib+1+k2<=j->j<b.size->κ.kle (KK κ a ia1) (KK κ b j):=fun j j1 j2=>by
     have q:=l3 (j-(ib+1)) (by omega) (by omega)
     rw[show ib+1+(j-(ib+1))=j by omega]at q
     rw[KK_of ea]
     exact q
    refine' wpS_ifS (P:=_) ?C0 (fun kz2 H=>?C1) fun kz2 H=>?C2
    case C1 =>
     have m3:=blk_b (k:=k2) m2 fun j j1 j2 _ i i1 i2=>KeyOrd.kle_trans (low2 j j1 j2) (hA ia1 i i1 i2)
     by_cases z2:ib+1+k2=b.size
     ·rw[if_pos (by simpa using z2)]
      exact wpS_pure ⟨sm.min _,.inl ⟨_,_,rfl,fin_b m3 z2⟩⟩
     rw[if_neg (by simpa using z2)]
     have e1:ib+1+k2<b.size:=by omega
     have e2:x+1<ia1+1+(ib+1+k2):=by lia
     have hi2:=high2
     revert e1 e2 hi2 m3
     generalize out1.push pb++b.extract (ib+1) (ib+1+k2)=out2
     generalize ib+1+k2=ib2
     generalize k2=bc
     revert out2 ib2 bc
     exact H.out
    case C2 =>
     have k0:k2=0:=by lia
     exact H.out _ _ _ m2 (by lia) (by lia) (fun j j1 j2=>high2 j (by lia) j2)
    clear low2 high2 l1 l2 l3 m2 m1
    intro out2 ib2 bc m3 e1 e2 high2
    refine wpS_bind (elem_ok ea ?_)
    have m4:=mv_a m3 ea high2
    by_cases z3:ia1+1+1=a.size
    ·rw[if_pos (by simpa using z3)]
     exact wpS_pure ⟨sm.min _,.inl ⟨_,_,rfl,fin_l m4 z3 hl⟩⟩
    rw[if_neg (by simpa using z3)]
    have e3:ia1+1+1<a.size:=by lia
    refine wpS_if (fun _=>?_) fun _=>?_
    ·exact wpS_pure ⟨sm.min _,.inr ⟨_,_,_,_,_,_,rfl,m4,e3,e1,e2⟩⟩
    ·exact wpS_pure ⟨sm.min _,_,_,_,_,_,_,rfl,m4,e3,e1,e2⟩
end
open PySem PyProof.Rows
section
variable{κ:KeyKind}{a b out:Array Keyed}{T:List Keyed}{na nb k:Nat}{p:Keyed}
theorem rev_out(xs ys out:Array Keyed):(xs++ys++out.reverse).toList=xs.toList++ys.toList++out.toList.reverse:=by simp
theorem hf_a(h:MH κ T out.toList.reverse (a.toList.take na) (b.toList.take nb))(e:na=0):Good κ T (a.extract 0 na++b.extract 0 nb++out.reverse):=by
 subst e
 rw[List.take_zero]at h
 exact h.endA (by rw[rev_out,ext_take,ext_take,List.take_zero,List.nil_append])
theorem hf_b(h:MH κ T out.toList.reverse (a.toList.take na) (b.toList.take nb))(e:nb=0):Good κ T (a.extract 0 na++b.extract 0 nb++out.reverse):=by
 subst e
 rw[List.take_zero]at h
 exact h.endB (by rw[rev_out,ext_take,ext_take,List.take_zero,List.append_nil])
theorem hf_f(h:MH κ T out.toList.reverse (a.toList.take na) (b.toList.take nb))(e:nb=1)(hb:0<b.size)(hl:∀ i,i<a.size->κ.kle (KK κ b 0) (KK κ a i)):Good κ T (b.extract 0 nb++a.extract 0 na++out.reverse):=by
 subst e
 obtain⟨l,hl'⟩:=get_of_lt hb
 have ed:b.toList.take 1=[l]:=by rw[take_at hl'];rfl
 rw[ed]at h
 refine h.first (fun y hy=>?_) (by rw[rev_out,ext_take,ext_take,ed])
 obtain⟨j,_,j2,j3⟩:=mem_take hy
 have q:=hl j j2
 rw[KK_of j3,KK_of hl']at q
 exact q
theorem hm_a(h:MH κ T out.toList.reverse (a.toList.take (na+1)) (b.toList.take nb))(hp:a[na]?=some p)(hx:∀ j,j<nb->j<b.size->κ.kle (KK κ b j) (KK κ a na)):MH κ T (out.push p).toList.reverse (a.toList.take na) (b.toList.take nb):=by
 rw[take_at hp]at h
 have e:(out.push p).toList.reverse=[p]++out.toList.reverse:=by simp
 rw[e]
 refine h.a fun x hx' y hy=>?_
 rw[List.mem_singleton.mp hx']
 obtain⟨j,j1,j2,j3⟩:=mem_take hy
 have q:=hx j j1 j2
 rw[KK_of hp,KK_of j3]at q
 exact q
theorem hm_b(h:MH κ T out.toList.reverse (a.toList.take na) (b.toList.take (nb+1)))(hp:b[nb]?=some p)(hx:∀ i,i<na->i<a.size->κ.kle (KK κ a i) (KK κ b nb)):MH κ T (out.push p).toList.reverse (a.toList.take na) (b.toList.take nb):=by
 rw[take_at hp]at h
 have e:(out.push p).toList.reverse=[p]++out.toList.reverse:=by simp
 rw[e]
 refine h.b fun x hx' y hy=>?_
 rw[List.mem_singleton.mp hx']
 obtain⟨j,j1,j2,j3⟩:=mem_take hy
 have q:=hx j j1 j2
 rw[KK_of hp,KK_of j3]at q
 exact q
theorem take_blk(xs:Array Keyed){i n:Nat}(h:i<=n):xs.toList.take n=xs.toList.take i++(xs.toList.drop i).take (n-i):=by
 rw[<- List.take_add,Nat.add_sub_cancel' h]
theorem out_blk(out xs:Array Keyed){i n:Nat}(h:i<=n):(out++(xs.extract i n).reverse).toList.reverse=(xs.toList.drop i).take (n-i)++out.toList.reverse:=by
 have e:=ext_blk xs i (n-i)
 rw[Nat.add_sub_cancel' h]at e
 rw[<- e]
 simp
theorem hb_a{i:Nat}(hi:i<=na)(h:MH κ T out.toList.reverse (a.toList.take na) (b.toList.take nb))(hx:∀ m,i<=m->m<na->m<a.size->∀ j,j<nb->j<b.size->κ.kle (KK κ b j) (KK κ a m)) :
  MH κ T (out++(a.extract i na).reverse).toList.reverse (a.toList.take i) (b.toList.take nb):=by
 rw[take_blk a hi]at h
 rw[out_blk _ _ hi]
 refine h.a fun x hx' y hy=>?_
 obtain⟨m,i1,i2,i3,i4⟩:=mem_blk hx'
 obtain⟨j,j1,j2,j3⟩:=mem_take hy
 have q:=hx m i1 (by lia) i3 j j1 j2
 rw[KK_of i4,KK_of j3]at q
 exact q
theorem hb_b{i:Nat}(hi:i<=nb)(h:MH κ T out.toList.reverse (a.toList.take na) (b.toList.take nb))(hx:∀ m,i<=m->m<nb->m<b.size->∀ j,j<na->j<a.size->κ.kle (KK κ a j) (KK κ b m)) :
  MH κ T (out++(b.extract i nb).reverse).toList.reverse (a.toList.take na) (b.toList.take i):=by
 rw[take_blk b hi]at h
 rw[out_blk _ _ hi]
 refine h.b fun x hx' y hy=>?_
 obtain⟨m,i1,i2,i3,i4⟩:=mem_blk hx'
 obtain⟨j,j1,j2,j3⟩:=mem_take hy
 have q:=hx m i1 (by lia) i3 j j1 j2
 rw[KK_of i4,KK_of j3]at q
 exact q
end
section
variable{prog:Program}{w:World}{A:Around}{E:Value->Shared->Prop}{s:Shared}{κ:KeyKind}{kd:SortKind}{st:SortSt}
variable{a b:Array Keyed}
theorem mergeHi_ok{Q:Array Keyed->SortSt->Prop}(hO:LtOk κ kd prog w A s)(hk:kindOf st=kd)(ka:Keyd κ a)(kb:Keyd κ b)(hA:∀ i j,i<=j->j<a.size->κ.kle (KK κ a i) (KK κ a j))(hB:∀ i j,i<=j->j<b.size->κ.kle (KK κ b i) (KK κ b j))
  (ha:0<a.size) (hb:0<b.size) (h1:κ.kle (KK κ b 0) (KK κ a 0)) (h2:κ.kle (KK κ b (b.size-1)) (KK κ a (a.size-1)))
  (h:∀ R st',Sm st st'->Good κ (a.toList++b.toList) R->Q R st'):wpS (model prog w) A E s (mergeHiP a b) Q st:=by
 obtain⟨al,el⟩:=get_of_lt (xs:=a) (i:=a.size-1) (by omega)
 generalize hT:a.toList++b.toList=T at h
 have hf:∀ i,i<a.size->κ.kle (KK κ b 0) (KK κ a i):=fun i hi=>KeyOrd.kle_trans h1 (hA 0 i (by lia) hi)
 have m0:MH κ T (#[]:Array Keyed).toList.reverse (a.toList.take (a.size-1+1)) (b.toList.take b.size):=by
  rw[show a.size-1+1=a.size by lia]
  rw[List.take_of_length_le (l:=a.toList) (by simp),List.take_of_length_le (l:=b.toList) (by simp)]
  exact⟨by rw[<- hT];simp,by simp,fun x hx=>by simp at hx,pw_of hA,pw_of hB⟩
 have m1:MH κ T (#[al]:Array Keyed).toList.reverse (a.toList.take (a.size-1)) (b.toList.take b.size):=hm_a m0 el fun j _ hj=>KeyOrd.kle_trans (hB j (b.size-1) (by omega) (by omega)) h2
 refine wpS_bind (wpS_lift (wpAny_rule ⟨rfl,wpS_bind (elem_ok el ?_)⟩))
 dsimp only
 by_cases y1:a.size-1=0
 ·rw[if_pos (by simpa using y1)]
  exact wpS_pure (h _ _ (Sm.refl _) (hf_a m1 y1))
 rw[if_neg (by simpa using y1)]
 by_cases y2:b.size=1
 ·rw[if_pos (by simpa using y2)]
  exact wpS_pure (h _ _ (Sm.refl _) (hf_f m1 y2 hb hf))
 rw[if_neg (by simpa using y2)]
 refine wpS_bind (wpS_get ?_)
 refine wpS_bind (wpS_mono (wpS_forRange (I:=fun x c st'=>Sm st st'/\∃ na nb out mg,c=(none,na,nb,out,mg)/\MH κ T out.toList.reverse (a.toList.take na) (b.toList.take nb)/\0<na/\na<=a.size/\1<nb/\nb<=b.size/\x+na+nb<a.size+b.size)
  (Q:=fun c st'=>Sm st st'/\∃ R r,c=(some R,r)/\Good κ T R) ?ostep ?ofin ⟨Sm.refl _,_,_,_,_,rfl,m1,by lia,by omega,by lia,by lia,by omega⟩) ?opost)
 case opost =>
  rintro c st' ⟨sm,R,r,rfl,g⟩
  exact wpS_pure (h R st' sm g)
 case ofin =>
  rintro c st' ⟨sm,na,nb,out,mg,rfl,m,q1,q1',q2,q2',q3⟩
  lia
 case ostep =>
  intro x c st1 _ hx hI
  have sm1:=hI.1
  refine el4 c hI.2 fun na nb out mg hP=>?_
  have m:=hP.1
  have q1:=hP.2.1
  have q1':=hP.2.2.1
  have q2:=hP.2.2.2.1
  have q2':=hP.2.2.2.2.1
  have q3:=hP.2.2.2.2.2
  clear hI hP
  dsimp only
  refine wpS_bind (wpS_mono (wpS_forRange (I:=fun y c st'=>Sm st st'/\∃ na nb out ac bc,c=(none,na,nb,out,ac,bc)/\MH κ T out.toList.reverse (a.toList.take na) (b.toList.take nb)/\0<na/\na<=a.size/\1<nb/\nb<=b.size/\x+min y 1+na+nb<a.size+b.size)
   (Q:=fun c st'=>Sm st st'/\((∃ R r,c=(some R,r)/\Good κ T R)\/∃ na nb out ac bc,c=(none,na,nb,out,ac,bc)/\MH κ T out.toList.reverse (a.toList.take na) (b.toList.take nb)/\0<na/\na<=a.size/\1<nb/\nb<=b.size/\x+1+na+nb<a.size+b.size))
   ?istep ?ifin ⟨sm1,_,_,_,_,_,rfl,m,q1,q1',q2,q2',by lia⟩) ?ipost)
  case ifin =>
   rintro c st' ⟨sm,na,nb,out,ac,bc,rfl,m,q1,q1',q2,q2',q3⟩
   exact⟨sm,.inr ⟨na,nb,out,ac,bc,rfl,m,q1,q1',q2,q2',by lia⟩⟩
  case istep =>
   intro y c st2 _ hy hI
   have sm:=hI.1
   refine el5 c hI.2 fun na nb out ac bc hP=>?_
   have m:=hP.1
   have q1:=hP.2.1
   have q1':=hP.2.2.1
   have q2:=hP.2.2.2.1
   have q2':=hP.2.2.2.2.1
   have q3:=hP.2.2.2.2.2
   clear hI hP
   dsimp only
   obtain⟨n,rfl⟩:∃ n,na=n+1:=⟨na-1,by omega⟩
   obtain⟨l,rfl⟩:∃ l,nb=l+1:=⟨nb-1,by omega⟩
   obtain⟨pb,eb⟩:=get_of_lt (xs:=b) (i:=l) (by lia)
   obtain⟨pa,ea⟩:=get_of_lt (xs:=a) (i:=n) (by lia)
   refine wpS_bind (elem_ok eb (wpS_bind (elem_ok ea (wpS_bind (lt_ok hO (sm.k.trans hk) (kb _ _ eb) (ka _ _ ea) ?_)))))
   cases t:κ.blt (kk κ pb) (kk κ pa)with
   |true =>
    dsimp only
    rw[if_pos rfl]
    have tk:κ.kle (KK κ b l) (KK κ a n):=by rw[KK_of eb,KK_of ea];exact KeyOrd.kle_of_klt t
    have m':=hm_a m ea fun j j1 j2=>KeyOrd.kle_trans (hB j l (by lia) (by lia)) tk
    refine wpS_bind (elem_ok ea ?_)
    by_cases z:n=0
    ·rw[if_pos (by simpa using z)]
     exact wpS_pure ⟨sm,.inl ⟨_,_,rfl,hf_a m' z⟩⟩
    ·rw[if_neg (by simpa using z)]
     refine wpS_if (fun _=>?_) fun _=>?_
     ·exact wpS_pure ⟨sm,.inr ⟨_,_,_,_,_,rfl,m',by lia,by lia,by omega,by omega,by lia⟩⟩
     ·exact wpS_pure ⟨sm,_,_,_,_,_,rfl,m',by lia,by lia,by omega,by omega,by lia⟩
   |false =>
    dsimp only
    rw[if_neg Bool.false_ne_true]
    have tk:κ.kle (KK κ a n) (KK κ b l):=by rw[KK_of eb,KK_of ea];exact t
    have m':=hm_b m eb fun j j1 j2=>KeyOrd.kle_trans (hA j n (by lia) (by lia)) tk
    refine wpS_bind (elem_ok eb ?_)
    by_cases z:l=1
    ·rw[if_pos (by simpa using z)]
     exact wpS_pure ⟨sm,.inl ⟨_,_,rfl,hf_f m' z hb hf⟩⟩
    ·rw[if_neg (by simpa using z)]
     refine wpS_if (fun _=>?_) fun _=>?_
     ·exact wpS_pure ⟨sm,.inr ⟨_,_,_,_,_,rfl,m',by omega,by omega,by lia,by lia,by lia⟩⟩
     ·exact wpS_pure ⟨sm,_,_,_,_,_,rfl,m',by omega,by omega,by lia,by lia,by lia⟩
  case ipost =>
   intro c st2 hI
   have sm2:=hI.1
   refine eo5 c hI.2 (fun R r g=>?_) fun na nb out ac bc hP=>?_
   ·exact wpS_pure ⟨sm2,R,_,rfl,g⟩
   have m:=hP.1
   have q1:=hP.2.1
   have q1':=hP.2.2.1
   have q2:=hP.2.2.2.1
   have q2':=hP.2.2.2.2.1
   have q3:=hP.2.2.2.2.2
   clear hI hP
   dsimp only
   refine wpS_bind (wpS_lift (wpAny_rule ⟨rfl,?_⟩))
   refine wpS_bind (wpS_mono (wpS_forRange (I:=fun y c st'=>Sm st st'/\∃ na nb out mg ac bc,c=(none,na,nb,out,mg,ac,bc)/\MH κ T out.toList.reverse (a.toList.take na) (b.toList.take nb)/\0<na/\na<=a.size/\1<nb/\nb<=b.size/\x+1+na+nb<a.size+b.size)
    (Q:=fun c st'=>Sm st st'/\((∃ R r,c=(some R,r)/\Good κ T R)\/∃ na nb out mg ac bc,c=(none,na,nb,out,mg,ac,bc)/\MH κ T out.toList.reverse (a.toList.take na) (b.toList.take nb)/\0<na/\na<=a.size/\1<nb/\nb<=b.size/\x+1+na+nb<a.size+b.size))
    ?gstep ?gfin ⟨sm2,_,_,_,_,_,_,rfl,m,q1,q1',q2,q2',q3⟩) ?gpost)
   case gfin =>
    exact fun c st' hI=>⟨hI.1,.inr hI.2⟩
   case gpost =>
    intro c st3 hI
    have sm3:=hI.1
    refine eo6 c hI.2 (fun R r g=>?_) fun na nb out mg ac bc hP=>?_
    ·exact wpS_pure ⟨sm3,R,_,rfl,g⟩
    dsimp only
    have m:=hP.1
    have q1:=hP.2.1
    have q1':=hP.2.2.1
    have q2:=hP.2.2.2.1
    have q2':=hP.2.2.2.2.1
    have q3:=hP.2.2.2.2.2
    clear hI hP
    exact wpS_bind (wpS_modify (wpS_pure ⟨sm3.min _,_,_,_,_,rfl,m,q1,q1',q2,q2',by omega⟩))
   case gstep =>
    intro y c st3 _ hy hI
    have sm:=hI.1
    refine el6 c hI.2 fun na nb out mg ac bc hP=>?_
    have m:=hP.1
    have q1:=hP.2.1
    have q1':=hP.2.2.1
    have q2:=hP.2.2.2.1
    have q2':=hP.2.2.2.2.1
    have q3:=hP.2.2.2.2.2
    clear hI hP
    dsimp only
    obtain⟨l,rfl⟩:∃ l,nb=l+1:=⟨nb-1,by omega⟩
    obtain⟨pb,eb⟩:=get_of_lt (xs:=b) (i:=l) (by lia)
    refine' wpS_ifS (P:=_) ?A0 (fun _ H=>?A1) fun _ H=>?A2
    case A1=>generalize mg-1=z;revert z;exact H.out
    case A2=>exact H.out _
    intro mg
    refine wpS_bind (wpS_modify ?_)
    refine wpS_bind (elem_ok eb (wpS_bind (gallop_ok (bey_right hO (kb _ _ eb) ka (base:=0) (n:=na) (by lia)) ((sm.min _).k.trans hk) (fun i j hij hj t=>?_) (by omega) fun k k1 k2 k3=>?_)))
    ·have t1:κ.kle (KK κ a (0+j)) (kk κ pb):=by simpa[KeyOrd.kle]using t
     have t2:=KeyOrd.kle_trans (hA (0+i) (0+j) (by lia) (by lia)) t1
     simpa[KeyOrd.kle]using t2
    dsimp only
    have lowk:∀ i,i<k->κ.kle (KK κ a i) (KK κ b l):=fun i i1=>by
     have q:=k2 i i1
     rw[Nat.zero_add]at q
     rw[KK_of eb]
     simpa[KeyOrd.kle]using q
    have upk:∀ i,k<=i->i<na->κ.kle (KK κ b l) (KK κ a i):=fun i i1 i2=>by
     have q:=k3 i i1 i2
     rw[Nat.zero_add]at q
     rw[KK_of eb]
     exact KeyOrd.kle_of_klt (show κ.blt _ _=true by simpa using q)
    refine' wpS_ifS (P:=_) ?B0 (fun kz H=>?B1) fun kz H=>?B2
    case B1 =>
     have mk:=hb_a k1 m fun i i1 i2 _ j j1 j2=>KeyOrd.kle_trans (hB j l (by lia) (by lia)) (upk i i1 i2)
     by_cases w1:k=0
     ·rw[if_pos (by simpa using w1)]
      exact wpS_pure ⟨sm.min _,.inl ⟨_,_,rfl,hf_a mk w1⟩⟩
     rw[if_neg (by simpa using w1)]
     have lo1:=lowk
     have p1:0<k:=by lia
     have p2:k<=a.size:=by lia
     have p3:x+1+k+(l+1)<a.size+b.size:=by lia
     revert mk lo1 p1 p2 p3
     generalize out++(a.extract k na).reverse=out1
     generalize na-k=ac1
     generalize k=na1
     revert out1 ac1 na1
     exact H.out
    case B2 =>
     have k0:k=na:=by omega
     exact H.out _ _ _ m (fun i i1=>lowk i (by lia)) q1 q1' q3
    clear lowk upk k1 k2 k3 m q1 q1' q3
    intro out1 ac1 na1 m1 lo1 p1 p2 p3
    refine wpS_bind (elem_ok eb ?_)
    have m2:=hm_b m1 eb fun i i1 _=>lo1 i i1
    by_cases z:l=1
    ·rw[if_pos (by simpa using z)]
     exact wpS_pure ⟨sm.min _,.inl ⟨_,_,rfl,hf_f m2 z hb hf⟩⟩
    rw[if_neg (by simpa using z)]
    obtain⟨n,rfl⟩:∃ n,na1=n+1:=⟨na1-1,by omega⟩
    obtain⟨pa,ea⟩:=get_of_lt (xs:=a) (i:=n) (by lia)
    refine wpS_bind (elem_ok ea (wpS_bind (gallop_ok (bey_left hO (ka _ _ ea) kb (base:=0) (n:=l) (by lia)) ((sm.min _).k.trans hk) (fun i j hij hj t=>?_) (by omega) fun k2 l1 l2 l3=>?_)))
    ·exact KeyOrd.klt_of_kle_of_klt (hB (0+i) (0+j) (by lia) (by lia)) t
    dsimp only
    have low2:∀ j,j<k2->κ.kle (KK κ b j) (KK κ a n):=fun j j1=>by
     have q:=l2 j j1
     rw[Nat.zero_add]at q
     rw[KK_of ea]
     exact KeyOrd.kle_of_klt q
    have up2:∀ j,k2<=j->j<l->κ.kle (KK κ a n) (KK κ b j):=fun j j1 j2=>by
     have q:=l3 j j1 j2
     rw[Nat.zero_add]at q
     rw[KK_of ea]
     exact q
    refine' wpS_ifS (P:=_) ?C0 (fun kz2 H=>?C1) fun kz2 H=>?C2
    case C1 =>
     have m3:=hb_b l1 m2 fun j j1 j2 _ i i1 i2=>KeyOrd.kle_trans (hA i n (by lia) (by lia)) (up2 j j1 j2)
     by_cases z2:k2=1
     ·rw[if_pos (by simpa using z2)]
      exact wpS_pure ⟨sm.min _,.inl ⟨_,_,rfl,hf_f m3 z2 hb hf⟩⟩
     rw[if_neg (by simpa using z2)]
     by_cases z4:k2=0
     ·rw[if_pos (by simpa using z4)]
      exact wpS_pure ⟨sm.min _,.inl ⟨_,_,rfl,hf_b m3 z4⟩⟩
     rw[if_neg (by simpa using z4)]
     have lo2:=low2
     have e1:1<k2:=by lia
     have e2:k2<=b.size:=by lia
     have e3:x+1+n+k2<a.size+b.size:=by lia
     revert m3 lo2 e1 e2 e3
     generalize out1.push pb++(b.extract k2 (l+1-1)).reverse=out2
     generalize l+1-1-k2=bc2
     generalize k2=nb2
     revert out2 bc2 nb2
     exact H.out
    case C2 =>
     have k0:k2=l:=by lia
     exact H.out _ _ _ m2 (fun j j1=>low2 j (by lia)) (by lia) (by lia) (by lia)
    clear low2 up2 l1 l2 l3 m2 m1 p1 p3
    intro out2 bc2 nb2 m3 lo2 e1 e2 e3
    refine wpS_bind (elem_ok ea ?_)
    have m4:=hm_a m3 ea fun j j1 _=>lo2 j j1
    by_cases z3:n=0
    ·rw[if_pos (by simpa using z3)]
     exact wpS_pure ⟨sm.min _,.inl ⟨_,_,rfl,hf_a m4 z3⟩⟩
    rw[if_neg (by simpa using z3)]
    have e4:0<n:=by lia
    have e5:n<=a.size:=by lia
    refine wpS_if (fun _=>?_) fun _=>?_
    ·exact wpS_pure ⟨sm.min _,.inr ⟨_,_,_,_,_,_,rfl,m4,e4,e5,e1,e2,e3⟩⟩
    ·exact wpS_pure ⟨sm.min _,_,_,_,_,_,_,rfl,m4,e4,e5,e1,e2,e3⟩
end
open PySem PyProof.Rows
theorem write_blk:∀ (m:List Keyed) (xs:Array Keyed) (sa j0:Nat),sa+j0+m.length<=xs.size ->
  ((m.zipIdx j0).foldl (fun(a:Array Keyed) (q:Keyed×Nat)=>a.setIfInBounds (sa+q.2) q.1) xs).toList=xs.toList.take (sa+j0)++m++xs.toList.drop (sa+j0+m.length)
 |[],xs,sa,j0,h=>by simp
 |p :: r,xs,sa,j0,h=>by
  rw[List.length_cons]at h
  rw[List.zipIdx_cons,List.foldl_cons,write_blk r _ sa (j0+1) (by rw[Array.size_setIfInBounds];lia)]
  have hl:xs.toList.length=xs.size:=by simp
  rw[Array.toList_setIfInBounds]
  have e1:(xs.toList.set (sa+j0) p).take (sa+(j0+1))=xs.toList.take (sa+j0)++[p]:=by
   rw[show sa+(j0+1)=sa+j0+1 by lia,List.take_add_one,List.take_set_of_le (Nat.le_refl _),List.getElem?_set_self (by lia)]
   rfl
  have e2:(xs.toList.set (sa+j0) p).drop (sa+(j0+1)+r.length)=xs.toList.drop (sa+j0+(p :: r).length):=by
   rw[List.drop_set_of_lt (by lia),List.length_cons]
   congr 1
   lia
  rw[e1,e2]
  simp
theorem SIn.pw{κ:KeyKind}{xs:Array Keyed}{lo n:Nat}(h:SIn κ xs lo n):((xs.toList.drop lo).take n).Pairwise (kL κ):=by
 rw[List.pairwise_iff_getElem]
 intro i j hi hj hij
 rw[List.length_take,List.length_drop]at hi hj
 have hl:xs.toList.length=xs.size:=by simp
 have q:=h i j (by lia) (by lia)
 have g:∀ m,(hm:m<min n (xs.toList.length-lo))->xs[lo+m]?=some (((xs.toList.drop lo).take n)[m]'(by rw[List.length_take,List.length_drop];exact hm)):=fun m hm=>by
  rw[List.getElem_take,List.getElem_drop,<- List.getElem?_eq_getElem (by omega)]
  simp
 rw[KK_of (g i hi),KK_of (g j hj)]at q
 exact q
section
variable{prog:Program}{w:World}{A:Around}{E:Value->Shared->Prop}{s:Shared}{κ:KeyKind}{kd:SortKind}{st:SortSt}{a₀:Array Keyed}{n1 n2 pw:Nat}
theorem keyd_of{xs:Array Keyed}(hp:xs.Perm a₀)(h0:KeysOf κ a₀):Keyd κ xs:=fun i p hi=>by
 have hm:p∈a₀.toList:=(Array.perm_iff_toList_perm.mp hp).mem_iff.mp (by
  have:=Array.mem_of_getElem? hi
  simpa using this)
 exact h0 p hm
theorem keyd_ext{xs:Array Keyed}(h:Keyd κ xs)(i j:Nat):Keyd κ (xs.extract i j):=fun m p hm=>by
 rw[Array.getElem?_extract]at hm
 split at hm
 ·exact h _ _ hm
 ·cases hm
theorem KK_ext{xs:Array Keyed}{i j m:Nat}(hm:m<min j xs.size-i):KK κ (xs.extract i j) m=KK κ xs (i+m):=by
 apply KK_congr
 rw[Array.getElem?_extract,if_pos hm]
theorem wpS_set{σ:Type}{M:Model}{x st:σ}{Q:PUnit->σ->Prop}(h:Q ⟨⟩ x):wpS M A E s (set x:StateT σ Sem PUnit) Q st:=by
 unfold wpS
 rw[StateT.run_set]
 exact wpAny_pure ⟨rfl,h⟩
theorem glue{L P X Y S M:List Keyed}(hL:L=P++X++(Y++S))(hM:M.Perm (X++Y))(sM:M.Pairwise (kL κ))(sa:(P++X).Pairwise (kL κ))(sb:(Y++S).Pairwise (kL κ))(hPY:∀ x∈P,∀ y∈Y++S,kL κ x y)(hXS:∀ x∈X,∀ y∈S,kL κ x y) :
  (P++M++S).Perm L/\(P++M++S).Pairwise (kL κ):=by
 obtain⟨p1,p2,p3⟩:=List.pairwise_append.mp sa
 obtain⟨r1,r2,r3⟩:=List.pairwise_append.mp sb
 constructor
 ·rw[hL]
  simp only[List.append_assoc]
  refine List.Perm.append_left P ?_
  rw[<- List.append_assoc X]
  exact List.Perm.append_right S hM
 ·refine List.pairwise_append.mpr ⟨List.pairwise_append.mpr ⟨p1,sM,fun x hx y hy=>?_⟩,r2,fun x hx y hy=>?_⟩
  ·rcases List.mem_append.mp (hM.mem_iff.mp hy)with q | q
   ·exact p3 x hx y q
   ·exact hPY x hx y (List.mem_append_left _ q)
  ·rcases List.mem_append.mp hx with q | q
   ·exact hPY x q y (List.mem_append_right _ hy)
   ·rcases List.mem_append.mp (hM.mem_iff.mp q)with q | q
    ·exact hXS x q y hy
    ·exact r3 x q y hy
theorem SIn.of_seg{κ:KeyKind}{xs:Array Keyed}{P B S:List Keyed}(e:xs.toList=P++B++S)(h:B.Pairwise (kL κ)):SIn κ xs P.length B.length:=by
 intro i j hij hj
 by_cases ij:i=j
 ·subst ij;exact KeyOrd.kle_refl _
 have g:∀ m (hm:m<B.length),xs[P.length+m]?=some B[m]:=fun m hm=>by
  rw[<- Array.getElem?_toList,e,List.append_assoc,List.getElem?_append_right (by lia),Nat.add_sub_cancel_left,List.getElem?_append_left hm,List.getElem?_eq_getElem hm]
 rw[KK_of (g i (by lia)),KK_of (g j hj)]
 exact(List.pairwise_iff_getElem.mp h) i j (by lia) hj (by lia)
theorem mergeAt_ok{Q:Bool->SortSt->Prop}{i b pw pw2:Nat}(hO:LtOk κ kd prog w A s)(h0:KeysOf κ a₀)(hk:kindOf st=kd)(hp:(arrOf st).Perm a₀)(hf:failedOf st=none)(hpa:(pendingOf st)[i]?=some (b,n1,pw))(hpb:(pendingOf st)[i+1]?=some (b+n1,n2,pw2))(hsz:b+n1+n2<=a₀.size)(h1:0<n1)(h2:0<n2)
  (s1:SIn κ (arrOf st) b n1) (s2:SIn κ (arrOf st) (b+n1) n2)
  (h:∀ st',(arrOf st').Perm a₀->failedOf st'=none->pendingOf st'=((pendingOf st).setIfInBounds i (b,n1+n2,pw)).eraseIdxIfInBounds (i+1)->SIn κ (arrOf st') b (n1+n2)->kindOf st'=kd->(∀ k,k<b\/b+n1+n2<=k->(arrOf st')[k]?=(arrOf st)[k]?)->Q true st'):wpS (model prog w) A E s (mergeAt' i) Q st:=by
 obtain⟨kd',xs,pend,mg,fl⟩:=st
 change kd'=kd at hk
 change xs.Perm a₀ at hp
 change fl=none at hf
 change pend[i]?=_ at hpa
 change pend[i+1]?=_ at hpb
 change SIn κ xs b n1 at s1
 change SIn κ xs (b+n1) n2 at s2
 subst hk hf
 have hs:b+n1+n2<=xs.size:=by rw[hp.size_eq];exact hsz
 have hl:xs.toList.length=xs.size:=by simp
 have kd0:=keyd_of hp h0
 obtain⟨pb,eb⟩:=get_of_lt (xs:=xs) (i:=b+n1) (by lia)
 refine wpS_bind (wpS_get ?_)
 dsimp only
 rw[hpa,hpb]
 dsimp only
 refine wpS_bind (wpS_set ?_)
 change ∀ st':SortSt,(arrOf st').Perm a₀->failedOf st'=none->pendingOf st'=(pend.setIfInBounds i (b,n1+n2,pw)).eraseIdxIfInBounds (i+1)->SIn κ (arrOf st') b (n1+n2)->kindOf st'=kd'->(∀ k,k<b\/b+n1+n2<=k->(arrOf st')[k]?=xs[k]?)->Q true st' at h
 generalize (pend.setIfInBounds i (b,n1+n2,pw)).eraseIdxIfInBounds (i+1)=pend' at h ⊢
 refine wpS_bind (elem_ok eb (wpS_bind (gallop_ok (kd:=kd') (bey_right (arr:=xs) hO (kd0 _ _ eb) kd0 (base:=b) (n:=n1) (by lia)) rfl (fun i j hij hj t=>?_) h1 fun k k1 k2 k3=>?_)))
 ·have t1:κ.kle (KK κ xs (b+j)) (kk κ pb):=by simpa[KeyOrd.kle]using t
  have t2:=KeyOrd.kle_trans (s1 i j hij hj) t1
  simpa[KeyOrd.kle]using t2
 dsimp only
 have lowk:∀ i,i<k->κ.kle (KK κ xs (b+i)) (KK κ xs (b+n1)):=fun i hi=>by
  have q:=k2 i hi
  rw[KK_of eb]
  simpa[KeyOrd.kle]using q
 have upk:∀ i,k<=i->i<n1->κ.kle (KK κ xs (b+n1)) (KK κ xs (b+i)):=fun i i1 i2=>by
  have q:=k3 i i1 i2
  rw[KK_of eb]
  exact KeyOrd.kle_of_klt (show κ.blt _ _=true by simpa using q)
 have hA:∀ i j,i<=j->j<n1->κ.kle (KK κ xs (b+i)) (KK κ xs (b+j)):=s1
 have hB:∀ i j,i<=j->j<n2->κ.kle (KK κ xs (b+n1+i)) (KK κ xs (b+n1+j)):=s2
 have calm:(∀ i j,i<n1->j<n2->κ.kle (KK κ xs (b+i)) (KK κ xs (b+n1+j)))->SIn κ xs b (n1+n2):=fun hc i j hij hj=>by
  by_cases j1:j<n1
  ·exact hA i j hij j1
  ·obtain⟨j',rfl⟩:∃ j',j=n1+j':=⟨j-n1,by lia⟩
   rw[<- Nat.add_assoc]
   by_cases i1:i<n1
   ·exact hc i j' i1 (by lia)
   ·obtain⟨i',rfl⟩:∃ i',i=n1+i':=⟨i-n1,by lia⟩
    rw[<- Nat.add_assoc]
    exact hB i' j' (by lia) (by lia)
 by_cases z1:n1-k=0
 ·rw[if_pos (by simpa using z1)]
  refine wpS_pure (h _ hp rfl rfl (calm fun i j i1 j1=>KeyOrd.kle_trans (lowk i (Nat.lt_of_lt_of_le i1 (Nat.le_of_sub_eq_zero z1))) ?_) rfl fun _ _=>rfl)
  have:=hB 0 j (Nat.zero_le _) j1
  rwa [Nat.add_zero]at this
 rw[if_neg (by simpa using z1)]
 have pk:0<n1-k:=Nat.pos_of_ne_zero z1
 have eL:b+k+(n1-k)-1=b+(n1-1):=by lia
 obtain⟨pa,ea'⟩:=get_of_lt (xs:=xs) (i:=b+(n1-1)) (by lia)
 have ea:xs[b+k+(n1-k)-1]?=some pa:=by rw[eL];exact ea'
 refine wpS_bind (elem_ok ea (wpS_bind (gallop_ok (kd:=kd') (bey_left (arr:=xs) hO (kd0 _ _ ea) kd0 (base:=b+n1) (n:=n2) hs) rfl (fun i j hij hj t=>?_) (Nat.sub_lt h2 Nat.one_pos) fun m m1 m2 m3=>?_)))
 ·exact KeyOrd.klt_of_kle_of_klt (s2 i j hij hj) t
 dsimp only
 have lowm:∀ j,j<m->κ.kle (KK κ xs (b+n1+j)) (KK κ xs (b+(n1-1))):=fun j j2=>by
  have q:=m2 j j2
  rw[KK_of ea']
  exact KeyOrd.kle_of_klt q
 have upm:∀ j,m<=j->j<n2->κ.kle (KK κ xs (b+(n1-1))) (KK κ xs (b+n1+j)):=fun j j1 j2=>by
  have q:=m3 j j1 j2
  rw[KK_of ea']
  exact q
 by_cases z2:m=0
 ·rw[if_pos (by simpa using z2)]
  exact wpS_pure (h _ hp rfl rfl (calm fun i j i1 j2=>KeyOrd.kle_trans (hA i (n1-1) (by omega) (by omega)) (upm j (by lia) j2)) rfl fun _ _=>rfl)
 rw[if_neg (by simpa using z2)]
 have pm:0<m:=Nat.pos_of_ne_zero z2
 have zx:(xs.extract (b+k) (b+n1)).size=n1-k:=by rw[Array.size_extract];lia
 have zy:(xs.extract (b+n1) (b+n1+m)).size=m:=by rw[Array.size_extract];lia
 have kx:=keyd_ext kd0 (b+k) (b+n1)
 have ky:=keyd_ext kd0 (b+n1) (b+n1+m)
 have KX:∀ i,i<n1-k->KK κ (xs.extract (b+k) (b+n1)) i=KK κ xs (b+(k+i)):=fun i hi=>by rw[KK_ext (by lia),Nat.add_assoc]
 have KY:∀ i,i<m->KK κ (xs.extract (b+n1) (b+n1+m)) i=KK κ xs (b+n1+i):=fun i hi=>by rw[KK_ext (by lia)]
 have sX:∀ i j,i<=j->j <(xs.extract (b+k) (b+n1)).size->κ.kle (KK κ (xs.extract (b+k) (b+n1)) i) (KK κ (xs.extract (b+k) (b+n1)) j):=fun i j hij hj=>by
  rw[zx]at hj
  rw[KX i (by lia),KX j hj]
  exact hA _ _ (by lia) (by lia)
 have sY:∀ i j,i<=j->j <(xs.extract (b+n1) (b+n1+m)).size->κ.kle (KK κ (xs.extract (b+n1) (b+n1+m)) i) (KK κ (xs.extract (b+n1) (b+n1+m)) j):=fun i j hij hj=>by
  rw[zy]at hj
  rw[KY i (by lia),KY j hj]
  exact hB _ _ hij (by lia)
 have f1:κ.kle (KK κ (xs.extract (b+n1) (b+n1+m)) 0) (KK κ (xs.extract (b+k) (b+n1)) 0):=by
  rw[KX 0 pk,KY 0 pm]
  exact upk (k+0) (by lia) (by lia)
 have f2:κ.kle (KK κ (xs.extract (b+n1) (b+n1+m)) ((xs.extract (b+n1) (b+n1+m)).size-1)) (KK κ (xs.extract (b+k) (b+n1)) ((xs.extract (b+k) (b+n1)).size-1)):=by
  rw[zx,zy,KX _ (by omega),KY _ (by lia),show k+(n1-k-1)=n1-1 by lia]
  exact lowm _ (by lia)
 have eX:(xs.extract (b+k) (b+n1)).toList=(xs.toList.drop (b+k)).take (n1-k):=by
  have e:=ext_blk xs (b+k) (n1-k)
  rwa [show b+k+(n1-k)=b+n1 by lia]at e
 have eY:(xs.extract (b+n1) (b+n1+m)).toList=(xs.toList.drop (b+n1)).take m:=ext_blk xs (b+n1) m
 have eA:(xs.toList.drop b).take n1=(xs.toList.drop b).take k++(xs.toList.drop (b+k)).take (n1-k):=by
  rw[show n1=k+(n1-k) by lia,List.take_add,List.drop_drop]
  rw[show k+(n1-k)-k=n1-k by lia]
 have eB:(xs.toList.drop (b+n1)).take n2=(xs.toList.drop (b+n1)).take m++(xs.toList.drop (b+n1+m)).take (n2-m):=by
  rw[show n2=m+(n2-m) by lia,List.take_add,List.drop_drop]
  rw[show m+(n2-m)-m=n2-m by lia]
 have gat:∀ (c d:Nat) (x:Keyed),x∈(xs.toList.drop c).take d->c+d<=xs.size->∃ j,j<d/\xs[c+j]?=some x:=fun c d x hx hc=>by
  obtain⟨j,j1,j2,j3,j4⟩:=mem_blk hx
  exact⟨j-c,by lia,by rw[show c+(j-c)=j by lia];exact j4⟩
 have behind:∀ (R:Array Keyed) (st':SortSt),Sm (SortSt.mk' kd' xs pend' mg none) st'->Good κ ((xs.extract (b+k) (b+n1)).toList++(xs.extract (b+n1) (b+n1+m)).toList) R ->
   Q true (setArr st' ((R.toList.zipIdx).foldl (fun(a:Array Keyed) (q:Keyed×Nat)=>a.setIfInBounds (b+k+q.2) q.1) (arrOf st')))/\failedOf st'=none:=by
  intro R st' sm g
  have ea1:arrOf st'=xs:=sm.a
  have zR:R.toList.length=n1-k+m:=by
   rw[g.1.length_eq,List.length_append,Array.length_toList,Array.length_toList,zx,zy]
  have W:=write_blk R.toList xs (b+k) 0 (by lia)
  have gl:=glue (κ:=κ) (L:=(xs.toList.drop b).take k++(xs.toList.drop (b+k)).take (n1-k)++((xs.toList.drop (b+n1)).take m++(xs.toList.drop (b+n1+m)).take (n2-m))) (M:=R.toList)
   rfl (by rw[<- eX,<- eY];exact g.1) g.2 (by rw[<- eA];exact SIn.pw s1) (by rw[<- eB];exact SIn.pw s2)
   (fun x hx y hy=>by
    rw[<- eB]at hy
    obtain⟨i,i1,i2⟩:=gat _ _ _ hx (by lia)
    obtain⟨j,j1,j2⟩:=gat _ _ _ hy (by omega)
    have q0:=hB 0 j (Nat.zero_le _) j1
    rw[Nat.add_zero]at q0
    have q:=KeyOrd.kle_trans (lowk i i1) q0
    rw[KK_of i2,KK_of j2]at q
    exact q)
   (fun x hx y hy=>by
    obtain⟨i,i1,i2⟩:=gat _ _ _ hx (by lia)
    obtain⟨j,j1,j2⟩:=gat _ _ _ hy (by lia)
    have q:=KeyOrd.kle_trans (hA (k+i) (n1-1) (by lia) (by omega)) (upm (m+j) (by lia) (by lia))
    rw[<- Nat.add_assoc,<- Nat.add_assoc,KK_of i2,KK_of j2]at q
    exact q)
  have eP:xs.toList.take (b+k)=xs.toList.take b++(xs.toList.drop b).take k:=List.take_add
  have eS:xs.toList.drop (b+n1+m)=(xs.toList.drop (b+n1+m)).take (n2-m)++xs.toList.drop (b+n1+n2):=by
   have:=List.take_append_drop (n2-m) (xs.toList.drop (b+n1+m))
   rw[List.drop_drop,show b+n1+m+(n2-m)=b+n1+n2 by lia]at this
   exact this.symm
  have eW:((R.toList.zipIdx).foldl (fun(a:Array Keyed) (q:Keyed×Nat)=>a.setIfInBounds (b+k+q.2) q.1) xs).toList=xs.toList.take b++((xs.toList.drop b).take k++R.toList++(xs.toList.drop (b+n1+m)).take (n2-m))++xs.toList.drop (b+n1+n2):=by
   rw[W,zR,show b+k+0=b+k by lia,show b+k+(n1-k+m)=b+n1+m by lia,eP]
   conv=>lhs;rw[eS]
   simp only[List.append_assoc]
  have eO:xs.toList=xs.toList.take b++((xs.toList.drop b).take k++(xs.toList.drop (b+k)).take (n1-k)++((xs.toList.drop (b+n1)).take m++(xs.toList.drop (b+n1+m)).take (n2-m)))++xs.toList.drop (b+n1+n2):=by
   rw[<- eA,<- eB]
   conv=>lhs;rw[<- List.take_append_drop b xs.toList,<- List.take_append_drop n1 (xs.toList.drop b),List.drop_drop,<- List.take_append_drop n2 (xs.toList.drop (b+n1)),List.drop_drop]
   simp only[List.append_assoc]
  have tb:(xs.toList.take b).length=b:=by rw[List.length_take];lia
  have zM:((xs.toList.drop b).take k++R.toList++(xs.toList.drop (b+n1+m)).take (n2-m)).length=n1+n2:=by
   rw[List.length_append,List.length_append,List.length_take,List.length_take,List.length_drop,List.length_drop,zR];lia
  refine⟨?_,sm.f⟩
  rw[ea1]
  generalize hW:(R.toList.zipIdx).foldl (fun(a:Array Keyed) (q:Keyed×Nat)=>a.setIfInBounds (b+k+q.2) q.1) xs=ys at eW
  have pp:ys.Perm a₀:=by
   refine Array.Perm.trans ?_ hp
   rw[Array.perm_iff_toList_perm,eW]
   refine List.Perm.trans ?_ (List.Perm.of_eq eO.symm)
   exact(gl.1.append_left _).append_right _
  refine h _ pp sm.f sm.p ?_ sm.k fun c hc=>?_
  ·have q:=SIn.of_seg (κ:=κ) eW gl.2
   rw[tb,zM]at q
   exact q
  ·show ys[c]?=xs[c]?
   rw[<- Array.getElem?_toList,<- Array.getElem?_toList,eW]
   rcases hc with hc | hc
   ·rw[List.append_assoc,List.getElem?_append_left (by lia),List.getElem?_take_of_lt hc]
   ·rw[List.getElem?_append_right (by rw[List.length_append,tb,zM];lia),List.getElem?_drop,List.length_append,tb,zM]
    congr 1
    lia
 refine wpS_if (fun _=>?_) fun _=>?_
 ·refine wpS_bind (mergeLo_ok (kd:=kd') hO rfl kx ky sX sY (Nat.lt_of_lt_of_eq pk zx.symm) (Nat.lt_of_lt_of_eq pm zy.symm) f1 f2 fun R st' sm g=>?_)
  obtain⟨q1,q2⟩:=behind R st' sm g
  refine wpS_bind (wpS_modify (wpS_bind (wpS_get (wpS_pure ?_))))
  show Q (failedOf st').isNone _
  rw[q2]
  exact q1
 ·refine wpS_bind (mergeHi_ok (kd:=kd') hO rfl kx ky sX sY (Nat.lt_of_lt_of_eq pk zx.symm) (Nat.lt_of_lt_of_eq pm zy.symm) f1 f2 fun R st' sm g=>?_)
  obtain⟨q1,q2⟩:=behind R st' sm g
  refine wpS_bind (wpS_modify (wpS_bind (wpS_get (wpS_pure ?_))))
  show Q (failedOf st').isNone _
  rw[q2]
  exact q1
end
open PySem PyProof.Rows
section
variable{prog:Program}{w:World}{A:Around}{E:Value->Shared->Prop}{s:Shared}{κ:KeyKind}{kd:SortKind}{st:SortSt}{a₀:Array Keyed}
theorem SIn.congr{xs ys:Array Keyed}{lo n:Nat}(h:SIn κ xs lo n)(e:∀ k,lo<=k->k<lo+n->ys[k]?=xs[k]?):SIn κ ys lo n:=fun i j hij hj=>by
 rw[KK_congr (ys:=xs) (e (lo+i) (by lia) (by lia)),KK_congr (ys:=xs) (e (lo+j) (by lia) (by lia))]
 exact h i j hij hj
noncomputable def Runs(κ:KeyKind)(xs:Array Keyed):List (Nat×Nat)->Nat->Nat->Prop
 |[],s,e=>s=e
 |z :: r,s,e=>z.1=s/\0<z.2/\SIn κ xs s z.2/\Runs κ xs r (s+z.2) e
theorem Runs.len{xs:Array Keyed}:∀ {l:List (Nat×Nat)}{s e:Nat},Runs κ xs l s e->l.length+s<=e
 |[],s,e,h=>by have h:s=e:=h;simp;lia
 |z :: r,s,e,h=>by
  obtain⟨_,h2,_,h4⟩:=h
  have:=Runs.len h4
  rw[List.length_cons]
  lia
theorem Runs.congr{xs ys:Array Keyed}:∀ {l:List (Nat×Nat)}{s e:Nat},Runs κ xs l s e->(∀ k,s<=k->k<e->ys[k]?=xs[k]?)->Runs κ ys l s e
 |[],_,_,h,_=>h
 |z :: r,s,e,h,c=>by
  obtain⟨h1,h2,h3,h4⟩:=h
  have:=h4.len
  exact⟨h1,h2,h3.congr fun k a b=>c k a (by lia),Runs.congr h4 fun k a b=>c k (by lia) b⟩
theorem Runs.app{xs:Array Keyed}{l2:List (Nat×Nat)}{e:Nat}:∀ {l1:List (Nat×Nat)}{s:Nat},Runs κ xs (l1++l2) s e↔∃ m,Runs κ xs l1 s m/\Runs κ xs l2 m e
 |[],s=>by
  constructor
  ·exact fun h=>⟨s,rfl,h⟩
  ·rintro⟨m,h,h'⟩
   cases(show s=m from h)
   exact h'
 |z :: l1,s=>by
  constructor
  ·rintro⟨h1,h2,h3,h4⟩
   obtain⟨m,a,b⟩:=Runs.app.mp h4
   exact⟨m,⟨h1,h2,h3,a⟩,b⟩
  ·rintro⟨m,⟨h1,h2,h3,h4⟩,b⟩
   exact⟨h1,h2,h3,Runs.app.mpr ⟨m,h4,b⟩⟩
noncomputable def pr2(z:Nat×Nat×Nat):Nat×Nat:=(z.1,z.2.1)
noncomputable def prs(p:Array (Nat×Nat×Nat)):List (Nat×Nat):=p.toList.map pr2
theorem prs_len(p:Array (Nat×Nat×Nat)):(prs p).length=p.size:=by unfold prs;simp
theorem prs_push(p:Array (Nat×Nat×Nat))(z:Nat×Nat×Nat):prs (p.push z)=prs p++[pr2 z]:=by unfold prs;simp
theorem mod_map{f:Nat×Nat×Nat->Nat×Nat×Nat}(hf:∀ z,pr2 (f z)=pr2 z):∀ (l:List (Nat×Nat×Nat)) (j:Nat),(l.modify j f).map pr2=l.map pr2
 |[],j=>by simp
 |z :: l,0=>by simp[hf]
 |z :: l,j+1=>by simp[mod_map hf l j]
theorem prs_mod(p:Array (Nat×Nat×Nat))(j pw:Nat):prs (p.modify j fun x=>(x.1,x.2.1,pw))=prs p:=by
 unfold prs
 rw[Array.toList_modify]
 exact mod_map (f:=fun x=>(x.1,x.2.1,pw)) (fun _=>rfl) _ _
structure Core(κ:KeyKind)(kd:SortKind)(a₀:Array Keyed)(lo:Nat)(st:SortSt):Prop where
 perm:(arrOf st).Perm a₀
 kind:kindOf st=kd
 failed:failedOf st=none
 runs:Runs κ (arrOf st) (prs (pendingOf st)) 0 lo
 le:lo<=a₀.size
theorem erase_set{l1 l2:List (Nat×Nat×Nat)}{x y v:Nat×Nat×Nat}:((l1++x :: y :: l2).set l1.length v).eraseIdx (l1.length+1)=l1++v :: l2:=by
 induction l1 with
 |nil=>rfl
 |cons a l ih=>rw[List.cons_append,List.length_cons,List.set_cons_succ,List.eraseIdx_cons_succ,ih];rfl
theorem merge_step{Q:Bool->SortSt->Prop}{lo i:Nat}(hO:LtOk κ kd prog w A s)(h0:KeysOf κ a₀)(C:Core κ kd a₀ lo st)(hi:i+1 <(pendingOf st).size)
  (h:∀ st',Core κ kd a₀ lo st'->(pendingOf st').size+1=(pendingOf st).size->(∀ k,lo<=k->(arrOf st')[k]?=(arrOf st)[k]?)->Q true st'):wpS (model prog w) A E s (mergeAt' i) Q st:=by
 obtain⟨c1,c2,c3,c4,c5⟩:=C
 generalize hp:pendingOf st=p at *
 have el:p.toList=p.toList.take i++p[i] :: p[i+1] :: p.toList.drop (i+2):=by
  have h1:i<p.toList.length:=by simp;lia
  have h2:i+1<p.toList.length:=by simp;omega
  conv=>lhs;rw[<- List.take_append_drop i p.toList,List.drop_eq_getElem_cons h1,List.drop_eq_getElem_cons h2]
  simp
 have ll:(p.toList.take i).length=i:=by rw[List.length_take];simp;lia
 have r0:=c4
 unfold prs at r0
 rw[el,List.map_append,List.map_cons,List.map_cons]at r0
 obtain⟨m,ra,b1,b2,b3,d1,d2,d3,rb⟩:=Runs.app.mp r0
 generalize hx:p[i]=x at *
 generalize hy:p[i+1]=y at *
 obtain⟨xb,xn,xp⟩:=x
 obtain⟨yb,yn,yp⟩:=y
 have b1:xb=m:=b1
 have d1:yb=m+xn:=d1
 subst b1
 subst d1
 have ex:p[i]?=some (xb,xn,xp):=by rw[Array.getElem?_eq_getElem (by lia),hx]
 have ey:p[i+1]?=some (xb+xn,yn,yp):=by rw[Array.getElem?_eq_getElem hi,hy]
 have lb:=rb.len
 have le2:xb+xn+yn<=lo:=by
  have:xb+(pr2 (xb,xn,xp)).2+(pr2 (xb+xn,yn,yp)).2=xb+xn+yn:=rfl
  lia
 refine mergeAt_ok (i:=i) (b:=xb) (n1:=xn) (n2:=yn) (pw:=xp) (pw2:=yp) hO h0 c2 c1 c3 (by rw[hp];exact ex) (by rw[hp];exact ey) (by lia) b2 d2 b3 d3 fun st' a1 a2 a3 a4 a5 a6=>?_
 rw[hp]at a3
 have e3:(pendingOf st').toList=p.toList.take i++(xb,xn+yn,xp) :: p.toList.drop (i+2):=by
  have e:=erase_set (l1:=p.toList.take i) (l2:=p.toList.drop (i+2)) (x:=(xb,xn,xp)) (y:=(xb+xn,yn,yp)) (v:=(xb,xn+yn,xp))
  rw[ll,<- el]at e
  rw[a3]
  unfold Array.eraseIdxIfInBounds
  rw[dif_pos (by rw[Array.size_setIfInBounds];exact hi),Array.toList_eraseIdx,Array.toList_setIfInBounds]
  exact e
 refine h st' ⟨a1,a5,a2,?_,c5⟩ ?_ fun k hk=>a6 k (.inr (by lia))
 ·unfold prs
  rw[e3,List.map_append,List.map_cons]
  refine Runs.app.mpr ⟨xb,ra.congr fun k _ hk=>a6 k (.inl hk),rfl,by show 0<xn+yn;have:0<xn:=b2;lia,a4,?_⟩
  show Runs κ (arrOf st') _ (xb+(xn+yn)) lo
  rw[<- Nat.add_assoc]
  exact rb.congr fun k hk _=>a6 k (.inr hk)
 ·have e4:=congrArg List.length e3
  have e5:=congrArg List.length el
  rw[List.length_append,List.length_cons]at e4
  rw[List.length_append,List.length_cons,List.length_cons]at e5
  simp only[Array.length_toList]at e4 e5
  lia
theorem minRun_pos:∀ (f n r:Nat),1<=n->1<=minRun' f n r
 | 0,n,r,h=>by show 1<=n+r;lia
 |f+1,n,r,h=>by
  rw[minRun'_succ]
  split
  ·lia
  ·exact minRun_pos f _ _ (by lia)
theorem Core.push{lo n z:Nat}(C:Core κ kd a₀ lo st)(h:SIn κ (arrOf st) lo n)(n0:0<n)(hn:lo+n<=a₀.size)(p:Array (Nat×Nat×Nat))(ep:prs p=prs (pendingOf st)):Core κ kd a₀ (lo+n) (setPending st (p.push (lo,n,z))):=by
 refine⟨C.perm,C.kind,C.failed,?_,hn⟩
 show Runs κ (arrOf st) (prs (p.push (lo,n,z))) 0 (lo+n)
 rw[prs_push,ep]
 exact Runs.app.mpr ⟨lo,C.runs,rfl,n0,h,rfl⟩
theorem runs_ok{Q:Unit->SortSt->Prop}(hO:LtOk κ kd prog w A s)(h0:KeysOf κ a₀)(hB:SB kd a₀ a₀ 0 #[] st)(h2:2<=a₀.size)
  (h:∀ st',(arrOf st').Perm a₀->failedOf st'=none->SIn κ (arrOf st') 0 a₀.size->Q () st'):wpS (model prog w) A E s sortRuns' Q st:=by
 rw[sortRuns'_eq]
 refine wpS_bind (wpS_get ?_)
 dsimp only
 simp only[hB.size]
 have r1:1<=minRun' a₀.size a₀.size 0:=minRun_pos _ _ _ (by lia)
 generalize hmr:minRun' a₀.size a₀.size 0=mr at r1 ⊢
 refine wpS_bind (wpS_mono (wpS_forRange
  (I:=fun x c st'=>∃ lo,c=(none,lo)/\x<=lo/\Core κ kd a₀ lo st')
  (Q:=fun c st'=>c=(none,a₀.size)/\Core κ kd a₀ a₀.size st') ?step ?fin ⟨0,rfl,Nat.le_refl _,hB.perm,hB.kind,hB.failed,by rw[hB.pend];rfl,Nat.zero_le _⟩) ?post)
 case fin =>
  rintro c st' ⟨lo,rfl,hx,C⟩
  have e:lo=a₀.size:=by have:=C.le;lia
  subst e
  exact⟨rfl,C⟩
 case step =>
  rintro x c st1 _ hx ⟨lo,rfl,xlo,C⟩
  dsimp only
  by_cases hlo:lo >= a₀.size
  ·rw[if_pos hlo]
   have e:lo=a₀.size:=by have:=C.le;lia
   subst e
   exact wpS_pure ⟨rfl,C⟩
  rw[if_neg hlo]
  refine wpS_bind (count_ok hO h0 (b:=arrOf st1) (pd:=pendingOf st1) (by lia) (by lia) ⟨C.perm,C.kind,C.failed,rfl,fun _ _=>rfl⟩ fun m st2 B2 m1 m2 S2=>?_)
  dsimp only
  have core:∀ st',SB kd a₀ (arrOf st1) lo (pendingOf st1) st'->Core κ kd a₀ lo st':=fun st' B=>⟨B.perm,B.kind,B.failed,by
   rw[B.pend]
   exact C.runs.congr fun k _ hk=>B.low k hk,C.le⟩
  by_cases hlt:m<mr
  ·rw[if_pos hlt]
   refine wpS_bind (wpS_lift (wpAny_rule ⟨rfl,wpS_bind (bin_ok hO h0 (by omega) (by omega) B2 S2 fun st3 B3 S3=>?_)⟩))
   refine wpS_if (fun z=>absurd z (by simp)) fun _=>?_
   have C3:=core st3 B3
   have g0:0<min (a₀.size-lo) mr:=by omega
   have g1:lo+min (a₀.size-lo) mr<=a₀.size:=by omega
   generalize min (a₀.size-lo) mr=n at S3 g0 g1 ⊢
   refine wpS_bind (wpS_get ?_)
   cases hb:(pendingOf st3).back? with
   |none =>
    dsimp only
    refine wpS_bind (wpS_modify (wpS_pure ?_))
    exact⟨lo+n,rfl,by lia,C3.push S3 g0 g1 _ rfl⟩
   |some z =>
    obtain⟨s1,n1,z3⟩:=z
    dsimp only
    generalize power' a₀.size (2 * s1+n1) (2 * s1+n1+n1+n) a₀.size=pw
    refine wpS_bind (wpS_mono (wpS_forRange (I:=fun x c st'=>c=(none,())/\Core κ kd a₀ lo st'/\SIn κ (arrOf st') lo n) (Q:=fun c st'=>c=(none,())/\Core κ kd a₀ lo st'/\SIn κ (arrOf st') lo n) ?a ?b ⟨rfl,C3,S3⟩) ?c)
    case b=>exact fun c st' h=>h
    case a =>
     rintro x' c st4 _ _ ⟨rfl,C4,S4⟩
     refine wpS_bind (wpS_get ?_)
     by_cases hs:(pendingOf st4).size > 1
     ·rw[if_pos hs]
      have hl:(pendingOf st4).size-2 <(pendingOf st4).size:=by omega
      rw[Array.getElem?_eq_getElem hl]
      generalize (pendingOf st4)[(pendingOf st4).size-2]=y
      obtain⟨y1,y2,older⟩:=y
      dsimp only
      by_cases ho:older<=pw
      ·rw[if_pos ho]
       exact wpS_pure ⟨rfl,C4,S4⟩
      ·rw[if_neg ho]
       refine wpS_bind (merge_step hO h0 C4 (by lia) fun st5 C5 _ k5=>?_)
       refine wpS_if (fun z=>absurd z (by simp)) fun _=>?_
       exact wpS_pure ⟨rfl,C5,S4.congr fun k hk _=>k5 k hk⟩
     ·rw[if_neg hs]
      exact wpS_pure ⟨rfl,C4,S4⟩
    case c =>
     rintro c st4 ⟨rfl,C4,S4⟩
     refine wpS_bind (wpS_modify (wpS_bind (wpS_modify (wpS_pure ?_))))
     exact⟨lo+n,rfl,by lia,C4.push S4 g0 g1 _ (prs_mod _ _ _)⟩
  ·rw[if_neg hlt]
   have C3:=core st2 B2
   have S3:=S2
   have g0:0<m:=m1
   have g1:lo+m<=a₀.size:=by lia
   refine wpS_bind (wpS_get ?_)
   cases hb:(pendingOf st2).back? with
   |none =>
    dsimp only
    refine wpS_bind (wpS_modify (wpS_pure ?_))
    exact⟨lo+m,rfl,by lia,C3.push S3 g0 g1 _ rfl⟩
   |some z =>
    obtain⟨s1,n1,z3⟩:=z
    dsimp only
    generalize power' a₀.size (2 * s1+n1) (2 * s1+n1+n1+m) a₀.size=pw
    refine wpS_bind (wpS_mono (wpS_forRange (I:=fun x c st'=>c=(none,())/\Core κ kd a₀ lo st'/\SIn κ (arrOf st') lo m) (Q:=fun c st'=>c=(none,())/\Core κ kd a₀ lo st'/\SIn κ (arrOf st') lo m) ?a ?b ⟨rfl,C3,S3⟩) ?c)
    case b=>exact fun c st' h=>h
    case a =>
     rintro x' c st4 _ _ ⟨rfl,C4,S4⟩
     refine wpS_bind (wpS_get ?_)
     by_cases hs:(pendingOf st4).size > 1
     ·rw[if_pos hs]
      have hl:(pendingOf st4).size-2 <(pendingOf st4).size:=by omega
      rw[Array.getElem?_eq_getElem hl]
      generalize (pendingOf st4)[(pendingOf st4).size-2]=y
      obtain⟨y1,y2,older⟩:=y
      dsimp only
      by_cases ho:older<=pw
      ·rw[if_pos ho]
       exact wpS_pure ⟨rfl,C4,S4⟩
      ·rw[if_neg ho]
       refine wpS_bind (merge_step hO h0 C4 (by omega) fun st5 C5 _ k5=>?_)
       refine wpS_if (fun z=>absurd z (by simp)) fun _=>?_
       exact wpS_pure ⟨rfl,C5,S4.congr fun k hk _=>k5 k hk⟩
     ·rw[if_neg hs]
      exact wpS_pure ⟨rfl,C4,S4⟩
    case c =>
     rintro c st4 ⟨rfl,C4,S4⟩
     refine wpS_bind (wpS_modify (wpS_bind (wpS_modify (wpS_pure ?_))))
     exact⟨lo+m,rfl,by lia,C4.push S4 g0 g1 _ (prs_mod _ _ _)⟩
 case post =>
  rintro c st1 ⟨rfl,C⟩
  dsimp only
  have l0:=C.runs.len
  rw[prs_len]at l0
  refine wpS_bind (wpS_mono (wpS_forRange (I:=fun x c st'=>c=(none,())/\Core κ kd a₀ a₀.size st'/\((pendingOf st').size+x<=a₀.size\/(pendingOf st').size<=1)) (Q:=fun c st'=>c=(none,())/\Core κ kd a₀ a₀.size st'/\(pendingOf st').size<=1) ?lstep ?lfin ⟨rfl,C,.inl (by omega)⟩) ?lpost)
  case lfin =>
   rintro c st' ⟨hc,C',z⟩
   refine⟨hc,C',?_⟩
   rcases z with z | z
   ·lia
   ·exact z
  case lpost =>
   rintro c st' ⟨rfl,C',z⟩
   refine wpS_pure (h _ C'.perm C'.failed ?_)
   have r:=C'.runs
   have e:=prs_len (pendingOf st')
   generalize prs (pendingOf st')=l at r e
   match l,r,e with
   |[],r,_=>have r:0=a₀.size:=r;lia
   |[y],r,_ =>
    obtain⟨r1,r2,r3,r4⟩:=r
    have r4:0+y.2=a₀.size:=r4
    rw[Nat.zero_add]at r4
    rw[r4]at r3
    exact r3
   | _ :: _ :: _,_,e=>simp at e;lia
  case lstep =>
   rintro x c st2 _ hx ⟨rfl,C2,z⟩
   refine wpS_bind (wpS_get ?_)
   by_cases hs:(pendingOf st2).size<=1
   ·rw[if_pos hs]
    exact wpS_pure ⟨rfl,C2,hs⟩
   ·rw[if_neg hs]
    have stp:∀ i,i+1 <(pendingOf st2).size->wpS (model prog w) A E s (mergeAt' i) (fun r st'=>r=true/\Core κ kd a₀ a₀.size st'/\(pendingOf st').size+1=(pendingOf st2).size) st2:=fun i hi=>merge_step hO h0 C2 hi fun st' C' e _=>⟨rfl,C',e⟩
    refine wpS_bind (wpS_mono (stp _ ?_) fun r st3 hr=>?_)
    ·have:∀ (c:Prop) [Decidable c],(if c then(pendingOf st2).size-2-1 else(pendingOf st2).size-2)+1 <(pendingOf st2).size:=fun c _=>by split <;> omega
     exact this _
    ·obtain⟨rfl,C3,e⟩:=hr
     refine wpS_if (fun z=>absurd z (by simp)) fun _=>?_
     refine wpS_pure ⟨rfl,C3,?_⟩
     rcases z with z | z
     ·exact .inl (by lia)
     ·exact absurd z hs
end
open PySem PySem.W PyProof.Rows
noncomputable def RawD(d:Addr)(ks:List Value)(ep:Nat)(g:Heap):Prop:=∃ ob en,g.get? d=some ob/\ob.ExactDict/\ob.data = .dict en ep/\en.toList.map (fun r=>r.key)=ks
section
variable{d it:Addr}{ks:List Value}{ep i:Nat}{g g':Heap}{prog:Program}{w:World}{A:Around}{E:Value->Shared->Prop}{s:Shared}
theorem RawD.to(x:RawD d ks ep g)(k:∀ u,g.get? d=some u->g'.get? d=some u):RawD d ks ep g':=by
 obtain⟨ob,en,a,r⟩:=x
 exact⟨ob,en,k _ a,r⟩
theorem RawD.ty(x:RawD d ks ep s.heap):s.TypeIs (.ref d) "dict":=by
 obtain⟨ob,en,a,c,r⟩:=x
 exact⟨ob,a,c.1⟩
theorem RawD.lt(x:RawD d ks ep g):d<g.objs.size:=by
 obtain⟨ob,en,a,c,r⟩:=x
 exact Heap.lt_size a
theorem rawIter{Q:Value->Shared->Prop}(nd:(d == sysModules)=false)(x:RawD d ks ep s.heap)
  (q:Q (.ref s.heap.objs.size) { s with heap:=s.heap.push { cls:=.type "dict_keyiterator",data:=.fields #[.ref d,.int 0 0,.int ks.length 0,.int ep 0] } }) :
  wpAny (model prog w) A (pyIter (.ref d)) Q E s:=by
 have ty:=x.ty
 obtain⟨ob,en,a,c,dt,ke⟩:=x
 have len:en.size=ks.length:=by rw[<- ke];simp
 refine wpAny_pyIter_slot ty F.slot_dict_iter (wpAny_call_entry F.slot_dict_iter ty F.entry_dict_iter ?_ (F.args_dict_iter_1 _))
 unfold Builtin.«dict.__iter__»;refine wpAny_bind ?_
 unfold Builtin.Dict.dictSlotNone;refine wpAny_bind (wpAny_notOrdered_dict ty ?_)
 show wpAny _ _ (pure (Value.ref d)) _ _ s;refine wpAny_pure ?_
 show wpAny _ _ (Builtin.Dict.showsAll d >>= _) _ _ s;unfold Builtin.Dict.showsAll
 rw[if_neg (fun e=>Bool.false_ne_true (nd.symm.trans e))];refine wpAny_bind (wpAny_pure (wpAny_bind (wpAny_dictEntries a dt (wpAny_bind (wpAny_dictEpoch a dt ?_)))))
 refine wpAny_bind (wpAny_newObj_type (wpAny_pure ⟨_,rfl,"dict_keyiterator",_,⟨_,Heap.get?_push_size _ rfl,rfl⟩,F.slot_dict_keyiterator_next.lookup,?_⟩));simpa[rawInt,len]using q
theorem rawItem{v:Value}{Q:Option Value->Shared->Prop}(hI:s.heap.IsKeyIter it d i ks.length ep)(x:RawD d ks ep s.heap)(hv:ks[i]?=some v)
  (q:∀ g',g'.IsKeyIter it d (i+1) ks.length ep->Heap.SameBut it s.heap g'->Q (some v) { s with heap:=g' }):wpAny (model prog w) A (pyNext (.ref it)) Q E s:=by
 obtain⟨io,a0,c0,d0⟩:=id hI
 obtain⟨ob,en,a,c,dt,ke⟩:=x
 have len:en.size=ks.length:=by rw[<- ke];simp
 unfold pyNext;refine wpAny_bind (wpAny_attempt (wpAny_callSpecial?_slot (name:=Str.ofString "__next__") hI.typeIs F.slot_dict_keyiterator_next (wpAny_call_entry F.slot_dict_keyiterator_next hI.typeIs F.entry_dict_keyiterator_next ?_ (F.args_dict_keyiterator_next_1 _))))
 refine wpAny_bind (wpAny_pure (wpAny_bind (wpAny_bind ?_)))
 first | refine wpAny_bind (wpAny_typeNameOfWhole_keyiter hI.typeIs (wpAny_pure ?_)) | refine wpAny_bind (wpAny_typeNameOf_keyiter hI.typeIs (wpAny_pure ?_))
 refine wpAny_bind (wpAny_fieldsOf a0 d0 ?_);have own:Builtin.Dict_items.ownsTuple "dict_keyiterator" = false:=by decide
 simp only[own,Bool.false_eq_true,if_false];show wpAny _ _ (if(Value.ref d == Value.none)=true then _ else _) _ _ s
 rw[if_neg (show ¬((Value.ref d == Value.none)=true)from Bool.false_ne_true)];refine wpAny_bind (wpAny_pure (wpAny_bind (wpAny_dictEntries a dt ?_)))
 rw[if_neg (by rw[len];simp)];refine wpAny_bind (wpAny_pure (wpAny_bind (wpAny_dictEpoch a dt ?_)))
 rw[if_neg (by simp)];refine wpAny_pure ?_
 have il:i<en.size:=by rw[len];exact(List.getElem?_eq_some_iff.mp hv).1
 have iv:en[i].key=v:=by
  have z:(en.toList.map (fun r=>r.key))[i]?=some en[i].key:=by rw[List.getElem?_map,Array.getElem?_toList,Array.getElem?_eq_getElem il];rfl
  rw[ke,hv]at z
  exact(Option.some.inj z).symm
 simp only[show ¬((i:Int)<0)from by lia,if_false,Int.toNat_natCast,Array.getElem?_eq_getElem il];refine wpAny_bind ?_
 first | refine wpAny_bind (wpAny_typeNameOfWhole_keyiter hI.typeIs (wpAny_pure ?_)) | refine wpAny_bind (wpAny_typeNameOf_keyiter hI.typeIs (wpAny_pure ?_))
 refine wpAny_bind (wpAny_isOneOf_keyiter hI.typeIs ?_);show wpAny _ _ (setField (.ref it) 1 (rawInt ((i:Int)+1)) >>= _) _ _ s
 refine wpAny_bind (wpAny_setField a0 d0 (by simp) ?_)
 have hI':(s.heap.update it (Obj.mapFields (·.setIfInBounds 1 (rawInt ((i:Int)+1))))).IsKeyIter it d (i+1) ks.length ep:=⟨_,Heap.get?_update_self _ a0 (Obj.isFreed_of_fields (Obj.data_mapFields d0 _)),(Obj.cls_mapFields ..).trans c0,by rw[Obj.data_mapFields d0];simp[rawInt]⟩
 refine wpAny_bind (wpAny_holding (wpAny_bind (wpAny_isOneOf_keyiter (s:={ s with heap:=s.heap.update it (Obj.mapFields (·.setIfInBounds 1 (rawInt ((i:Int)+1)))) }) hI'.typeIs ?_)))
 show wpAny _ _ (pure en[i].key) _ _ _;rw[iv]
 exact wpAny_pure (wpAny_pure ⟨_,rfl,wpAny_pure (q _ hI' (Heap.SameBut.update ..))⟩)
theorem rawEnd{Q:Option Value->Shared->Prop}(hh:A.handled=none)(hI:s.heap.IsKeyIter it d i ks.length ep)(x:RawD d ks ep s.heap)(hv:ks.length<=i)
  (q:∀ g',Heap.ExtBut it s.heap g'->Q none { s with heap:=g' }):wpAny (model prog w) A (pyNext (.ref it)) Q E s:=by
 obtain⟨io,a0,c0,d0⟩:=id hI
 obtain⟨ob,en,a,c,dt,ke⟩:=x
 have len:en.size=ks.length:=by rw[<- ke];simp
 unfold pyNext;refine wpAny_bind (wpAny_attempt (wpAny_callSpecial?_slot (name:=Str.ofString "__next__") hI.typeIs F.slot_dict_keyiterator_next (wpAny_call_entry F.slot_dict_keyiterator_next hI.typeIs F.entry_dict_keyiterator_next ?_ (F.args_dict_keyiterator_next_1 _))))
 refine wpAny_bind (wpAny_pure (wpAny_bind (wpAny_bind ?_)))
 first | refine wpAny_bind (wpAny_typeNameOfWhole_keyiter hI.typeIs (wpAny_pure ?_)) | refine wpAny_bind (wpAny_typeNameOf_keyiter hI.typeIs (wpAny_pure ?_))
 refine wpAny_bind (wpAny_fieldsOf a0 d0 ?_);have own:Builtin.Dict_items.ownsTuple "dict_keyiterator" = false:=by decide
 simp only[own,Bool.false_eq_true,if_false];show wpAny _ _ (if(Value.ref d == Value.none)=true then _ else _) _ _ s
 rw[if_neg (show ¬((Value.ref d == Value.none)=true)from Bool.false_ne_true)];refine wpAny_bind (wpAny_pure (wpAny_bind (wpAny_dictEntries a dt ?_)))
 rw[if_neg (by rw[len];simp)];refine wpAny_bind (wpAny_pure (wpAny_bind (wpAny_dictEpoch a dt ?_)))
 rw[if_neg (by simp)];refine wpAny_pure ?_
 have il:en.size<=i:=by rw[len];exact hv
 simp only[show ¬((i:Int)<0)from by lia,if_false,Int.toNat_natCast,Array.getElem?_eq_none il];refine wpAny_bind ?_
 first | refine wpAny_bind (wpAny_typeNameOfWhole_keyiter hI.typeIs (wpAny_pure ?_)) | refine wpAny_bind (wpAny_typeNameOf_keyiter hI.typeIs (wpAny_pure ?_))
 show wpAny _ _ (setField (.ref it) 0 .none >>= _) _ _ s;refine wpAny_bind (wpAny_setField a0 d0 (by simp) ?_)
 show wpAny _ _ (newExc (.type "StopIteration") [] >>= _) _ _ _;refine wpAny_bind ?_
 simp only[newExc,newTuple];refine wpAny_bind (wpAny_newObj_type ?_ (by size_fits))
 refine wpAny_bind (m:=firstArgMember _ _) (wpAny_of_eq (a:=Value.none) (by first | rfl |(simp only[firstArgMember];rfl)) (wpAny_newObj_type ?_ (by size_fits)))
 simp only[raiseNew];refine wpAny_bind (wpAny_handled ?_)
 rw[show A.in1.handled=none from hh];refine wpAny_bind (wpAny_pure (wpAny_throw ?_))
 refine wpAny_bind (wpAny_isInstance (T:="StopIteration") (b:=true) ⟨_,Heap.get?_push_size _ rfl,rfl⟩ isSubtype_stop ?_)
 exact wpAny_pure (q _ (((Heap.SameBut.update ..).extBut.push _).push _))
theorem rawWalks(hh:A.handled=none)(I d:Addr)(ne:d≠I)(ks:List Value)(ep:Nat) :
  Walks prog w A I [I,d] [I] ks.length (fun i v=>ks[i]?=some v) (fun i g=>g.IsKeyIter I d i ks.length ep/\RawD d ks ep g)where
 sub:=fun b z=>by simp at z;simp[z]
 frame:=fun _ _ _ st k=>⟨st.1.at fun o e=>k I (by simp) o e,st.2.to fun o e=>k d (by simp) o e⟩
 item:=fun i s Q E hi st hQ=>by
  obtain⟨v,hx⟩:∃ p,ks[i]?=some p:=⟨ks[i],by simp[hi]⟩
  refine rawItem st.1 st.2 hx fun g' it' sb=>?_
  exact hQ v g' s.toks hx ⟨it',st.2.to fun o e=>sb.extBut d o ne e⟩ fun b o z e=>sb.extBut b o (fun h=>z (by simp[h])) e
 done:=fun s Q E st hQ=>rawEnd hh st.1 st.2 (Nat.le_refl _) fun g' e'=>hQ g' s.toks fun b o z e=>e' b o (fun h=>z (by simp[h])) e
 self:=fun _ _ _ _ st hQ=>wpAny_pyIter_keyiter st.1 hQ
theorem rawSrc(nd:(d == sysModules)=false):KdlSrc prog w "dict" d d ks.length (fun i v=>ks[i]?=some v) (RawD d ks ep)where
 type:=fun _ x=>x.ty
 there:=fun _ x=>⟨x.lt,x.lt⟩
 keep:=fun _ _ x k=>x.to fun o e=>k d (.inl rfl) o e
 notList:=by decide
 notTuple:=by decide
 hint:=fun _ _ _ _ x q=>kdl_hint_dict x.ty q
 iter:=fun _ _ hh x=>⟨_,_,(fun _ _ q=>rawIter nd x q),rawWalks hh _ d (Nat.ne_of_lt x.lt) ks ep,⟨⟨_,Heap.get?_push_size _ rfl,rfl,rfl⟩,x.to fun o e=>Heap.get?_push_of_some _ e⟩⟩
end
open PySem PySem.W PyProof.Rows
noncomputable def lexlt:List Int->List Int->Bool
 | _,[]=>false
 |[],_ :: _=>true
 |a :: x,b :: y=>decide (a<b) ||(decide (a=b) && lexlt x y)
theorem lexlt_irrefl:∀ x,lexlt x x=false
 |[]=>rfl
 |a :: x=>by simp[lexlt,lexlt_irrefl x]
theorem lexlt_trans:∀ x y z,lexlt x y=true->lexlt y z=true->lexlt x z=true
 | _,_,[],_,h=>by simp[lexlt]at h
 | _,[],_ :: _,h,_=>by simp[lexlt]at h
 |[],_ :: _,_ :: _,_,_=>rfl
 |a :: x,b :: y,c :: z,h,k=>by
  simp only[lexlt,Bool.or_eq_true,Bool.and_eq_true,decide_eq_true_eq]at h k ⊢
  rcases h with h |⟨h,h'⟩ <;> rcases k with k |⟨k,k'⟩
  ·left;lia
  ·left;lia
  ·left;lia
  ·right;exact⟨by lia,lexlt_trans x y z h' k'⟩
theorem lexlt_neg:∀ x y z,lexlt x z=true->lexlt x y=true\/lexlt y z=true
 | _,_,[],h=>by simp[lexlt]at h
 | _,[],_ :: _,_=>.inr rfl
 |[],_ :: _,_ :: _,_=>.inl rfl
 |a :: x,b :: y,c :: z,h=>by
  simp only[lexlt,Bool.or_eq_true,Bool.and_eq_true,decide_eq_true_eq]at h ⊢
  rcases h with h |⟨h,h'⟩
  ·by_cases e:a<b
   ·exact .inl (.inl e)
   ·exact .inr (.inl (by lia))
  ·rcases lexlt_neg x y z h' with q | q
   ·by_cases e:a<b
    ·exact .inl (.inl e)
    ·by_cases e':a=b
     ·exact .inl (.inr ⟨e',q⟩)
     ·exact .inr (.inl (by lia))
   ·by_cases e:a<b
    ·exact .inl (.inl e)
    ·by_cases e':b=c
     ·exact .inr (.inr ⟨e',q⟩)
     ·exact .inr (.inl (by lia))
theorem lexlt_total:∀ x y,lexlt x y=false->lexlt y x=false->x=y
 |[],[],_,_=>rfl
 |[],_ :: _,h,_=>by simp[lexlt]at h
 | _ :: _,[],_,h=>by simp[lexlt]at h
 |a :: x,b :: y,h,k=>by
  simp only[lexlt,Bool.or_eq_false_iff,Bool.and_eq_false_iff,decide_eq_false_iff_not]at h k
  have e:a=b:=by lia
  subst e
  rw[lexlt_total x y (by simpa using h.2) (by simpa using k.2)]
noncomputable abbrev IntsV(ns:List Int)(us:List Value):Prop:=Paired (fun(i:Int) (u:Value)=>∃ t,u=Value.int i t) ns us
theorem IntsV.inj:∀ {ns ms:List Int}{us:List Value},IntsV ns us->IntsV ms us->ns=ms:=by
 intro ns ms us h
 induction h generalizing ms with
 |nil=>intro h';cases h';rfl
 |cons h r ih =>
  intro h'
  cases h' with
  |cons h2 r' =>
   obtain⟨t,e⟩:=h
   obtain⟨t',e'⟩:=h2
   rw[e]at e'
   cases e'
   rw[ih r']
noncomputable def TupI(g:Heap)(v:Value)(ns:List Int):Prop:=∃ a ob its n,v=Value.ref a/\g.get? a=some ob/\ob.cls = .type "tuple"/\ob.data = .seq its n/\IntsV ns its.toList
theorem TupI.inj{g:Heap}{v:Value}{ns ms:List Int}(x:TupI g v ns)(y:TupI g v ms):ns=ms:=by
 obtain⟨a,ob,its,n,rfl,e,_,d,p⟩:=x
 obtain⟨a',ob',its',n',e',q,_,d',p'⟩:=y
 cases e'
 rw[e]at q
 cases q
 rw[d]at d'
 cases d'
 exact p.inj p'
theorem TupI.to{g g':Heap}{v:Value}{ns:List Int}(x:TupI g v ns)(k:∀ b u,v = .ref b->g.get? b=some u->g'.get? b=some u):TupI g' v ns:=by
 obtain⟨a,ob,its,n,rfl,e,r⟩:=x
 exact⟨a,ob,its,n,rfl,k a ob rfl e,r⟩
open Classical in
noncomputable def κT(g:Heap):KeyKind where
 α:=List Int
 blt:=lexlt
 irrefl:=lexlt_irrefl
 trans:=lexlt_trans
 negTrans:=lexlt_neg
 total:=lexlt_total
 keyOf v:=if h:∃ ns,TupI g v ns then some h.choose else none
 dflt:=[]
open Classical in
theorem κT_key{g:Heap}{v:Value}{ns:List Int}(x:TupI g v ns):(κT g).keyOf v=some ns:=by
 have h:∃ ns,TupI g v ns:=⟨ns,x⟩
 show(if h:∃ ns,TupI g v ns then some h.choose else none)=some ns
 rw[dif_pos h,h.choose_spec.inj x]
open Classical in
theorem κT_of{g:Heap}{v:Value}{ns:List Int}(e:(κT g).keyOf v=some ns):TupI g v ns:=by
 have e':(if h:∃ ns,TupI g v ns then some h.choose else none)=some ns:=e
 by_cases h:∃ ns,TupI g v ns
 ·rw[dif_pos h]at e'
  rw[<- Option.some.inj e']
  exact h.choose_spec
 ·rw[dif_neg h]at e'
  cases e'
section
variable{prog:Program}{w:World}{A:Around}{E:Value->Shared->Prop}{s:Shared}
theorem lex_ok{b fin:Bool}{Q:Bool->Shared->Prop}:∀ {ns ms:List Int}{us vs:List Value} (i:Nat),IntsV ns us->IntsV ms vs->fin=decide (ns.length<ms.length)->Q (lexlt ns ms) s->KatLex prog w A b fin Q (us.zip vs) i s:=by
 intro ns ms us vs i h
 induction h generalizing ms vs i with
 |nil =>
  intro h' e q
  rw[e]
  cases h' with
  |nil=>exact kat_nil q
  |cons _ _=>exact kat_nil (show Q (decide (0<_+1)) s by simpa[lexlt]using q)
 | @cons n u ns us h r ih =>
  intro h' e q
  cases h' with
  |nil=>rw[e];exact kat_nil (by simpa[lexlt]using q)
  | @cons m v ms vs h2 r' =>
   obtain⟨t,e1⟩:=h
   obtain⟨t',e2⟩:=h2
   subst e1 e2
   refine kat_cons (wpAny_eqBool_int (kat_go (fun z=>kat_yes ?_) fun z=>kat_no ?_))
   ·have z':n=m:=by simpa using z
    refine ih (i+1) r' (by rw[e];simp) ?_
    have l:lexlt (n :: ns) (m :: ms)=lexlt ns ms:=by simp[lexlt,z']
    rw[<- l]
    exact q
   ·have z':n≠m:=by simpa using z
    have l:lexlt (n :: ns) (m :: ms)=decide (n<m):=by simp[lexlt,z']
    rw[l]at q
    cases hb:(b && i == 0)with
    |true=>exact oneLt_int q
    |false=>exact kat_one _ _ (lt_int q)
theorem ltT_ok{h₁:Heap}{b:Bool}(kp:∀ v ns,TupI h₁ v ns->TupI s.heap v ns):LtOk (κT h₁) (tuples' b) prog w A s:=by
 intro E x y ka kb Q st hk ha hb q
 obtain⟨a,ob,its,n,e1,g1,_,d1,p1⟩:=kp _ _ (κT_of ha)
 obtain⟨a',ob',its',n',e2,g2,_,d2,p2⟩:=kp _ _ (κT_of hb)
 rw[lt'_eq]
 refine wpS_bind (wpS_get ?_)
 rw[hk,e1,e2]
 have l1:ka.length=its.size:=by rw[p1.length];simp
 have l2:kb.length=its'.size:=by rw[p2.length];simp
 refine wpS_bind (wpS_lift (wpAny_attempt (kat_lt g1 d1 g2 d2 (lex_ok (ns:=ka) (ms:=kb) 0 p1 p2 (by rw[l1,l2]) ⟨rfl,?_⟩))))
 exact wpS_pure q
theorem map2_pairs:∀ {l:List Keyed},(∀ p∈l,p.1=p.2)->(l.map (·.2)).zip (l.map (·.2))=l
 |[],_=>rfl
 |p :: l,h=>by
  have e:p.1=p.2:=h p (List.mem_cons_self ..)
  show(p.2,p.2) :: (l.map (·.2)).zip (l.map (·.2))=_
  rw[map2_pairs fun q hq=>h q (List.mem_cons_of_mem _ hq)]
  congr 1
  exact Prod.ext e.symm rfl
theorem mem_zip_self:∀ {l:List Value}{p:Keyed},p∈l.zip l->p.1=p.2/\p.2∈l
 |[],p,h=>by simp at h
 |v :: l,p,h=>by
  rcases List.mem_cons.mp (show p∈(v,v) :: l.zip l from h)with e | e
  ·rw[e];exact⟨rfl,List.mem_cons_self ..⟩
  ·exact⟨(mem_zip_self e).1,List.mem_cons_of_mem _ (mem_zip_self e).2⟩
theorem map2_zip:∀ {l:List Value},(l.zip l).map (·.2)=l
 |[]=>rfl
 |v :: l=>by show v :: (l.zip l).map (·.2)=_;rw[map2_zip]
theorem back_pairs{xs:Array Keyed}{vs:List Value}(hp:xs.Perm (pairsOf vs)):xs=pairsOf (xs.toList.map (·.2))/\(xs.toList.map (·.2)).Perm vs:=by
 have hp':xs.toList.Perm (vs.zip vs):=by
  have:=Array.perm_iff_toList_perm.mp hp
  rw[pairsOf_toList]at this
  exact this
 refine⟨?_,?_⟩
 ·apply Array.ext'
  rw[pairsOf_toList,map2_pairs fun p hq=>(mem_zip_self (hp'.mem_iff.mp hq)).1]
 ·have:=hp'.map (·.2)
  rw[map2_zip]at this
  exact this
theorem sort_gen{κ:KeyKind}{kd:SortKind}{a:Addr}{vs:List Value}{n:Nat}{P:Fin->Shared->Prop}(ho:s.heap.get? a=some (seqObj "list" vs.toArray n))(h0:KeysOf κ (pairsOf vs))(hl:vs.length<5000)
  (hk:2<=vs.length->∀ g:Heap,(∀ b u,b≠a->s.heap.get? b=some u->g.get? b=some u)->LtOk κ kd prog w A { s with heap:=g }/\∀ R:SortKind->Shared->Prop,R kd { s with heap:=g }->wpAny (model prog w) A (keyKind' vs.toArray) R E { s with heap:=g })
  (h:∀ (ws:List Value) (g:Heap) (c:Nat),ws.Perm vs->SortedToK κ (pairsOf ws) ws.length->(∀ b u,b≠a->s.heap.get? b=some u->g.get? b=some u)->g.get? a=some (seqObj "list" ws.toArray c)->P (.done (.ret .none)) { s with heap:=g }) :
  wpAny (model prog w) A (Builtin.«list.sort» ⟨[.ref a],[]⟩) P E s:=by
 have lt0:a<s.heap.objs.size:=Heap.lt_size ho
 have k1:∀ b u,b≠a->s.heap.get? b=some u->(s.heap.update a (Obj.mapSeq fun _=>#[])).get? b=some u:=fun b u ne e=>by rw[Heap.get?_update_ne _ _ _ _ ne];exact e
 obtain⟨c1,g1⟩:∃ c1,(s.heap.update a (Obj.mapSeq fun _=>#[])).get? a=some (seqObj "list" #[] c1):=⟨_,get?_update_seq ho _⟩
 generalize hg1:s.heap.update a (Obj.mapSeq fun _=>#[])=G1 at k1 g1
 have k2:∀ b u,b≠a->s.heap.get? b=some u->((G1.push (seqObj "tuple" vs.toArray 0)).push (seqObj "list" #[] 0)).get? b=some u:=fun b u ne e=>Heap.get?_push_of_some _ (Heap.get?_push_of_some _ (k1 b u ne e))
 have g2:((G1.push (seqObj "tuple" vs.toArray 0)).push (seqObj "list" #[] 0)).get? a=some (seqObj "list" #[] c1):=Heap.get?_push_of_some _ (Heap.get?_push_of_some _ g1)
 rw[list_sort_plain]
 refine wpAny_bind (listItems_at ho rfl (wpAny_bind (listUpdate_at ho rfl ?_ (hsz:=by rw[List.size_toArray,sizeLine_eq];lia))))
 rw[hg1]
 refine wpAny_bind (seqEpoch_at g1 rfl (wpAny_bind (wpAny_newTuple ?_ (by show vs.length<=_;rw[sizeLine_eq];lia))))
 refine wpAny_bind (wpAny_newList (wpAny_holding ?_))
 show wpAny (model prog w) A _ P E { s with heap:=(G1.push (seqObj "tuple" vs.toArray 0)).push (seqObj "list" #[] 0) }
 generalize (G1.push (seqObj "tuple" vs.toArray 0)).push (seqObj "list" #[] 0)=G2 at k2 g2
 dsimp only
 have fin:∀ st':SortSt,(arrOf st').Perm (pairsOf vs)->SortedToK κ (arrOf st') (pairsOf vs).size->P (.done (.ret .none)) { s with heap:=G2.update a (Obj.mapSeq fun _=>(arrOf st').map (·.2)) }:=fun st' hp hs=>by
  obtain⟨e,p⟩:=back_pairs hp
  obtain⟨c3,g3⟩:∃ c3,(G2.update a (Obj.mapSeq fun _=>(arrOf st').map (·.2))).get? a=some (seqObj "list" ((arrOf st').map (·.2)) c3):=⟨_,get?_update_seq g2 _⟩
  refine h ((arrOf st').toList.map (·.2)) _ c3 p ?_ (fun b u ne z=>by rw[Heap.get?_update_ne _ _ _ _ ne];exact k2 b u ne z) ?_
  ·rw[<- e]
   have l2:(pairsOf vs).size=((arrOf st').toList.map (·.2)).length:=by rw[pairsOf_size,p.length_eq]
   rw[<- l2]
   exact hs
  ·rw[g3]
   congr 2
   apply Array.ext'
   simp
 by_cases h2:vs.toArray.size<2
 ·rw[if_pos h2,if_pos h2]
  refine wpAny_bind (wpAny_pure ?_)
  rw[StateT.run_pure]
  refine wpAny_bind (wpAny_pure ?_)
  dsimp only
  refine wpAny_bind (seqEpoch_at g2 rfl (wpAny_bind (listUpdate_at g2 rfl ?_ (hsz2:=by rw[Array.size_map];show(pairsOf vs).size<=_;rw[pairsOf_size,sizeLine_eq];lia))))
  simp only[bne_self_eq_false,Bool.false_eq_true,if_false]
  refine wpAny_pure (fin (SortSt.mk' general' (vs.toArray.zip vs.toArray) #[] 7 none) (Array.Perm.refl _) fun i j ij jl=>?_)
  have e:i=j:=by
   rw[pairsOf_size]at jl
   simp only[List.size_toArray]at h2
   lia
  rw[e]
  exact KeyOrd.kle_refl _
 ·have h2':2<=vs.length:=by simpa using h2
  obtain⟨lo,kk⟩:=hk h2' G2 k2
  rw[if_neg h2,if_neg h2]
  refine wpAny_bind (kk _ ?_)
  refine wpAny_bind (wpAny_mono (runs_ok (κ:=κ) (kd:=kd) (a₀:=pairsOf vs) (st:=SortSt.mk' kd (vs.toArray.zip vs.toArray) #[] 7 none) (Q:=fun _ st'=>(arrOf st').Perm (pairsOf vs)/\failedOf st'=none/\SortedToK κ (arrOf st') (pairsOf vs).size)
   lo h0 ⟨Array.Perm.refl _,rfl,rfl,rfl,fun k z=>absurd z (Nat.not_lt_zero _)⟩ (by rw[pairsOf_size];exact h2') fun st' a1 a2 a3=>⟨a1,a2,fun i j ij jl=>by
    have:=a3 i j ij jl
    rw[Nat.zero_add,Nat.zero_add]at this
    exact this⟩) ?_ fun _ _ e=>e)
  rintro⟨⟨⟩,st'⟩ s' ⟨rfl,hp,hf,hs⟩
  dsimp only
  refine wpAny_bind (seqEpoch_at g2 rfl (wpAny_bind (listUpdate_at g2 rfl ?_ (hsz2:=by refine Nat.le_trans (Nat.le_of_eq ((Array.size_map ..).trans (hp.size_eq.trans (pairsOf_size _)))) ?_;rw[sizeLine_eq];lia))))
  rw[hf]
  simp only[bne_self_eq_false,Bool.false_eq_true,if_false]
  exact wpAny_pure (fin st' hp hs)
theorem sort_at{κ:KeyKind}{kd:SortKind}{a:Addr}{vs:List Value}{n:Nat}{P:Fin->Shared->Prop}(ho:s.heap.get? a=some (seqObj "list" vs.toArray n))(h0:KeysOf κ (pairsOf vs))(hl:vs.length<128)
  (hk:2<=vs.length->∀ g:Heap,(∀ b u,b≠a->s.heap.get? b=some u->g.get? b=some u)->LtOk κ kd prog w A { s with heap:=g }/\∀ R:SortKind->Shared->Prop,R kd { s with heap:=g }->wpAny (model prog w) A (keyKind' vs.toArray) R E { s with heap:=g })
  (h:∀ (ws:List Value) (g:Heap) (c:Nat),ws.Perm vs->SortedToK κ (pairsOf ws) ws.length->(∀ b u,b≠a->s.heap.get? b=some u->g.get? b=some u)->g.get? a=some (seqObj "list" ws.toArray c)->P (.done (.ret .none)) { s with heap:=g }) :
  wpAny (model prog w) A (Builtin.«list.sort» ⟨[.ref a],[]⟩) P E s:=sort_gen ho h0 (Nat.lt_of_lt_of_le hl (by decide)) hk h
end
end Srt
namespace L2
open PySem PySem.W PyProof.Rows Srt
theorem intsV_of:∀ {ns:List Int}{us:List Value},Vals (ns.map V.int) us->IntsV ns us
 |[],_,.nil=>.nil
 |n :: ns,_,.cons r t=>.cons r (intsV_of t)
noncomputable def keyA(g:Heap)(a:Addr):List Int:=(show Option (List Int)from(κT g).keyOf (.ref a)).getD []
theorem keyA_eq{g:Heap}{a:Addr}{k:List Int}(x:TupI g (.ref a) k):keyA g a=k:=by
 unfold keyA
 rw[κT_key x]
 rfl
noncomputable def unref:Value->Addr
 | .ref a=>a
 | _=>(0:Nat)
section
variable{X:Cx}{pins:List (Addr×Obj)}{σ:St}{H:Hp}{s:Shared}
theorem tupI_of(I:Inv X pins σ H s){a:Addr}{ns:List Int}(h:H a=some (.tup (ns.map V.int))):TupI s.heap (.ref a) ns:=by
 obtain⟨its,r,⟨o,e,c,n,d⟩,_⟩:=I.tuple (SqT.of h)
 exact⟨a,o,_,n,rfl,e,c,d,intsV_of r⟩
theorem looks_int{M:Model}{h:Heap}{i:Int}{t:Tok}:Looks M h (typeOf (.int i t)) (Value.type "int"):=Looks.now
theorem tups_of{g:Heap}:∀ {as:List Addr}{ks:List (List Int)},Paired (fun a k=>TupI g (.ref a) k/\k≠[]) as ks->∃ fs:List Value,KatTups g (as.map .ref) fs/\fs.length=as.length/\∀ v∈fs,∃ i t,v=Value.int i t:=by
 intro as ks h
 induction h with
 |nil=>exact⟨[],trivial,rfl,fun _ h=>nomatch h⟩
 | @cons a k as ks h r ih =>
  obtain⟨⟨a',o,its,n,e,g1,c,d,p⟩,ne⟩:=h
  cases e
  obtain⟨fs,t,l,z⟩:=ih
  cases k with
  |nil=>exact absurd rfl ne
  |cons i k =>
   obtain⟨il⟩:=its
   cases p with
   |cons r1 r2 =>
    obtain⟨tk,rfl⟩:=r1
    refine⟨_ :: fs,KatTups.cons g1 c d rfl t,by simp[l],fun v hv=>?_⟩
    rcases List.mem_cons.mp hv with e | e
    ·exact⟨i,tk,e⟩
    ·exact z v e
theorem sort_new{L:Addr}{A:Around}{E:Value->Shared->Prop}{as:List Addr}{ks:List (List Int)}{P:Fin->Shared->Prop}(ho:s.heap.get? L=some (seqObj "list" (as.map Value.ref).toArray 0))(hT:Paired (fun a k=>TupI s.heap (.ref a) k/\k≠[]) as ks)(hl:as.length<128)
  (h:∀ (bs:List Addr) (ns:List (List Int)) (g:Heap) (c:Nat),bs.Perm as->ns.Perm ks->ns.Pairwise (fun x y=>lexlt y x=false)->Paired (fun a k=>TupI s.heap (.ref a) k) bs ns->(∀ b u,b≠L->s.heap.get? b=some u->g.get? b=some u)->g.get? L=some (seqObj "list" (bs.map Value.ref).toArray c) ->
   P (.done (.ret .none)) { s with heap:=g }):wpAny (model X.prog X.w) A (Builtin.«list.sort» ⟨[.ref L],[]⟩) P E s:=by
 have neL:∀ v ns,TupI s.heap v ns->v≠.ref L:=fun v ns x e=>by
  obtain⟨a,o,its,n,rfl,g1,c,_⟩:=x
  cases e
  rw[ho]at g1
  cases g1
  exact absurd (show Value.type "list" = Value.type "tuple" from c) (by decide)
 have lenk:as.length=ks.length:=hT.length
 have kp:∀ g:Heap,(∀ b u,b≠L->s.heap.get? b=some u->g.get? b=some u)->∀ v ns,TupI s.heap v ns->TupI g v ns:=fun g k v ns x=>x.to fun b u e z=>k b u (fun q=>neL v ns x (by rw[e,q])) z
 have memk:∀ v∈as.map Value.ref,∃ k,TupI s.heap v k:=fun v hv=>by
  obtain⟨a,ha,rfl⟩:=List.mem_map.mp hv
  clear h ho neL kp hl lenk hv
  induction hT with
  |nil=>cases ha
  |cons r _ ih =>
   rcases List.mem_cons.mp ha with e | e
   ·rw[e];exact⟨_,r.1⟩
   ·exact ih e
 refine sort_at (κ:=κT s.heap) (kd:=tuples' true) ho (fun p hp=>?_) (by rw[List.length_map];exact hl) (fun l2 g k=>⟨ltT_ok (kp g k),fun R hR=>?_⟩) fun ws g c pw sw k gL=>?_
 ·rw[pairsOf_toList]at hp
  obtain⟨e1,e2⟩:=Srt.mem_zip_self hp
  obtain⟨kk,x⟩:=memk p.2 e2
  rw[e1]
  exact⟨kk,κT_key x⟩
 ·have hT':Paired (fun a k=>TupI g (.ref a) k/\k≠[]) as ks:=Paired.mapP hT fun a b z=>⟨kp g k _ _ z.1,z.2⟩
  obtain⟨fs,t,l,z⟩:=tups_of hT'
  by_cases e0:fs=[]
  ·rw[e0]at l
   rw[List.length_map]at l2
   simp at l
   lia
  ·refine kat_kind (T:=Value.type "int") t (List.length_pos_iff.mpr e0) (fun v hv=>?_) (by decide) ?_
   ·obtain⟨i,tk,rfl⟩:=z v hv
    exact looks_int
   ·have e:(Value.type "int" != Value.type "tuple")=true:=by decide
    rw[e]
    exact hR
 ·-- the values are refs again,the keys a permutation
  have unr:∀ l:List Value,(∀ v∈l,∃ a,v=Value.ref a)->(l.map unref).map Value.ref=l:=fun l hl=>by
   induction l with
   |nil=>rfl
   |cons v l ih =>
    obtain⟨a,rfl⟩:=hl v (List.mem_cons_self ..)
    rw[List.map_cons,List.map_cons,ih fun v hv=>hl v (List.mem_cons_of_mem _ hv)]
    rfl
  have eb:(ws.map unref).map Value.ref=ws:=unr ws fun v hv=>by
   obtain⟨a,_,rfl⟩:=List.mem_map.mp (pw.mem_iff.mp hv)
   exact⟨a,rfl⟩
  have pb:(ws.map unref).Perm as:=by
   have:=pw.map unref
   rw[List.map_map]at this
   have e:(as.map (unref ∘ Value.ref))=as:=by
    rw[show(unref ∘ Value.ref)=id from rfl,List.map_id]
   rw[e]at this
   exact this
  generalize ws.map unref=bs at eb pb
  subst eb
  have ek:ks=as.map (keyA s.heap):=by
   clear h ho neL kp hl lenk memk pw sw pb
   induction hT with
   |nil=>rfl
   |cons r _ ih=>rw[List.map_cons,keyA_eq r.1,<- ih]
  have kb:∀ b∈bs,TupI s.heap (.ref b) (keyA s.heap b):=fun b hb=>by
   obtain⟨k,x⟩:=memk (.ref b) (List.mem_map.mpr ⟨b,pb.mem_iff.mp hb,rfl⟩)
   rw[keyA_eq x]
   exact x
  refine h bs (bs.map (keyA s.heap)) g c pb (by rw[ek];exact pb.map _) ?_ ?_ k gL
  ·rw[List.pairwise_iff_getElem]
   intro i j hi hj ij
   rw[List.length_map]at hi hj
   have z:=sw i j (Nat.le_of_lt ij) (by rw[List.length_map];exact hj)
   have kk:∀ m (hm:m<bs.length),KK (κT s.heap) (pairsOf (bs.map Value.ref)) m=keyA s.heap bs[m]:=fun m hm=>by
    have e:(pairsOf (bs.map Value.ref))[m]?=some (Value.ref bs[m],Value.ref bs[m]):=by simp[pairsOf,hm]
    unfold KK
    rw[e]
    rfl
   rw[kk i hi,kk j hj]at z
   rw[List.getElem_map,List.getElem_map]
   exact z
  ·clear h ho neL kp hl lenk memk pw sw pb gL
   induction bs with
   |nil=>exact .nil
   |cons b bs ih=>exact .cons (kb b (List.mem_cons_self ..)) (ih fun b hb=>kb b (List.mem_cons_of_mem _ hb))
theorem call_sortedD(hc:X.calm=true):CallR X (.builtin "sorted") (fun xs H Q=>∃ d kvs ks,xs=[V.ref d]/\H d=some (.dT kvs)/\kvs.map (·.1)=List.map (List.map Sum.inl) ks/\(∀ k∈ks,k≠[])/\kvs.length<128 /\
  ∀ (l:Addr) (as:List Addr) (ns:List (List Int)),H l=none->ns.Perm ks->ns.Pairwise (fun x y=>lexlt y x=false)->Paired (fun a n=>H a=some (.tup (n.map V.int))) as ns->Q (.ref l) (upd H l (.lst (as.map V.ref)))):=by
 intro pins s σ H xs us Q I r h
 obtain⟨d,kvs,ks,rfl,hd,hks,hne,hlen,q⟩:=h
 obtain⟨u,rfl,rx⟩:=vals1 r
 cases rx
 obtain⟨z,nsys,xs,pr,o,es,ep,go,ex,dt,ee,nd⟩:=I.hok d _ hd
 have hpl:xs.length=kvs.length:=pr.length.symm
 have hT:Paired (fun a k=>(H a=some (.tup (k.map V.int))/\k≠[])) (xs.map fun q=>q.2.1) ks:=by
  clear q hd hlen z nd go ex dt ee hpl
  induction pr generalizing ks with
  |nil =>
   cases ks with
   |nil=>exact .nil
   |cons _ _=>simp at hks
  | @cons p x l1 l2 r1 r2 ih =>
   cases ks with
   |nil=>simp at hks
   |cons k ks =>
    simp only[List.map_cons,List.cons.injEq]at hks
    refine .cons ⟨?_,hne k (List.mem_cons_self ..)⟩ (ih ks hks.2 fun k hk=>hne k (List.mem_cons_of_mem _ hk))
    rw[r1.2.1,hks.1,List.map_map]
    rfl
 have raw:RawD d (xs.map fun q=>Value.ref q.2.1) ep s.heap:=⟨o,es,go,ex,dt,by rw[ee,List.map_map];rfl⟩
 refine Calls.call_function_entry kind_sorted plain_sorted entry_sorted (args_sorted1 _) ?_
 unfold Builtin.«sorted»
 refine wpAny_bind (m:=checkCount "sorted" 1 1 _) (wpAny_pure (wpAny_bind (kdu_collect (A:=X.A.in1) (rawSrc nsys) (show X.A.handled=none from I.ok.hd hc) raw (by rw[List.length_map,hpl,sizeLine_eq];lia) fun h' tk acc kp hacc=>?_)))
 have eacc:acc.toList=(xs.map fun q=>q.2.1).map Value.ref:=by
  apply List.ext_getElem?
  intro i
  by_cases hi:i<acc.size
  ·have e1:acc.toList[i]?=some acc[i]:=by rw[Array.getElem?_toList,Array.getElem?_eq_getElem hi]
   have e2:=hacc.2 i acc[i] (Array.getElem?_eq_getElem hi)
   rw[e1,List.map_map]
   exact e2.symm
  ·have l0:=hacc.1
   rw[List.length_map]at l0
   rw[List.getElem?_eq_none (by rw[Array.length_toList];omega),List.getElem?_eq_none (by rw[List.length_map,List.length_map];lia)]
 rw[eacc]
 generalize exs:(xs.map fun q=>q.2.1)=as0 at hT
 have las:as0.length<128:=by rw[<- exs,List.length_map];lia
 refine wpAny_bind (wpAny_newList ?_ (by rw[List.length_map,sizeLine_eq];lia))
 have gL:(h'.push (seqObj "list" (as0.map Value.ref).toArray 0)).get? h'.objs.size=some (seqObj "list" (as0.map Value.ref).toArray 0):=Heap.get?_push_size _ rfl
 have I1:Inv X pins σ H { s with heap:=h',toks:=tk }:=I.kept kp
 have kp2:∀ b u,h'.get? b=some u->(h'.push (seqObj "list" (as0.map Value.ref).toArray 0)).get? b=some u:=fun b u e=>Heap.get?_push_of_some _ e
 have tT:Paired (fun a k=>TupI (h'.push (seqObj "list" (as0.map Value.ref).toArray 0)) (.ref a) k/\k≠[]) as0 ks:=Paired.mapP hT fun a k z=>⟨(tupI_of I1 z.1).to fun b u _ e=>kp2 b u e,z.2⟩
 have memH:∀ a∈as0,∃ k:List Int,H a=some (.tup (k.map V.int)):=fun a ha=>by
  clear q exs eacc raw gL tT kp2 las hks hne hlen
  induction hT with
  |nil=>cases ha
  |cons r _ ih =>
   rcases List.mem_cons.mp ha with e | e
   ·rw[e];exact⟨_,r.1⟩
   ·exact ih e
 refine wpAny_bind (wpAny_holding (wpAny_call_entry slot_list_sort ⟨_,gL,rfl⟩ entry_list_sort (sort_new (X:=X) (s:={ s with heap:=h'.push (seqObj "list" (as0.map Value.ref).toArray 0),toks:=tk }) gL tT las fun bs ns g c pb pn pw pt kp3 gg=>⟨_,rfl,?_⟩) (args_list_sort _)))
 refine wpAny_pure ⟨_,rfl,.ref h'.objs.size,_,I1.laid (t':=tk) (a:=h'.objs.size) (o:=.lst (bs.map V.ref)) (fun b u e=>kp3 b u (Nat.ne_of_lt (Heap.lt_size e)) (kp2 b u e)) (Nat.le_refl _) (show ObjOk X.prog X.w _ g _ (.lst (bs.map V.ref))from⟨?_,bs.map Value.ref,c,?_,gg⟩),rfl,q _ bs ns (I1.hok.fresh (Nat.le_refl _)) pn pw ?_⟩
 ·rw[List.length_map,pb.length_eq,sizeLine_eq];lia
 ·clear pb pt gg
  induction bs with
  |nil=>exact .nil
  |cons b bs ih=>exact .cons rfl ih
 ·have memB:∀ a∈bs,∃ k:List Int,H a=some (.tup (k.map V.int)):=fun a ha=>memH a (pb.mem_iff.mp ha)
  clear pb gg pn pw
  induction pt with
  |nil=>exact .nil
  | @cons a k l1 l2 r1 _ ih =>
   refine .cons ?_ (ih fun a ha=>memB a (List.mem_cons_of_mem _ ha))
   obtain⟨k',e⟩:=memB a (List.mem_cons_self ..)
   rw[e,r1.inj ((tupI_of I1 e).to fun b u _ z=>kp2 b u z)]
end
open PySem PySem.W PyProof.Rows
section
variable{X:Cx}
theorem call_range(X:Cx):CallR X (.type "range") (fun xs H Q=>∃ j:Int,xs=[V.int j]/\∀ p,H p=none->Q (.ref p) (upd H p (.rng 0 j))):=by
 intro pins s σ H xs us Q I r h
 obtain⟨j,rfl,q⟩:=h
 obtain⟨u,rfl,t,rfl⟩:=vals1 r
 refine call_range_1 ⟨.ref s.heap.objs.size,_,I.laid (t':=s.toks+1+1) (a:=s.heap.objs.size) (o:=.rng 0 j) (fun b o e=>Heap.get?_push_of_some _ e) (Nat.le_refl _) ⟨_,_,_,Heap.get?_push_size _ rfl⟩,rfl,q _ (I.hok.fresh (Nat.le_refl _))⟩
noncomputable def upto(n:Nat):List Int:=(List.range n).map fun(i:Nat)=>(i:Int)
theorem upto_length(n:Nat):(upto n).length=n:=by simp[upto]
theorem call_list_rng(hc:X.calm=true):CallR X (.type "list") (fun xs H Q=>∃ p j,xs=[V.ref p]/\H p=some (.rng 0 j)/\-(2 ^ 62)<=j/\j<=1000000/\∀ l,H l=none->Q (.ref l) (upd H l (.lst ((upto j.toNat).map V.int)))):=by
 intro pins s σ H xs us Q I r h
 obtain⟨p,j,rfl,hp,h1,h2,q⟩:=h
 obtain⟨u,rfl,rx⟩:=vals1 r
 cases rx
 obtain⟨t,u,v,e⟩:=I.hok p _ hp
 have rs:Builtin.Range.rangeSize 0 j 1=((j.toNat:Nat):Int):=by rw[rangeSize_one];split <;> lia
 refine call_list_range (I.ok.hd hc) (show IsRange s.heap p 0 j 1 t u v from e) (small_one (by lia) (by lia) h1 (by lia)) rs (by lia) fun h' tk acc c kp hD hI=>?_
 refine⟨.ref s.heap.objs.size,_,I.laid (t':=tk) (a:=s.heap.objs.size) (o:=.lst ((upto j.toNat).map V.int)) kp (Nat.le_refl _) (show ObjOk X.prog X.w _ h' _ (.lst ((upto j.toNat).map V.int))from⟨?_,acc.toList,c,?_,by rw[Array.toArray_toList];exact hD⟩),rfl,q _ (I.hok.fresh (Nat.le_refl _))⟩
 ·rw[List.length_map,upto_length,sizeLine_eq];lia
 ·have len:acc.toList.length=j.toNat:=by rw[Array.length_toList];exact hI.1
  have key:∀ (n:Nat) (a:List Value) (b:Nat),a.length=n->(∀ i u,a[i]?=some u->∃ t,u=Value.int ((b+i:Nat):Int) t)->Vals (((List.range' b n).map fun(i:Nat)=>(i:Int)).map V.int) a:=by
   intro n
   induction n with
   |zero=>intro a b e _;rw[List.eq_nil_of_length_eq_zero e];exact .nil
   |succ n ih =>
    intro a b e f
    cases a with
    |nil=>simp at e
    |cons u a =>
     rw[List.range'_succ,List.map_cons,List.map_cons]
     refine .cons (f 0 u rfl) (ih a (b+1) (by simpa using e) fun i u hu=>?_)
     obtain⟨t,z⟩:=f (i+1) u (by simpa using hu)
     exact⟨t,by rw[z];congr 1;lia⟩
  have:=key j.toNat acc.toList 0 len fun i u hu=>by
   obtain⟨t,z⟩:=hI.2 i u (by rw[<- Array.getElem?_toList];exact hu)
   exact⟨t,by rw[z];congr 1;lia⟩
  rw[<- List.range_eq_range']at this
  exact this
theorem call_isinst:CallR X (.builtin "isinstance") (fun xs H Q=>∃ x t c b,xs=[x,V.ty c]/\TyOf X.K H x t/\PySem.W.kitOne X.K t (.type c)=some b/\Q (.bl b) H):=by
 intro pins s σ H xs us Q I r h
 obtain⟨x,t,c,b,rfl,ty,e,q⟩:=h
 obtain⟨u,u',rfl,rx,rc⟩:=vals2 r
 cases rc
 exact isinst_ok I rx ty e fun tk=>⟨.bl b,H,I.tok _,rfl,q⟩
end
theorem star_sub{a b:Expr}{pos:Pos}{rest:List Expr}{env:Env}:starEach (.Subscript a b pos :: rest) env=(false,eval (.Subscript a b pos) env) :: starEach rest env:=rfl
theorem star_call{f:Expr}{args:List Expr}{ks:List Keyword}{pos:Pos}{rest:List Expr}{env:Env}:starEach (.Call f args ks pos :: rest) env=(false,eval (.Call f args ks pos) env) :: starEach rest env:=rfl
theorem star_bin{a b:Expr}{op:Operator}{pos:Pos}{rest:List Expr}{env:Env}:starEach (.BinOp a op b pos :: rest) env=(false,eval (.BinOp a op b pos) env) :: starEach rest env:=rfl
theorem star_comp{e:Expr}{gs:List Comprehension}{sc:Scope}{pos:Pos}{rest:List Expr}{env:Env}:starEach (.ListComp e gs sc pos :: rest) env=(false,eval (.ListComp e gs sc pos) env) :: starEach rest env:=rfl
theorem star_tup{es:List Expr}{k:Nat}{pos:Pos}{rest:List Expr}{env:Env}:starEach (.Tuple es k pos :: rest) env=(false,eval (.Tuple es k pos) env) :: starEach rest env:=rfl
section
variable{X:Cx}{es:List Expr}{te:TE}{t:TA}{pos:Pos}
theorem pa_sub{a b:Expr}(ha:PE X (.Subscript a b pos) te)(hr:PA X es t):PA X (.Subscript a b pos :: es) (tCons te t):=pa_cons ha hr (hs:=star_sub)
theorem pa_call{f:Expr}{args:List Expr}{ks:List Keyword}(ha:PE X (.Call f args ks pos) te)(hr:PA X es t):PA X (.Call f args ks pos :: es) (tCons te t):=pa_cons ha hr (hs:=star_call)
theorem pa_bin{a b:Expr}{op:Operator}(ha:PE X (.BinOp a op b pos) te)(hr:PA X es t):PA X (.BinOp a op b pos :: es) (tCons te t):=pa_cons ha hr (hs:=star_bin)
theorem pa_comp{e:Expr}{gs:List Comprehension}{sc:Scope}(ha:PE X (.ListComp e gs sc pos) te)(hr:PA X es t):PA X (.ListComp e gs sc pos :: es) (tCons te t):=pa_cons ha hr (hs:=star_comp)
theorem pa_tup{xs:List Expr}{k:Nat}(ha:PE X (.Tuple xs k pos) te)(hr:PA X es t):PA X (.Tuple xs k pos :: es) (tCons te t):=pa_cons ha hr (hs:=star_tup)
theorem star_cst{c:Const}{k:Nat}{pos:Pos}{rest:List Expr}{env:Env}:starEach (.Constant c k pos :: rest) env=(false,eval (.Constant c k pos) env) :: starEach rest env:=rfl
theorem star_nam{x:Str}{pos:Pos}{rest:List Expr}{env:Env}:starEach (.Name x pos :: rest) env=(false,eval (.Name x pos) env) :: starEach rest env:=rfl
theorem pa_cst{c:Const}{k:Nat}(ha:PE X (.Constant c k pos) te)(hr:PA X es t):PA X (.Constant c k pos :: es) (tCons te t):=pa_cons ha hr (hs:=star_cst)
theorem pa_nam{x:Str}(ha:PE X (.Name x pos) te)(hr:PA X es t):PA X (.Name x pos :: es) (tCons te t):=pa_cons ha hr (hs:=star_nam)
end
end L2
namespace Srt
open PySem PySem.W PyProof.Rows
noncomputable def SeqK(b:Bool)(g:Heap)(l:Addr)(xs:Array Value):Prop:=match b with
 |true=>g.IsTuple l xs
 |false=>g.IsList l xs
noncomputable def ItK(b:Bool)(g:Heap)(it l:Addr)(i:Nat):Prop:=match b with
 |true=>g.IsTupleIter it l i
 |false=>g.IsListIter it l i
noncomputable def itO(b:Bool)(l:Addr):Obj:=match b with
 |true=>{ cls:=.type "tuple_iterator",data:=.fields #[.ref l,.int 0 0] }
 |false=>{ cls:=.type "list_iterator",data:=.fields #[.ref l,.int 0 0] }
theorem SeqK.to{b:Bool}{g g':Heap}{l:Addr}{xs:Array Value}(x:SeqK b g l xs)(k:∀ o,g.get? l=some o->g'.get? l=some o):SeqK b g' l xs:=by
 cases b
 ·exact Heap.IsList.at x k
 ·exact Heap.IsTuple.at x k
theorem ItK.to{b:Bool}{g g':Heap}{it l:Addr}{i:Nat}(x:ItK b g it l i)(k:∀ o,g.get? it=some o->g'.get? it=some o):ItK b g' it l i:=by
 cases b
 ·exact Heap.IsListIter.at x k
 ·obtain⟨o,e,r⟩:=(show g.IsTupleIter it l i from x)
  exact⟨o,k o e,r⟩
theorem ItK.lt{b:Bool}{g:Heap}{it l:Addr}{i:Nat}(x:ItK b g it l i):∃ o,g.get? it=some o/\∀ v,o.data≠.cell v:=by
 cases b
 ·obtain⟨o,e,c,d⟩:=(show g.IsListIter it l i from x)
  exact⟨o,e,fun v z=>by rw[d]at z;cases z⟩
 ·obtain⟨o,e,c,d⟩:=(show g.IsTupleIter it l i from x)
  exact⟨o,e,fun v z=>by rw[d]at z;cases z⟩
section
variable{prog:Program}{w:World}{A:Around}{E:Value->Shared->Prop}{s:Shared}
theorem nextK_item{b:Bool}{it l:Addr}{i:Nat}{xs:Array Value}{x:Value}{Q:Value->Shared->Prop}(hit:ItK b s.heap it l i)(hl:SeqK b s.heap l xs)(hx:xs[i]?=some x)
  (q:∀ g,ItK b g it l (i+1)->Heap.SameBut it s.heap g->Q x { s with heap:=g }):wpAny (model prog w) A (Builtin.SmallTypes.nextOf (.ref it)) Q E s:=by
 cases b
 ·exact wpAny_nextOf_list_item hit hl hx q
 ·have ty:s.TypeIs (.ref it) "tuple_iterator":=by
   obtain⟨o,e,c,_⟩:=(show s.heap.IsTupleIter it l i from hit)
   exact⟨o,e,c⟩
  obtain⟨o,e,c,d⟩:=(show s.heap.IsTupleIter it l i from hit)
  obtain⟨o2,e2,_,n2,d2⟩:=(show s.heap.IsTuple l xs from hl)
  unfold Builtin.SmallTypes.nextOf;refine wpAny_bind (wpAny_callSpecial?_slot (name:=Str.ofString "__next__") ty F.slot_tuple_iterator_next (wpAny_call_entry F.slot_tuple_iterator_next ty F.entry_tuple_iterator_next ?_ (F.args_tuple_iterator_next_1 _)))
  show wpAny _ _ (field (.ref it) 0 >>= _) _ _ s;refine wpAny_bind (wpAny_field e d (x:=.ref l) rfl ?_)
  show wpAny _ _ (if(Value.ref l == Value.none)=true then _ else _) _ _ s;rw[if_neg (show ¬((Value.ref l == Value.none)=true)from Bool.false_ne_true)]
  show wpAny _ _ (field (.ref it) 1 >>= _) _ _ s;refine wpAny_bind (wpAny_field e d (x:=.int i 0) rfl ?_)
  show wpAny _ _ (seqItems? (.ref l) >>= _) _ _ s;refine wpAny_bind (wpAny_seqItems e2 d2 ?_)
  simp only[Int.toNat_natCast,hx]
  refine wpAny_bind (wpAny_setField e d (by simp) (wpAny_pure ⟨x,rfl,wpAny_pure (q _ ?_ (Heap.SameBut.update ..))⟩))
  exact(show Heap.IsTupleIter _ it l (i+1)from⟨_,Heap.get?_update_self _ e (Obj.isFreed_of_fields (Obj.data_mapFields d _)),(Obj.cls_mapFields ..).trans c,by rw[Obj.data_mapFields d];simp[rawInt]⟩)
theorem nextK_end{b:Bool}{it l:Addr}{i:Nat}{xs:Array Value}{Q:Value->Shared->Prop}(hh:A.handled=none)(hit:ItK b s.heap it l i)(hl:SeqK b s.heap l xs)(hx:xs[i]?=none)
  (q:∀ g e,Heap.ExtBut it s.heap g->(∃ o,g.get? e=some o/\o.cls = .type "StopIteration")->E (.ref e) { s with heap:=g }):wpAny (model prog w) A (Builtin.SmallTypes.nextOf (.ref it)) Q E s:=by
 cases b
 ·exact wpAny_nextOf_list_end hh hit hl hx q
 ·have ty:s.TypeIs (.ref it) "tuple_iterator":=by
   obtain⟨o,e,c,_⟩:=(show s.heap.IsTupleIter it l i from hit)
   exact⟨o,e,c⟩
  obtain⟨o,e,c,d⟩:=(show s.heap.IsTupleIter it l i from hit)
  obtain⟨o2,e2,_,n2,d2⟩:=(show s.heap.IsTuple l xs from hl)
  unfold Builtin.SmallTypes.nextOf;refine wpAny_bind (wpAny_callSpecial?_slot (name:=Str.ofString "__next__") ty F.slot_tuple_iterator_next (wpAny_call_entry F.slot_tuple_iterator_next ty F.entry_tuple_iterator_next ?_ (F.args_tuple_iterator_next_1 _)))
  show wpAny _ _ (field (.ref it) 0 >>= _) _ _ s;refine wpAny_bind (wpAny_field e d (x:=.ref l) rfl ?_)
  show wpAny _ _ (if(Value.ref l == Value.none)=true then _ else _) _ _ s;rw[if_neg (show ¬((Value.ref l == Value.none)=true)from Bool.false_ne_true)]
  show wpAny _ _ (field (.ref it) 1 >>= _) _ _ s;refine wpAny_bind (wpAny_field e d (x:=.int i 0) rfl ?_)
  show wpAny _ _ (seqItems? (.ref l) >>= _) _ _ s;refine wpAny_bind (wpAny_seqItems e2 d2 ?_)
  simp only[Int.toNat_natCast,hx];refine wpAny_bind (wpAny_rule (wpAny_bind (wpAny_setField e d (by simp) ?_)))
  show wpAny _ _ (newExc (.type "StopIteration") [] >>= _) _ _ _;refine wpAny_bind ?_
  simp only[newExc,newTuple];refine wpAny_bind (wpAny_newObj_type ?_ (by size_fits))
  refine wpAny_bind (m:=firstArgMember _ _) (wpAny_of_eq (a:=Value.none) (by first | rfl |(simp only[firstArgMember];rfl)) (wpAny_newObj_type ?_ (by size_fits)))
  simp only[raiseNew];refine wpAny_bind (wpAny_handled ?_)
  rw[show A.in1.handled=none from hh];refine wpAny_bind (wpAny_pure (wpAny_throw ?_))
  exact q _ _ (((Heap.SameBut.update ..).extBut.push _).push _) ⟨_,Heap.get?_push_size _ rfl,rfl⟩
structure ZA(z ti to i1 i2:Addr):Prop where
 a1:ti≠z
 a2:to≠z
 a3:i1≠z
 a4:i2≠z
 a5:ti≠to
 a6:ti≠i1
 a7:ti≠i2
 a8:to≠i1
 a9:to≠i2
 a10:i1≠i2
noncomputable def Off(z to i1 i2 l:Addr):Prop:=l≠z/\l≠to/\l≠i1/\l≠i2
theorem zipK_item{b1 b2:Bool}{z ti to i1 i2 l1 l2:Addr}{k:Nat}{xs ys:Array Value}{x y a b:Value}{Q:Value->Shared->Prop}(D:ZA z ti to i1 i2)(o1:Off z to i1 i2 l1)(o2:Off z to i1 i2 l2)
  (hz:IsZip s.heap z ti to .none) (hTI:IsPair s.heap ti (.ref i1) (.ref i2)) (hTO:IsPair s.heap to a b) (h1:ItK b1 s.heap i1 l1 k) (h2:ItK b2 s.heap i2 l2 k) (hl1:SeqK b1 s.heap l1 xs) (hl2:SeqK b2 s.heap l2 ys) (hx:xs[k]?=some x) (hy:ys[k]?=some y)
  (q:∀ g,IsZip g z ti to (rawInt s.heap.objs.size)->IsPair g to x y->ItK b1 g i1 l1 (k+1)->ItK b2 g i2 l2 (k+1)->IsPair g s.heap.objs.size x y->(∀ c o,c≠z->c≠to->c≠i1->c≠i2->s.heap.get? c=some o->g.get? c=some o)->Q (.ref s.heap.objs.size) { s with heap:=g }) :
  wpAny (model prog w) A (Builtin.«zip.__next__» ⟨[.ref z],[]⟩) (fun fin s'=>∃ v,fin = .done (.ret v)/\Q v s') E s:=by
 show wpAny _ _ (field (.ref z) 2 >>= _) _ _ _;refine wpAny_bind (wpAny_field hz rfl (x:=.bool false) rfl ?_)
 show wpAny _ _ (field (.ref z) 3 >>= _) _ _ _;refine wpAny_bind (wpAny_field hz rfl (x:=.ref ti) rfl (wpAny_bind (wpAny_seqItems hTI rfl ?_)))
 show wpAny _ _ (Builtin.SmallTypes.ownedTupleIsFree (.ref z) >>= _) _ _ _;refine wpAny_bind ?_
 unfold Builtin.SmallTypes.ownedTupleIsFree;refine wpAny_bind (wpAny_field hz rfl (x:=.none) rfl (wpAny_pure ?_))
 simp only[if_true];refine wpAny_bind (wpAny_rule (wpAny_bind (wpAny_field hz rfl (x:=.ref to) rfl (wpAny_bind (wpAny_setField_rec hz (by simp) fun g1 z1 e1=>?_)))))
 replace z1:IsZip g1 z ti to .ellipsis:=z1
 refine wpAny_bind ?_;simp only[List.zipIdx_cons,List.zipIdx_nil,List.forIn_cons,List.forIn_nil]
 refine wpAny_bind (wpAny_bind (wpAny_onRaise ?_));show wpAny _ _ (Builtin.SmallTypes.nextOf (.ref i1) >>= _) _ _ _
 refine wpAny_bind (nextK_item (h1.to fun o e=>e1.extBut _ _ D.a3 e) (hl1.to fun o e=>e1.extBut _ _ o1.1 e) hx fun g2 n2 e2=>wpAny_pure ?_)
 have t2:IsPair g2 to a b:=e2.extBut _ _ D.a8 (e1.extBut _ _ D.a2 hTO)
 refine wpAny_bind (wpAny_seqItems t2 rfl (wpAny_bind (wpAny_updateSeq_pair t2 fun g3 t3 e3=>?_)))
 replace t3:IsPair g3 to x b:=t3
 refine wpAny_bind (wpAny_letGo (wpAny_pure (wpAny_bind (wpAny_bind (wpAny_onRaise ?_)))));show wpAny _ _ (Builtin.SmallTypes.nextOf (.ref i2) >>= _) _ _ _
 refine wpAny_bind (nextK_item (((h2.to fun o e=>e1.extBut _ _ D.a4 e).to fun o e=>e2.extBut _ _ (Ne.symm D.a10) e).to fun o e=>e3.extBut _ _ (Ne.symm D.a9) e) (((hl2.to fun o e=>e1.extBut _ _ o2.1 e).to fun o e=>e2.extBut _ _ o2.2.2.1 e).to fun o e=>e3.extBut _ _ o2.2.1 e) hy fun g4 n4 e4=>wpAny_pure ?_)
 have t4:IsPair g4 to x b:=e4.extBut _ _ D.a9 t3
 refine wpAny_bind (wpAny_seqItems t4 rfl (wpAny_bind (wpAny_updateSeq_pair t4 fun g5 t5 e5=>?_)))
 replace t5:IsPair g5 to x y:=t5
 refine wpAny_bind (wpAny_letGo (wpAny_pure (wpAny_pure (wpAny_bind (wpAny_seqItems t5 rfl (wpAny_bind (wpAny_newTuple ?_)))))))
 have sz:g5.objs.size=s.heap.objs.size:=by rw[e5.1,e4.1,e3.1,e2.1,e1.1]
 have z5:IsZip g5 z ti to .ellipsis:=e5.extBut _ _ (Ne.symm D.a2) (e4.extBut _ _ (Ne.symm D.a4) (e3.extBut _ _ (Ne.symm D.a2) (e2.extBut _ _ (Ne.symm D.a3) z1)))
 have k5:∀ c o,c≠z->c≠to->c≠i1->c≠i2->s.heap.get? c=some o->g5.get? c=some o:=fun c o c1 c2 c3 c4 e=>e5.extBut _ _ c2 (e4.extBut _ _ c4 (e3.extBut _ _ c2 (e2.extBut _ _ c3 (e1.extBut _ _ c1 e))))
 have n15:ItK b1 g5 i1 l1 (k+1):=((n2.to fun o e=>e3.extBut _ _ (Ne.symm D.a8) e).to fun o e=>e4.extBut _ _ D.a10 e).to fun o e=>e5.extBut _ _ (Ne.symm D.a8) e
 have n25:ItK b2 g5 i2 l2 (k+1):=n4.to fun o e=>e5.extBut _ _ (Ne.symm D.a9) e
 show wpAny _ _ (Builtin.SmallTypes.ownedTupleHandOut (.ref z) (.ref g5.objs.size) >>= _) _ _ _;refine wpAny_bind ?_
 unfold Builtin.SmallTypes.ownedTupleHandOut
 have z6:IsZip (g5.push { cls:=.type "tuple",data:=.seq #[x,y] }) z ti to .ellipsis:=Heap.get?_push_of_some _ z5
 refine wpAny_bind (wpAny_setField_rec z6 (by simp) fun g7 z7 e7=>?_)
 replace z7:IsZip g7 z ti to (rawInt g5.objs.size):=z7
 refine wpAny_setField_rec z7 (by simp) fun g8 z8 e8=>?_
 replace z8:IsZip g8 z ti to (rawInt g5.objs.size):=z8
 have up:∀ c o,c≠z->g5.get? c=some o->g8.get? c=some o:=fun c o c1 e=>e8.extBut _ _ c1 (e7.extBut _ _ c1 (Heap.get?_push_of_some _ e))
 have zlt:z<g5.objs.size:=Heap.lt_size z5
 have p8:IsPair g8 g5.objs.size x y:=e8.extBut _ _ (Nat.ne_of_gt zlt) (e7.extBut _ _ (Nat.ne_of_gt zlt) (Heap.get?_push_size _ rfl))
 rw[sz]at z8 p8
 refine wpAny_pure ⟨_,rfl,?_⟩
 show Q (.ref g5.objs.size) _;rw[sz]
 exact q g8 z8 (up _ _ D.a2 t5) (n15.to fun o e=>up _ o D.a3 e) (n25.to fun o e=>up _ o D.a4 e) p8 fun c o c1 c2 c3 c4 e=>up c o c1 (k5 c o c1 c2 c3 c4 e)
theorem zipK_end{b1 b2:Bool}{z ti to i1 i2 l1 l2:Addr}{k:Nat}{xs ys:Array Value}{a b:Value}{Q:Fin->Shared->Prop}(hh:A.handled=none)(D:ZA z ti to i1 i2)(o1:Off z to i1 i2 l1)(o2:Off z to i1 i2 l2)
  (hz:IsZip s.heap z ti to .none) (hTI:IsPair s.heap ti (.ref i1) (.ref i2)) (hTO:IsPair s.heap to a b) (h1:ItK b1 s.heap i1 l1 k) (h2:ItK b2 s.heap i2 l2 k) (hl1:SeqK b1 s.heap l1 xs) (hl2:SeqK b2 s.heap l2 ys) (he:xs[k]?=none\/ys[k]?=none)
  (q:∀ g e,(∀ c o,c≠z->c≠to->c≠i1->c≠i2->s.heap.get? c=some o->g.get? c=some o)->(∃ o,g.get? e=some o/\o.cls = .type "StopIteration")->E (.ref e) { s with heap:=g }) :
  wpAny (model prog w) A (Builtin.«zip.__next__» ⟨[.ref z],[]⟩) Q E s:=by
 show wpAny _ _ (field (.ref z) 2 >>= _) _ _ _;refine wpAny_bind (wpAny_field hz rfl (x:=.bool false) rfl ?_)
 show wpAny _ _ (field (.ref z) 3 >>= _) _ _ _;refine wpAny_bind (wpAny_field hz rfl (x:=.ref ti) rfl (wpAny_bind (wpAny_seqItems hTI rfl ?_)))
 show wpAny _ _ (Builtin.SmallTypes.ownedTupleIsFree (.ref z) >>= _) _ _ _;refine wpAny_bind ?_
 unfold Builtin.SmallTypes.ownedTupleIsFree;refine wpAny_bind (wpAny_field hz rfl (x:=.none) rfl (wpAny_pure ?_))
 simp only[if_true];refine wpAny_bind (wpAny_rule (wpAny_bind (wpAny_field hz rfl (x:=.ref to) rfl (wpAny_bind (wpAny_setField_rec hz (by simp) fun g1 z1 e1=>?_)))))
 replace z1:IsZip g1 z ti to .ellipsis:=z1
 refine wpAny_bind ?_;simp only[List.zipIdx_cons,List.zipIdx_nil,List.forIn_cons,List.forIn_nil]
 refine wpAny_bind (wpAny_bind (wpAny_onRaise ?_));show wpAny _ _ (Builtin.SmallTypes.nextOf (.ref i1) >>= _) _ _ _
 cases hx:xs[k]? with
 |none =>
  refine wpAny_bind (nextK_end hh (h1.to fun o e=>e1.extBut _ _ D.a3 e) (hl1.to fun o e=>e1.extBut _ _ o1.1 e) hx fun g2 e e2 he=>?_)
  obtain⟨oe,hoe,hce⟩:=he
  have z2:IsZip g2 z ti to .ellipsis:=e2 _ _ (Ne.symm D.a3) z1
  have ez:e≠z:=fun x=>by subst x;rw[z2]at hoe;cases hoe;simp at hce
  refine wpAny_setField_rec z2 (by simp) fun g3 _ e3=>q g3 e (fun c o c1 _ c3 _ x=>e3.extBut _ _ c1 (e2 _ _ c3 (e1.extBut _ _ c1 x))) ⟨oe,e3.extBut _ _ ez hoe,hce⟩
 |some x =>
  have hy:ys[k]?=none:=by
   rcases he with h | h
   ·rw[hx]at h;cases h
   ·exact h
  refine wpAny_bind (nextK_item (h1.to fun o e=>e1.extBut _ _ D.a3 e) (hl1.to fun o e=>e1.extBut _ _ o1.1 e) hx fun g2 n2 e2=>wpAny_pure ?_)
  have t2:IsPair g2 to a b:=e2.extBut _ _ D.a8 (e1.extBut _ _ D.a2 hTO)
  refine wpAny_bind (wpAny_seqItems t2 rfl (wpAny_bind (wpAny_updateSeq_pair t2 fun g3 t3 e3=>wpAny_bind (wpAny_letGo (wpAny_pure (wpAny_bind (wpAny_bind (wpAny_onRaise ?_))))))))
  show wpAny _ _ (Builtin.SmallTypes.nextOf (.ref i2) >>= _) _ _ _
  refine wpAny_bind (nextK_end hh (((h2.to fun o e=>e1.extBut _ _ D.a4 e).to fun o e=>e2.extBut _ _ (Ne.symm D.a10) e).to fun o e=>e3.extBut _ _ (Ne.symm D.a9) e) (((hl2.to fun o e=>e1.extBut _ _ o2.1 e).to fun o e=>e2.extBut _ _ o2.2.2.1 e).to fun o e=>e3.extBut _ _ o2.2.1 e) hy fun g4 e e4 he=>?_)
  obtain⟨oe,hoe,hce⟩:=he
  have z4:IsZip g4 z ti to .ellipsis:=e4 _ _ (Ne.symm D.a4) (e3.extBut _ _ (Ne.symm D.a2) (e2.extBut _ _ (Ne.symm D.a3) z1))
  have ez:e≠z:=fun x=>by subst x;rw[z4]at hoe;cases hoe;simp at hce
  refine wpAny_setField_rec z4 (by simp) fun g5 _ e5=>q g5 e (fun c o c1 c2 c3 c4 x=>e5.extBut _ _ c1 (e4 _ _ c4 (e3.extBut _ _ c2 (e2.extBut _ _ c3 (e1.extBut _ _ c1 x))))) ⟨oe,e5.extBut _ _ ez hoe,hce⟩
theorem pyIterK{b:Bool}{l:Addr}{xs:Array Value}{Q:Value->Shared->Prop}(h:SeqK b s.heap l xs)(q:Q (.ref s.heap.objs.size) { s with heap:=s.heap.push (itO b l) }):wpAny (model prog w) A (pyIter (.ref l)) Q E s:=by
 cases b
 ·exact wpAny_pyIter_list h q
 ·exact wpAny_pyIter_tuple h q
theorem ItK.new{b:Bool}{l:Addr}(g:Heap):ItK b (g.push (itO b l)) g.objs.size l 0:=by
 cases b
 ·exact(show Heap.IsListIter _ _ _ _ from⟨_,Heap.get?_push_size _ rfl,rfl,rfl⟩)
 ·exact(show Heap.IsTupleIter _ _ _ _ from⟨_,Heap.get?_push_size _ rfl,rfl,rfl⟩)
noncomputable abbrev zK2(g:Heap)(b1 b2:Bool)(l1 l2:Addr):Heap:=(g.push (itO b1 l1)).push (itO b2 l2)
noncomputable abbrev zK3(g:Heap)(b1 b2:Bool)(l1 l2:Addr):Heap:=(zK2 g b1 b2 l1 l2).push { cls:=.type "tuple",data:=.seq #[.ref g.objs.size,.ref (g.push (itO b1 l1)).objs.size] }
noncomputable abbrev zK4(g:Heap)(b1 b2:Bool)(l1 l2:Addr):Heap:=(zK3 g b1 b2 l1 l2).push { cls:=.type "tuple",data:=.seq #[.none,.none] }
noncomputable abbrev zK5(g:Heap)(b1 b2:Bool)(l1 l2:Addr):Heap:=(zK4 g b1 b2 l1 l2).push { cls:=.type "zip",data:=.fields #[.none,.bool false,.bool false,.ref (zK2 g b1 b2 l1 l2).objs.size,.ref (zK3 g b1 b2 l1 l2).objs.size] }
theorem zipK_new(b1 b2:Bool)(l1 l2:Addr)(xs ys:Array Value):Meets (Builtin.«zip.__new__» ⟨[.type "zip",.ref l1,.ref l2],[]⟩) (fun _ R s=>SeqK b1 s.heap l1 xs/\SeqK b2 s.heap l2 ys/\R (.ok (.ret (.ref (zK4 s.heap b1 b2 l1 l2).objs.size))) { s with heap:=zK5 s.heap b1 b2 l1 l2 }) :=
 .of_wp fun prog w A R s h=>by
  obtain⟨hp,g,d,tk,os⟩:=s
  obtain⟨hl1,hl2,h⟩:=h
  have hsub:=sub_zip
  have hL1:SeqK b1 (Shared.heap ⟨hp,g,d,tk,os⟩) l1 xs:=hl1
  have hL2:SeqK b2 (Shared.heap ⟨hp.push (itO b1 l1),g,d,tk,os⟩) l2 ys:=hl2.to fun o e=>Heap.get?_push_of_some _ e
  wp_walk using pyIterK hL1,pyIterK hL2
  exact⟨_,rfl,h⟩
end
end Srt
namespace L2
open PySem PySem.W PyProof.Rows Srt
noncomputable def SqB(b:Bool)(K:PySem.W.Frag)(H:Hp)(l:Addr)(xs:List V):Prop:=match b with
 |true=>SqT K H l xs
 |false=>SqL K H l xs
section
variable{X:Cx}{pins:List (Addr×Obj)}{σ:St}{H:Hp}{s:Shared}{h':Heap}
theorem Inv.seqB(I:Inv X pins σ H s){b:Bool}{l:Addr}{xs:List V}(h:SqB b X.K H l xs):∃ its:List Value,Vals xs its/\SeqK b s.heap l its.toArray/\xs.length<=sizeLine:=by
 cases b
 ·obtain⟨its,r,p,z⟩:=I.list h
  exact⟨its,r,p.isList,z⟩
 ·obtain⟨its,r,p,z⟩:=I.tuple h
  exact⟨its,r,p,z⟩
theorem Inv.seqB_inj(I:Inv X pins σ H s){b:Bool}{l:Addr}{xs ys:List V}(h:SqB b X.K H l xs)(h':SqB b X.K H l ys):xs=ys:=by
 cases b
 ·exact I.list_inj h h'
 ·exact I.tuple_inj h h'
theorem Inv.offB(I:Inv X pins σ H s){b:Bool}{l c:Addr}{xs:List V}(h:SqB b X.K H l xs)(f:FpOk X pins H c):l≠c:=by
 intro e
 subst e
 obtain⟨f0,_,_,f3,_,_⟩:=f
 have base:∀ o,X.K.lookup l=some o->False:=fun o hk=>by
  have eb:=I.ok.mod.kin l o hk
  rcases f3 with f3 | f3
  ·exact I.ok.noex l o eb f3
  ·exact absurd (Nat.lt_of_lt_of_le (Heap.lt_size eb) (Nat.le_trans I.ok.bsz f3)) (Nat.lt_irrefl _)
 cases b
 ·rcases(show SqL X.K H l xs from h)with(z |⟨o,z⟩) |⟨o,_,_,hk,_⟩
  ·rw[f0]at z;cases z
  ·rw[f0]at z;cases z
  ·exact base o hk
 ·rcases(show SqT X.K H l xs from h)with(z |⟨o,z⟩) |⟨o,_,_,hk,_⟩
  ·rw[f0]at z;cases z
  ·rw[f0]at z;cases z
  ·exact base o hk
theorem Inv.turnedL{t':Nat}{ch:List Addr}(I:Inv X pins σ H s)(hf:∀ b∈ch,FpOk X pins H b)(k:∀ b o,b∉ch->s.heap.get? b=some o->h'.get? b=some o):Inv X pins σ H { s with heap:=h',toks:=t' }:=by
 have nit:∀ b u,H b=some u->b∉ch:=fun b u e z=>by rw[(hf b z).1]at e;cases e
 have loc:X.env.locals∉ch:=fun z=>(hf _ z).2.1 rfl
 refine I.step (g':=s.gens) (d':=s.drawn) (ch:=ch) (fun b hb=>?_) (fun b o _ _ hc e _=>k b o hc e) (fun b o _ _ hc e _=>⟨o.slots,k b o hc e⟩) (fun _ _ _ _ n=>n) (fun b o hc e=>⟨o,k b o hc e⟩) (fun _ _ e=>e) (fun _ _ _ e=>e) (fun b ps e=>⟨#[],by rw[e];simp⟩) (fun m hm=>?_) (fun b u e=>?_) I.bare
 ·obtain⟨_,f1,_,f3,f4,f5⟩:=hf b hb
  exact⟨f3,f1,f4,f5⟩
 ·obtain⟨o,es,ep,ho,r⟩:=hm
  exact⟨o,es,ep,k _ o loc ho,r⟩
 ·refine(I.hok b u e).stay (fun c v hc q=>k c v ?_ q) (fun _ q=>q) fun _ _ q=>q
  rcases hc with z | z
  ·rw[z];exact nit b u e
  ·exact nit c _ z
theorem Inv.turnedN{t':Nat}{ch:List Addr}{a:Addr}{ob:HO}(I:Inv X pins σ H s)(hf:∀ b∈ch,FpOk X pins H b)(k:∀ b o,b∉ch->s.heap.get? b=some o->h'.get? b=some o)(ha:s.heap.objs.size<=a)(new:ObjOk X.prog X.w (upd H a ob) h' a ob) :
  Inv X pins σ (upd H a ob) { s with heap:=h',toks:=t' }:=by
 have hn:H a=none:=I.hok.fresh ha
 have nit:∀ b u,H b=some u->b∉ch:=fun b u e z=>by rw[(hf b z).1]at e;cases e
 have loc:X.env.locals∉ch:=fun z=>(hf _ z).2.1 rfl
 have old:∀ b o,s.heap.get? b=some o->b≠a:=fun b o e=>Nat.ne_of_lt (Nat.lt_of_lt_of_le (Heap.lt_size e) ha)
 refine I.step (g':=s.gens) (d':=s.drawn) (ch:=ch) (fun b hb=>?_) (fun b o _ _ hc e _=>k b o hc e) (fun b o _ _ hc e _=>⟨o.slots,k b o hc e⟩) (fun b o _ e n=>by rw[upd_ne (old b o e)];exact n) (fun b o hc e=>⟨o,k b o hc e⟩)
  (fun b xs e=>by rw[upd_ne (ne_of_none e hn)];exact e) (fun b o u e=>by rw[upd_ne (ne_of_none e hn)];exact e) (fun b ps e=>⟨#[],by rw[upd_ne (ne_of_none e hn),e];simp⟩) (fun m hm=>?_) (fun b u e=>?_) I.bare
 ·obtain⟨_,f1,_,f3,f4,f5⟩:=hf b hb
  exact⟨f3,f1,f4,f5⟩
 ·obtain⟨o,es,ep,ho,r⟩:=hm
  exact⟨o,es,ep,k _ o loc ho,r⟩
 ·by_cases hb:b=a
  ·subst hb
   rw[upd_same]at e
   cases e
   exact new
  ·rw[upd_ne hb]at e
   refine(I.hok b u e).stay (fun c v hc q=>k c v ?_ q) (fun c q=>by rw[upd_ne (ne_of_none q hn)];exact q) fun c xs q=>by rw[upd_ne (ne_of_none q hn)];exact q
   rcases hc with z | z
   ·rw[z];exact nit b u e
   ·exact nit c _ z
end
noncomputable def Itz(K:PySem.W.Frag)(b1 b2:Bool)(l1 l2:Addr):It :=
  ⟨fun i H=>∃ xs ys x y,SqB b1 K H l1 xs/\SqB b2 K H l2 ys/\xs[i]?=some x/\ys[i]?=some y,
   fun i H v H'=>∃ T x y,v = .ref T/\H T=none/\H'=upd H T (.tup [x,y])/\(∀ xs,SqB b1 K H l1 xs->xs[i]?=some x)/\∀ ys,SqB b2 K H l2 ys->ys[i]?=some y,
   fun i H=>∃ xs ys,SqB b1 K H l1 xs/\SqB b2 K H l2 ys/\(xs.length<=i\/ys.length<=i)⟩
theorem turn_zip{P:Program}{w:World}{K:PySem.W.Frag}{es:List Expr}{kk:Nat}{pos:Pos}(b1 b2:Bool)(z ti to i1 i2 l1 l2:Addr)(D:ZA z ti to i1 i2):Turn P w K (.Tuple es kk pos) (Itz K b1 b2 l1 l2) [z,ti,to,i1,i2] z
  (fun i h=>IsZip h z ti to .none/\IsPair h ti (.ref i1) (.ref i2)/\(∃ a b,IsPair h to a b)/\ItK b1 h i1 l1 i/\ItK b2 h i2 l2 i)where
 mem:=by simp
 obj:=fun i h st b hb=>by
  obtain⟨hz,hti,⟨a,c,hto⟩,h1,h2⟩:=st
  simp only[List.mem_cons,List.not_mem_nil,or_false]at hb
  rcases hb with e | e | e | e | e
  ·rw[e];exact⟨_,hz,fun v z=>by cases z⟩
  ·rw[e];exact⟨_,hti,fun v z=>by cases z⟩
  ·rw[e];exact⟨_,hto,fun v z=>by cases z⟩
  ·rw[e];exact h1.lt
  ·rw[e];exact h2.lt
 keep:=fun i h h' st k=>by
  obtain⟨hz,hti,⟨a,c,hto⟩,h1,h2⟩:=st
  exact⟨k z (by simp) _ hz,k ti (by simp) _ hti,⟨a,c,k to (by simp) _ hto⟩,h1.to fun o e=>k i1 (by simp) o e,h2.to fun o e=>k i2 (by simp) o e⟩
 item:=by
  intro X hP hw hK hc i pins s σ H E I hf st hg
  subst hP hw hK
  obtain⟨hz,hti,⟨a,c,hto⟩,h1,h2⟩:=st
  obtain⟨xs,ys,x,y,q1,q2,hx,hy⟩:=hg
  obtain⟨us,r1,p1,_⟩:=I.seqB q1
  obtain⟨ws,r2,p2,_⟩:=I.seqB q2
  obtain⟨u,hu,ru⟩:=r1.get hx
  obtain⟨v,hv,rv⟩:=r2.get hy
  have off1:Off z to i1 i2 l1:=⟨I.offB q1 (hf z (by simp)),I.offB q1 (hf to (by simp)),I.offB q1 (hf i1 (by simp)),I.offB q1 (hf i2 (by simp))⟩
  have off2:Off z to i1 i2 l2:=⟨I.offB q2 (hf z (by simp)),I.offB q2 (hf to (by simp)),I.offB q2 (hf i1 (by simp)),I.offB q2 (hf i2 (by simp))⟩
  have hT:s.TypeIs (.ref z) "zip":=⟨_,hz,rfl⟩
  have hn:H s.heap.objs.size=none:=I.hok.fresh (Nat.le_refl _)
  unfold pyNext
  refine wpAny_bind (wpAny_attempt (wpAny_callSpecial?_slot (name:=Str.ofString "__next__") hT F.slot_zip_next (wpAny_call_entry F.slot_zip_next hT F.entry_zip_next
   (zipK_item D off1 off2 hz hti hto h1 h2 p1 p2 (x:=u) (y:=v) (by simpa using hu) (by simpa using hv) fun g z1 t1 n1 n2 pp kp=>wpAny_pure ⟨_,rfl,?_⟩) (F.args_zip_next_1 _))))
  refine wpAny_letOwnedTupleGo_zip z1 fun g' z2 sb=>?_
  have zlt:z≠s.heap.objs.size:=Nat.ne_of_lt (Heap.lt_size hz)
  have kp2:∀ b o,b∉[z,ti,to,i1,i2]->s.heap.get? b=some o->g'.get? b=some o:=fun b o nb e=>by
   simp only[List.mem_cons,List.not_mem_nil,or_false,not_or]at nb
   exact sb.extBut _ _ nb.1 (kp b o nb.1 nb.2.2.1 nb.2.2.2.1 nb.2.2.2.2 e)
  have I2:Inv X pins σ (upd H s.heap.objs.size (.tup [x,y])) { s with heap:=g' }:=I.turnedN (t':=s.toks) (ch:=[z,ti,to,i1,i2]) (a:=s.heap.objs.size) (ob:=.tup [x,y]) hf kp2 (Nat.le_refl _) (show ObjOk X.prog X.w _ g' _ (.tup [x,y])from⟨by show 2<=sizeLine;decide,[u,v],.cons ru (.cons rv .nil),⟨_,sb.extBut _ _ (Ne.symm zlt) pp,rfl,0,rfl⟩⟩)
  refine⟨.ref s.heap.objs.size,_,I2,rfl,⟨_,x,y,rfl,hn,rfl,fun xs' h=>by rw[I.seqB_inj h q1];exact hx,fun ys' h=>by rw[I.seqB_inj h q2];exact hy⟩,⟨z2,sb.extBut _ _ D.a1 (kp _ _ D.a1 D.a5 D.a6 D.a7 hti),⟨_,_,sb.extBut _ _ D.a2 t1⟩,n1.to fun o e=>sb.extBut _ _ D.a3 e,n2.to fun o e=>sb.extBut _ _ D.a4 e⟩,fun b hb=>?_⟩
  have bo:∃ o,s.heap.get? b=some o:=by
   simp only[List.mem_cons,List.not_mem_nil,or_false]at hb
   rcases hb with e | e | e | e | e
   ·rw[e];exact⟨_,hz⟩
   ·rw[e];exact⟨_,hti⟩
   ·rw[e];exact⟨_,hto⟩
   ·rw[e];obtain⟨o,e,_⟩:=h1.lt;exact⟨o,e⟩
   ·rw[e];obtain⟨o,e,_⟩:=h2.lt;exact⟨o,e⟩
  obtain⟨o,e⟩:=bo
  rw[upd_ne (Nat.ne_of_lt (Heap.lt_size e))]
  exact(hf b hb).1
 done:=by
  intro X hP hw hK hc i pins s σ H E I hf st hg
  subst hP hw hK
  obtain⟨hz,hti,⟨a,c,hto⟩,h1,h2⟩:=st
  obtain⟨xs,ys,q1,q2,he⟩:=hg
  obtain⟨us,r1,p1,_⟩:=I.seqB q1
  obtain⟨ws,r2,p2,_⟩:=I.seqB q2
  have e1:=r1.length
  have e2:=r2.length
  have off1:Off z to i1 i2 l1:=⟨I.offB q1 (hf z (by simp)),I.offB q1 (hf to (by simp)),I.offB q1 (hf i1 (by simp)),I.offB q1 (hf i2 (by simp))⟩
  have off2:Off z to i1 i2 l2:=⟨I.offB q2 (hf z (by simp)),I.offB q2 (hf to (by simp)),I.offB q2 (hf i1 (by simp)),I.offB q2 (hf i2 (by simp))⟩
  have hT:s.TypeIs (.ref z) "zip":=⟨_,hz,rfl⟩
  unfold pyNext
  refine wpAny_bind (wpAny_attempt (wpAny_callSpecial?_slot (name:=Str.ofString "__next__") hT F.slot_zip_next (wpAny_call_entry F.slot_zip_next hT F.entry_zip_next (zipK_end (I.ok.hd hc) D off1 off2 hz hti hto h1 h2 p1 p2 ?_ fun g e kp he=>?_) (F.args_zip_next_1 _))))
  ·rcases he with h | h
   ·exact .inl (by simp;lia)
   ·exact .inr (by simp;lia)
  ·obtain⟨o,ho,hcl⟩:=he
   refine wpAny_bind (wpAny_isInstance (T:="StopIteration") (b:=true) ⟨o,ho,hcl⟩ isSubtype_stop (wpAny_pure ⟨rfl,?_⟩))
   refine I.turnedL (t':=s.toks) (ch:=[z,ti,to,i1,i2]) hf fun b o nb e=>?_
   simp only[List.mem_cons,List.not_mem_nil,or_false,not_or]at nb
   exact kp b o nb.1 nb.2.2.1 nb.2.2.2.1 nb.2.2.2.2 e
 self:=fun _ _ _ _ _ st h=>wpAny_pyIter_zip st.1 h
theorem za_new(n:Addr):ZA (n+4) (n+2) (n+3) n (n+1)where
 a1:=Nat.ne_of_lt (Nat.add_lt_add_left (by decide) n)
 a2:=Nat.ne_of_lt (Nat.add_lt_add_left (by decide) n)
 a3:=Nat.ne_of_lt (Nat.lt_add_of_pos_right (by decide))
 a4:=Nat.ne_of_lt (Nat.add_lt_add_left (by decide) n)
 a5:=Nat.ne_of_lt (Nat.add_lt_add_left (by decide) n)
 a6:=Nat.ne_of_gt (Nat.lt_add_of_pos_right (by decide))
 a7:=Nat.ne_of_gt (Nat.add_lt_add_left (by decide) n)
 a8:=Nat.ne_of_gt (Nat.lt_add_of_pos_right (by decide))
 a9:=Nat.ne_of_gt (Nat.add_lt_add_left (by decide) n)
 a10:=Nat.ne_of_lt (Nat.lt_add_of_pos_right (by decide))
noncomputable def iZip(b1 b2:Bool)(K:PySem.W.Frag)(ta:TA):TI:=fun σ H R=>ta σ H fun vs H1=>∃ l1 l2,vs=[.ref l1,.ref l2]/\(∃ xs,SqB b1 K H1 l1 xs)/\(∃ ys,SqB b2 K H1 l2 ys)/\R (Itz K b1 b2 l1 l2) H1
theorem pi_zip{X:Cx}{es:List Expr}{kk:Nat}{tpos:Pos}(b1 b2:Bool){a b:Expr}{ta:TA}{p pos:Pos}(hg:Gl X "zip")(hm:X.mg "zip" = none)(ha:PA X [a,b] ta)(hs:starEach [a,b] X.env=[(false,eval a X.env),(false,eval b X.env)]:=by rfl)(hs2:starEach [b] X.env=[(false,eval b X.env)]:=by rfl) :
  PI X (.Tuple es kk tpos) (.Call (.Name "zip" p) [a,b] [] pos) (iZip b1 b2 X.K ta):=by
 intro pins s σ H R I h
 refine Call_ (ld_blt I hg hm boot_zip (PyProof.Rows.callWith_type1 (thn (ha pos pins s σ H _ I h) fun us s1 ⟨vs,H1,I1,r1,q1⟩=>?_) (by rw[hs,hs2]) (by rw[hs2];rfl)))
 obtain⟨l1,l2,e,⟨xs,q1⟩,⟨ys,q2⟩,q⟩:=q1
 subst e
 obtain⟨u,u',rfl,rx,ry⟩:=vals2 r1
 cases rx
 cases ry
 obtain⟨us,_,p1,_⟩:=I1.seqB q1
 obtain⟨ws,_,p2,_⟩:=I1.seqB q2
 have z1:(s1.heap.push (itO b1 l1)).objs.size=s1.heap.objs.size+1:=Heap.size_push ..
 have z2:(zK2 s1.heap b1 b2 l1 l2).objs.size=s1.heap.objs.size+2:=by rw[Heap.size_push,z1]
 have z3:(zK3 s1.heap b1 b2 l1 l2).objs.size=s1.heap.objs.size+3:=by rw[Heap.size_push,z2]
 have z4:(zK4 s1.heap b1 b2 l1 l2).objs.size=s1.heap.objs.size+4:=by rw[Heap.size_push,z3]
 have g5:(zK5 s1.heap b1 b2 l1 l2).get? (zK4 s1.heap b1 b2 l1 l2).objs.size=some _:=Heap.get?_push_size _ rfl
 have g4:(zK5 s1.heap b1 b2 l1 l2).get? (zK3 s1.heap b1 b2 l1 l2).objs.size=some _:=Heap.get?_push_of_some _ (Heap.get?_push_size _ rfl)
 have g3:(zK5 s1.heap b1 b2 l1 l2).get? (zK2 s1.heap b1 b2 l1 l2).objs.size=some _:=Heap.get?_push_of_some _ (Heap.get?_push_of_some _ (Heap.get?_push_size _ rfl))
 have g2:ItK b2 (zK5 s1.heap b1 b2 l1 l2) (s1.heap.push (itO b1 l1)).objs.size l2 0:=(ItK.new (b:=b2) (l:=l2) (s1.heap.push (itO b1 l1))).to fun o e=>Heap.get?_push_of_some _ (Heap.get?_push_of_some _ (Heap.get?_push_of_some _ e))
 have g1:ItK b1 (zK5 s1.heap b1 b2 l1 l2) s1.heap.objs.size l1 0:=(ItK.new (b:=b1) (l:=l1) s1.heap).to fun o e=>Heap.get?_push_of_some _ (Heap.get?_push_of_some _ (Heap.get?_push_of_some _ (Heap.get?_push_of_some _ e)))
 rw[z2,z3,z4]at g5
 rw[z1,z2]at g3
 rw[z3]at g4
 rw[z1]at g2
 refine callType_new F.called_zip (by decide) (F.typeCall_zip_2 _ _) (F.newCall_zip_2 _ _) (fun obj=>F.args_object_init_3 obj _ _) F.entry_zip_new (zipK_new b1 b2 l1 l2 us.toArray ws.toArray) ⟨p1,p2,?_⟩
 show _/\_
 rw[z4]
 have kp:∀ c o,s1.heap.get? c=some o->(zK5 s1.heap b1 b2 l1 l2).get? c=some o:=fun c o x=>Heap.get?_push_of_some _ (Heap.get?_push_of_some _ (Heap.get?_push_of_some _ (Heap.get?_push_of_some _ (Heap.get?_push_of_some _ x))))
 refine⟨⟨_,g5,rfl⟩,wpAny_pyIter_zip g5 ⟨s1.heap.objs.size+4,_,_,_,H1,rfl,I1.kept (t':=s1.toks) kp,turn_zip b1 b2 _ (s1.heap.objs.size+2) (s1.heap.objs.size+3) s1.heap.objs.size (s1.heap.objs.size+1) l1 l2 (za_new _),⟨g5,g3,⟨_,_,g4⟩,g1,g2⟩,fun b hb=>?_,q⟩⟩
 have le:s1.heap.objs.size<=b:=by
  simp only[List.mem_cons,List.not_mem_nil,or_false]at hb
  rcases hb with e | e | e | e | e
  ·rw[e];exact Nat.le_add_right _ 4
  ·rw[e];exact Nat.le_add_right _ 2
  ·rw[e];exact Nat.le_add_right _ 3
  ·rw[e];exact Nat.le_refl _
  ·rw[e];exact Nat.le_add_right _ 1
 exact I1.fpOk le (I1.hok.fresh le)
open PySem PySem.W PyProof.Rows Srt
open PySem PySem.W PyProof.Rows Srt
section
variable{X:Cx}
theorem bools_at:∀ {bs:List Bool}{us:List Value},Vals (bs.map V.bl) us->∀ (i:Nat) (v:Value),us[i]?=some v->∃ b,bs[i]?=some b/\v = .bool b
 |[],_,.nil,i,v,h=>by simp at h
 |b :: bs,_,.cons r t,0,v,h=>by
  simp at h
  subst h
  exact⟨b,rfl,r⟩
 |b :: bs,_,.cons r t,i+1,v,h=>by
  obtain⟨c,e,q⟩:=bools_at t i v (by simpa using h)
  exact⟨c,by simpa using e,q⟩
theorem call_all(hc:X.calm=true):CallR X (.builtin "all") (fun xs H Q=>∃ (l:Addr) (bs:List Bool),xs=[V.ref l]/\SqL X.K H l (bs.map V.bl)/\Q (.bl (bs.all id)) H):=by
 intro pins s σ H xs us Q I r h
 obtain⟨l,bs,rfl,hq,q⟩:=h
 obtain⟨u,rfl,rx⟩:=vals1 r
 cases rx
 obtain⟨its,r',pl,hz⟩:=I.list hq
 have len:its.length=bs.length:=by rw[<- r'.length,List.length_map]
 have hl:=pl.isList
 have hlt:l<s.heap.objs.size:=by obtain⟨_,e,_⟩:=hl;exact Heap.lt_size e
 refine call_all_walk (wpAny_pyIter_list hl ⟨s.heap.objs.size,[s.heap.objs.size,l],[s.heap.objs.size],its.toArray.size,_,_,fun i=>(bs[i]?).getD true,rfl,Walks.list (A:=X.A.in1) (show X.A.handled=none from I.ok.hd hc) _ l (Nat.ne_of_lt hlt) its.toArray,⟨⟨_,Heap.get?_push_size _ rfl,rfl,rfl⟩,hl.push _⟩,fun i v s' Q' E' hP hQ=>?_,fun h' tk hk=>?_⟩)
 ·obtain⟨b,e,rfl⟩:=bools_at r' i v (by simpa using hP)
  simp only[e,Option.getD_some]at hQ
  exact wpAny_truthy_bool hQ
 ·have e:((List.range its.toArray.size).all fun i=>(bs[i]?).getD true)=bs.all id:=by rw[List.size_toArray,len];exact LSm.range_all bs
  rw[e]
  exact⟨.bl _,H,I.kept (t':=tk) (LSm.kept_iter hk),rfl,q⟩
variable{a b c d:Expr}{ta tb tc td:TE}{pos:Pos}
noncomputable def tChain3(r r' r'':R2)(ta tb tc td:TE):TE:=fun σ H Q=>ta σ H fun x H1=>tb σ H1 fun y H2=>r x y H2 fun z H3=>∃ k,z = .bl k /\
 (if k=true then tc σ H3 fun w' H4=>r' y w' H4 fun z' H5=>∃ k',z' = .bl k'/\(if k'=true then td σ H5 fun w'' H6=>r'' w' w'' H6 Q else Q (.bl false) H5)else Q (.bl false) H3)
theorem pe_chain3{op op' op'':CmpOp}{r r' r'':R2}(ho:OpR X (compareOp op) r)(ho':OpR X (compareOp op') r')(ho'':OpR X (compareOp op'') r'')(ha:PE X a ta)(hb:PE X b tb)(hc:PE X c tc)(hd:PE X d td)
  (hm:lastMarks [op,op',op''] [b,c,d]=false:=by with_unfolding_all rfl):PE X (.Compare a [op,op',op''] [b,c,d] pos) (tChain3 r r' r'' ta tb tc td):=by
 intro pins s σ H Q I h
 refine Compare_chain (thn (ha pins s σ H _ I h) fun v s1 ⟨x,H1,I1,r1,q1⟩=>chain_link (thn (hb pins s1 σ H1 _ I1 q1) fun u s2 ⟨y,H2,I2,r2,q2⟩=>thn (ho pins s2 σ H2 x y v u _ I2 r1 r2 q2) fun d' s3 ⟨z,H3,I3,r3,k,e,q3⟩=>?_)) hm
 subst e
 cases r3
 refine wpAny_truthy_bool ?_
 cases k with
 |false=>exact ite_ff ⟨.bl false,H3,I3,rfl,q3⟩
 |true =>
  refine ite_tt (chain_link (thn (hc pins s3 σ H3 _ I3 q3) fun w' s4 ⟨z',H4,I4,r4,q4⟩=>thn (ho' pins s4 σ H4 y z' u w' _ I4 r2 r4 q4) fun d'' s5 ⟨z2,H5,I5,r5,k2,e2,q5⟩=>?_))
  subst e2
  cases r5
  refine wpAny_truthy_bool ?_
  cases k2 with
  |false=>exact ite_ff ⟨.bl false,H5,I5,rfl,q5⟩
  |true=>exact ite_tt (chain_last (thn (hd pins s5 σ H5 _ I5 q5) fun w'' s6 ⟨z3,H6,I6,r6,q6⟩=>ho'' pins s6 σ H6 z' z3 w' w'' Q I6 r4 r6 q6))
end
open PySem PySem.W PyProof.Rows Srt
section
variable{X:Cx}
inductive TyF(H:Hp):V->Value->Prop where
 |non:TyF H .non (.type "NoneType")
 |bl (x:Bool):TyF H (.bl x) (.type "bool")
 |int (i:Int):TyF H (.int i) (.type "int")
 |str (x:Str):TyF H (.str x) (.type "str")
 |lst {a:Addr}{xs:List V} (e:H a=some (.lst xs)):TyF H (.ref a) (.type "list")
 |tup {a:Addr}{xs:List V} (e:H a=some (.tup xs)):TyF H (.ref a) (.type "tuple")
theorem TyF.of{K:PySem.W.Frag}{H:Hp}{x:V}{t:Value}(h:TyF H x t):TyOf K H x t:=by
 cases h with
 |non=>exact .non
 |bl x=>exact .bl x
 |int i=>exact .int i
 |str x=>exact .str x
 |lst e=>exact .lst e
 |tup e=>exact .tup e
theorem call_isinst2:CallR X (.builtin "isinstance") (fun xs H Q=>∃ x t p b,xs=[x,V.ref p]/\TyF H x t/\H p=some (.tup [.ty "list",.ty "tuple"])/\PySem.W.kitAny X.K t [.type "list",.type "tuple"]=some b/\Q (.bl b) H):=by
 intro pins s σ H xs us Q I r h
 obtain⟨x,t,p,b,rfl,ty,hp,e,q⟩:=h
 obtain⟨u,u',rfl,rx,rc⟩:=vals2 r
 cases rc
 obtain⟨z,its,rv,o,e0,c,n,d⟩:=I.hok p _ hp
 obtain⟨cls,dd,dat,sl⟩:=o
 cases c
 cases d
 cases rv with
 |cons r1 r2 =>
  cases r2 with
  |cons r2 r3 =>
   cases r3
   cases r1
   cases r2
   have fin:∀ tk,EP X pins σ Q (.bool b) { s with toks:=tk }:=fun tk=>⟨.bl b,H,I.tok _,rfl,q⟩
   cases ty with
   |non=>cases(show u=Value.none from rx);exact PySem.W.kia_tup PySem.W.kitx_none I.kIn True.intro e0 e (fun z=>nomatch z) fin
   |bl y=>cases(show u=Value.bool y from rx);exact PySem.W.kia_tup PySem.W.kitx_bool I.kIn True.intro e0 e (fun z=>nomatch z) fin
   |int i=>obtain⟨t,q⟩:=(show ∃ t,u=Value.int i t from rx);cases q;exact PySem.W.kia_tup PySem.W.kitx_int I.kIn True.intro e0 e (fun z=>nomatch z) fin
   |str y=>obtain⟨t,q⟩:=(show ∃ t,u=Value.str y t from rx);cases q;exact PySem.W.kia_tup PySem.W.kitx_str I.kIn True.intro e0 e (fun z=>nomatch z) fin
   | @lst a xs ea =>
    cases(show u=Value.ref a from rx)
    obtain⟨_,_,n,_,h1⟩:=(show ObjOk X.prog X.w H s.heap a (.lst xs)from I.hok a _ ea)
    exact PySem.W.kia_tup PySem.W.kitx_list I.kIn ⟨_,h1,rfl⟩ e0 e (fun z=>nomatch z) fin
   | @tup a xs ea =>
    cases(show u=Value.ref a from rx)
    obtain⟨_,_,_,pp⟩:=(show ObjOk X.prog X.w H s.heap a (.tup xs)from I.hok a _ ea)
    obtain⟨o,h1,h2,_⟩:=pp
    exact PySem.W.kia_tup PySem.W.kitx_tuple I.kIn ⟨o,h1,h2⟩ e0 e (fun z=>nomatch z) fin
end
inductive Dt where
 |non | bl (b:Bool) | int (i:Int) | str (x:Str) | lst (ds:List Dt) | tup (ds:List Dt)
noncomputable def Dat(H:Hp):Nat->V->Dt->Prop
 | _,v,.non=>v = .non
 | _,v,.bl b=>v = .bl b
 | _,v,.int i=>v = .int i
 | _,v,.str x=>v = .str x
 | 0,_,.lst _=>False
 | 0,_,.tup _=>False
 |n+1,v,.lst ds=>∃ a xs,v = .ref a/\xs.length<=1000/\H a=some (.lst xs)/\Paired (Dat H n) xs ds
 |n+1,v,.tup ds=>∃ a xs,v = .ref a/\xs.length<=1000/\H a=some (.tup xs)/\Paired (Dat H n) xs ds
theorem Dat.same{H H':Hp}(s:Same H H'):∀ {n:Nat}{v:V}{d:Dt},Dat H n v d->Dat H' n v d
 | 0,v,.non,h=>h
 | 0,v,.bl _,h=>h
 | 0,v,.int _,h=>h
 | 0,v,.str _,h=>h
 |n+1,v,.non,h=>h
 |n+1,v,.bl _,h=>h
 |n+1,v,.int _,h=>h
 |n+1,v,.str _,h=>h
 |n+1,v,.lst ds,h=>by
  obtain⟨a,xs,e,l,ha,p⟩:=h
  exact⟨a,xs,e,l,s _ _ ha,Paired.mapP p fun x d z=>Dat.same s (n:=n) z⟩
 |n+1,v,.tup ds,h=>by
  obtain⟨a,xs,e,l,ha,p⟩:=h
  exact⟨a,xs,e,l,s _ _ ha,Paired.mapP p fun x d z=>Dat.same s (n:=n) z⟩
open PySem PyProof.Rows
section
variable{K:PySem.W.Frag}{a:Addr}{xs:List V}{g:TG}{tc:TT}{te:TE}{cap:List (Option Nat)}{σ:St}{H1:Hp}{Q:VK}
theorem comp_tup(P:Nat->List V->Hp->Prop)(hz:xs.length<=sizeLine)(p0:P 0 [] H1)(hl:∀ i ys H,i<=xs.length->P i ys H->SqT K H a xs)
  (hs:∀ i x ys H,xs[i]?=some x->P i ys H->g x (capt cap σ) H fun σ2 H2=>Kp (capt cap σ) σ2/\tc σ2 H2 fun b H3=>if b=true then te σ2 H3 fun y H4=>P (i+1) (ys++[y]) H4 else P (i+1) ys H3)
  (hd:∀ ys H,ys.length<=xs.length->P xs.length ys H->∀ D,H D=none->Q (.ref D) (upd H D (.lst ys))):compTurns (Itt K a) cap σ H1 Q g tc te:=by
 refine⟨xs.length,P,hz,p0,fun i ys H yl il p=>?_⟩
 have q:=hl i ys H il p
 by_cases hlt:i<xs.length
 ·refine .inr ⟨hlt,⟨xs,xs[i],q,by simp[hlt]⟩,fun x H' y=>?_⟩
  obtain⟨e,y⟩:=y
  subst e
  exact hs i x ys _ (y xs q) p
 ·have e:i=xs.length:=by lia
  subst e
  exact .inl ⟨⟨xs,q,Nat.le_refl _⟩,hd ys H yl p⟩
theorem comp_list(P:Nat->List V->Hp->Prop)(hz:xs.length<=sizeLine)(p0:P 0 [] H1)(hl:∀ i ys H,i<=xs.length->P i ys H->SqL K H a xs)
  (hs:∀ i x ys H,xs[i]?=some x->P i ys H->g x (capt cap σ) H fun σ2 H2=>Kp (capt cap σ) σ2/\tc σ2 H2 fun b H3=>if b=true then te σ2 H3 fun y H4=>P (i+1) (ys++[y]) H4 else P (i+1) ys H3)
  (hd:∀ ys H,ys.length<=xs.length->P xs.length ys H->∀ D,H D=none->Q (.ref D) (upd H D (.lst ys))):compTurns (Itl K a) cap σ H1 Q g tc te:=by
 refine⟨xs.length,P,hz,p0,fun i ys H yl il p=>?_⟩
 have q:=hl i ys H il p
 by_cases hlt:i<xs.length
 ·refine .inr ⟨hlt,⟨xs,xs[i],q,by simp[hlt]⟩,fun x H' y=>?_⟩
  obtain⟨e,y⟩:=y
  subst e
  exact hs i x ys _ (y xs q) p
 ·have e:i=xs.length:=by lia
  subst e
  exact .inl ⟨⟨xs,q,Nat.le_refl _⟩,hd ys H yl p⟩
theorem comp_range{lo:Int}{n:Nat}(P:Nat->List V->Hp->Prop)(hz:n<=sizeLine)(p0:P 0 [] H1)
  (hs:∀ i ys H,i<n->P i ys H->g (.int (lo+i)) (capt cap σ) H fun σ2 H2=>Kp (capt cap σ) σ2/\tc σ2 H2 fun b H3=>if b=true then te σ2 H3 fun y H4=>P (i+1) (ys++[y]) H4 else P (i+1) ys H3)
  (hd:∀ ys H,ys.length<=n->P n ys H->∀ D,H D=none->Q (.ref D) (upd H D (.lst ys))):compTurns (Itr lo n) cap σ H1 Q g tc te:=by
 refine⟨n,P,hz,p0,fun i ys H yl il p=>?_⟩
 by_cases hlt:i<n
 ·refine .inr ⟨hlt,hlt,fun x H' y=>?_⟩
  obtain⟨e,y⟩:=y
  subst e y
  exact hs i ys _ hlt p
 ·have e:i=n:=by lia
  subst e
  exact .inl ⟨Nat.le_refl _,hd ys H yl p⟩
end
noncomputable def capB(cap:List (Option Nat))(N' N:List Str)(names:List (Str×NameKind)):Bool:=(List.range cap.length).all fun j=>match cap[j]? with
 |some (some i)=>(match N'[j]? with
  |some x=>decide (N[i]?=some x/\names.lookup x=some .free)
  |none=>false)
 | _=>true
theorem capB_ok{cap:List (Option Nat)}{N' N:List Str}{names:List (Str×NameKind)}(h:capB cap N' N names=true):∀ j∈List.range cap.length,match cap[j]? with
  |some (some i)=>match N'[j]? with
   |some x=>N[i]?=some x/\names.lookup x=some .free
   |none=>False
  | _=>True:=by
 intro j hj
 have z:=List.all_eq_true.mp h j hj
 revert z
 cases e1:cap[j]? with
 |none=>intro _;trivial
 |some o =>
  cases o with
  |none=>intro _;trivial
  |some i =>
   cases e2:N'[j]? with
   |none =>
    intro z
    dsimp only at z
    exact absurd z Bool.false_ne_true
   |some x =>
    intro z
    dsimp only at z
    exact of_decide_eq_true z
theorem op_catTK{X:Cx}(K:PySem.W.Frag)(e:X.K=K):OpR X (binaryOp .Add) (rCatT K):=e▸op_catT
theorem pg_tupK{X:Cx}{pos:Pos}(K:PySem.W.Frag)(e:X.K=K){es:List Expr}{k:Nat}{t:TGs}{n:Nat}(hc:X.calm=true)(h:PGs X es t)
  (hn:(assignEach es X.env).length=n) (hst:(assignEach es X.env).findIdx? (·.1)=none):PG X (.Tuple es k pos) (gTup K n t):=e▸pg_tup hc h hn hst
theorem Paired.at{α β:Type}{F:α->β->Prop}:∀ {l₁:List α}{l₂:List β},Paired F l₁ l₂->∀ (i:Nat) (h1:i<l₁.length) (h2:i<l₂.length),F l₁[i] l₂[i]:=by
 intro l ks h
 induction h with
 |nil=>intro i h1;exact absurd h1 (Nat.not_lt_zero _)
 |cons h t ih =>
  intro i h1 h2
  cases i with
  |zero=>exact h
  |succ i=>exact ih i (Nat.lt_of_succ_lt_succ h1) (Nat.lt_of_succ_lt_succ h2)
theorem Same.tupq{K:PySem.W.Frag}{H H':Hp}{a:Addr}{xs:List V}(e:Same H H')(h:SqT K H a xs):SqT K H' a xs:=by
 rcases h with(h |⟨o,h⟩) | h
 ·exact .inl (.inl (e _ _ h))
 ·exact .inl (.inr ⟨o,e _ _ h⟩)
 ·exact .inr h
theorem Same.new{q:Addr}{H:Hp}{o:HO}(h:H q=none):Same H (upd H q o):=fun b u e=>by rw[upd_ne (ne_of_none e h)];exact e
section
variable{K:PySem.W.Frag}{l1 l2:Addr}{xs ys:List V}{b1 b2:Bool}{g:TG}{tc:TT}{te:TE}{cap:List (Option Nat)}{σ:St}{H1:Hp}{Q:VK}
theorem comp_zip(P:Nat->List V->Hp->Prop)(hz:min xs.length ys.length<=sizeLine)(p0:P 0 [] H1)(hl:∀ i zs H,i<=min xs.length ys.length->P i zs H->SqB b1 K H l1 xs/\SqB b2 K H l2 ys)
  (hs:∀ i x y zs H T,xs[i]?=some x->ys[i]?=some y->P i zs H->H T=none->g (.ref T) (capt cap σ) (upd H T (.tup [x,y])) fun σ2 H2=>Kp (capt cap σ) σ2/\tc σ2 H2 fun b H3=>if b=true then te σ2 H3 fun y H4=>P (i+1) (zs++[y]) H4 else P (i+1) zs H3)
  (hd:∀ zs H,zs.length<=min xs.length ys.length->P (min xs.length ys.length) zs H->∀ D,H D=none->Q (.ref D) (upd H D (.lst zs))):compTurns (Itz K b1 b2 l1 l2) cap σ H1 Q g tc te:=by
 refine⟨min xs.length ys.length,P,hz,p0,fun i zs H yl il p=>?_⟩
 obtain⟨q1,q2⟩:=hl i zs H il p
 by_cases hlt:i<min xs.length ys.length
 ·have h1:i<xs.length:=by lia
  have h2:i<ys.length:=by omega
  refine .inr ⟨hlt,⟨xs,ys,xs[i],ys[i],q1,q2,by simp[h1],by simp[h2]⟩,fun v H' y=>?_⟩
  obtain⟨T,x,y,rfl,hT,rfl,f1,f2⟩:=y
  exact hs i x y zs _ T (f1 xs q1) (f2 ys q2) p hT
 ·have e:i=min xs.length ys.length:=by lia
  subst e
  exact .inl ⟨⟨xs,ys,q1,q2,by lia⟩,hd zs H yl p⟩
end
theorem cutV_tail(xs:List V):cutV xs (some 1) none=xs.drop 1:=by
 unfold cutV
 cases xs with
 |nil=>rfl
 |cons x xs =>
  have e1:HT.sIx (x :: xs).length 0 (some 1)=1:=by simp[HT.sIx]
  have e2:HT.sIx (x :: xs).length (x :: xs).length none=(x :: xs).length:=by simp[HT.sIx]
  rw[e1,e2]
  simp
end L2
namespace K74
open PySem L2 PyProof.Rows
noncomputable def top(i:Nat):Stmt:=PySem.Challenge.pw_partedweb_k74_webs_written_and_read.main.body.getD i (.Pass ⟨0,0,0,0⟩)
noncomputable abbrev sIsNumber:Stmt:=top 4
noncomputable abbrev sAreNumbers:Stmt:=top 5
noncomputable abbrev sIsTupleOf:Stmt:=top 6
noncomputable abbrev sRises:Stmt:=top 7
noncomputable abbrev sIsTie:Stmt:=top 9
noncomputable abbrev sWebText:Stmt:=top 12
noncomputable abbrev sWebFrom:Stmt:=top 13
noncomputable abbrev sWebAhead:Stmt:=top 14
noncomputable abbrev sArePosts:Stmt:=top 15
noncomputable abbrev sNumbersBehind:Stmt:=top 16
noncomputable abbrev sIsFigures:Stmt:=top 17
noncomputable abbrev sCell:Stmt:=top 19
noncomputable abbrev sBox:Stmt:=top 20
noncomputable abbrev sTake:Stmt:=top 21
noncomputable abbrev sMany:Stmt:=top 22
noncomputable abbrev sWeight:Stmt:=top 23
noncomputable abbrev sWeb:Stmt:=top 24
noncomputable abbrev sPosts:Stmt:=top 25
noncomputable abbrev sWithPosts:Stmt:=top 26
noncomputable abbrev sText:Stmt:=top 27
noncomputable abbrev sSame:Stmt:=top 28
noncomputable abbrev sRight:Stmt:=top 29
noncomputable abbrev sLaw:Stmt:=top 30
noncomputable def Kept(p:Addr)(H H':Hp):Prop:=∀ b o,b≠p->H b=some o->H' b=some o
theorem Kept.trans{p:Addr}{H H' H'':Hp}(a:Kept p H H')(b:Kept p H' H''):Kept p H H'':=fun c o n e=>b c o n (a c o n e)
theorem Kept.new{p q:Addr}{H:Hp}{o:HO}(h:H q=none):Kept p H (upd H q o):=fun b u _ e=>by rw[upd_ne (ne_of_none e h)];exact e
theorem Kept.at{p:Addr}{H:Hp}{o:HO}:Kept p H (upd H p o):=fun b u n e=>by rw[upd_ne n];exact e
noncomputable def BoxAt(H:Hp)(p:Addr)(N:Nat):Prop:=∃ a b c:Int,H p=some (.lst [.int a,.int b,.int c])/\0<=a/\0<=c/\c<=(N:Int)
theorem BoxAt.mono{H:Hp}{p:Addr}{N M:Nat}(x:BoxAt H p N)(h:N<=M):BoxAt H p M:=by
 obtain⟨a,b,c,e,h1,h2,h3⟩:=x
 exact⟨a,b,c,e,h1,h2,by lia⟩
theorem BoxAt.new{H:Hp}{p q:Addr}{N:Nat}{o:HO}(x:BoxAt H p N)(h:H q=none):BoxAt (upd H q o) p N:=by
 obtain⟨a,b,c,e,r⟩:=x
 exact⟨a,b,c,by rw[upd_ne (ne_of_none e h)];exact e,r⟩
theorem b01(b:Bool):-(2 ^ 64) <(if b=true then 1 else 0:Int)/\(if b=true then 1 else 0:Int)<2 ^ 64:=by cases b <;> decide
theorem b0(b:Bool):(0:Int)<=(if b=true then 1 else 0:Int):=by cases b <;> decide
noncomputable def spCell(K:PySem.W.Frag):Sp:=fun vs H Q _=>∃ (a:Addr) (ns:List Int) (k:Nat),vs=[.ref a,.int k]/\SqL K H a (ns.map V.int)/\∀ z,Q (.int z) H
noncomputable def spBox(K:PySem.W.Frag):Sp:=fun vs H Q _=>∃ (a:Addr) (ns:List Int) (k:Nat),vs=[.ref a,.int k]/\SqL K H a (ns.map V.int)/\∀ p H',H p=none->BoxAt H' p 0->Kept p H H'->Q (.ref p) H'
noncomputable def spTake:Sp:=fun vs H Q _=>∃ (p:Addr) (m:Int) (N:Nat),vs=[.ref p,.int m]/\BoxAt H p N/\N<2 ^ 40/\0<m/\m<1073741824/\∀ z H',0<=z->z<m->BoxAt H' p (N+1)->Kept p H H'->Q (.int z) H'
noncomputable def spMany:Sp:=fun vs H Q _=>∃ (p:Addr) (l f m:Int) (N:Nat),vs=[.ref p,.int l,.int f,.int m]/\BoxAt H p N/\N+2<2 ^ 40/\l<=f/\7<=m/\f-l<1000/\m<1000/\∀ z H',(l<=z/\z<=f)\/(7<=z/\z<=m)->BoxAt H' p (N+2)->Kept p H H'->Q (.int z) H'
noncomputable def spWeight:Sp:=fun vs H Q _=>∃ (p:Addr) (h:Nat) (N:Nat),vs=[.ref p,.int h]/\h<4/\BoxAt H p N/\N+2<2 ^ 40/\∀ z H',(1<=z/\z<=1073741824)->BoxAt H' p (N+2)->Kept p H H'->Q (.int z) H'
structure Txt(mg:Str->Option Value):Prop where
 abs:mg "abs" = none
 int:mg "int" = none
 len:mg "len" = none
 range:mg "range" = none
 min:mg "min" = none
 max:mg "max" = none
 tuple:mg "tuple" = none
 sorted:mg "sorted" = none
 isinst:mg "isinstance" = none
 list:mg "list" = none
 str:mg "str" = none
 bool:mg "bool" = none
 sum:mg "sum" = none
section
variable{P:Program}{w:World}{K:PySem.W.Frag}{mg:Str->Option Value}{base:Heap}
theorem scCell:FnScope ["_law_script","_law_k"] ["_law_script","_law_k"] (defScope sCell):=⟨rfl,rfl,rfl,by decide +kernel,rfl,by decide +kernel,by decide +kernel⟩
theorem ok_cell{f:Addr}{fd:FuncData}(F:Fun K "_law_cell_at" "_law_cell_at" sCell f fd)(T:Txt mg):FnOk P w K mg base CX0 1 f fd ["_law_script","_law_k"] (spCell K):=by
 refine F.ok scCell (fun vs H Q E h=>?_) (fun cdv A outer s H vs Q E hr h=>?_)
 ·obtain⟨a,ns,k,rfl,_⟩:=h
  rfl
 ·obtain⟨a,ns,k,rfl,hS,q⟩:=h
  refine⟨_,pss_cons (ps_if (pt_cmpR op_lt (pv 1) (pe_callB call_len_seq (by rfl) T.len PySem.boot_len (pa_cons (pv 0) pa_nil)) (nomark _)) (pss_one (ps_ret (pe_ix ix_list (pv 0) (pv 1) (fun _ _=>rfl)))) pss_nil) (pss_one (ps_ret pe_int)),?_⟩
  refine⟨_,rfl,_,rfl,a,_,rfl,.inl hS,_,_,rfl,rfl,_,rfl,?_⟩
  refine ite2 (fun hk=>?_) (fun _=>?_)
  ·have hk':k<ns.length:=by
    have:=of_decide_eq_true hk
    rw[List.length_map]at this
    lia
   exact⟨_,rfl,_,rfl,a,_,_,_,rfl,rfl,hS,atI_nat (v:=V.int ns[k]) (by rw[List.getElem?_map,List.getElem?_eq_getElem hk'];rfl),q _⟩
  ·exact q _
theorem scBox:FnScope ["_law_script","_law_k","_law_cell"] ["_law_script","_law_k"] (defScope sBox):=⟨rfl,rfl,rfl,by decide +kernel,rfl,by decide +kernel,by decide +kernel⟩
theorem ok_box{f g:Addr}{fd gd:FuncData}(F:Fun K "_law_box" "_law_box" sBox f fd)(T:Txt mg)(G:Fun K "_law_cell_at" "_law_cell_at" sCell g gd)(mG:mg "_law_cell_at" = some (.ref g))(bG:Binds K gd ["_law_script","_law_k"] []):FnOk P w K mg base CX0 2 f fd ["_law_script","_law_k"] (spBox K):=by
 refine F.ok scBox (fun vs H Q E h=>?_) (fun cdv A outer s H vs Q E hr h=>?_)
 ·obtain⟨a,ns,k,rfl,_⟩:=h
  rfl
 ·obtain⟨a,ns,k,rfl,hS,q⟩:=h
  have GG:FnOk P w K mg base CX0 1 g gd ["_law_script","_law_k"] (spCell K):=ok_cell G T
  refine⟨_,pss_cons (ps_set (i:=2) scBox.nd rfl (Or.inl rfl) (pe_call GG hr rfl mG G.kp bG .nil pass0 (pa_cons (pv 0) (pa_cons (pv 1) pa_nil))))
   (pss_one (ps_ret (pe_lst (pa_cons (pe_op op_mul (pe_callB call_abs (by rfl) T.abs boot_abs (pa_cons (pv 2) pa_nil)) (pe_callTy call_int1 (by rfl) T.int boot_int (pa_cons (pe_cmpR op_ge (pe_callB call_abs (by rfl) T.abs boot_abs (pa_cons (pv 2) pa_nil)) (pe_op op_pow pe_int pe_int) (nomark _)) pa_nil)))
    (pa_cons (pe_op op_add (pe_op op_add (pe_op op_mod (pv 2) pe_int) (pe_op op_mul pe_int (pv 1))) pe_int) (pa_cons pe_int pa_nil)))))),?_⟩
  refine⟨_,rfl,_,rfl,a,ns,k,rfl,hS,fun z=>?_⟩
  refine⟨_,rfl,_,rfl,_,rfl,_,rfl,_,_,rfl,rfl,⟨by decide,by decide,by decide⟩,_,_,rfl,rfl,.inr ⟨_,rfl,_,_,rfl,rfl,.inr ?_,_,rfl,_,_,rfl,rfl,(by show(0:Int)<2305843009213693951;decide),_,rfl,_,_,rfl,rfl,.inl ⟨by decide,by decide⟩,_,_,rfl,rfl,_,_,rfl,rfl,(by show 3<=sizeLine;decide),fun p hp=>?_⟩⟩
  ·exact b01 _
  ·refine q p _ hp ⟨_,_,_,upd_same,?_,by decide,by decide⟩ (Kept.new hp)
   refine Int.mul_nonneg ?_ ?_
   ·split <;> lia
   ·exact b0 _
theorem scTake:FnScope ["_law_box_here","_law_many_here","_law_found","_law_once","_law_twice"] ["_law_box_here","_law_many_here"] (defScope sTake):=⟨rfl,rfl,rfl,by decide +kernel,rfl,by decide +kernel,by decide +kernel⟩
theorem ok_take{f:Addr}{fd:FuncData}(F:Fun K "_law_take" "_law_take" sTake f fd):FnOk P w K mg base CX0 1 f fd ["_law_box_here","_law_many_here"] spTake:=by
 refine F.ok scTake (fun vs H Q E h=>?_) (fun cdv A outer s H vs Q E hr h=>?_)
 ·obtain⟨p,m,N,rfl,_⟩:=h
  rfl
 ·obtain⟨p,m,N,rfl,⟨a,b,c,hp,a0,c0,cN⟩,hN,m0,m1,q⟩:=h
  have hS:∀ {x y z:Int}{G:Hp},G p=some (.lst [.int x,.int y,.int z])->SqL K G p [.int x,.int y,.int z]:=fun e=>SqL.of e
  refine⟨_,pss_cons (ps_if (pt_cmpR op_gt (pe_ix ix_list (pv 0) pe_int (fun _ _=>rfl)) pe_int (nomark _))
    (pss_cons (ps_set (i:=2) scTake.nd rfl (Or.inl rfl) (pe_op op_mod (pe_ix ix_list (pv 0) pe_int (fun _ _=>rfl)) (pv 1)))
     (pss_cons (ps_asg (pe_op op_fdiv (pe_ix ix_list (pv 0) pe_int (fun _ _=>rfl)) (pv 1)) (pg_sub (pv 0) pe_int set_list))
     (pss_one (ps_ret (pv 2))))) pss_nil)
   (pss_cons (ps_asg (pe_op op_add (pe_ix ix_list (pv 0) pe_int (fun _ _=>rfl)) pe_int) (pg_sub (pv 0) pe_int set_list))
   (pss_cons (ps_set (i:=3) scTake.nd rfl (Or.inl rfl) (pe_op op_mod (pe_op op_mul (pe_op op_add (pe_ix ix_list (pv 0) pe_int (fun _ _=>rfl)) (pe_op op_mul pe_int (pe_ix ix_list (pv 0) pe_int (fun _ _=>rfl)))) (pe_op op_add pe_int (pe_ix ix_list (pv 0) pe_int (fun _ _=>rfl)))) pe_int))
   (pss_cons (ps_set (i:=4) scTake.nd rfl (Or.inl rfl) (pe_op op_mod (pe_op op_mul (pe_op op_add (pv 3) (pe_ix ix_list (pv 0) pe_int (fun _ _=>rfl))) (pe_op op_add (pe_op op_mod (pv 3) pe_int) pe_int)) pe_int))
   (pss_one (ps_ret (pe_op op_mod (pe_op op_fdiv (pe_op op_mod (pe_op op_add (pe_op op_mul (pv 4) pe_int) (pv 3)) pe_int) pe_int) (pv 1))))))),?_⟩
  refine⟨_,rfl,p,_,_,_,rfl,rfl,hS hp,rfl,_,_,rfl,rfl,_,rfl,?_⟩
  refine ite2 (fun hk=>?_) (fun _=>?_)
  ·have pos:0<a:=of_decide_eq_true hk
   refine⟨_,rfl,p,_,_,_,rfl,rfl,hS hp,rfl,_,rfl,_,_,rfl,rfl,m0,?_⟩
   refine⟨_,rfl,p,_,_,_,rfl,rfl,hS hp,rfl,_,rfl,_,_,rfl,rfl,⟨m0,m1⟩,_,rfl,p,_,_,_,rfl,rfl,hp,rfl,_,rfl,?_⟩
   refine q _ _ (Int.emod_nonneg _ (by lia)) (Int.emod_lt_of_pos _ m0) ⟨_,_,_,upd_same,Int.ediv_nonneg a0 (by lia),c0,by lia⟩ Kept.at
  ·refine⟨_,rfl,p,_,_,_,rfl,rfl,hS hp,rfl,_,_,rfl,rfl,_,rfl,p,_,_,_,rfl,rfl,hp,rfl,?_⟩
   have g1:(upd H p (.lst [.int a,.int b,.int (c+1)])) p=some (.lst [.int a,.int b,.int (c+1)]):=upd_same
   refine⟨_,rfl,p,_,_,_,rfl,rfl,hS g1,rfl,_,rfl,p,_,_,_,rfl,rfl,hS g1,rfl,_,_,rfl,rfl,.inl ⟨by decide,by decide⟩,_,_,rfl,rfl,_,rfl,p,_,_,_,rfl,rfl,hS g1,rfl,_,_,rfl,rfl,_,_,rfl,rfl,.inr ⟨by lia,by lia⟩,_,_,rfl,rfl,(by show(0:Int)<2147483647;decide),?_⟩
   generalize ho:(b+48271 * (c+1)) * (39373+(c+1)) % 2147483647=once
   have o0:0<=once:=by rw[<- ho];exact Int.emod_nonneg _ (by decide)
   have o1:once<2147483647:=by rw[<- ho];exact Int.emod_lt_of_pos _ (by decide)
   refine⟨_,rfl,_,rfl,p,_,_,_,rfl,rfl,hS g1,rfl,_,_,rfl,rfl,_,rfl,_,_,rfl,rfl,(by show(0:Int)<40009;decide),_,_,rfl,rfl,_,_,rfl,rfl,.inl ⟨by lia,by lia⟩,_,_,rfl,rfl,(by show(0:Int)<2147483629;decide),?_⟩
   generalize ht:(once+(c+1)) * (once % 40009+7) % 2147483629=twice
   have t0:0<=twice:=by rw[<- ht];exact Int.emod_nonneg _ (by decide)
   have t1:twice<2147483629:=by rw[<- ht];exact Int.emod_lt_of_pos _ (by decide)
   refine⟨_,rfl,_,_,rfl,rfl,.inl ⟨by lia,by lia⟩,_,rfl,_,_,rfl,rfl,_,_,rfl,rfl,(by show(0:Int)<2147483587;decide),_,_,rfl,rfl,⟨by decide,by decide⟩,_,rfl,_,_,rfl,rfl,m0,?_⟩
   exact q _ _ (Int.emod_nonneg _ (by lia)) (Int.emod_lt_of_pos _ m0) ⟨_,_,_,g1,a0,by lia,by lia⟩ Kept.at
theorem scMany:FnScope ["_law_box_here","_law_least","_law_few","_law_most"] ["_law_box_here","_law_least","_law_few","_law_most"] (defScope sMany):=⟨rfl,rfl,rfl,by decide +kernel,rfl,by decide +kernel,by decide +kernel⟩
structure TakeF(P:Program)(w:World)(K:PySem.W.Frag)(mg:Str->Option Value)(base:Heap)(g:Addr)(gd:FuncData):Prop where
 ok:FnOk P w K mg base CX0 1 g gd ["_law_box_here","_law_many_here"] spTake
 mg:mg "_law_take" = some (.ref g)
 kp:PySem.W.keepIn K (.ref g)=true
 bd:Binds K gd ["_law_box_here","_law_many_here"] []
theorem ok_many{f g:Addr}{fd gd:FuncData}(F:Fun K "_law_many" "_law_many" sMany f fd)(G:TakeF P w K mg base g gd):FnOk P w K mg base CX0 2 f fd ["_law_box_here","_law_least","_law_few","_law_most"] spMany:=by
 refine F.ok scMany (fun vs H Q E h=>?_) (fun cdv A outer s H vs Q E hr h=>?_)
 ·obtain⟨p,l,f,m,N,rfl,_⟩:=h
  rfl
 ·obtain⟨p,l,f,m,N,rfl,B,hN,lf,m7,fl,mm,q⟩:=h
  refine⟨_,pss_cons (ps_if (pt_cmpR op_eq (pe_call G.ok hr rfl G.mg G.kp G.bd .nil pass0 (pa_cons (pv 0) (pa_cons pe_int pa_nil))) pe_int (nomark _))
   (pss_one (ps_ret (pe_op op_add pe_int (pe_call G.ok hr rfl G.mg G.kp G.bd .nil pass0 (pa_cons (pv 0) (pa_cons (pe_op op_sub (pv 3) pe_int) pa_nil)))))) pss_nil)
   (pss_one (ps_ret (pe_op op_add (pv 1) (pe_call G.ok hr rfl G.mg G.kp G.bd .nil pass0 (pa_cons (pv 0) (pa_cons (pe_op op_add (pe_op op_sub (pv 2) (pv 1)) pe_int) pa_nil)))))),?_⟩
  refine⟨_,rfl,p,_,N,rfl,B,by lia,by decide,by decide,fun z H1 z0 z1 B1 k1=>⟨rfl,_,rfl,?_⟩⟩
  refine ite2 (fun _=>?_) (fun _=>?_)
  ·refine⟨_,rfl,_,rfl,_,_,rfl,rfl,p,_,N+1,rfl,B1,by lia,by lia,by lia,fun y H2 y0 y1 B2 k2=>⟨_,_,rfl,rfl,?_⟩⟩
   exact q _ _ (.inr ⟨by lia,by lia⟩) B2 (k1.trans k2)
  ·refine⟨_,rfl,_,rfl,_,rfl,_,rfl,_,_,rfl,rfl,_,_,rfl,rfl,p,_,N+1,rfl,B1,by lia,by lia,by lia,fun y H2 y0 y1 B2 k2=>⟨_,_,rfl,rfl,?_⟩⟩
   exact q _ _ (.inl ⟨by lia,by lia⟩) B2 (k1.trans k2)
theorem scWeight:FnScope ["_law_box_here","_law_heavy"] ["_law_box_here","_law_heavy"] (defScope sWeight):=⟨rfl,rfl,rfl,by decide +kernel,rfl,by decide +kernel,by decide +kernel⟩
theorem ok_weight{f g:Addr}{fd gd:FuncData}(F:Fun K "_law_weight" "_law_weight" sWeight f fd)(G:TakeF P w K mg base g gd):FnOk P w K mg base CX0 2 f fd ["_law_box_here","_law_heavy"] spWeight:=by
 refine F.ok scWeight (fun vs H Q E h=>?_) (fun cdv A outer s H vs Q E hr h=>?_)
 ·obtain⟨p,h,N,rfl,_⟩:=h
  rfl
 ·obtain⟨p,h,N,rfl,h4,B,hN,q⟩:=h
  refine⟨_,pss_one (ps_ret (pe_op op_add pe_int (pe_call G.ok hr rfl G.mg G.kp G.bd .nil pass0 (pa_cons (pv 0) (@pa_sub _ _ _ _ _ _ _
   (@pe_ix _ _ _ _ _ _ _ ix_list (@pe_lst _ _ _ _ (@pa_cst _ _ _ _ _ _ _ pe_int (@pa_cst _ _ _ _ _ _ _ pe_int (@pa_cst _ _ _ _ _ _ _ pe_int (@pa_sub _ _ _ _ _ _ _ (@pe_ix _ _ _ _ _ _ _ ix_list (@pe_lst _ _ _ _ (@pa_cst _ _ _ _ _ _ _ pe_int (@pa_cst _ _ _ _ _ _ _ pe_int (@pa_bin _ _ _ _ _ _ _ _ (pe_op op_pow pe_int pe_int) pa_nil)))) (pe_call G.ok hr rfl G.mg G.kp G.bd .nil pass0 (pa_cons (pv 0) (pa_cons pe_int pa_nil))) (fun _ _=>rfl)) pa_nil))))) (pv 1) (fun _ _=>rfl)) pa_nil))))),?_⟩
  refine⟨_,rfl,10,9,rfl,rfl,⟨by decide,by decide,by decide⟩,?_⟩
  refine⟨(by show 3<=sizeLine;decide),fun l hl=>?_⟩
  refine⟨_,rfl,p,_,N,rfl,B.new hl,by lia,by decide,by decide,fun z H1 z0 z1 B1 k1=>?_⟩
  have lp:l≠p:=fun e=>by
   obtain⟨a,b,c,e1,_⟩:=B
   rw[e,e1]at hl
   cases hl
  have el:=k1 l _ lp upd_same
  obtain⟨zn,rfl⟩:∃ zn:Nat,z=(zn:Int):=⟨z.toNat,by lia⟩
  have e9:((10:Int) ^ (Int.toNat 9))=1000000000:=by decide +kernel
  dsimp only at el
  rw[e9]at el
  have h3:zn<3:=by lia
  obtain⟨v,hv,v0,v1⟩:∃ v:Int,[V.int 10,V.int 100,V.int 1000000000][zn]?=some (V.int v)/\0<v/\v<1073741824:=by
   match zn,h3 with
   | 0,_=>exact⟨_,rfl,by decide,by decide⟩
   | 1,_=>exact⟨_,rfl,by decide,by decide⟩
   | 2,_=>exact⟨_,rfl,by decide,by decide⟩
  refine⟨l,_,_,_,rfl,rfl,SqL.of el,atI_nat hv,(by show 4<=sizeLine;decide),fun l2 hl2=>?_⟩
  obtain⟨v',hv',v0',v1'⟩:∃ v':Int,[V.int 1,V.int 3,V.int 9,V.int v][h]?=some (V.int v')/\0<v'/\v'<1073741824:=by
   match h,h4 with
   | 0,_=>exact⟨_,rfl,by decide,by decide⟩
   | 1,_=>exact⟨_,rfl,by decide,by decide⟩
   | 2,_=>exact⟨_,rfl,by decide,by decide⟩
   | 3,_=>exact⟨_,rfl,v0,v1⟩
  refine⟨_,rfl,l2,_,_,_,rfl,rfl,SqL.of upd_same,atI_nat hv',p,_,N+1,rfl,B1.new hl2,by lia,v0',v1',fun y H2 y0 y1 B2 k2=>⟨_,_,rfl,rfl,?_⟩⟩
  exact q _ _ (by lia) B2 ((Kept.new hl).trans (k1.trans ((Kept.new hl2).trans k2)))
end
noncomputable abbrev Tie:=Int×Int×Int
noncomputable def tieV(x:Tie):List V:=[.int x.1,.int x.2.1,.int x.2.2]
structure WebAt(H:Hp)(t:Addr)(n:Nat)(ties:List Tie):Prop where
 ex:∃ (ts:Addr) (as:List Addr),H t=some (.tup [.int n,.ref ts])/\H ts=some (.tup (as.map V.ref))/\Paired (fun a x=>H a=some (.tup (tieV x))) as ties
 len:ties.length<=120
theorem WebAt.same{H H':Hp}{t:Addr}{n:Nat}{ties:List Tie}(W:WebAt H t n ties)(s:Same H H'):WebAt H' t n ties:=by
 obtain⟨⟨ts,as,h1,h2,h3⟩,l⟩:=W
 exact⟨⟨ts,as,s _ _ h1,s _ _ h2,Paired.mapP h3 fun a x e=>s _ _ e⟩,l⟩
theorem Kept.free{p l:Addr}{H H':Hp}{M:Nat}(k:Kept p H H')(B:BoxAt H' p M)(h:H' l=none):H l=none:=by
 cases e:H l with
 |none=>rfl
 |some o =>
  by_cases lp:l=p
  ·obtain⟨a,b,c,e1,_⟩:=B
   rw[lp,e1]at h
   cases h
  ·rw[k l o lp e]at h
   cases h
theorem BoxAt.ne{H:Hp}{p l:Addr}{N:Nat}(B:BoxAt H p N)(h:H l=none):l≠p:=fun e=>by
 obtain⟨a,b,c,e1,_⟩:=B
 rw[e,e1]at h
 cases h
theorem Kept.put{p d:Addr}{H H':Hp}{o:HO}(k:Kept p H H')(h:H d=none):Kept p H (upd H' d o):=fun b u n e=>by
 rw[upd_ne (ne_of_none e h)]
 exact k b u n e
theorem BoxAt.put{H:Hp}{p d:Addr}{N:Nat}{o:HO}(B:BoxAt H p N)(h:d≠p):BoxAt (upd H d o) p N:=by
 obtain⟨a,b,c,e,r⟩:=B
 exact⟨a,b,c,by rw[upd_ne (Ne.symm h)];exact e,r⟩
theorem tTru_if{σ:L2.St}{H:Hp}{A B:Hp->Prop}(h:A H):tTru σ H (fun b H3=>if b=true then A H3 else B H3):=by
 show if true=true then A H else B H
 exact iteT h
theorem Paired.snoc{α β:Type}{F:α->β->Prop}:∀ {l₁:List α}{l₂:List β}{a:α}{b:β},Paired F l₁ l₂->F a b->Paired F (l₁++[a]) (l₂++[b]):=by
 intro l ks a b h r
 induction h with
 |nil=>exact .cons r .nil
 |cons q t ih=>exact .cons q ih
noncomputable def TieOk(n:Nat)(x:Tie):Prop:=0<=x.1/\x.1<x.2.1/\x.2.1<n/\1<=x.2.2/\x.2.2<=1073741824
noncomputable def tieLt(x y:Tie):Prop:=Srt.lexlt [x.1,x.2.1] [y.1,y.2.1]=true
noncomputable def KeyOk(n:Nat)(kv:List Key×V):Prop:=∃ a b c:Int,kv=([Sum.inl a,Sum.inl b],V.int c)/\TieOk n (a,b,c)
noncomputable def DInv(n:Nat)(kvs:List (List Key×V)):Prop:=(∀ kv∈kvs,KeyOk n kv)/\(kvs.map (·.1)).Nodup
theorem DInv.put{n:Nat}{kvs:List (List Key×V)}(h:DInv n kvs){a b c:Int}(ok:TieOk n (a,b,c)):DInv n (putK kvs [Sum.inl a,Sum.inl b] (V.int c))/\(putK kvs [Sum.inl a,Sum.inl b] (V.int c)).length<=kvs.length+1:=by
 unfold putK
 by_cases ex:(kvs.any fun kv=>decide (kv.1=[Sum.inl a,Sum.inl b]))=true
 ·rw[if_pos ex]
  refine⟨⟨fun kv hk=>?_,?_⟩,by rw[List.length_map];lia⟩
  ·obtain⟨q,hq,e⟩:=List.mem_map.mp hk
   by_cases z:q.1=[Sum.inl a,Sum.inl b]
   ·rw[if_pos z,z]at e
    exact⟨a,b,c,e.symm,ok⟩
   ·rw[if_neg z]at e
    rw[<- e]
    exact h.1 q hq
  ·have e:(kvs.map fun kv=>if kv.1=[Sum.inl a,Sum.inl b]then(kv.1,V.int c)else kv).map (·.1)=kvs.map (·.1):=by
    rw[List.map_map]
    refine List.map_congr_left fun q _=>?_
    show(if q.1=[Sum.inl a,Sum.inl b]then(q.1,V.int c)else q).1=q.1
    split <;> rfl
   rw[e]
   exact h.2
 ·rw[if_neg ex]
  refine⟨⟨fun kv hk=>?_,?_⟩,by rw[List.length_append];exact Nat.le_refl _⟩
  ·rcases List.mem_append.mp hk with z | z
   ·exact h.1 kv z
   ·exact⟨a,b,c,List.mem_singleton.mp z,ok⟩
  ·rw[List.map_append,List.nodup_append]
   refine⟨h.2,by simp,fun x hx y hy=>?_⟩
   have ey:y=[Sum.inl a,Sum.inl b]:=by simpa using hy
   subst ey
   intro z
   subst z
   obtain⟨q,hq,e⟩:=List.mem_map.mp hx
   exact ex (List.any_eq_true.mpr ⟨q,hq,decide_eq_true e⟩)
noncomputable def unkey(k:List Key):List Int:=k.map fun x=>match x with
 | .inl i=>i
 | .inr _=>0
theorem keys_of{n:Nat}:∀ {kvs:List (List Key×V)},(∀ kv∈kvs,KeyOk n kv)->kvs.map (·.1)=List.map (List.map Sum.inl) (kvs.map fun kv=>unkey kv.1)
 |[],_=>rfl
 |kv :: kvs,h=>by
  obtain⟨a,b,c,e,_⟩:=h kv (List.mem_cons_self ..)
  rw[List.map_cons,List.map_cons,List.map_cons,keys_of fun q hq=>h q (List.mem_cons_of_mem _ hq),e]
  rfl
theorem DInv.keys{n:Nat}{kvs:List (List Key×V)}(h:DInv n kvs):kvs.map (·.1)=List.map (List.map Sum.inl) (kvs.map fun kv=>unkey kv.1):=keys_of h.1
theorem DInv.nodup{n:Nat}{kvs:List (List Key×V)}(h:DInv n kvs):(kvs.map fun kv=>unkey kv.1).Nodup:=by
 have:=h.2
 rw[h.keys]at this
 unfold List.Nodup at this ⊢
 rw[List.pairwise_map]at this
 exact this.imp fun {x y} z e=>z (by rw[e])
theorem valV_mem{kvs:List (List Key×V)}{k:List Key}(h:k∈kvs.map (·.1)):∃ v,valV kvs k=some v/\(k,v)∈kvs:=by
 induction kvs with
 |nil=>cases h
 |cons q r ih =>
  by_cases e:q.1=k
  ·exact⟨q.2,valV_pos e,by rw[<- e];exact List.mem_cons_self ..⟩
  ·rw[List.map_cons]at h
   rcases List.mem_cons.mp h with z | z
   ·exact absurd z.symm e
   ·obtain⟨v,h1,h2⟩:=ih z
    exact⟨v,(valV_neg e).trans h1,List.mem_cons_of_mem _ h2⟩
noncomputable def spWeb:Sp:=fun vs H Q _=>∃ (p:Addr) (n N:Nat),vs=[.ref p,.int n]/\BoxAt H p N/\N+1000<2 ^ 40/\1<=n/\n<=30 /\
 ∀ (t:Addr) (ties:List Tie) (H':Hp),H t=none->WebAt H' t n ties->(∀ x∈ties,TieOk n x)->ties.Pairwise tieLt->BoxAt H' p (N+1000)->Kept p H H'->Q (.ref t) H'
structure WeightF(P:Program)(w:World)(K:PySem.W.Frag)(mg:Str->Option Value)(base:Heap)(g:Addr)(gd:FuncData):Prop where
 ok:FnOk P w K mg base CX0 2 g gd ["_law_box_here","_law_heavy"] spWeight
 mg:mg "_law_weight" = some (.ref g)
 kp:PySem.W.keepIn K (.ref g)=true
 bd:Binds K gd ["_law_box_here","_law_heavy"] []
structure WI(H:Hp)(p d:Addr)(n M c:Nat)(kvs:List (List Key×V))(H':Hp):Prop where
 box:BoxAt H' p M
 dic:H' d=some (.dT kvs)
 inv:DInv n kvs
 len:kvs.length<=c
 kep:Kept p H H'
theorem WI.keep{H H' H'':Hp}{p d:Addr}{n M M' c:Nat}{kvs:List (List Key×V)}(W:WI H p d n M c kvs H')(dp:d≠p)(k:Kept p H' H'')(B:BoxAt H'' p M'):WI H p d n M' c kvs H'' :=
 ⟨B,k d _ dp W.dic,W.inv,W.len,W.kep.trans k⟩
theorem WI.mono{H H':Hp}{p d:Addr}{n M M' c c':Nat}{kvs:List (List Key×V)}(W:WI H p d n M c kvs H')(h:M<=M')(h2:c<=c'):WI H p d n M' c' kvs H' :=
 ⟨W.box.mono h,W.dic,W.inv,Nat.le_trans W.len h2,W.kep⟩
theorem WI.new{H H':Hp}{p d q:Addr}{n M c:Nat}{kvs:List (List Key×V)}{o:HO}(W:WI H p d n M c kvs H')(h:H' q=none):WI H p d n M c kvs (upd H' q o) :=
 ⟨W.box.new h,by rw[upd_ne (ne_of_none W.dic h)];exact W.dic,W.inv,W.len,W.kep.trans (Kept.new h)⟩
theorem WI.put{H H':Hp}{p d:Addr}{n M c:Nat}{kvs:List (List Key×V)}(W:WI H p d n M c kvs H')(dp:d≠p)(hd:H d=none){a b x:Int}(ok:TieOk n (a,b,x)):WI H p d n M (c+1) (putK kvs [Sum.inl a,Sum.inl b] (V.int x)) (upd H' d (.dT (putK kvs [Sum.inl a,Sum.inl b] (V.int x)))) :=
 ⟨W.box.put dp,upd_same,(W.inv.put ok).1,Nat.le_trans (W.inv.put ok).2 (Nat.succ_le_succ W.len),W.kep.put hd⟩
section
variable{P:Program}{w:World}{K:PySem.W.Frag}{mg:Str->Option Value}{base:Heap}
noncomputable abbrev nWeb:List Str:=["_law_box_here","_law_many_here","_law_heavy","_law_ties","_law_place","_law_turn","_law_one","_law_other"]
theorem scWeb:FnScope nWeb ["_law_box_here","_law_many_here"] (defScope sWeb):=⟨rfl,rfl,rfl,by decide +kernel,rfl,by decide +kernel,by decide +kernel⟩
theorem csWeb:CompScope ["_law_pair","_law_ties"] [none,some 3] nWeb (defScope sWeb) { kind:=.function,names:=[(".0",.local),("_law_pair",.local),("_law_ties",.free)],isGenerator:=false,isCoroutine:=false } :=
 ⟨rfl,by decide +kernel,by decide +kernel,by decide +kernel,rfl,capB_ok (by decide +kernel)⟩
theorem ndWeb:(["_law_pair","_law_ties"]:List Str).Nodup:=by decide +kernel
theorem ok_web{f g g2:Addr}{fd gd gd2:FuncData}(F:Fun K "_law_web" "_law_web" sWeb f fd)(T:Txt mg)(G:TakeF P w K mg base g gd)(G2:WeightF P w K mg base g2 gd2):FnOk P w K mg base CX0 3 f fd ["_law_box_here","_law_many_here"] spWeb:=by
 refine F.ok scWeb (fun vs H Q E h=>?_) (fun cdv A outer s H vs Q E hr h=>?_)
 ·obtain⟨p,n,N,rfl,_⟩:=h
  rfl
 ·obtain⟨p,n,N,rfl,B,hN,n1,n30,q⟩:=h
  have hu:=hu_of hr
  have hr1:Room 1 _:=hr.mono (by decide)
  refine⟨_,pss_cons (ps_set (i:=2) scWeb.nd rfl (Or.inl rfl) (pe_call G.ok hr1 rfl G.mg G.kp G.bd .nil pass0 (@pa_nam _ _ _ _ _ _ (pv 0) (@pa_cst _ _ _ _ _ _ _ pe_int pa_nil))))
   (pss_cons (ps_set (i:=3) scWeb.nd rfl (Or.inr rfl) pe_dnewT)
   (pss_cons (ps_for PassesOwn.never rfl (pi_range2 rfl T.range (@pa_cst _ _ _ _ _ _ _ pe_int (@pa_nam _ _ _ _ _ _ (pv 1) pa_nil))) (pg_name (i:=4) scWeb.nd rfl (Or.inl rfl))
    (pss_one (ps_if (pt_cmpR op_gt (pe_call G.ok hr1 rfl G.mg G.kp G.bd .nil pass0 (@pa_nam _ _ _ _ _ _ (pv 0) (@pa_cst _ _ _ _ _ _ _ pe_int pa_nil))) pe_int (nomark _))
     (pss_one (ps_dput hu (pv 3) (@pe_tup _ _ _ _ _ (@pa_call _ _ _ _ _ _ _ _ (pe_call G.ok hr1 rfl G.mg G.kp G.bd .nil pass0 (@pa_nam _ _ _ _ _ _ (pv 0) (@pa_nam _ _ _ _ _ _ (pv 4) pa_nil))) (@pa_nam _ _ _ _ _ _ (pv 4) pa_nil))) (pe_call G2.ok hr rfl G2.mg G2.kp G2.bd .nil pass0 (@pa_nam _ _ _ _ _ _ (pv 0) (@pa_nam _ _ _ _ _ _ (pv 2) pa_nil))) rfl)) pss_nil)))
   (pss_cons (ps_for PassesOwn.never rfl (pi_range1 rfl T.range (@pa_call _ _ _ _ _ _ _ _ (pe_callB (call_min2 rfl) (by rfl) T.min boot_min (@pa_call _ _ _ _ _ _ _ _ (pe_call G.ok hr1 rfl G.mg G.kp G.bd .nil pass0 (@pa_nam _ _ _ _ _ _ (pv 0) (@pa_bin _ _ _ _ _ _ _ _ (pe_op op_add (pe_op op_mul pe_int (pv 1)) pe_int) pa_nil))) (@pa_bin _ _ _ _ _ _ _ _ (pe_op op_sub pe_int (pv 1)) pa_nil))) pa_nil)) (pg_name (i:=5) scWeb.nd rfl (Or.inl rfl))
    (pss_cons (ps_par rfl scWeb.nd (i:=6) (j:=7) rfl rfl (by decide) rfl rfl (@pa_call _ _ _ _ _ _ _ _ (pe_call G.ok hr1 rfl G.mg G.kp G.bd .nil pass0 (@pa_nam _ _ _ _ _ _ (pv 0) (@pa_nam _ _ _ _ _ _ (pv 1) pa_nil))) (@pa_call _ _ _ _ _ _ _ _ (pe_call G.ok hr1 rfl G.mg G.kp G.bd .nil pass0 (@pa_nam _ _ _ _ _ _ (pv 0) (@pa_nam _ _ _ _ _ _ (pv 1) pa_nil))) pa_nil)) rfl)
    (pss_one (ps_if (pt_cmpR op_ne (pv 6) (pv 7) (nomark _)) (pss_one (ps_dput hu (pv 3) (@pe_tup _ _ _ _ _ (@pa_call _ _ _ _ _ _ _ _ (pe_callB (call_min2 rfl) (by rfl) T.min boot_min (@pa_nam _ _ _ _ _ _ (pv 6) (@pa_nam _ _ _ _ _ _ (pv 7) pa_nil))) (@pa_call _ _ _ _ _ _ _ _ (pe_callB (call_max2 rfl) (by rfl) T.max boot_max (@pa_nam _ _ _ _ _ _ (pv 6) (@pa_nam _ _ _ _ _ _ (pv 7) pa_nil))) pa_nil))) (pe_call G2.ok hr rfl G2.mg G2.kp G2.bd .nil pass0 (@pa_nam _ _ _ _ _ _ (pv 0) (@pa_nam _ _ _ _ _ _ (pv 2) pa_nil))) rfl)) pss_nil))))
   (pss_one (ps_ret (@pe_tup _ _ _ _ _ (@pa_nam _ _ _ _ _ _ (pv 1) (@pa_call _ _ _ _ _ _ _ _ (pe_callTy call_tuple_of (by rfl) T.tuple boot_tuple (@pa_comp _ _ _ _ _ _ _ _ (pe_comp rfl csWeb
    (pi_list (pe_callB (call_sortedD rfl) (by rfl) T.sorted boot_sorted (@pa_nam _ _ _ _ _ _ (pv 3) pa_nil)))
    (fun C s H fp=>pg_name (i:=0) ndWeb rfl (Or.inl rfl)) (fun C s H fp=>pf_nil)
    (fun C s H fp=>pe_op (op_catTK K rfl) (pv 0) (@pe_tup _ _ _ _ _ (@pa_sub _ _ _ _ _ _ _ (pe_dget hu (pv 1) (pv 0) (fun _ _=>rfl)) pa_nil)))) pa_nil)) pa_nil)))))))),?_⟩
  refine⟨_,rfl,p,_,N,rfl,B,by lia,by decide,by decide,fun z H1 z0 z1 B1 k1=>?_⟩
  obtain⟨hh,rfl⟩:∃ hh:Nat,z=(hh:Int):=⟨z.toNat,by lia⟩
  have h4:hh<4:=by lia
  intro d hd
  have dp:d≠p:=B1.ne hd
  have hd0:H d=none:=k1.free B1 hd
  have W0:WI H p d n (N+1) 0 [] (upd H1 d (.dT [])):=⟨B1.new hd,upd_same,⟨fun _ h=>(nomatch h),List.nodup_nil⟩,Nat.le_refl _,k1.trans (Kept.new hd)⟩
  refine⟨_,rfl,1,(n:Int),rfl,⟨by decide,by decide,by lia,by lia⟩,?_⟩
  refine for_range (lo:=1) (n:=((n:Int)-1).toNat) (fun i σ H'=>∃ kvs v,σ=[some (.ref p),some (.int n),some (.int hh),some (.ref d),v,none,none,none]/\WI H p d n (N+1+4 * i) i kvs H') ⟨[],none,rfl,W0⟩ ?_ ?_
  ·rintro i σ H' hi ⟨kvs,v,rfl,W⟩
   have len:=W.len
   refine⟨_,rfl,p,_,_,rfl,W.box,by lia,by decide,by decide,fun z H3 y0 y1 B3 k3=>⟨_,_,rfl,rfl,_,rfl,?_⟩⟩
   have W3:=W.keep dp k3 B3
   refine ite2 (fun _=>?_) (fun _=>?_)
   ·refine⟨_,rfl,_,rfl,p,hh,_,rfl,h4,B3,by lia,fun x H4 x1 B4 k4=>⟨_,rfl,_,rfl,_,rfl,p,_,_,rfl,B4,by lia,by lia,by omega,fun a H5 a0 a1 B5 k5=>⟨_,rfl,(by show 2<=sizeLine;decide),fun tp htp=>?_⟩⟩⟩
    have W5:=((W3.keep dp k4 B4).keep dp k5 B5).new (o:=.tup [.int a,.int (1+(i:Int))]) htp
    refine⟨d,_,rfl,DPut.t (k:=[Sum.inl a,Sum.inl (1+(i:Int))]) W5.dic upd_same (by rw[sizeLine_eq];lia),?_⟩
    exact⟨_,_,rfl,(W5.put dp hd0 ⟨a0,by show a<1+(i:Int);omega,by show 1+(i:Int) <(n:Int);omega,x1⟩).mono (by lia) (by lia)⟩
   ·exact⟨_,_,rfl,W3.mono (by lia) (by lia)⟩
  ·rintro σ H' ⟨kvs,v,rfl,W⟩
   have len0:=W.len
   refine⟨_,rfl,_,rfl,_,_,rfl,rfl,.inl ⟨by decide,by decide⟩,_,_,rfl,rfl,p,_,_,rfl,W.box,by lia,by lia,by lia,fun z H3 y0 y1 B3 k3=>⟨_,rfl,_,_,rfl,rfl,_,_,rfl,_,rfl,?_,?_,?_⟩⟩
   ·split <;> lia
   ·split <;> lia
   have W3:=W.keep dp k3 B3
   have cb:(if 91-(n:Int)<z then 91-(n:Int)else z).toNat<=91-n:=by split <;> lia
   generalize (if 91-(n:Int)<z then 91-(n:Int)else z).toNat=cnt at cb
   refine for_range (lo:=0) (n:=cnt) (fun i σ H'=>∃ kvs v4 v5 v6 v7,σ=[some (.ref p),some (.int n),some (.int hh),some (.ref d),v4,v5,v6,v7]/\WI H p d n (N+200+4 * i) (n-1+i) kvs H') ⟨kvs,v,none,none,none,rfl,W3.mono (by lia) (by lia)⟩ ?_ ?_
   ·clear W W3 B3 k3 len0
    rintro i σ H' hi ⟨kvs,v4,v5,v6,v7,rfl,W⟩
    have len:=W.len
    refine⟨_,rfl,_,rfl,p,_,_,rfl,W.box,by lia,by lia,by lia,fun x H4 x0 x1 B4 k4=>⟨_,rfl,_,rfl,p,_,_,rfl,B4,by lia,by lia,by lia,fun y H5 w0 w1 B5 k5=>⟨_,_,rfl,?_⟩⟩⟩
    have W5:=(W.keep dp k4 B4).keep dp k5 B5
    refine⟨_,rfl,_,rfl,rfl,_,rfl,?_⟩
    refine ite2 (fun hxy=>?_) (fun _=>?_)
    ·have xy:x≠y:=fun z=>by rw[z]at hxy;simp at hxy
     refine⟨_,rfl,_,rfl,p,hh,_,rfl,h4,B5,by lia,fun c H6 c1 B6 k6=>⟨_,rfl,_,rfl,_,rfl,_,_,rfl,_,rfl,_,rfl,_,_,rfl,(by show 2<=sizeLine;decide),fun tp htp=>?_⟩⟩
     have W6:=(W5.keep dp k6 B6).new (o:=.tup [.int (if y<x then y else x),.int (if y > x then y else x)]) htp
     refine⟨d,_,rfl,DPut.t (k:=[Sum.inl (if y<x then y else x),Sum.inl (if y > x then y else x)]) W6.dic upd_same (by rw[sizeLine_eq];lia),?_⟩
     refine⟨_,_,_,_,_,rfl,(W6.put dp hd0 ⟨?_,?_,?_,c1⟩).mono (by lia) (by lia)⟩
     ·show(0:Int)<=if y<x then y else x
      split <;> omega
     ·show(if y<x then y else x) <(if y > x then y else x)
      split <;> split <;> omega
     ·show(if y > x then y else x) <(n:Int)
      split <;> omega
    ·exact⟨_,_,_,_,_,rfl,W5.mono (by lia) (by lia)⟩
   ·clear W W3 B3 k3 len0
    rintro σ H' ⟨kvs,v4,v5,v6,v7,rfl,W⟩
    have len:=W.len
    refine⟨_,rfl,_,rfl,d,kvs,kvs.map (fun kv=>unkey kv.1),rfl,W.dic,W.inv.keys,fun k hk=>?_,by lia,fun l as ns hl perm pw pt=>⟨l,rfl,⟨_,SqL.of upd_same⟩,?_⟩⟩
    ·obtain⟨kv,hkv,rfl⟩:=List.mem_map.mp hk
     obtain⟨a,b,c,e,_⟩:=W.inv.1 kv hkv
     rw[e]
     exact fun z=>nomatch z
    have W1:=W.new (o:=.lst (as.map V.ref)) hl
    have lenA:as.length=ns.length:=pt.length
    have lenN:ns.length=kvs.length:=by rw[perm.length_eq,List.length_map]
    -- each key is there
    have keyAt:∀ i (h1:i<as.length),∃ a b c:Int,H' as[i]=some (.tup [.int a,.int b])/\valV kvs [Sum.inl a,Sum.inl b]=some (V.int c)/\TieOk n (a,b,c)/\ns[i]?=some [a,b]:=fun i h1=>by
     have h2:i<ns.length:=by lia
     have e1:=Paired.at pt i h1 h2
     have m1:ns[i]∈kvs.map (fun kv=>unkey kv.1):=perm.mem_iff.mp (List.getElem_mem h2)
     obtain⟨kv,hkv,e2⟩:=List.mem_map.mp m1
     obtain⟨a,b,c,e3,ok⟩:=W.inv.1 kv hkv
     rw[e3]at e2
     have e4:ns[i]=[a,b]:=e2.symm
     rw[e4]at e1
     have m2:[Sum.inl a,Sum.inl b]∈kvs.map (·.1):=List.mem_map.mpr ⟨kv,hkv,by rw[e3]⟩
     obtain⟨v,v1,v2⟩:=valV_mem m2
     obtain⟨a',b',c',e5,ok'⟩:=W.inv.1 _ v2
     cases e5
     exact⟨a,b,c',e1,v1,ok',by rw[List.getElem?_eq_getElem h2,e4]⟩
    refine comp_list (K:=K) (a:=l) (xs:=as.map V.ref) (fun i ys G=>Same (upd H' l (.lst (as.map V.ref))) G/\∃ (bs:List Addr) (tl:List Tie),ys=bs.map V.ref/\Paired (fun b x=>G b=some (.tup (tieV x))) bs tl/\(∀ x∈tl,TieOk n x)/\tl.map (fun x=>[x.1,x.2.1])=ns.take i) (by rw[List.length_map,sizeLine_eq];lia) ⟨Same.refl _,[],[],rfl,.nil,(fun _ h=>nomatch h),rfl⟩ (fun i ys G _ pp=>pp.1.seq (SqL.of upd_same)) ?_ ?_
    ·rintro i x ys G hi ⟨sm,bs,tl,rfl,pr,oks,eks⟩
     obtain⟨il,e⟩:=List.getElem?_eq_some_iff.mp hi
     rw[List.length_map]at il
     rw[List.getElem_map]at e
     subst e
     obtain⟨a,b,c,ha,hv,ok,nsi⟩:=keyAt i il
     have ha2:G as[i]=some (.tup [.int a,.int b]):=sm _ _ (by rw[upd_ne (ne_of_none ha hl)];exact ha)
     have hd2:G d=some (.dT kvs):=sm _ _ W1.dic
     have g0:DGet G d (V.ref as[i]) (valV kvs [Sum.inl a,Sum.inl b]):=DGet.t hd2 ha2
     rw[hv]at g0
     refine⟨⟨rfl,trivial⟩,tTru_if ?_⟩
     refine⟨_,rfl,_,rfl,_,rfl,d,_,rfl,g0,(by show 1<=sizeLine;decide),fun t1 ht1=>⟨as[i],t1,[.int a,.int b],[.int c],rfl,rfl,SqT.of (by rw[upd_ne (ne_of_none ha2 ht1)];exact ha2),SqT.of upd_same,(fun z=>nomatch z),(by show 3<=sizeLine;decide),(fun z=>nomatch z),fun _ t2 ht2=>?_⟩⟩
     have sm2:Same G (upd (upd G t1 (.tup [.int c])) t2 (.tup ([.int a,.int b]++[.int c]))):=(Same.new ht1).trans (Same.new ht2)
     refine⟨sm.trans sm2,bs++[t2],tl++[(a,b,c)],by rw[List.map_append];rfl,?_,fun x hx=>?_,?_⟩
     ·refine Paired.snoc (Paired.mapP pr fun b x e=>sm2 _ _ e) upd_same
     ·rcases List.mem_append.mp hx with z | z
      ·exact oks x z
      ·rw[List.mem_singleton.mp z];exact ok
     ·obtain⟨ni,ne⟩:=List.getElem?_eq_some_iff.mp nsi
      rw[List.map_append,eks,List.take_succ_eq_append_getElem ni,ne]
      rfl
    ·rintro ys G yl ⟨sm,bs,tl,rfl,pr,oks,eks⟩ D hD
     rw[List.length_map]at yl
     refine⟨D,_,rfl,.inl ⟨SqL.of upd_same,fun ts hts=>⟨(by show 2<=sizeLine;decide),fun t ht=>?_⟩⟩⟩
     have s1:Same G (upd G D (.lst (bs.map V.ref))):=Same.new hD
     have s2:Same (upd G D (.lst (bs.map V.ref))) (upd (upd G D (.lst (bs.map V.ref))) ts (.tup (bs.map V.ref))):=Same.new hts
     have s3:=Same.new (o:=.tup [.int n,.ref ts]) ht
     have sA:=sm.trans (s1.trans (s2.trans s3))
     have kA:Kept p H (upd (upd (upd G D (.lst (bs.map V.ref))) ts (.tup (bs.map V.ref))) t (.tup [.int n,.ref ts])):=W1.kep.trans fun b o _ e=>sA b o e
     have bA:BoxAt (upd (upd (upd G D (.lst (bs.map V.ref))) ts (.tup (bs.map V.ref))) t (.tup [.int n,.ref ts])) p (N+1000):=by
      obtain⟨a,b,c,e,r1,r2,r3⟩:=W1.box
      exact⟨a,b,c,sA _ _ e,r1,r2,by lia⟩
     refine q t tl _ ?_ ⟨⟨ts,bs,upd_same,s3 _ _ upd_same,Paired.mapP pr fun b x e=>s3 _ _ (s2 _ _ (s1 _ _ e))⟩,?_⟩ oks ?_ bA kA
     ·have f1:H' t=none:=(Same.new hl).free (sm.free (s1.free (s2.free ht)))
      exact W.kep.free W.box f1
     ·have:=pr.length
      rw[List.length_map]at yl
      lia
     ·rw[List.take_of_length_le (by rw[List.length_map];lia)]at eks
      have nd:ns.Nodup:=perm.nodup_iff.mpr W.inv.nodup
      have st:ns.Pairwise (fun x y=>Srt.lexlt x y=true):=(pw.and nd).imp fun {x y} z=>by
       cases e:Srt.lexlt x y with
       |true=>rfl
       |false=>exact absurd (Srt.lexlt_total x y e z.1) z.2
      rw[<- eks,List.pairwise_map]at st
      exact st
end
end K74
namespace L2
open PySem PySem.W PyProof.Rows Srt
open PySem PySem.Spec PySem.W PyProof.Rows
open PySem PySem.Spec PySem.W PyProof.Rows
open PySem PySem.Spec PySem.W PyProof.Rows
open PySem PySem.W PyProof.Rows
open PySem PyProof.Rows
section
variable{K:PySem.W.Frag}{a D:Addr}{xs:List V}{b:Bool}{g:TG}{tc:TT}{tk tv:TE}{cap:List (Option Nat)}{σ:St}{H1:Hp}{Q:VK}
noncomputable def ItB(b:Bool)(K:PySem.W.Frag)(a:Addr):It:=match b with
 |true=>Itt K a
 |false=>Itl K a
noncomputable def iSeq(b:Bool)(K:PySem.W.Frag)(tl:TE):TI:=fun σ H R=>tl σ H fun x H1=>∃ a,x = .ref a/\(∃ xs,SqB b K H1 a xs)/\R (ItB b K a) H1
theorem pi_seq{X:Cx}{tg l:Expr}{tl:TE}(b:Bool)(hl:PE X l tl):PI X tg l (iSeq b X.K tl):=by
 cases b
 ·exact pi_list hl
 ·exact pi_tup hl
theorem comp_seq{te:TE}{a:Addr}{xs:List V}(P:Nat->List V->Hp->Prop)(hz:xs.length<=sizeLine)(p0:P 0 [] H1)(hl:∀ i ys H,i<=xs.length->P i ys H->SqB b K H a xs)
  (hs:∀ i x ys H,xs[i]?=some x->P i ys H->g x (capt cap σ) H fun σ2 H2=>Kp (capt cap σ) σ2/\tc σ2 H2 fun b H3=>if b=true then te σ2 H3 fun y H4=>P (i+1) (ys++[y]) H4 else P (i+1) ys H3)
  (hd:∀ ys H,ys.length<=xs.length->P xs.length ys H->∀ D,H D=none->Q (.ref D) (upd H D (.lst ys))):compTurns (ItB b K a) cap σ H1 Q g tc te:=by
 cases b
 ·exact comp_list P hz p0 hl hs hd
 ·exact comp_tup P hz p0 hl hs hd
theorem Same.seqB{H H':Hp}(s:Same H H')(h:SqB b K H a xs):SqB b K H' a xs:=by
 cases b
 ·exact s.seq h
 ·exact s.tupq h
end
open PySem PySem.Spec PySem.W PyProof.Rows
open PySem PySem.W PyProof.Rows Srt
end L2
namespace Srt
open PySem PySem.W PyProof.Rows
@[reducible] noncomputable def κI:KeyKind where
 α:=Int
 blt a b:=decide (a<b)
 irrefl a:=by simp
 trans a b c h k:=by simp at h k ⊢;lia
 negTrans a b c h:=by simp at h ⊢;lia
 total a b h k:=by simp at h k;lia
 keyOf v:=match v with
  | .int i _=>some i
  | _=>none
 dflt:=(0:Int)
theorem κI_of{v:Value}{i:Int}(h:κI.keyOf v=some i):∃ t,v = .int i t:=by
 cases v with
 |int j t =>
  have e:j=i:=Option.some.inj h
  subst e
  exact⟨t,rfl⟩
 | _=>cases h
theorem ltI_ok{prog:Program}{w:World}{A:Around}{s:Shared}:LtOk κI oneType' prog w A s:=by
 intro E x y a b Q st hk ha hb q
 obtain⟨t,e1⟩:=κI_of ha
 obtain⟨u,e2⟩:=κI_of hb
 rw[lt'_eq]
 refine wpS_bind (wpS_get ?_)
 rw[hk,keyLt'_oneType,e1,e2]
 refine wpS_bind (wpS_lift (wpAny_attempt (oneLt_int ⟨rfl,?_⟩)))
 exact wpS_pure q
end Srt
namespace L2
open PySem PySem.W PyProof.Rows Srt
section
variable{X:Cx}{pins:List (Addr×Obj)}{σ:St}{H:Hp}{s:Shared}
theorem collect_kept{g:Heap}{vs:List Value}:∀ b u,g.get? b=some u->((g.push (seqObj "list" #[] 0)).update g.objs.size (Obj.mapSeq (·++vs.toArray))).get? b=some u:=fun b u e=>by
 rw[Heap.get?_update_ne _ _ _ _ (Nat.ne_of_lt (Heap.lt_size e))]
 exact Heap.get?_push_of_some _ e
theorem ints_perm:∀ {ws vs:List Value}{ns:List Int},ws.Perm vs->Vals (ns.map V.int) vs->∃ ms:List Int,Vals (ms.map V.int) ws/\ms.Perm ns:=by
 intro ws vs ns hp r
 have hI:=intsAre_of r
 have all:∀ v∈vs,∃ i t,v=Value.int i t:=by
  intro v hv
  obtain⟨j,hj,e⟩:=List.getElem_of_mem hv
  have l:=r.length
  rw[List.length_map]at l
  obtain⟨u,e2,t,e3⟩:=r.get (i:=j) (x:=V.int (ns[j]'(by lia))) (by rw[List.getElem?_map,List.getElem?_eq_getElem (by lia)];rfl)
  rw[List.getElem?_eq_getElem hj,e]at e2
  cases e2
  exact⟨_,t,e3⟩
 let f:Value->Int:=fun v=>match v with
  | .int i _=>i
  | _=>0
 have key:∀ {us:List Value}{ks:List Int},Vals (ks.map V.int) us->us.map f=ks:=by
  intro us
  induction us with
  |nil=>intro ks r;cases ks with
   |nil=>rfl
   |cons _ _=>cases r
  |cons u us ih=>intro ks r;cases ks with
   |nil=>cases r
   |cons k ks =>
    cases r with
    |cons r1 r2 =>
     obtain⟨t,e⟩:=r1
     rw[List.map_cons,ih r2,e]
 refine⟨ws.map f,?_,?_⟩
 ·have all':∀ v∈ws,∃ i t,v=Value.int i t:=fun v hv=>all v (hp.mem_iff.mp hv)
  clear hp
  induction ws with
  |nil=>exact .nil
  |cons w ws ih =>
   obtain⟨i,t,e⟩:=all' w (List.mem_cons_self ..)
   refine .cons ⟨t,by rw[e]⟩ (ih fun v hv=>all' v (List.mem_cons_of_mem _ hv))
 ·rw[<- key r]
  exact hp.map f
theorem call_sortedI:CallR X (.builtin "sorted") (fun xs H Q=>∃ (l:Addr) (ns:List Int),xs=[V.ref l]/\SqL X.K H l (ns.map V.int)/\ns.length<128 /\
  ∀ (l':Addr) (ms:List Int),H l'=none->ms.Perm ns->ms.Pairwise (·<=·)->Q (.ref l') (upd H l' (.lst (ms.map V.int)))):=by
 intro pins s σ H xs us Q I r h
 obtain⟨l,ns,rfl,hq,hlen,q⟩:=h
 obtain⟨u,rfl,rx⟩:=vals1 r
 cases rx
 obtain⟨its,r',pl,hz⟩:=I.list hq
 have li:=r'.length
 rw[List.length_map]at li
 refine Calls.call_function_entry kind_sorted plain_sorted entry_sorted (args_sorted1 _) ?_
 unfold Builtin.«sorted»
 refine wpAny_bind (m:=checkCount "sorted" 1 1 _) (wpAny_pure (wpAny_bind (collect_list pl.isList ?_ (by rw[sizeLine_eq];lia))))
 generalize hh':(s.heap.push (seqObj "list" #[] 0)).update s.heap.objs.size (Obj.mapSeq (·++its.toArray))=h'
 have kp:∀ b u,s.heap.get? b=some u->h'.get? b=some u:=hh'▸collect_kept
 refine wpAny_bind (wpAny_newList ?_ (by rw[sizeLine_eq];lia))
 have gL:(h'.push (seqObj "list" its.toArray 0)).get? h'.objs.size=some (seqObj "list" its.toArray 0):=Heap.get?_push_size _ rfl
 have I1:Inv X pins σ H { s with heap:=h' }:=I.kept (t':=s.toks) kp
 have kp2:∀ b u,h'.get? b=some u->(h'.push (seqObj "list" its.toArray 0)).get? b=some u:=fun b u e=>Heap.get?_push_of_some _ e
 have hI:=intsAre_of r'
 have keys:KeysOf κI (pairsOf its):=fun p hp=>by
  rw[pairsOf_toList]at hp
  obtain⟨e1,e2⟩:=Srt.mem_zip_self hp
  obtain⟨j,hj,e⟩:=List.getElem_of_mem e2
  obtain⟨u,g1,t,g2⟩:=r'.get (i:=j) (x:=V.int (ns[j]'(by lia))) (by rw[List.getElem?_map,List.getElem?_eq_getElem (by lia)];rfl)
  rw[List.getElem?_eq_getElem hj,e]at g1
  cases g1
  rw[e1,g2]
  exact⟨_,rfl⟩
 refine wpAny_bind (wpAny_holding (wpAny_call_entry slot_list_sort ⟨_,gL,rfl⟩ entry_list_sort (sort_at (κ:=κI) (kd:=oneType') gL keys (by lia) (fun l2 g k=>⟨ltI_ok,fun R hR=>?_⟩) fun ws g c pw sw kp3 gg=>⟨_,rfl,?_⟩) (args_list_sort _)))
 ·match its,hI,l2 with
  |v1 :: v2 :: rest,hI,_ =>
   rw[keyKind_ints hI]
   exact wpAny_pure hR
  |[],_,l2=>simp at l2
  |[_],_,l2=>simp at l2
 ·obtain⟨ms,rm,pm⟩:=ints_perm pw r'
  have lw:=rm.length
  rw[List.length_map]at lw
  refine wpAny_pure ⟨_,rfl,.ref h'.objs.size,_,I1.laid (t':=s.toks) (a:=h'.objs.size) (o:=.lst (ms.map V.int)) (fun b u e=>kp3 b u (Nat.ne_of_lt (Heap.lt_size e)) (kp2 b u e)) (Nat.le_refl _) (show ObjOk X.prog X.w _ g _ (.lst (ms.map V.int))from⟨?_,ws,c,rm,gg⟩),rfl,q _ ms (I1.hok.fresh (Nat.le_refl _)) pm ?_⟩
  ·rw[List.length_map,pm.length_eq,sizeLine_eq];lia
  ·rw[List.pairwise_iff_getElem]
   intro i j hi hj ij
   have z:=sw i j (Nat.le_of_lt ij) (by lia)
   have kk:∀ m (hm:m<ms.length),KK κI (pairsOf ws) m=ms[m]:=fun m hm=>by
    obtain⟨u,g1,t,g2⟩:=rm.get (i:=m) (x:=V.int ms[m]) (by rw[List.getElem?_map,List.getElem?_eq_getElem hm];rfl)
    have e:(pairsOf ws)[m]?=some (u,u):=by
     have hm':m<ws.length:=by lia
     have:ws[m]=u:=by rw[List.getElem?_eq_getElem hm']at g1;exact Option.some.inj g1
     simp[pairsOf,hm',this]
    unfold KK
    rw[e,g2]
    rfl
   rw[kk i hi,kk j hj]at z
   have z':decide (ms[j]<ms[i])=false:=z
   have:=of_decide_eq_false z'
   lia
end
open PySem PySem.W PyProof.Rows
open PySem PySem.W PyProof.Rows Srt
open PySem PySem.W PyProof.Rows HT
end L2
namespace SetA
open PySem
open PySem
open PySem
open PySem
open PySem
open PySem
open PySem
open PySem
open PySem
open PySem L2
open PySem L2
open PySem L2
open PySem PySem.W PyProof.Rows
theorem cut_perm{α:Type}:∀ (i:Nat) (l:List α) (h:i<l.length),(l[i] :: l.eraseIdx i).Perm l
 | 0,_ :: _,_=>.refl _
 |i+1,x :: l,h=>by
  show(l[i]'(Nat.lt_of_succ_lt_succ h) :: x :: l.eraseIdx i).Perm _
  exact(List.Perm.swap _ _ _).trans ((cut_perm i l (Nat.lt_of_succ_lt_succ h)).cons x)
end SetA
namespace L2
open PySem PySem.W PyProof.Rows Srt SetA
open PySem PySem.W PyProof.Rows Srt
open PySem PySem.W PyProof.Rows Srt
open PySem PySem.W PyProof.Rows
noncomputable def sqO:Bool->List V->HO
 |true,xs=>.tup xs
 |false,xs=>.lst xs
theorem sq_or{b:Bool}{K:PySem.W.Frag}{H:Hp}{a:Addr}{xs:List V}(h:H a=some (sqO b xs)):SqL K H a xs\/SqT K H a xs:=by
 cases b
 ·exact .inl (SqL.of h)
 ·exact .inr (SqT.of h)
section
variable{X:Cx}
noncomputable def rIxLh:R2:=fun x y H Q=>∃ p xs i v,x = .ref p/\y = .int i/\H p=some (.lst xs)/\atI xs i=some v/\Q v H
noncomputable def rIxTh:R2:=fun x y H Q=>∃ p xs i v,x = .ref p/\y = .int i/\H p=some (.tup xs)/\atI xs i=some v/\Q v H
theorem ix_listH:IxR X rIxLh:=by
 intro value slice pins s σ H x y v u Q I rx ry h hs
 obtain⟨p,xs,i,z,rfl,rfl,hp,he,q⟩:=h
 exact ix_list value slice pins s σ H _ _ v u Q I rx ry ⟨p,xs,i,z,rfl,rfl,SqL.of hp,he,q⟩ hs
theorem ix_tupH:IxR X rIxTh:=by
 intro value slice pins s σ H x y v u Q I rx ry h hs
 obtain⟨p,xs,i,z,rfl,rfl,hp,he,q⟩:=h
 exact ix_tup value slice pins s σ H _ _ v u Q I rx ry ⟨p,xs,i,z,rfl,rfl,SqT.of hp,he,q⟩ hs
theorem call_lenH:CallR X (.builtin "len") (fun xs H Q=>∃ p ys,xs=[.ref p]/\H p=some (.lst ys)/\Q (.int ys.length) H):=by
 intro pins s σ H xs us Q I r h
 obtain⟨p,ys,rfl,hp,q⟩:=h
 exact call_len_seq pins s σ H _ us Q I r ⟨p,ys,rfl,.inl (SqL.of hp),q⟩
theorem call_lenTH:CallR X (.builtin "len") (fun xs H Q=>∃ p ys,xs=[.ref p]/\H p=some (.tup ys)/\Q (.int ys.length) H):=by
 intro pins s σ H xs us Q I r h
 obtain⟨p,ys,rfl,hp,q⟩:=h
 exact call_len_seq pins s σ H _ us Q I r ⟨p,ys,rfl,.inr (SqT.of hp),q⟩
theorem call_tupleH:CallR X (.type "tuple") (fun xs H Q=>∃ p ys,xs=[.ref p]/\H p=some (.lst ys)/\∀ l,H l=none->Q (.ref l) (upd H l (.tup ys))):=by
 intro pins s σ H xs us Q I r h
 obtain⟨p,ys,rfl,hp,q⟩:=h
 exact call_tuple_of pins s σ H _ us Q I r ⟨p,ys,rfl,.inl ⟨SqL.of hp,q⟩⟩
theorem call_listH(b:Bool):CallR X (.type "list") (fun xs H Q=>∃ p ys,xs=[.ref p]/\H p=some (sqO b ys)/\∀ l,H l=none->Q (.ref l) (upd H l (.lst ys))):=by
 intro pins s σ H xs us Q I r h
 obtain⟨p,ys,rfl,hp,q⟩:=h
 exact call_list_of pins s σ H _ us Q I r ⟨p,ys,rfl,sq_or hp,q⟩
theorem call_allH(hc:X.calm=true):CallR X (.builtin "all") (fun xs H Q=>∃ (l:Addr) (bs:List Bool),xs=[V.ref l]/\H l=some (.lst (bs.map V.bl))/\Q (.bl (bs.all id)) H):=by
 intro pins s σ H xs us Q I r h
 obtain⟨p,ys,rfl,hp,q⟩:=h
 exact call_all hc pins s σ H _ us Q I r ⟨p,ys,rfl,SqL.of hp,q⟩
noncomputable def rInQ(b n:Bool):R2:=fun x y H Q=>∃ p xs,y = .ref p/\H p=some (sqO b xs)/\flatV x=true/\xs.all flatV=true/\Q (.bl (if n=true then !inV x xs else inV x xs)) H
theorem op_notInQ(b:Bool):OpR X (compareOp .NotIn) (rInQ b true):=by
 intro pins s σ H x y v u Q I rx ry h
 obtain⟨p,xs,rfl,hp,fx,fs,q⟩:=h
 exact op_notIn_seq pins s σ H x _ v u Q I rx ry ⟨p,xs,rfl,sq_or hp,fx,fs,q⟩
noncomputable def tBMh(r:V->List V->Hp->VK->Prop)(to:TE)(t:TA):TE:=fun σ H Q=>to σ H fun x H1=>(∃ p xs,x = .ref p/\H1 p=some (.lst xs))/\t σ H1 fun xs H2=>r x xs H2 Q
theorem pe_bmH{id:String}{name:Str}{r:V->List V->Hp->VK->Prop}{o e:Expr}{es:List Expr}{to:TE}{t:TA}{apos cpos:Pos}(slot:Slot "list" name id)(hty:typeOf (.builtin id)=pure (.type "method_descriptor"))(hm:MtR X id r)(ho:PE X o to)(ha:PA X (e :: es) t)(hbase:attributeBase o name X.env (eval o X.env)=eval o X.env:=by rfl)
  (hfew:((backTo cpos (starEach (e :: es) X.env)).all (fun x=>!x.1) && (backToKw cpos (keywordEach [] X.env)).all (fun x=>x.1.isSome) && decide ((e :: es).length+([]:List Keyword).length+(if([]:List Keyword).isEmpty then 0 else 1)<30))=true:=by rfl) (hline:(apos.endLine == cpos.line)=true:=by rfl)
  (hs:starEach (e :: es) X.env=(false,eval e X.env) :: starEach es X.env:=by rfl) (hplain:(backTo cpos (starEach es X.env)).any (·.1)=false:=by rfl):PE X (.Call (.Attribute o name apos) (e :: es) [] cpos) (tBMh r to t):=by
 intro pins s σ H Q I h
 refine wpAny_Call_method_late hbase hfew hline rfl (thn (ho pins s σ H _ I h) fun v s1 ⟨x,H1,I1,r1,⟨p,xs,ex,hx⟩,q1⟩=>?_)
 subst ex
 obtain⟨h1,h2⟩:=tyV_is (T:="list") I1 r1 (.inl ⟨rfl,xs,SqL.of hx⟩)
 refine⟨"list",id,PySem.F.plainAttrs_list,slot,hty,h1,h2,?_⟩;have hA:=ha cpos pins s1 σ H1 _ I1 q1
 rw[hs]at hA ⊢;refine Calls.callWith_builtin (by show(false ||(backTo cpos (starEach es X.env)).any (·.1))=false;rw[hplain] <;> rfl) (Calls.evalArgs_plain (thn hA fun us s2 ⟨vs,H2,I2,r2,q2⟩=>?_))
 exact hm pins s2 σ H2 _ vs v us Q I2 r1 r2 q2
end
open PySem PySem.W PyProof.Rows
open PySem PySem.W PyProof.Rows
open PySem PySem.W PyProof.Rows
theorem Paired.atV{F:V->Dt->Prop}{xs:List V}{ds:List Dt}(h:Paired F xs ds){j:Nat}(h1:j<xs.length)(h2:j<ds.length):F xs[j] ds[j]:=Paired.at h j h1 h2
theorem eq_same{X:Cx}{pins:List (Addr×Obj)}{σ:St}{H:Hp}{s:Shared}(I:Inv X pins σ H s):∀ {n:Nat}{A:Around}{x y:V}{d:Dt}{u v:Value},Dat H n x d->Dat H n y d->RelV x u->RelV y v->A.units+n<cLine->SeqAt.EqAt A s u v true:=by
 have flat:∀ {A:Around}{x y:V}{d:Dt}{u v:Value},Dat H 0 x d->Dat H 0 y d->RelV x u->RelV y v->SeqAt.EqAt A s u v true:=by
  intro A x y d u v hx hy ru rv
  cases d with
  |non=>have ex:x = .non:=hx;have ey:y = .non:=hy;subst ex ey;cases ru;cases rv;exact SeqAt.EqAt.same _
  |bl b=>have ex:x = .bl b:=hx;have ey:y = .bl b:=hy;subst ex ey;cases ru;cases rv;exact SeqAt.EqAt.same _
  |int i =>
   have ex:x = .int i:=hx
   have ey:y = .int i:=hy
   subst ex ey
   obtain⟨t,rfl⟩:=ru
   obtain⟨t',rfl⟩:=rv
   have:=SeqAt.EqAt.int_int (A:=A) (s:=s) i t i t'
   rwa [beq_self_eq_true]at this
  |str z =>
   have ex:x = .str z:=hx
   have ey:y = .str z:=hy
   subst ex ey
   obtain⟨t,rfl⟩:=ru
   obtain⟨t',rfl⟩:=rv
   have:=SeqAt.EqAt.str_str (A:=A) (s:=s) z t z t'
   rwa [beq_self_eq_true]at this
  |lst ds=>exact(show False from hx).elim
  |tup ds=>exact(show False from hx).elim
 intro n
 induction n with
 |zero=>intro A x y d u v hx hy ru rv _;exact flat hx hy ru rv
 |succ n ih =>
  intro A x y d u v hx hy ru rv hu
  cases d with
  |non=>exact flat (d:=.non) hx hy ru rv
  |bl b=>exact flat (d:=.bl b) hx hy ru rv
  |int i=>exact flat (d:=.int i) hx hy ru rv
  |str z=>exact flat (d:=.str z) hx hy ru rv
  |lst ds =>
   obtain⟨a,xs,rfl,xl,ha,px⟩:=hx
   obtain⟨b,ys,rfl,yl,hb,py⟩:=hy
   cases ru
   cases rv
   by_cases e:a=b
   ·subst e;exact SeqAt.EqAt.same _
   ·obtain⟨its,r,pl,hz⟩:=I.list (SqL.of ha)
    obtain⟨its',r',pl',hz'⟩:=I.list (SqL.of hb)
    have l1:=r.length
    have l2:=r'.length
    have l3:xs.length=ds.length:=Paired.length px
    have l4:ys.length=ds.length:=Paired.length py
    have key:=SeqAt.RcAt.lists (A:=A) (e:=fun _=>true) pl.isList pl'.isList (by simp only[List.size_toArray];lia) (by lia) (fun j h1 h2=>by
     simp only[List.size_toArray]at h1 h2
     have jx:j<xs.length:=by lia
     have jy:j<ys.length:=by lia
     obtain⟨u,e1,q1⟩:=r.get (i:=j) (x:=xs[j]) (List.getElem?_eq_getElem jx)
     obtain⟨u',e2,q2⟩:=r'.get (i:=j) (x:=ys[j]) (List.getElem?_eq_getElem jy)
     rw[List.getElem?_eq_getElem h1]at e1
     rw[List.getElem?_eq_getElem h2]at e2
     have e1:=Option.some.inj e1
     have e2:=Option.some.inj e2
     simp only[List.getElem_toArray]
     rw[e1,e2]
     exact ih (A:=A.in1) (d:=ds[j]'(by lia)) (Paired.atV px jx (by lia)) (Paired.atV py jy (by lia)) q1 q2 (by show A.units+1+n<cLine;lia))
    have t:(List.range its.toArray.size).all (fun _=>true)=true:=by simp
    rw[t]at key
    exact SeqAt.EqAt.of_refs e key
  |tup ds =>
   obtain⟨a,xs,rfl,xl,ha,px⟩:=hx
   obtain⟨b,ys,rfl,yl,hb,py⟩:=hy
   cases ru
   cases rv
   by_cases e:a=b
   ·subst e;exact SeqAt.EqAt.same _
   ·obtain⟨its,r,pl,hz⟩:=I.tuple (SqT.of ha)
    obtain⟨its',r',pl',hz'⟩:=I.tuple (SqT.of hb)
    have l1:=r.length
    have l2:=r'.length
    have l3:xs.length=ds.length:=Paired.length px
    have l4:ys.length=ds.length:=Paired.length py
    have key:=SeqAt.RcAt.tuples (A:=A) (e:=fun _=>true) pl pl' (by lia) (fun j h1 h2=>by
     simp only[List.size_toArray]at h1 h2
     have jx:j<xs.length:=by lia
     have jy:j<ys.length:=by lia
     obtain⟨u,e1,q1⟩:=r.get (i:=j) (x:=xs[j]) (List.getElem?_eq_getElem jx)
     obtain⟨u',e2,q2⟩:=r'.get (i:=j) (x:=ys[j]) (List.getElem?_eq_getElem jy)
     rw[List.getElem?_eq_getElem h1]at e1
     rw[List.getElem?_eq_getElem h2]at e2
     have e1:=Option.some.inj e1
     have e2:=Option.some.inj e2
     simp only[List.getElem_toArray]
     rw[e1,e2]
     exact ih (A:=A.in1) (d:=ds[j]'(by lia)) (Paired.atV px jx (by lia)) (Paired.atV py jy (by lia)) q1 q2 (by show A.units+1+n<cLine;lia))
    have t:((List.range (min its.toArray.size its'.toArray.size)).all (fun _=>true) && its.toArray.size == its'.toArray.size)=true:=by
     simp only[List.size_toArray]
     rw[show its.length=its'.length by lia]
     simp
    rw[t]at key
    exact SeqAt.EqAt.of_refs e key
noncomputable def seqD:Dt->Bool
 | .lst _=>true
 | .tup _=>true
 | _=>false
noncomputable def rSame(b:Bool):R2:=fun x y H Q=>∃ n d,Dat H (n+1) x d/\Dat H (n+1) y d/\seqD d=true/\n<=50/\Q (.bl b) H
section
variable{X:Cx}
theorem items_same{pins:List (Addr×Obj)}{σ:St}{H:Hp}{s:Shared}(I:Inv X pins σ H s){n:Nat}{A:Around}{xs ys:List V}{ds:List Dt}{us vs:List Value}(px:Paired (Dat H n) xs ds)(py:Paired (Dat H n) ys ds)(r:Vals xs us)(r':Vals ys vs)(hu:A.units+n<cLine) :
  ∀ j (h1:j<us.toArray.size) (h2:j<vs.toArray.size),SeqAt.EqAt A s us.toArray[j] vs.toArray[j] true:=fun j h1 h2=>by
 have l1:=r.length
 have l2:=r'.length
 have l3:xs.length=ds.length:=Paired.length px
 have l4:ys.length=ds.length:=Paired.length py
 simp only[List.size_toArray]at h1 h2
 have jx:j<xs.length:=by lia
 have jy:j<ys.length:=by lia
 obtain⟨u,e1,q1⟩:=r.get (i:=j) (x:=xs[j]) (List.getElem?_eq_getElem jx)
 obtain⟨u',e2,q2⟩:=r'.get (i:=j) (x:=ys[j]) (List.getElem?_eq_getElem jy)
 rw[List.getElem?_eq_getElem h1]at e1
 rw[List.getElem?_eq_getElem h2]at e2
 have e1:=Option.some.inj e1
 have e2:=Option.some.inj e2
 simp only[List.getElem_toArray]
 rw[e1,e2]
 exact eq_same I (d:=ds[j]'(by lia)) (Paired.atV px jx (by lia)) (Paired.atV py jy (by lia)) q1 q2 hu
theorem op_neS(hu:X.A.units+64<cLine):OpR X (compareOp .NotEq) (rSame false):=by
 intro pins s σ H x y v u Q I rx ry h
 obtain⟨n,d,hx,hy,sd,hn,q⟩:=h
 have fin:EP X pins σ Q (.bool false) s:=⟨.bl false,H,I,rfl,q⟩
 cases d with
 |lst ds =>
  obtain⟨a,xs,rfl,xl,ha,px⟩:=hx
  obtain⟨b,ys,rfl,yl,hb,py⟩:=hy
  cases rx
  cases ry
  obtain⟨its,r,pl,hz⟩:=I.list (SqL.of ha)
  obtain⟨its',r',pl',hz'⟩:=I.list (SqL.of hb)
  have l1:=r.length
  have l2:=r'.length
  have l3:xs.length=ds.length:=Paired.length px
  have l4:ys.length=ds.length:=Paired.length py
  refine SeqAt.RcNeAt.lists (e:=fun _=>true) pl.isList pl'.isList (by simp only[List.size_toArray];lia) (by lia) (items_same I px py r r' (by show X.A.units+1+n<cLine;lia)) _ _ _ _ ?_
  rw[show(!(List.range its.toArray.size).all (fun _=>true))=false by simp]
  exact fin
 |tup ds =>
  obtain⟨a,xs,rfl,xl,ha,px⟩:=hx
  obtain⟨b,ys,rfl,yl,hb,py⟩:=hy
  cases rx
  cases ry
  obtain⟨its,r,pl,hz⟩:=I.tuple (SqT.of ha)
  obtain⟨its',r',pl',hz'⟩:=I.tuple (SqT.of hb)
  have l1:=r.length
  have l2:=r'.length
  have l3:xs.length=ds.length:=Paired.length px
  have l4:ys.length=ds.length:=Paired.length py
  refine SeqAt.RcNeAt.tuples (e:=fun _=>true) pl pl' (by lia) (items_same I px py r r' (by show X.A.units+1+n<cLine;lia)) _ _ _ _ ?_
  rw[show(!((List.range (min its.toArray.size its'.toArray.size)).all (fun _=>true) && its.toArray.size == its'.toArray.size))=false by simp only[List.size_toArray];rw[show its.length=its'.length by lia];simp]
  exact fin
 |non=>cases sd
 |bl b=>cases sd
 |int i=>cases sd
 |str z=>cases sd
end
theorem dat_ints{H:Hp}{a:Addr}{ns:List Int}(n:Nat)(h:H a=some (.lst (ns.map V.int)))(l:ns.length<=1000):Dat H (n+1) (.ref a) (.lst (ns.map Dt.int)):=by
 refine⟨a,_,rfl,by rw[List.length_map];exact l,h,?_⟩
 clear h l
 induction ns with
 |nil=>exact .nil
 |cons x r ih=>refine .cons ?_ ih;cases n <;> rfl
open PySem PySem.Spec PyProof.Rows
open PySem PySem.W PyProof.Rows
end L2
namespace K74
open PySem L2 PyProof.Rows
structure CalF(P:Program)(w:World)(K:PySem.W.Frag)(mg:Str->Option Value)(base:Heap)(k:Nat)(x:Str)(ps:List Str)(sp:Sp)(g:Addr)(gd:FuncData):Prop where
 ok:FnOk P w K mg base CX0 k g gd ps sp
 mg:mg x=some (.ref g)
 kp:PySem.W.keepIn K (.ref g)=true
 bd:Binds K gd ps []
structure Txt2(mg:Str->Option Value):Prop where
 all:mg "all" = none
 zip:mg "zip" = none
 enum:mg "enumerate" = none
 dict:mg "dict" = none
noncomputable abbrev scO(l:List (Str×NameKind)):Scope:={ kind:=.function,names:=l,isGenerator:=false,isCoroutine:=false }
end K74
namespace HT
open PySem PySem.Spec PyProof.Rows
section
variable{prog:Program}{w:World}{A:Around}{E:Value->Shared->Prop}{s:Shared}
theorem getItem_tuple_whole{t sl:Addr}{items:Array Value}{vl vu:Value}{lo hi:Option Int}{Q:Value->Shared->Prop}(ht:IsTup s.heap t items)(hs:s.heap.IsSliceOf sl vl vu .none)(pl:IsPart vl lo)(pu:IsPart vu hi)
  (hw:sIx items.size 0 lo=0/\sIx items.size items.size hi=items.size)
  (h:Q (.ref t) s):wpAny (model prog w) A (getItem (.ref t) (.ref sl)) Q E s:=by
 obtain⟨os,hos,hcs,hds⟩:=id hs
 have hTs:s.TypeIs (.ref sl) "slice":=⟨os,hos,hcs⟩
 unfold getItem
 try with_reducible refine wpAny_holding ?_
 first | refine wpAny_bind (wpAny_pure ?_) | skip
 refine wpAny_bind (wpAny_sequenceKey ht.typeIs (by decide) ?_)
 refine wpAny_bind (wpAny_callSpecial?_slot (name:=Str.ofString "__getitem__") ht.typeIs PyProof.Rows.slot_tuple_getitem
  (wpAny_call_entry PyProof.Rows.slot_tuple_getitem ht.typeIs entry_tuple_getitem ?_ (args_tuple_getitem _ _)))
 show wpAny _ _ (Builtin.Tuple.tupleItemsOf (.ref t) >>= _) _ _ s
 refine wpAny_bind (tupleItemsOf_ ht ?_)
 refine wpAny_bind (wpAny_typeOf hTs ?_)
 rw[if_pos (by decide)]
 refine wpAny_bind (sliceApplied_gen hs pl pu ?_)
 have hyes:(((sIx items.size 0 lo:Nat):Int) == 0 && (1:Int) == 1 && (sIx items.size items.size hi-sIx items.size 0 lo) == items.size)=true:=by
  rw[hw.1,hw.2]
  simp
 show wpAny _ _ (if(((sIx items.size 0 lo:Nat):Int) == 0 && (1:Int) == 1 && (sIx items.size items.size hi-sIx items.size 0 lo) == items.size)=true then _ else _) _ _ s
 rw[if_pos hyes]
 refine wpAny_bind (m:=Builtin.Tuple.tupleIsExact (.ref t)) ?_
 unfold Builtin.Tuple.tupleIsExact
 refine wpAny_bind (wpAny_typeOf ht.typeIs (wpAny_pure ?_))
 rw[if_pos (by decide)]
 refine wpAny_bind (wpAny_rule ?_)
 first
  |exact wpAny_pure ⟨_,rfl,wpAny_pure h⟩
  |exact wpAny_bind (wpAny_pure (wpAny_pure ⟨_,rfl,wpAny_pure h⟩))
  |exact wpAny_bind (wpAny_pure ⟨_,rfl,wpAny_pure h⟩)
end
end HT
namespace L2
open PySem PySem.W PyProof.Rows
variable{X:Cx}
noncomputable def rSlA:V->Option Int->Option Int->Hp->VK->Prop:=fun x lo hi H Q=>∃ a xs,x = .ref a/\H a=some (.tup xs)/\∀ p H',Same H H'->H' p=some (.tup (cutV xs lo hi))->Q (.ref p) H'
theorem sl_tupA:SlR X rSlA:=by
 intro pins s σ H x v vl vu lo hi sl Q I rx hs pl pu h
 obtain⟨a,xs,rfl,hx,q⟩:=h
 by_cases hw:HT.sIx xs.length 0 lo=0/\HT.sIx xs.length xs.length hi=xs.length
 ·cases rx
  obtain⟨its,r,ht,hz⟩:=I.tuple (SqT.of (K:=X.K) hx)
  have hlen:its.toArray.size=xs.length:=by rw[List.size_toArray];exact r.length.symm
  refine⟨"tuple",_,PyProof.Rows.slot_tuple_getitem.lookup,ht.typeIs,?_⟩
  refine HT.getItem_tuple_whole ht hs pl pu (by rw[hlen];exact hw) ⟨.ref a,H,I,rfl,q a H (Same.refl _) ?_⟩
  unfold cutV
  rw[hw.1,hw.2,List.drop_zero,Nat.sub_zero,List.take_length]
  exact hx
 ·exact sl_tup pins s σ H _ v vl vu lo hi sl Q I rx hs pl pu ⟨a,xs,rfl,SqT.of hx,hw,fun p hp=>q p _ (Same.new hp) upd_same⟩
open PySem PySem.W PyProof.Rows Srt HT
end L2
namespace SetA
open PySem L2
end SetA
namespace L2
open PySem PySem.W PyProof.Rows
theorem pe_bmK{X:Cx}(K:PySem.W.Frag)(eK:X.K=K){T id:String}{name:Str}{r:V->List V->Hp->VK->Prop}{o e:Expr}{es:List Expr}{to:TE}{t:TA}{apos cpos:Pos}(pa:PlainAttrs T)(slot:Slot T name id)(hty:typeOf (.builtin id)=pure (.type "method_descriptor"))(hm:MtR X id r)(ho:PE X o to)(ha:PA X (e :: es) t)
  (hbase:attributeBase o name X.env (eval o X.env)=eval o X.env:=by rfl)
  (hfew:((backTo cpos (starEach (e :: es) X.env)).all (fun x=>!x.1) && (backToKw cpos (keywordEach [] X.env)).all (fun x=>x.1.isSome) && decide ((e :: es).length+([]:List Keyword).length+(if([]:List Keyword).isEmpty then 0 else 1)<30))=true:=by rfl)
  (hline:(apos.endLine == cpos.line)=true:=by rfl) (hs:starEach (e :: es) X.env=(false,eval e X.env) :: starEach es X.env:=by rfl) (hplain:(backTo cpos (starEach es X.env)).any (·.1)=false:=by rfl):PE X (.Call (.Attribute o name apos) (e :: es) [] cpos) (tBM K T r to t):=by
 subst eK
 exact pe_bm pa slot hty hm ho ha hbase hfew hline hs hplain
theorem call_len_seqK{X:Cx}(K:PySem.W.Frag)(e:X.K=K):CallR X (.builtin "len") (fun xs H Q=>∃ p ys,xs=[.ref p]/\(SqL K H p ys\/SqT K H p ys)/\Q (.int ys.length) H):=e▸call_len_seq
theorem map_eraseI:∀ (l:List Int) (k:Nat),(l.map V.int).eraseIdx k=(l.eraseIdx k).map V.int
 |[],k=>by cases k <;> rfl
 |x :: r,0=>rfl
 |x :: r,k+1=>by
  show V.int x :: (r.map V.int).eraseIdx k=V.int x :: (r.eraseIdx k).map V.int
  rw[map_eraseI r k]
end L2
namespace K74
open PySem L2 PyProof.Rows
theorem upto_nodup(n:Nat):(upto n).Nodup:=by
 unfold upto List.Nodup
 rw[List.pairwise_map]
 exact(List.nodup_range (n:=n)).imp fun {a b} ne e=>ne (by lia)
theorem Kept.same{p:Addr}{H H':Hp}(h:H p=none)(k:Kept p H H'):Same H H':=fun b o e=>k b o (ne_of_none e h) e
theorem WebAt.kept{H H':Hp}{p t:Addr}{n:Nat}{ties:List Tie}{N:Nat}(W:WebAt H t n ties)(B:BoxAt H p N)(k:Kept p H H'):WebAt H' t n ties:=by
 obtain⟨⟨ts,as,h1,h2,h3⟩,l⟩:=W
 obtain⟨a,b,c,e,_⟩:=B
 have ne:∀ {q xs},H q=some (.tup xs)->q≠p:=fun hq=>ne_of hq e (by intro z;cases z)
 exact⟨⟨ts,as,k _ _ (ne h1) h1,k _ _ (ne h2) h2,Paired.mapP h3 fun a x e=>k _ _ (ne e) e⟩,l⟩
theorem BoxAt.same{H H':Hp}{p:Addr}{N:Nat}(B:BoxAt H p N)(s:Same H H'):BoxAt H' p N:=by
 obtain⟨a,b,c,e,r⟩:=B
 exact⟨a,b,c,s _ _ e,r⟩
open PySem L2 PyProof.Rows
structure PostOk(n:Nat)(ps:List Int):Prop where
 nd:ps.Nodup
 rg:∀ x∈ps,0<=x/\x<n
 lo:1<=ps.length
 hi:ps.length<=6
 ri:ps.Pairwise (·<=·)
noncomputable def spPo:Sp:=fun vs H Q _=>∃ (p:Addr) (n N:Nat) (mo:Int),vs=[.ref p,.int n,.int mo]/\BoxAt H p N/\N+100<2 ^ 40/\2<=n/\n<=30/\2<=mo/\mo<=6 /\
 ∀ (l:Addr) (ps:List Int) (H':Hp),H l=none->H' l=some (.lst (ps.map V.int))->l≠p->PostOk n ps->2<=ps.length->(ps.length:Int)<=mo->BoxAt H' p (N+20)->Kept p H H'->Q (.ref l) H'
section
variable{P:Program}{w:World}{K:PySem.W.Frag}{mg:Str->Option Value}{base:Heap}
noncomputable abbrev nPo:List Str:=["_law_box_here","_law_many_here","_law_most","_law_some","_law_found"]
theorem scPo:FnScope nPo ["_law_box_here","_law_many_here","_law_most"] (defScope sPosts):=⟨rfl,rfl,rfl,by decide +kernel,rfl,by decide +kernel,by decide +kernel⟩
theorem csPo:CompScope ["_law_turn","_law_box_here","_law_some"] [none,some 0,some 3] nPo (defScope sPosts) (scO [(".0",.local),("_law_turn",.local),("_law_take",.globalImplicit),("len",.globalImplicit),("_law_box_here",.free),("_law_some",.free)]):=⟨rfl,by decide +kernel,by decide +kernel,by decide +kernel,rfl,capB_ok (by decide +kernel)⟩
theorem ndPo:(["_law_turn","_law_box_here","_law_some"]:List Str).Nodup:=by decide +kernel
theorem ok_po{f g:Addr}{fd gd:FuncData}(F:Fun K "_law_posts" "_law_posts" sPosts f fd)(T:Txt mg)(G:TakeF P w K mg base g gd):FnOk P w K mg base CX0 2 f fd ["_law_box_here","_law_many_here","_law_most"] spPo:=by
 refine F.ok scPo (fun vs H Q E h=>?_) (fun cdv A outer s H vs Q E hr h=>?_)
 ·obtain⟨p,n,N,mo,rfl,_⟩:=h
  rfl
 ·obtain⟨p,n,N,mo,rfl,B,hN,n1,n30,mo0,mo6,q⟩:=h
  refine⟨_,pss_cons (ps_set (i:=3) scPo.nd rfl (Or.inr rfl) (pe_callTy (call_list_rng rfl) (by rfl) T.list boot_list (@pa_call _ _ _ _ _ _ _ _ (pe_callTy (call_range _) (by rfl) T.range boot_range (@pa_nam _ _ _ _ _ _ (pv 1) pa_nil)) pa_nil)))
   (pss_cons (ps_comp (i:=4) scPo.nd rfl (Or.inl rfl) rfl csPo (pi_range1 rfl T.range (@pa_call _ _ _ _ _ _ _ _ (pe_callB (call_min2 rfl) (by rfl) T.min boot_min (@pa_nam _ _ _ _ _ _ (pv 1) (@pa_bin _ _ _ _ _ _ _ _ (pe_op op_add pe_int (pe_call G.ok hr rfl G.mg G.kp G.bd .nil pass0 (@pa_nam _ _ _ _ _ _ (pv 0) (@pa_bin _ _ _ _ _ _ _ _ (pe_op op_sub (pv 2) pe_int) pa_nil)))) pa_nil))) pa_nil))
    (fun C s H fp=>pg_name (i:=0) ndPo rfl (Or.inl rfl)) (fun C s H fp=>pf_nil)
    (fun C s H fp=>pe_bmK K rfl PySem.F.plainAttrs_list PySem.F.slot_list_pop PySem.F.type_list_pop mt_popAt (pv 2) (@pa_call _ _ _ _ _ _ _ _ (pe_call G.ok hr rfl G.mg G.kp G.bd .nil pass0 (@pa_nam _ _ _ _ _ _ (pv 1) (@pa_call _ _ _ _ _ _ _ _ (pe_callB (call_len_seqK K rfl) (by rfl) T.len PySem.boot_len (@pa_nam _ _ _ _ _ _ (pv 2) pa_nil)) pa_nil))) pa_nil)))
   (pss_one (ps_ret (pe_callB call_sortedI (by rfl) T.sorted boot_sorted (@pa_nam _ _ _ _ _ _ (pv 4) pa_nil))))),?_⟩
  refine⟨_,rfl,_,rfl,fun r hr=>⟨r,_,rfl,upd_same,by lia,by lia,fun so hso=>?_⟩⟩
  rw[show((n:Int)).toNat=n by lia]
  have so0:H so=none:=(Same.new (o:=.rng 0 (n:Int)) hr).free hso
  have sop:so≠p:=B.ne so0
  have s1:=(Same.new (o:=.rng 0 (n:Int)) hr).trans (Same.new (o:=.lst ((upto n).map V.int)) hso)
  have gs:(upd (upd H r (.rng 0 (n:Int))) so (.lst ((upto n).map V.int))) so=some (.lst ((upto n).map V.int)):=upd_same
  generalize (upd (upd H r (.rng 0 (n:Int))) so (.lst ((upto n).map V.int)))=H1 at s1 gs
  have B1:=B.same s1
  refine⟨_,rfl,_,rfl,_,rfl,_,_,rfl,rfl,p,_,N,rfl,B1,by lia,by lia,by lia,fun z H2 z0 z1 B2 k2=>?_⟩
  refine⟨_,_,rfl,rfl,_,_,rfl,_,rfl,by split <;> lia,by split <;> lia,?_⟩
  obtain⟨ct,ec,c1,c2,c3⟩:∃ ct:Nat,(if 2+z <(n:Int)then 2+z else(n:Int)).toNat=ct/\ct<=n/\(ct:Int)<=mo/\2<=ct:=⟨_,rfl,by split <;> lia,by split <;> lia,by split <;> lia⟩
  rw[ec]
  have k1:Kept p H H1:=fun b o _ e=>s1 b o e
  refine comp_range (lo:=0) (n:=ct) (fun j ys G2=>BoxAt G2 p (N+1+j)/\Kept p H G2/\∃ (rs qs:List Int),G2 so=some (.lst (rs.map V.int))/\ys=qs.map V.int/\(qs++rs).Perm (upto n)/\qs.length=j) (by rw[sizeLine_eq];omega)
   ⟨B2,k1.trans k2,upto n,[],k2 _ _ sop gs,rfl,.refl _,rfl⟩ ?_ ?_
  ·rintro j ys G2 hj ⟨B3,k3,rs,qs,gs3,rfl,pm,ql⟩
   have rl:qs.length+rs.length=n:=by
    have:=pm.length_eq
    rw[List.length_append,upto_length]at this
    exact this
   refine⟨⟨rfl,rfl,trivial⟩,tTru_if ⟨_,rfl,.inl ⟨rfl,_,SqL.of gs3⟩,_,rfl,_,rfl,so,_,rfl,.inl (SqL.of gs3),p,_,_,rfl,B3,by lia,by rw[List.length_map];lia,by rw[List.length_map];lia,fun y G3 y0 y1 B4 k4=>?_⟩⟩
   rw[List.length_map]at y1
   obtain⟨k,rfl⟩:∃ k:Nat,y=(k:Int):=⟨y.toNat,by lia⟩
   have kl:k<rs.length:=by omega
   have gs4:=k4 _ _ sop gs3
   refine⟨so,rs.map V.int,(k:Int),k,V.int rs[k],rfl,rfl,gs4,by lia,by lia,?_,by rw[List.getElem?_map,List.getElem?_eq_getElem kl];rfl,?_⟩
   ·unfold seqIndex?
    rw[List.length_map]
    simp
    omega
   rw[map_eraseI]
   refine⟨(B4.put sop).mono (by lia),(k3.trans k4).put so0,rs.eraseIdx k,qs++[rs[k]],upd_same,by rw[List.map_append];rfl,?_,by rw[List.length_append,ql];rfl⟩
   rw[List.append_assoc]
   exact(List.Perm.append_left _ (SetA.cut_perm k rs kl)).trans pm
  ·rintro ys G2 yl ⟨B3,k3,rs,qs,gs3,rfl,pm,ql⟩ D hD
   have sD:=Same.new (o:=.lst (qs.map V.int)) hD
   refine⟨_,rfl,D,qs,rfl,SqL.of upd_same,by omega,fun l ms hl pq pw=>?_⟩
   have hl2:=sD.free hl
   have sL:=Same.new (o:=.lst (ms.map V.int)) hl
   refine q l ms _ (k3.free B3 hl2) upd_same (B3.ne hl2) ?_ (by rw[pq.length_eq];lia) (by rw[pq.length_eq];lia) (((B3.same sD).same sL).mono (by lia)) (k3.trans (fun b o _ e=>sL b o (sD b o e)))
   have nd:=upto_nodup n
   have ndq:(qs++rs).Nodup:=pm.nodup_iff.mpr nd
   refine⟨pq.nodup_iff.mpr (List.nodup_append.mp ndq).1,fun x hx=>?_,by rw[pq.length_eq];lia,by rw[pq.length_eq];lia,pw⟩
   have hx:x∈upto n:=pm.mem_iff.mp (List.mem_append_left _ (pq.mem_iff.mp hx))
   unfold upto at hx
   obtain⟨i,hi,e⟩:=List.mem_map.mp hx
   have:=List.mem_range.mp hi
   lia
end
end K74
namespace L2
open PySem PySem.W PyProof.Rows
section
variable{X:Cx}
theorem vals_strs:∀ (ps:List Str) {us:List Value},Vals (ps.map V.str) us->PyProof.Rows.StrsAre us ps
 |[],_,.nil=>.nil
 |p :: ps,_,.cons ⟨t,e⟩ r=>by
  subst e
  exact .cons p t (vals_strs ps r)
theorem vals_from:∀ (ps:List Str) (t:Nat),Vals (ps.map V.str) (strsFrom t ps)
 |[],_=>.nil
 |p :: ps,t=>.cons ⟨t,rfl⟩ (vals_from ps (t+1))
theorem call_int_str:CallR X (.type "int") (fun xs H Q=>∃ x n,xs=[.str x]/\PySem.intText? x=some n/\x.length<=640/\Q (.int n) H):=by
 intro pins s σ H xs us Q I r h
 obtain⟨x,n,rfl,h1,h2,q⟩:=h
 obtain⟨u,rfl,t,rfl⟩:=vals1 r
 exact PySem.W.KIN.call_text h1 h2 ⟨.int _,H,I.tok _,⟨_,rfl⟩,q⟩
noncomputable def rJoin(K:PySem.W.Frag):V->List V->Hp->VK->Prop:=fun x vs H Q=>∃ (sep:Str) (l:Addr) (ps:List Str),x = .str sep/\vs=[.ref l]/\SqL K H l (ps.map V.str)/\(ps.map fun p=>p.length).sum+ps.length * sep.length<=16777216/\Q (.str (Txt.join sep ps)) H
theorem mt_join:MtM X "str.join" (rJoin X.K):=by
 intro pins s σ H x vs v us Q I rx rv h
 obtain⟨sep,l,ps,rfl,rfl,hl,hz,q⟩:=h
 obtain⟨t,rfl⟩:=rx
 obtain⟨u,rfl,ru⟩:=rv.one
 cases ru
 obtain⟨its,r,pl,_⟩:=I.list hl
 refine PyProof.Rows.join_list pl.isList (vals_strs ps r) hz fun t' k=>⟨.str _,H,I.tok _,⟨t',rfl⟩,q⟩
noncomputable def rSplit:V->List V->Hp->VK->Prop:=fun x vs H Q=>∃ (z y:Str),x = .str z/\vs=[.str y]/\0<y.length/\z.length+2<=sizeLine/\∀ p,H p=none->Q (.ref p) (upd H p (.lst ((Txt.split z y).map V.str)))
theorem mt_split:MtM X "str.split" rSplit:=by
 intro pins s σ H x vs v us Q I rx rv h
 obtain⟨z,y,rfl,rfl,hy,hz,q⟩:=h
 obtain⟨t,rfl⟩:=rx
 obtain⟨u,rfl,ru⟩:=rv.one
 obtain⟨u,rfl⟩:=ru
 have y0:(y.length == 0)=false:=by
  rw[beq_eq_false_iff_ne]
  omega
 have fin:∀ (ps:List Str) (its:List Value) (k:Nat),Vals (ps.map V.str) its->ps.length<=sizeLine->Txt.split z y=ps->EP X pins σ Q (.ref s.heap.objs.size) { s with heap:=s.heap.push { cls:=.type "list",data:=.seq its.toArray },toks:=k }:=fun ps its k hv hl e=>by
  have I1:Inv X pins σ (upd H s.heap.objs.size (.lst (ps.map V.str))) { s with heap:=s.heap.push { cls:=.type "list",data:=.seq its.toArray },toks:=k }:=I.laid (t':=k) (o:=.lst (ps.map V.str)) (fun b ob q=>Heap.get?_push_of_some _ q) (Nat.le_refl _) ⟨by rw[List.length_map];exact hl,_,0,hv,Heap.get?_push_size _ rfl⟩
  exact⟨.ref _,_,I1,rfl,by rw[<- e];exact q _ (I.hok.fresh (Nat.le_refl _))⟩
 by_cases c1:(decide (z.length<y.length) || decide (Builtin.Str.strKind z<Builtin.Str.strKind y))=true
 ·refine call_meets PySem.F.slot_str_split (PySem.typeIs_str s z t) F.entry_str_split (F.args_str_split_2 _ _) (meets_str_split_cannot_occur z y t u c1) (fin [z] [.str z t] s.toks (.cons ⟨t,rfl⟩ .nil) (by show 1<=sizeLine;decide) ?_)
  unfold Txt.split
  rw[if_pos c1]
 ·by_cases c2:(Builtin.Str.occurrences z y 0 z.length (z.length+1)).isEmpty=true
  ·refine call_meets PySem.F.slot_str_split (PySem.typeIs_str s z t) F.entry_str_split (F.args_str_split_2 _ _) (meets_str_split_not_found z y t u (by simpa using c1) y0 c2) (fin [z] [.str z t] s.toks (.cons ⟨t,rfl⟩ .nil) (by show 1<=sizeLine;decide) ?_)
   unfold Txt.split
   rw[if_neg c1,if_pos c2]
  ·have hl:(Builtin.Str.partsBetween z (Builtin.Str.occurrences z y 0 z.length (z.length+1)) y.length).length<=sizeLine:=by
    rw[length_partsBetween]
    have:=StrLaws.occ_length_le_len z y 0 z.length (z.length+1)
    omega
   refine call_meets PySem.F.slot_str_split (PySem.typeIs_str s z t) F.entry_str_split (F.args_str_split_2 _ _) (meets_str_split_sep z y t u (by simpa using c1) y0 (by simpa using c2) (by omega) hl) (fin _ _ _ (vals_from _ _) hl ?_)
   unfold Txt.split
   rw[if_neg c1,if_neg c2]
noncomputable def rSlS:V->Option Int->Option Int->Hp->VK->Prop:=fun x lo hi H Q=>∃ z,x = .str z/\(Txt.slice z lo hi).length<=sizeLine/\Q (.str (Txt.slice z lo hi)) H
theorem sl_str:SlR X rSlS:=by
 intro pins s σ H x v vl vu lo hi sl Q I rx hs pl pu h
 obtain⟨z,rfl,hz,q⟩:=h
 obtain⟨t,rfl⟩:=rx
 refine⟨"str",_,PyProof.Rows.slot_str_getitem.lookup,typeIs_str s z t,?_⟩
 obtain⟨o,e,c,d⟩:=hs
 have fin:∀ (l u:Option (Int×Tok)),partValue l=vl->partValue u=vu->l.map (·.1)=lo->u.map (·.1)=hi->wpAny (model X.prog X.w) X.A (getItem (.str z t) (.ref sl)) (EP X pins σ Q) X.xe s:=fun l u e1 e2 e3 e4=>by
  refine wpAny_getItem_str_slice (l:=l) (u:=u) (st:=none) ⟨o,e,c,by rw[d,e1,e2];rfl⟩ rfl ?_
  unfold sliceMade slicePicked
  unfold Txt.slice at q hz
  rw[<- e3,<- e4]at q hz
  cases hw:((Builtin.Str.strSliceIndices (l.map (·.1)) (u.map (·.1)) 1 z.length).length == z.length)with
  |true =>
   rw[hw]at q
   show Made.post (if((1:Int) == 1 && ((Builtin.Str.strSliceIndices (l.map (·.1)) (u.map (·.1)) 1 z.length).length == z.length))=true then Made.val (.str z t)else _) _ _
   rw[hw]
   exact⟨.str z,H,I,⟨t,rfl⟩,q⟩
  |false =>
   rw[hw]at q hz
   show Made.post (if((1:Int) == 1 && ((Builtin.Str.strSliceIndices (l.map (·.1)) (u.map (·.1)) 1 z.length).length == z.length))=true then Made.val (.str z t)else _) _ _
   rw[hw]
   exact⟨hz,.str _,H,I.tok _,⟨_,rfl⟩,q⟩
 cases pl with
 |none=>cases pu with
  |none=>exact fin none none rfl rfl rfl rfl
  |int j u=>exact fin none (some (j,u)) rfl rfl rfl rfl
 |int i k=>cases pu with
  |none=>exact fin (some (i,k)) none rfl rfl rfl rfl
  |int j u=>exact fin (some (i,k)) (some (j,u)) rfl rfl rfl rfl
noncomputable def tFv(te:TE):TE:=fun σ H Q=>te σ H fun x H1=>∃ i,x = .int i/\i.natAbs.log2<1920/\Q (.str (Str.ofString (toString i))) H1
theorem pe_fv{e:Expr}{te:TE}{pos:Pos}(he:PE X e te):PE X (.FormattedValue e (-1) none pos) (tFv te):=by
 intro pins s σ H Q I h
 refine PyProof.Rows.FormattedValue_plain (thn (he pins s σ H _ I h) fun v s1 ⟨x,H1,I1,r1,i,ex,hi,q⟩=>?_)
 subst ex
 obtain⟨t,rfl⟩:=r1
 exact wpAny_formatField_int hi ⟨.str _,H1,I1.tok _,⟨_,rfl⟩,q⟩
inductive PJ(X:Cx):List Expr->List TE->Prop
 |nil:PJ X [] []
 |cons {e:Expr}{es:List Expr}{te:TE}{ts:List TE} (h:PE X e te) (r:PJ X es ts):PJ X (e :: es) (te :: ts)
noncomputable def tJ:List TE->Str->TE
 |[],acc=>fun _ H Q=>Q (.str acc) H
 |t :: ts,acc=>fun σ H Q=>t σ H fun x H1=>∃ y,x = .str y/\(acc++y).length<=sizeLine/\tJ ts (acc++y) σ H1 Q
theorem joins_of{es:List Expr}{ts:List TE}(h:PJ X es ts):∀ (pins:List (Addr×Obj)) (s:Shared) (σ:St) (H:Hp) (Q:VK) (acc:Str),Inv X pins σ H s->acc.length<=sizeLine->tJ ts acc σ H Q->Joins (model X.prog X.w) X.A X.xe (evalEach es X.env) acc (fun out s1=>out.length<=sizeLine/\EP X pins σ Q (.str out s1.toks) { s1 with toks:=s1.toks+1 }) s:=by
 induction h with
 |nil =>
  intro pins s σ H Q acc I ha h
  exact⟨ha,.str acc,H,I.tok _,⟨_,rfl⟩,h⟩
 |cons he _ ih =>
  intro pins s σ H Q acc I ha h
  refine thn (he pins s σ H _ I h) fun v s1 ⟨x,H1,I1,r1,y,ex,hl,q⟩=>?_
  subst ex
  obtain⟨t,rfl⟩:=r1
  exact⟨y,t,rfl,hl,ih pins s1 σ H1 Q _ I1 hl q⟩
theorem pe_joined{e1 e2:Expr}{es:List Expr}{ts:List TE}{pos:Pos}(h:PJ X (e1 :: e2 :: es) ts):PE X (.JoinedStr (e1 :: e2 :: es) pos) (tJ ts Str.empty):=by
 intro pins s σ H Q I q
 exact wpAny_JoinedStr (joins_of h pins s σ H Q _ I (by decide) q)
end
open PySem PySem.W PyProof.Rows
noncomputable def Its(z:Str):It :=
 ⟨fun i H=>i<z.cps.size,fun i H x H'=>H'=H/\∃ c,z.cps[i]?=some c/\x = .str ⟨#[c]⟩,fun i H=>z.cps.size<=i⟩
theorem turn_str{P:Program}{w:World}{K:PySem.W.Frag}{tg:Expr}{it:Addr}{z:Str}{t:Tok}:Turn P w K tg (Its z) [it] it (fun i h=>h.IsStrIter it "str_ascii_iterator" z t i)where
 mem:=by simp
 obj:=fun i h st b hb=>by
  have e:b=it:=by simpa using hb
  subst e
  obtain⟨o,e,c,d⟩:=st
  exact⟨o,e,fun v z=>by rw[d]at z;cases z⟩
 keep:=fun i h h' st k=>by
  obtain⟨o,e,r⟩:=st
  exact⟨o,k it (by simp) o e,r⟩
 item:=by
  intro X hP hw hK hc i pins s σ H E I hf st hg
  subst hP hw hK
  have hx:z.cps[i]?=some (z.cps[i]'hg):=Array.getElem?_eq_getElem hg
  obtain⟨f0,f1,f2,f3,f4,f5⟩:=hf it (by simp)
  refine wpAny_pyNext_ascii_item st hx fun h' st' sb=>?_
  have I1:Inv X pins σ H { s with heap:=h',toks:=s.toks+1 }:=I.turned (t':=s.toks+1) (fun b o hb e=>(sb.2 b hb).trans e) f0 f1 f3 f4 f5
  obtain⟨o,e1,c,d⟩:=id st'
  exact⟨_,rfl,go_of (s:={ s with heap:=h',toks:=s.toks+1 }) e1 c d (by decide) ⟨.str ⟨#[z.cps[i]'hg]⟩,H,I1,⟨_,rfl⟩,⟨rfl,_,hx,rfl⟩,st',fun b hb=>(hf b hb).1⟩⟩
 done:=by
  intro X hP hw hK hc i pins s σ H E I hf st hg
  subst hP hw hK
  obtain⟨f0,f1,f2,f3,f4,f5⟩:=hf it (by simp)
  exact wpAny_pyNext_ascii_end (I.ok.hd hc) st (Array.getElem?_eq_none hg) fun h' eb=>⟨rfl,I.turned (t':=s.toks) (fun b o hb e=>eb b o hb e) f0 f1 f3 f4 f5⟩
 self:=fun _ _ _ _ _ st h=>wpAny_pyIter_striter_ascii st h
noncomputable def iStr(tl:TE):TI:=fun σ H R=>tl σ H fun x H1=>∃ z,x = .str z/\(∀ c∈z.cps.toList,c<128)/\R (Its z) H1
section
variable{X:Cx}
theorem pi_str{tg l:Expr}{tl:TE}(hl:PE X l tl):PI X tg l (iStr tl):=by
 intro pins s σ H R I h
 refine thn (hl pins s σ H _ I h) fun v s1 ⟨x,H1,I1,r1,z,ex,hz,q⟩=>?_
 subst ex
 obtain⟨t,rfl⟩:=r1
 have ty:strIterType z = "str_ascii_iterator":=by
  unfold strIterType
  rw[if_pos (by rw[Array.all_eq_true'];intro c hc;exact decide_eq_true (hz c (by simpa using hc)))]
 refine wpAny_pyIter_strU ?_
 rw[ty]
 have I2:=I1.kept (t':=s1.toks) (h':=s1.heap.push { cls:=.type "str_ascii_iterator",data:=.fields #[.str z t,.int 0 0] }) fun c o e=>Heap.get?_push_of_some _ e
 refine⟨s1.heap.objs.size,[s1.heap.objs.size],_,_,H1,rfl,I2,turn_str (t:=t),⟨_,Heap.get?_push_size _ rfl,rfl,rfl⟩,fun c hc=>?_,q⟩
 have e:c=s1.heap.objs.size:=by simpa using hc
 subst e
 exact I1.fpOk (Nat.le_refl _) (I1.hok.fresh (Nat.le_refl _))
end
section
variable{g:TG}{tc:TT}{te:TE}{cap:List (Option Nat)}{σ:St}{H1:Hp}{Q:VK}{z:Str}
theorem comp_str(P:Nat->List V->Hp->Prop)(hz:z.cps.size<=sizeLine)(p0:P 0 [] H1)
  (hs:∀ i ys H (hi:i<z.cps.size),P i ys H->g (.str ⟨#[z.cps[i]]⟩) (capt cap σ) H fun σ2 H2=>Kp (capt cap σ) σ2/\tc σ2 H2 fun b H3=>if b=true then te σ2 H3 fun y H4=>P (i+1) (ys++[y]) H4 else P (i+1) ys H3)
  (hd:∀ ys H,ys.length<=z.cps.size->P z.cps.size ys H->∀ D,H D=none->Q (.ref D) (upd H D (.lst ys))):compTurns (Its z) cap σ H1 Q g tc te:=by
 refine⟨z.cps.size,P,hz,p0,fun i ys H yl il p=>?_⟩
 by_cases hlt:i<z.cps.size
 ·refine .inr ⟨hlt,hlt,fun x H' y=>?_⟩
  obtain⟨e,c,hc,y⟩:=y
  subst e y
  rw[Array.getElem?_eq_getElem hlt]at hc
  cases hc
  exact hs i ys _ hlt p
 ·have e:i=z.cps.size:=by omega
  subst e
  exact .inl ⟨Nat.le_refl _,hd ys H yl p⟩
end
open PySem PySem.W PyProof.Rows
theorem wpAny_iteB{α:Type}{M:Model}{A:Around}{E:Value->Shared->Prop}{s:Shared}{Q:α->Shared->Prop}{b:Bool}{t e:Sem α}(h1:wpAny M A t Q E s)(h2:wpAny M A e Q E s):wpAny M A (if b=true then t else e) Q E s:=by
 cases b
 ·rw[if_neg Bool.false_ne_true];exact h2
 ·rw[if_pos rfl];exact h1
noncomputable abbrev kwStart(v:Value):List (Str×Value):=[(Str.ofString "start",v)]
theorem enum_newS(l:Addr)(items:Array Value)(i:Int)(t:Tok)(hi:Builtin.SmallTypes.fitsIndex i=true):Meets (Builtin.«enumerate.__new__» { pos:=[.type "enumerate",.ref l],kw:=kwStart (.int i t) }) fun x R s =>
  s.heap.IsList l items /\
   R (.ok (.ret (.ref (s.heap.push { cls:=.type "list_iterator",data:=.fields #[.ref l,.int 0 0] }).objs.size)))
    { s with heap:=(s.heap.push { cls:=.type "list_iterator",data:=.fields #[.ref l,.int 0 0] }).push { cls:=.type "enumerate",data:=.fields #[.none,.bool false,.ref s.heap.objs.size,rawInt i,.none,.none] } }:=by
 refine Meets.of_wp fun prog w A R s h=>?_
 obtain⟨hp,g,d,tk,os⟩:=s
 obtain⟨hL,h⟩:=h
 unfold Builtin.«enumerate.__new__» Builtin.SmallTypes.newClass
 refine wpAny_bind (wpAny_bind (wpAny_of_eq (show isType (.type "enumerate")=pure true from rfl) ?_))
 refine wpAny_ite_false (by rfl) (wpAny_bind (wpAny_of_eq sub_enumerate (wpAny_ite_false (by rfl) (wpAny_pure ?_))))
 refine wpAny_ite_true (by rfl) (wpAny_bind ?_)
 unfold Builtin.SmallTypes.calledThroughType
 refine wpAny_bind (wpAny_stack_any fun st=>wpAny_pure ?_)
 have fin:wpAny (model prog w) A.in1 (do
   let __do_lift <- pyIter (.ref l)
   let __do_lift <- Builtin.SmallTypes.newRecord (.type "enumerate") (Builtin.SmallTypes.ownedTupleFields++[__do_lift,rawInt i,.none,.none])
   ret __do_lift) (fun fin s'=>∃ v,fin=Fin.done (Flow.ret v)/\R (.ok (.ret v)) s') (fun e s'=>R (.error e) s') { heap:=hp,gens:=g,drawn:=d,toks:=tk,os:=os }:=by
  refine wpAny_bind (wpAny_pyIter_list hL (wpAny_bind ?_))
  unfold Builtin.SmallTypes.newRecord newObj
  refine wpAny_ite_false (by rfl) ?_
  refine wpAny_bind (wpAny_alloc' (wpAny_pure ?_))
  exact wpAny_pure ⟨_,rfl,h⟩
 refine wpAny_iteB (wpAny_bind (wpAny_of_eq (a:=(Value.ref l,some (Value.int i t))) (by rfl) ?_)) (wpAny_bind (wpAny_of_eq (a:=(Value.ref l,some (Value.int i t))) (by rfl) ?_))
 all_goals
  refine wpAny_bind ?_
  unfold Builtin.SmallTypes.indexObject
  refine wpAny_bind (wpAny_of_eq (a:=some i) (by rfl) (wpAny_ite_true rfl (wpAny_pure ?_)))
  refine wpAny_bind (wpAny_of_eq (a:=some i) (by rfl) ?_)
  refine wpAny_ite_false (by rw[hi];rfl) fin
theorem object_init_meetsK{T newId:String}{self a:Value}{rest:List Value}{kw:List (Str×Value)}(hl:typeLookup (.type T) (Str.ofString "__init__")=pure (some (.builtin "object.__init__")))(hm:Bind.madeBy (.type T)=pure (some newId))(hne:(some newId != some "object.__new__")=true) :
  Meets (Builtin.«object.__init__» { pos:=self :: a :: rest,kw:=kw }) fun x R s=>s.TypeIs self T/\R (.ok (.ret .none)) s:=by
 refine Meets.of_wp fun prog w A R s hs=>?_
 obtain⟨hT,hq⟩:=hs
 unfold Builtin.«object.__init__»
 refine wpAny_ite_true (by rfl) (wpAny_bind (wpAny_typeOf hT (wpAny_bind (wpAny_of_eq hl (wpAny_bind (wpAny_of_eq hm (wpAny_ite_false (by rfl) (wpAny_ite_false ?_ (wpAny_pure ⟨.none,rfl,hq⟩)))))))))
 rw[hne,Bool.or_true]
 rfl
theorem callType_newK{prog:Program}{w:World}{A:Around}{E:Value->Shared->Prop}{s:Shared}{T newId:String}{Bn:Builtin}{a:Value}{args:List Value}{kw:List (Str×Value)}{S:PySem.Spec}{Q:Value->Shared->Prop}(ft:TypeCalled T newId "object.__init__")(hne:(some newId != some "object.__new__")=true)
  (hct:checkTypeCall T { pos:=a :: args,kw:=kw } = pure ()) (hcn:checkBuiltinCall newId { pos:=.type T :: a :: args,kw:=kw } = pure ()) (hok:∀ obj,argsOk "object.__init__" { pos:=obj :: a :: args,kw:=kw }) (entryN:entryFor table newId=some Bn)
  (g:Meets (Bn { pos:=.type T :: a :: args,kw:=kw }) S) (h:S A.in1 (wants (fun obj s₁=>s₁.TypeIs obj T/\Q obj s₁) E) s):wpAny (model prog w) A (call (.type T) (a :: args) kw) Q E s:=by
 obtain⟨c,tl,hmro⟩:=ft.mro
 have hmade:=ft.made
 have hsub:=ft.sub
 refine wpAny_call (codeAny_of_tree ?_)
 refine wpAny_pure ⟨Code.quiet_builtin _ (by decide +kernel),codeAny_builtin F.entry_type_call ?_⟩
 rw[Around.under_plain (weight_type_call_type T (a :: args) kw) (units_type_call_type T (a :: args) kw)]
 unfold Builtin.«type.__call__»
 refine wpAny_ite_false (by rw[ft.notType];rfl) ?_
 refine wpAny_ite_false (by have:=ft.canCreate;simp only[this];rfl) ?_
 refine wpAny_bind (wpAny_of_eq hct (wpAny_bind (wpAny_of_eq hmro (wpAny_ite_false (by rfl) (wpAny_bind (wpAny_of_eq hmade (wpAny_bind (wpAny_pure (wpAny_bind (wpAny_holding (wpAny_call ?_))))))))))) 
 refine codeAny_mono (codeAny_call_builtin ft.plain entryN (wpAny_of_eq hcn (g prog w A.in1 (wants (fun obj s₁=>s₁.TypeIs obj T/\Q obj s₁) E) s h))) fun r s₁ hr=>?_
 cases r with
 |error e=>exact hr
 |ok f =>
  cases f with
  |ret v =>
   obtain⟨hv,q⟩:=hr
   refine wpAny_bind (wpAny_isInstance hv hsub (wpAny_ite_false (by rfl) (wpAny_bind (wpAny_holding ?_))))
   refine wpAny_callSpecial?_slot hv ft.init (wpAny_call (codeAny_mono (codeAny_call_builtin ft.init.plain F.entry_object_init (ft.init.check _ _ _ _ _ _ _ _ hv (hok v) (object_init_meetsK ft.init.lookup ft.made hne prog w A.in1 (wants (fun r s₂=>r=Value.none/\Q v s₂) E) s₁ ⟨hv,rfl,q⟩))) fun r s₂ hr=>?_))
   cases r with
   |error e=>exact hr
   |ok f =>
    cases f with
    |ret r =>
     obtain⟨rfl,q2⟩:=hr
     exact wpAny_ite_false (by rfl) (wpAny_pure q2)
    | _=>exact False.elim hr
  | _=>exact False.elim hr
theorem enum_type(a:Value)(t:Tok)(i:Int):checkTypeCall "enumerate" { pos:=[a],kw:=kwStart (.int i t) } = pure ():=by rfl
theorem enum_new(a:Value)(t:Tok)(i:Int):checkBuiltinCall "enumerate.__new__" { pos:=[.type "enumerate",a],kw:=kwStart (.int i t) } = pure ():=by with_unfolding_all rfl
theorem enum_init(o a:Value)(t:Tok)(i:Int):argsOk "object.__init__" { pos:=[o,a],kw:=kwStart (.int i t) }:=by rfl
theorem call_enum_start{prog:Program}{w:World}{A:Around}{E:Value->Shared->Prop}{s:Shared}{l:Addr}{items:Array Value}{i:Int}{t:Tok}{Q:Value->Shared->Prop}(hi:Builtin.SmallTypes.fitsIndex i=true)(hl:s.heap.IsList l items)
  (h:∀ h':Heap,IsEnum h' (s.heap.objs.size+1) s.heap.objs.size i .none->h'.IsListIter s.heap.objs.size l 0->(∀ b o,s.heap.get? b=some o->h'.get? b=some o)->Q (.ref (s.heap.objs.size+1)) { s with heap:=h' }) :
  wpAny (model prog w) A (call (.type "enumerate") [.ref l] (kwStart (.int i t))) Q E s:=by
 have hz:(s.heap.push { cls:=.type "list_iterator",data:=.fields #[.ref l,.int 0 0] }).objs.size=s.heap.objs.size+1:=Heap.size_push _ _
 have he:((s.heap.push { cls:=.type "list_iterator",data:=.fields #[.ref l,.int 0 0] }).push { cls:=.type "enumerate",data:=.fields #[.none,.bool false,.ref s.heap.objs.size,rawInt i,.none,.none] }).get? (s.heap.objs.size+1)=some { cls:=.type "enumerate",data:=.fields #[.none,.bool false,.ref s.heap.objs.size,rawInt i,.none,.none] }:=by
  rw[<- hz]
  exact Heap.get?_push_size _ rfl
 refine callType_newK F.called_enumerate (by decide) (enum_type _ _ _) (enum_new _ _ _) (fun o=>enum_init _ _ _ _) F.entry_enumerate_new (enum_newS l items i t hi) ⟨hl,?_⟩
 show(_:Shared).TypeIs (.ref _) _/\Q (.ref _) _
 rw[hz]
 exact⟨⟨_,he,rfl⟩,h _ he ⟨_,Heap.get?_push_of_some _ (Heap.get?_push_size _ rfl),rfl,rfl⟩ fun b o e=>Heap.get?_push_of_some _ (Heap.get?_push_of_some _ e)⟩
open PySem PySem.W PyProof.Rows
theorem callWith_type_kw{M:Model}{A:Around}{E:Value->Shared->Prop}{s:Shared}{pos:Pos}{T:String}{first:List Value}{args:List (Bool×Sem Value)}{keywords:List (Option Str×Sem Value)}{Q:Value->Shared->Prop}(hplain:(args.any fun x=>x.fst)=false)(hkw:(keywords.any fun x=>x.fst.isNone)=false)
  (h:wpAny M A (evalArgs (.type T) true args keywords) (fun a s₁=>wpAny M A (call (.type T) (first++a.pos) a.kw) Q E s₁) E s):wpAny M A (callWith pos (.type T) first args keywords) Q E s:=by
 unfold callWith
 refine wpAny_bind (wpAny_holding (wpAny_mono h (fun a s₁ h₁=>wpAny_bind (wpAny_standAt ?_)) fun _ _ e=>e))
 simp only[hplain,hkw,Bool.or_false]
 refine wpAny_bind (wpAny_pure ?_)
 exact wpAny_bind (wpAny_mono h₁ (fun r s₂ hr=>wpAny_bind (wpAny_holding (wpAny_point (wpAny_pure hr)))) fun _ _ e=>e)
theorem draws_shift{prog:Program}{w:World}{A:Around}{it:Addr}{fp:List Addr}{n:Nat}{P:Nat->Value->Prop}{St:Nat->Heap->Prop}(D:Draws prog w A it fp n P St):Draws prog w A it fp (n+1) (fun i x=>∃ j,i=j+1/\P j x) (fun i h=>∃ j,i=j+1/\St j h)where
 live:=fun i h ⟨j,_,st⟩=>D.live j h st
 frame:=fun i h h' ⟨j,e,st⟩ k=>⟨j,e,D.frame j h h' st k⟩
 item:=fun i s Q E hi ⟨j,e,st⟩ k=>by
  subst e
  exact D.item j s Q E (Nat.lt_of_succ_lt_succ hi) st fun x h' tk p st' sb=>k x h' tk ⟨j,rfl,p⟩ ⟨j+1,rfl,st'⟩ sb
 done:=fun s Q E ⟨j,e,st⟩ k=>by
  cases e
  exact D.done s Q E st k
noncomputable def Ite1(K:PySem.W.Frag)(l:Addr):It :=
  ⟨fun i H=>∃ xs x,SqL K H l xs/\xs[i]?=some x,
   fun i H v H'=>∃ T x,v = .ref T/\H T=none/\H'=upd H T (.tup [.int ((i+1:Nat):Int),x])/\∀ xs,SqL K H l xs->xs[i]?=some x,
   fun i H=>∃ xs,SqL K H l xs/\i=xs.length⟩
theorem turn_enum1{P:Program}{w:World}{K:PySem.W.Frag}{es:List Expr}{kk:Nat}{pos:Pos}(e it l:Addr)(ne:e≠it)(nl:e≠l)(ni:l≠it):Turn P w K (.Tuple es kk pos) (Ite1 K l) [e,it] e
  (fun i h=>(∃ old,IsEnum h e it ((i+1:Nat):Int) old)/\h.IsListIter it l i)where
 mem:=by simp
 obj:=fun i h st b hb=>by
  obtain⟨⟨old,he⟩,h1⟩:=st
  simp only[List.mem_cons,or_false,List.not_mem_nil]at hb
  rcases hb with z | z
  ·rw[z];exact⟨_,he,fun v z=>by cases z⟩
  ·rw[z]
   obtain⟨o,e,c,d⟩:=h1
   exact⟨o,e,fun v z=>by rw[d]at z;cases z⟩
 keep:=fun i h h' st k=>by
  obtain⟨⟨old,he⟩,h1⟩:=st
  exact⟨⟨old,k e (by simp) _ he⟩,Heap.IsListIter.at h1 fun o e=>k it (by simp) o e⟩
 item:=by
  intro X hP hw hK hc i pins s σ H E I hf st hg
  subst hP hw hK
  obtain⟨⟨old,he⟩,h1⟩:=st
  obtain⟨xs,x,q1,hx⟩:=hg
  obtain⟨us,r1,p1,_⟩:=I.list q1
  obtain⟨u,hu,ru⟩:=r1.get hx
  have hn:H s.heap.objs.size=none:=I.hok.fresh (Nat.le_refl _)
  refine wpAny_pyNext_enum_itemD (draws_shift (Draws.list (show X.A.in1.handled=none from I.ok.hd hc) it l ni us.toArray)) he ⟨i,rfl,h1,p1.isList⟩ (Nat.succ_lt_succ (by simpa using(List.getElem?_eq_some_iff.mp hu).1)) ne ?_ fun v g tk hv e1 st' t1 sz kp=>⟨_,rfl,?_⟩
  ·simp only[List.mem_cons,or_false,List.not_mem_nil,not_or]
   exact⟨ne,nl⟩
  obtain⟨j,ej,n1,_⟩:=st'
  cases ej
  obtain⟨j,ej,hv⟩:=hv
  cases ej
  have ev:v=u:=by
   have:us[i]?=some v:=by simpa using hv
   rw[hu]at this
   exact(Option.some.inj this).symm
  subst ev
  refine wpAny_letOwnedTupleGo_enum e1 fun g' e2 sb=>?_
  have zlt:e≠s.heap.objs.size:=Nat.ne_of_lt (Heap.lt_size he)
  have kp2:∀ b o,b∉[e,it]->s.heap.get? b=some o->g'.get? b=some o:=fun b o nb z=>by
   simp only[List.mem_cons,List.not_mem_nil,or_false,not_or]at nb
   exact sb.extBut _ _ nb.1 (kp b o nb.1 nb.2 z)
  have I2:Inv X pins σ (upd H s.heap.objs.size (.tup [.int ((i+1:Nat):Int),x])) { s with heap:=g',toks:=tk+1 }:=I.turnedN (t':=tk+1) (ch:=[e,it]) (a:=s.heap.objs.size) (ob:=.tup [.int ((i+1:Nat):Int),x]) hf kp2 (Nat.le_refl _) (show ObjOk X.prog X.w _ g' _ (.tup [.int ((i+1:Nat):Int),x])from⟨by show 2<=sizeLine;decide,[.int ((i+1:Nat):Int) tk,v],.cons ⟨_,rfl⟩ (.cons ru .nil),⟨_,sb.extBut _ _ (Ne.symm zlt) t1,rfl,0,rfl⟩⟩)
  refine⟨.ref s.heap.objs.size,_,I2,rfl,⟨_,x,rfl,hn,rfl,fun xs' h=>by rw[I.list_inj h q1];exact hx⟩,⟨⟨_,by have e3:=e2;exact_mod_cast e3⟩,Heap.IsListIter.at n1 fun o z=>sb.extBut _ _ (Ne.symm ne) z⟩,fun b hb=>?_⟩
  have bo:∃ o,s.heap.get? b=some o:=by
   simp only[List.mem_cons,or_false,List.not_mem_nil]at hb
   rcases hb with z | z
   ·rw[z];exact⟨_,he⟩
   ·rw[z];obtain⟨o,e,_⟩:=h1;exact⟨o,e⟩
  obtain⟨o,z⟩:=bo
  rw[upd_ne (Nat.ne_of_lt (Heap.lt_size z))]
  exact(hf b hb).1
 done:=by
  intro X hP hw hK hc i pins s σ H E I hf st hg
  subst hP hw hK
  obtain⟨⟨old,he⟩,h1⟩:=st
  obtain⟨xs,q1,le⟩:=hg
  obtain⟨us,r1,p1,_⟩:=I.list q1
  have e1:=r1.length
  refine wpAny_pyNext_enum_endD (draws_shift (Draws.list (show X.A.in1.handled=none from I.ok.hd hc) it l ni us.toArray)) he ⟨i,by rw[List.size_toArray,<- e1,le],h1,p1.isList⟩ fun g kp=>⟨rfl,?_⟩
  refine I.turnedL (t':=s.toks) (ch:=[e,it]) hf fun b o nb z=>?_
  simp only[List.mem_cons,List.not_mem_nil,or_false,not_or]at nb
  exact kp b o nb.2 z
 self:=fun _ _ _ _ _ st h=>by
  obtain⟨⟨old,he⟩,h1⟩:=st
  exact wpAny_pyIter_enum he h
noncomputable def iEnum1(K:PySem.W.Frag)(ta:TA):TI:=fun σ H R=>ta σ H fun vs H1=>∃ l,vs=[.ref l]/\(∃ xs,SqL K H1 l xs)/\R (Ite1 K l) H1
theorem pi_enum1{X:Cx}{es:List Expr}{kk j:Nat}{tpos:Pos}{a:Expr}{ta:TA}{p p2 p3 pos:Pos}(hg:Gl X "enumerate")(hm:X.mg "enumerate" = none)(ha:PA X [a] ta)(hs:starEach [a] X.env=[(false,eval a X.env)]:=by rfl) :
  PI X (.Tuple es kk tpos) (.Call (.Name "enumerate" p) [a] [⟨some (Str.ofString "start"),.Constant (.int 1) j p2,p3⟩] pos) (iEnum1 X.K ta):=by
 intro pins s σ H R I h
 have e:backTo pos (starEach [a] X.env)=[(false,eval a X.env)]:=by rw[hs];rfl
 have hA:=ha pos pins s σ H _ I h
 rw[e]at hA
 refine wpAny_Call_Name_kw (ld_blt I hg hm boot_enumerate ?_)
 rw[e]
 refine callWith_type_kw (by rfl) (by rfl) (PyProof.Rows.evalArgs_kwB (by rfl) (thn hA fun us s1 ⟨vs,H1,I1,r1,l,ev,⟨xs,q1⟩,q⟩=>?_))
 subst ev
 obtain⟨u,rfl,rx⟩:=Vals.one r1
 cases rx
 have hk:PK X [⟨some (Str.ofString "start"),.Constant (.int 1) j p2,p3⟩] (tCons (tC (.int 1)) tNil):=pk_cons pe_int pk_nil
 refine thn (hk pos pins s1 σ H1 (fun ks H2=>H2=H1/\ks=[V.int 1]) I1 ⟨rfl,rfl⟩) fun kvs s2 ⟨ks,H2,I2,r2,eH,ek⟩=>?_
 subst eH ek
 obtain⟨u,rfl,t,rfl⟩:=Vals.one r2
 obtain⟨us,_,p1,_⟩:=I2.list q1
 have ll:l<s2.heap.objs.size:=by obtain⟨o,n,e,_⟩:=p1;exact Heap.lt_size e
 refine call_enum_start (by decide) p1.isList fun g' e1 h1 kp=>?_
 refine wpAny_pyIter_enum e1 ⟨s2.heap.objs.size+1,_,_,_,H2,rfl,I2.kept (t':=s2.toks) kp,turn_enum1 _ s2.heap.objs.size l (Nat.ne_of_gt (Nat.lt_succ_self _)) (Nat.ne_of_gt (Nat.lt_succ_of_lt ll)) (Nat.ne_of_lt ll),⟨⟨_,e1⟩,h1⟩,fun b hb=>?_,q⟩
 have le:s2.heap.objs.size<=b:=by
  simp only[List.mem_cons,or_false,List.not_mem_nil]at hb
  rcases hb with e | e
  ·rw[e];exact Nat.le_add_right _ 1
  ·rw[e];exact Nat.le_refl _
 exact I2.fpOk le (I2.hok.fresh le)
theorem for_enum1{K:PySem.W.Frag}{l:Addr}{xs:List V}{g:TG}{tb:TS}{D:Ends}{σ:St}{H:Hp}(Pv:Nat->St->Hp->Prop)(h0:Pv 0 σ H)(hl:∀ i σ H,i<=xs.length->Pv i σ H->SqL K H l xs)
  (hs:∀ i x σ H T,xs[i]?=some x->Pv i σ H->H T=none->g (.ref T) σ (upd H T (.tup [.int ((i+1:Nat):Int),x])) fun σ2 H2=>tb { D with nx:=Pv (i+1),ct:=Pv (i+1),bk:=D.nx } σ2 H2) (hd:∀ σ H,Pv xs.length σ H->D.nx σ H) :
  ∃ W:Nat->Nat->St->Hp->Prop,(∃ m,W 0 m σ H)/\∀ i m σ H,W i m σ H ->
   ((Ite1 K l).stop i H/\D.nx σ H)\/((Ite1 K l).go i H/\∃ N:St->Hp->Prop,(∀ σ' H',N σ' H'->∃ m',m'<m/\W (i+1) m' σ' H')/\∀ x H',(Ite1 K l).yld i H x H'->g x σ H' fun σ2 H2=>tb { D with nx:=N,ct:=N,bk:=D.nx } σ2 H2):=by
 refine⟨fun i m σ H=>m=xs.length-i/\i<=xs.length/\Pv i σ H,⟨xs.length,by simp,Nat.zero_le _,h0⟩,?_⟩
 rintro i m σ H ⟨rfl,hi,p⟩
 have q:=hl i σ H hi p
 by_cases hlt:i<xs.length
 ·refine .inr ⟨⟨xs,xs[i],q,by simp[hlt]⟩,Pv (i+1),fun σ' H' p'=>⟨xs.length-(i+1),by omega,rfl,hlt,p'⟩,fun x H' y=>?_⟩
  obtain⟨T,x',e1,hT,e2,y⟩:=y
  subst e1
  subst e2
  exact hs i x' σ H T (y xs q) p hT
 ·have e:i=xs.length:=by omega
  subst e
  exact .inl ⟨⟨xs,q,rfl⟩,hd σ H p⟩
open PySem PySem.W PyProof.Rows
noncomputable abbrev sg(c:Nat):Str:=⟨#[c]⟩
noncomputable def jn(c:Nat):List (List Nat)->List Nat
 |[]=>[]
 |[a]=>a
 |a :: b :: r=>a++c :: jn c (b :: r)
theorem join_two(s a b:Str)(r:List Str):s.join (a :: b :: r)=⟨a.cps++s.cps++(s.join (b :: r)).cps⟩:=rfl
theorem join_jn(c:Nat):∀ ps:List Str,((sg c).join ps).cps.toList=jn c (ps.map fun p=>p.cps.toList)
 |[]=>rfl
 |[a]=>rfl
 |a :: b :: r=>by
  rw[join_two]
  show(a.cps++(#[c]:Array Nat)++((sg c).join (b :: r)).cps).toList=_
  rw[Array.toList_append,Array.toList_append,join_jn c (b :: r)]
  simp[jn]
theorem cut_at{c:Nat}:∀ {a b:List Nat}{x y:List Nat},c∉a->c∉b->a++c :: x=b++c :: y->a=b/\x=y
 |[],[],x,y,_,_,e=>⟨rfl,(List.cons.inj e).2⟩
 |[],b :: bs,x,y,_,hb,e=>absurd (List.mem_cons.mpr (.inl (List.cons.inj e).1)) hb
 |a :: as,[],x,y,ha,_,e=>absurd (List.mem_cons.mpr (.inl (List.cons.inj e).1.symm)) ha
 |a :: as,b :: bs,x,y,ha,hb,e=>by
  obtain⟨e1,e2⟩:=List.cons.inj e
  obtain⟨e3,e4⟩:=cut_at (fun h=>ha (List.mem_cons_of_mem _ h)) (fun h=>hb (List.mem_cons_of_mem _ h)) e2
  exact⟨by rw[e1,e3],e4⟩
theorem jn_inj{c:Nat}:∀ {ps qs:List (List Nat)},ps≠[]->qs≠[]->(∀ p∈ps,c∉p)->(∀ q∈qs,c∉q)->jn c ps=jn c qs->ps=qs
 |[],_,h,_,_,_,_=>absurd rfl h
 | _,[],_,h,_,_,_=>absurd rfl h
 |[a],[b],_,_,_,_,e=>by rw[show a=b from e]
 |[a],b :: d :: r,_,_,ha,_,e=>by
  have e:a=b++c :: jn c (d :: r):=e
  exact absurd (by rw[e];simp) (ha a List.mem_cons_self)
 |a :: d :: r,[b],_,_,_,hb,e=>by
  have e:a++c :: jn c (d :: r)=b:=e
  exact absurd (by rw[<- e];simp) (hb b List.mem_cons_self)
 |a :: d :: r,b :: f :: t,_,_,ha,hb,e=>by
  have e:a++c :: jn c (d :: r)=b++c :: jn c (f :: t):=e
  obtain⟨e1,e2⟩:=cut_at (ha a List.mem_cons_self) (hb b List.mem_cons_self) e
  rw[e1,jn_inj (by simp) (by simp) (fun p h=>ha p (List.mem_cons_of_mem _ h)) (fun p h=>hb p (List.mem_cons_of_mem _ h)) e2]
theorem split_ne(x y:Str):Txt.split x y≠[]:=by
 unfold Txt.split
 split
 ·simp
 ·split
  ·simp
  ·intro h
   have:=congrArg List.length h
   rw[length_partsBetween]at this
   simp at this
theorem str_ext{a b:Str}(h:a.cps.toList=b.cps.toList):a=b:=by
 obtain⟨a⟩:=a
 obtain⟨b⟩:=b
 rw[show a=b from Array.toList_inj.mp h]
theorem split_join{c:Nat}{ps:List Str}(ne:ps≠[])(hp:∀ p∈ps,c∉p.cps.toList):Txt.split ((sg c).join ps) (sg c)=ps:=by
 have e:=StrLaws.join_split ((sg c).join ps) (sg c)
 have e2:=congrArg (fun z:Str=>z.cps.toList) e
 simp only[join_jn]at e2
 have h:=jn_inj (c:=c) (by intro h;exact split_ne _ _ (List.map_eq_nil_iff.mp h)) (by intro h;exact ne (List.map_eq_nil_iff.mp h)) (fun p h=>by
  obtain⟨q,hq,rfl⟩:=List.mem_map.mp h
  exact StrLaws.split_free _ c q hq) (fun p h=>by
  obtain⟨q,hq,rfl⟩:=List.mem_map.mp h
  exact hp q hq) e2
 have inj:∀ {xs ys:List Str},xs.map (fun p=>p.cps.toList)=ys.map (fun p=>p.cps.toList)->xs=ys:=fun {xs}=>by
  induction xs with
  |nil=>intro ys h;cases ys with | nil=>rfl | cons a b=>cases h
  |cons x xs ih =>
   intro ys h
   cases ys with
   |nil=>cases h
   |cons y ys =>
    obtain⟨h1,h2⟩:=List.cons.inj h
    rw[str_ext h1,ih h2]
 exact inj h
open PySem PySem.W PyProof.Rows
noncomputable abbrev num(i:Int):Str:=Str.ofString (toString i)
theorem num_list(m:Nat):(num (m:Int)).cps.toList=(Nat.toDigits 10 m).map Char.toNat:=by
 show(Str.ofString (toString m)).cps.toList=_
 rw[PyProof.Rows.signs_ofString,Nat.toString_eq_ofList_toDigits,String.toList_ofList]
theorem num_digits(m:Nat):NumText.AllDigits (num (m:Int)).cps.toList:=by
 intro c hc
 rw[num_list]at hc
 obtain⟨x,hx,rfl⟩:=List.mem_map.mp hc
 have h:=Nat.isDigit_of_mem_toDigits (by decide) (by decide) hx
 have h:(x.val >= '0'.val && x.val<='9'.val)=true:=h
 rw[Bool.and_eq_true,decide_eq_true_eq,decide_eq_true_eq]at h
 exact⟨h.1,h.2⟩
theorem num_ne(m:Nat):(num (m:Int)).cps.toList≠[]:=by
 rw[num_list]
 intro h
 exact Nat.toDigits_ne_nil (List.map_eq_nil_iff.mp h)
theorem num_val(m:Nat):NumText.digitsVal (num (m:Int)).cps.toList=m:=by
 rw[num_list]
 unfold NumText.digitsVal
 rw[List.foldl_map]
 have h:=Nat.ofDigitChars_ten_toDigits (n:=m)
 unfold Nat.ofDigitChars at h
 conv=>rhs;rw[<- h]
 congr 1
 funext a c
 rw[Nat.mul_comm]
 rfl
theorem num_len{m:Nat}(h:m<10 ^ 18):(num (m:Int)).length<=18:=by
 have e:(num (m:Int)).length=(num (m:Int)).cps.toList.length:=by
  show _=_
  rw[Array.length_toList]
  rfl
 rw[e,num_list,List.length_map]
 exact(Nat.length_toDigits_le_iff (by decide) (by decide)).mpr h
theorem num_int{m:Nat}(h:m<10 ^ 18):PySem.intText? (num (m:Int))=some (m:Int):=by
 rw[intText_digits (num_digits m) (num_ne m) (by have:=num_len h;omega),num_val]
theorem digits_head:∀ m:Nat,m≠0->(Nat.toDigits 10 m).head?≠some '0':=by
 intro m
 induction m using Nat.strongRecOn with
 | _ m ih =>
  intro h0 h
  by_cases hm:m<10
  ·rw[Nat.toDigits_of_lt_base hm]at h
   have:m=0\/m=1\/m=2\/m=3\/m=4\/m=5\/m=6\/m=7\/m=8\/m=9:=by omega
   rcases this with rfl | rfl | rfl | rfl | rfl | rfl | rfl | rfl | rfl | rfl
   ·exact h0 rfl
   all_goals exact absurd h (by decide)
  ·rw[Nat.toDigits_of_base_le (by decide) (by omega)]at h
   have ih':=ih (m / 10) (by omega) (by omega)
   cases hd:Nat.toDigits 10 (m / 10)with
   |nil=>exact Nat.toDigits_ne_nil hd
   |cons a r =>
    rw[hd]at h ih'
    exact ih' h
theorem num_head{m:Nat}(h:m≠0){c:Nat}{r:List Nat}(e:(num (m:Int)).cps.toList=c :: r):c≠48:=by
 intro z
 subst z
 rw[num_list]at e
 cases hd:Nat.toDigits 10 m with
 |nil=>exact Nat.toDigits_ne_nil hd
 |cons a t =>
  rw[hd]at e
  have e1:a.toNat=48:=(List.cons.inj e).1
  have:a = '0':=Char.toNat_inj.mp e1
  exact digits_head m h (by rw[hd,this];rfl)
theorem slice_one{z:Str}{c:Nat}{r:List Nat}(e:z.cps.toList=c :: r):Txt.slice z none (some 1)=sg c:=by
 have hl:z.length=r.length+1:=by
  have:=congrArg List.length e
  rw[Array.length_toList,List.length_cons]at this
  exact this
 have hi:Builtin.Str.strSliceIndices none (some 1) 1 z.length=[0]:=by
  rw[hl]
  unfold Builtin.Str.strSliceIndices
  have e1:max 0 (min (if(1:Int)<0 then 1+((r.length+1:Nat):Int)else 1) ((r.length+1:Nat):Int))=1:=by
   rw[if_neg (by decide)]
   omega
  simp only[e1]
  simp
  rfl
 unfold Txt.slice
 rw[hi]
 have h0:z.cps[0]?=some c:=by
  rw[<- Array.getElem?_toList,e]
  rfl
 cases r with
 |nil =>
  rw[hl]
  have:z=sg c:=str_ext (by rw[e])
  rw[this]
  rfl
 |cons a b =>
  rw[hl]
  simp[h0]
theorem in_figs{c:Nat}(h:48<=c/\c<=57):(!(Builtin.Str.occurrences (Str.ofString "0123456789") (sg c) 0 (Str.ofString "0123456789").length 1).isEmpty)=true:=by
 have:c=48\/c=49\/c=50\/c=51\/c=52\/c=53\/c=54\/c=55\/c=56\/c=57:=by omega
 rcases this with rfl | rfl | rfl | rfl | rfl | rfl | rfl | rfl | rfl | rfl <;> decide +kernel
end L2
namespace K74
open PySem L2 PyProof.Rows
noncomputable def spSame(n:Nat):Sp:=fun vs H Q _=>∃ (f u:V) (d:Dt),vs=[f,u]/\Dat H n f d/\Dat H n u d/\∀ H',Same H H'->Q (.bl true) H'
section
variable{P:Program}{w:World}{K:PySem.W.Frag}{mg:Str->Option Value}{base:Heap}
theorem scSame:FnScope ["_law_found","_law_due"] ["_law_found","_law_due"] (defScope sSame):=⟨rfl,rfl,rfl,by decide +kernel,rfl,by decide +kernel,by decide +kernel⟩
theorem csSame:CompScope ["_law_one","_law_other"] [none,none] ["_law_found","_law_due"] (defScope sSame) (scO [(".0",.local),("_law_one",.local),("_law_other",.local),("_law_same",.globalImplicit)]):=⟨rfl,by decide +kernel,by decide +kernel,by decide +kernel,rfl,capB_ok (by decide +kernel)⟩
theorem ndSame:(["_law_one","_law_other"]:List Str).Nodup:=by decide +kernel
theorem same_flat{f:Addr}{cdv:Value}{A:Around}{outer:List Env}{s:Shared}{H:Hp}{Q:VK}{E:XK}(T:Txt mg){x:V}{d:Dt}(hx:Dat H 0 x d)(q:∀ H',Same H H'->Q (.bl true) H') :
  ∃ t,PSs (cxOf CX0 P w K mg base ["_law_found","_law_due"] "_law_same" (defScope sSame) f cdv A outer s H E).nox (defBody sSame) t/\t { nx:=fun _ H'=>Q .non H',rt:=Q } (start ["_law_found","_law_due"] [x,x]) H:=by
 cases d with
 |int i =>
  have ex:x = .int i:=hx
  subst ex
  refine⟨_,pss_cons (ps_if (pt_val (pe_callB call_isinst2 (by rfl) T.isinst boot_isinstance (@pa_nam _ _ _ _ _ _ (pv 1) (@pa_tup _ _ _ _ _ _ _ (pe_tup (@pa_nam _ _ _ _ _ _ (pe_bltn (v:=.ty "list") (by rfl) T.list boot_list rfl) (@pa_nam _ _ _ _ _ _ (pe_bltn (v:=.ty "tuple") (by rfl) T.tuple boot_tuple rfl) pa_nil))) pa_nil)))) pss_never pss_nil)
   (pss_cons (ps_if (PW.pt (pw_or (pt_cmpR op_isN (pv 1) pe_non (nomark _)) (pw_or1 (pt_val (pe_callB call_isinst (by rfl) T.isinst boot_isinstance (@pa_nam _ _ _ _ _ _ (pv 1) (@pa_nam _ _ _ _ _ _ (pe_bltn (v:=.ty "str") (by rfl) T.str boot_str rfl) pa_nil))))))) pss_never pss_nil)
   (pss_cons (ps_if (pt_val (pe_callB call_isinst (by rfl) T.isinst boot_isinstance (@pa_nam _ _ _ _ _ _ (pv 1) (@pa_nam _ _ _ _ _ _ (pe_bltn (v:=.ty "bool") (by rfl) T.bool boot_bool rfl) pa_nil)))) pss_never pss_nil)
   (pss_one (ps_ret (pe_and (pe_callB call_isinst (by rfl) T.isinst boot_isinstance (@pa_nam _ _ _ _ _ _ (pv 0) (@pa_nam _ _ _ _ _ _ (pe_bltn (v:=.ty "int") (by rfl) T.int boot_int rfl) pa_nil)))
    (pe_and (pe_not (pe_callB call_isinst (by rfl) T.isinst boot_isinstance (@pa_nam _ _ _ _ _ _ (pv 0) (@pa_nam _ _ _ _ _ _ (pe_bltn (v:=.ty "bool") (by rfl) T.bool boot_bool rfl) pa_nil))))
    (pe_one (pe_cmpR op_eq (pv 0) (pv 1) (nomark _))))))))),?_⟩
  refine⟨_,rfl,(by show 2<=sizeLine;decide),fun tp htp=>⟨_,_,tp,false,rfl,TyF.int i,upd_same,rfl,_,rfl,iteF ?_⟩⟩
  refine⟨_,rfl,rfl,_,rfl,?_⟩
  refine ite2 (fun h=>absurd (of_decide_eq_true h) (by intro z;cases z)) (fun _=>?_)
  refine⟨_,rfl,_,_,"str",false,rfl,TyOf.int i,rfl,_,rfl,iteF ?_⟩
  refine⟨_,rfl,_,_,"bool",false,rfl,TyOf.int i,rfl,_,rfl,iteF ?_⟩
  refine⟨_,rfl,_,_,"int",true,rfl,TyOf.int i,rfl,_,rfl,iteT ?_⟩
  refine⟨_,rfl,_,_,"bool",false,rfl,TyOf.int i,rfl,_,rfl,_,rfl,iteT ?_⟩
  refine⟨_,rfl,_,rfl,rfl,?_⟩
  rw[decide_eq_true rfl]
  exact q _ (Same.new htp)
 |bl i =>
  have ex:x = .bl i:=hx
  subst ex
  refine⟨_,pss_cons (ps_if (pt_val (pe_callB call_isinst2 (by rfl) T.isinst boot_isinstance (@pa_nam _ _ _ _ _ _ (pv 1) (@pa_tup _ _ _ _ _ _ _ (pe_tup (@pa_nam _ _ _ _ _ _ (pe_bltn (v:=.ty "list") (by rfl) T.list boot_list rfl) (@pa_nam _ _ _ _ _ _ (pe_bltn (v:=.ty "tuple") (by rfl) T.tuple boot_tuple rfl) pa_nil))) pa_nil)))) pss_never pss_nil)
   (pss_cons (ps_if (PW.pt (pw_or (pt_cmpR op_isN (pv 1) pe_non (nomark _)) (pw_or1 (pt_val (pe_callB call_isinst (by rfl) T.isinst boot_isinstance (@pa_nam _ _ _ _ _ _ (pv 1) (@pa_nam _ _ _ _ _ _ (pe_bltn (v:=.ty "str") (by rfl) T.str boot_str rfl) pa_nil))))))) pss_never pss_nil)
   (pss_cons (ps_if (pt_val (pe_callB call_isinst (by rfl) T.isinst boot_isinstance (@pa_nam _ _ _ _ _ _ (pv 1) (@pa_nam _ _ _ _ _ _ (pe_bltn (v:=.ty "bool") (by rfl) T.bool boot_bool rfl) pa_nil))))
    (pss_one (ps_ret (pe_and (pe_callB call_isinst (by rfl) T.isinst boot_isinstance (@pa_nam _ _ _ _ _ _ (pv 0) (@pa_nam _ _ _ _ _ _ (pe_bltn (v:=.ty "bool") (by rfl) T.bool boot_bool rfl) pa_nil))) (pe_one (pe_cmpR op_eq (pv 0) (pv 1) (nomark _)))))) pss_nil)
   (pss_one ps_never))),?_⟩
  refine⟨_,rfl,(by show 2<=sizeLine;decide),fun tp htp=>⟨_,_,tp,false,rfl,TyF.bl i,upd_same,rfl,_,rfl,iteF ?_⟩⟩
  refine⟨_,rfl,rfl,_,rfl,?_⟩
  refine ite2 (fun h=>absurd (of_decide_eq_true h) (by intro z;cases z)) (fun _=>?_)
  refine⟨_,rfl,_,_,"str",false,rfl,TyOf.bl i,rfl,_,rfl,iteF ?_⟩
  refine⟨_,rfl,_,_,"bool",true,rfl,TyOf.bl i,rfl,_,rfl,iteT ?_⟩
  refine⟨_,rfl,_,_,"bool",true,rfl,TyOf.bl i,rfl,_,rfl,iteT ?_⟩
  refine⟨_,rfl,_,rfl,rfl,?_⟩
  rw[decide_eq_true rfl]
  exact q _ (Same.new htp)
 |non =>
  have ex:x = .non:=hx
  subst ex
  refine⟨_,pss_cons (ps_if (pt_val (pe_callB call_isinst2 (by rfl) T.isinst boot_isinstance (@pa_nam _ _ _ _ _ _ (pv 1) (@pa_tup _ _ _ _ _ _ _ (pe_tup (@pa_nam _ _ _ _ _ _ (pe_bltn (v:=.ty "list") (by rfl) T.list boot_list rfl) (@pa_nam _ _ _ _ _ _ (pe_bltn (v:=.ty "tuple") (by rfl) T.tuple boot_tuple rfl) pa_nil))) pa_nil)))) pss_never pss_nil)
   (pss_cons (ps_if (PW.pt (pw_or (pt_cmpR op_isN (pv 1) pe_non (nomark _)) (pw_or1 (pt_val (pe_callB call_isinst (by rfl) T.isinst boot_isinstance (@pa_nam _ _ _ _ _ _ (pv 1) (@pa_nam _ _ _ _ _ _ (pe_bltn (v:=.ty "str") (by rfl) T.str boot_str rfl) pa_nil)))))))
    (pss_one (ps_ret (pe_and (pe_cmpR op_eq (pv 0) (pv 1) (nomark _)) (pe_one (pe_cmpR op_eq (pe_callB call_isinst (by rfl) T.isinst boot_isinstance (@pa_nam _ _ _ _ _ _ (pv 0) (@pa_nam _ _ _ _ _ _ (pe_bltn (v:=.ty "str") (by rfl) T.str boot_str rfl) pa_nil))) (pe_callB call_isinst (by rfl) T.isinst boot_isinstance (@pa_nam _ _ _ _ _ _ (pv 1) (@pa_nam _ _ _ _ _ _ (pe_bltn (v:=.ty "str") (by rfl) T.str boot_str rfl) pa_nil))) (nomark _)))))) pss_nil)
   (pss_cons ps_never (pss_one ps_never))),?_⟩
  refine⟨_,rfl,(by show 2<=sizeLine;decide),fun tp htp=>⟨_,_,tp,false,rfl,TyF.non,upd_same,rfl,_,rfl,iteF ?_⟩⟩
  refine⟨_,rfl,rfl,_,rfl,?_⟩
  refine ite2 (fun _=>?_) (fun h=>absurd (decide_eq_true rfl) h)
  refine iteT ?_
  refine⟨_,rfl,_,rfl,rfl,_,rfl,?_⟩
  refine ite2 (fun _=>?_) (fun h=>absurd (decide_eq_true rfl) h)
  refine⟨_,rfl,_,_,"str",false,rfl,TyOf.non,rfl,_,rfl,_,_,"str",false,rfl,TyOf.non,rfl,rfl,?_⟩
  rw[decide_eq_true rfl]
  exact q _ (Same.new htp)
 |str i =>
  have ex:x = .str i:=hx
  subst ex
  refine⟨_,pss_cons (ps_if (pt_val (pe_callB call_isinst2 (by rfl) T.isinst boot_isinstance (@pa_nam _ _ _ _ _ _ (pv 1) (@pa_tup _ _ _ _ _ _ _ (pe_tup (@pa_nam _ _ _ _ _ _ (pe_bltn (v:=.ty "list") (by rfl) T.list boot_list rfl) (@pa_nam _ _ _ _ _ _ (pe_bltn (v:=.ty "tuple") (by rfl) T.tuple boot_tuple rfl) pa_nil))) pa_nil)))) pss_never pss_nil)
   (pss_cons (ps_if (PW.pt (pw_or (pt_cmpR op_isN (pv 1) pe_non (nomark _)) (pw_or1 (pt_val (pe_callB call_isinst (by rfl) T.isinst boot_isinstance (@pa_nam _ _ _ _ _ _ (pv 1) (@pa_nam _ _ _ _ _ _ (pe_bltn (v:=.ty "str") (by rfl) T.str boot_str rfl) pa_nil)))))))
    (pss_one (ps_ret (pe_and (pe_cmpR op_eq (pv 0) (pv 1) (nomark _)) (pe_one (pe_cmpR op_eq (pe_callB call_isinst (by rfl) T.isinst boot_isinstance (@pa_nam _ _ _ _ _ _ (pv 0) (@pa_nam _ _ _ _ _ _ (pe_bltn (v:=.ty "str") (by rfl) T.str boot_str rfl) pa_nil))) (pe_callB call_isinst (by rfl) T.isinst boot_isinstance (@pa_nam _ _ _ _ _ _ (pv 1) (@pa_nam _ _ _ _ _ _ (pe_bltn (v:=.ty "str") (by rfl) T.str boot_str rfl) pa_nil))) (nomark _)))))) pss_nil)
   (pss_cons ps_never (pss_one ps_never))),?_⟩
  refine⟨_,rfl,(by show 2<=sizeLine;decide),fun tp htp=>⟨_,_,tp,false,rfl,TyF.str i,upd_same,rfl,_,rfl,iteF ?_⟩⟩
  refine⟨_,rfl,rfl,_,rfl,?_⟩
  refine ite2 (fun h=>absurd (of_decide_eq_true h) (by intro z;cases z)) (fun _=>?_)
  refine⟨_,rfl,_,_,"str",true,rfl,TyOf.str i,rfl,_,rfl,iteT ?_⟩
  refine⟨_,rfl,_,rfl,rfl,_,rfl,?_⟩
  refine ite2 (fun _=>?_) (fun h=>absurd (decide_eq_true rfl) h)
  refine⟨_,rfl,_,_,"str",true,rfl,TyOf.str i,rfl,_,rfl,_,_,"str",true,rfl,TyOf.str i,rfl,rfl,?_⟩
  rw[decide_eq_true rfl]
  exact q _ (Same.new htp)
 |lst ds=>exact(show False from hx).elim
 |tup ds=>exact(show False from hx).elim
end
open PySem L2 PyProof.Rows
theorem rep_snoc(i:Nat):(List.replicate i true).map V.bl++[V.bl true]=(List.replicate (i+1) true).map V.bl:=by rw[List.replicate_succ',List.map_append];rfl
theorem rep_all(i:Nat):(List.replicate i true).all id=true:=by simp
section
variable{P:Program}{w:World}{K:PySem.W.Frag}{mg:Str->Option Value}{base:Heap}
theorem paired_len{H:Hp}{n:Nat}{xs:List V}{ds:List Dt}(h:Paired (Dat H n) xs ds):xs.length=ds.length:=Paired.length h
theorem same_seq{n:Nat}{f:Addr}{fd:FuncData}{cdv:Value}{A:Around}{outer:List Env}{s:Shared}{H:Hp}{Q:VK}{E:XK}(T:Txt mg)(T2:Txt2 mg)(G:CalF P w K mg base (n+1) "_law_same" ["_law_found","_law_due"] (spSame n) f fd)
  (hr:Room (n+1) (A.deeper (envOfC "_law_same" (defScope sSame) s.heap.objs.size f cdv))) (b:Bool) {p1 p2:Addr}{xs ys:List V}{ds:List Dt}{t:Value} (ty1:TyF H (.ref p1) t) (ty2:TyF H (.ref p2) t) (kt:t=if b then .type "tuple" else .type "list")
  (q1:SqB b K H p1 xs) (q2:SqB b K H p2 ys) (l1:xs.length<=sizeLine) (r1:Paired (Dat H n) xs ds) (r2:Paired (Dat H n) ys ds) (q:∀ H',Same H H'->Q (.bl true) H') :
  ∃ t,PSs (cxOf CX0 P w K mg base ["_law_found","_law_due"] "_law_same" (defScope sSame) f cdv A outer s H E).nox (defBody sSame) t/\t { nx:=fun _ H'=>Q .non H',rt:=Q } (start ["_law_found","_law_due"] [.ref p1,.ref p2]) H:=by
 have e1:=paired_len r1
 have e2:=paired_len r2
 refine⟨_,pss_cons (ps_if (pt_val (pe_callB call_isinst2 (by rfl) T.isinst boot_isinstance (@pa_nam _ _ _ _ _ _ (pv 1) (@pa_tup _ _ _ _ _ _ _ (pe_tup (@pa_nam _ _ _ _ _ _ (pe_bltn (v:=.ty "list") (by rfl) T.list boot_list rfl) (@pa_nam _ _ _ _ _ _ (pe_bltn (v:=.ty "tuple") (by rfl) T.tuple boot_tuple rfl) pa_nil))) pa_nil))))
   (pss_cons (ps_if (PW.pt (pw_or (pt_cmpR op_ne (pe_callB call_isinst (by rfl) T.isinst boot_isinstance (@pa_nam _ _ _ _ _ _ (pv 0) (@pa_nam _ _ _ _ _ _ (pe_bltn (v:=.ty "list") (by rfl) T.list boot_list rfl) pa_nil))) (pe_callB call_isinst (by rfl) T.isinst boot_isinstance (@pa_nam _ _ _ _ _ _ (pv 1) (@pa_nam _ _ _ _ _ _ (pe_bltn (v:=.ty "list") (by rfl) T.list boot_list rfl) pa_nil))) (nomark _))
    (pw_or1 (pt_cmpR op_ne (pe_callB call_isinst (by rfl) T.isinst boot_isinstance (@pa_nam _ _ _ _ _ _ (pv 0) (@pa_nam _ _ _ _ _ _ (pe_bltn (v:=.ty "tuple") (by rfl) T.tuple boot_tuple rfl) pa_nil))) (pe_callB call_isinst (by rfl) T.isinst boot_isinstance (@pa_nam _ _ _ _ _ _ (pv 1) (@pa_nam _ _ _ _ _ _ (pe_bltn (v:=.ty "tuple") (by rfl) T.tuple boot_tuple rfl) pa_nil))) (nomark _))))) pss_never pss_nil)
   (pss_one (ps_ret (pe_and (pe_cmpR op_eq (pe_callB call_len_seq (by rfl) T.len PySem.boot_len (@pa_nam _ _ _ _ _ _ (pv 0) pa_nil)) (pe_callB call_len_seq (by rfl) T.len PySem.boot_len (@pa_nam _ _ _ _ _ _ (pv 1) pa_nil)) (nomark _))
    (pe_one (pe_callB (call_all rfl) (by rfl) T2.all boot_all (@pa_comp _ _ _ _ _ _ _ _ (pe_comp rfl csSame (pi_zip b b (by rfl) T2.zip (@pa_nam _ _ _ _ _ _ (pv 0) (@pa_nam _ _ _ _ _ _ (pv 1) pa_nil)))
     (fun C s H fp=>pg_tupK K rfl (n:=2) rfl (pgs_cons (pg_name (i:=0) ndSame rfl (Or.inl rfl)) (pgs_cons (pg_name (i:=1) ndSame rfl (Or.inl rfl)) pgs_nil)) rfl rfl) (fun C s H fp=>pf_nil)
     (fun C s H fp=>pe_call G.ok hr rfl G.mg G.kp G.bd .nil pass0 (@pa_nam _ _ _ _ _ _ (pv 0) (@pa_nam _ _ _ _ _ _ (pv 1) pa_nil)))) pa_nil))))))) pss_nil)
  (pss_cons ps_never (pss_cons ps_never (pss_one ps_never))),?_⟩
 refine⟨_,rfl,(by show 2<=sizeLine;decide),fun tp htp=>?_⟩
 have s0:Same H (upd H tp (.tup [.ty "list",.ty "tuple"])):=Same.new htp
 have up:∀ {x:V}{t:Value},TyF H x t->TyF (upd H tp (.tup [.ty "list",.ty "tuple"])) x t:=fun h=>by
  cases h with
  |non=>exact .non
  |bl x=>exact .bl x
  |int i=>exact .int i
  |str x=>exact .str x
  |lst e=>exact .lst (s0 _ _ e)
  |tup e=>exact .tup (s0 _ _ e)
 have y1:=up ty1
 have y2:=up ty2
 have k1:∃ c,PySem.W.kitOne K t (.type "list")=some c:=by rw[kt];cases b <;> exact⟨_,rfl⟩
 have k2:∃ c,PySem.W.kitOne K t (.type "tuple")=some c:=by rw[kt];cases b <;> exact⟨_,rfl⟩
 have k3:PySem.W.kitAny K t [.type "list",.type "tuple"]=some true:=by rw[kt];cases b <;> rfl
 obtain⟨c1,k1⟩:=k1
 obtain⟨c2,k2⟩:=k2
 refine⟨_,t,tp,true,rfl,y2,upd_same,k3,_,rfl,iteT ?_⟩
 refine⟨_,rfl,_,t,"list",c1,rfl,y1.of,k1,_,rfl,_,t,"list",c1,rfl,y2.of,k1,rfl,_,rfl,?_⟩
 refine iteNS rfl ?_
 refine⟨_,rfl,_,t,"tuple",c2,rfl,y1.of,k2,_,rfl,_,t,"tuple",c2,rfl,y2.of,k2,rfl,_,rfl,?_⟩
 refine iteNS rfl ?_
 have seqOr:∀ {a:Addr}{zs:List V},SqB b K H a zs->SqL K (upd H tp (.tup [.ty "list",.ty "tuple"])) a zs\/SqT K (upd H tp (.tup [.ty "list",.ty "tuple"])) a zs:=fun h=>by
  have h':=s0.seqB h
  cases b
  ·exact .inl h'
  ·exact .inr h'
 refine⟨_,rfl,p1,xs,rfl,seqOr q1,_,rfl,p2,ys,rfl,seqOr q2,rfl,_,rfl,?_⟩
 refine ite2 (fun _=>?_) (fun h=>absurd (decide_eq_true (by rw[e1,e2])) h)
 refine⟨_,rfl,_,rfl,p1,p2,rfl,⟨_,s0.seqB q1⟩,⟨_,s0.seqB q2⟩,?_⟩
 refine comp_zip (K:=K) (b1:=b) (b2:=b) (l1:=p1) (l2:=p2) (xs:=xs) (ys:=ys) (fun i zs G=>Same H G/\zs=(List.replicate i true).map V.bl) (by omega) ⟨s0,rfl⟩ (fun i zs G _ z=>⟨z.1.seqB q1,z.1.seqB q2⟩) ?_ ?_
 ·rintro i x y zs G U hx hy ⟨sm,rfl⟩ hU
  obtain⟨il,ex⟩:=List.getElem?_eq_some_iff.mp hx
  obtain⟨jl,ey⟩:=List.getElem?_eq_some_iff.mp hy
  subst ex ey
  have di:i<ds.length:=by omega
  have sU:=sm.trans (Same.new (o:=.tup [xs[i],ys[i]]) hU)
  refine⟨U,_,rfl,SqT.of upd_same,rfl,_,_,rfl,_,_,rfl,rfl,trivial,tTru_if ⟨_,rfl,_,rfl,xs[i],ys[i],ds[i],rfl,Dat.same sU (Paired.at r1 i il di),Dat.same sU (Paired.at r2 i jl di),fun G2 sm2=>⟨sU.trans sm2,rep_snoc i⟩⟩⟩
 ·rintro zs G _ ⟨sm,rfl⟩ D hD
  refine⟨D,_,rfl,SqL.of upd_same,?_⟩
  rw[rep_all]
  exact q _ (sm.trans (Same.new hD))
theorem ok_same{f:Addr}{fd:FuncData}(F:Fun K "_law_same" "_law_same" sSame f fd)(T:Txt mg)(T2:Txt2 mg)(mf:mg "_law_same" = some (.ref f))(bd:Binds K fd ["_law_found","_law_due"] []):∀ n:Nat,FnOk P w K mg base CX0 (n+1) f fd ["_law_found","_law_due"] (spSame n)
 | 0=>by
  refine F.ok scSame (fun vs H Q E h=>?_) (fun cdv A outer s H vs Q E hr h=>?_)
  ·obtain⟨x,u,d,rfl,_⟩:=h
   rfl
  ·obtain⟨x,u,d,rfl,h1,h2,q⟩:=h
   cases d with
   |lst ds=>exact(show False from h1).elim
   |tup ds=>exact(show False from h1).elim
   |non=>cases(show x = .non from h1);cases(show u = .non from h2);exact same_flat (d:=.non) T rfl q
   |bl i=>cases(show x = .bl i from h1);cases(show u = .bl i from h2);exact same_flat (d:=.bl i) T rfl q
   |int i=>cases(show x = .int i from h1);cases(show u = .int i from h2);exact same_flat (d:=.int i) T rfl q
   |str i=>cases(show x = .str i from h1);cases(show u = .str i from h2);exact same_flat (d:=.str i) T rfl q
 |n+1=>by
  have IH:=ok_same F T T2 mf bd n
  refine F.ok scSame (fun vs H Q E h=>?_) (fun cdv A outer s H vs Q E hr h=>?_)
  ·obtain⟨x,u,d,rfl,_⟩:=h
   rfl
  ·obtain⟨x,u,d,rfl,h1,h2,q⟩:=h
   cases d with
   |lst ds =>
    obtain⟨p1,xs,rfl,l1,a1,r1⟩:=h1
    obtain⟨p2,ys,rfl,_,a2,r2⟩:=h2
    exact same_seq T T2 ⟨IH,mf,F.kp,bd⟩ hr false (.lst a1) (.lst a2) rfl (SqL.of a1) (SqL.of a2) (by rw[sizeLine_eq];omega) r1 r2 q
   |tup ds =>
    obtain⟨p1,xs,rfl,l1,a1,r1⟩:=h1
    obtain⟨p2,ys,rfl,_,a2,r2⟩:=h2
    exact same_seq T T2 ⟨IH,mf,F.kp,bd⟩ hr true (.tup a1) (.tup a2) rfl (SqT.of a1) (SqT.of a2) (by rw[sizeLine_eq];omega) r1 r2 q
   |non=>cases(show x = .non from h1);cases(show u = .non from h2);exact same_flat (d:=.non) T rfl q
   |bl i=>cases(show x = .bl i from h1);cases(show u = .bl i from h2);exact same_flat (d:=.bl i) T rfl q
   |int i=>cases(show x = .int i from h1);cases(show u = .int i from h2);exact same_flat (d:=.int i) T rfl q
   |str i=>cases(show x = .str i from h1);cases(show u = .str i from h2);exact same_flat (d:=.str i) T rfl q
end
open PySem L2 PyProof.Rows
theorem rep_t(i:Nat):(List.replicate i true).map V.bl++[V.bl true]=(List.replicate (i+1) true).map V.bl:=by rw[List.replicate_succ',List.map_append];rfl
theorem all_rep(i:Nat):(List.replicate i true).all id=true:=by simp
noncomputable def spNu:Sp:=fun vs H Q _=>∃ z:Int,vs=[.int z]/\Q (.bl true) H
noncomputable def spAn(K:PySem.W.Frag):Sp:=fun vs H Q _=>∃ (b:Bool) (a:Addr) (ns:List Int),vs=[.ref a]/\SqB b K H a (ns.map V.int)/\ns.length<=1000/\∀ H',Same H H'->Q (.bl true) H'
noncomputable def spIt:Sp:=fun vs H Q _=>∃ (a:Addr) (xs:List V) (m:Int),vs=[.ref a,.int m]/\H a=some (.tup xs)/\Q (.bl (decide ((xs.length:Int)=m))) H
noncomputable def spRs:Sp:=fun vs H Q _=>∃ (l:Addr) (ns:List Int),vs=[.ref l]/\H l=some (.lst (ns.map V.int))/\ns.length<=1000/\ns.Pairwise (· < ·)/\∀ H',Same H H'->Q (.bl true) H'
noncomputable def spTi:Sp:=fun vs H Q _=>∃ (a:Addr) (x y z m:Int),vs=[.ref a,.int m]/\H a=some (.tup [.int x,.int y,.int z])/\0<=x/\x<y/\y<m/\1<=z/\∀ H',Same H H'->Q (.bl true) H'
section
variable{P:Program}{w:World}{K:PySem.W.Frag}{mg:Str->Option Value}{base:Heap}
noncomputable abbrev nNu:List Str:=["thing"]
theorem scNu:FnScope nNu ["thing"] (defScope sIsNumber):=⟨rfl,rfl,rfl,by decide +kernel,rfl,by decide +kernel,by decide +kernel⟩
theorem ok_nu{f:Addr}{fd:FuncData}(F:Fun K "is_number" "is_number" sIsNumber f fd)(T:Txt mg):FnOk P w K mg base CX0 1 f fd ["thing"] spNu:=by
 refine F.ok scNu (fun vs H Q E h=>?_) (fun cdv A outer s H vs Q E hr h=>?_)
 ·obtain⟨z,rfl,_⟩:=h
  rfl
 ·obtain⟨z,rfl,fin⟩:=h
  refine⟨_,(pss_one (ps_ret (pe_and (pe_callB call_isinst (by rfl) T.isinst boot_isinstance (@pa_nam _ _ _ _ _ _ (pv 0) (@pa_nam _ _ _ _ _ _ (pe_bltn (v:=.ty "int") (by rfl) T.int boot_int rfl) pa_nil))) (pe_one (pe_not (pe_callB call_isinst (by rfl) T.isinst boot_isinstance (@pa_nam _ _ _ _ _ _ (pv 0) (@pa_nam _ _ _ _ _ _ (pe_bltn (v:=.ty "bool") (by rfl) T.bool boot_bool rfl) pa_nil)))))))),?_⟩
  refine⟨_,rfl,_,_,"int",true,rfl,TyOf.int _,rfl,_,rfl,iteT ?_⟩
  exact⟨_,rfl,_,_,"bool",false,rfl,TyOf.int _,rfl,_,rfl,fin⟩
noncomputable abbrev nAn:List Str:=["things"]
theorem scAn:FnScope nAn ["things"] (defScope sAreNumbers):=⟨rfl,rfl,rfl,by decide +kernel,rfl,by decide +kernel,by decide +kernel⟩
theorem csAn1:CompScope ["thing"] [none] nAn (defScope sAreNumbers) (scO [(".0",.local),("thing",.local),("is_number",.globalImplicit)]):=⟨rfl,by decide +kernel,by decide +kernel,by decide +kernel,rfl,capB_ok (by decide +kernel)⟩
theorem ndAn1:(["thing"]:List Str).Nodup:=by decide +kernel
theorem ok_an{f g:Addr}{fd gd:FuncData}(F:Fun K "are_numbers" "are_numbers" sAreNumbers f fd)(T2:Txt2 mg)(GN:CalF P w K mg base 1 "is_number" ["thing"] spNu g gd):FnOk P w K mg base CX0 2 f fd ["things"] (spAn K):=by
 refine F.ok scAn (fun vs H Q E h=>?_) (fun cdv A outer s H vs Q E hr h=>?_)
 ·obtain⟨b,a,ns,rfl,_⟩:=h
  rfl
 ·obtain⟨b,a,ns,rfl,ga,l,fin⟩:=h
  refine⟨_,(pss_one (ps_ret (pe_callB (call_allH rfl) (by rfl) T2.all boot_all (@pa_comp _ _ _ _ _ _ _ _ (pe_comp rfl csAn1 (pi_seq b (pv 0)) (fun C s H fp=>(pg_name (i:=0) ndAn1 rfl (Or.inl rfl))) (fun C s H fp=>pf_nil) (fun C s H fp=>(pe_call GN.ok hr rfl GN.mg GN.kp GN.bd .nil pass0 (@pa_nam _ _ _ _ _ _ (pv 0) pa_nil)))) pa_nil)))),?_⟩
  refine⟨_,rfl,a,rfl,⟨_,ga⟩,?_⟩
  refine comp_seq (K:=K) (b:=b) (a:=a) (xs:=ns.map V.int) (fun i ys G=>G=H/\ys=(List.replicate i true).map V.bl) (by rw[List.length_map,sizeLine_eq];lia) ⟨rfl,rfl⟩ (fun i ys G _ z=>by rw[z.1];exact ga) ?_ ?_
  ·rintro i x ys G hx ⟨rfl,rfl⟩
   obtain⟨il,e⟩:=List.getElem?_eq_some_iff.mp hx
   rw[List.getElem_map]at e
   subst e
   exact⟨trivial,tTru_if ⟨_,rfl,_,rfl,rfl,rep_t i⟩⟩
  ·rintro ys G _ ⟨rfl,rfl⟩ D hD
   refine⟨D,_,rfl,upd_same,?_⟩
   rw[all_rep]
   exact fin _ (Same.new hD)
noncomputable abbrev nIt:List Str:=["thing","many"]
theorem scIt:FnScope nIt ["thing","many"] (defScope sIsTupleOf):=⟨rfl,rfl,rfl,by decide +kernel,rfl,by decide +kernel,by decide +kernel⟩
theorem ok_it{f:Addr}{fd:FuncData}(F:Fun K "is_tuple_of" "is_tuple_of" sIsTupleOf f fd)(T:Txt mg):FnOk P w K mg base CX0 1 f fd ["thing","many"] spIt:=by
 refine F.ok scIt (fun vs H Q E h=>?_) (fun cdv A outer s H vs Q E hr h=>?_)
 ·obtain⟨a,xs,m,rfl,_⟩:=h
  rfl
 ·obtain⟨a,xs,m,rfl,ga,fin⟩:=h
  refine⟨_,(pss_one (ps_ret (pe_and (pe_callB call_isinst (by rfl) T.isinst boot_isinstance (@pa_nam _ _ _ _ _ _ (pv 0) (@pa_nam _ _ _ _ _ _ (pe_bltn (v:=.ty "tuple") (by rfl) T.tuple boot_tuple rfl) pa_nil))) (pe_one (pe_cmpR op_eq (pe_callB call_lenTH (by rfl) T.len PySem.boot_len (@pa_nam _ _ _ _ _ _ (pv 0) pa_nil)) (pv 1) (nomark _)))))),?_⟩
  refine⟨_,rfl,_,_,"tuple",true,rfl,TyOf.tup ga,rfl,_,rfl,iteT ?_⟩
  refine⟨_,rfl,a,_,rfl,ga,_,rfl,rfl,?_⟩
  rw[show decide (V.int (xs.length:Int)=V.int m)=decide ((xs.length:Int)=m)from decide_eq_decide.mpr ⟨fun z=>by injection z,fun z=>by rw[z]⟩]
  exact fin
noncomputable abbrev nRs:List Str:=["things"]
theorem scRs:FnScope nRs ["things"] (defScope sRises):=⟨rfl,rfl,rfl,by decide +kernel,rfl,by decide +kernel,by decide +kernel⟩
theorem csRs1:CompScope ["one","other"] [none,none] nRs (defScope sRises) (scO [(".0",.local),("one",.local),("other",.local)]):=⟨rfl,by decide +kernel,by decide +kernel,by decide +kernel,rfl,capB_ok (by decide +kernel)⟩
theorem ndRs1:(["one","other"]:List Str).Nodup:=by decide +kernel
theorem ok_rs{f:Addr}{fd:FuncData}(F:Fun K "rises" "rises" sRises f fd)(T2:Txt2 mg):FnOk P w K mg base CX0 1 f fd ["things"] spRs:=by
 refine F.ok scRs (fun vs H Q E h=>?_) (fun cdv A outer s H vs Q E hr h=>?_)
 ·obtain⟨l,ns,rfl,_⟩:=h
  rfl
 ·obtain⟨l,ns,rfl,gl,len,up,fin⟩:=h
  have hu0:_<cLine:=hr.units0
  refine⟨_,(pss_one (ps_ret (pe_callB (call_allH rfl) (by rfl) T2.all boot_all (@pa_comp _ _ _ _ _ _ _ _ (pe_comp rfl csRs1 (pi_zip false false (by rfl) T2.zip (@pa_nam _ _ _ _ _ _ (pv 0) (@pa_sub _ _ _ _ _ _ _ (pe_slice sl_list (pv 0) (po_some pe_int) po_none) pa_nil))) (fun C s H fp=>(pg_tupK K rfl (n:=2) rfl (pgs_cons (pg_name (i:=0) ndRs1 rfl (Or.inl rfl)) (pgs_cons (pg_name (i:=1) ndRs1 rfl (Or.inl rfl)) pgs_nil)) rfl rfl)) (fun C s H fp=>pf_nil) (fun C s H fp=>(pe_cmpR op_lt (pv 0) (pv 1) (nomark _)))) pa_nil)))),?_⟩
  refine⟨_,rfl,_,rfl,_,rfl,l,_,rfl,SqL.of gl,fun l2 hl2=>?_⟩
  refine⟨l,l2,rfl,⟨_,(Same.new hl2).seq (SqL.of gl)⟩,⟨_,SqL.of upd_same⟩,?_⟩
  have s2:Same H (upd H l2 (.lst (cutV (ns.map V.int) (some 1) none))):=Same.new hl2
  have hl2':(upd H l2 (.lst (cutV (ns.map V.int) (some 1) none))) l2=some (.lst ((ns.drop 1).map V.int)):=by rw[upd_same,cutV_tail,<- List.map_drop]
  generalize (upd H l2 (.lst (cutV (ns.map V.int) (some 1) none)))=H2 at s2 hl2'
  refine comp_zip (K:=K) (b1:=false) (b2:=false) (l1:=l) (l2:=l2) (xs:=ns.map V.int) (ys:=(ns.drop 1).map V.int) (fun i ys G=>Same H2 G/\ys=(List.replicate i true).map V.bl) (by rw[List.length_map,sizeLine_eq];lia) ⟨Same.refl _,rfl⟩ (fun i ys G _ z=>⟨(s2.trans z.1).seq (SqL.of gl),z.1.seq (SqL.of hl2')⟩) ?_ ?_
  ·rintro i x y zs G U hx hy ⟨sm,rfl⟩ hU
   obtain⟨il,e⟩:=List.getElem?_eq_some_iff.mp hx
   obtain⟨jl,e'⟩:=List.getElem?_eq_some_iff.mp hy
   rw[List.length_map]at il jl
   rw[List.length_drop]at jl
   rw[List.getElem_map]at e
   rw[List.getElem_map,List.getElem_drop]at e'
   subst e e'
   refine⟨U,_,rfl,SqT.of upd_same,rfl,_,_,rfl,_,_,rfl,rfl,trivial,tTru_if ⟨_,rfl,_,rfl,_,_,rfl,rfl,sm.trans (Same.new hU),?_⟩⟩
   have lt:=List.pairwise_iff_getElem.mp up i (1+i) il (by lia) (by lia)
   rw[show((fun(i j:Int)=>V.bl (decide (i<j))) ns[i] ns[1+i])=V.bl true from congrArg V.bl (decide_eq_true lt)]
   exact rep_t i
  ·rintro ys G yl ⟨sm,rfl⟩ D hD
   refine⟨D,_,rfl,upd_same,?_⟩
   rw[all_rep]
   exact fin _ (s2.trans (sm.trans (Same.new hD)))
noncomputable abbrev nTi:List Str:=["thing","many","a","b","weight"]
theorem scTi:FnScope nTi ["thing","many"] (defScope sIsTie):=⟨rfl,rfl,rfl,by decide +kernel,rfl,by decide +kernel,by decide +kernel⟩
theorem ok_ti{f g1 g2:Addr}{fd d1 d2:FuncData}(F:Fun K "is_tie" "is_tie" sIsTie f fd)(GT:CalF P w K mg base 1 "is_tuple_of" ["thing","many"] spIt g1 d1)(GA:CalF P w K mg base 2 "are_numbers" ["things"] (spAn K) g2 d2):FnOk P w K mg base CX0 3 f fd ["thing","many"] spTi:=by
 refine F.ok scTi (fun vs H Q E h=>?_) (fun cdv A outer s H vs Q E hr h=>?_)
 ·obtain⟨a,x,y,z,m,rfl,_⟩:=h
  rfl
 ·obtain⟨a,x,y,z,m,rfl,ga,x0,xy,ym,z1,fin⟩:=h
  have hr1:Room 1 _:=hr.mono (by decide)
  have hr2:Room 2 _:=hr.mono (by decide)
  refine⟨_,(pss_cons (ps_if (PW.pt (pw_or (pt_not (pt_val (pe_call GT.ok hr1 rfl GT.mg GT.kp GT.bd .nil pass0 (@pa_nam _ _ _ _ _ _ (pv 0) (@pa_cst _ _ _ _ _ _ _ pe_int pa_nil))))) (pw_or1 (pt_not (pt_val (pe_call GA.ok hr2 rfl GA.mg GA.kp GA.bd .nil pass0 (@pa_nam _ _ _ _ _ _ (pv 0) pa_nil))))))) pss_never pss_nil)
   (pss_cons (ps_asg (pv 0) (pg_tup (n:=3) rfl (pgs_cons (pg_name (i:=2) scTi.nd rfl (Or.inl rfl)) (pgs_cons (pg_name (i:=3) scTi.nd rfl (Or.inl rfl)) (pgs_cons (pg_name (i:=4) scTi.nd rfl (Or.inl rfl)) pgs_nil)))))
   (pss_one (ps_ret (pe_and (pe_chain3 op_le op_lt op_lt pe_int (pv 2) (pv 3) (pv 1)) (pe_one (pe_cmpR op_ge (pv 4) pe_int (nomark _)))))))),?_⟩
  refine⟨_,rfl,a,_,_,rfl,ga,true,rfl,iteF ?_⟩
  refine⟨_,rfl,true,a,[x,y,z],rfl,SqT.of ga,(by show 3<=1000;decide),fun H1 s1=>⟨_,rfl,iteF ?_⟩⟩
  refine⟨_,rfl,_,_,rfl,SqT.of (s1 _ _ ga),rfl,_,_,rfl,_,_,rfl,_,_,rfl,rfl,?_⟩
  refine⟨_,rfl,_,_,rfl,rfl,_,rfl,ite2 (fun _=>?_) (fun h=>absurd (decide_eq_true x0) h)⟩
  refine⟨_,rfl,_,_,rfl,rfl,_,rfl,ite2 (fun _=>?_) (fun h=>absurd (decide_eq_true xy) h)⟩
  refine⟨_,rfl,_,_,rfl,rfl,true,congrArg V.bl (decide_eq_true ym),iteT ?_⟩
  refine⟨_,rfl,_,_,rfl,rfl,?_⟩
  show Q (V.bl (decide (1<=z))) H1
  rw[decide_eq_true z1]
  exact fin _ s1
end
open PySem L2 PyProof.Rows
theorem pe_gstr{X:Cx}{x:Str}{z:Str}{pos:Pos}(hg:Gl X x)(hm:∃ t,X.mg x=some (.str z t))(hdb:(x ==("__debug__":Str))=false:=by decide):PE X (.Name x pos) (tC (.str z)):=fun pins s σ H Q I h=>by
 obtain⟨t,hm⟩:=hm
 exact ld_glob I hg hm ⟨.str z,H,I,⟨t,rfl⟩,h⟩ hdb
noncomputable abbrev Glb(mg:Str->Option Value):Prop:=∃ t,mg "FIGURES" = some (.str "0123456789" t)
noncomputable def spIf:Sp:=fun vs H Q _=>∃ m:Nat,vs=[.str (num (m:Int))]/\m<10 ^ 18/\∀ H',Same H H'->Q (.bl true) H'
noncomputable def rowOf(w:Str)(ms:List Nat):Str:=(sg 32).join (w :: ms.map fun m:Nat=>num (m:Int))
noncomputable def spNb:Sp:=fun vs H Q _=>∃ (u w:Str) (ms:List Nat),vs=[.str u,.str (rowOf w ms)]/\32∉w.cps.toList/\w.length<=100/\ms.length<=1000/\(∀ m∈ms,m<10 ^ 18) /\
 (u≠w->∀ H',Same H H'->Q .non H')/\(u=w->∀ (l:Addr) (H':Hp),H l=none->Same H H'->H' l=some (.lst ((ms.map fun m:Nat=>(m:Int)).map V.int))->Q (.ref l) H')
noncomputable def spAp:Sp:=fun vs H Q _=>∃ (l:Addr) (ns:List Int) (n:Int),vs=[.int n,.ref l]/\H l=some (.lst (ns.map V.int))/\ns.length<=1000/\2<=ns.length/\ns.Pairwise (· < ·)/\(∀ x∈ns,x<n)/\∀ H',Same H H'->Q (.bl true) H'
theorem not_zero{c:Nat}(h:c≠48):inV (.str (sg c)) [.str (Str.ofString ""),.str (Str.ofString "0")]=false:=by
 have h1:(Str.ofString "" == sg c)=false:=by
  rw[beq_eq_false_iff_ne]
  intro z
  have:=congrArg Str.length z
  cases this
 have h2:(Str.ofString "0" == sg c)=false:=by
  rw[beq_eq_false_iff_ne]
  intro z
  have e:=congrArg (fun a:Str=>a.cps.toList) z
  have e:[48]=[c]:=e
  cases e
  exact h rfl
 unfold inV
 simp only[List.any_cons,List.any_nil,eqV,h1,h2]
 rfl
section
variable{P:Program}{w:World}{K:PySem.W.Frag}{mg:Str->Option Value}{base:Heap}
noncomputable abbrev nIf:List Str:=["word"]
theorem scIf:FnScope nIf ["word"] (defScope sIsFigures):=⟨rfl,rfl,rfl,by decide +kernel,rfl,by decide +kernel,by decide +kernel⟩
theorem csIf1:CompScope ["sign"] [none] nIf (defScope sIsFigures) (scO [(".0",.local),("sign",.local),("FIGURES",.globalImplicit)]):=⟨rfl,by decide +kernel,by decide +kernel,by decide +kernel,rfl,capB_ok (by decide +kernel)⟩
theorem ndIf1:(["sign"]:List Str).Nodup:=by decide +kernel
theorem ok_if{f:Addr}{fd:FuncData}(F:Fun K "is_figures" "is_figures" sIsFigures f fd)(T:Txt mg)(T2:Txt2 mg)(GL:Glb mg):FnOk P w K mg base CX0 1 f fd ["word"] spIf:=by
 refine F.ok scIf (fun vs H Q E h=>?_) (fun cdv A outer s H vs Q E hr h=>?_)
 ·obtain⟨m,rfl,_⟩:=h
  rfl
 ·obtain⟨m,rfl,hm,fin⟩:=h
  refine⟨_,(pss_one (ps_ret (pe_or (pe_cmpR op_eq (pv 0) pe_str (nomark _)) (pe_one (pe_and (pe_cmpR (op_notInQ true) (pe_slice sl_str (pv 0) po_none (po_some pe_int)) (@pe_tup _ _ _ _ _ (@pa_cst _ _ _ _ _ _ _ pe_str (@pa_cst _ _ _ _ _ _ _ pe_str pa_nil))) rfl) (pe_one (pe_callB (call_allH rfl) (by rfl) T2.all boot_all (@pa_comp _ _ _ _ _ _ _ _ (pe_comp rfl csIf1 (pi_str (pv 0)) (fun C s H fp=>(pg_name (i:=0) ndIf1 rfl (Or.inl rfl))) (fun C s H fp=>pf_nil) (fun C s H fp=>(pe_cmpR op_in_str (pv 0) (pe_gstr (by rfl) GL rfl) rfl))) pa_nil)))))))),?_⟩
  have hd:=num_digits m
  have hne:=num_ne m
  have hlen:=num_len hm
  refine⟨_,rfl,rfl,_,rfl,ite2 (fun h0=>?_) (fun h0=>?_)⟩
  ·exact fin _ (Same.refl _)
  have m0:m≠0:=fun z=>h0 (by rw[z];decide +kernel)
  cases hz:(num (m:Int)).cps.toList with
  |nil=>exact absurd hz hne
  |cons c r =>
   have c48:=num_head m0 hz
   refine⟨_,rfl,1,rfl,num (m:Int),rfl,?_,?_⟩
   ·rw[slice_one hz];show 1<=sizeLine;decide
   rw[slice_one hz]
   refine⟨(by show 2<=sizeLine;decide),fun p hp=>⟨p,_,rfl,upd_same,rfl,rfl,?_⟩⟩
   have sp:=Same.new (o:=.tup [V.str (Str.ofString ""),.str (Str.ofString "0")]) hp
   refine⟨_,rfl,?_⟩
   rw[if_pos rfl,not_zero c48]
   refine iteT ?_
   refine⟨_,rfl,_,rfl,fun c hc=>?_,?_⟩
   ·have:=hd c hc
    omega
   have sz:(num (m:Int)).cps.size=(num (m:Int)).length:=rfl
   refine comp_str (fun i ys G=>Same H G/\ys=(List.replicate i true).map V.bl) (by rw[sz,sizeLine_eq];omega) ⟨sp,rfl⟩ ?_ ?_
   ·rintro i ys G hi ⟨sm,rfl⟩
    refine⟨trivial,tTru_if ⟨_,rfl,_,_,rfl,rfl,?_⟩⟩
    rw[in_figs (hd _ (by simp))]
    exact⟨sm,rep_t i⟩
   ·rintro ys G _ ⟨sm,rfl⟩ D hD
    refine⟨D,_,rfl,upd_same,?_⟩
    rw[all_rep]
    exact fin _ (sm.trans (Same.new hD))
theorem iteTd{c:Bool}{p q:Prop}(hc:c=true)(h:p):if c=true then p else q:=by rw[if_pos hc];exact h
theorem iteFd{c:Bool}{p q:Prop}(hc:c=false)(h:q):if c=true then p else q:=by rw[if_neg (by rw[hc];exact Bool.false_ne_true)];exact h
theorem at0{x:V}{r:List V}:atI (x :: r) 0=some x:=atI_nat (j:=0) rfl
theorem at1{x y:V}{r:List V}:atI (x :: y :: r) 1=some y:=atI_nat (j:=1) rfl
theorem at_last{xs:List V}(h:0<xs.length):atI xs (-1)=some (xs[xs.length-1]'(by omega)):=by
 unfold atI ixN
 rw[if_neg (by decide),if_pos (by omega)]
 show xs[((-1:Int)+xs.length).toNat]?=_
 rw[show((-1:Int)+xs.length).toNat=xs.length-1 by omega]
 exact List.getElem?_eq_getElem _
theorem row_split{w:Str}{ms:List Nat}(h:32∉w.cps.toList):Txt.split (rowOf w ms) (Str.ofString " ")=w :: ms.map fun m:Nat=>num (m:Int):=by
 refine split_join (List.cons_ne_nil _ _) fun p hp=>?_
 rcases List.mem_cons.mp hp with z | z
 ·rw[z];exact h
 ·obtain⟨m,_,rfl⟩:=List.mem_map.mp z
  intro hc
  have:=num_digits m _ hc
  omega
theorem sum_le{B:Nat}:∀ {l:List Nat},(∀ x∈l,x<=B)->l.sum<=l.length * B
 |[],_=>by simp
 |a :: l,h=>by
  have h1:=h a List.mem_cons_self
  have h2:=sum_le fun x hx=>h x (List.mem_cons_of_mem _ hx)
  rw[List.sum_cons,List.length_cons,Nat.add_mul]
  lia
theorem row_len{w:Str}{ms:List Nat}(hw:w.length<=100)(hl:ms.length<=1000)(hm:∀ m∈ms,m<10 ^ 18):(rowOf w ms).length<=20000:=by
 unfold rowOf
 rw[PyProof.Rows.len_join_cons]
 have h:((w :: ms.map fun m:Nat=>num (m:Int)).map fun x=>x.length).sum=w.length+((ms.map fun m:Nat=>num (m:Int)).map fun x=>x.length).sum:=by rw[List.map_cons,List.sum_cons]
 rw[h]
 have h2:((ms.map fun m:Nat=>num (m:Int)).map fun x=>x.length).sum<=((ms.map fun m:Nat=>num (m:Int)).map fun x=>x.length).length * 18:=sum_le fun x hx=>by
  obtain⟨y,hy,rfl⟩:=List.mem_map.mp hx
  obtain⟨m,hm',rfl⟩:=List.mem_map.mp hy
  exact num_len (hm m hm')
 rw[List.length_map,List.length_map]at h2
 rw[List.length_map]
 have:(sg 32).length=1:=rfl
 rw[this]
 omega
noncomputable abbrev nNb:List Str:=["word","row","words"]
theorem scNb:FnScope nNb ["word","row"] (defScope sNumbersBehind):=⟨rfl,rfl,rfl,by decide +kernel,rfl,by decide +kernel,by decide +kernel⟩
theorem csNb1:CompScope ["figures"] [none] nNb (defScope sNumbersBehind) (scO [(".0",.local),("figures",.local),("is_figures",.globalImplicit)]):=⟨rfl,by decide +kernel,by decide +kernel,by decide +kernel,rfl,capB_ok (by decide +kernel)⟩
theorem ndNb1:(["figures"]:List Str).Nodup:=by decide +kernel
theorem csNb2:CompScope ["figures"] [none] nNb (defScope sNumbersBehind) (scO [(".0",.local),("figures",.local),("int",.globalImplicit)]):=⟨rfl,by decide +kernel,by decide +kernel,by decide +kernel,rfl,capB_ok (by decide +kernel)⟩
theorem ndNb2:(["figures"]:List Str).Nodup:=by decide +kernel
theorem ok_nb{f g1:Addr}{fd d1:FuncData}(F:Fun K "numbers_behind" "numbers_behind" sNumbersBehind f fd)(T:Txt mg)(T2:Txt2 mg)(GF:CalF P w K mg base 1 "is_figures" ["word"] spIf g1 d1):FnOk P w K mg base CX0 2 f fd ["word","row"] spNb:=by
 refine F.ok scNb (fun vs H Q E h=>?_) (fun cdv A outer s H vs Q E hr h=>?_)
 ·obtain⟨u,w,ms,rfl,_⟩:=h
  rfl
 ·obtain⟨u,v,ms,rfl,hsp,wl,ml,hm,qn,qy⟩:=h
  have hr1:Room 1 _:=hr
  refine⟨_,(pss_cons (ps_set (i:=2) scNb.nd rfl (Or.inl rfl) (pe_bm PySem.F.plainAttrs_str PySem.F.slot_str_split PySem.F.type_str_split mt_split (pv 1) (@pa_cst _ _ _ _ _ _ _ pe_str pa_nil)))
   (pss_cons (ps_if (PW.pt (pw_or (pt_cmpR op_ne (@pe_ix _ _ _ _ _ _ _ ix_listH (pv 2) pe_int (fun _ _=>rfl)) (pv 0) (nomark _)) (pw_or1 (pt_not (pt_val (pe_callB (call_allH rfl) (by rfl) T2.all boot_all (@pa_comp _ _ _ _ _ _ _ _ (pe_comp rfl csNb1 (pi_list (pe_slice sl_list (pv 2) (po_some pe_int) po_none)) (fun C s H fp=>(pg_name (i:=0) ndNb1 rfl (Or.inl rfl))) (fun C s H fp=>pf_nil) (fun C s H fp=>(pe_call GF.ok hr1 rfl GF.mg GF.kp GF.bd .nil pass0 (@pa_nam _ _ _ _ _ _ (pv 0) pa_nil)))) pa_nil))))))) (pss_one (ps_ret pe_non)) pss_nil)
   (pss_one (ps_ret (pe_comp rfl csNb2 (pi_list (pe_slice sl_list (pv 2) (po_some pe_int) po_none)) (fun C s H fp=>(pg_name (i:=0) ndNb2 rfl (Or.inl rfl))) (fun C s H fp=>pf_nil) (fun C s H fp=>(pe_callTy call_int_str (by rfl) T.int boot_int (@pa_nam _ _ _ _ _ _ (pv 0) pa_nil)))))))),?_⟩
  have rl:=row_len wl ml hm
  refine⟨_,rfl,rfl,_,_,rfl,rfl,(by decide),(by rw[sizeLine_eq];omega),fun p hp=>?_⟩
  rw[row_split hsp]
  have s1:=Same.new (o:=.lst ((v :: ms.map fun m:Nat=>num (m:Int)).map V.str)) hp
  have gp:(upd H p (.lst ((v :: ms.map fun m:Nat=>num (m:Int)).map V.str))) p=some (.lst ((v :: ms.map fun m:Nat=>num (m:Int)).map V.str)):=upd_same
  generalize (upd H p (.lst ((v :: ms.map fun m:Nat=>num (m:Int)).map V.str)))=H1 at s1 gp
  refine⟨_,rfl,p,_,_,_,rfl,rfl,gp,at0,_,rfl,rfl,?_⟩
  have nsl:(ms.map fun m:Nat=>num (m:Int)).length=ms.length:=List.length_map _
  have cut:cutV ((v :: ms.map fun m:Nat=>num (m:Int)).map V.str) (some 1) none=(ms.map fun m:Nat=>num (m:Int)).map V.str:=by rw[cutV_tail];rfl
  refine⟨_,rfl,?_⟩
  by_cases e:v=u
  ·subst e
   refine iteFd (by simp) ?_
   refine⟨_,rfl,1,rfl,p,_,rfl,SqL.of gp,fun p2 hp2=>?_⟩
   rw[cut]
   have s2:=s1.trans (Same.new (o:=.lst ((ms.map fun m:Nat=>num (m:Int)).map V.str)) hp2)
   have gp2:(upd H1 p2 (.lst ((ms.map fun m:Nat=>num (m:Int)).map V.str))) p2=some (.lst ((ms.map fun m:Nat=>num (m:Int)).map V.str)):=upd_same
   have gp':=Same.new (o:=.lst ((ms.map fun m:Nat=>num (m:Int)).map V.str)) hp2 _ _ gp
   generalize (upd H1 p2 (.lst ((ms.map fun m:Nat=>num (m:Int)).map V.str)))=H2 at s2 gp2 gp'
   clear gp hp2 s1
   have len:((ms.map fun m:Nat=>num (m:Int)).map V.str).length=ms.length:=by rw[List.length_map,nsl]
   have item:∀ {i:Nat}{x:V},((ms.map fun m:Nat=>num (m:Int)).map V.str)[i]?=some x->∃ m∈ms,ms[i]?=some m/\x = .str (num (m:Int)):=fun {i x} hx=>by
    rw[List.getElem?_map,List.getElem?_map]at hx
    cases hm':ms[i]? with
    |none=>rw[hm']at hx;cases hx
    |some m=>rw[hm']at hx;exact⟨m,List.mem_of_getElem? hm',rfl,(Option.some.inj hx).symm⟩
   refine⟨p2,rfl,⟨_,SqL.of gp2⟩,?_⟩
   refine comp_list (K:=K) (a:=p2) (xs:=(ms.map fun m:Nat=>num (m:Int)).map V.str) (fun i ys G=>Same H2 G/\ys=(List.replicate i true).map V.bl) (by rw[len,sizeLine_eq];omega) ⟨Same.refl _,rfl⟩ (fun i ys G _ z=>SqL.of (z.1 _ _ gp2)) ?_ ?_
   ·rintro i x ys G hx ⟨sm,rfl⟩
    obtain⟨m,hm1,_,rfl⟩:=item hx
    exact⟨trivial,tTru_if ⟨_,rfl,m,rfl,hm m hm1,fun G2 s3=>⟨sm.trans s3,rep_t i⟩⟩⟩
   rintro ys G _ ⟨sm,rfl⟩ D hD
   have s3:=s2.trans (sm.trans (Same.new (o:=.lst ((List.replicate ((ms.map fun m:Nat=>num (m:Int)).map V.str).length true).map V.bl)) hD))
   have gp3:=(sm.trans (Same.new (o:=.lst ((List.replicate ((ms.map fun m:Nat=>num (m:Int)).map V.str).length true).map V.bl)) hD)) _ _ gp'
   refine⟨D,_,rfl,upd_same,?_⟩
   rw[all_rep]
   refine⟨true,rfl,iteF ?_⟩
   generalize (upd G D (.lst ((List.replicate ((ms.map fun m:Nat=>num (m:Int)).map V.str).length true).map V.bl)))=H3 at s3 gp3
   refine⟨_,rfl,1,rfl,p,_,rfl,SqL.of gp3,fun p4 hp4=>?_⟩
   rw[cut]
   have s4:=s3.trans (Same.new (o:=.lst ((ms.map fun m:Nat=>num (m:Int)).map V.str)) hp4)
   have gp4:(upd H3 p4 (.lst ((ms.map fun m:Nat=>num (m:Int)).map V.str))) p4=some (.lst ((ms.map fun m:Nat=>num (m:Int)).map V.str)):=upd_same
   generalize (upd H3 p4 (.lst ((ms.map fun m:Nat=>num (m:Int)).map V.str)))=H4 at s4 gp4
   refine⟨p4,rfl,⟨_,SqL.of gp4⟩,?_⟩
   refine comp_list (K:=K) (a:=p4) (xs:=(ms.map fun m:Nat=>num (m:Int)).map V.str) (fun i ys G=>Same H4 G/\ys=((ms.take i).map fun m:Nat=>(m:Int)).map V.int) (by rw[len,sizeLine_eq];omega) ⟨Same.refl _,rfl⟩ (fun i ys G _ z=>SqL.of (z.1 _ _ gp4)) ?_ ?_
   ·rintro i x ys G hx ⟨sm,rfl⟩
    obtain⟨m,hm1,hm2,rfl⟩:=item hx
    refine⟨trivial,tTru_if ⟨_,rfl,_,_,rfl,num_int (hm m hm1),(by have:=num_len (hm m hm1);omega),sm,?_⟩⟩
    rw[List.take_succ,hm2]
    simp
   rintro ys G _ ⟨sm,rfl⟩ L hL
   rw[len,List.take_length]
   have s5:=s4.trans sm
   exact qy rfl L _ (s5.free hL) (s5.trans (Same.new hL)) upd_same
  ·refine iteTd (by simp[e]) ?_
   exact qn (fun z=>e z.symm) _ s1
noncomputable abbrev nAp:List Str:=["many","numbers"]
theorem scAp:FnScope nAp ["many","numbers"] (defScope sArePosts):=⟨rfl,rfl,rfl,by decide +kernel,rfl,by decide +kernel,by decide +kernel⟩
theorem ok_ap{f g1:Addr}{fd d1:FuncData}(F:Fun K "are_posts" "are_posts" sArePosts f fd)(T:Txt mg)(GR:CalF P w K mg base 1 "rises" ["things"] spRs g1 d1):FnOk P w K mg base CX0 2 f fd ["many","numbers"] spAp:=by
 refine F.ok scAp (fun vs H Q E h=>?_) (fun cdv A outer s H vs Q E hr h=>?_)
 ·obtain⟨l,ns,n,rfl,_⟩:=h
  rfl
 ·obtain⟨l,ns,n,rfl,gl,l1,l2,up,lt,fin⟩:=h
  have hr1:Room 1 _:=hr
  refine⟨_,(pss_one (ps_ret (pe_and (pe_cmpR op_ge (pe_callB call_lenH (by rfl) T.len PySem.boot_len (@pa_nam _ _ _ _ _ _ (pv 1) pa_nil)) pe_int (nomark _)) (pe_and (pe_call GR.ok hr1 rfl GR.mg GR.kp GR.bd .nil pass0 (@pa_nam _ _ _ _ _ _ (pv 1) pa_nil)) (pe_one (pe_cmpR op_lt (@pe_ix _ _ _ _ _ _ _ ix_listH (pv 1) (pe_un un_neg pe_int) (fun _ _=>rfl)) (pv 0) (nomark _))))))),?_⟩
  refine⟨_,rfl,l,_,rfl,gl,_,_,rfl,rfl,_,rfl,?_⟩
  refine ite2 (fun _=>?_) (fun h=>absurd (decide_eq_true (by rw[List.length_map];lia)) h)
  refine⟨_,rfl,l,ns,rfl,gl,l1,up,fun H1 s1=>⟨true,rfl,iteT ?_⟩⟩
  have nl:(ns.map V.int).length=ns.length:=List.length_map _
  refine⟨_,rfl,_,rfl,l,_,_,_,rfl,rfl,s1 _ _ gl,at_last (by lia),_,rfl,_,_,by rw[List.getElem_map],rfl,?_⟩
  have hl:=lt _ (List.getElem_mem (show(ns.map V.int).length-1<ns.length by lia))
  rw[show((fun(i j:Int)=>V.bl (decide (i<j))) (ns[(ns.map V.int).length-1]'(by lia)) n)=V.bl true from congrArg V.bl (decide_eq_true hl)]
  exact fin _ s1
end
open PySem L2 PyProof.Rows
theorem star_jst{es:List Expr}{pos:Pos}{rest:List Expr}{env:Env}:starEach (.JoinedStr es pos :: rest) env=(false,eval (.JoinedStr es pos) env) :: starEach rest env:=rfl
theorem pa_jst{X:Cx}{xs es:List Expr}{pos:Pos}{te:TE}{t:TA}(ha:PE X (.JoinedStr xs pos) te)(hr:PA X es t):PA X (.JoinedStr xs pos :: es) (tCons te t):=pa_cons ha hr (hs:=star_jst)
noncomputable def rStrI:List V->Hp->VK->Prop:=fun xs H Q=>∃ i,xs=[.int i]/\i.natAbs.log2<1920/\Q (.str (num i)) H
theorem call_strI{X:Cx}:CallR X (.type "str") rStrI:=call_str_int
theorem mt_joinK{X:Cx}(K:PySem.W.Frag)(e:X.K=K):MtM X "str.join" (rJoin K):=e▸mt_join
noncomputable def rowI(w:String)(ns:List Int):Str:=(sg 32).join (Str.ofString w :: ns.map num)
noncomputable def rowsI(n:Nat)(ties:List Tie)(ps:List Int):List Str:=rowI "web" [(n:Int)] :: (ties.map fun x=>rowI "tie" [x.1,x.2.1,x.2.2])++[rowI "posts" ps]
noncomputable def txtI(n:Nat)(ties:List Tie)(ps:List Int):Str:=(sg 10).join (rowsI n ties ps)
theorem str_app(a b:Str):(a++b).cps.toList=a.cps.toList++b.cps.toList:=by
 show(a.cps++b.cps).toList=_
 exact Array.toList_append
theorem join_cons2(a b:Str)(r:List Str):((sg 32).join (a :: b :: r)).cps.toList=a.cps.toList++32 :: ((sg 32).join (b :: r)).cps.toList:=by
 rw[join_two]
 show(a.cps++(#[32]:Array Nat)++_).toList=_
 rw[Array.toList_append,Array.toList_append]
 simp
theorem word_join{w v:String}(hv:(Str.ofString v).cps.toList=(Str.ofString w).cps.toList++[32]){b:Str}{r:List Str}:Str.ofString v++(sg 32).join (b :: r)=(sg 32).join (Str.ofString w :: b :: r):=by
 refine str_ext ?_
 rw[str_app,join_cons2,hv]
 simp
theorem web_row(i:Int):Str.empty++Str.ofString "web "++num i=rowI "web" [i]:=by
 refine str_ext ?_
 unfold rowI
 rw[List.map_cons,List.map_nil,join_cons2,str_app,str_app]
 show []++[119,101,98,32]++(num i).cps.toList=[119,101,98]++32 :: (num i).cps.toList
 rfl
theorem tie_row(a b c:Int):Str.empty++Str.ofString "tie "++num a++Str.ofString " "++num b++Str.ofString " "++num c=rowI "tie" [a,b,c]:=by
 refine str_ext ?_
 unfold rowI
 rw[List.map_cons,List.map_cons,List.map_cons,List.map_nil,join_cons2,join_cons2,join_cons2]
 simp only[str_app]
 show []++[116,105,101,32]++(num a).cps.toList++[32]++(num b).cps.toList++[32]++(num c).cps.toList=[116,105,101]++32 :: ((num a).cps.toList++32 :: ((num b).cps.toList++32 :: (num c).cps.toList))
 simp
theorem take_snoc{α β:Type}(f:α->β)(l:List α){i:Nat}(h:i<l.length):(l.take i).map f++[f l[i]]=(l.take (i+1)).map f:=by
 rw[List.take_succ,List.getElem?_eq_getElem h,List.map_append]
 rfl
theorem posts_row{ps:List Int}(h:1<=ps.length):Str.ofString "posts "++(sg 32).join (ps.map num)=rowI "posts" ps:=by
 cases ps with
 |nil=>cases h
 |cons a r=>exact word_join (by decide +kernel)
theorem sg_nl:Str.ofString "\n" = sg 10:=by decide +kernel
theorem sg_bl:Str.ofString " " = sg 32:=by decide +kernel
theorem num_le{i:Int}(h0:0<=i)(h1:i<10 ^ 18):(num i).length<=18:=by
 obtain⟨m,rfl⟩:=Int.eq_ofNat_of_zero_le h0
 exact num_len (by omega)
theorem log_le{i:Int}(h0:0<=i)(h1:i<10 ^ 18):i.natAbs.log2<1920:=by
 have h:i.natAbs<2 ^ 64:=by
  have:(10:Int) ^ 18<2 ^ 64:=by decide
  omega
 by_cases z:i.natAbs=0
 ·rw[z];decide
 ·exact Nat.lt_trans ((Nat.log2_lt z).mpr h) (by decide)
theorem rowI_eq{w:String}{ns:List Int}(h:∀ x∈ns,0<=x):rowI w ns=rowOf (Str.ofString w) (ns.map Int.toNat):=by
 unfold rowI rowOf
 rw[List.map_map]
 congr 2
 exact List.map_congr_left fun x hx=>by
  show num x=num ((x.toNat:Nat):Int)
  rw[Int.toNat_of_nonneg (h x hx)]
theorem rowI_len{w:String}{ns:List Int}(hw:(Str.ofString w).length<=100)(hl:ns.length<=1000)(h:∀ x∈ns,0<=x/\x<10 ^ 18):(rowI w ns).length<=20000:=by
 rw[rowI_eq fun x hx=>(h x hx).1]
 refine row_len hw (by rw[List.length_map];exact hl) fun m hm=>?_
 obtain⟨x,hx,rfl⟩:=List.mem_map.mp hm
 have:=h x hx
 omega
structure TOk(n:Nat)(ties:List Tie)(ps:List Int):Prop where
 n1:1<=n
 n2:n<=1000
 ok:∀ x∈ties,TieOk n x
 tl:ties.length<=120
 pl:ps.length<=100
 p1:1<=ps.length
 pr:∀ x∈ps,0<=x/\x<n
theorem TOk.tie{n:Nat}{ties:List Tie}{ps:List Int}(o:TOk n ties ps){x:Tie}(hx:x∈ties):∀ y∈[x.1,x.2.1,x.2.2],0<=y/\y<10 ^ 18:=fun y hy=>by
 obtain⟨h1,h2,h3,h4,h5⟩:=o.ok x hx
 have:=o.n2
 simp only[List.mem_cons,List.not_mem_nil,or_false]at hy
 rcases hy with rfl | rfl | rfl <;> omega
theorem TOk.post{n:Nat}{ties:List Tie}{ps:List Int}(o:TOk n ties ps){x:Int}(hx:x∈ps):0<=x/\x<10 ^ 18:=by
 have:=o.pr x hx
 have:=o.n2
 omega
theorem TOk.rows{n:Nat}{ties:List Tie}{ps:List Int}(o:TOk n ties ps):∀ r∈rowsI n ties ps,r.length<=20000:=fun r hr=>by
 unfold rowsI at hr
 rcases List.mem_append.mp hr with h | h
 ·rcases List.mem_cons.mp h with h | h
  ·rw[h]
   refine rowI_len (by decide) (by show 1<=1000;decide) fun x hx=>?_
   rw[List.mem_singleton.mp hx]
   have:=o.n2
   omega
  ·obtain⟨x,hx,rfl⟩:=List.mem_map.mp h
   exact rowI_len (by decide) (by show 3<=1000;decide) (o.tie hx)
 ·rw[List.mem_singleton.mp h]
  exact rowI_len (by decide) (by have:=o.pl;omega) fun x hx=>o.post hx
theorem rowsI_length(n:Nat)(ties:List Tie)(ps:List Int):(rowsI n ties ps).length=ties.length+2:=by
 unfold rowsI
 rw[List.length_append,List.length_cons,List.length_map]
 rfl
theorem TOk.fits{n:Nat}{ties:List Tie}{ps:List Int}(o:TOk n ties ps):((rowsI n ties ps).map fun p=>p.length).sum+(rowsI n ties ps).length * (sg 10).length<=16777216:=by
 have h:=sum_le (l:=(rowsI n ties ps).map fun p=>p.length) (B:=20000) fun x hx=>by
  obtain⟨r,hr,rfl⟩:=List.mem_map.mp hx
  exact o.rows r hr
 rw[List.length_map,rowsI_length]at h
 rw[rowsI_length]
 have:=o.tl
 show _+_ * 1<=_
 omega
noncomputable def spWt(K:PySem.W.Frag):Sp:=fun vs H Q _=>∃ (b:Bool) (t l:Addr) (n:Nat) (ties:List Tie) (ps:List Int),vs=[.ref t,.ref l]/\WebAt H t n ties/\SqB b K H l (ps.map V.int)/\TOk n ties ps/\∀ H',Same H H'->Q (.str (txtI n ties ps)) H'
noncomputable def spLt(K:PySem.W.Frag):Sp:=fun vs H Q _=>∃ (t l:Addr) (n:Nat) (ties:List Tie) (ps:List Int),vs=[.ref t,.ref l]/\WebAt H t n ties/\SqL K H l (ps.map V.int)/\TOk n ties ps/\∀ H',Same H H'->Q (.str (txtI n ties ps)) H'
section
variable{P:Program}{w:World}{K:PySem.W.Frag}{mg:Str->Option Value}{base:Heap}
noncomputable abbrev nWt:List Str:=["web","posts","many","ties","rows"]
theorem scWt:FnScope nWt ["web","posts"] (defScope sWebText):=⟨rfl,rfl,rfl,by decide +kernel,rfl,by decide +kernel,by decide +kernel⟩
theorem csWt1:CompScope ["a","b","weight"] [none,none,none] nWt (defScope sWebText) (scO [(".0",.local),("a",.local),("b",.local),("weight",.local)]):=⟨rfl,by decide +kernel,by decide +kernel,by decide +kernel,rfl,capB_ok (by decide +kernel)⟩
theorem ndWt1:(["a","b","weight"]:List Str).Nodup:=by decide +kernel
theorem csWt2:CompScope ["post"] [none] nWt (defScope sWebText) (scO [(".0",.local),("post",.local),("str",.globalImplicit)]):=⟨rfl,by decide +kernel,by decide +kernel,by decide +kernel,rfl,capB_ok (by decide +kernel)⟩
theorem ndWt2:(["post"]:List Str).Nodup:=by decide +kernel
theorem ok_wt{f:Addr}{fd:FuncData}(F:Fun K "web_text" "web_text" sWebText f fd)(T:Txt mg):FnOk P w K mg base CX0 1 f fd ["web","posts"] (spWt K):=by
 refine F.ok scWt (fun vs H Q E h=>?_) (fun cdv A outer s H vs Q E hr h=>?_)
 ·obtain⟨b,t,l,n,ties,ps,rfl,_⟩:=h
  rfl
 ·obtain⟨b,t,l,n,ties,ps,rfl,W,gl,o,fin⟩:=h
  refine⟨_,(pss_cons (ps_asg (pv 0) (pg_tup (n:=2) rfl (pgs_cons (pg_name (i:=2) scWt.nd rfl (Or.inl rfl)) (pgs_cons (pg_name (i:=3) scWt.nd rfl (Or.inl rfl)) pgs_nil))))
   (pss_cons (ps_set (i:=4) scWt.nd rfl (Or.inl rfl) (@pe_op _ _ _ _ _ _ _ _ op_cat (@pe_lst _ _ _ _ (@pa_jst _ _ _ _ _ _ (pe_joined (.cons pe_str (.cons (pe_fv (pv 2)) .nil))) pa_nil)) (pe_comp rfl csWt1 (pi_tup (pv 3)) (fun C s H fp=>(pg_tupK K rfl (n:=3) rfl (pgs_cons (pg_name (i:=0) ndWt1 rfl (Or.inl rfl)) (pgs_cons (pg_name (i:=1) ndWt1 rfl (Or.inl rfl)) (pgs_cons (pg_name (i:=2) ndWt1 rfl (Or.inl rfl)) pgs_nil))) rfl rfl)) (fun C s H fp=>pf_nil) (fun C s H fp=>(pe_joined (.cons pe_str (.cons (pe_fv (pv 0)) (.cons pe_str (.cons (pe_fv (pv 1)) (.cons pe_str (.cons (pe_fv (pv 2)) .nil)))))))))))
   (@pss_one _ _ _ (@ps_ret _ _ _ _ (@pe_bm _ _ _ _ _ _ _ _ _ _ _ _ PySem.F.plainAttrs_str PySem.F.slot_str_join PySem.F.type_str_join mt_join pe_str (@pa_bin _ _ _ _ _ _ _ _ (@pe_op _ _ _ _ _ _ _ _ op_cat (pv 4) (@pe_lst _ _ _ _ (@pa_bin _ _ _ _ _ _ _ _ (@pe_op _ _ _ _ _ _ _ _ op_add_str pe_str (@pe_bm _ _ _ _ _ _ _ _ _ _ _ _ PySem.F.plainAttrs_str PySem.F.slot_str_join PySem.F.type_str_join mt_join pe_str (@pa_comp _ _ _ _ _ _ _ _ (pe_comp rfl csWt2 (pi_seq b (pv 1)) (fun C s H fp=>(pg_name (i:=0) ndWt2 rfl (Or.inl rfl))) (fun C s H fp=>pf_nil) (fun C s H fp=>(pe_callTy call_strI (by rfl) T.str boot_str (@pa_nam _ _ _ _ _ _ (pv 0) pa_nil)))) pa_nil) (by rfl) (by rfl) (by rfl) (by rfl) (by rfl))) pa_nil))) pa_nil) (by rfl) (by rfl) (by rfl) (by rfl) (by rfl)))))),?_⟩
  obtain⟨ts,as,h1,h2,h3⟩:=W.ex
  have asl:as.length=ties.length:=Paired.length h3
  have tl:=o.tl
  have nn:(0:Int)<=n/\(n:Int)<10 ^ 18:=by have:=o.n2;omega
  refine⟨_,rfl,_,_,rfl,SqT.of h1,rfl,_,_,rfl,_,_,rfl,rfl,?_⟩
  have e0:=web_row (n:Int)
  have l0:(rowI "web" [(n:Int)]).length<=sizeLine:=by
   have:=o.rows _ (List.mem_append_left _ List.mem_cons_self)
   rw[sizeLine_eq];omega
  refine⟨_,rfl,(by decide),_,rfl,_,rfl,log_le nn.1 nn.2,_,rfl,(by rw[e0];exact l0),?_⟩
  rw[e0]
  refine⟨(by show 1<=sizeLine;decide),fun c hc=>?_⟩
  have s1:=Same.new (o:=.lst [V.str (rowI "web" [(n:Int)])]) hc
  have gc:(upd H c (.lst [V.str (rowI "web" [(n:Int)])])) c=some (.lst [V.str (rowI "web" [(n:Int)])]):=upd_same
  generalize (upd H c (.lst [V.str (rowI "web" [(n:Int)])]))=H1 at s1 gc
  have trow:∀ {x:Tie},x∈ties->(rowI "tie" [x.1,x.2.1,x.2.2]).length<=20000:=fun {x} hx=>o.rows _ (List.mem_append_left _ (List.mem_cons_of_mem _ (List.mem_map.mpr ⟨x,hx,rfl⟩)))
  refine⟨_,rfl,ts,rfl,⟨_,SqT.of (s1 _ _ h2)⟩,?_⟩
  refine comp_tup (K:=K) (a:=ts) (xs:=as.map V.ref) (fun i ys G=>Same H1 G/\ys=((ties.take i).map fun x=>rowI "tie" [x.1,x.2.1,x.2.2]).map V.str) (by rw[List.length_map,sizeLine_eq];omega) ⟨Same.refl _,rfl⟩ (fun i ys G _ z=>SqT.of (z.1 _ _ (s1 _ _ h2))) ?_ ?_
  ·rintro i x ys G hx ⟨sm,rfl⟩
   obtain⟨il,e⟩:=List.getElem?_eq_some_iff.mp hx
   rw[List.length_map]at il
   rw[List.getElem_map]at e
   subst e
   have jl:i<ties.length:=by omega
   have gx:=Paired.at h3 i il jl
   have hm:ties[i]∈ties:=List.getElem_mem jl
   have tk:=o.tie hm
   have ka:=tk _ List.mem_cons_self
   have kb:=tk _ (List.mem_cons_of_mem _ List.mem_cons_self)
   have kc:=tk _ (List.mem_cons_of_mem _ (List.mem_cons_of_mem _ List.mem_cons_self))
   have la:(Str.ofString (toString ties[i].1)).length<=18:=num_le ka.1 ka.2
   have lb:(Str.ofString (toString ties[i].2.1)).length<=18:=num_le kb.1 kb.2
   have lc:(Str.ofString (toString ties[i].2.2)).length<=18:=num_le kc.1 kc.2
   refine⟨_,_,rfl,SqT.of (sm _ _ (s1 _ _ gx)),rfl,_,_,rfl,_,_,rfl,_,_,rfl,rfl,trivial,tTru_if ?_⟩
   have app:∀ (a b:Str),(a++b).length=a.length+b.length:=fun a b=>Array.size_append
   have e1:(Str.ofString "tie ").length=4:=by decide +kernel
   have e2:(Str.ofString " ").length=1:=by decide +kernel
   have e3:Str.empty.length=0:=rfl
   refine⟨_,rfl,(by rw[app,e1,e3,sizeLine_eq];omega),_,rfl,_,rfl,log_le ka.1 ka.2,_,rfl,(by rw[app,app,e1,e3,sizeLine_eq];omega),_,rfl,(by rw[app,app,app,e1,e2,e3,sizeLine_eq];omega),_,rfl,_,rfl,log_le kb.1 kb.2,_,rfl,(by rw[app,app,app,app,e1,e2,e3,sizeLine_eq];omega),_,rfl,(by rw[app,app,app,app,app,e1,e2,e3,sizeLine_eq];omega),_,rfl,_,rfl,log_le kc.1 kc.2,_,rfl,(by rw[app,app,app,app,app,app,e1,e2,e3,sizeLine_eq];omega),?_⟩
   rw[tie_row]
   refine⟨sm,?_⟩
   rw[List.map_map,List.map_map]
   exact take_snoc (V.str ∘ fun x:Tie=>rowI "tie" [x.1,x.2.1,x.2.2]) ties jl
  rintro ys G _ ⟨sm,rfl⟩ d hd
  rw[show(as.map V.ref).length=ties.length by rw[List.length_map,asl],List.take_length]
  have s2:=s1.trans (sm.trans (Same.new (o:=.lst ((ties.map fun x=>rowI "tie" [x.1,x.2.1,x.2.2]).map V.str)) hd))
  have gc2:=(sm.trans (Same.new (o:=.lst ((ties.map fun x=>rowI "tie" [x.1,x.2.1,x.2.2]).map V.str)) hd)) _ _ gc
  have gd:(upd G d (.lst ((ties.map fun x=>rowI "tie" [x.1,x.2.1,x.2.2]).map V.str))) d=some (.lst ((ties.map fun x=>rowI "tie" [x.1,x.2.1,x.2.2]).map V.str)):=upd_same
  generalize (upd G d (.lst ((ties.map fun x=>rowI "tie" [x.1,x.2.1,x.2.2]).map V.str)))=H2 at s2 gc2 gd
  refine⟨c,d,_,_,rfl,rfl,gc2,gd,(by rw[List.length_map,List.length_map,sizeLine_eq];show 1+_<=_;omega),fun r hr'=>?_⟩
  have s3:=s2.trans (Same.new (o:=.lst ([V.str (rowI "web" [(n:Int)])]++(ties.map fun x=>rowI "tie" [x.1,x.2.1,x.2.2]).map V.str)) hr')
  have gr:(upd H2 r (.lst ([V.str (rowI "web" [(n:Int)])]++(ties.map fun x=>rowI "tie" [x.1,x.2.1,x.2.2]).map V.str))) r=some (.lst ((rowI "web" [(n:Int)] :: ties.map fun x=>rowI "tie" [x.1,x.2.1,x.2.2]).map V.str)):=upd_same
  generalize (upd H2 r (.lst ([V.str (rowI "web" [(n:Int)])]++(ties.map fun x=>rowI "tie" [x.1,x.2.1,x.2.2]).map V.str)))=H3 at s3 gr
  refine⟨rfl,_,rfl,rfl,_,rfl,l,rfl,⟨_,s3.seqB gl⟩,?_⟩
  have pl:=o.pl
  refine comp_seq (K:=K) (b:=b) (a:=l) (xs:=ps.map V.int) (fun i ys G=>Same H3 G/\ys=((ps.take i).map num).map V.str) (by rw[List.length_map,sizeLine_eq];omega) ⟨Same.refl _,rfl⟩ (fun i ys G _ z=>z.1.seqB (s3.seqB gl)) ?_ ?_
  ·rintro i x ys G hx ⟨sm,rfl⟩
   obtain⟨il,e⟩:=List.getElem?_eq_some_iff.mp hx
   rw[List.length_map]at il
   rw[List.getElem_map]at e
   subst e
   have k:=o.post (List.getElem_mem il)
   refine⟨trivial,tTru_if ⟨_,rfl,_,rfl,log_le k.1 k.2,sm,?_⟩⟩
   rw[List.map_map,List.map_map]
   exact take_snoc (V.str ∘ num) ps il
  rintro ys G _ ⟨sm,rfl⟩ D hD
  rw[List.length_map,List.take_length]
  have sD:=Same.new (o:=.lst ((ps.map num).map V.str)) hD
  have gr2:=(sm.trans sD) _ _ gr
  have s4:=s3.trans (sm.trans sD)
  have fits:((ps.map num).map fun p=>p.length).sum+(ps.map num).length * (Str.ofString " ").length<=16777216:=by
   have h:=sum_le (l:=(ps.map num).map fun p=>p.length) (B:=18) fun x hx=>by
    obtain⟨y,hy,rfl⟩:=List.mem_map.mp hx
    obtain⟨i,hi,rfl⟩:=List.mem_map.mp hy
    have k:=o.post hi
    exact num_le k.1 k.2
   rw[List.length_map,List.length_map]at h
   rw[List.length_map,show(Str.ofString " ").length=1 by decide +kernel]
   omega
  refine⟨_,D,ps.map num,rfl,rfl,SqL.of upd_same,fits,_,_,rfl,rfl,?_⟩
  rw[sg_bl,show Txt.join (sg 32) (ps.map num)=(sg 32).join (ps.map num)from StrLaws.glued_eq_join _ _]
  have app:∀ (a b:Str),(a++b).length=a.length+b.length:=fun a b=>Array.size_append
  have lp:(rowI "posts" ps).length<=20000:=o.rows _ (List.mem_append_right _ (List.mem_singleton.mpr rfl))
  rw[<- app,posts_row o.p1]
  generalize (upd G D (.lst ((ps.map num).map V.str)))=H4 at s4 gr2
  refine⟨by rw[sizeLine_eq];omega,(by show 1<=sizeLine;decide),fun e he=>?_⟩
  have se:=Same.new (o:=.lst [V.str (rowI "posts" ps)]) he
  refine⟨r,e,_,_,rfl,rfl,se _ _ gr2,upd_same,(by rw[List.length_map,List.length_cons,List.length_map,sizeLine_eq];show _+1+1<=_;omega),fun g hg=>?_⟩
  have ee:((rowI "web" [(n:Int)] :: ties.map fun x=>rowI "tie" [x.1,x.2.1,x.2.2]).map V.str++[V.str (rowI "posts" ps)])=(rowsI n ties ps).map V.str:=by
   unfold rowsI
   rw[List.map_append]
   rfl
  rw[ee]
  have s5:=s4.trans (se.trans (Same.new (o:=.lst ((rowsI n ties ps).map V.str)) hg))
  refine⟨_,g,rowsI n ties ps,rfl,rfl,SqL.of upd_same,(by rw[sg_nl];exact o.fits),?_⟩
  rw[sg_nl,show Txt.join (sg 10) (rowsI n ties ps)=(sg 10).join (rowsI n ties ps)from StrLaws.glued_eq_join _ _]
  exact fin _ s5
end
open PySem L2 PyProof.Rows
theorem web_row2(i:Int):Str.ofString "web "++num i=rowI "web" [i]:=word_join (w:="web") (v:="web ") (b:=num i) (r:=[]) (by decide +kernel)
theorem tie_row2(a b c:Int):Str.ofString "tie "++(sg 32).join ([a,b,c].map num)=rowI "tie" [a,b,c]:=word_join (w:="tie") (v:="tie ") (by decide +kernel)
section
variable{P:Program}{w:World}{K:PySem.W.Frag}{mg:Str->Option Value}{base:Heap}
noncomputable abbrev nLt:List Str:=["_law_web_here","_law_posts_here","_law_rows"]
theorem scLt:FnScope nLt ["_law_web_here","_law_posts_here"] (defScope sText):=⟨rfl,rfl,rfl,by decide +kernel,rfl,by decide +kernel,by decide +kernel⟩
theorem csLt1:CompScope ["_law_tie"] [none] nLt (defScope sText) (scO [(".0",.local),("_law_tie",.local)]):=⟨rfl,by decide +kernel,by decide +kernel,by decide +kernel,rfl,capB_ok (by decide +kernel)⟩
theorem ndLt1:(["_law_tie"]:List Str).Nodup:=by decide +kernel
theorem csLt2:CompScope ["_law_part"] [none] ["_law_tie"] (scO [(".0",.local),("_law_tie",.local)]) (scO [(".0",.local),("_law_part",.local),("str",.globalImplicit)]):=⟨rfl,by decide +kernel,by decide +kernel,by decide +kernel,rfl,capB_ok (by decide +kernel)⟩
theorem ndLt2:(["_law_part"]:List Str).Nodup:=by decide +kernel
noncomputable abbrev teLt2(K:PySem.W.Frag):TE:=tComp [none] (iTup K (tVar 0)) (gName 0) tTru (tCB rStrI (tCons (tVar 0) tNil))
theorem csLt3:CompScope ["_law_post"] [none] nLt (defScope sText) (scO [(".0",.local),("_law_post",.local),("str",.globalImplicit)]):=⟨rfl,by decide +kernel,by decide +kernel,by decide +kernel,rfl,capB_ok (by decide +kernel)⟩
theorem ndLt3:(["_law_post"]:List Str).Nodup:=by decide +kernel
theorem ok_lt{f:Addr}{fd:FuncData}(F:Fun K "_law_text" "_law_text" sText f fd)(T:Txt mg):FnOk P w K mg base CX0 1 f fd ["_law_web_here","_law_posts_here"] (spLt K):=by
 refine F.ok scLt (fun vs H Q E h=>?_) (fun cdv A outer s H vs Q E hr h=>?_)
 ·obtain⟨t,l,n,ties,ps,rfl,_⟩:=h
  rfl
 ·obtain⟨t,l,n,ties,ps,rfl,W,gl,o,fin⟩:=h
  refine⟨_,(pss_cons (ps_set (i:=2) scLt.nd rfl (Or.inl rfl) (@pe_op _ _ _ _ _ _ _ _ op_cat (@pe_lst _ _ _ _ (@pa_bin _ _ _ _ _ _ _ _ (@pe_op _ _ _ _ _ _ _ _ op_add_str pe_str (pe_callTy call_strI (by rfl) T.str boot_str (@pa_sub _ _ _ _ _ _ _ (@pe_ix _ _ _ _ _ _ _ ix_tupH (pv 0) pe_int (fun _ _=>rfl)) pa_nil))) pa_nil)) (pe_comp rfl csLt1 (pi_tup (@pe_ix _ _ _ _ _ _ _ ix_tupH (pv 0) pe_int (fun _ _=>rfl))) (fun C s H fp=>(pg_name (i:=0) ndLt1 rfl (Or.inl rfl))) (fun C s H fp=>pf_nil) (fun C s H fp=>(@pe_op _ _ _ _ _ _ _ _ op_add_str pe_str (@pe_bmK _ K rfl _ _ _ _ _ _ _ _ _ _ _ PySem.F.plainAttrs_str PySem.F.slot_str_join PySem.F.type_str_join (mt_joinK K rfl) pe_str (@pa_comp _ _ _ _ _ _ _ _ (show PE _ _ (teLt2 K)from pe_comp rfl csLt2 (pi_tup (pv 0)) (fun C s H fp=>(pg_name (i:=0) ndLt2 rfl (Or.inl rfl))) (fun C s H fp=>pf_nil) (fun C s H fp=>(pe_callTy call_strI (by rfl) T.str boot_str (@pa_nam _ _ _ _ _ _ (pv 0) pa_nil)))) pa_nil) (by rfl) (by rfl) (by rfl) (by rfl) (by rfl)))))))
   (@pss_one _ _ _ (@ps_ret _ _ _ _ (@pe_bm _ _ _ _ _ _ _ _ _ _ _ _ PySem.F.plainAttrs_str PySem.F.slot_str_join PySem.F.type_str_join mt_join pe_str (@pa_bin _ _ _ _ _ _ _ _ (@pe_op _ _ _ _ _ _ _ _ op_cat (pv 2) (@pe_lst _ _ _ _ (@pa_call _ _ _ _ _ _ _ _ (@pe_bm _ _ _ _ _ _ _ _ _ _ _ _ PySem.F.plainAttrs_str PySem.F.slot_str_join PySem.F.type_str_join mt_join pe_str (@pa_bin _ _ _ _ _ _ _ _ (@pe_op _ _ _ _ _ _ _ _ op_cat (@pe_lst _ _ _ _ (@pa_cst _ _ _ _ _ _ _ pe_str pa_nil)) (pe_comp rfl csLt3 (pi_list (pv 1)) (fun C s H fp=>(pg_name (i:=0) ndLt3 rfl (Or.inl rfl))) (fun C s H fp=>pf_nil) (fun C s H fp=>(pe_callTy call_strI (by rfl) T.str boot_str (@pa_nam _ _ _ _ _ _ (pv 0) pa_nil))))) pa_nil) (by rfl) (by rfl) (by rfl) (by rfl) (by rfl)) pa_nil))) pa_nil) (by rfl) (by rfl) (by rfl) (by rfl) (by rfl))))),?_⟩
  obtain⟨ts,as,h1,h2,h3⟩:=W.ex
  have asl:as.length=ties.length:=Paired.length h3
  have tl:=o.tl
  have nn:(0:Int)<=n/\(n:Int)<10 ^ 18:=by have:=o.n2;lia
  have app:∀ (a b:Str),(a++b).length=a.length+b.length:=fun a b=>Array.size_append
  have l0:(rowI "web" [(n:Int)]).length<=20000:=o.rows _ (List.mem_append_left _ List.mem_cons_self)
  refine⟨_,rfl,t,_,_,_,rfl,rfl,h1,at0,_,rfl,log_le nn.1 nn.2,_,_,rfl,rfl,?_⟩
  rw[<- app,web_row2]
  refine⟨by rw[sizeLine_eq];lia,(by show 1<=sizeLine;decide),fun c hc=>?_⟩
  have s1:=Same.new (o:=.lst [V.str (rowI "web" [(n:Int)])]) hc
  have gc:(upd H c (.lst [V.str (rowI "web" [(n:Int)])])) c=some (.lst [V.str (rowI "web" [(n:Int)])]):=upd_same
  generalize (upd H c (.lst [V.str (rowI "web" [(n:Int)])]))=H1 at s1 gc
  refine⟨_,rfl,t,_,_,_,rfl,rfl,s1 _ _ h1,at1,ts,rfl,⟨_,SqT.of (s1 _ _ h2)⟩,?_⟩
  refine comp_tup (K:=K) (a:=ts) (xs:=as.map V.ref) (fun i ys G=>Same H1 G/\ys=((ties.take i).map fun x=>rowI "tie" [x.1,x.2.1,x.2.2]).map V.str) (by rw[List.length_map,sizeLine_eq];lia) ⟨Same.refl _,rfl⟩ (fun i ys G _ z=>SqT.of (z.1 _ _ (s1 _ _ h2))) ?_ ?_
  ·rintro i x ys G hx ⟨sm,rfl⟩
   obtain⟨il,e⟩:=List.getElem?_eq_some_iff.mp hx
   rw[List.length_map]at il
   rw[List.getElem_map]at e
   subst e
   have jl:i<ties.length:=by lia
   have gx:=Paired.at h3 i il jl
   have hm:ties[i]∈ties:=List.getElem_mem jl
   have tk:=o.tie hm
   have trow:(rowI "tie" [ties[i].1,ties[i].2.1,ties[i].2.2]).length<=20000:=o.rows _ (List.mem_append_left _ (List.mem_cons_of_mem _ (List.mem_map.mpr ⟨_,hm,rfl⟩)))
   refine⟨trivial,tTru_if ⟨rfl,_,rfl,as[i],rfl,⟨_,SqT.of (sm _ _ (s1 _ _ gx))⟩,?_⟩⟩
   refine comp_tup (K:=K) (a:=as[i]) (xs:=tieV ties[i]) (fun j ys G2=>Same G G2/\ys=(([ties[i].1,ties[i].2.1,ties[i].2.2].take j).map num).map V.str) (by show 3<=sizeLine;decide) ⟨Same.refl _,rfl⟩ (fun j ys G2 _ z=>SqT.of (z.1 _ _ (sm _ _ (s1 _ _ gx)))) ?_ ?_
   ·rintro j x ys G2 hx ⟨sj,rfl⟩
    have hx:([ties[i].1,ties[i].2.1,ties[i].2.2].map V.int)[j]?=some x:=hx
    obtain⟨jl2,e⟩:=List.getElem?_eq_some_iff.mp hx
    rw[List.length_map]at jl2
    rw[List.getElem_map]at e
    subst e
    have k:=tk _ (List.getElem_mem jl2)
    refine⟨trivial,tTru_if ⟨_,rfl,_,rfl,log_le k.1 k.2,sj,?_⟩⟩
    rw[List.map_map,List.map_map]
    exact take_snoc (V.str ∘ num) _ jl2
   rintro ys G2 _ ⟨sj,rfl⟩ D hD
   rw[show([ties[i].1,ties[i].2.1,ties[i].2.2].take (tieV ties[i]).length)=[ties[i].1,ties[i].2.1,ties[i].2.2]from rfl]
   have fits:(([ties[i].1,ties[i].2.1,ties[i].2.2].map num).map fun p=>p.length).sum+([ties[i].1,ties[i].2.1,ties[i].2.2].map num).length * (Str.ofString " ").length<=16777216:=by
    have h:=sum_le (l:=([ties[i].1,ties[i].2.1,ties[i].2.2].map num).map fun p=>p.length) (B:=18) fun x hx=>by
     obtain⟨y,hy,rfl⟩:=List.mem_map.mp hx
     obtain⟨z,hz,rfl⟩:=List.mem_map.mp hy
     have k:=tk _ hz
     exact num_le k.1 k.2
    rw[List.length_map,List.length_map]at h
    rw[List.length_map,show(Str.ofString " ").length=1 by decide +kernel]
    have h3:[ties[i].1,ties[i].2.1,ties[i].2.2].length=3:=rfl
    lia
   refine⟨_,D,[ties[i].1,ties[i].2.1,ties[i].2.2].map num,rfl,rfl,SqL.of upd_same,fits,?_⟩
   have ej:Txt.join (Str.ofString " ") ([ties[i].1,ties[i].2.1,ties[i].2.2].map num)=(sg 32).join ([ties[i].1,ties[i].2.1,ties[i].2.2].map num):=by rw[sg_bl];exact StrLaws.glued_eq_join _ _
   rw[ej]
   refine⟨_,_,rfl,rfl,?_⟩
   rw[<- app,tie_row2]
   refine⟨by rw[sizeLine_eq];lia,sm.trans (sj.trans (Same.new hD)),?_⟩
   rw[List.map_map,List.map_map]
   exact take_snoc (V.str ∘ fun x:Tie=>rowI "tie" [x.1,x.2.1,x.2.2]) ties jl
  rintro ys G _ ⟨sm,rfl⟩ d hd
  rw[show(as.map V.ref).length=ties.length by rw[List.length_map,asl],List.take_length]
  have s2:=s1.trans (sm.trans (Same.new (o:=.lst ((ties.map fun x=>rowI "tie" [x.1,x.2.1,x.2.2]).map V.str)) hd))
  have gc2:=(sm.trans (Same.new (o:=.lst ((ties.map fun x=>rowI "tie" [x.1,x.2.1,x.2.2]).map V.str)) hd)) _ _ gc
  have gd:(upd G d (.lst ((ties.map fun x=>rowI "tie" [x.1,x.2.1,x.2.2]).map V.str))) d=some (.lst ((ties.map fun x=>rowI "tie" [x.1,x.2.1,x.2.2]).map V.str)):=upd_same
  generalize (upd G d (.lst ((ties.map fun x=>rowI "tie" [x.1,x.2.1,x.2.2]).map V.str)))=H2 at s2 gc2 gd
  refine⟨c,d,_,_,rfl,rfl,gc2,gd,(by rw[List.length_map,List.length_map,sizeLine_eq];show 1+_<=_;omega),fun r hr'=>?_⟩
  have s3:=s2.trans (Same.new (o:=.lst ([V.str (rowI "web" [(n:Int)])]++(ties.map fun x=>rowI "tie" [x.1,x.2.1,x.2.2]).map V.str)) hr')
  have gr:(upd H2 r (.lst ([V.str (rowI "web" [(n:Int)])]++(ties.map fun x=>rowI "tie" [x.1,x.2.1,x.2.2]).map V.str))) r=some (.lst ((rowI "web" [(n:Int)] :: ties.map fun x=>rowI "tie" [x.1,x.2.1,x.2.2]).map V.str)):=upd_same
  generalize (upd H2 r (.lst ([V.str (rowI "web" [(n:Int)])]++(ties.map fun x=>rowI "tie" [x.1,x.2.1,x.2.2]).map V.str)))=H3 at s3 gr
  refine⟨rfl,_,rfl,rfl,(by show 1<=sizeLine;decide),fun q hq=>?_⟩
  have sq:=Same.new (o:=.lst [V.str (Str.ofString "posts")]) hq
  have gq:(upd H3 q (.lst [V.str (Str.ofString "posts")])) q=some (.lst [V.str (Str.ofString "posts")]):=upd_same
  have gr0:=sq _ _ gr
  have s3q:=s3.trans sq
  generalize (upd H3 q (.lst [V.str (Str.ofString "posts")]))=H3q at sq gq gr0 s3q
  have pl:=o.pl
  refine⟨_,rfl,l,rfl,⟨_,s3q.seq gl⟩,?_⟩
  refine comp_list (K:=K) (a:=l) (xs:=ps.map V.int) (fun i ys G=>Same H3q G/\ys=((ps.take i).map num).map V.str) (by rw[List.length_map,sizeLine_eq];lia) ⟨Same.refl _,rfl⟩ (fun i ys G _ z=>z.1.seq (s3q.seq gl)) ?_ ?_
  ·rintro i x ys G hx ⟨sm,rfl⟩
   obtain⟨il,e⟩:=List.getElem?_eq_some_iff.mp hx
   rw[List.length_map]at il
   rw[List.getElem_map]at e
   subst e
   have k:=o.post (List.getElem_mem il)
   refine⟨trivial,tTru_if ⟨_,rfl,_,rfl,log_le k.1 k.2,sm,?_⟩⟩
   rw[List.map_map,List.map_map]
   exact take_snoc (V.str ∘ num) ps il
  rintro ys G _ ⟨sm,rfl⟩ D hD
  rw[List.length_map,List.take_length]
  have sD:=Same.new (o:=.lst ((ps.map num).map V.str)) hD
  have gr2:=(sm.trans sD) _ _ gr0
  have gq2:=(sm.trans sD) _ _ gq
  have gD:(upd G D (.lst ((ps.map num).map V.str))) D=some (.lst ((ps.map num).map V.str)):=upd_same
  have s4:=s3q.trans (sm.trans sD)
  generalize (upd G D (.lst ((ps.map num).map V.str)))=H4 at s4 gr2 gq2 gD
  refine⟨q,D,_,_,rfl,rfl,gq2,gD,(by rw[List.length_map,List.length_map,sizeLine_eq];show 1+_<=_;lia),fun u hu=>?_⟩
  have ep:[V.str (Str.ofString "posts")]++(ps.map num).map V.str=(Str.ofString "posts" :: ps.map num).map V.str:=rfl
  rw[ep]
  have su:=Same.new (o:=.lst ((Str.ofString "posts" :: ps.map num).map V.str)) hu
  have gr3:=su _ _ gr2
  have s5:=s4.trans su
  have fits:((Str.ofString "posts" :: ps.map num).map fun p=>p.length).sum+(Str.ofString "posts" :: ps.map num).length * (Str.ofString " ").length<=16777216:=by
   have h:=sum_le (l:=(ps.map num).map fun p=>p.length) (B:=18) fun x hx=>by
    obtain⟨y,hy,rfl⟩:=List.mem_map.mp hx
    obtain⟨i,hi,rfl⟩:=List.mem_map.mp hy
    have k:=o.post hi
    exact num_le k.1 k.2
   rw[List.length_map,List.length_map]at h
   rw[List.map_cons,List.sum_cons,List.length_cons,List.length_map,show(Str.ofString " ").length=1 by decide +kernel,show(Str.ofString "posts").length=5 by decide +kernel]
   lia
  refine⟨_,u,Str.ofString "posts" :: ps.map num,rfl,rfl,SqL.of upd_same,fits,?_⟩
  rw[sg_bl,show Txt.join (sg 32) (Str.ofString "posts" :: ps.map num)=rowI "posts" ps from StrLaws.glued_eq_join _ _]
  generalize (upd H4 u (.lst ((Str.ofString "posts" :: ps.map num).map V.str)))=H5 at su gr3 s5
  refine⟨(by show 1<=sizeLine;decide),fun e he=>?_⟩
  have se:=Same.new (o:=.lst [V.str (rowI "posts" ps)]) he
  have ee:((rowI "web" [(n:Int)] :: ties.map fun x=>rowI "tie" [x.1,x.2.1,x.2.2]).map V.str++[V.str (rowI "posts" ps)])=(rowsI n ties ps).map V.str:=by
   unfold rowsI
   rw[List.map_append]
   rfl
  refine⟨r,e,_,_,rfl,rfl,se _ _ gr3,upd_same,(by rw[List.length_map,List.length_cons,List.length_map,sizeLine_eq];show _+1+1<=_;lia),fun g hg=>?_⟩
  rw[ee]
  have s6:=s5.trans (se.trans (Same.new (o:=.lst ((rowsI n ties ps).map V.str)) hg))
  refine⟨_,g,rowsI n ties ps,rfl,rfl,SqL.of upd_same,(by rw[sg_nl];exact o.fits),?_⟩
  rw[sg_nl,show Txt.join (sg 10) (rowsI n ties ps)=(sg 10).join (rowsI n ties ps)from StrLaws.glued_eq_join _ _]
  exact fin _ s6
end
end K74
namespace HT
open PySem PyProof.Rows
noncomputable def lexLe:List Int->List Int->Bool
 |[],[]=>true
 |[],_ :: _=>true
 | _ :: _,[]=>false
 |x :: xs,y :: ys=>if x=y then lexLe xs ys else decide (x<=y)
theorem lexLe_cons(x y:Int)(xs ys:List Int):lexLe (x :: xs) (y :: ys)=if x=y then lexLe xs ys else decide (x<=y):=rfl
theorem lexLe_nil_nil:lexLe [] []=true:=rfl
theorem lexLe_nil_cons(y:Int)(ys:List Int):lexLe [] (y :: ys)=true:=rfl
theorem lexLe_cons_nil(x:Int)(xs:List Int):lexLe (x :: xs) []=false:=rfl
theorem eqAt_int2(A:Around)(s:Shared)(a:Int)(t:Tok)(c:Int)(u:Tok):∃ e,SeqAt.EqAt A s (.int a t) (.int c u) e/\(e=true↔a=c) :=
 ⟨(a == c),SeqAt.EqAt.int_int a t c u,by simp⟩
theorem rcLe_int(A:Around)(s:Shared)(a:Int)(t:Tok)(c:Int)(u:Tok)(prog:Program)(w:World)(E:Value->Shared->Prop)(Q:Value->Shared->Prop)(h:Q (.bool (decide (a<=c))) s) :
  wpAny (model prog w) A (richCompare .LtE (.int a t) (.int c u)) Q E s :=
 (PyProof.Rows.le_int h:wpAny (model prog w) A (compareOp .LtE (.int a t) (.int c u)) Q E s)
section
open PySem.SeqAt
open PySem.AutoSeq1 (wpAny_loadPart')
open PySem.MeetsSeq PySem.MeetsSeq2 PySem.MeetsSeq3
theorem tuple_le_ints(l b:Addr)(items items2:Array Value)(n n2:Nat)(dd dd2:Option Addr)(sl sl2:Array (Option Value))(ns ms:List Int)(hi:IntsAre items.toList ns)(hj:IntsAre items2.toList ms) :
  Meets (Builtin.«tuple.__le__» ⟨[.ref l,.ref b],[]⟩)
   (fun _ R s=>s.heap.get? l=some { cls:=.type "tuple",dict:=dd,data:=.seq items n,slots:=sl }/\s.heap.get? b=some { cls:=.type "tuple",dict:=dd2,data:=.seq items2 n2,slots:=sl2 } /\
    R (.ok (.ret (.bool (lexLe ns ms)))) s) :=
 .of_wp fun prog w A R s h=>by
  obtain⟨hp,g,d,tk,os⟩:=s;obtain⟨hl,hb,h⟩:=h
  have f2:=AutoSeq1.sub_tuple_tuple
  have z1:items.size=ns.length:=by rw[<- hi.length];simp
  have z2:items2.size=ms.length:=by rw[<- hj.length];simp
  wp_walk using wpAny_loadPart' hl,wpAny_loadPart' hb,wpAny_forIn_list _ (fun rest b s'=>b.1=none/\s'=⟨hp,g,d,tk,os⟩/\∃ (vs ws:List Value) (ns' ms':List Int),rest=vs.zip ws /\
   IntsAre vs ns'/\IntsAre ws ms'/\ns'.length+items2.size=ms'.length+items.size/\R (.ok (.ret (.bool (lexLe ns' ms')))) ⟨hp,g,d,tk,os⟩) _
  case turn =>
   rintro⟨y,x⟩ rest b s' ⟨hb',rfl,vs,ws,ns',ms',hz,hvi,hwi,hlen,hR⟩
   cases hvi with
   |nil=>rw[List.zip_nil_left]at hz;cases hz
   |cons a t hvi' =>
    cases hwi with
    |nil=>rw[List.zip_nil_right]at hz;cases hz
    |cons c u hwi' =>
     rw[List.zip_cons_cons]at hz
     injection hz with hyx hrest
     injection hyx with hy hx
     subst hy hx
     rw[lexLe_cons]at hR
     simp only[List.length_cons]at hlen
     obtain⟨e,he,hiff⟩:=eqAt_int2 A.in1 ⟨hp,g,d,tk,os⟩ a t c u
     refine wpAny_bind (he prog w _ _ ?_)
     cases e with
     |true =>
      rw[if_pos (hiff.mp rfl)]at hR
      wp_walk
      exact⟨rfl,rfl,_,_,_,_,hrest,hvi',hwi',by omega,hR⟩
     |false =>
      rw[if_neg (fun q=>absurd (hiff.mpr q) Bool.false_ne_true)]at hR
      have hri:=rcLe_int A.in1 ⟨hp,g,d,tk,os⟩ a t c u prog w
      wp_walk using hri
      exact⟨_,rfl,by simpa using hR⟩
  case fin =>
   rintro⟨b1,b2⟩ s' ⟨hb',rfl,vs,ws,ns',ms',hz,hvi,hwi,hlen,hR⟩
   simp only at hb'
   subst hb'
   have hv:lexLe ns' ms'=decide (items.size<=items2.size):=by
    cases hvi with
    |nil =>
     cases hwi with
     |nil =>
      simp only[List.length_nil]at hlen
      rw[lexLe_nil_nil]
      exact(decide_eq_true (by omega)).symm
     |cons c u hw =>
      simp only[List.length_nil,List.length_cons]at hlen
      rw[lexLe_nil_cons]
      exact(decide_eq_true (by omega)).symm
    |cons a t hv =>
     cases hwi with
     |nil =>
      simp only[List.length_nil,List.length_cons]at hlen
      rw[lexLe_cons_nil]
      exact(decide_eq_false (by omega)).symm
     |cons c u hw =>
      rw[List.zip_cons_cons]at hz
      cases hz
   rw[hv]at hR
   wp_walk
   exact⟨_,rfl,by simpa[Builtin.Tuple.tupleCompareSizes]using hR⟩
  case h =>
   exact⟨rfl,rfl,items.toList,items2.toList,ns,ms,rfl,hi,hj,by omega,h⟩
end
section
variable{prog:Program}{w:World}{A:Around}{E:Value->Shared->Prop}{s:Shared}
theorem le_tupInts{l b:Addr}{items items2:Array Value}{ns ms:List Int}{Q:Value->Shared->Prop}(hl:IsTup s.heap l items)(hb:IsTup s.heap b items2)(hi:IntsAre items.toList ns)(hj:IntsAre items2.toList ms)
  (hu:A.units<cLine) (h:Q (.bool (lexLe ns ms)) s):wpAny (model prog w) A (compareOp .LtE (.ref l) (.ref b)) Q E s:=by
 obtain⟨⟨cls,dd,data,sl⟩,ho,hc,n,hd⟩:=id hl
 obtain⟨⟨cls2,dd2,data2,sl2⟩,ho2,hc2,n2,hd2⟩:=id hb
 simp only at hc hd hc2 hd2
 subst hc hd hc2 hd2
 exact richCompare_meets_room (op:=.LtE) ⟨_,ho,rfl⟩ ⟨_,ho2,rfl⟩ PySem.F.slot_tuple_le PySem.F.entry_tuple_le (PySem.F.args_tuple_le_2 _ _) (tuple_le_ints l b items items2 n n2 dd dd2 sl sl2 ns ms hi hj)
  ⟨ho,ho2,show Value.bool (lexLe ns ms)≠Value.notImplemented/\Q (.bool (lexLe ns ms)) s from⟨(fun x=>nomatch x),h⟩⟩ hu
end
end HT
namespace L2
open PySem PySem.W PyProof.Rows HT
noncomputable def rLeT(K:PySem.W.Frag):R2:=fun x y H Q=>∃ a b ns ms,x = .ref a/\y = .ref b/\SqT K H a (ns.map V.int)/\SqT K H b (ms.map V.int)/\Q (.bl (HT.lexLe ns ms)) H
theorem op_leT{X:Cx}(hu:X.A.units<cLine):OpR X (compareOp .LtE) (rLeT X.K):=by
 intro pins s σ H x y v u Q I rx ry h
 obtain⟨a,b,ns,ms,rfl,rfl,ha,hb,q⟩:=h
 cases rx
 cases ry
 obtain⟨its,r1,p1,_⟩:=I.tuple ha
 obtain⟨its2,r2,p2,_⟩:=I.tuple hb
 have i1:IntsAre its.toArray.toList ns:=intsAre_of r1
 have i2:IntsAre its2.toArray.toList ms:=intsAre_of r2
 exact HT.le_tupInts p1 p2 i1 i2 hu ⟨.bl (HT.lexLe ns ms),H,I,rfl,q⟩
noncomputable def tOrN(K:PySem.W.Frag)(ta tb:TE):TE:=fun σ H Q=>ta σ H fun x H1=>∃ k,TruV K x H1 k/\if k=true then Q x H1 else tb σ H1 Q
theorem pe_orN{X:Cx}{a b:Expr}{rest:List Expr}{ta tb:TE}{pos:Pos}(ha:PE X a ta)(hb:PE X (.BoolOp .Or (b :: rest) pos) tb):PE X (.BoolOp .Or (a :: b :: rest) pos) (tOrN X.K ta tb):=by
 intro pins s σ H Q I h
 refine BoolOp_or (thn (ha pins s σ H _ I h) fun v s1 ⟨x,H1,I1,r1,k,tk,q1⟩=>?_)
 refine thn (tru_ok pins s1 σ H1 x v (fun c H2=>c=k/\H2=H1) I1 r1 ⟨k,tk,rfl,rfl⟩) fun c s2 ⟨H2,I2,ec,eH⟩=>?_
 subst ec eH
 cases c with
 |false=>exact hb pins s2 σ H2 Q I2 (by simpa using q1)
 |true=>exact⟨x,H2,I2,r1,by simpa using q1⟩
end L2
namespace K74
open PySem L2 PyProof.Rows
theorem star_bop{op:BoolOp}{es:List Expr}{pos:Pos}{rest:List Expr}{env:Env}:starEach (.BoolOp op es pos :: rest) env=(false,eval (.BoolOp op es pos) env) :: starEach rest env:=rfl
theorem pa_bop{X:Cx}{op:BoolOp}{xs es:List Expr}{pos:Pos}{te:TE}{t:TA}(ha:PE X (.BoolOp op xs pos) te)(hr:PA X es t):PA X (.BoolOp op xs pos :: es) (tCons te t):=pa_cons ha hr (hs:=star_bop)
noncomputable def spWa:Sp:=fun vs H Q _=>∃ (p:Addr) (n:Nat) (ties:List Tie) (ps:List Int),vs=[.ref p]/\H p=some (.lst ((rowsI n ties ps).map V.str))/\TOk n ties ps/\ties.Pairwise tieLt/\ps.Pairwise (· < ·)/\2<=ps.length /\
 ∀ (r t l:Addr) (H':Hp),H' r=some (.tup [.ref t,.ref l,.int (((ties.length+1:Nat):Int)+1)])->WebAt H' t n ties->H l=none->H' l=some (.lst (ps.map V.int))->Same H H'->Q (.ref r) H'
theorem nil_of{k:List V->Hp->Prop}{σ:L2.St}{H:Hp}(h:k [] H):tNil σ H k:=h
noncomputable def restI(ties:List Tie)(ps:List Int):List Str:=ties.map (fun x=>rowI "tie" [x.1,x.2.1,x.2.2])++[rowI "posts" ps]
theorem rows_map(n:Nat)(ties:List Tie)(ps:List Int):(rowsI n ties ps).map V.str = .str (rowI "web" [(n:Int)]) :: (restI ties ps).map V.str:=rfl
theorem restI_length(ties:List Tie)(ps:List Int):(restI ties ps).length=ties.length+1:=by
 unfold restI
 rw[List.length_append,List.length_map]
 rfl
theorem nb_of{u:Str}{w:String}{ns:List Int}{H:Hp}{Q:VK}{E:XK}(h1:32∉(Str.ofString w).cps.toList)(h2:(Str.ofString w).length<=100)(h3:ns.length<=1000)(h4:∀ x∈ns,0<=x/\x<10 ^ 18)(q1:u≠Str.ofString w->∀ H',Same H H'->Q .non H')
  (q2:u=Str.ofString w->∀ (l:Addr) (H':Hp),H l=none->Same H H'->H' l=some (.lst (ns.map V.int))->Q (.ref l) H'):spNb [.str u,.str (rowI w ns)] H Q E:=by
 have e:(ns.map Int.toNat).map (fun m:Nat=>(m:Int))=ns:=by
  rw[List.map_map]
  exact(List.map_congr_left fun x hx=>by show((x.toNat:Nat):Int)=x;exact Int.toNat_of_nonneg (h4 x hx).1).trans (List.map_id ns)
 refine⟨u,Str.ofString w,ns.map Int.toNat,by rw[rowI_eq fun x hx=>(h4 x hx).1],h1,h2,by rw[List.length_map];exact h3,fun m hm=>?_,q1,fun z l H' hl s g=>q2 z l H' hl s (by rw[e]at g;exact g)⟩
 obtain⟨x,hx,rfl⟩:=List.mem_map.mp hm
 have:=h4 x hx
 omega
theorem le_false{x y:Tie}(h:tieLt x y):HT.lexLe [y.1,y.2.1] [x.1,x.2.1]=false:=by
 unfold tieLt Srt.lexlt Srt.lexlt Srt.lexlt at h
 simp only[Bool.or_eq_true,Bool.and_eq_true,decide_eq_true_eq,Bool.or_false,Bool.and_false]at h
 unfold HT.lexLe
 by_cases e:y.1=x.1
 ·rw[if_pos e]
  unfold HT.lexLe
  rw[if_neg (by omega)]
  exact decide_eq_false (by omega)
 ·rw[if_neg e]
  exact decide_eq_false (by omega)
theorem same_put{H G:Hp}{p:Addr}{o:HO}(s:Same H G)(h:H p=none):Same H (upd G p o):=fun b u e=>by
 rw[upd_ne (ne_of_none e h)]
 exact s b u e
theorem snoc_tie{H G:Hp}{ld tp p2:Addr}{as:List Addr}{ties:List Tie}{i:Nat}{rs:List V}(hld0:H ld=none)(sG:Same H G)(gr:G p2=some (.lst rs))(nld:p2≠ld)(gd:G ld=some (.lst (as.map V.ref))){lt:i<ties.length}(gt:G tp=some (.tup (tieV ties[i])))
  (pa:Paired (fun a x=>G a=some (.tup (tieV x))) as (ties.take i)) (lt':i<ties.length):Same H (upd G ld (.lst (as.map V.ref++[.ref tp])))/\i+1<=ties.length/\(upd G ld (.lst (as.map V.ref++[.ref tp]))) p2=some (.lst rs)/\(upd G ld (.lst (as.map V.ref++[.ref tp]))) ld=some (.lst ((as++[tp]).map V.ref))/\Paired (fun a x=>(upd G ld (.lst (as.map V.ref++[.ref tp]))) a=some (.tup (tieV x))) (as++[tp]) (ties.take (i+1)):=by
 have keep:∀ {a:Addr}{xs:List V},G a=some (.tup xs)->(upd G ld (.lst (as.map V.ref++[.ref tp]))) a=some (.tup xs):=fun {a xs} h=>by
  rw[upd_ne (fun z=>by rw[z,gd]at h;cases h)]
  exact h
 refine⟨same_put sG hld0,lt,by rw[upd_ne nld];exact gr,by rw[upd_same,List.map_append];rfl,?_⟩
 rw[List.take_succ_eq_append_getElem lt]
 exact Paired.snoc (Paired.mapP pa fun _ _ h=>keep h) (keep gt)
section
variable{P:Program}{w:World}{K:PySem.W.Frag}{mg:Str->Option Value}{base:Heap}
noncomputable abbrev nWa:List Str:=["rows","first","many","ties","at","row","posts","tie"]
theorem scWa:FnScope nWa ["rows"] (defScope sWebAhead):=⟨rfl,rfl,rfl,by decide +kernel,rfl,by decide +kernel,by decide +kernel⟩
theorem ok_wa{f g1 g2 g3:Addr}{fd d1 d2 d3:FuncData}(F:Fun K "web_ahead" "web_ahead" sWebAhead f fd)(T:Txt mg)(T2:Txt2 mg)(GN:CalF P w K mg base 2 "numbers_behind" ["word","row"] spNb g1 d1)(GP:CalF P w K mg base 2 "are_posts" ["many","numbers"] spAp g2 d2)(GT:CalF P w K mg base 3 "is_tie" ["thing","many"] spTi g3 d3):FnOk P w K mg base CX0 4 f fd ["rows"] spWa:=by
 refine F.ok scWa (fun vs H Q E h=>?_) (fun cdv A outer s H vs Q E hr h=>?_)
 ·obtain⟨p,n,ties,ps,rfl,_⟩:=h
  rfl
 ·obtain⟨p,n,ties,ps,rfl,gp,o,tlt,pup,pl2,fin⟩:=h
  have hr2:Room 2 _:=hr.mono (by decide)
  have hu0:_<cLine:=hr.units0
  refine⟨_,(pss_cons (ps_set (i:=1) scWa.nd rfl (Or.inl rfl) (pe_call GN.ok hr2 rfl GN.mg GN.kp GN.bd .nil pass0 (@pa_cst _ _ _ _ _ _ _ pe_str (@pa_sub _ _ _ _ _ _ _ (@pe_ix _ _ _ _ _ _ _ ix_listH (pv 0) pe_int (fun _ _=>rfl)) pa_nil))))
   (pss_cons (ps_if (PW.pt (pw_or (pt_cmp (pc_isN (pv 1))) (pw_or (pt_cmpR op_ne (pe_callB call_lenH (by rfl) T.len PySem.boot_len (@pa_nam _ _ _ _ _ _ (pv 1) pa_nil)) pe_int (nomark _)) (pw_or1 (pt_cmpR op_lt (@pe_ix _ _ _ _ _ _ _ ix_listH (pv 1) pe_int (fun _ _=>rfl)) pe_int (nomark _)))))) pss_never pss_nil)
   (pss_cons (ps_set (i:=2) scWa.nd rfl (Or.inl rfl) (@pe_ix _ _ _ _ _ _ _ ix_listH (pv 1) pe_int (fun _ _=>rfl)))
   (pss_cons (ps_set (i:=3) scWa.nd rfl (Or.inl rfl) (@pe_lst _ _ _ _ pa_nil))
   (pss_cons (ps_for PassesOwn.never rfl (pi_enum1 rfl T2.enum (@pa_sub _ _ _ _ _ _ _ (pe_slice sl_list (pv 0) (po_some pe_int) po_none) pa_nil)) (pg_tup (n:=2) rfl (pgs_cons (pg_name (i:=4) scWa.nd rfl (Or.inl rfl)) (pgs_cons (pg_name (i:=5) scWa.nd rfl (Or.inl rfl)) pgs_nil)))
   (pss_cons (ps_set (i:=6) scWa.nd rfl (Or.inl rfl) (pe_call GN.ok hr2 rfl GN.mg GN.kp GN.bd .nil pass0 (@pa_cst _ _ _ _ _ _ _ pe_str (@pa_nam _ _ _ _ _ _ (pv 5) pa_nil))))
   (pss_cons (ps_if (PW.pt (pw_and (pt_cmp (pc_notN (pv 6))) (pw_and1 (pt_val (pe_call GP.ok hr2 rfl GP.mg GP.kp GP.bd .nil pass0 (@pa_nam _ _ _ _ _ _ (pv 2) (@pa_nam _ _ _ _ _ _ (pv 6) pa_nil))))))) (pss_one (ps_ret (@pe_tup _ _ _ _ _ (@pa_tup _ _ _ _ _ _ _ (@pe_tup _ _ _ _ _ (@pa_nam _ _ _ _ _ _ (pv 2) (@pa_call _ _ _ _ _ _ _ _ (pe_callTy call_tupleH (by rfl) T.tuple boot_tuple (@pa_nam _ _ _ _ _ _ (pv 3) pa_nil)) pa_nil))) (@pa_nam _ _ _ _ _ _ (pv 6) (@pa_bin _ _ _ _ _ _ _ _ (pe_op op_add (pv 4) pe_int) pa_nil)))))) pss_nil)
   (pss_cons (ps_set (i:=7) scWa.nd rfl (Or.inl rfl) (pe_callTy call_tupleH (by rfl) T.tuple boot_tuple (@pa_bop _ _ _ _ _ _ _ (pe_orN (pe_call GN.ok hr2 rfl GN.mg GN.kp GN.bd .nil pass0 (@pa_cst _ _ _ _ _ _ _ pe_str (@pa_nam _ _ _ _ _ _ (pv 5) pa_nil))) (pe_one (@pe_lst _ _ _ _ pa_nil))) pa_nil)))
   (pss_cons (ps_if (PW.pt (pw_or (pt_not (pt_val (pe_call GT.ok hr rfl GT.mg GT.kp GT.bd .nil pass0 (@pa_nam _ _ _ _ _ _ (pv 7) (@pa_nam _ _ _ _ _ _ (pv 2) pa_nil))))) (pw_or1 (PW.pt (pw_and (pt_truth (pv 3) (fun _=>rfl)) (pw_and1 (pt_cmpR (op_leT hu0) (pe_slice sl_tupA (pv 7) po_none (po_some pe_int)) (pe_slice sl_tupA (@pe_ix _ _ _ _ _ _ _ ix_listH (pv 3) (pe_un un_neg pe_int) (fun _ _=>rfl)) po_none (po_some pe_int)) (nomark _)))))))) pss_never pss_nil)
   (pss_one (ps_expr (pe_bmH PySem.F.slot_list_append PySem.F.type_list_append mt_append (pv 3) (@pa_nam _ _ _ _ _ _ (pv 7) pa_nil)))))))))
   (pss_one ps_never)))))),?_⟩
  have n1:=o.n1
  have n2:=o.n2
  rw[rows_map]at gp
  refine⟨_,rfl,p,_,_,_,rfl,rfl,gp,at0,?_⟩
  refine nil_of (nb_of (by decide +kernel) (by decide) (by show 1<=1000;decide) (fun x hx=>by rw[List.mem_singleton.mp hx];omega) (fun z=>absurd rfl z) fun _ l0 H1 hl0 s1 gl0=>?_)
  have n0:(0:Int)<=n/\(n:Int)<10 ^ 18:=by omega
  refine⟨_,rfl,_,rfl,iteF ?_⟩
  have g0:H1 l0=some (.lst [.int (n:Int)]):=gl0
  refine⟨_,rfl,l0,_,rfl,g0,rfl,_,rfl,iteNS rfl ?_⟩
  refine⟨_,rfl,l0,_,_,_,rfl,rfl,g0,at0,_,_,rfl,rfl,_,rfl,?_⟩
  refine ite2 (fun z=>absurd (of_decide_eq_true z) (by omega)) (fun _=>?_)
  refine⟨_,rfl,l0,_,_,_,rfl,rfl,g0,at0,?_⟩
  refine⟨(by show 0<=sizeLine;decide),fun ld hld=>?_⟩
  have sl:=Same.new (o:=.lst []) hld
  have hld0:H ld=none:=s1.free hld
  have s2:=s1.trans sl
  have gd2:(upd H1 ld (.lst [])) ld=some (.lst (([]:List Addr).map V.ref)):=upd_same
  generalize (upd H1 ld (.lst []))=H2 at s2 gd2
  refine⟨_,rfl,1,rfl,p,_,rfl,SqL.of (s2 _ _ gp),fun p2 hp2=>?_⟩
  rw[cutV_tail,List.drop_one,List.tail_cons]
  have s3:=s2.trans (Same.new (o:=.lst ((restI ties ps).map V.str)) hp2)
  have gr3:(upd H2 p2 (.lst ((restI ties ps).map V.str))) p2=some (.lst ((restI ties ps).map V.str)):=upd_same
  have gd3:=(Same.new (o:=.lst ((restI ties ps).map V.str)) hp2) _ _ gd2
  generalize (upd H2 p2 (.lst ((restI ties ps).map V.str)))=H3 at s3 gr3 gd3
  have nld:p2≠ld:=fun z=>by
   rw[z,gd3]at gr3
   injection gr3 with e
   injection e with e
   have e:=congrArg List.length e
   rw[List.length_map,List.length_map,restI_length]at e
   cases e
  clear gd2 s2 hp2 s1 g0 gl0 hl0 sl hld
  have rl:=restI_length ties ps
  have tl:=o.tl
  refine⟨p2,rfl,⟨_,SqL.of gr3⟩,?_⟩
  refine for_enum1 (K:=K) (l:=p2) (xs:=(restI ties ps).map V.str) (fun i σ G=>∃ (v4 v5 v6 v7:Option V) (as:List Addr),σ=[some (.ref p),some (.ref l0),some (.int n),some (.ref ld),v4,v5,v6,v7]/\Same H G/\i<=ties.length/\G p2=some (.lst ((restI ties ps).map V.str))/\G ld=some (.lst (as.map V.ref))/\Paired (fun a x=>G a=some (.tup (tieV x))) as (ties.take i))
   ⟨_,_,_,_,[],rfl,s3,Nat.zero_le _,gr3,gd3,.nil⟩ (fun i σ G _ ⟨_,_,_,_,_,_,_,_,g,_⟩=>SqL.of g) ?_ ?_
  ·rintro i x σ G U hx ⟨v4,v5,v6,v7,as,rfl,sG,il,gr,gd,pa⟩ hU
   have asl:as.length=i:=by rw[pa.length,List.length_take];omega
   have sU:=Same.new (o:=.tup [.int ((i+1:Nat):Int),x]) hU
   refine⟨U,_,rfl,SqT.of upd_same,rfl,_,_,rfl,_,_,rfl,rfl,?_⟩
   have sG:=sG.trans sU
   have gr:=sU _ _ gr
   have gd:=sU _ _ gd
   have pa:Paired (fun a y=>(upd G U (.tup [.int ((i+1:Nat):Int),x])) a=some (HO.tup (tieV y))) as (ties.take i):=Paired.mapP pa fun _ _ h=>sU _ _ h
   generalize (upd G U (.tup [.int ((i+1:Nat):Int),x]))=G at sG gr gd pa
   clear sU hU
   obtain⟨jl,ex⟩:=List.getElem?_eq_some_iff.mp hx
   rw[List.getElem_map]at ex
   subst ex
   by_cases lt:i<ties.length
   ·have ei:(restI ties ps)[i]'(by rw[rl];omega)=rowI "tie" [ties[i].1,ties[i].2.1,ties[i].2.2]:=by
     unfold restI
     rw[List.getElem_append_left (by rw[List.length_map];exact lt),List.getElem_map]
    have hm:ties[i]∈ties:=List.getElem_mem lt
    have tk:=o.tie hm
    obtain⟨t1,t2,t3,t4,t5⟩:=o.ok _ hm
    rw[ei]
    refine⟨_,rfl,nil_of (nb_of (u:=Str.ofString "posts") (w:="tie") (by decide +kernel) (by decide) (by show 3<=1000;decide) tk (fun _ H4 s4=>?_) (fun z=>absurd z (by decide +kernel)))⟩
    refine⟨_,rfl,_,rfl,iteF (iteF ?_)⟩
    refine⟨_,rfl,nil_of (nb_of (u:=Str.ofString "tie") (w:="tie") (by decide +kernel) (by decide) (by show 3<=1000;decide) tk (fun z=>absurd rfl z) (fun _ l1 H5 hl1 s5 gl1=>?_))⟩
    refine⟨true,Or.inl ⟨_,SqL.of gl1,rfl⟩,?_⟩
    rw[if_pos rfl]
    refine⟨l1,_,rfl,gl1,fun tp htp=>?_⟩
    have s6:=s4.trans (s5.trans (Same.new (o:=.tup ([ties[i].1,ties[i].2.1,ties[i].2.2].map V.int)) htp))
    have gt:(upd H5 tp (.tup ([ties[i].1,ties[i].2.1,ties[i].2.2].map V.int))) tp=some (.tup [.int ties[i].1,.int ties[i].2.1,.int ties[i].2.2]):=upd_same
    generalize (upd H5 tp (.tup ([ties[i].1,ties[i].2.1,ties[i].2.2].map V.int)))=H6 at s6 gt
    clear gl1 hl1 htp s4 s5
    refine⟨_,rfl,_,rfl,tp,ties[i].1,ties[i].2.1,ties[i].2.2,(n:Int),rfl,gt,t1,t2,t3,t4,fun H7 s7=>⟨_,rfl,iteF ?_⟩⟩
    have s8:=s6.trans s7
    have gt7:=s7 _ _ gt
    have gd7:=s8 _ _ gd
    have gr7:=s8 _ _ gr
    have pa7:Paired (fun a x=>H7 a=some (.tup (tieV x))) as (ties.take i):=Paired.mapP pa fun _ _ h=>s8 _ _ h
    have sG7:=sG.trans s8
    clear gt gd gr pa s6 s7 s8 sG
    have len:(as.map V.ref).length+1<=sizeLine:=by rw[List.length_map,sizeLine_eq];omega
    by_cases z:i=0
    ·have e0:as=[]:=List.length_eq_zero_iff.mp (asl.trans z)
     refine⟨_,rfl,false,.inl ⟨_,SqL.of gd7,by rw[e0];rfl⟩,iteF (iteF ?_)⟩
     refine⟨_,rfl,⟨ld,_,rfl,gd7⟩,_,rfl,ld,_,_,rfl,rfl,gd7,len,?_⟩
     exact⟨_,_,_,_,_,rfl,snoc_tie hld0 sG7 gr7 nld gd7 gt7 pa7 lt⟩
    ·have al:0<as.length:=by omega
     have e1:(!(as.map V.ref).isEmpty)=true:=by cases as with | nil=>cases al | cons a b=>rfl
     refine⟨_,rfl,true,.inl ⟨_,SqL.of gd7,e1.symm⟩,iteT ?_⟩
     refine⟨_,rfl,2,rfl,tp,_,rfl,gt7,fun c1 H8 s8 gc1=>?_⟩
     refine⟨_,rfl,_,rfl,ld,_,_,_,rfl,rfl,s8 _ _ gd7,at_last (by rw[List.length_map];exact al),?_⟩
     rw[List.getElem_map]
     have j1:(as.map V.ref).length-1<as.length:=by rw[List.length_map];omega
     have j2:(as.map V.ref).length-1 <(ties.take i).length:=by rw[List.length_take,List.length_map];omega
     have gl:=s8 _ _ (Paired.at pa7 _ j1 j2)
     refine⟨2,rfl,as[(as.map V.ref).length-1],_,rfl,gl,fun c2 H9 s9 gc2=>?_⟩
     rw[List.getElem_take]at gc2
     have j3:(as.map V.ref).length-1<ties.length:=by rw[List.length_map];omega
     refine⟨c1,c2,[ties[i].1,ties[i].2.1],[(ties[(as.map V.ref).length-1]).1,(ties[(as.map V.ref).length-1]).2.1],rfl,rfl,SqT.of (s9 _ _ gc1),SqT.of gc2,?_⟩
     refine⟨_,rfl,?_⟩
     rw[le_false (List.pairwise_iff_getElem.mp tlt _ _ j3 lt (by rw[List.length_map];omega))]
     refine iteF ?_
     have s89:=s8.trans s9
     have gd9:=s89 _ _ gd7
     refine⟨_,rfl,⟨ld,_,rfl,gd9⟩,_,rfl,ld,_,_,rfl,rfl,gd9,len,?_⟩
     exact⟨_,_,_,_,_,rfl,snoc_tie hld0 (sG7.trans s89) (s89 _ _ gr7) nld gd9 (s89 _ _ gt7) (Paired.mapP pa7 fun _ _ h=>s89 _ _ h) lt⟩
   ·have ei:(restI ties ps)[i]'(by rw[rl];omega)=rowI "posts" ps:=by
     unfold restI
     rw[List.getElem_append_right (by rw[List.length_map];omega)]
     simp
    have ei2:i=ties.length:=by omega
    subst ei2
    have pk:∀ x∈ps,0<=x/\x<10 ^ 18:=fun x hx=>o.post hx
    have pl:=o.pl
    rw[ei]
    refine⟨_,rfl,nil_of (nb_of (u:=Str.ofString "posts") (w:="posts") (by decide +kernel) (by decide) (by omega) pk (fun z=>absurd rfl z) (fun _ l1 H4 hl1 s4 gl1=>?_))⟩
    have hl1':H l1=none:=sG.free hl1
    refine⟨_,rfl,_,rfl,iteT ?_⟩
    refine⟨_,rfl,_,rfl,l1,ps,(n:Int),rfl,gl1,by omega,pl2,pup,fun x hx=>(o.pr x hx).2,fun H5 s5=>⟨_,rfl,iteT ?_⟩⟩
    have s45:=s4.trans s5
    rw[List.take_length]at pa
    refine⟨_,rfl,_,rfl,ld,_,rfl,s45 _ _ gd,fun tt htt=>?_⟩
    have st:=Same.new (o:=.tup (as.map V.ref)) htt
    have gtt:(upd H5 tt (.tup (as.map V.ref))) tt=some (.tup (as.map V.ref)):=upd_same
    generalize (upd H5 tt (.tup (as.map V.ref)))=H6 at st gtt
    refine⟨(by show 2<=sizeLine;decide),fun tw htw=>?_⟩
    have sw:=Same.new (o:=.tup [.int (n:Int),.ref tt]) htw
    have gtw:(upd H6 tw (.tup [.int (n:Int),.ref tt])) tw=some (.tup [.int (n:Int),.ref tt]):=upd_same
    generalize (upd H6 tw (.tup [.int (n:Int),.ref tt]))=H7 at sw gtw
    refine⟨_,rfl,_,rfl,_,_,rfl,rfl,(by show 3<=sizeLine;decide),fun r hr'=>?_⟩
    have s47:=s45.trans (st.trans sw)
    have sr:=Same.new (o:=.tup [.ref tw,.ref l1,.int (((ties.length+1:Nat):Int)+1)]) hr'
    refine fin r tw l1 _ upd_same ⟨⟨tt,as,sr _ _ gtw,sr _ _ (sw _ _ gtt),Paired.mapP pa fun _ _ h=>sr _ _ (s47 _ _ h)⟩,tl⟩ hl1' (sr _ _ (sw _ _ (st _ _ (s5 _ _ gl1)))) (sG.trans (s47.trans sr))
  ·rintro σ G ⟨v4,v5,v6,v7,as,rfl,sG,il,gr,gd,pa⟩
   rw[List.length_map,rl]at il
   omega
end
open PySem L2 PyProof.Rows
noncomputable def spWP:Sp:=fun vs H Q _=>∃ (p:Addr) (N:Nat),vs=[.ref p]/\BoxAt H p N/\N+2000<2 ^ 40 /\
 ∀ (r t l:Addr) (n:Nat) (ties:List Tie) (ps:List Int) (H':Hp),H r=none->H' r=some (.tup [.ref t,.ref l])->2<=n->n<=30->WebAt H' t n ties->(∀ x∈ties,TieOk n x)->ties.Pairwise tieLt->H' l=some (.lst (ps.map V.int))->l≠p->PostOk n ps->2<=ps.length->BoxAt H' p (N+1500)->Kept p H H'->Q (.ref r) H'
section
variable{P:Program}{w:World}{K:PySem.W.Frag}{mg:Str->Option Value}{base:Heap}
noncomputable abbrev nWP:List Str:=["_law_box_here","_law_web_here"]
theorem scWP:FnScope nWP ["_law_box_here"] (defScope sWithPosts):=⟨rfl,rfl,rfl,by decide +kernel,rfl,by decide +kernel,by decide +kernel⟩
theorem ok_wp{f g1 g2 g3:Addr}{fd d1 d2 d3:FuncData}(F:Fun K "_law_with_posts" "_law_with_posts" sWithPosts f fd)(GM:CalF P w K mg base 2 "_law_many" ["_law_box_here","_law_least","_law_few","_law_most"] spMany g1 d1)(GW:CalF P w K mg base 3 "_law_web" ["_law_box_here","_law_many_here"] spWeb g2 d2)(GP:CalF P w K mg base 2 "_law_posts" ["_law_box_here","_law_many_here","_law_most"] spPo g3 d3):FnOk P w K mg base CX0 4 f fd ["_law_box_here"] spWP:=by
 refine F.ok scWP (fun vs H Q E h=>?_) (fun cdv A outer s H vs Q E hr h=>?_)
 ·obtain⟨p,N,rfl,_⟩:=h
  rfl
 ·obtain⟨p,N,rfl,B,hN,q⟩:=h
  have hr2:Room 2 _:=hr.mono (by decide)
  refine⟨_,pss_cons (ps_set (i:=1) scWP.nd rfl (Or.inl rfl) (pe_call GW.ok hr rfl GW.mg GW.kp GW.bd .nil pass0 (@pa_nam _ _ _ _ _ _ (pv 0) (@pa_call _ _ _ _ _ _ _ _ (pe_call GM.ok hr2 rfl GM.mg GM.kp GM.bd .nil pass0 (@pa_nam _ _ _ _ _ _ (pv 0) (@pa_cst _ _ _ _ _ _ _ pe_int (@pa_cst _ _ _ _ _ _ _ pe_int (@pa_cst _ _ _ _ _ _ _ pe_int pa_nil))))) pa_nil))))
   (pss_one (ps_ret (@pe_tup _ _ _ _ _ (@pa_nam _ _ _ _ _ _ (pv 1) (@pa_call _ _ _ _ _ _ _ _ (pe_call GP.ok hr2 rfl GP.mg GP.kp GP.bd .nil pass0 (@pa_nam _ _ _ _ _ _ (pv 0) (@pa_sub _ _ _ _ _ _ _ (@pe_ix _ _ _ _ _ _ _ ix_tup (pv 1) pe_int (fun _ _=>rfl)) (@pa_cst _ _ _ _ _ _ _ pe_int pa_nil)))) pa_nil))))),?_⟩
  refine⟨_,rfl,_,rfl,p,2,7,30,N,rfl,B,by omega,by decide,by decide,by decide,by decide,fun z H2 hz B2 k2=>?_⟩
  obtain⟨n,rfl⟩:∃ n:Nat,z=(n:Int):=⟨z.toNat,by omega⟩
  refine⟨p,n,_,rfl,B2,by omega,by omega,by omega,fun t ties H3 ht W3 ok pw B3 k3=>?_⟩
  obtain⟨⟨ts,tas,h1,h2,h3⟩,len⟩:=id W3
  refine⟨_,rfl,_,rfl,_,rfl,t,_,_,_,rfl,rfl,SqT.of h1,rfl,?_⟩
  refine⟨p,n,_,6,rfl,B3,by omega,by omega,by omega,by decide,by decide,fun l ps H4 hl gl lp po pl2 plm B4 k4=>?_⟩
  refine⟨(by show 2<=sizeLine;decide),fun r hr=>?_⟩
  have sr:=Same.new (o:=.tup [.ref t,.ref l]) hr
  exact q r t l n ties ps _ ((k2.trans (k3.trans k4)).free B4 hr) upd_same (by omega) (by omega) ((W3.kept B3 k4).same sr) ok pw (sr _ _ gl) lp po pl2 ((B4.same sr).mono (by omega)) (k2.trans (k3.trans (k4.trans (fun b o _ e=>sr b o e))))
end
open PySem L2 PyProof.Rows
noncomputable def webD(n:Nat)(ties:List Tie):Dt:=.tup [.int n,.tup (ties.map fun x=>.tup [.int x.1,.int x.2.1,.int x.2.2])]
theorem web_dat{H:Hp}{t:Addr}{n:Nat}{ties:List Tie}(W:WebAt H t n ties):Dat H 3 (.ref t) (webD n ties):=by
 obtain⟨⟨ts,as,h1,h2,h3⟩,len⟩:=W
 have hl:as.length=ties.length:=h3.length
 refine⟨t,_,rfl,(by show 2<=1000;decide),h1,.cons rfl (.cons ⟨ts,_,rfl,by rw[List.length_map];omega,h2,?_⟩ .nil)⟩
 clear h1 h2 hl len
 induction h3 with
 |nil=>exact .nil
 |cons r _ ih=>exact .cons ⟨_,_,rfl,(by show 3<=1000;decide),r,.cons rfl (.cons rfl (.cons rfl .nil))⟩ ih
structure TX(n:Nat)(ties:List Tie)(ps:List Int):Prop where
 ok:TOk n ties ps
 tl:ties.Pairwise tieLt
 pu:ps.Pairwise (· < ·)
 p2:2<=ps.length
noncomputable def spWf:Sp:=fun vs H Q _=>∃ (n:Nat) (ties:List Tie) (ps:List Int),vs=[.str (txtI n ties ps)]/\TX n ties ps /\
 ∀ (r t l:Addr) (H':Hp),H' r=some (.tup [.ref t,.ref l])->WebAt H' t n ties->H l=none->H' l=some (.lst (ps.map V.int))->Same H H'->Q (.ref r) H'
theorem row_no10{w:String}{ns:List Int}(hw:10∉(Str.ofString w).cps.toList)(h:∀ x∈ns,0<=x):10∉(rowI w ns).cps.toList:=by
 intro hc
 unfold rowI at hc
 rw[join_jn]at hc
 have aux:∀ {ps:List (List Nat)},(∀ p∈ps,10∉p)->10∉jn 32 ps:=by
  intro ps
  induction ps with
  |nil=>intro _ h;cases h
  |cons a r ih =>
   intro hp
   cases r with
   |nil=>exact hp a List.mem_cons_self
   |cons b r =>
    intro hc
    have hc:10∈a++32 :: jn 32 (b :: r):=hc
    rcases List.mem_append.mp hc with z | z
    ·exact hp a List.mem_cons_self z
    ·rcases List.mem_cons.mp z with z | z
     ·cases z
     ·exact ih (fun p hp'=>hp p (List.mem_cons_of_mem _ hp')) z
 refine aux (fun p hp=>?_) hc
 obtain⟨q,hq,rfl⟩:=List.mem_map.mp hp
 rcases List.mem_cons.mp hq with z | z
 ·rw[z];exact hw
 ·obtain⟨x,hx,rfl⟩:=List.mem_map.mp z
  intro hc
  obtain⟨m,rfl⟩:=Int.eq_ofNat_of_zero_le (h x hx)
  have:=num_digits m _ hc
  omega
theorem TOk.split{n:Nat}{ties:List Tie}{ps:List Int}(o:TOk n ties ps):Txt.split (txtI n ties ps) (Str.ofString "\n")=rowsI n ties ps:=by
 rw[sg_nl]
 unfold txtI
 refine split_join (fun z=>by have:=congrArg List.length z;rw[rowsI_length]at this;cases this) fun r hr=>?_
 unfold rowsI at hr
 rcases List.mem_append.mp hr with h | h
 ·rcases List.mem_cons.mp h with h | h
  ·rw[h]
   exact row_no10 (by decide +kernel) fun x hx=>by rw[List.mem_singleton.mp hx];omega
  ·obtain⟨x,hx,rfl⟩:=List.mem_map.mp h
   exact row_no10 (by decide +kernel) fun y hy=>(o.tie hx y hy).1
 ·rw[List.mem_singleton.mp h]
  exact row_no10 (by decide +kernel) fun x hx=>(o.post hx).1
theorem TOk.txt_len{n:Nat}{ties:List Tie}{ps:List Int}(o:TOk n ties ps):(txtI n ties ps).length<=10000000:=by
 have h:=sum_le (l:=(rowsI n ties ps).map fun p=>p.length) (B:=20000) fun x hx=>by
  obtain⟨r,hr,rfl⟩:=List.mem_map.mp hx
  exact o.rows r hr
 rw[List.length_map,rowsI_length]at h
 have e:txtI n ties ps=(sg 10).join (rowI "web" [(n:Int)] :: restI ties ps):=rfl
 have e2:rowsI n ties ps=rowI "web" [(n:Int)] :: restI ties ps:=rfl
 have l2:=restI_length ties ps
 have tl:=o.tl
 rw[e2]at h
 rw[e,PyProof.Rows.len_join_cons,l2]
 have:(sg 10).length=1:=rfl
 rw[this]
 omega
section
variable{P:Program}{w:World}{K:PySem.W.Frag}{mg:Str->Option Value}{base:Heap}
noncomputable abbrev nWf:List Str:=["text","rows","web","posts","used"]
theorem scWf:FnScope nWf ["text"] (defScope sWebFrom):=⟨rfl,rfl,rfl,by decide +kernel,rfl,by decide +kernel,by decide +kernel⟩
theorem ok_wf{f g1:Addr}{fd d1:FuncData}(F:Fun K "web_from" "web_from" sWebFrom f fd)(T:Txt mg)(GA:CalF P w K mg base 4 "web_ahead" ["rows"] spWa g1 d1):FnOk P w K mg base CX0 5 f fd ["text"] spWf:=by
 refine F.ok scWf (fun vs H Q E h=>?_) (fun cdv A outer s H vs Q E hr h=>?_)
 ·obtain⟨n,ties,ps,rfl,_⟩:=h
  rfl
 ·obtain⟨n,ties,ps,rfl,o,fin⟩:=h
  refine⟨_,(pss_cons (ps_set (i:=1) scWf.nd rfl (Or.inl rfl) (pe_bm PySem.F.plainAttrs_str PySem.F.slot_str_split PySem.F.type_str_split mt_split (pv 0) (@pa_cst _ _ _ _ _ _ _ pe_str pa_nil)))
   (pss_cons (ps_asg (pe_call GA.ok hr rfl GA.mg GA.kp GA.bd .nil pass0 (@pa_nam _ _ _ _ _ _ (pv 1) pa_nil)) (pg_tup (n:=3) rfl (pgs_cons (pg_name (i:=2) scWf.nd rfl (Or.inl rfl)) (pgs_cons (pg_name (i:=3) scWf.nd rfl (Or.inl rfl)) (pgs_cons (pg_name (i:=4) scWf.nd rfl (Or.inl rfl)) pgs_nil)))))
   (pss_cons (ps_if (pt_cmpR op_lt (pv 4) (pe_callB call_lenH (by rfl) T.len PySem.boot_len (@pa_nam _ _ _ _ _ _ (pv 1) pa_nil)) (nomark _)) pss_never pss_nil)
   (pss_one (ps_ret (@pe_tup _ _ _ _ _ (@pa_nam _ _ _ _ _ _ (pv 2) (@pa_nam _ _ _ _ _ _ (pv 3) pa_nil)))))))),?_⟩
  refine⟨_,rfl,rfl,_,_,rfl,rfl,(by decide),?_⟩
  have tl:=o.ok.txt_len
  refine⟨by rw[sizeLine_eq];lia,fun p hp=>?_⟩
  rw[o.ok.split]
  have s1:=Same.new (o:=.lst ((rowsI n ties ps).map V.str)) hp
  have gp:(upd H p (.lst ((rowsI n ties ps).map V.str))) p=some (.lst ((rowsI n ties ps).map V.str)):=upd_same
  generalize (upd H p (.lst ((rowsI n ties ps).map V.str)))=H1 at s1 gp
  refine⟨_,rfl,p,n,ties,ps,rfl,gp,o.ok,o.tl,o.pu,o.p2,fun r t l H2 gr W hl gl s2=>?_⟩
  refine⟨r,_,rfl,SqT.of gr,rfl,_,_,rfl,_,_,rfl,_,_,rfl,rfl,?_⟩
  refine⟨_,rfl,_,rfl,p,_,rfl,s2 _ _ gp,_,_,rfl,rfl,_,rfl,?_⟩
  rw[decide_eq_false (by rw[List.length_map,rowsI_length];lia)]
  refine iteF ?_
  refine⟨_,rfl,_,rfl,(by show 2<=sizeLine;decide),fun q hq=>?_⟩
  have sq:=Same.new (o:=.tup [.ref t,.ref l]) hq
  exact fin q t l _ upd_same (W.same sq) (s1.free hl) (sq _ _ gl) (s1.trans (s2.trans sq))
noncomputable def spRi:Sp:=fun vs H Q _=>∃ (t l:Addr) (n:Nat) (ties:List Tie) (ps:List Int),vs=[.ref t,.ref l]/\WebAt H t n ties/\H l=some (.lst (ps.map V.int))/\TX n ties ps/\∀ H',Same H H'->Q (.bl true) H'
noncomputable abbrev nRi:List Str:=["_law_web_here","_law_posts_here","_law_due","_law_handed","_law_turn","_law_found"]
theorem scRi:FnScope nRi ["_law_web_here","_law_posts_here"] (defScope sRight):=⟨rfl,rfl,rfl,by decide +kernel,rfl,by decide +kernel,by decide +kernel⟩
theorem ok_ri{f g1 g2 g3 g4:Addr}{fd d1 d2 d3 d4:FuncData}(F:Fun K "_law_right" "_law_right" sRight f fd)(T:Txt mg)(GL:CalF P w K mg base 1 "_law_text" ["_law_web_here","_law_posts_here"] (spLt K) g1 d1)(GT:CalF P w K mg base 1 "web_text" ["web","posts"] (spWt K) g2 d2)(GS:CalF P w K mg base 5 "_law_same" ["_law_found","_law_due"] (spSame 4) g3 d3)(GF:CalF P w K mg base 5 "web_from" ["text"] spWf g4 d4):FnOk P w K mg base CX0 6 f fd ["_law_web_here","_law_posts_here"] spRi:=by
 refine F.ok scRi (fun vs H Q E h=>?_) (fun cdv A outer s H vs Q E hr h=>?_)
 ·obtain⟨t,l,n,ties,ps,rfl,_⟩:=h
  rfl
 ·obtain⟨t,l,n,ties,ps,rfl,W,gl,o,fin⟩:=h
  have hr1:Room 1 _:=hr.mono (by decide)
  have hu64:=hr.units
  refine⟨_,(pss_cons (ps_set (i:=2) scRi.nd rfl (Or.inl rfl) (pe_call GL.ok hr1 rfl GL.mg GL.kp GL.bd .nil pass0 (@pa_nam _ _ _ _ _ _ (pv 0) (@pa_nam _ _ _ _ _ _ (pv 1) pa_nil))))
   (pss_cons (ps_set (i:=3) scRi.nd rfl (Or.inl rfl) (pe_callTy (call_listH false) (by rfl) T.list boot_list (@pa_nam _ _ _ _ _ _ (pv 1) pa_nil)))
   (pss_cons (ps_for PassesOwn.never rfl (pi_range1 rfl T.range (@pa_cst _ _ _ _ _ _ _ pe_int pa_nil)) (pg_name (i:=4) scRi.nd rfl (Or.inl rfl))
   (pss_cons (ps_if (PW.pt (pw_or (pt_not (pt_val (pe_call GS.ok hr rfl GS.mg GS.kp GS.bd .nil pass0 (@pa_call _ _ _ _ _ _ _ _ (pe_call GT.ok hr1 rfl GT.mg GT.kp GT.bd .nil pass0 (@pa_nam _ _ _ _ _ _ (pv 0) (@pa_nam _ _ _ _ _ _ (pv 3) pa_nil))) (@pa_nam _ _ _ _ _ _ (pv 2) pa_nil))))) (pw_or (pt_cmpR (op_neS hu64) (pv 3) (pv 1) (nomark _)) (pw_or1 (pt_cmpR op_ne (pe_call GT.ok hr1 rfl GT.mg GT.kp GT.bd .nil pass0 (@pa_nam _ _ _ _ _ _ (pv 0) (@pa_call _ _ _ _ _ _ _ _ (pe_callTy call_tupleH (by rfl) T.tuple boot_tuple (@pa_nam _ _ _ _ _ _ (pv 1) pa_nil)) pa_nil))) (pv 2) (nomark _)))))) pss_never pss_nil)
   (pss_cons (ps_set (i:=5) scRi.nd rfl (Or.inl rfl) (pe_call GF.ok hr rfl GF.mg GF.kp GF.bd .nil pass0 (@pa_nam _ _ _ _ _ _ (pv 2) pa_nil)))
   (pss_cons (ps_if (pt_not (pt_val (pe_call GS.ok hr rfl GS.mg GS.kp GS.bd .nil pass0 (@pa_nam _ _ _ _ _ _ (pv 5) (@pa_tup _ _ _ _ _ _ _ (@pe_tup _ _ _ _ _ (@pa_nam _ _ _ _ _ _ (pv 0) (@pa_nam _ _ _ _ _ _ (pv 1) pa_nil))) pa_nil))))) pss_never pss_nil)
   (pss_one (ps_expr (pe_bmH PySem.F.slot_list_append PySem.F.type_list_append mt_append (@pe_ix _ _ _ _ _ _ _ ix_tupH (pv 5) pe_int (fun _ _=>rfl)) (@pa_cst _ _ _ _ _ _ _ pe_int pa_nil))))))))
   (pss_one (ps_ret pe_bl))))),?_⟩
  have pl:=o.ok.pl
  refine⟨_,rfl,_,rfl,t,l,n,ties,ps,rfl,W,SqL.of gl,o.ok,fun H1 s1=>?_⟩
  refine⟨_,rfl,l,_,rfl,s1 _ _ gl,fun ha hha=>?_⟩
  have sh:=Same.new (o:=.lst (ps.map V.int)) hha
  have gh:(upd H1 ha (.lst (ps.map V.int))) ha=some (.lst (ps.map V.int)):=upd_same
  have s2:=s1.trans sh
  generalize (upd H1 ha (.lst (ps.map V.int)))=H2 at s2 gh
  clear sh hha
  refine⟨_,rfl,(by decide),(by decide),?_⟩
  refine for_range (lo:=0) (n:=2) (fun i σ G=>∃ v4 v5,σ=[some (.ref t),some (.ref l),some (.str (txtI n ties ps)),some (.ref ha),v4,v5]/\Same H2 G) ⟨_,_,rfl,Same.refl _⟩ ?_ ?_
  ·rintro i σ G hi ⟨v4,v5,rfl,sG⟩
   have dl:∀ {G':Hp},Same H2 G'->Dat G' 3 (.ref l) (.lst (ps.map Dt.int)):=fun z=>dat_ints 2 ((s2.trans z) _ _ gl) (by lia)
   have dh:∀ {G':Hp},Same H2 G'->Dat G' 3 (.ref ha) (.lst (ps.map Dt.int)):=fun z=>dat_ints 2 (z _ _ gh) (by lia)
   refine⟨_,rfl,_,rfl,false,t,ha,n,ties,ps,rfl,W.same (s2.trans sG),SqL.of (sG _ _ gh),o.ok,fun G1 t1=>?_⟩
   refine⟨_,rfl,_,_,.str (txtI n ties ps),rfl,rfl,rfl,fun G2 t2=>⟨_,rfl,iteF ?_⟩⟩
   have s3:=sG.trans (t1.trans t2)
   refine⟨_,rfl,_,rfl,2,_,dh s3,dl s3,rfl,by decide,_,rfl,iteF ?_⟩
   refine⟨_,rfl,_,rfl,l,_,rfl,(s2.trans s3) _ _ gl,fun tu htu=>?_⟩
   have st:=Same.new (o:=.tup (ps.map V.int)) htu
   refine⟨true,t,tu,n,ties,ps,rfl,W.same (s2.trans (s3.trans st)),SqT.of upd_same,o.ok,fun G3 t3=>?_⟩
   refine⟨_,rfl,rfl,_,rfl,iteNS rfl ?_⟩
   have s4:=s3.trans (st.trans t3)
   refine⟨_,rfl,n,ties,ps,rfl,o,fun r tw lw G4 gr4 W4 hlw gl4 t4=>?_⟩
   have s5:=s4.trans t4
   have hlw2:H2 lw=none:=s4.free hlw
   refine⟨_,rfl,_,rfl,_,rfl,(by show 2<=sizeLine;decide),fun u hu=>?_⟩
   have su:=Same.new (o:=.tup [.ref t,.ref l]) hu
   have s6:=s5.trans su
   refine⟨_,_,.tup [webD n ties,.lst (ps.map Dt.int)],rfl,⟨r,_,rfl,(by show 2<=1000;decide),su _ _ gr4,.cons (web_dat (W4.same su)) (.cons (dat_ints 2 (su _ _ gl4) (by lia)) .nil)⟩,⟨u,_,rfl,(by show 2<=1000;decide),upd_same,.cons (web_dat (W.same (s2.trans s6))) (.cons (dl s6) .nil)⟩,fun G5 t5=>⟨_,rfl,iteF ?_⟩⟩
   refine⟨_,rfl,r,_,_,_,rfl,rfl,(su.trans t5) _ _ gr4,at1,⟨lw,_,rfl,(su.trans t5) _ _ gl4⟩,lw,_,_,rfl,rfl,(su.trans t5) _ _ gl4,(by rw[List.length_map,sizeLine_eq];lia),?_⟩
   exact⟨_,_,rfl,same_put (s6.trans t5) hlw2⟩
  ·rintro σ G ⟨v4,v5,rfl,sG⟩
   exact fin _ (s2.trans sG)
end
open PySem L2 PyProof.Rows
noncomputable def spLaw(K:PySem.W.Frag):Sp:=fun vs H Q _=>∃ (a:Addr) (ns:List Int),vs=[.ref a]/\SqL K H a (ns.map V.int)/\ns.length<=63/\∀ H',Q (.bl true) H'
structure Ful(m i:Nat)(es:List Tie):Prop where
 len:es.length<=i * 6
 ok:∀ x∈es,TieOk m x
 lt:∀ x∈es,x.1<i
 pw:es.Pairwise tieLt
structure Blk(m i j:Nat)(fs:List Tie):Prop where
 len:fs.length<=j
 ok:∀ x∈fs,TieOk m x
 eq:∀ x∈fs,x.1=i
 lt:∀ x∈fs,x.2.1<i+1+j
 pw:fs.Pairwise tieLt
theorem Blk.snoc{m i j:Nat}{fs:List Tie}(b:Blk m i j fs)(h:i+1+j<m):Blk m i (j+1) (fs++[((i:Int),(i:Int)+1+(j:Int),1000000000)])where
 len:=by rw[List.length_append];exact Nat.add_le_add_right b.len 1
 ok:=fun x hx=>by
  rcases List.mem_append.mp hx with z | z
  ·exact b.ok x z
  ·rw[List.mem_singleton.mp z]
   exact⟨by show(0:Int)<=i;omega,by show(i:Int)<i+1+j;omega,by show(i:Int)+1+j<m;omega,by show(1:Int)<=1000000000;decide,by show(1000000000:Int)<=1073741824;decide⟩
 eq:=fun x hx=>by
  rcases List.mem_append.mp hx with z | z
  ·exact b.eq x z
  ·rw[List.mem_singleton.mp z]
 lt:=fun x hx=>by
  rcases List.mem_append.mp hx with z | z
  ·have:=b.lt x z;omega
  ·rw[List.mem_singleton.mp z];show(i:Int)+1+j<_;omega
 pw:=List.pairwise_append.mpr ⟨b.pw,List.pairwise_singleton ..,fun x hx y hy=>by
  rw[List.mem_singleton.mp hy]
  have h1:=b.eq x hx
  have h2:=b.lt x hx
  unfold tieLt Srt.lexlt Srt.lexlt
  rw[h1]
  simp only[Bool.or_eq_true,Bool.and_eq_true,decide_eq_true_eq]
  exact .inr ⟨trivial,.inl h2⟩⟩
theorem Ful.app{m i j:Nat}{es fs:List Tie}(f:Ful m i es)(b:Blk m i j fs)(hj:j<=6):Ful m (i+1) (es++fs)where
 len:=by
  have h1:=f.len
  have h2:=b.len
  rw[List.length_append]
  omega
 ok:=fun x hx=>(List.mem_append.mp hx).elim (f.ok x) (b.ok x)
 lt:=fun x hx=>(List.mem_append.mp hx).elim (fun z=>by have:=f.lt x z;omega) (fun z=>by rw[b.eq x z];omega)
 pw:=List.pairwise_append.mpr ⟨f.pw,b.pw,fun x hx y hy=>by
  have h1:=f.lt x hx
  have h2:=b.eq y hy
  unfold tieLt Srt.lexlt
  rw[h2]
  simp only[Bool.or_eq_true,Bool.and_eq_true,decide_eq_true_eq]
  exact .inl h1⟩
theorem paired_app{α β:Type}{F:α->β->Prop}{a c:List α}{b d:List β}(h:Paired F a b)(k:Paired F c d):Paired F (a++c) (b++d):=by
 induction h with
 |nil=>exact k
 |cons r _ ih=>exact .cons r ih
theorem mem_upto'{n:Nat}{x:Int}:x∈upto n↔0<=x/\x<n:=by
 unfold upto
 rw[List.mem_map]
 constructor
 ·rintro⟨i,h,rfl⟩
  have:=List.mem_range.mp h
  lia
 ·intro⟨h0,h1⟩
  exact⟨x.toNat,List.mem_range.mpr (by omega),by lia⟩
theorem up_pw(k:Nat):(upto k).Pairwise (· < ·):=by
 unfold upto
 rw[List.pairwise_map]
 exact List.pairwise_lt_range.imp fun h=>Int.ofNat_lt.mpr h
theorem post_up{n:Nat}{ps:List Int}(o:PostOk n ps):ps.Pairwise (· < ·):=by
 have h:=o.nd
 have r:=o.ri
 rw[List.nodup_iff_pairwise_ne]at h
 exact(r.and h).imp fun⟨h1,h2⟩=>by omega
section
variable{P:Program}{w:World}{K:PySem.W.Frag}{mg:Str->Option Value}{base:Heap}
noncomputable abbrev nLaw:List Str:=["_law_script","_law_k","_law_box_here","_law_web_here","_law_posts_here","_law_many_here","_law_ties","_law_a"]
theorem scLaw:FnScope nLaw ["_law_script"] (defScope sLaw):=⟨rfl,rfl,rfl,by decide +kernel,rfl,by decide +kernel,by decide +kernel⟩
theorem csLaw1:CompScope ["_law_b","_law_a"] [none,some 7] nLaw (defScope sLaw) (scO [(".0",.local),("_law_b",.local),("_law_a",.free)]):=⟨rfl,by decide +kernel,by decide +kernel,by decide +kernel,rfl,capB_ok (by decide +kernel)⟩
theorem ndLaw1:(["_law_b","_law_a"]:List Str).Nodup:=by decide +kernel
theorem ok_law{f g g1 g2 g3:Addr}{fd gd d1 d2 d3:FuncData}(F:Fun K "law" "law" sLaw f fd)(T:Txt mg)(TK:TakeF P w K mg base g gd)(GB:CalF P w K mg base 2 "_law_box" ["_law_script","_law_k"] (spBox K) g1 d1)(GW:CalF P w K mg base 4 "_law_with_posts" ["_law_box_here"] spWP g2 d2)(GR:CalF P w K mg base 6 "_law_right" ["_law_web_here","_law_posts_here"] spRi g3 d3):FnOk P w K mg base CX0 7 f fd ["_law_script"] (spLaw K):=by
 refine F.ok scLaw (fun vs H Q E h=>?_) (fun cdv A outer s H vs Q E hr h=>?_)
 ·obtain⟨a,ns,rfl,_⟩:=h
  rfl
 ·obtain⟨a,ns,rfl,hS,hlen,q⟩:=h
  have hr4:Room 4 _:=hr.mono (by decide)
  have hr2:Room 2 _:=hr.mono (by decide)
  have hr1:Room 1 _:=hr.mono (by decide)
  have hu64:=hr.units
  refine⟨_,(pss_cons (ps_for PassesOwn.never rfl (pi_range1 rfl T.range (@pa_bin _ _ _ _ _ _ _ _ (pe_op op_add pe_int (pe_callB (call_min2 rfl) (by rfl) T.min boot_min (@pa_cst _ _ _ _ _ _ _ pe_int (@pa_call _ _ _ _ _ _ _ _ (pe_callB call_len_seq (by rfl) T.len PySem.boot_len (@pa_nam _ _ _ _ _ _ (pv 0) pa_nil)) pa_nil)))) pa_nil)) (pg_name (i:=1) scLaw.nd rfl (Or.inl rfl))
   (pss_cons (ps_set (i:=2) scLaw.nd rfl (Or.inl rfl) (pe_call GB.ok hr2 rfl GB.mg GB.kp GB.bd .nil pass0 (@pa_nam _ _ _ _ _ _ (pv 0) (@pa_nam _ _ _ _ _ _ (pv 1) pa_nil))))
   (pss_cons (ps_asg (pe_call GW.ok hr4 rfl GW.mg GW.kp GW.bd .nil pass0 (@pa_nam _ _ _ _ _ _ (pv 2) pa_nil)) (pg_tup (n:=2) rfl (pgs_cons (pg_name (i:=3) scLaw.nd rfl (Or.inl rfl)) (pgs_cons (pg_name (i:=4) scLaw.nd rfl (Or.inl rfl)) pgs_nil))))
   (pss_cons (ps_if (PW.pt (pw_or (pt_not (pt_val (pe_call GR.ok hr rfl GR.mg GR.kp GR.bd .nil pass0 (@pa_nam _ _ _ _ _ _ (pv 3) (@pa_nam _ _ _ _ _ _ (pv 4) pa_nil))))) (pw_or1 (pt_not (pt_val (pe_call GR.ok hr rfl GR.mg GR.kp GR.bd .nil pass0 (@pa_tup _ _ _ _ _ _ _ (@pe_tup _ _ _ _ _ (@pa_sub _ _ _ _ _ _ _ (@pe_ix _ _ _ _ _ _ _ ix_tupH (pv 3) pe_int (fun _ _=>rfl)) (@pa_tup _ _ _ _ _ _ _ (@pe_tup _ _ _ _ _ pa_nil) pa_nil))) (@pa_nam _ _ _ _ _ _ (pv 4) pa_nil)))))))) pss_never pss_nil)
   (pss_cons (ps_set (i:=5) scLaw.nd rfl (Or.inl rfl) (pe_op op_add pe_int (pe_call TK.ok hr1 rfl TK.mg TK.kp TK.bd .nil pass0 (@pa_nam _ _ _ _ _ _ (pv 2) (@pa_cst _ _ _ _ _ _ _ pe_int pa_nil)))))
   (pss_cons (ps_set (i:=6) scLaw.nd rfl (Or.inl rfl) (@pe_lst _ _ _ _ pa_nil))
   (pss_cons (ps_for PassesOwn.never rfl (pi_range1 rfl T.range (@pa_nam _ _ _ _ _ _ (pv 5) pa_nil)) (pg_name (i:=7) scLaw.nd rfl (Or.inr rfl))
   (pss_one (ps_expr (pe_bmH PySem.F.slot_list_extend PySem.F.type_list_extend mt_extend (pv 6) (@pa_comp _ _ _ _ _ _ _ _ (pe_comp rfl csLaw1 (pi_range2 rfl T.range (@pa_bin _ _ _ _ _ _ _ _ (pe_op op_add (pv 7) pe_int) (@pa_nam _ _ _ _ _ _ (pv 5) pa_nil))) (fun C s H fp=>(pg_name (i:=0) ndLaw1 rfl (Or.inl rfl))) (fun C s H fp=>pf_nil) (fun C s H fp=>(@pe_tup _ _ _ _ _ (@pa_nam _ _ _ _ _ _ (pv 1) (@pa_nam _ _ _ _ _ _ (pv 0) (@pa_bin _ _ _ _ _ _ _ _ (pe_op op_pow pe_int pe_int) pa_nil)))))) pa_nil)))))
   (pss_one (ps_if (pt_not (pt_val (pe_call GR.ok hr rfl GR.mg GR.kp GR.bd .nil pass0 (@pa_tup _ _ _ _ _ _ _ (@pe_tup _ _ _ _ _ (@pa_nam _ _ _ _ _ _ (pv 5) (@pa_call _ _ _ _ _ _ _ _ (pe_callTy call_tupleH (by rfl) T.tuple boot_tuple (@pa_nam _ _ _ _ _ _ (pv 6) pa_nil)) pa_nil))) (@pa_call _ _ _ _ _ _ _ _ (pe_callTy (call_list_rng rfl) (by rfl) T.list boot_list (@pa_call _ _ _ _ _ _ _ _ (pe_callTy (call_range _) (by rfl) T.range boot_range (@pa_call _ _ _ _ _ _ _ _ (pe_callB (call_min2 rfl) (by rfl) T.min boot_min (@pa_cst _ _ _ _ _ _ _ pe_int (@pa_nam _ _ _ _ _ _ (pv 5) pa_nil))) pa_nil)) pa_nil)) pa_nil))))) pss_never pss_nil)))))))))
   (pss_one (ps_ret pe_bl))),?_⟩
  refine⟨_,rfl,a,_,rfl,.inl hS,_,_,rfl,_,_,rfl,rfl,_,rfl,?_,?_,?_⟩
  ·split <;> lia
  ·split <;> lia
  generalize ((1:Int)+(if((ns.map V.int).length:Int)<16 then((ns.map V.int).length:Int)else 16)).toNat=turns
  refine for_range (lo:=0) (n:=turns) (fun i σ H'=>∃ (v1 v2 v3 v4 v5 v6 v7:Option V),σ=[some (.ref a),v1,v2,v3,v4,v5,v6,v7]/\Same H H') ⟨_,_,_,_,_,_,_,rfl,Same.refl _⟩ ?_ ?_
  ·rintro i σ H0 hi ⟨v1,v2,v3,v4,v5,v6,v7,rfl,s0⟩
   refine⟨_,rfl,_,rfl,a,ns,0+i,by rw[Int.zero_add,Nat.zero_add];rfl,s0.seq hS,fun p H1 hp B1 k1=>?_⟩
   refine⟨_,rfl,p,0,rfl,B1,by decide,fun r t l n ties ps H2 hr0 gr n2 n30 W ok pw gl lp po pl2 B2 k2=>?_⟩
   refine⟨r,_,rfl,SqT.of gr,rfl,_,_,rfl,_,_,rfl,rfl,?_⟩
   obtain⟨⟨ts,tas,h1,h2,h3⟩,len⟩:=id W
   have X:TX n ties ps:=⟨⟨by lia,by lia,ok,len,by have:=po.hi;lia,po.lo,po.rg⟩,pw,post_up po,pl2⟩
   have X0:TX n [] ps:=⟨⟨by lia,by lia,(fun _ h=>nomatch h),by show 0<=120;decide,by have:=po.hi;lia,po.lo,po.rg⟩,.nil,post_up po,pl2⟩
   refine⟨_,rfl,_,rfl,t,l,n,ties,ps,rfl,W,gl,X,fun H3 s3=>⟨_,rfl,iteF ?_⟩⟩
   refine⟨_,rfl,t,_,_,_,rfl,rfl,s3 _ _ h1,at0,(by show 0<=sizeLine;decide),fun e he=>⟨(by show 2<=sizeLine;decide),fun w' hw'=>?_⟩⟩
   have se:=Same.new (o:=.tup []) he
   have sw:=Same.new (o:=.tup [.int (n:Int),.ref e]) hw'
   have s5:=s3.trans (se.trans sw)
   refine⟨_,rfl,w',l,n,[],ps,rfl,⟨⟨e,[],upd_same,sw _ _ upd_same,.nil⟩,by show 0<=120;decide⟩,s5 _ _ gl,X0,fun H6 s6=>⟨_,rfl,iteF ?_⟩⟩
   have s26:=s5.trans s6
   have sH6:Same H0 H6:=(Kept.same hp (k1.trans k2)).trans s26
   have B6:=B2.same s26
   have k6:Kept p H0 H6:=(k1.trans k2).trans fun b o _ e=>s26 b o e
   clear se sw s5 s6 he hw' s3 h1 h2 h3 W gl gr k1 k2 s26 B2 B1
   refine⟨_,rfl,p,6,_,rfl,B6,by decide,by decide,by decide,fun z H7 z0 z1 B7 k7=>⟨_,_,rfl,rfl,?_⟩⟩
   obtain⟨m,em⟩:∃ m:Nat,2+z=(m:Int):=⟨(2+z).toNat,by lia⟩
   have m2:2<=m:=by lia
   have m7:m<=7:=by lia
   show gName 5 (.int (2+z)) _ _ _
   rw[em]
   have s7:Same H H7:=s0.trans (Kept.same hp (k6.trans k7))
   clear k6 k7 sH6 B6 B7
   refine⟨(by show 0<=sizeLine;decide),fun ld hld=>?_⟩
   have sl:=Same.new (o:=.lst []) hld
   have hld0:H ld=none:=s7.free hld
   have gd0:(upd H7 ld (.lst [])) ld=some (.lst (([]:List Addr).map V.ref)):=upd_same
   have s8:=s7.trans sl
   generalize (upd H7 ld (.lst []))=H8 at gd0 s8
   clear sl hld s7
   refine⟨_,rfl,_,rfl,by lia,by lia,?_⟩
   rw[show((m:Int)).toNat=m by lia]
   refine for_range (lo:=0) (n:=m) (fun j σ G=>∃ (v7:Option V) (as:List Addr) (es:List Tie),σ=[some (.ref a),some (.int (0+(i:Int))),some (.ref p),some (.ref t),some (.ref l),some (.int m),some (.ref ld),v7]/\Same H G/\G ld=some (.lst (as.map V.ref))/\Paired (fun a x=>G a=some (.tup (tieV x))) as es/\Ful m j es)
    ⟨_,[],[],rfl,s8,gd0,.nil,⟨Nat.zero_le _,(fun _ h=>nomatch h),(fun _ h=>nomatch h),.nil⟩⟩ ?_ ?_
   ·rintro j σ G hj ⟨v7,as,es,rfl,sG,gd,pa,F1⟩
    rw[Int.zero_add (j:Int)]
    refine⟨_,rfl,⟨ld,_,rfl,gd⟩,?_⟩
    refine⟨_,rfl,_,_,rfl,rfl,_,rfl,_,_,rfl,⟨by lia,by lia,by lia,by lia⟩,?_⟩
    generalize ec:(((m:Int))-((j:Int)+1)).toNat=c
    have hc:j+1+c=m:=by lia
    refine comp_range (lo:=(j:Int)+1) (n:=c) (fun k ys G2=>Same G G2/\∃ (bs:List Addr) (fs:List Tie),ys=bs.map V.ref/\Paired (fun a x=>G2 a=some (.tup (tieV x))) bs fs/\Blk m j k fs) (by rw[sizeLine_eq];lia) ⟨Same.refl _,[],[],rfl,.nil,⟨Nat.zero_le _,(fun _ h=>nomatch h),(fun _ h=>nomatch h),(fun _ h=>nomatch h),.nil⟩⟩ ?_ ?_
    ·rintro k ys G2 hk ⟨s2,bs,fs,rfl,pb,F2⟩
     refine⟨⟨rfl,trivial⟩,tTru_if ?_⟩
     refine⟨_,rfl,_,rfl,_,_,rfl,rfl,⟨by decide,by decide,by decide⟩,(by show 3<=sizeLine;decide),fun u hu=>?_⟩
     have su:=Same.new (o:=.tup [.int (j:Int),.int ((j:Int)+1+(k:Int)),.int ((10:Int) ^ (9:Int).toNat)]) hu
     exact⟨s2.trans su,bs++[u],fs++[((j:Int),(j:Int)+1+(k:Int),1000000000)],by rw[List.map_append];rfl,Paired.snoc (Paired.mapP pb fun _ _ h=>su _ _ h) upd_same,F2.snoc (by lia)⟩
    ·rintro ys G2 _ ⟨s2,bs,fs,rfl,pb,F2⟩ D hD
     have sD:=Same.new (o:=.lst (bs.map V.ref)) hD
     have gd2:=(s2.trans sD) _ _ gd
     have asl:as.length=es.length:=pa.length
     have bsl:bs.length=fs.length:=pb.length
     have fl:=F1.len
     have fl2:=F2.len
     refine⟨ld,D,_,_,rfl,rfl,gd2,upd_same,(by rw[List.length_map,List.length_map,sizeLine_eq];lia),?_⟩
     have keep:∀ {a:Addr}{xs:List V},(upd G2 D (.lst (bs.map V.ref))) a=some (.tup xs)->(upd (upd G2 D (.lst (bs.map V.ref))) ld (.lst (as.map V.ref++bs.map V.ref))) a=some (.tup xs):=fun {a xs} h=>by
      rw[upd_ne (fun z=>by rw[z,gd2]at h;cases h)]
      exact h
     refine⟨_,as++bs,es++fs,rfl,same_put (sG.trans (s2.trans sD)) hld0,by rw[upd_same,List.map_append],?_,F1.app F2 (by lia)⟩
     exact paired_app (Paired.mapP pa fun _ _ h=>keep ((s2.trans sD) _ _ h)) (Paired.mapP pb fun _ _ h=>keep (sD _ _ h))
   ·rintro σ G ⟨v7,as,es,rfl,sG,gd,pa,F1⟩
    have asl:as.length=es.length:=pa.length
    have fl:=F1.len
    refine⟨_,rfl,_,rfl,ld,_,rfl,gd,fun tt htt=>⟨(by show 2<=sizeLine;decide),fun tw htw=>?_⟩⟩
    have st:=Same.new (o:=.tup (as.map V.ref)) htt
    have sw:=Same.new (o:=.tup [.int (m:Int),.ref tt]) htw
    have s9:=st.trans sw
    have gtw:(upd (upd G tt (.tup (as.map V.ref))) tw (.tup [.int (m:Int),.ref tt])) tw=some (.tup [.int (m:Int),.ref tt]):=upd_same
    have gtt:=sw _ _ (show(upd G tt (.tup (as.map V.ref))) tt=some (.tup (as.map V.ref))from upd_same)
    generalize (upd (upd G tt (.tup (as.map V.ref))) tw (.tup [.int (m:Int),.ref tt]))=G3 at s9 gtw gtt
    clear st sw htt htw
    refine⟨_,rfl,_,_,rfl,?_⟩
    obtain⟨q6,eq6,q2,q6',qm⟩:∃ q6:Nat,(if(m:Int)<6 then(m:Int)else 6)=(q6:Int)/\2<=q6/\q6<=6/\q6<=m:=by
     by_cases h:(m:Int)<6
     ·exact⟨m,if_pos h,by lia,by lia,by lia⟩
     ·exact⟨6,if_neg h,by lia,by lia,by lia⟩
    rw[eq6]
    refine⟨_,rfl,fun r1 hr1'=>⟨r1,_,rfl,upd_same,by lia,by lia,fun so hso=>?_⟩⟩
    rw[show((q6:Int)).toNat=q6 by lia]
    have s10:=s9.trans ((Same.new (o:=.rng 0 (q6:Int)) hr1').trans (Same.new (o:=.lst ((upto q6).map V.int)) hso))
    have gtw3:=((Same.new (o:=.rng 0 (q6:Int)) hr1').trans (Same.new (o:=.lst ((upto q6).map V.int)) hso)) _ _ gtw
    have gtt3:=((Same.new (o:=.rng 0 (q6:Int)) hr1').trans (Same.new (o:=.lst ((upto q6).map V.int)) hso)) _ _ gtt
    have uq:(upto q6).length=q6:=upto_length q6
    have X3:TX m es (upto q6):=⟨⟨by lia,by lia,F1.ok,by lia,by lia,by lia,fun x hx=>by have:=mem_upto'.mp hx;lia⟩,F1.pw,up_pw q6,by omega⟩
    refine⟨tw,so,m,es,upto q6,rfl,⟨⟨tt,as,gtw3,gtt3,Paired.mapP pa fun _ _ h=>s10 _ _ h⟩,by omega⟩,upd_same,X3,fun G4 s4=>⟨_,rfl,iteF ?_⟩⟩
    exact⟨_,_,_,_,_,_,_,rfl,sG.trans (s10.trans s4)⟩
  ·rintro σ G ⟨v1,v2,v3,v4,v5,v6,v7,rfl,s0⟩
   exact q _
end
open PySem L2 PyProof.Rows
theorem leS{k:Nat}{motive:List Value->Prop}(us:List Value)(hl:us.length=k+1)(h:∀ a t,t.length=k->motive (a :: t)):motive us:=by
 cases us with
 |nil=>cases hl
 |cons a t=>exact h a t (Nat.succ.inj hl)
theorem leZ{motive:List Value->Prop}(us:List Value)(hl:us.length=0)(h:motive []):motive us:=by
 cases us with
 |nil=>exact h
 |cons a t=>cases hl
@[elab_as_elim] theorem le1{motive:List Value->Prop}(us:List Value)(hl:us.length=1)(k:∀ a0,motive [a0]):motive us:=leS (motive:=fun u=>motive (u)) us hl fun a0 t0 h0=>leZ (motive:=fun u=>motive (a0 :: u)) t0 h0 (k a0)
@[elab_as_elim] theorem le2{motive:List Value->Prop}(us:List Value)(hl:us.length=2)(k:∀ a0 a1,motive [a0,a1]):motive us:=leS (motive:=fun u=>motive (u)) us hl fun a0 t0 h0=>leS (motive:=fun u=>motive (a0 :: u)) t0 h0 fun a1 t1 h1=>leZ (motive:=fun u=>motive (a0 :: a1 :: u)) t1 h1 (k a0 a1)
@[elab_as_elim] theorem le3{motive:List Value->Prop}(us:List Value)(hl:us.length=3)(k:∀ a0 a1 a2,motive [a0,a1,a2]):motive us:=leS (motive:=fun u=>motive (u)) us hl fun a0 t0 h0=>leS (motive:=fun u=>motive (a0 :: u)) t0 h0 fun a1 t1 h1=>leS (motive:=fun u=>motive (a0 :: a1 :: u)) t1 h1 fun a2 t2 h2=>leZ (motive:=fun u=>motive (a0 :: a1 :: a2 :: u)) t2 h2 (k a0 a1 a2)
@[elab_as_elim] theorem le4{motive:List Value->Prop}(us:List Value)(hl:us.length=4)(k:∀ a0 a1 a2 a3,motive [a0,a1,a2,a3]):motive us:=leS (motive:=fun u=>motive (u)) us hl fun a0 t0 h0=>leS (motive:=fun u=>motive (a0 :: u)) t0 h0 fun a1 t1 h1=>leS (motive:=fun u=>motive (a0 :: a1 :: u)) t1 h1 fun a2 t2 h2=>leS (motive:=fun u=>motive (a0 :: a1 :: a2 :: u)) t2 h2 fun a3 t3 h3=>leZ (motive:=fun u=>motive (a0 :: a1 :: a2 :: a3 :: u)) t3 h3 (k a0 a1 a2 a3)
theorem all_mk{l:PySem.W.OpenLaw}{w:World}{K:PySem.W.Frag}{h:Heap}{mg:Str->Option Value}{fa f1 f2 f3 f4 f5 f6 f7 f8 f9 f10 f11 f12 f13 f14 f15 f16 f17 f18 f19 f20 f21 f22 f23:Addr}(X:K.In h)(G:h.Ns mainGlobals mg)(hfa:mg "law" = some (.ref fa))
  {od1 an1 od2 an2 od3 an3 od4 an4 od5 an5 od6 an6 od7 an7 od8 an8 od9 an9 od10 an10 od11 an11 od12 an12 od13 an13 od14 an14 od15 an15 od16 an16 od17 an17 od18 an18 od19 an19 od20 an20 od21 an21 od22 an22 od23 an23:Option Addr}{sl1 sl2 sl3 sl4 sl5 sl6 sl7 sl8 sl9 sl10 sl11 sl12 sl13 sl14 sl15 sl16 sl17 sl18 sl19 sl20 sl21 sl22 sl23:Array (Option Value)}{oc1 kV1 dc1 pm1 cd1 ct1 oc2 kV2 dc2 pm2 cd2 ct2 oc3 kV3 dc3 pm3 cd3 ct3 oc4 kV4 dc4 pm4 cd4 ct4 oc5 kV5 dc5 pm5 cd5 ct5 oc6 kV6 dc6 pm6 cd6 ct6 oc7 kV7 dc7 pm7 cd7 ct7 oc8 kV8 dc8 pm8 cd8 ct8 oc9 kV9 dc9 pm9 cd9 ct9 oc10 kV10 dc10 pm10 cd10 ct10 oc11 kV11 dc11 pm11 cd11 ct11 oc12 kV12 dc12 pm12 cd12 ct12 oc13 kV13 dc13 pm13 cd13 ct13 oc14 kV14 dc14 pm14 cd14 ct14 oc15 kV15 dc15 pm15 cd15 ct15 oc16 kV16 dc16 pm16 cd16 ct16 oc17 kV17 dc17 pm17 cd17 ct17 oc18 kV18 dc18 pm18 cd18 ct18 oc19 kV19 dc19 pm19 cd19 ct19 oc20 kV20 dc20 pm20 cd20 ct20 oc21 kV21 dc21 pm21 cd21 ct21 oc22 kV22 dc22 pm22 cd22 ct22 oc23 kV23 dc23 pm23 cd23 ct23:Value}
  (a1:PySem.W.nsIn K mainGlobals "is_number" = some (some (.ref f1))) (l1:K.lookup f1=some ⟨oc1,od1,.func (PySem.W.fnOf "is_number" "is_number" (defArgs sIsNumber) (defBody sIsNumber) (defScope sIsNumber) .none kV1 dc1 pm1 an1 cd1 ct1),sl1⟩) (c1:PySem.W.codeIn K cd1 "is_number" = true) (k1:PySem.W.keepIn K (.ref f1)=true)
  (a2:PySem.W.nsIn K mainGlobals "are_numbers" = some (some (.ref f2))) (l2:K.lookup f2=some ⟨oc2,od2,.func (PySem.W.fnOf "are_numbers" "are_numbers" (defArgs sAreNumbers) (defBody sAreNumbers) (defScope sAreNumbers) .none kV2 dc2 pm2 an2 cd2 ct2),sl2⟩) (c2:PySem.W.codeIn K cd2 "are_numbers" = true) (k2:PySem.W.keepIn K (.ref f2)=true)
  (a3:PySem.W.nsIn K mainGlobals "is_tuple_of" = some (some (.ref f3))) (l3:K.lookup f3=some ⟨oc3,od3,.func (PySem.W.fnOf "is_tuple_of" "is_tuple_of" (defArgs sIsTupleOf) (defBody sIsTupleOf) (defScope sIsTupleOf) .none kV3 dc3 pm3 an3 cd3 ct3),sl3⟩) (c3:PySem.W.codeIn K cd3 "is_tuple_of" = true) (k3:PySem.W.keepIn K (.ref f3)=true)
  (a4:PySem.W.nsIn K mainGlobals "rises" = some (some (.ref f4))) (l4:K.lookup f4=some ⟨oc4,od4,.func (PySem.W.fnOf "rises" "rises" (defArgs sRises) (defBody sRises) (defScope sRises) .none kV4 dc4 pm4 an4 cd4 ct4),sl4⟩) (c4:PySem.W.codeIn K cd4 "rises" = true) (k4:PySem.W.keepIn K (.ref f4)=true)
  (a5:PySem.W.nsIn K mainGlobals "is_tie" = some (some (.ref f5))) (l5:K.lookup f5=some ⟨oc5,od5,.func (PySem.W.fnOf "is_tie" "is_tie" (defArgs sIsTie) (defBody sIsTie) (defScope sIsTie) .none kV5 dc5 pm5 an5 cd5 ct5),sl5⟩) (c5:PySem.W.codeIn K cd5 "is_tie" = true) (k5:PySem.W.keepIn K (.ref f5)=true)
  (a6:PySem.W.nsIn K mainGlobals "web_text" = some (some (.ref f6))) (l6:K.lookup f6=some ⟨oc6,od6,.func (PySem.W.fnOf "web_text" "web_text" (defArgs sWebText) (defBody sWebText) (defScope sWebText) .none kV6 dc6 pm6 an6 cd6 ct6),sl6⟩) (c6:PySem.W.codeIn K cd6 "web_text" = true) (k6:PySem.W.keepIn K (.ref f6)=true)
  (a7:PySem.W.nsIn K mainGlobals "web_from" = some (some (.ref f7))) (l7:K.lookup f7=some ⟨oc7,od7,.func (PySem.W.fnOf "web_from" "web_from" (defArgs sWebFrom) (defBody sWebFrom) (defScope sWebFrom) .none kV7 dc7 pm7 an7 cd7 ct7),sl7⟩) (c7:PySem.W.codeIn K cd7 "web_from" = true) (k7:PySem.W.keepIn K (.ref f7)=true)
  (a8:PySem.W.nsIn K mainGlobals "web_ahead" = some (some (.ref f8))) (l8:K.lookup f8=some ⟨oc8,od8,.func (PySem.W.fnOf "web_ahead" "web_ahead" (defArgs sWebAhead) (defBody sWebAhead) (defScope sWebAhead) .none kV8 dc8 pm8 an8 cd8 ct8),sl8⟩) (c8:PySem.W.codeIn K cd8 "web_ahead" = true) (k8:PySem.W.keepIn K (.ref f8)=true)
  (a9:PySem.W.nsIn K mainGlobals "are_posts" = some (some (.ref f9))) (l9:K.lookup f9=some ⟨oc9,od9,.func (PySem.W.fnOf "are_posts" "are_posts" (defArgs sArePosts) (defBody sArePosts) (defScope sArePosts) .none kV9 dc9 pm9 an9 cd9 ct9),sl9⟩) (c9:PySem.W.codeIn K cd9 "are_posts" = true) (k9:PySem.W.keepIn K (.ref f9)=true)
  (a10:PySem.W.nsIn K mainGlobals "numbers_behind" = some (some (.ref f10))) (l10:K.lookup f10=some ⟨oc10,od10,.func (PySem.W.fnOf "numbers_behind" "numbers_behind" (defArgs sNumbersBehind) (defBody sNumbersBehind) (defScope sNumbersBehind) .none kV10 dc10 pm10 an10 cd10 ct10),sl10⟩) (c10:PySem.W.codeIn K cd10 "numbers_behind" = true) (k10:PySem.W.keepIn K (.ref f10)=true)
  (a11:PySem.W.nsIn K mainGlobals "is_figures" = some (some (.ref f11))) (l11:K.lookup f11=some ⟨oc11,od11,.func (PySem.W.fnOf "is_figures" "is_figures" (defArgs sIsFigures) (defBody sIsFigures) (defScope sIsFigures) .none kV11 dc11 pm11 an11 cd11 ct11),sl11⟩) (c11:PySem.W.codeIn K cd11 "is_figures" = true) (k11:PySem.W.keepIn K (.ref f11)=true)
  (a12:PySem.W.nsIn K mainGlobals "_law_cell_at" = some (some (.ref f12))) (l12:K.lookup f12=some ⟨oc12,od12,.func (PySem.W.fnOf "_law_cell_at" "_law_cell_at" (defArgs sCell) (defBody sCell) (defScope sCell) .none kV12 dc12 pm12 an12 cd12 ct12),sl12⟩) (c12:PySem.W.codeIn K cd12 "_law_cell_at" = true) (k12:PySem.W.keepIn K (.ref f12)=true)
  (a13:PySem.W.nsIn K mainGlobals "_law_box" = some (some (.ref f13))) (l13:K.lookup f13=some ⟨oc13,od13,.func (PySem.W.fnOf "_law_box" "_law_box" (defArgs sBox) (defBody sBox) (defScope sBox) .none kV13 dc13 pm13 an13 cd13 ct13),sl13⟩) (c13:PySem.W.codeIn K cd13 "_law_box" = true) (k13:PySem.W.keepIn K (.ref f13)=true)
  (a14:PySem.W.nsIn K mainGlobals "_law_take" = some (some (.ref f14))) (l14:K.lookup f14=some ⟨oc14,od14,.func (PySem.W.fnOf "_law_take" "_law_take" (defArgs sTake) (defBody sTake) (defScope sTake) .none kV14 dc14 pm14 an14 cd14 ct14),sl14⟩) (c14:PySem.W.codeIn K cd14 "_law_take" = true) (k14:PySem.W.keepIn K (.ref f14)=true)
  (a15:PySem.W.nsIn K mainGlobals "_law_many" = some (some (.ref f15))) (l15:K.lookup f15=some ⟨oc15,od15,.func (PySem.W.fnOf "_law_many" "_law_many" (defArgs sMany) (defBody sMany) (defScope sMany) .none kV15 dc15 pm15 an15 cd15 ct15),sl15⟩) (c15:PySem.W.codeIn K cd15 "_law_many" = true) (k15:PySem.W.keepIn K (.ref f15)=true)
  (a16:PySem.W.nsIn K mainGlobals "_law_weight" = some (some (.ref f16))) (l16:K.lookup f16=some ⟨oc16,od16,.func (PySem.W.fnOf "_law_weight" "_law_weight" (defArgs sWeight) (defBody sWeight) (defScope sWeight) .none kV16 dc16 pm16 an16 cd16 ct16),sl16⟩) (c16:PySem.W.codeIn K cd16 "_law_weight" = true) (k16:PySem.W.keepIn K (.ref f16)=true)
  (a17:PySem.W.nsIn K mainGlobals "_law_web" = some (some (.ref f17))) (l17:K.lookup f17=some ⟨oc17,od17,.func (PySem.W.fnOf "_law_web" "_law_web" (defArgs sWeb) (defBody sWeb) (defScope sWeb) .none kV17 dc17 pm17 an17 cd17 ct17),sl17⟩) (c17:PySem.W.codeIn K cd17 "_law_web" = true) (k17:PySem.W.keepIn K (.ref f17)=true)
  (a18:PySem.W.nsIn K mainGlobals "_law_posts" = some (some (.ref f18))) (l18:K.lookup f18=some ⟨oc18,od18,.func (PySem.W.fnOf "_law_posts" "_law_posts" (defArgs sPosts) (defBody sPosts) (defScope sPosts) .none kV18 dc18 pm18 an18 cd18 ct18),sl18⟩) (c18:PySem.W.codeIn K cd18 "_law_posts" = true) (k18:PySem.W.keepIn K (.ref f18)=true)
  (a19:PySem.W.nsIn K mainGlobals "_law_with_posts" = some (some (.ref f19))) (l19:K.lookup f19=some ⟨oc19,od19,.func (PySem.W.fnOf "_law_with_posts" "_law_with_posts" (defArgs sWithPosts) (defBody sWithPosts) (defScope sWithPosts) .none kV19 dc19 pm19 an19 cd19 ct19),sl19⟩) (c19:PySem.W.codeIn K cd19 "_law_with_posts" = true) (k19:PySem.W.keepIn K (.ref f19)=true)
  (a20:PySem.W.nsIn K mainGlobals "_law_text" = some (some (.ref f20))) (l20:K.lookup f20=some ⟨oc20,od20,.func (PySem.W.fnOf "_law_text" "_law_text" (defArgs sText) (defBody sText) (defScope sText) .none kV20 dc20 pm20 an20 cd20 ct20),sl20⟩) (c20:PySem.W.codeIn K cd20 "_law_text" = true) (k20:PySem.W.keepIn K (.ref f20)=true)
  (a21:PySem.W.nsIn K mainGlobals "_law_same" = some (some (.ref f21))) (l21:K.lookup f21=some ⟨oc21,od21,.func (PySem.W.fnOf "_law_same" "_law_same" (defArgs sSame) (defBody sSame) (defScope sSame) .none kV21 dc21 pm21 an21 cd21 ct21),sl21⟩) (c21:PySem.W.codeIn K cd21 "_law_same" = true) (k21:PySem.W.keepIn K (.ref f21)=true)
  (a22:PySem.W.nsIn K mainGlobals "_law_right" = some (some (.ref f22))) (l22:K.lookup f22=some ⟨oc22,od22,.func (PySem.W.fnOf "_law_right" "_law_right" (defArgs sRight) (defBody sRight) (defScope sRight) .none kV22 dc22 pm22 an22 cd22 ct22),sl22⟩) (c22:PySem.W.codeIn K cd22 "_law_right" = true) (k22:PySem.W.keepIn K (.ref f22)=true)
  (a23:PySem.W.nsIn K mainGlobals "law" = some (some (.ref f23))) (l23:K.lookup f23=some ⟨oc23,od23,.func (PySem.W.fnOf "law" "law" (defArgs sLaw) (defBody sLaw) (defScope sLaw) .none kV23 dc23 pm23 an23 cd23 ct23),sl23⟩) (c23:PySem.W.codeIn K cd23 "law" = true) (k23:PySem.W.keepIn K (.ref f23)=true)
  {tgs0:Tok} (gs0:PySem.W.nsIn K mainGlobals "FIGURES" = some (some (.str "0123456789" tgs0)))
  (z1:PySem.W.nsIn K mainGlobals "abs" = some none) (z2:PySem.W.nsIn K mainGlobals "int" = some none) (z3:PySem.W.nsIn K mainGlobals "len" = some none) (z4:PySem.W.nsIn K mainGlobals "range" = some none) (z5:PySem.W.nsIn K mainGlobals "min" = some none) (z6:PySem.W.nsIn K mainGlobals "max" = some none) (z7:PySem.W.nsIn K mainGlobals "tuple" = some none) (z8:PySem.W.nsIn K mainGlobals "sorted" = some none) (z9:PySem.W.nsIn K mainGlobals "isinstance" = some none) (z10:PySem.W.nsIn K mainGlobals "list" = some none) (z11:PySem.W.nsIn K mainGlobals "str" = some none) (z12:PySem.W.nsIn K mainGlobals "bool" = some none) (z13:PySem.W.nsIn K mainGlobals "sum" = some none) (z14:PySem.W.nsIn K mainGlobals "all" = some none) (z15:PySem.W.nsIn K mainGlobals "zip" = some none) (z16:PySem.W.nsIn K mainGlobals "enumerate" = some none) (z17:PySem.W.nsIn K mainGlobals "dict" = some none) :
  ∃ fd:FuncData,(∀ (s:Shared) (v:Value),BindsTo s fd ⟨[v],[]⟩ [("_law_script",v)])/\∀ base:Heap,K.In base->base.Ns mainGlobals mg->FnOk l.prog w K mg base CX0 7 fa fd ["_law_script"] (spLaw K):=by
 have e:=hfa.symm.trans (PySem.W.mg_of X G a23)
 cases e
 have T:Txt mg:=⟨PySem.W.mg_none_of X G z1,PySem.W.mg_none_of X G z2,PySem.W.mg_none_of X G z3,PySem.W.mg_none_of X G z4,PySem.W.mg_none_of X G z5,PySem.W.mg_none_of X G z6,PySem.W.mg_none_of X G z7,PySem.W.mg_none_of X G z8,PySem.W.mg_none_of X G z9,PySem.W.mg_none_of X G z10,PySem.W.mg_none_of X G z11,PySem.W.mg_none_of X G z12,PySem.W.mg_none_of X G z13⟩
 have T2:Txt2 mg:=⟨PySem.W.mg_none_of X G z14,PySem.W.mg_none_of X G z15,PySem.W.mg_none_of X G z16,PySem.W.mg_none_of X G z17⟩
 have GL:Glb mg:=⟨_,PySem.W.mg_of X G gs0⟩
 have F1:=fun_mk (st:=sIsNumber) l1 c1 k1
 have F2:=fun_mk (st:=sAreNumbers) l2 c2 k2
 have F3:=fun_mk (st:=sIsTupleOf) l3 c3 k3
 have F4:=fun_mk (st:=sRises) l4 c4 k4
 have F5:=fun_mk (st:=sIsTie) l5 c5 k5
 have F6:=fun_mk (st:=sWebText) l6 c6 k6
 have F7:=fun_mk (st:=sWebFrom) l7 c7 k7
 have F8:=fun_mk (st:=sWebAhead) l8 c8 k8
 have F9:=fun_mk (st:=sArePosts) l9 c9 k9
 have F10:=fun_mk (st:=sNumbersBehind) l10 c10 k10
 have F11:=fun_mk (st:=sIsFigures) l11 c11 k11
 have F12:=fun_mk (st:=sCell) l12 c12 k12
 have F13:=fun_mk (st:=sBox) l13 c13 k13
 have F14:=fun_mk (st:=sTake) l14 c14 k14
 have F15:=fun_mk (st:=sMany) l15 c15 k15
 have F16:=fun_mk (st:=sWeight) l16 c16 k16
 have F17:=fun_mk (st:=sWeb) l17 c17 k17
 have F18:=fun_mk (st:=sPosts) l18 c18 k18
 have F19:=fun_mk (st:=sWithPosts) l19 c19 k19
 have F20:=fun_mk (st:=sText) l20 c20 k20
 have F21:=fun_mk (st:=sSame) l21 c21 k21
 have F22:=fun_mk (st:=sRight) l22 c22 k22
 have F23:=fun_mk (st:=sLaw) l23 c23 k23
 have b1:=F1.binds (ps:=["thing"]) fun _ _ _ _ _ _ us hl=>le1 us hl fun _=>rfl
 have b2:=F2.binds (ps:=["things"]) fun _ _ _ _ _ _ us hl=>le1 us hl fun _=>rfl
 have b3:=F3.binds (ps:=["thing","many"]) fun _ _ _ _ _ _ us hl=>le2 us hl fun _ _=>rfl
 have b4:=F4.binds (ps:=["things"]) fun _ _ _ _ _ _ us hl=>le1 us hl fun _=>rfl
 have b5:=F5.binds (ps:=["thing","many"]) fun _ _ _ _ _ _ us hl=>le2 us hl fun _ _=>rfl
 have b6:=F6.binds (ps:=["web","posts"]) fun _ _ _ _ _ _ us hl=>le2 us hl fun _ _=>rfl
 have b7:=F7.binds (ps:=["text"]) fun _ _ _ _ _ _ us hl=>le1 us hl fun _=>rfl
 have b8:=F8.binds (ps:=["rows"]) fun _ _ _ _ _ _ us hl=>le1 us hl fun _=>rfl
 have b9:=F9.binds (ps:=["many","numbers"]) fun _ _ _ _ _ _ us hl=>le2 us hl fun _ _=>rfl
 have b10:=F10.binds (ps:=["word","row"]) fun _ _ _ _ _ _ us hl=>le2 us hl fun _ _=>rfl
 have b11:=F11.binds (ps:=["word"]) fun _ _ _ _ _ _ us hl=>le1 us hl fun _=>rfl
 have b12:=F12.binds (ps:=["_law_script","_law_k"]) fun _ _ _ _ _ _ us hl=>le2 us hl fun _ _=>rfl
 have b13:=F13.binds (ps:=["_law_script","_law_k"]) fun _ _ _ _ _ _ us hl=>le2 us hl fun _ _=>rfl
 have b14:=F14.binds (ps:=["_law_box_here","_law_many_here"]) fun _ _ _ _ _ _ us hl=>le2 us hl fun _ _=>rfl
 have b15:=F15.binds (ps:=["_law_box_here","_law_least","_law_few","_law_most"]) fun _ _ _ _ _ _ us hl=>le4 us hl fun _ _ _ _=>rfl
 have b16:=F16.binds (ps:=["_law_box_here","_law_heavy"]) fun _ _ _ _ _ _ us hl=>le2 us hl fun _ _=>rfl
 have b17:=F17.binds (ps:=["_law_box_here","_law_many_here"]) fun _ _ _ _ _ _ us hl=>le2 us hl fun _ _=>rfl
 have b18:=F18.binds (ps:=["_law_box_here","_law_many_here","_law_most"]) fun _ _ _ _ _ _ us hl=>le3 us hl fun _ _ _=>rfl
 have b19:=F19.binds (ps:=["_law_box_here"]) fun _ _ _ _ _ _ us hl=>le1 us hl fun _=>rfl
 have b20:=F20.binds (ps:=["_law_web_here","_law_posts_here"]) fun _ _ _ _ _ _ us hl=>le2 us hl fun _ _=>rfl
 have b21:=F21.binds (ps:=["_law_found","_law_due"]) fun _ _ _ _ _ _ us hl=>le2 us hl fun _ _=>rfl
 have b22:=F22.binds (ps:=["_law_web_here","_law_posts_here"]) fun _ _ _ _ _ _ us hl=>le2 us hl fun _ _=>rfl
 have m1:=PySem.W.mg_of X G a1
 have m2:=PySem.W.mg_of X G a2
 have m3:=PySem.W.mg_of X G a3
 have m4:=PySem.W.mg_of X G a4
 have m5:=PySem.W.mg_of X G a5
 have m6:=PySem.W.mg_of X G a6
 have m7:=PySem.W.mg_of X G a7
 have m8:=PySem.W.mg_of X G a8
 have m9:=PySem.W.mg_of X G a9
 have m10:=PySem.W.mg_of X G a10
 have m11:=PySem.W.mg_of X G a11
 have m12:=PySem.W.mg_of X G a12
 have m13:=PySem.W.mg_of X G a13
 have m14:=PySem.W.mg_of X G a14
 have m15:=PySem.W.mg_of X G a15
 have m16:=PySem.W.mg_of X G a16
 have m17:=PySem.W.mg_of X G a17
 have m18:=PySem.W.mg_of X G a18
 have m19:=PySem.W.mg_of X G a19
 have m20:=PySem.W.mg_of X G a20
 have m21:=PySem.W.mg_of X G a21
 have m22:=PySem.W.mg_of X G a22
 have m23:=PySem.W.mg_of X G a23
 refine⟨PySem.W.fnOf "law" "law" (defArgs sLaw) (defBody sLaw) (defScope sLaw) .none kV23 dc23 pm23 an23 cd23 ct23,fun s v=>.of_eq rfl,fun base _ _=>?_⟩
 have TK:TakeF l.prog w K mg base f14 _:=⟨ok_take F14,m14,k14,b14⟩
 have C__law_box:CalF l.prog w K mg base 2 "_law_box" ["_law_script","_law_k"] (spBox K) f13 _:=⟨ok_box F13 T F12 m12 b12,m13,k13,b13⟩
 have C__law_many:CalF l.prog w K mg base 2 "_law_many" ["_law_box_here","_law_least","_law_few","_law_most"] spMany f15 _:=⟨ok_many F15 TK,m15,k15,b15⟩
 have TW:WeightF l.prog w K mg base f16 _:=⟨ok_weight F16 TK,m16,k16,b16⟩
 have C__law_web:CalF l.prog w K mg base 3 "_law_web" ["_law_box_here","_law_many_here"] spWeb f17 _:=⟨ok_web F17 T TK TW,m17,k17,b17⟩
 have C__law_posts:CalF l.prog w K mg base 2 "_law_posts" ["_law_box_here","_law_many_here","_law_most"] spPo f18 _:=⟨ok_po F18 T TK,m18,k18,b18⟩
 have C__law_with_posts:CalF l.prog w K mg base 4 "_law_with_posts" ["_law_box_here"] spWP f19 _:=⟨ok_wp F19 C__law_many C__law_web C__law_posts,m19,k19,b19⟩
 have C__law_text:CalF l.prog w K mg base 1 "_law_text" ["_law_web_here","_law_posts_here"] (spLt K) f20 _:=⟨ok_lt F20 T,m20,k20,b20⟩
 have C_web_text:CalF l.prog w K mg base 1 "web_text" ["web","posts"] (spWt K) f6 _:=⟨ok_wt F6 T,m6,k6,b6⟩
 have C__law_same:CalF l.prog w K mg base 5 "_law_same" ["_law_found","_law_due"] (spSame 4) f21 _:=⟨ok_same F21 T T2 m21 b21 4,m21,k21,b21⟩
 have C_is_figures:CalF l.prog w K mg base 1 "is_figures" ["word"] spIf f11 _:=⟨ok_if F11 T T2 GL,m11,k11,b11⟩
 have C_numbers_behind:CalF l.prog w K mg base 2 "numbers_behind" ["word","row"] spNb f10 _:=⟨ok_nb F10 T T2 C_is_figures,m10,k10,b10⟩
 have C_rises:CalF l.prog w K mg base 1 "rises" ["things"] spRs f4 _:=⟨ok_rs F4 T2,m4,k4,b4⟩
 have C_are_posts:CalF l.prog w K mg base 2 "are_posts" ["many","numbers"] spAp f9 _:=⟨ok_ap F9 T C_rises,m9,k9,b9⟩
 have C_is_tuple_of:CalF l.prog w K mg base 1 "is_tuple_of" ["thing","many"] spIt f3 _:=⟨ok_it F3 T,m3,k3,b3⟩
 have C_is_number:CalF l.prog w K mg base 1 "is_number" ["thing"] spNu f1 _:=⟨ok_nu F1 T,m1,k1,b1⟩
 have C_are_numbers:CalF l.prog w K mg base 2 "are_numbers" ["things"] (spAn K) f2 _:=⟨ok_an F2 T2 C_is_number,m2,k2,b2⟩
 have C_is_tie:CalF l.prog w K mg base 3 "is_tie" ["thing","many"] spTi f5 _:=⟨ok_ti F5 C_is_tuple_of C_are_numbers,m5,k5,b5⟩
 have C_web_ahead:CalF l.prog w K mg base 4 "web_ahead" ["rows"] spWa f8 _:=⟨ok_wa F8 T T2 C_numbers_behind C_are_posts C_is_tie,m8,k8,b8⟩
 have C_web_from:CalF l.prog w K mg base 5 "web_from" ["text"] spWf f7 _:=⟨ok_wf F7 T C_web_ahead,m7,k7,b7⟩
 have C__law_right:CalF l.prog w K mg base 6 "_law_right" ["_law_web_here","_law_posts_here"] spRi f22 _:=⟨ok_ri F22 T C__law_text C_web_text C__law_same C_web_from,m22,k22,b22⟩
 exact ok_law F23 T TK C__law_box C__law_with_posts C__law_right
theorem walk{l:PySem.W.OpenLaw}{q:Program}{loose:List Str}{XP:(Str->Option Value)->Heap->Prop}{YP:World->Heap->Prop}{d:DefRec}{K:Params->PySem.W.Frag}(hn:l.most=some 63)(hdf:d.params.defaults=[])(hY:∀ (w:World) (h:Heap),YP w h->(K w.params).In h)
  (F:∀ (w:World) (mg:Str->Option Value) (fa:Addr) (h:Heap),(K w.params).In h->h.Ns mainGlobals mg->mg d.name=some (.ref fa)->∃ fd:FuncData,(∀ (s:Shared) (u:Value),BindsTo s fd ⟨[u],[]⟩ [("_law_script",u)])/\∀ base:Heap,(K w.params).In base->base.Ns mainGlobals mg->FnOk l.prog w (K w.params) mg base CX0 7 fa fd ["_law_script"] (spLaw (K w.params))) :
  PySem.W.WalkO q loose XP YP l.row.toRowW d [] (fun f vs=>PySem.call f vs) :=
 L2.walk_of (n:=63) (k:=7) (x:="_law_script") (CX:=fun _=>CX0) (sp:=fun w=>spLaw (K w.params)) hn (by decide) hdf ⟨rfl,by decide,by decide,rfl⟩ hY F (fun _ _ a ns hl _ hS=>⟨a,ns,rfl,hS,hl,fun _=>rfl⟩) fun _ _ _ _ _ z=>z
end K74
open PySem PySem.W PyProof.Rows
set_option maxRecDepth 100000 in
set_option maxHeartbeats 0 in
theorem PySem.Challenge.cw_partedweb_k74_webs_written_and_read_holds : PySem.Challenge.rw_partedweb_k74_webs_written_and_read.Holds := by
  w_on; o_law; k_head; (case hw => w_witness2)
  k_fill
  refine K74.walk (l := PySem.Challenge.rw_partedweb_k74_webs_written_and_read) rfl rfl (fun w h Y => PySem.W.kIn_of Y) ?F
  case F =>
    intro w mg fa h KX G hmg
    refine' K74.all_mk KX G hmg ?a1 ?l1 ?c1 ?k1 ?a2 ?l2 ?c2 ?k2 ?a3 ?l3 ?c3 ?k3 ?a4 ?l4 ?c4 ?k4 ?a5 ?l5 ?c5 ?k5 ?a6 ?l6 ?c6 ?k6 ?a7 ?l7 ?c7 ?k7 ?a8 ?l8 ?c8 ?k8 ?a9 ?l9 ?c9 ?k9 ?a10 ?l10 ?c10 ?k10 ?a11 ?l11 ?c11 ?k11 ?a12 ?l12 ?c12 ?k12 ?a13 ?l13 ?c13 ?k13 ?a14 ?l14 ?c14 ?k14 ?a15 ?l15 ?c15 ?k15 ?a16 ?l16 ?c16 ?k16 ?a17 ?l17 ?c17 ?k17 ?a18 ?l18 ?c18 ?k18 ?a19 ?l19 ?c19 ?k19 ?a20 ?l20 ?c20 ?k20 ?a21 ?l21 ?c21 ?k21 ?a22 ?l22 ?c22 ?k22 ?a23 ?l23 ?c23 ?k23 ?gs0 ?z1 ?z2 ?z3 ?z4 ?z5 ?z6 ?z7 ?z8 ?z9 ?z10 ?z11 ?z12 ?z13 ?z14 ?z15 ?z16 ?z17
    (case a1 => k_is); (case l1 => k_is); (case c1 => k_is); (case k1 => k_is); (case a2 => k_is); (case l2 => k_is)
    (case c2 => k_is); (case k2 => k_is); (case a3 => k_is); (case l3 => k_is); (case c3 => k_is); (case k3 => k_is)
    (case a4 => k_is); (case l4 => k_is); (case c4 => k_is); (case k4 => k_is); (case a5 => k_is); (case l5 => k_is)
    (case c5 => k_is); (case k5 => k_is); (case a6 => k_is); (case l6 => k_is); (case c6 => k_is); (case k6 => k_is)
    (case a7 => k_is); (case l7 => k_is); (case c7 => k_is); (case k7 => k_is); (case a8 => k_is); (case l8 => k_is)
    (case c8 => k_is); (case k8 => k_is); (case a9 => k_is); (case l9 => k_is); (case c9 => k_is); (case k9 => k_is)
    (case a10 => k_is); (case l10 => k_is); (case c10 => k_is); (case k10 => k_is); (case a11 => k_is); (case l11 => k_is)
    (case c11 => k_is); (case k11 => k_is); (case a12 => k_is); (case l12 => k_is); (case c12 => k_is); (case k12 => k_is)
    (case a13 => k_is); (case l13 => k_is); (case c13 => k_is); (case k13 => k_is); (case a14 => k_is); (case l14 => k_is)
    (case c14 => k_is); (case k14 => k_is); (case a15 => k_is); (case l15 => k_is); (case c15 => k_is); (case k15 => k_is)
    (case a16 => k_is); (case l16 => k_is); (case c16 => k_is); (case k16 => k_is); (case a17 => k_is); (case l17 => k_is)
    (case c17 => k_is); (case k17 => k_is); (case a18 => k_is); (case l18 => k_is); (case c18 => k_is); (case k18 => k_is)
    (case a19 => k_is); (case l19 => k_is); (case c19 => k_is); (case k19 => k_is); (case a20 => k_is); (case l20 => k_is)
    (case c20 => k_is); (case k20 => k_is); (case a21 => k_is); (case l21 => k_is); (case c21 => k_is); (case k21 => k_is)
    (case a22 => k_is); (case l22 => k_is); (case c22 => k_is); (case k22 => k_is); (case a23 => k_is); (case l23 => k_is)
    (case c23 => k_is); (case k23 => k_is); (case gs0 => k_is); (case z1 => k_is); (case z2 => k_is); (case z3 => k_is)
    (case z4 => k_is); (case z5 => k_is); (case z6 => k_is); (case z7 => k_is); (case z8 => k_is); (case z9 => k_is)
    (case z10 => k_is); (case z11 => k_is); (case z12 => k_is); (case z13 => k_is); (case z14 => k_is); (case z15 => k_is)
    (case z16 => k_is); (case z17 => k_is)
#print axioms PySem.Challenge.cw_partedweb_k74_webs_written_and_read_holds
