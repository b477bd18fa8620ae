import PyProof.Rows.All
import Wide.All
import OpenK.AllK
import Wide.FinOn
import Lean
import PyProof.EqAt
import PyProof.EqKinds
import PyProof.TupleCall
import PySem.Challenge.RW_partedweb_k63_trees_by_others
set_option Elab.async false
set_option linter.all false
set_option maxRecDepth 100000
abbrev zA:=@List.length_map
abbrev zB:=@PySem.wpAny_bind
abbrev zC:=@PySem.Heap.get?_push_of_some
abbrev zD:=@List.mem_singleton
abbrev zE:=@List.getElem?_eq_some_iff
abbrev zF:=@List.getElem?_eq_getElem
abbrev zG:=@List.size_toArray
abbrev zH:=@PySem.wpAny_pure
abbrev zI:=@Nat.le_refl
abbrev zJ:=@List.map_append
abbrev zK:=@List.length_append
abbrev zL:=@List.take_succ_eq_append_getElem
abbrev zM:=@List.mem_append_right
abbrev zN:=@Bool.false_ne_true
abbrev zO:=@List.mem_append
abbrev zP:=@PySem.Heap.lt_size
abbrev zQ:=@List.mem_cons_of_mem
abbrev zR:=@List.getElem_map
abbrev zS:=@List.mem_cons_self
abbrev zT:=@List.mem_cons
abbrev zU:=@List.getElem_mem
abbrev zV:=@List.mem_append_left
abbrev zW:=@PySem.Heap.get?_push_size
abbrev zX:=@List.length_singleton
abbrev zY:=@Nat.lt_of_lt_of_le
abbrev zZ:=@Nat.ne_of_lt
abbrev zAA:=@List.mem_map
abbrev zAB:=@List.map_cons
abbrev zAC:=@Nat.le_trans
abbrev zAD:=@List.getElem?_map
abbrev zAE:=@Nat.lt_irrefl
abbrev zAF:=@List.take_length
abbrev zAG:=@List.getD_eq_getElem?_getD
abbrev zAH:=@List.length_take
abbrev zAI:=@List.lookup_cons
abbrev zAJ:=@Bool.eq_false_iff
abbrev zAK:=@List.pairwise_singleton
abbrev zAL:=@List.mem_filter
abbrev zAM:=@List.take_of_length_le
abbrev zAN:=@List.length_cons
abbrev zAO:=@Int.toNat_natCast
abbrev zAP:=@List.filter_cons
abbrev zAQ:=@Nat.zero_le
abbrev zAR:=@List.length_zipWith
abbrev zAS:=@List.nodup_nil
abbrev zAT:=@List.not_mem_nil
abbrev zAU:=@List.append_nil
abbrev zAV:=@List.nodup_append
abbrev zAW:=@List.mem_range
abbrev zAX:=@List.getElem?_append_right
abbrev zAY:=@Bool.false_eq_true
abbrev zAZ:=@Int.le_refl
abbrev zBA:=@List.length_pos_iff
abbrev zBB:=@Bool.eq_iff_iff
abbrev zBC:=@Bool.and_eq_true
abbrev zBD:=@List.map_map
abbrev zBE:=@List.replicate_succ
abbrev zBF:=@List.getElem?_append_left
abbrev zBG:=@List.length_filter_le
abbrev zBH:=@Nat.lt_succ_self
abbrev zBI:=@List.all_eq_true
abbrev zBJ:=@List.filter_append
abbrev zBK:=@Nat.sub_succ_lt_self
abbrev zBL:=@Nat.le_succ_of_le
abbrev zBM:=@List.length_range
abbrev zBN:=@List.nodup_cons
abbrev zBO:=@List.find?_cons
abbrev zBP:=@List.length_nil
abbrev zBQ:=@Array.length_toList
abbrev zBR:=@Nat.add_lt_add_left
abbrev zBS:=@List.map_congr_left
abbrev zBT:=@List.getElem_of_mem
namespace L2
open PySem PySem.Spec PyProof.Rows
noncomputable abbrev Key:=Sum Int Str
noncomputable def keyIs:Key->Value->Bool
 | .inl k,v=>Value.isInt k v
 | .inr x,v=>Value.isStrOf x v
noncomputable def keyH(w:World):Key->Int
 | .inl k=>hashInt k
 | .inr x=>hashStr w x
theorem keyIs_shape:∀ {k:Key}{v:Value},keyIs k v=true->(∃ i t,k=Sum.inl i/\v=Value.int i t)\/(∃ x t,k=Sum.inr x/\v=Value.str x t)
 | .inl i,v,h=>by
  obtain⟨t,e⟩:=Value.isInt_shape (k:=i) (v:=v) h
  exact .inl ⟨i,t,rfl,e⟩
 | .inr x,v,h=>by
  obtain⟨t,e⟩:=Value.isStrOf_shape (x:=x) (v:=v) h
  exact .inr ⟨x,t,rfl,e⟩
theorem keyIs_int(i:Int)(t:Tok):keyIs (.inl i) (.int i t)=true:=by simp[keyIs,Value.isInt]
theorem keyIs_str(x:Str)(t:Tok):keyIs (.inr x) (.str x t)=true:=by simp[keyIs,Value.isStrOf]
theorem key_ll(a b:Int):decide ((Sum.inl a:Key)=Sum.inl b)=(a == b):=by
 by_cases e:a=b
 ·subst e;simp
 ·have h:¬(Sum.inl a:Key)=Sum.inl b:=fun q=>e (Sum.inl.inj q)
  rw[decide_eq_false h]
  exact(beq_eq_false_iff_ne.mpr e).symm
theorem key_rr(a b:Str):decide ((Sum.inr a:Key)=Sum.inr b)=decide (a=b):=by
 by_cases e:a=b
 ·subst e;simp
 ·have h:¬(Sum.inr a:Key)=Sum.inr b:=fun q=>e (Sum.inr.inj q)
  rw[decide_eq_false h,decide_eq_false e]
theorem key_lr(a:Int)(b:Str):decide ((Sum.inl a:Key)=Sum.inr b)=false:=decide_eq_false (fun q=>nomatch q)
theorem key_rl(a:Str)(b:Int):decide ((Sum.inr a:Key)=Sum.inl b)=false:=decide_eq_false (fun q=>nomatch q)
noncomputable def mixKind(prog:Program)(w:World):PySem.KeyKind prog w Key where
 is:=keyIs
 hash:=keyH w
 inj:=fun v a b ha hb=>by
  rcases keyIs_shape ha with⟨i,t,rfl,rfl⟩ |⟨x,t,rfl,rfl⟩
  ·rcases keyIs_shape hb with⟨j,u,rfl,e⟩ |⟨y,u,rfl,e⟩
   ·injection e with e1 _;rw[e1]
   ·exact nomatch e
  ·rcases keyIs_shape hb with⟨j,u,rfl,e⟩ |⟨y,u,rfl,e⟩
   ·exact nomatch e
   ·injection e with e1 _;rw[e1]
 byValue:=fun k v h=>by
  rcases keyIs_shape h with⟨i,t,rfl,rfl⟩ |⟨x,t,rfl,rfl⟩ <;> rfl
 pyHash:=fun hv h=>by
  rcases keyIs_shape hv with⟨i,t,rfl,rfl⟩ |⟨x,t,rfl,rfl⟩
  ·exact wpAny_pyHash_int h
  ·exact wpAny_pyHash_str h
 eqBool:=fun hu hv h=>by
  rcases keyIs_shape hu with⟨i,t,rfl,rfl⟩ |⟨x,t,rfl,rfl⟩
  ·rcases keyIs_shape hv with⟨j,u,rfl,rfl⟩ |⟨y,u,rfl,rfl⟩
   ·rw[key_ll]at h;exact wpAny_eqBool_int h
   ·rw[key_lr]at h;exact SeqAt.EqAt.int_str i t y u _ _ _ _ h
  ·rcases keyIs_shape hv with⟨j,u,rfl,rfl⟩ |⟨y,u,rfl,rfl⟩
   ·rw[key_rl]at h;exact SeqAt.EqAt.str_int x t j u _ _ _ _ h
   ·rw[key_rr]at h;exact wpAny_eqBool_str h
 «strs»:=fun k x t v h=>by
  rcases keyIs_shape h with⟨i,u,rfl,e⟩ |⟨y,u,rfl,e⟩
  ·exact nomatch e
  ·injection e with e1 _
   subst e1
   cases v <;> rfl
theorem mixKind_int(prog:Program)(w:World)(i:Int)(t:Tok):(mixKind prog w).is (.inl i) (.int i t)=true:=keyIs_int i t
theorem mixKind_str(prog:Program)(w:World)(x:Str)(t:Tok):(mixKind prog w).is (.inr x) (.str x t)=true:=keyIs_str x t
open PySem PySem.Spec PyProof.Rows
inductive V where
 |non | bl (b:Bool) | int (i:Int) | str (x:Str) | byt (b:Array UInt8) | flt (b:UInt64) | ref (a:Addr) | ty (n:String)
 deriving DecidableEq
noncomputable def RelV:V->Value->Prop
 | .non,u=>u=Value.none
 | .bl b,u=>u=Value.bool b
 | .int i,u=>∃ t,u=Value.int i t
 | .str x,u=>∃ t,u=Value.str x t
 | .byt b,u=>∃ t,u=Value.bytes b t
 | .flt b,u=>∃ t,u=Value.float b t
 | .ref a,u=>u=Value.ref a
 | .ty n,u=>u=Value.type n
noncomputable abbrev Vals:List V->List Value->Prop:=Paired RelV
theorem Vals.length{xs:List V}{us:List Value}(r:Vals xs us):xs.length=us.length:=Paired.length r
theorem Vals.get:∀ {xs:List V}{us:List Value}{i:Nat}{x:V},Vals xs us->xs[i]?=some x->∃ u,us[i]?=some u/\RelV x u
 | _,_,_,_,.nil,e=>by simp at e
 | _,_,0,_,.cons r _,e=>by simp at e;subst e;exact⟨_,rfl,r⟩
 | _,_,i+1,x,.cons _ t,e=>by
  obtain⟨u,h1,h2⟩:=Vals.get (i:=i) (x:=x) t (by simpa using e)
  exact⟨u,by simpa using h1,h2⟩
theorem Vals.set{x:V}{u:Value}(r:RelV x u):∀ {xs:List V}{us:List Value} (i:Nat),Vals xs us->Vals (xs.set i x) (us.set i u)
 | _,_,_,.nil=>.nil
 | _,_,0,.cons _ t=>.cons r t
 | _,_,i+1,.cons q t=>.cons q (Vals.set r i t)
theorem Vals.append:∀ {xs ys:List V}{us ws:List Value},Vals xs us->Vals ys ws->Vals (xs++ys) (us++ws)
 | _,_,_,_,.nil,s=>s
 | _,_,_,_,.cons r t,s=>.cons r (Vals.append t s)
theorem Vals.take:∀ {xs:List V}{us:List Value} (n:Nat),Vals xs us->Vals (xs.take n) (us.take n)
 | _,_,0,_=>.nil
 | _,_,_+1,.nil=>.nil
 | _,_,n+1,.cons r t=>.cons r (Vals.take n t)
theorem Vals.drop:∀ {xs:List V}{us:List Value} (n:Nat),Vals xs us->Vals (xs.drop n) (us.drop n)
 | _,_,0,r=>r
 | _,_,_+1,.nil=>.nil
 | _,_,n+1,.cons _ t=>Vals.drop n t
noncomputable def RelO:Option V->Option Value->Prop
 |some v,some u=>RelV v u
 |none,none=>True
 | _,_=>False
noncomputable def KV{κ:Type}:List (κ×V)->List (κ×Value)->Prop:=Paired fun(p:κ×V) (q:κ×Value)=>p.1=q.1/\RelV p.2 q.2
noncomputable def kV:Key->V
 | .inl i=>.int i
 | .inr x=>.str x
inductive HO where
 /-- a list -/
 |lst (xs:List V)
 /-- a tuple (never changes) -/
 |tup (xs:List V)
 /-- a dict whose keys are ints and texts;one whose keys are tuples of ints and texts (the empty one is both) -/
 |dK (kvs:List (Key×V)) | dT (kvs:List (List Key×V))
 /-- a set of ints: its members,its size -/
 |set (S:Int->Bool) (n:Nat)
 /-- an instance of the class at C,its dict at dx,its attributes -/
 |ins (C dx:Addr) (fs:List (Str×V))
 /-- the dict of the instance at x -/
 |own (x:Addr)
 /-- the dict of an exception -/
 |xd (fs:List (Str×V))
 /-- a bound method,f of x -/
 |met (f x:Addr)
 /-- a range object lo,lo+1,.. below hi -/
 |rng (lo hi:Int)
 /-- a thing that is known to the object (the script;a dict while a loop walks it): read,never written while it is so -/
 |frz (o:Obj) (u:HO)
 /-- a code object's table -/
 |tbl (ps:Array Value)
 /-- any other thing,by what is true of its one object (a def of one's own: SetO a S n:=HO.ext fun h=>..) -/
 |ext (φ:Heap->Prop)
noncomputable abbrev Hp:=Addr->Option HO
noncomputable def upd(H:Hp)(a:Addr)(o:HO):Hp:=fun b=>if b=a then some o else H b
theorem upd_same{H:Hp}{a:Addr}{o:HO}:upd H a o a=some o:=by unfold upd;rw[if_pos rfl]
theorem upd_ne{H:Hp}{a b:Addr}{o:HO}(h:b≠a):upd H a o b=H b:=by unfold upd;rw[if_neg h]
theorem ne_of{H:Hp}{a b:Addr}{o u:HO}(h:H a=some o)(h':H b=some u)(d:o≠u):a≠b:=by
 intro e;subst e;rw[h]at h';exact d (Option.some.inj h')
theorem ne_of_none{H:Hp}{a b:Addr}{o:HO}(h:H a=some o)(h':H b=none):a≠b:=by
 intro e;subst e;rw[h]at h';cases h'
section
variable(P:Program)(w:World)
noncomputable def ObjOk(H:Hp)(h:Heap)(a:Addr):HO->Prop
 | .lst xs=>xs.length<=sizeLine/\∃ (its:List Value) (n:Nat),Vals xs its/\h.get? a=some { cls:=.type "list",data:=.seq its.toArray n }
 | .tup xs=>xs.length<=sizeLine/\∃ its:List Value,Vals xs its/\IsTup h a its.toArray
 | .dK kvs=>kvs.length<=sizeLine/\(a == sysModules)=false/\∃ vs,KV kvs vs/\h.DictOf (mixKind P w) a vs
 | .dT kvs=>kvs.length<=sizeLine/\(a == sysModules)=false/\∃ xs:List (List Key×Addr×Value),
   Paired (fun(p:List Key×V) (q:List Key×Addr×Value)=>p.1=q.1/\H q.2.1=some (.tup (p.1.map kV))/\RelV p.2 q.2.2) kvs xs /\
   ∃ o es ep,h.get? a=some o/\o.ExactDict/\o.data = .dict es ep/\es.toList=xs.map (entryOfKey (tupleKind (mixKind P w)))/\(xs.map (·.1)).Nodup
 | .set S n=>h.SetOf (intKind P w) a S n
 | .ins C dx fs=>H dx=some (.own a)/\fs.length<=1000/\dx≠a/\h.get? a=some (PySem.W.instObj C dx) /\
   ∃ mA,h.Ns1 dx mA/\(∀ f,RelO (fs.lookup f) (mA f))/\PySem.Within mA (fs.map (·.1))
 | .own _=>∃ o,h.get? a=some o
 | .xd fs=>∃ mA,h.Ns1 a mA/\∀ f,RelO (fs.lookup f) (mA f)
 | .rng lo hi=>∃ t u v,h.get? a=some { cls:=.type "range",data:=.fields #[.int lo t,.int hi u,.int 1 v] }
 | .frz o u=>h.get? a=some o/\ObjOk H h a u
 | .tbl ps=>h.get? a=some { cls:=.none,data:=.fields ps }
 | .met f x=>h.get? a=some (PySem.W.methodObj (.ref f) (.ref x))
 | .ext φ=>φ h/\(∃ o,h.get? a=some o)/\∀ h1 h2:Heap,φ h1->(∀ o,h1.get? a=some o->h2.get? a=some o)->φ h2
noncomputable def HOk(H:Hp)(h:Heap):Prop:=∀ a o,H a=some o->ObjOk P w H h a o
end
section
variable{P:Program}{w:World}{H H':Hp}{h h':Heap}{a:Addr}{o:HO}
theorem ObjOk.lt(x:ObjOk P w H h a o):a<h.objs.size:=by
 cases o with
 |lst xs=>obtain⟨_,_,_,_,e⟩:=x;exact zP e
 |tup xs=>obtain⟨_,_,_,p⟩:=x;exact p.lt
 |dK kvs=>obtain⟨_,_,_,_,o,_,_,e,_⟩:=x;exact zP e
 |dT kvs=>obtain⟨_,_,_,_,o,_,_,e,_⟩:=x;exact zP e
 |set S n=>obtain⟨o,_,_,_,e,_⟩:=x;exact zP e
 |ins C dx fs=>obtain⟨_,_,_,e,_⟩:=x;exact zP e
 |own y=>obtain⟨_,e⟩:=x;exact zP e
 |xd fs=>obtain⟨_,⟨_,_,_,e,_⟩,_⟩:=x;exact zP e
 |rng lo hi=>obtain⟨_,_,_,e⟩:=x;exact zP e
 |frz ob u=>obtain⟨e,_⟩:=x;exact zP e
 |tbl ps=>exact zP (show h.get? a=some _ from x)
 |met f y=>exact zP (show h.get? a=some _ from x)
 |ext φ=>obtain⟨_,⟨_,e⟩,_⟩:=x;exact zP e
theorem Paired.mapP{α β:Type}{F G:α->β->Prop}:∀ {l₁:List α}{l₂:List β},Paired F l₁ l₂->(∀ a b,F a b->G a b)->Paired G l₁ l₂
 | _,_,.nil,_=>.nil
 | _,_,.cons r t,f=>.cons (f _ _ r) (Paired.mapP t f)
theorem ObjOk.stay(x:ObjOk P w H h a o)(k:∀ b u,(b=a\/H b=some (.own a))->h.get? b=some u->h'.get? b=some u)
  (ho:∀ b,H b=some (.own a)->H' b=some (.own a)) (ht:∀ b xs,H b=some (.tup xs)->H' b=some (.tup xs)):ObjOk P w H' h' a o:=by
 induction o with
 |lst xs=>obtain⟨z,its,n,r,e⟩:=x;exact⟨z,its,n,r,k _ _ (.inl rfl) e⟩
 |tup xs=>obtain⟨z,its,r,ob,e,c⟩:=x;exact⟨z,its,r,ob,k _ _ (.inl rfl) e,c⟩
 |dK kvs=>obtain⟨z,y,vs,r,ob,es,ep,e,c⟩:=x;exact⟨z,y,vs,r,ob,es,ep,k _ _ (.inl rfl) e,c⟩
 |dT kvs =>
  obtain⟨z,y,xs,r,ob,es,ep,e,c⟩:=x
  exact⟨z,y,xs,Paired.mapP r fun p q z=>⟨z.1,ht _ _ z.2.1,z.2.2⟩,ob,es,ep,k _ _ (.inl rfl) e,c⟩
 |set S n=>obtain⟨ob,es,ep,t,e,c⟩:=x;exact⟨ob,es,ep,t,k _ _ (.inl rfl) e,c⟩
 |ins C dx fs =>
  obtain⟨d,z,ne,e,mA,⟨od,es,ep,e2,c⟩,r⟩:=x
  exact⟨ho _ d,z,ne,k _ _ (.inl rfl) e,mA,⟨od,es,ep,k _ _ (.inr d) e2,c⟩,r⟩
 |own y=>obtain⟨ob,e⟩:=x;exact⟨ob,k _ _ (.inl rfl) e⟩
 |xd fs=>obtain⟨mA,⟨od,es,ep,e,c⟩,r⟩:=x;exact⟨mA,⟨od,es,ep,k _ _ (.inl rfl) e,c⟩,r⟩
 |rng lo hi=>obtain⟨t,u,v,e⟩:=x;exact⟨t,u,v,k _ _ (.inl rfl) e⟩
 |frz ob u ih=>obtain⟨e,q⟩:=x;exact⟨k _ _ (.inl rfl) e,ih q⟩
 |tbl ps =>
  have e:h.get? a=some { cls:=.none,data:=.fields ps }:=x
  show h'.get? a=some { cls:=.none,data:=.fields ps }
  exact k a _ (.inl rfl) e
 |met f y =>
  have e:h.get? a=some (PySem.W.methodObj (.ref f) (.ref y)):=x
  show h'.get? a=some (PySem.W.methodObj (.ref f) (.ref y))
  exact k a _ (.inl rfl) e
 |ext φ=>obtain⟨p,⟨o,e⟩,st⟩:=x;exact⟨st _ _ p fun o q=>k _ _ (.inl rfl) q,⟨o,k _ _ (.inl rfl) e⟩,st⟩
theorem HOk.lt(x:HOk P w H h)(e:H a=some o):a<h.objs.size:=(x a o e).lt
theorem HOk.fresh(x:HOk P w H h)(e:h.objs.size<=a):H a=none:=by
 cases q:H a with
 |none=>rfl
 |some u=>exact absurd (zY (x.lt q) e) (zAE _)
theorem HOk.kept(x:HOk P w H h)(k:∀ b u,h.get? b=some u->h'.get? b=some u):HOk P w H h':=fun a o e =>
 (x a o e).stay (fun b u _ q=>k b u q) (fun _ q=>q) fun _ _ q=>q
theorem HOk.laid(x:HOk P w H h)(k:∀ b u,h.get? b=some u->h'.get? b=some u)(hp:h.objs.size<=a)(new:ObjOk P w (upd H a o) h' a o):HOk P w (upd H a o) h':=fun b u e=>by
 have hn:=x.fresh hp
 by_cases hb:b=a
 ·subst hb;rw[upd_same]at e;cases e;exact new
 ·rw[upd_ne hb]at e
  exact(x b u e).stay (fun c v _ q=>k c v q) (fun c q=>by rw[upd_ne (ne_of_none q hn)];exact q) fun c xs q=>by rw[upd_ne (ne_of_none q hn)];exact q
end
noncomputable def Rd(H:Hp)(a:Addr)(u:HO):Prop:=H a=some u\/∃ o,H a=some (.frz o u)
theorem Rd.ok{P:Program}{w:World}{H:Hp}{h:Heap}{a:Addr}{u:HO}(r:Rd H a u)(x:HOk P w H h):ObjOk P w H h a u:=by
 rcases r with r |⟨o,r⟩
 ·exact x a u r
 ·obtain⟨_,q⟩:=x a _ r
  exact q
noncomputable def Mut:Option HO->Prop
 |some (.lst _)=>True
 |some (.dK _)=>True
 |some (.dT _)=>True
 |some (.set _ _)=>True
 |some (.ins _ _ _)=>True
 |some (.ext _)=>True
 | _=>False
section
variable{P:Program}{w:World}{H:Hp}{h h':Heap}{x e:Addr}{o':HO}
theorem HOk.write(ok:HOk P w H h)(mu:Mut (H x))(he:e=x\/H e=some (.own x))(k:∀ b u,b≠e->h.get? b=some u->h'.get? b=some u)(heo:∃ u,h'.get? e=some u)
  (new:ObjOk P w (upd H x o') h' x o'):HOk P w (upd H x o') h':=fun b u q=>by
 have nown:∀ c y,H c=some (.own y)->c≠x:=fun c y r z=>by subst z;rw[r]at mu;exact mu
 have ntup:∀ c xs,H c=some (.tup xs)->c≠x:=fun c xs r z=>by subst z;rw[r]at mu;exact mu
 by_cases hb:b=x
 ·subst hb;rw[upd_same]at q;cases q;exact new
 ·rw[upd_ne hb]at q
  by_cases hbe:b=e
  ·have q':H b=some (.own x):=by
    rcases he with z | z
    ·exact absurd (hbe.trans z) hb
    ·rw[hbe];exact z
   rw[q]at q';cases q'
   obtain⟨v,hv⟩:=heo
   exact⟨v,by rw[hbe];exact hv⟩
  ·refine(ok b u q).stay (fun c v hc r=>k c v ?_ r) (fun c r=>by rw[upd_ne (nown c b r)];exact r) fun c xs r=>by rw[upd_ne (ntup c xs r)];exact r
   rcases hc with rfl | hc
   ·exact hbe
   ·rintro rfl
    rcases he with z | z
    ·exact nown c b hc z
    ·rw[hc]at z;cases z;exact hb rfl
end
structure Un(fs ex:List Addr)(H H':Hp)(h h':Heap):Prop where
 keep:∀ b o,h.get? b=some o->H b=none->b∉fs->b∉ex->h'.get? b=some o
 slot:∀ b o,h.get? b=some o->H b=none->b∈fs->b∉ex->∃ sl,h'.get? b=some { o with slots:=sl }
 free:∀ b o,h.get? b=some o->H b=none->b∉ex->H' b=none
 there:∀ b o,h.get? b=some o->b∉ex->∃ o',h'.get? b=some o'
 tups:∀ b xs,H b=some (.tup xs)->H' b=some (.tup xs)
 frzs:∀ b o u,H b=some (.frz o u)->H' b=some (.frz o u)
 tbls:∀ b ps,H b=some (.tbl ps)->∃ more,H' b=some (.tbl (ps++more))
section
variable{fs fs' ex ex':List Addr}{H H1 H2:Hp}{h h1 h2 h':Heap}{a x e:Addr}{o:HO}
theorem Un.any(u:Un fs ex H H1 h h1){b:Addr}{ob:Obj}(q:h.get? b=some ob)(n:H b=none)(hx:b∉ex):∃ sl,h1.get? b=some { ob with slots:=sl }:=by
 by_cases hb:b∈fs
 ·exact u.slot b ob q n hb hx
 ·exact⟨ob.slots,u.keep b ob q n hb hx⟩
theorem Un.kept(k:∀ b u,h.get? b=some u->h'.get? b=some u):Un fs ex H H h h' :=
 ⟨fun b ob q _ _ _=>k b ob q,fun b ob q _ _ _=>⟨ob.slots,k b ob q⟩,fun _ _ _ n _=>n,fun b ob q _=>⟨ob,k b ob q⟩,fun _ _ q=>q,fun _ _ _ q=>q,fun _ ps q=>⟨#[],by rw[q];simp⟩⟩
theorem Un.refl:Un fs ex H H h h:=Un.kept fun _ _ q=>q
theorem Un.laid(k:∀ b u,h.get? b=some u->h'.get? b=some u)(hp:h.objs.size<=a)(hn:H a=none):Un fs ex H (upd H a o) h h' where
 keep:=fun b u q _ _ _=>k b u q
 slot:=fun b u q _ _ _=>⟨u.slots,k b u q⟩
 free:=fun b u q n _=>by rw[upd_ne (zZ (zY (zP q) hp))];exact n
 there:=fun b u q _=>⟨u,k b u q⟩
 tups:=fun b xs q=>by rw[upd_ne (ne_of_none q hn)];exact q
 frzs:=fun b u xs q=>by rw[upd_ne (ne_of_none q hn)];exact q
 tbls:=fun b ps q=>⟨#[],by rw[upd_ne (ne_of_none q hn),q];simp⟩
theorem Un.write(mu:Mut (H x))(he:e=x\/H e=some (.own x))(k:∀ b u,b≠e->h.get? b=some u->h'.get? b=some u)(heo:∃ u,h'.get? e=some u):Un fs ex H (upd H x o) h h':=by
 have hx:∀ b,H b=none->b≠x:=fun b n z=>by subst z;rw[n]at mu;exact mu
 have hb:∀ b,H b=none->b≠e:=fun b n z=>by
  subst z
  rcases he with r | r
  ·exact hx b n r
  ·rw[n]at r;cases r
 have hm:∀ b u,H b=some u->¬ Mut (some u)->b≠x:=fun b u q nm z=>by subst z;rw[q]at mu;exact nm mu
 refine⟨fun b u q n _ _=>k b u (hb b n) q,fun b u q n _ _=>⟨u.slots,k b u (hb b n) q⟩,fun b u q n _=>by rw[upd_ne (hx b n)];exact n,fun b u q _=>?_,
  fun b xs q=>by rw[upd_ne (hm b _ q fun z=>z)];exact q,fun b u xs q=>by rw[upd_ne (hm b _ q fun z=>z)];exact q,fun b ps q=>⟨#[],by rw[upd_ne (hm b _ q fun z=>z),q];simp⟩⟩
 by_cases hbe:b=e
 ·subst hbe;exact heo
 ·exact⟨u,k b u hbe q⟩
end
noncomputable def trk(h:Heap)(H:Hp):List Addr:=(List.range h.objs.size).filter fun a=>(H a).isSome
noncomputable def hidT(h:Heap)(H:Hp):Heap:=PySem.W.hideAll h (trk h H)
theorem hidT_size(h:Heap)(H:Hp):(hidT h H).objs.size=h.objs.size:=PySem.W.hideAll_size _ _
theorem hidT_get{h:Heap}{H:Hp}{b:Addr}{o:Obj}(e:h.get? b=some o)(n:H b=none):(hidT h H).get? b=some o :=
 PySem.W.hideAll_get _ e fun hm=>by
  have q:(H b).isSome=true:=(zAL.mp hm).2
  rw[n]at q;simp at q
theorem of_hidT{h:Heap}{H:Hp}{b:Addr}{o:Obj}(e:(hidT h H).get? b=some o):h.get? b=some o/\H b=none:=by
 have e':h.get? b=some o:=PySem.W.of_hideAll (trk h H) e
 refine⟨e',?_⟩
 cases q:H b with
 |none=>rfl
 |some x =>
  have hm:b∈trk h H:=zAL.mpr ⟨zAW.mpr (zP e'),by simp[q]⟩
  have z:(hidT h H).get? b=none:=PySem.W.hideAll_none (trk h H) hm
  rw[z]at e;cases e
open PySem PySem.Spec PyProof.Rows
structure Mod(K:PySem.W.Frag)(mg:Str->Option Value)(base:Heap):Prop where
 kin:K.In base
 glob:base.Ns mainGlobals mg
 blt:∃ mb,base.Ns builtinsNs mb/\∀ x:Str,x≠"__name__"->mb x=bootBuiltins x
 nolimit:base.NoLimit
structure Cx where
 prog:Program
 w:World
 K:PySem.W.Frag
 mg:Str->Option Value
 base:Heap
 A:Around
 N:List Str
 s₀:Shared
 H₀:Hp
 env:Env
 outer:List Env
 stack:List Env
 ex:List Addr
 fn:Str->Bool
 calm:Bool
 pn:List (Addr×Obj)
 xe:Value->Shared->Prop
noncomputable def frs(l:List Env):List Addr:=l.filterMap (·.frame)
noncomputable abbrev Cx.fs(X:Cx):List Addr:=frs X.outer
noncomputable def Vis(sc:Scope)(x:Str):Prop:=sc.names.lookup x=some .local\/sc.names.lookup x=some .cell\/sc.names.lookup x=some .free
noncomputable def Loc(sc:Scope)(x:Str):Prop:=sc.names.lookup x=some .local\/sc.names.lookup x=some .cell
noncomputable def Look(env:Env)(h:Heap)(m:Str->Option Value)(x:Str)(u:Value):Prop :=
 (env.kindOf x=some .local/\m x=some u)\/((env.kindOf x=some .cell\/env.kindOf x=some .free)/\∃ c,env.cells.lookup x=some c/\h.IsCell c (some u))
structure Cx.Ok(X:Cx):Prop where
 mod:Mod X.K X.mg X.base
 kind:X.env.scope.kind = .function
 glob:X.env.globals=mainGlobals
 blt:X.env.builtins=builtinsNs
 above:X.s₀.heap.objs.size<=X.env.locals
 inj:∀ x y c,X.env.cells.lookup x=some c->X.env.cells.lookup y=some c->x=y
 has:∀ x,(X.env.kindOf x=some .cell\/X.env.kindOf x=some .free)->∃ c,X.env.cells.lookup x=some c
 cab:∀ x c,X.fn x=true->X.env.cells.lookup x=some c->X.s₀.heap.objs.size<=c
 hd:X.calm=true->X.A.handled=none
 frames:X.A.frames=some X.stack
 stk:X.stack=X.outer\/(X.stack=X.env :: X.outer/\X.env.frame=some X.env.locals)
 exf:∀ b∈X.ex,b≠X.env.locals/\∀ x c,X.env.cells.lookup x=some c->c≠b
 bs:∀ b o,X.base.get? b=some o->X.s₀.heap.get? b=some o/\X.H₀ b=none
 bsz:X.base.objs.size<=X.s₀.heap.objs.size
 noex:∀ b o,X.base.get? b=some o->b∉X.ex
 exfs:∀ b∈X.ex,b∉X.fs
 funs:X.s₀.heap.FunFrames X.base X.outer
 frf:∀ b∈X.fs,X.H₀ b=none
structure Inv(X:Cx)(pins:List (Addr×Obj))(σ:List (Option V))(H:Hp)(s:Shared):Prop where
 ok:X.Ok
 os:s.os=X.s₀.os
 bare:AllBare s.gens
 base:Un X.fs X.ex X.H₀ H X.s₀.heap s.heap
 loc:∃ m,s.heap.Ns X.env.locals m/\∀ (i:Nat) (x:Str) (v:V),X.N[i]?=some x->σ[i]?=some (some v)->Vis X.env.scope x->∃ u,RelV v u/\Look X.env s.heap m x u
 cell:∀ x c,X.env.cells.lookup x=some c->∃ v,s.heap.IsCell c v
 free:H X.env.locals=none
 freeC:∀ x c,X.env.cells.lookup x=some c->H c=none
 pin:∀ p∈X.pn++pins,s.heap.get? p.1=some p.2/\H p.1=none/\p.1≠X.env.locals/\p.1∉X.fs/\∀ v,p.2.data≠.cell v
 hok:HOk X.prog X.w H s.heap
 len:σ.length=X.N.length
section
variable{X:Cx}{pins:List (Addr×Obj)}{σ:List (Option V)}{H H':Hp}{s:Shared}{h':Heap}
theorem Cx.Ok.nofr(ok:X.Ok){b:Addr}{o:Obj}(e:X.base.get? b=some o):b∉X.fs:=fun hb=>by
 have:=(ok.funs.mem hb).1
 rw[e]at this;cases this
theorem Inv.bs(I:Inv X pins σ H s):∀ b o,X.base.get? b=some o->s.heap.get? b=some o/\H b=none:=fun b o e =>
 ⟨I.base.keep b o (I.ok.bs b o e).1 (I.ok.bs b o e).2 (I.ok.nofr e) (I.ok.noex b o e),I.base.free b o (I.ok.bs b o e).1 (I.ok.bs b o e).2 (I.ok.noex b o e)⟩
theorem Inv.bk(I:Inv X pins σ H s):∀ b o,X.base.get? b=some o->s.heap.get? b=some o:=fun b o e=>(I.bs b o e).1
theorem Inv.mod(I:Inv X pins σ H s):Mod X.K X.mg X.base:=I.ok.mod
theorem Inv.kIn(I:Inv X pins σ H s):X.K.In s.heap:=I.ok.mod.kin.keeps I.bk
theorem Inv.lt(I:Inv X pins σ H s):X.env.locals<s.heap.objs.size:=let ⟨_,hn,_⟩:=I.loc;hn.lt
theorem Inv.sz(I:Inv X pins σ H s):X.s₀.heap.objs.size<=s.heap.objs.size:=zAC I.ok.above (Nat.le_of_lt I.lt)
theorem Inv.nofs(I:Inv X pins σ H s){a:Addr}(h:s.heap.objs.size<=a):a∉X.fs:=fun hb=>by
 obtain⟨_,o,ho,_⟩:=I.ok.funs.mem hb
 exact absurd (zY (zP ho) (zAC I.sz h)) (zAE _)
theorem Inv.cne(I:Inv X pins σ H s):∀ x c,X.env.cells.lookup x=some c->c≠X.env.locals:=fun x c e z=>by
 obtain⟨v,o,ho,hd⟩:=I.cell x c e
 obtain⟨m,⟨o',es,ep,ho',hd',_⟩,_⟩:=I.loc
 rw[z,ho']at ho;cases ho;rw[hd']at hd;cases hd
theorem Inv.funs(I:Inv X pins σ H s):s.heap.FunFrames X.base X.outer:=by
 have all:∀ (l:List Env),(∀ b∈frs l,b∈X.fs)->X.s₀.heap.FunFrames X.base l->s.heap.FunFrames X.base l:=by
  intro l
  induction l with
  |nil=>intro _ _;trivial
  |cons env r ih =>
   intro hs hl
   obtain⟨hk,⟨L,o,hf,hn,ho,hd⟩,hr⟩:=hl
   have hL:L∈X.fs:=hs L (by unfold frs;rw[List.filterMap_cons,hf];exact zS)
   obtain⟨sl,e⟩:=I.base.slot L o ho (I.ok.frf L hL) hL fun z=>I.ok.exfs L z hL
   exact⟨hk,⟨L,_,hf,hn,e,hd⟩,ih (fun b hb=>hs b (by unfold frs;rw[List.filterMap_cons,hf];exact zQ _ hb)) hr⟩
 exact all X.outer (fun _ hb=>hb) I.ok.funs
theorem Inv.stack(I:Inv X pins σ H s):s.heap.FunFrames X.base X.stack:=by
 rcases I.ok.stk with e |⟨e,hf⟩
 ·rw[e];exact I.funs
 ·rw[e]
  obtain⟨m,hn,_⟩:=I.loc
  refine .cons (by rw[I.ok.kind];decide) hf hn ?_ I.funs
  exact Heap.get?_none_of_le (zAC I.ok.bsz I.ok.above)
theorem Inv.stkSub(I:Inv X pins σ H s):∀ b∈frs X.stack,b∈X.env.locals :: X.fs:=fun b hb=>by
 rcases I.ok.stk with e |⟨e,hf⟩
 ·rw[e]at hb;exact zQ _ hb
 ·rw[e]at hb
  unfold frs at hb
  rw[List.filterMap_cons,hf]at hb
  exact hb
theorem Inv.stkFree(I:Inv X pins σ H s):∀ b∈frs X.stack,H b=none:=fun b hb=>by
 rcases zT.mp (I.stkSub b hb)with e | hb
 ·rw[e];exact I.free
 ·obtain⟨_,o,ho,_⟩:=I.ok.funs.mem hb
  exact I.base.free b o ho (I.ok.frf b hb) fun z=>I.ok.exfs b z hb
theorem Inv.step{g':Array GenState}{t':Nat}{d':Drawn}{ch:List Addr}(I:Inv X pins σ H s)
  (hch:∀ b∈ch,(b∈X.ex\/X.s₀.heap.objs.size<=b)/\b≠X.env.locals/\(∀ x c,X.env.cells.lookup x=some c->c≠b)/\∀ p∈X.pn++pins,p.1≠b)
  (keep:∀ b o,b≠X.env.locals->b∉X.fs->b∉ch->s.heap.get? b=some o->H b=none->h'.get? b=some o)
  (slot:∀ b o,b≠X.env.locals->b∈X.fs->b∉ch->s.heap.get? b=some o->H b=none->∃ sl,h'.get? b=some { o with slots:=sl }) (free:∀ b o,b∉ch->s.heap.get? b=some o->H b=none->H' b=none)
  (there:∀ b o,b∉ch->s.heap.get? b=some o->∃ o',h'.get? b=some o')
  (tups:∀ b xs,H b=some (.tup xs)->H' b=some (.tup xs)) (frzs:∀ b o u,H b=some (.frz o u)->H' b=some (.frz o u)) (tbls:∀ b ps,H b=some (.tbl ps)->∃ more,H' b=some (.tbl (ps++more)))
  (ns:∀ m,s.heap.Ns X.env.locals m->h'.Ns X.env.locals m) (hok:HOk X.prog X.w H' h') (hg:AllBare g') :
  Inv X pins σ H' { s with heap:=h',gens:=g',drawn:=d',toks:=t' }:=by
 have neL:∀ b o,X.s₀.heap.get? b=some o->b≠X.env.locals:=fun b o e=>zZ (zY (zP e) I.ok.above)
 have neC:∀ b o,X.s₀.heap.get? b=some o->b∉X.ex->b∉ch:=fun b o e hx hb=>by
  rcases(hch b hb).1 with z | z
  ·exact hx z
  ·exact absurd (zY (zP e) z) (zAE _)
 have cellK:∀ x c,X.env.cells.lookup x=some c->∀ v,s.heap.IsCell c v->h'.IsCell c v:=fun x c e v ⟨o,ho,hd⟩=>by
  have nch:c∉ch:=fun z=>(hch c z).2.2.1 x c e rfl
  by_cases hc:c∈X.fs
  ·obtain⟨sl,q⟩:=slot c o (I.cne x c e) hc nch ho (I.freeC x c e)
   exact⟨_,q,hd⟩
  ·exact⟨o,keep c o (I.cne x c e) hc nch ho (I.freeC x c e),hd⟩
 refine⟨I.ok,I.os,hg,⟨fun b o e n hb hx=>?_,fun b o e n hb hx=>?_,fun b o e n hx=>?_,fun b o e hx=>?_,fun b xs e=>tups b xs (I.base.tups b xs e),fun b o xs e=>frzs b o xs (I.base.frzs b o xs e),fun b ps e=>?_⟩,?_,fun x c e=>?_,?_,fun x c e=>?_,fun p hp=>?_,hok,I.len⟩
 ·exact keep b o (neL b o e) hb (neC b o e hx) (I.base.keep b o e n hb hx) (I.base.free b o e n hx)
 ·obtain⟨sl,e1⟩:=I.base.slot b o e n hb hx
  obtain⟨sl',e2⟩:=slot b _ (neL b o e) hb (neC b o e hx) e1 (I.base.free b o e n hx)
  exact⟨sl',e2⟩
 ·obtain⟨o',e1⟩:=I.base.there b o e hx
  exact free b o' (neC b o e hx) e1 (I.base.free b o e n hx)
 ·obtain⟨o',e1⟩:=I.base.there b o e hx
  exact there b o' (neC b o e hx) e1
 ·obtain⟨m1,e1⟩:=I.base.tbls b ps e
  obtain⟨m2,e2⟩:=tbls b _ e1
  exact⟨m1++m2,by rw[e2,Array.append_assoc]⟩
 ·obtain⟨m,hn,hl⟩:=I.loc
  refine⟨m,ns m hn,fun i x v e1 e2 e3=>?_⟩
  obtain⟨u,r,l⟩:=hl i x v e1 e2 e3
  refine⟨u,r,?_⟩
  rcases l with l |⟨k,c,e,z⟩
  ·exact .inl l
  ·exact .inr ⟨k,c,e,cellK x c e _ z⟩
 ·obtain⟨v,z⟩:=I.cell x c e
  exact⟨v,cellK x c e v z⟩
 ·obtain⟨m,⟨o,_,_,ho,_⟩,_⟩:=I.loc
  exact free _ o (fun z=>(hch _ z).2.1 rfl) ho I.free
 ·obtain⟨v,o,ho,hd⟩:=I.cell x c e
  exact free c o (fun z=>(hch c z).2.2.1 x c e rfl) ho (I.freeC x c e)
 ·obtain⟨e,n,ne,nf,d⟩:=I.pin p hp
  have nch:p.1∉ch:=fun z=>(hch p.1 z).2.2.2 p hp rfl
  exact⟨keep p.1 p.2 ne nf nch e n,free p.1 p.2 nch e n,ne,nf,d⟩
theorem Inv.un{t':Nat}(I:Inv X pins σ H s)(u:Un X.fs [] H H' s.heap h')(hok:HOk X.prog X.w H' h'):Inv X pins σ H' { s with heap:=h',toks:=t' }:=by
 obtain⟨m,⟨o,es,ep,ho,r⟩,_⟩:=id I.loc
 obtain⟨sl,hL⟩:=u.any ho I.free (by simp)
 exact I.step (g':=s.gens) (d':=s.drawn) (ch:=[]) (fun _ z=>nomatch z) (fun b o _ hb _ e n=>u.keep b o e n hb (by simp)) (fun b o _ hb _ e n=>u.slot b o e n hb (by simp)) (fun b o _ e n=>u.free b o e n (by simp)) (fun b o _ e=>u.there b o e (by simp)) u.tups u.frzs u.tbls (fun m' hm=>by
  obtain⟨o',es',ep',ho',r'⟩:=hm
  rw[ho]at ho';cases ho'
  exact⟨_,es',ep',hL,r'⟩) hok I.bare
theorem Inv.call{g':Array GenState}{t':Nat}{d':Drawn}{ch:List Addr}(I:Inv X pins σ H s)(u:Un (frs X.stack) ch H H' s.heap h')(hok:HOk X.prog X.w H' h')(hg:AllBare g')
  (hch:∀ b∈ch,(b∈X.ex\/X.s₀.heap.objs.size<=b)/\b≠X.env.locals/\(∀ x c,X.env.cells.lookup x=some c->c≠b)/\∀ p∈X.pn++pins,p.1≠b) :
  Inv X pins σ H' { s with heap:=h',gens:=g',drawn:=d',toks:=t' }:=by
 obtain⟨m,⟨o,es,ep,ho,r⟩,_⟩:=id I.loc
 obtain⟨sl,hL⟩:=u.any ho I.free fun z=>(hch _ z).2.1 rfl
 exact I.step (ch:=ch) hch (fun b o hL hb hc e n=>u.keep b o e n (fun z=>(zT.mp (I.stkSub b z)).elim hL hb) hc) (fun b o _ _ hc e n=>u.any e n hc) (fun b o hc e n=>u.free b o e n hc) (fun b o hc e=>u.there b o e hc) u.tups u.frzs u.tbls (fun m' hm=>by
  obtain⟨o',es',ep',ho',r'⟩:=hm
  rw[ho]at ho';cases ho'
  exact⟨_,es',ep',hL,r'⟩) hok hg
theorem Inv.turned{t':Nat}{it:Addr}(I:Inv X pins σ H s)(k:∀ b o,b≠it->s.heap.get? b=some o->h'.get? b=some o)(hn:H it=none)(hL:it≠X.env.locals)
  (h1:it∈X.ex\/X.s₀.heap.objs.size<=it) (h2:∀ x c,X.env.cells.lookup x=some c->c≠it) (h3:∀ p∈X.pn++pins,p.1≠it):Inv X pins σ H { s with heap:=h',toks:=t' }:=by
 have nit:∀ b u,H b=some u->b≠it:=fun b u e z=>by rw[z,hn]at e;cases e
 refine I.step (g':=s.gens) (d':=s.drawn) (ch:=[it]) (fun b hb=>?_) (fun b o _ _ hc e _=>k b o (fun z=>hc (by simp[z])) e) (fun b o _ _ hc e _=>⟨o.slots,k b o (fun z=>hc (by simp[z])) e⟩) (fun _ _ _ _ n=>n)
  (fun b o hc e=>⟨o,k b o (fun z=>hc (by simp[z])) e⟩) (fun _ _ e=>e) (fun _ _ _ e=>e) (fun b ps e=>⟨#[],by rw[e];simp⟩) (fun m hm=>?_) (fun b u e=>?_) I.bare
 ·have e:b=it:=by simpa using hb
  subst e
  exact⟨h1,hL,h2,h3⟩
 ·obtain⟨o,es,ep,ho,r⟩:=hm
  exact⟨o,es,ep,k _ o (Ne.symm hL) ho,r⟩
 ·refine(I.hok b u e).stay (fun c v hc q=>k c v ?_ q) (fun _ q=>q) fun _ _ q=>q
  rcases hc with z | z
  ·rw[z];exact nit b u e
  ·exact nit c _ z
theorem Inv.tok(I:Inv X pins σ H s)(t:Nat):Inv X pins σ H { s with toks:=t }:=I.un (h':=s.heap) (t':=t) Un.refl I.hok
theorem Inv.kept{t':Nat}(I:Inv X pins σ H s)(k:∀ b u,s.heap.get? b=some u->h'.get? b=some u):Inv X pins σ H { s with heap:=h',toks:=t' }:=I.un (Un.kept k) (I.hok.kept k)
theorem Inv.laid{a:Addr}{o:HO}{t':Nat}(I:Inv X pins σ H s)(k:∀ b u,s.heap.get? b=some u->h'.get? b=some u)(hp:s.heap.objs.size<=a)(new:ObjOk X.prog X.w (upd H a o) h' a o) :
  Inv X pins σ (upd H a o) { s with heap:=h',toks:=t' }:=I.un (Un.laid k hp (I.hok.fresh hp)) (I.hok.laid k hp new)
theorem Inv.write{x e:Addr}{o:HO}{t':Nat}(I:Inv X pins σ H s)(mu:Mut (H x))(he:e=x\/H e=some (.own x))(k:∀ b u,b≠e->s.heap.get? b=some u->h'.get? b=some u)(heo:∃ u,h'.get? e=some u)
  (new:ObjOk X.prog X.w (upd H x o) h' x o):Inv X pins σ (upd H x o) { s with heap:=h',toks:=t' }:=I.un (Un.write mu he k heo) (I.hok.write mu he k heo new)
theorem Inv.weak{σ':List (Option V)}(I:Inv X pins σ H s)(hl:σ'.length=σ.length)(w:∀ (i:Nat) v,σ'[i]?=some (some v)->σ[i]?=some (some v)):Inv X pins σ' H s :=
 ⟨I.ok,I.os,I.bare,I.base,let ⟨m,hn,hl'⟩:=I.loc;⟨m,hn,fun i x v e1 e2 e3=>hl' i x v e1 (w i v e2) e3⟩,I.cell,I.free,I.freeC,I.pin,I.hok,hl.trans I.len⟩
theorem Inv.pins_of{pins':List (Addr×Obj)}(I:Inv X pins σ H s)(h:∀ p∈pins',s.heap.get? p.1=some p.2/\H p.1=none/\p.1≠X.env.locals/\p.1∉X.fs/\∀ v,p.2.data≠.cell v):Inv X pins' σ H s :=
 ⟨I.ok,I.os,I.bare,I.base,I.loc,I.cell,I.free,I.freeC,fun p hp=>(zO.mp hp).elim (fun z=>I.pin p (zV _ z)) (h p),I.hok,I.len⟩
theorem nodup_ix{N:List Str}(hN:N.Nodup){i j:Nat}{x:Str}(a:N[i]?=some x)(b:N[j]?=some x):i=j:=by
 obtain⟨h1,e1⟩:=zE.mp a
 obtain⟨h2,e2⟩:=zE.mp b
 exact(List.getElem_inj hN).mp (e1.trans e2.symm)
theorem store_ok2{M:Model}{A:Around}{E:Value->Shared->Prop}{i:Nat}{x:Str}{v:V}{u:Value}{Q:Unit->Shared->Prop}(I:Inv X pins σ H s)(hN:X.N.Nodup)(hi:X.N[i]?=some x)(hx:Loc X.env.scope x)(r:RelV v u)
  (h:∀ s',Inv X pins (σ.set i (some v)) H s'->(∃ a,Heap.SameBut a s.heap s'.heap/\(a=X.env.locals\/X.env.cells.lookup x=some a))->Q () s') (hf:X.fn x=true\/X.env.scope.names.lookup x=some .local:=by first | exact .inl rfl | exact .inr rfl | assumption):wpAny M A (storeName X.env x u) Q E s:=by
 obtain⟨m,hn,hl⟩:=id I.loc
 have hcls:(X.env.scope.kind == .class ||(X.env.scope.kind == .module && X.env.locals != X.env.globals))=false:=by rw[I.ok.kind];rfl
 have hiσ:i<σ.length:=by rw[I.len];exact(zE.mp hi).1
 have cne:=I.cne
 have tracked:∀ {a:Addr}{h':Heap},(∃ o,s.heap.get? a=some o/\H a=none)->Heap.SameBut a s.heap h'->HOk X.prog X.w H h':=fun {a h'} ha hs b ob e=>by
  obtain⟨_,_,hfree⟩:=ha
  refine(I.hok b ob e).stay (fun c w' hc q=>(hs.2 c ?_).trans q) (fun _ q=>q) fun _ _ q=>q
  rintro rfl
  rcases hc with rfl | hc
  ·rw[hfree]at e;cases e
  ·rw[hfree]at hc;cases hc
 rcases hx with hk | hk
 ·refine wpAny_storeName_local hk hn (fun h' hn' hs=>?_) hcls
  obtain⟨oL,_,_,hoL,_⟩:=id hn
  refine h _ ⟨I.ok,I.os,I.bare,⟨fun b o e n hb hx=>?_,fun b o e n hb hx=>?_,I.base.free,fun b o e hx=>?_,I.base.tups,I.base.frzs,I.base.tbls⟩,⟨_,hn',fun j y v' e1 e2 e3=>?_⟩,fun y c e=>?_,I.free,I.freeC,fun p hp=>?_,tracked ⟨oL,hoL,I.free⟩ hs,by simpa using I.len⟩ ⟨_,hs,.inl rfl⟩
  ·exact(hs.2 b (zZ (zY (zP e) I.ok.above))).trans (I.base.keep b o e n hb hx)
  ·obtain⟨sl,e1⟩:=I.base.slot b o e n hb hx
   exact⟨sl,(hs.2 b (zZ (zY (zP e) I.ok.above))).trans e1⟩
  ·obtain⟨o',e1⟩:=I.base.there b o e hx
   exact⟨o',(hs.2 b (zZ (zY (zP e) I.ok.above))).trans e1⟩
  ·by_cases hj:j=i
   ·subst hj
    rw[hi]at e1;cases e1
    rw[List.getElem?_set_self hiσ]at e2
    cases e2
    exact⟨u,r,.inl ⟨hk,by simp⟩⟩
   ·rw[List.getElem?_set_ne (Ne.symm hj)]at e2
    obtain⟨u',r',q⟩:=hl j y v' e1 e2 e3
    refine⟨u',r',?_⟩
    rcases q with⟨k,e⟩ |⟨k,c,e,z⟩
    ·refine .inl ⟨k,?_⟩
     have:y≠x:=fun e=>hj (nodup_ix hN e1 (e▸hi))
     simp[this,e]
    ·exact .inr ⟨k,c,e,z.sameBut hs (cne y c e)⟩
  ·obtain⟨w',z⟩:=I.cell y c e
   exact⟨w',z.sameBut hs (cne y c e)⟩
  ·obtain⟨e,n,ne,nf,d⟩:=I.pin p hp
   exact⟨(hs.2 p.1 ne).trans e,n,ne,nf,d⟩
 ·have hfn:X.fn x=true:=by
   rcases hf with z | z
   ·exact z
   ·rw[z]at hk;cases hk
  obtain⟨c,hc⟩:=I.ok.has x (.inl hk)
  obtain⟨w',z⟩:=I.cell x c hc
  refine wpAny_storeName_cell I.ok.kind hk hc z (fun h' hc' hs=>?_)
  obtain⟨oc,hoc,hocd⟩:=id z
  refine h { s with heap:=h' } ⟨I.ok,I.os,I.bare,⟨fun b o e n hb hx=>?_,fun b o e n hb hx=>?_,I.base.free,fun b o e hx=>?_,I.base.tups,I.base.frzs,I.base.tbls⟩,⟨m,hn.sameBut hs (Ne.symm (cne x c hc)),fun j y v' e1 e2 e3=>?_⟩,fun y c' e=>?_,I.free,I.freeC,fun p hp=>?_,tracked ⟨oc,hoc,I.freeC x c hc⟩ hs,by simpa using I.len⟩ ⟨c,hs,.inr hc⟩
  ·exact(hs.2 b (zZ (zY (zP e) (I.ok.cab x c hfn hc)))).trans (I.base.keep b o e n hb hx)
  ·obtain⟨sl,e1⟩:=I.base.slot b o e n hb hx
   exact⟨sl,(hs.2 b (zZ (zY (zP e) (I.ok.cab x c hfn hc)))).trans e1⟩
  ·obtain⟨o',e1⟩:=I.base.there b o e hx
   exact⟨o',(hs.2 b (zZ (zY (zP e) (I.ok.cab x c hfn hc)))).trans e1⟩
  ·by_cases hj:j=i
   ·subst hj
    rw[hi]at e1;cases e1
    rw[List.getElem?_set_self hiσ]at e2
    cases e2
    exact⟨u,r,.inr ⟨.inl hk,c,hc,hc'⟩⟩
   ·rw[List.getElem?_set_ne (Ne.symm hj)]at e2
    obtain⟨u',r',q⟩:=hl j y v' e1 e2 e3
    refine⟨u',r',?_⟩
    rcases q with q |⟨k,c',e,z'⟩
    ·exact .inl q
    ·refine .inr ⟨k,c',e,z'.sameBut hs ?_⟩
     rintro rfl
     exact hj (nodup_ix hN e1 (I.ok.inj _ _ _ e hc▸hi))
  ·by_cases hcc:c'=c
   ·subst hcc;exact⟨_,hc'⟩
   ·obtain⟨w2,z2⟩:=I.cell y c' e
    exact⟨w2,z2.sameBut hs hcc⟩
  ·obtain⟨e,n,ne,nf,d⟩:=I.pin p hp
   refine⟨(hs.2 p.1 ?_).trans e,n,ne,nf,d⟩
   intro q
   rw[q,hoc]at e
   have q':oc=p.2:=Option.some.inj e
   exact d w' (by rw[<- q'];exact hocd)
theorem store_ok{M:Model}{A:Around}{E:Value->Shared->Prop}{i:Nat}{x:Str}{v:V}{u:Value}{Q:Unit->Shared->Prop}(I:Inv X pins σ H s)(hN:X.N.Nodup)(hi:X.N[i]?=some x)(hx:Loc X.env.scope x)(r:RelV v u)
  (h:∀ s',Inv X pins (σ.set i (some v)) H s'->Q () s') (hf:X.fn x=true\/X.env.scope.names.lookup x=some .local:=by first | exact .inl rfl | exact .inr rfl | assumption):wpAny M A (storeName X.env x u) Q E s :=
 store_ok2 I hN hi hx r (fun s' I' _=>h s' I') hf
theorem Inv.call'{s':Shared}{ch:List Addr}(I:Inv X pins σ H s)(ho:s'.os=s.os)(u:Un (frs X.stack) ch H H' s.heap s'.heap)(hok:HOk X.prog X.w H' s'.heap)(hg:AllBare s'.gens)
  (hch:∀ b∈ch,(b∈X.ex\/X.s₀.heap.objs.size<=b)/\b≠X.env.locals/\(∀ x c,X.env.cells.lookup x=some c->c≠b)/\∀ p∈X.pn++pins,p.1≠b):Inv X pins σ H' s':=by
 obtain⟨h',g',d',t',o'⟩:=s'
 have e:o'=s.os:=ho
 subst e
 exact I.call (g':=g') (t':=t') (d':=d') u hok hg hch
end
noncomputable abbrev XK:=Value->Option Addr->Hp->Prop
noncomputable abbrev St:=List (Option V)
noncomputable abbrev VK:=V->Hp->Prop
noncomputable abbrev TE:=St->Hp->VK->Prop
noncomputable abbrev TT:=St->Hp->(Bool->Hp->Prop)->Prop
noncomputable abbrev TA:=St->Hp->(List V->Hp->Prop)->Prop
structure Ends where
 nx:St->Hp->Prop
 rt:VK
 bk:St->Hp->Prop:=fun _ _=>False
 ct:St->Hp->Prop:=fun _ _=>False
noncomputable abbrev TS:=Ends->St->Hp->Prop
noncomputable def EP(X:Cx)(pins:List (Addr×Obj))(σ:St)(Q:VK)(u:Value)(s':Shared):Prop:=∃ v H',Inv X pins σ H' s'/\RelV v u/\Q v H'
noncomputable def TP(X:Cx)(pins:List (Addr×Obj))(σ:St)(Q:Bool->Hp->Prop)(b:Bool)(s':Shared):Prop:=∃ H',Inv X pins σ H' s'/\Q b H'
noncomputable def AP(X:Cx)(pins:List (Addr×Obj))(σ:St)(Q:List V->Hp->Prop)(us:List Value)(s':Shared):Prop:=∃ vs H',Inv X pins σ H' s'/\Vals vs us/\Q vs H'
noncomputable def SP(X:Cx)(pins:List (Addr×Obj))(D:Ends)(f:Flow)(s':Shared):Prop :=
 match f with
 | .next=>∃ σ' H',Inv X pins σ' H' s'/\D.nx σ' H'
 | .brk=>∃ σ' H',Inv X pins σ' H' s'/\D.bk σ' H'
 | .cont=>∃ σ' H',Inv X pins σ' H' s'/\D.ct σ' H'
 | .ret u=>∃ v σ' H',Inv X pins σ' H' s'/\RelV v u/\D.rt v H'
noncomputable def PE(X:Cx)(e:Expr)(t:TE):Prop :=
 ∀ (pins:List (Addr×Obj)) (s:Shared) (σ:St) (H:Hp) (Q:VK),Inv X pins σ H s->t σ H Q->wpAny (model X.prog X.w) X.A (eval e X.env) (EP X pins σ Q) X.xe s
noncomputable def PT(X:Cx)(e:Expr)(t:TT):Prop :=
 ∀ (pins:List (Addr×Obj)) (s:Shared) (σ:St) (H:Hp) (Q:Bool->Hp->Prop),Inv X pins σ H s->t σ H Q->wpAny (model X.prog X.w) X.A (isTrue e X.env (eval e X.env)) (TP X pins σ Q) X.xe s
noncomputable def PW(X:Cx)(e:Expr)(t:TT):Prop :=
 ∀ (whole:Sem Value) (pins:List (Addr×Obj)) (s:Shared) (σ:St) (H:Hp) (Q:Bool->Hp->Prop),Inv X pins σ H s->t σ H Q->wpAny (model X.prog X.w) X.A (isTrue e X.env whole) (TP X pins σ Q) X.xe s
theorem PW.pt{X:Cx}{e:Expr}{t:TT}(h:PW X e t):PT X e t:=h _
noncomputable def PA(X:Cx)(es:List Expr)(t:TA):Prop :=
 ∀ (pos:Pos) (pins:List (Addr×Obj)) (s:Shared) (σ:St) (H:Hp) (Q:List V->Hp->Prop),Inv X pins σ H s->t σ H Q->wpAny (model X.prog X.w) X.A (spliced (backTo pos (starEach es X.env))) (AP X pins σ Q) X.xe s
noncomputable def PS(X:Cx)(st:Stmt)(t:TS):Prop :=
 ∀ (pins:List (Addr×Obj)) (s:Shared) (σ:St) (H:Hp) (D:Ends),Inv X pins σ H s->t D σ H->wpAny (model X.prog X.w) X.A (exec st X.env) (SP X pins D) X.xe s
noncomputable def PSs(X:Cx)(st:List Stmt)(t:TS):Prop :=
 ∀ (pins:List (Addr×Obj)) (s:Shared) (σ:St) (H:Hp) (D:Ends),Inv X pins σ H s->t D σ H->wpAny (model X.prog X.w) X.A (execs st X.env) (SP X pins D) X.xe s
theorem thn{α:Type}{t:Sem α}{Q Q':α->Shared->Prop}{M:Model}{A:Around}{E:Value->Shared->Prop}{s:Shared}(h:wpAny M A t Q E s)(hQ:∀ a s,Q a s->Q' a s):wpAny M A t Q' E s:=wpAny_mono h hQ fun _ _ x=>x
open PySem PySem.Spec PyProof.Rows
section
variable{X:Cx}
inductive Ex4{t0 t1 t2 t3:Type}(P:t0->t1->t2->t3->Prop):Prop where
 |mk (a0:t0) (a1:t1) (a2:t2) (a3:t3) (h:P a0 a1 a2 a3)
inductive Ex5{t0 t1 t2 t3 t4:Type}(P:t0->t1->t2->t3->t4->Prop):Prop where
 |mk (a0:t0) (a1:t1) (a2:t2) (a3:t3) (a4:t4) (h:P a0 a1 a2 a3 a4)
inductive Ex6{t0 t1 t2 t3 t4 t5:Type}(P:t0->t1->t2->t3->t4->t5->Prop):Prop where
 |mk (a0:t0) (a1:t1) (a2:t2) (a3:t3) (a4:t4) (a5:t5) (h:P a0 a1 a2 a3 a4 a5)
inductive Ex7{t0 t1 t2 t3 t4 t5 t6:Type}(P:t0->t1->t2->t3->t4->t5->t6->Prop):Prop where
 |mk (a0:t0) (a1:t1) (a2:t2) (a3:t3) (a4:t4) (a5:t5) (a6:t6) (h:P a0 a1 a2 a3 a4 a5 a6)
inductive Ex8{t0 t1 t2 t3 t4 t5 t6 t7:Type}(P:t0->t1->t2->t3->t4->t5->t6->t7->Prop):Prop where
 |mk (a0:t0) (a1:t1) (a2:t2) (a3:t3) (a4:t4) (a5:t5) (a6:t6) (a7:t7) (h:P a0 a1 a2 a3 a4 a5 a6 a7)
inductive Ex9{t0 t1 t2 t3 t4 t5 t6 t7 t8:Type}(P:t0->t1->t2->t3->t4->t5->t6->t7->t8->Prop):Prop where
 |mk (a0:t0) (a1:t1) (a2:t2) (a3:t3) (a4:t4) (a5:t5) (a6:t6) (a7:t7) (a8:t8) (h:P a0 a1 a2 a3 a4 a5 a6 a7 a8)
inductive Ex11{t0 t1 t2 t3 t4 t5 t6 t7 t8 t9 t10:Type}(P:t0->t1->t2->t3->t4->t5->t6->t7->t8->t9->t10->Prop):Prop where
 |mk (a0:t0) (a1:t1) (a2:t2) (a3:t3) (a4:t4) (a5:t5) (a6:t6) (a7:t7) (a8:t8) (a9:t9) (a10:t10) (h:P a0 a1 a2 a3 a4 a5 a6 a7 a8 a9 a10)
inductive tVarI(i:Nat)(σ:St)(H:Hp)(Q:VK):Prop where
 |mk (v:_) (h1:σ[i]?=some (some v)) (h2:Q v H)
noncomputable def tVar(i:Nat):TE:=fun σ H Q=>tVarI i σ H Q
noncomputable def tC(v:V):TE:=fun _ H Q=>Q v H
theorem pe_var{i:Nat}{x:Str}{pos:Pos}(hN:X.N[i]?=some x)(hv:Vis X.env.scope x)(hd:(x ==("__debug__":Str))=false:=by decide)(hcd:(x ==("__classdict__":Str))=false:=by decide):PE X (.Name x pos) (tVar i):=by
 intro pins s σ H Q I h
 obtain⟨v,e,h⟩:=h
 obtain⟨m,hn,hl⟩:=I.loc
 obtain⟨u,r,l⟩:=hl i x v hN e hv
 have fin:EP X pins σ Q u s:=⟨v,H,I,r,h⟩
 rcases l with⟨hk,hm⟩ |⟨hk,c,hc,hcell⟩
 ·exact wpAny_Name (wpAny_loadName_local I.ok.kind hk hn hm fin) hd
 ·rcases hk with hk | hk
  ·exact wpAny_Name (wpAny_loadName_cell I.ok.kind hk hc hcell fin) hd
  ·exact wpAny_Name (wpAny_loadName_free I.ok.kind hk hc hcell fin hcd) hd
theorem pe_int{i j pos}:PE X (.Constant (.int i) j pos) (tC (.int i)):=fun _ _ _ H _ I h=>wpAny_Constant_int ⟨.int i,H,I.tok _,⟨_,rfl⟩,h⟩
theorem pe_bl{b j pos}:PE X (.Constant (.bool b) j pos) (tC (.bl b)):=fun _ _ _ H _ I h=>Constant_bool ⟨.bl b,H,I,rfl,h⟩
theorem pe_non{j pos}:PE X (.Constant .none j pos) (tC .non):=fun _ _ _ H _ I h=>Constant_none ⟨.non,H,I,rfl,h⟩
theorem pe_str{x j pos}:PE X (.Constant (.str x) j pos) (tC (.str x)):=fun _ _ _ H _ I h=>Calls.Constant_str ⟨.str x,H,I.tok _,⟨_,rfl⟩,h⟩
noncomputable def Gl(X:Cx)(x:Str):Prop:=X.env.kindOf x=some .globalImplicit
theorem ld_glob{E:Value->Shared->Prop}{pins:List (Addr×Obj)}{s:Shared}{σ:St}{H:Hp}{x:Str}{u:Value}{pos:Pos}{Q:Value->Shared->Prop}(I:Inv X pins σ H s)(hg:Gl X x)(hm:X.mg x=some u)(h:Q u s)
  (hd:(x ==("__debug__":Str))=false:=by decide):wpAny (model X.prog X.w) X.A (eval (.Name x pos) X.env) Q E s :=
 Calls.Name_function_global I.ok.kind hg (Calls.loadGlobal_global (by rw[I.ok.glob];exact I.mod.glob.keeps I.bk) hm h) hd
theorem ld_blt{E:Value->Shared->Prop}{pins:List (Addr×Obj)}{s:Shared}{σ:St}{H:Hp}{x:Str}{u:Value}{pos:Pos}{Q:Value->Shared->Prop}(I:Inv X pins σ H s)(hg:Gl X x)(hm:X.mg x=none)(hv:bootBuiltins x=some u)(h:Q u s)
  (hn:x≠"__name__":=by decide) (hd:(x ==("__debug__":Str))=false:=by decide):wpAny (model X.prog X.w) X.A (eval (.Name x pos) X.env) Q E s:=by
 obtain⟨mb,h1,h2⟩:=I.mod.blt
 exact Calls.Name_function_global I.ok.kind hg (Calls.loadGlobal_builtin (by rw[I.ok.glob];exact I.mod.glob.keeps I.bk) hm (by rw[I.ok.blt];exact h1.keeps I.bk) ((h2 x hn).trans hv) h) hd
theorem pe_bltn{x:Str}{v:V}{u:Value}{pos:Pos}(hg:Gl X x)(hm:X.mg x=none)(hv:bootBuiltins x=some u)(r:RelV v u)(hn:x≠"__name__":=by decide)(hd:(x ==("__debug__":Str))=false:=by decide):PE X (.Name x pos) (tC v) :=
 fun _ _ _ H _ I h=>ld_blt I hg hm hv ⟨v,H,I,r,h⟩ hn hd
variable{a b:Expr}{ta tb:TE}{pos:Pos}
noncomputable def PC(X:Cx)(op:CmpOp)(a b:Expr)(t:TE):Prop :=
 ∀ (pins:List (Addr×Obj)) (s:Shared) (σ:St) (H:Hp) (Q:VK),Inv X pins σ H s->t σ H Q ->
  wpAny (model X.prog X.w) X.A (eval a X.env) (fun v s₁=>wpAny (model X.prog X.w) X.A (eval b X.env) (fun u s₂=>wpAny (model X.prog X.w) X.A (compareOp op v u) (EP X pins σ Q) X.xe s₂) X.xe s₁) X.xe s
theorem nobehind(b:Expr){op:CmpOp}(h:op≠.In)(h2:op≠.NotIn):behindInMarks op b=false:=by
 have e1:(op == CmpOp.In)=false:=by cases op <;> first | rfl | exact absurd rfl h
 have e2:(op == CmpOp.NotIn)=false:=by cases op <;> first | rfl | exact absurd rfl h2
 cases b <;> simp[behindInMarks,e1,e2]
noncomputable def tIsN(ta:TE):TE:=fun σ H Q=>ta σ H fun x H1=>Q (.bl (decide (x = .non))) H1
noncomputable def tNotN(ta:TE):TE:=fun σ H Q=>ta σ H fun x H1=>Q (.bl (!decide (x = .non))) H1
theorem RelV.none_iff{x:V}{v:Value}(r:RelV x v):(v == Value.none)=decide (x = .non):=by
 cases x with
 |non=>cases r;rfl
 |bl _=>cases r;rfl
 |int _=>obtain⟨t,rfl⟩:=r;rfl
 |str _=>obtain⟨t,rfl⟩:=r;rfl
 |byt _=>obtain⟨t,rfl⟩:=r;rfl
 |flt _=>obtain⟨t,rfl⟩:=r;rfl
 |ref _=>cases r;rfl
 |ty _=>cases r;rfl
theorem pc_isN{j pos'}(ha:PE X a ta):PC X .Is a (.Constant .none j pos') (tIsN ta):=by
 intro pins s σ H Q I h
 refine thn (ha pins s σ H _ I h) fun v s1 ⟨x,H1,I1,r1,q1⟩=>?_
 exact Constant_none (is_none_gen ⟨.bl _,H1,I1,by rw[r1.none_iff];rfl,q1⟩)
theorem pc_notN{j pos'}(ha:PE X a ta):PC X .IsNot a (.Constant .none j pos') (tNotN ta):=by
 intro pins s σ H Q I h
 refine thn (ha pins s σ H _ I h) fun v s1 ⟨x,H1,I1,r1,q1⟩=>?_
 exact Constant_none (isnot_none_gen ⟨.bl _,H1,I1,by rw[r1.none_iff];rfl,q1⟩)
inductive ExB(x:V)(Q:Bool->Prop):Prop where
 |mk (c:Bool) (e:x = .bl c) (h:Q c)
noncomputable def tB(t:TE):TT:=fun σ H Q=>t σ H fun x H1=>ExB x fun c=>Q c H1
theorem pe_cmp{op:CmpOp}{t:TE}(h:PC X op a b t)(h1:behindInMarks op b=false:=by first | exact nobehind _ (by decide) (by decide) | rfl):PE X (.Compare a [op] [b] pos) t:=fun pins s σ H Q I hw=>wpAny_Compare1 (h pins s σ H Q I hw) h1
theorem pt_cmp{op:CmpOp}{t:TE}(h:PC X op a b t)(h1:behindInMarks op b=false:=by first | exact nobehind _ (by decide) (by decide) | rfl):PT X (.Compare a [op] [b] pos) (tB t):=by
 intro pins s σ H Q I hw
 refine wpAny_isTrue_Compare1 (thn (h pins s σ H _ I hw) fun v s1 h1=>thn h1 fun u s2 h2=>thn h2 fun c s3 ⟨x,H1,I1,r1,q1⟩=>?_) h1
 obtain⟨d,rfl,q⟩:=q1
 cases r1
 exact wpAny_truthy_bool ⟨H1,I1,q⟩
theorem pt_val{e:Expr}{t:TE}(h:PE X e t)(he:∀ whole,isTrue e X.env whole=(do let v <- whole;standAt e.pos;holding [v] (truthy v)):=by intro _;rfl):PT X e (tB t):=by
 intro pins s σ H Q I hw
 refine isTrue_plain (thn (h pins s σ H _ I hw) fun v s1 ⟨x,H1,I1,r1,q1⟩=>?_) (he _)
 obtain⟨d,rfl,q⟩:=q1
 cases r1
 exact wpAny_truthy_bool ⟨H1,I1,q⟩
variable{tA tB':TT}{rest:List Expr}
noncomputable def tAnd(t u:TT):TT:=fun σ H Q=>t σ H fun c H1=>if c=true then u σ H1 Q else Q false H1
noncomputable def tOr(t u:TT):TT:=fun σ H Q=>t σ H fun c H1=>if c=true then Q true H1 else u σ H1 Q
noncomputable def tNot(t:TT):TT:=fun σ H Q=>t σ H fun c H1=>Q (!c) H1
theorem pw_and1(ha:PT X a tA):PW X (.BoolOp .And [a] pos) tA:=by
 intro wh pins s σ H Q I h
 refine isTrue_and (thn (ha pins s σ H Q I h) fun c s1 e=>?_)
 cases c with
 |true=>exact isTrue_and_nil e
 |false=>exact e
theorem pw_or1(ha:PT X a tA):PW X (.BoolOp .Or [a] pos) tA:=by
 intro wh pins s σ H Q I h
 refine isTrue_or (thn (ha pins s σ H Q I h) fun c s1 e=>?_)
 cases c with
 |false=>exact isTrue_or_nil e
 |true=>exact e
theorem pw_and(ha:PT X a tA)(hb:PW X (.BoolOp .And (b :: rest) pos) tB'):PW X (.BoolOp .And (a :: b :: rest) pos) (tAnd tA tB'):=by
 intro wh pins s σ H Q I h
 refine isTrue_and (thn (ha pins s σ H _ I h) fun c s1 ⟨H1,I1,q1⟩=>?_)
 cases c with
 |true=>exact hb wh pins s1 σ H1 Q I1 q1
 |false=>exact⟨H1,I1,q1⟩
theorem pw_or(ha:PT X a tA)(hb:PW X (.BoolOp .Or (b :: rest) pos) tB'):PW X (.BoolOp .Or (a :: b :: rest) pos) (tOr tA tB'):=by
 intro wh pins s σ H Q I h
 refine isTrue_or (thn (ha pins s σ H _ I h) fun c s1 ⟨H1,I1,q1⟩=>?_)
 cases c with
 |true=>exact⟨H1,I1,q1⟩
 |false=>exact hb wh pins s1 σ H1 Q I1 q1
theorem pt_not(ha:PT X a tA):PT X (.UnaryOp .Not a pos) (tNot tA):=by
 intro pins s σ H Q I h
 exact isTrue_not (ha pins s σ H (fun c H1=>Q (!c) H1) I h)
noncomputable def tAndV(ta tb:TE):TE:=fun σ H Q=>ta σ H fun x H1=>ExB x fun c=>if c=true then tb σ H1 Q else Q (.bl false) H1
noncomputable def tNotV(ta:TE):TE:=fun σ H Q=>ta σ H fun x H1=>ExB x fun c=>Q (.bl (!c)) H1
theorem pe_one{op}{t:TE}(h:PE X a t):PE X (.BoolOp op [a] pos) t:=fun pins s σ H Q I hw=>BoolOp_one (h pins s σ H Q I hw)
theorem pe_and(ha:PE X a ta)(hb:PE X (.BoolOp .And (b :: rest) pos) tb):PE X (.BoolOp .And (a :: b :: rest) pos) (tAndV ta tb):=by
 intro pins s σ H Q I h
 refine BoolOp_and (thn (ha pins s σ H _ I h) fun v s1 ⟨x,H1,I1,r1,q1⟩=>?_)
 obtain⟨c,rfl,q1⟩:=q1
 cases r1
 refine wpAny_truthy_bool ?_
 cases c with
 |true=>exact hb pins s1 σ H1 Q I1 q1
 |false=>exact⟨.bl false,H1,I1,rfl,q1⟩
theorem pe_not(ha:PE X a ta):PE X (.UnaryOp .Not a pos) (tNotV ta):=by
 intro pins s σ H Q I h
 refine UnaryOp_ (thn (ha pins s σ H _ I h) fun v s1 ⟨x,H1,I1,r1,q1⟩=>?_)
 obtain⟨c,rfl,q1⟩:=q1
 cases r1
 exact not_of (wpAny_truthy_bool ⟨.bl (!c),H1,I1,rfl,q1⟩)
noncomputable def tIf(t:TT)(ta tb:TE):TE:=fun σ H Q=>t σ H fun c H1=>if c=true then ta σ H1 Q else tb σ H1 Q
theorem pe_ifExp{c:Expr}(hc:PT X c tA)(ha:PE X a ta)(hb:PE X b tb):PE X (.IfExp c a b pos) (tIf tA ta tb):=by
 intro pins s σ H Q I h
 refine wpAny_IfExp (thn (hc pins s σ H _ I h) fun d s1 ⟨H1,I1,q1⟩=>?_)
 cases d with
 |true=>exact ha pins s1 σ H1 Q I1 q1
 |false=>exact hb pins s1 σ H1 Q I1 q1
end
open PySem PySem.Spec PyProof.Rows
noncomputable def SqL(K:PySem.W.Frag)(H:Hp)(a:Addr)(xs:List V):Prop :=
 Rd H a (.lst xs) \/
  ∃ (o:Obj) (its:Array Value) (n:Nat),K.lookup a=some o/\o.cls = .type "list"/\o.dict=none/\o.data = .seq its n/\its.size<=sizeLine/\Vals xs its.toList
noncomputable def SqT(K:PySem.W.Frag)(H:Hp)(a:Addr)(xs:List V):Prop :=
 Rd H a (.tup xs) \/
  ∃ (o:Obj) (its:Array Value) (n:Nat),K.lookup a=some o/\o.cls = .type "tuple"/\o.data = .seq its n/\its.size<=sizeLine/\Vals xs its.toList
noncomputable def absV:Value->Option V
 | .none=>some .non
 | .bool b=>some (.bl b)
 | .int i _=>some (.int i)
 | .str x _=>some (.str x)
 | .bytes b _=>some (.byt b)
 | .float b _=>some (.flt b)
 | .ref a=>some (.ref a)
 | .type n=>some (.ty n)
 | _=>none
theorem RelV.abs{x:V}{u:Value}(r:RelV x u):absV u=some x:=by
 cases x with
 |non=>cases r;rfl
 |bl _=>cases r;rfl
 |int _=>obtain⟨t,rfl⟩:=r;rfl
 |str _=>obtain⟨t,rfl⟩:=r;rfl
 |byt _=>obtain⟨t,rfl⟩:=r;rfl
 |flt _=>obtain⟨t,rfl⟩:=r;rfl
 |ref _=>cases r;rfl
 |ty _=>cases r;rfl
theorem RelV.inj{x y:V}{u:Value}(r:RelV x u)(q:RelV y u):x=y:=Option.some.inj (r.abs.symm.trans q.abs)
theorem Vals.inj:∀ {xs ys:List V}{us:List Value},Vals xs us->Vals ys us->xs=ys:=by
 intro xs ys us h
 induction h generalizing ys with
 |nil=>intro h';cases h';rfl
 |cons r t ih =>
  intro h'
  cases h' with
  |cons r' t'=>rw[r.inj r',ih t']
section
variable{X:Cx}{pins:List (Addr×Obj)}{σ:St}{H:Hp}{s:Shared}{a:Addr}{xs ys:List V}
theorem SqL.of{K:PySem.W.Frag}(h:H a=some (.lst xs)):SqL K H a xs:=.inl (.inl h)
theorem SqT.of{K:PySem.W.Frag}(h:H a=some (.tup xs)):SqT K H a xs:=.inl (.inl h)
theorem Inv.list(I:Inv X pins σ H s)(h:SqL X.K H a xs):∃ its:List Value,Vals xs its/\PlainL s.heap a its.toArray/\xs.length<=sizeLine:=by
 rcases h with h |⟨o,its,n,hk,hc,hd,hs,hz,r⟩
 ·obtain⟨z,its,n,r,e⟩:=h.ok I.hok
  exact⟨its,r,⟨_,n,e,rfl,rfl,rfl⟩,z⟩
 ·refine⟨its.toList,r,⟨o,n,I.kIn a o hk,hc,hd,by simpa using hs⟩,?_⟩
  have e:=r.length
  simp only[zBQ]at e
  lia
theorem Inv.tuple(I:Inv X pins σ H s)(h:SqT X.K H a xs):∃ its:List Value,Vals xs its/\IsTup s.heap a its.toArray/\xs.length<=sizeLine:=by
 rcases h with h |⟨o,its,n,hk,hc,hs,hz,r⟩
 ·obtain⟨z,its,r,p⟩:=h.ok I.hok
  exact⟨its,r,p,z⟩
 ·refine⟨its.toList,r,⟨o,I.kIn a o hk,hc,n,by simpa using hs⟩,?_⟩
  have e:=r.length
  simp only[zBQ]at e
  lia
theorem Inv.list_inj(I:Inv X pins σ H s)(h:SqL X.K H a xs)(h':SqL X.K H a ys):xs=ys:=by
 obtain⟨its,r,⟨o,n,e,_,_,d⟩,_⟩:=I.list h
 obtain⟨its',r',⟨o',n',e',_,_,d'⟩,_⟩:=I.list h'
 rw[e]at e';cases e'
 rw[d]at d'
 injection d' with d1 _
 have:its=its':=by simpa using congrArg Array.toList d1
 subst this
 exact r.inj r'
theorem Inv.tuple_inj(I:Inv X pins σ H s)(h:SqT X.K H a xs)(h':SqT X.K H a ys):xs=ys:=by
 obtain⟨its,r,⟨o,e,_,n,d⟩,_⟩:=I.tuple h
 obtain⟨its',r',⟨o',e',_,n',d'⟩,_⟩:=I.tuple h'
 rw[e]at e';cases e'
 rw[d]at d'
 injection d' with d1 _
 have:its=its':=by simpa using congrArg Array.toList d1
 subst this
 exact r.inj r'
end
noncomputable abbrev Cx.wish(X:Cx)(E:Value->Shared->Prop):Cx:={ X with xe:=E }
noncomputable abbrev Cx.nox(X:Cx):Cx:=X.wish fun _ _=>False
theorem Cx.Ok.wish{X:Cx}(ok:X.Ok)(E:Value->Shared->Prop):(X.wish E).Ok :=
 ⟨ok.mod,ok.kind,ok.glob,ok.blt,ok.above,ok.inj,ok.has,ok.cab,ok.hd,ok.frames,ok.stk,ok.exf,ok.bs,ok.bsz,ok.noex,ok.exfs,ok.funs,ok.frf⟩
theorem Cx.Ok.unwish{X:Cx}{E:Value->Shared->Prop}(ok:(X.wish E).Ok):X.Ok :=
 ⟨ok.mod,ok.kind,ok.glob,ok.blt,ok.above,ok.inj,ok.has,ok.cab,ok.hd,ok.frames,ok.stk,ok.exf,ok.bs,ok.bsz,ok.noex,ok.exfs,ok.funs,ok.frf⟩
section
variable{X:Cx}{pins:List (Addr×Obj)}{σ:St}{H:Hp}{s:Shared}{E:Value->Shared->Prop}
theorem Inv.wish(I:Inv X pins σ H s)(E:Value->Shared->Prop):Inv (X.wish E) pins σ H s:=⟨I.ok.wish E,I.os,I.bare,I.base,I.loc,I.cell,I.free,I.freeC,I.pin,I.hok,I.len⟩
theorem Inv.unwish(I:Inv (X.wish E) pins σ H s):Inv X pins σ H s:=⟨I.ok.unwish,I.os,I.bare,I.base,I.loc,I.cell,I.free,I.freeC,I.pin,I.hok,I.len⟩
theorem SP.unwish{D:Ends}{f:Flow}{s':Shared}(h:SP (X.wish E) pins D f s'):SP X pins D f s':=by
 cases f with
 |next=>obtain⟨σ',H',I,q⟩:=h;exact⟨σ',H',I.unwish,q⟩
 |brk=>obtain⟨σ',H',I,q⟩:=h;exact⟨σ',H',I.unwish,q⟩
 |cont=>obtain⟨σ',H',I,q⟩:=h;exact⟨σ',H',I.unwish,q⟩
 |ret u=>obtain⟨v,σ',H',I,r,q⟩:=h;exact⟨v,σ',H',I.unwish,r,q⟩
theorem PSs.nox{st:List Stmt}{t:TS}(h:PSs X.nox st t):PSs X st t:=fun pins s σ H D I hw =>
 wpAny_mono (h pins s σ H D (I.wish _) hw) (fun _ _ q=>q.unwish) fun _ _ z=>False.elim z
end
section
variable{X:Cx}{st:Stmt}{rest:List Stmt}{t u:TS}{e:Expr}{te:TE}{pos:Pos}
noncomputable def tNext:TS:=fun D σ H=>D.nx σ H
noncomputable def tSeq(t u:TS):TS:=fun D σ H=>t { D with nx:=u D } σ H
theorem pss_nil:PSs X [] tNext:=fun _ _ σ H _ I h=>wpAny_execs_nil ⟨σ,H,I,h⟩
theorem pss_cons(h1:PS X st t)(h2:PSs X rest u):PSs X (st :: rest) (tSeq t u):=by
 intro pins s σ H D I h
 refine wpAny_execs_cons (thn (h1 pins s σ H { D with nx:=u D } I h) fun f s1 q=>?_)
 cases f with
 |next =>
  obtain⟨σ',H',I',q⟩:=q
  exact h2 pins s1 σ' H' D I' q
 |ret v=>exact q
 |brk=>exact q
 |cont=>exact q
theorem pss_one(h1:PS X st t):PSs X [st] t:=by
 intro pins s σ H D I h
 refine wpAny_execs_cons (thn (h1 pins s σ H D I h) fun f s1 q=>?_)
 cases f with
 |next=>exact wpAny_execs_nil q
 |ret v=>exact q
 |brk=>exact q
 |cont=>exact q
theorem Inv.quiet{pins:List (Addr×Obj)}{σ:St}{H:Hp}{s:Shared}(I:Inv X pins σ H s):interactive X.env=false:=by simp[interactive,I.ok.kind]
noncomputable def tDrop(te:TE):TS:=fun D σ H=>te σ H fun _ H1=>D.nx σ H1
theorem ps_expr(he:PE X e te)(hs:swapsWith e none pos.line X.env=pure false:=by rfl):PS X (.Expr e pos) (tDrop te):=by
 intro pins s σ H D I h
 exact wpAny_Expr_any (thn (he pins s σ H _ I h) fun v s1 ⟨x,H1,I1,r1,q1⟩=>⟨σ,H1,I1,q1⟩) I.quiet hs
noncomputable def tRet(te:TE):TS:=fun D σ H=>te σ H D.rt
theorem ps_ret(he:PE X e te):PS X (.Return (some e) pos) (tRet te):=by
 intro pins s σ H D I h
 exact wpAny_Return_some (thn (he pins s σ H _ I h) fun v s1 ⟨x,H1,I1,r1,q1⟩=>⟨x,σ,H1,I1,r1,q1⟩)
noncomputable def tIfS(c:TT)(t u:TS):TS:=fun D σ H=>c σ H fun b H1=>if b=true then t D σ H1 else u D σ H1
theorem ps_if{c:Expr}{a b:List Stmt}{tc:TT}(hc:PT X c tc)(ha:PSs X a t)(hb:PSs X b u):PS X (.If c a b pos) (tIfS tc t u):=by
 intro pins s σ H D I h
 refine wpAny_If (thn (hc pins s σ H _ I h) fun d s1 ⟨H1,I1,q1⟩=>?_)
 cases d with
 |true=>exact ha pins s1 σ H1 D I1 q1
 |false=>exact hb pins s1 σ H1 D I1 q1
noncomputable def tNever:TS:=fun _ _ _=>False
theorem pss_never{sts:List Stmt}:PSs X sts tNever:=fun _ _ _ _ _ _ h=>h.elim
end
noncomputable abbrev TG:=V->St->Hp->(St->Hp->Prop)->Prop
noncomputable abbrev TGs:=List V->St->Hp->(St->Hp->Prop)->Prop
noncomputable def PG(X:Cx)(target:Expr)(t:TG):Prop :=
 ∀ (pins:List (Addr×Obj)) (s:Shared) (σ:St) (H:Hp) (v:V) (u:Value) (Q:St->Hp->Prop),Inv X pins σ H s->RelV v u->t v σ H Q ->
  wpAny (model X.prog X.w) X.A (assign target X.env u) (fun _ s'=>∃ σ' H',Inv X pins σ' H' s'/\Q σ' H') X.xe s
noncomputable def PGs(X:Cx)(ts:List Expr)(t:TGs):Prop :=
 ∀ (pins:List (Addr×Obj)) (s:Shared) (σ:St) (H:Hp) (vs:List V) (us:List Value) (Q:St->Hp->Prop),Inv X pins σ H s->Vals vs us->t vs σ H Q ->
  wpAny (model X.prog X.w) X.A (assignInOrder ((assignEach ts X.env).map (·.2)) us) (fun _ s'=>∃ σ' H',Inv X pins σ' H' s'/\Q σ' H') X.xe s
noncomputable abbrev TSet:=V->V->V->Hp->(Hp->Prop)->Prop
noncomputable def PSet(X:Cx)(t:TSet):Prop :=
 ∀ (pins:List (Addr×Obj)) (s:Shared) (σ:St) (H:Hp) (o i v:V) (ov iv u:Value) (Q:Hp->Prop),Inv X pins σ H s->RelV o ov->RelV i iv->RelV v u->t o i v H Q ->
  wpAny (model X.prog X.w) X.A (setItem ov iv u) (fun _ s'=>∃ H',Inv X pins σ H' s'/\Q H') X.xe s
section
variable{X:Cx}{pos:Pos}
noncomputable def gName(i:Nat):TG:=fun v σ H Q=>Q (σ.set i (some v)) H
theorem pg_name{i:Nat}{x:Str}(hN:X.N.Nodup)(hi:X.N[i]?=some x)(hx:Loc X.env.scope x)(hf:X.fn x=true\/X.env.scope.names.lookup x=some .local:=by first | exact .inl rfl | exact .inr rfl | assumption):PG X (.Name x pos) (gName i):=by
 intro pins s σ H v u Q I r h
 exact wpAny_assign_Name (store_ok I hN hi hx r (fun s' I'=>⟨_,H,I',h⟩) hf)
noncomputable def gNil:TGs:=fun vs σ H Q=>vs=[]/\Q σ H
inductive gConsI(t:TG)(u:TGs)(vs:List V)(σ:St)(H:Hp)(Q:St->Hp->Prop):Prop where
 |mk (v:_) (r:_) (h1:vs=v :: r) (h2:t v σ H fun σ' H'=>u r σ' H' Q)
noncomputable def gCons(t:TG)(u:TGs):TGs:=fun vs σ H Q=>gConsI t u vs σ H Q
theorem pgs_nil:PGs X [] gNil:=by
 intro pins s σ H vs us Q I r h
 obtain⟨e,h⟩:=h
 subst e
 cases r
 exact assignInOrder_nil ⟨σ,H,I,h⟩
theorem pgs_cons{e:Expr}{es:List Expr}{t:TG}{u:TGs}(h1:PG X e t)(h2:PGs X es u)
  (hs:(assignEach (e :: es) X.env).map (·.2)=assign e X.env :: (assignEach es X.env).map (·.2):=by rfl):PGs X (e :: es) (gCons t u):=by
 intro pins s σ H vs us Q I r h
 obtain⟨v,vr,e1,h⟩:=h
 subst e1
 cases r with
 |cons r rr =>
  rw[hs]
  refine assignInOrder_cons (thn (h1 pins s σ H _ _ _ I r h) fun _ s1 ⟨σ1,H1,I1,q1⟩=>?_)
  exact h2 pins s1 σ1 H1 _ _ Q I1 rr q1
inductive gTupI(K:PySem.W.Frag)(n:Nat)(t:TGs)(v:V)(σ:St)(H:Hp)(Q:St->Hp->Prop):Prop where
 |mk (a:_) (xs:_) (h1:v = .ref a) (h2:SqT K H a xs) (h3:xs.length=n) (h4:t xs σ H Q)
noncomputable def gTup(K:PySem.W.Frag)(n:Nat)(t:TGs):TG:=fun v σ H Q=>gTupI K n t v σ H Q
theorem pg_tup{es:List Expr}{k:Nat}{t:TGs}{n:Nat}(hc:X.calm=true)(h:PGs X es t)
  (hn:(assignEach es X.env).length=n:=by rfl) (hst:(assignEach es X.env).findIdx? (·.1)=none:=by rfl):PG X (.Tuple es k pos) (gTup X.K n t):=by
 intro pins s σ H v u Q I r hw
 obtain⟨a,xs,e1,hq,hl,hw⟩:=hw
 subst e1
 cases r
 obtain⟨its,rv,ht,hz⟩:=I.tuple hq
 refine assign_Tuple_tuple (I.ok.hd hc) ht (by simp[hn,<- hl,rv.length]) hst fun h' hx=>?_
 have I1:Inv X pins σ H { s with heap:=h' }:=I.kept (t':=s.toks) fun b o e=>hx b o (zZ (zP e)) e
 exact h pins _ σ H xs _ Q I1 (by simpa using rv) hw
noncomputable def gSub(to ti:TE)(t:TSet):TG:=fun v σ H Q=>to σ H fun o H1=>ti σ H1 fun i H2=>t o i v H2 fun H3=>Q σ H3
theorem pg_sub{o i:Expr}{to ti:TE}{t:TSet}(ho:PE X o to)(hi:PE X i ti)(hs:PSet X t)
  (ha:∀ v,assign (.Subscript o i pos) X.env v=(do
   let ov <- holding [v] (eval o X.env)
   let iv <- holding [v,ov] (eval i X.env)
   standAt pos
   holding [v,ov,iv] (setItem ov iv v)
   release [v,ov,iv] []):=by intro _;rfl):PG X (.Subscript o i pos) (gSub to ti t):=by
 intro pins s σ H v u Q I r h
 rw[ha]
 refine zB (wpAny_holding (thn (ho pins s σ H _ I h) fun ov s1 ⟨x,H1,I1,r1,q1⟩=>?_))
 refine zB (wpAny_holding (thn (hi pins s1 σ H1 _ I1 q1) fun iv s2 ⟨y,H2,I2,r2,q2⟩=>?_))
 refine zB (wpAny_standAt (zB (wpAny_holding (thn (hs pins s2 σ H2 x y v ov iv u _ I2 r1 r2 r q2) fun _ s3 ⟨H3,I3,q3⟩=>?_))))
 exact wpAny_release ⟨σ,H3,I3,q3⟩
noncomputable def tAsg(te:TE)(g:TG):TS:=fun D σ H=>te σ H fun x H1=>g x σ H1 D.nx
theorem ps_asg{tg e:Expr}{te:TE}{g:TG}(he:PE X e te)(hg:PG X tg g)(hs:swapsWithSole [tg] e pos.line X.env=pure false:=by rfl)(hw:swappedStores [tg] e X.env=pure none:=by rfl)
  (h1:(assignEach [tg] X.env).map (·.2)=[assign tg X.env]:=by rfl):PS X (.Assign [tg] e pos) (tAsg te g):=by
 intro pins s σ H D I h
 refine wpAny_Assign_stores (thn (he pins s σ H _ I h) fun v s1 ⟨x,H1,I1,r1,q1⟩=>?_) hs hw
 rw[h1]
 exact thn (hg pins s1 σ H1 x v _ I1 r1 q1) fun _ s2 q=>q
theorem ps_set{i:Nat}{x:Str}{e:Expr}{te:TE}{pos':Pos}(hN:X.N.Nodup)(hi:X.N[i]?=some x)(hx:Loc X.env.scope x)(he:PE X e te)(hs:swapsWith e (some (.Name x pos')) pos.line X.env=pure false:=by rfl)(hf:X.fn x=true\/X.env.scope.names.lookup x=some .local:=by first | exact .inl rfl | exact .inr rfl | assumption) :
  PS X (.Assign [.Name x pos'] e pos) (tAsg te (gName i)):=by
 intro pins s σ H D I h
 refine wpAny_Assign_Name (thn (he pins s σ H _ I h) fun v s1 ⟨y,H1,I1,r1,q1⟩=>?_) hs
 exact store_ok I1 hN hi hx r1 (fun s2 I2=>⟨_,H1,I2,q1⟩) hf
noncomputable def tPar(i j:Nat)(ta:TA):TS:=fun D σ H=>ta σ H fun vs H1=>∃ v w,vs=[v,w]/\D.nx ((σ.set i (some v)).set j (some w)) H1
theorem ps_par{i j:Nat}{x y:Str}{a b:Expr}{ta:TA}{px py pt:Pos}{kt k2 pt2}(hc:X.calm=true)(hN:X.N.Nodup)(hi:X.N[i]?=some x)(hj:X.N[j]?=some y)(hij:i≠j)
  (hx:X.env.scope.names.lookup x=some .local) (hy:X.env.scope.names.lookup y=some .local) (ha:PA X [a,b] ta)
  (hw:swappedStores [.Tuple [.Name x px,.Name y py] kt pt] (.Tuple [a,b] k2 pt2) X.env=pure (some [x,y]))
  (hs:swapsWithSole [.Tuple [.Name x px,.Name y py] kt pt] (.Tuple [a,b] k2 pt2) pos.line X.env=pure false:=by rfl) :
  PS X (.Assign [.Tuple [.Name x px,.Name y py] kt pt] (.Tuple [a,b] k2 pt2) pos) (tPar i j ta):=by
 intro pins s σ H D I h
 rw[exec_Assign_arm]
 refine zB (wpAny_standAt ?_)
 rw[hs]
 refine zB (zH ?_)
 rw[if_neg (by decide)]
 refine zB (Tuple_ (thn (ha _ pins s σ H _ I h) fun us s1 ⟨vs,H1,I1,r1,q1⟩=>?_))
 obtain⟨v,w,e1,q1⟩:=q1
 subst e1
 obtain⟨u1,u2,rfl,rv,rw'⟩:∃ u1 u2,us=[u1,u2]/\RelV v u1/\RelV w u2:=by
  cases r1 with
  |cons p q =>
   cases q with
   |cons p' q' =>
    cases q'
    exact⟨_,_,rfl,p,p'⟩
 refine wpAny_newObj_type ?_ (by show 2<=sizeLine;decide)
 have I2:Inv X pins σ H1 { s1 with heap:=s1.heap.push { cls:=.type "tuple",data:=.seq [u1,u2].toArray } }:=I1.kept (t':=s1.toks) fun b o e=>zC _ e
 rw[hw]
 refine zB (zH ?_)
 show wpAny (model X.prog X.w) X.A (do rule "assign.swapped-stores";let items <- unpackItems (.ref s1.heap.objs.size) 2 none;assignInOrder [fun v=>bindName X.env y v,fun v=>bindName X.env x v] items.reverse;pure Flow.next) _ _ _
 refine zB (wpAny_rule (zB (unpackItems_tuple (items:=#[u1,u2]) (I.ok.hd hc) (IsTup.new s1.heap _) fun h' hx'=>?_)))
 have I3:=I2.kept (h':=h') (t':=s1.toks) fun b o e=>hx' b o (zZ (zP e)) e
 show wpAny _ _ (assignInOrder [fun v=>bindName X.env y v,fun v=>bindName X.env x v] [u2,u1] >>= fun _=>pure Flow.next) _ _ _
 refine zB (assignInOrder_cons (wpAny_bindName (store_ok I3 hN hj (.inl hy) rw' (fun s2 I4=>?_) (.inr hy))))
 refine assignInOrder_cons (wpAny_bindName (store_ok I4 hN hi (.inl hx) rv (fun s3 I5=>assignInOrder_nil (zH ?_)) (.inr hx)))
 rw[List.set_comm _ _ (Ne.symm hij)]at I5
 exact⟨_,H1,I5,q1⟩
end
section
variable{X:Cx}{pos:Pos}
noncomputable def tWhile(c:TT)(tb:TS):TS:=fun D σ H=>∃ W:Nat->St->Hp->Prop,(∃ m,W m σ H)/\∀ m σ H,W m σ H ->
 c σ H fun b H1=>if b=true then ∃ N:St->Hp->Prop,(∀ σ' H',N σ' H'->∃ m',m'<m/\W m' σ' H')/\tb { D with nx:=N,ct:=N,bk:=D.nx } σ H1 else D.nx σ H1
theorem ps_while{c:Expr}{body:List Stmt}{tc:TT}{tb:TS}(hp:PassesOwn (model X.prog X.w) X.A X.env X.xe)(hc:PT X c tc)(hb:PSs X body tb):PS X (.While c body [] pos) (tWhile tc tb):=by
 intro pins s σ H D I h
 obtain⟨W,⟨m0,w0⟩,turn⟩:=h
 refine wpAny_While (codeAny_whileLoop (fun n s'=>∃ σ' H',Inv X pins σ' H' s'/\W n σ' H') ?_ m0 ⟨σ,H,I,w0⟩)
 rintro n s1 ⟨σ1,H1,I1,w1⟩
 refine wpAny_passesOwn hp (thn (hc pins s1 σ1 H1 _ I1 (turn n σ1 H1 w1)) fun b s2 ⟨H2,I2,q2⟩=>?_)
 cases b with
 |true =>
  obtain⟨N,hN,q2⟩:=q2
  rw[if_pos rfl]
  refine wpAny_passesOwn hp (thn (hb pins s2 σ1 H2 _ I2 q2) fun f s3 q3=>?_)
  cases f with
  |next =>
   obtain⟨σ3,H3,I3,n3⟩:=q3
   obtain⟨m',hm,w3⟩:=hN σ3 H3 n3
   exact⟨m',hm,σ3,H3,I3,w3⟩
  |cont =>
   obtain⟨σ3,H3,I3,n3⟩:=q3
   obtain⟨m',hm,w3⟩:=hN σ3 H3 n3
   exact⟨m',hm,σ3,H3,I3,w3⟩
  |brk=>exact q3
  |ret v=>exact q3
 |false =>
  rw[if_neg zN]
  exact wpAny_execs_nil ⟨σ1,H2,I2,q2⟩
end
structure It where
 go:Nat->Hp->Prop
 yld:Nat->Hp->V->Hp->Prop
 stop:Nat->Hp->Prop
noncomputable def FpOk(X:Cx)(pins:List (Addr×Obj))(H:Hp)(b:Addr):Prop :=
 H b=none/\b≠X.env.locals/\b∉X.fs/\(b∈X.ex\/X.s₀.heap.objs.size<=b)/\(∀ x c,X.env.cells.lookup x=some c->c≠b)/\∀ p∈X.pn++pins,p.1≠b
theorem Inv.fpOk{X:Cx}{pins:List (Addr×Obj)}{σ:St}{H H':Hp}{s:Shared}{b:Addr}(I:Inv X pins σ H s)(hb:s.heap.objs.size<=b)(hn:H' b=none):FpOk X pins H' b:=by
 refine⟨hn,Nat.ne_of_gt (zY I.lt hb),I.nofs hb,.inr (zAC I.sz hb),fun x c e z=>?_,fun p hp z=>?_⟩
 ·obtain⟨v,q⟩:=I.cell x c e
  exact absurd (zY q.lt (by rw[z];exact hb)) (zAE _)
 ·exact absurd (zY (zP (I.pin p hp).1) (by rw[z];exact hb)) (zAE _)
structure Turn(P:Program)(w:World)(K:PySem.W.Frag)(tg:Expr)(J:It)(fp:List Addr)(it:Addr)(tn:Nat->Heap->Prop):Prop where
 mem:it∈fp
 obj:∀ i h,tn i h->∀ b∈fp,∃ o,h.get? b=some o/\∀ v,o.data≠.cell v
 keep:∀ i h h',tn i h->(∀ b∈fp,∀ o,h.get? b=some o->h'.get? b=some o)->tn i h'
 item:∀ (X:Cx),X.prog=P->X.w=w->X.K=K->X.calm=true->∀ (i:Nat) (pins:List (Addr×Obj)) (s:Shared) (σ:St) (H:Hp) (E:Value->Shared->Prop),Inv X pins σ H s->(∀ b∈fp,FpOk X pins H b)->tn i s.heap->J.go i H ->
  wpAny (model P w) X.A (pyNext (.ref it)) (fun r s1=>∃ u,r=some u /\
   wpAny (model P w) X.A (letOwnedTupleGo tg (.ref it) u) (fun _ s2=>∃ x H',Inv X pins σ H' s2/\RelV x u/\J.yld i H x H'/\tn (i+1) s2.heap/\∀ b∈fp,H' b=none) E s1) E s
 done:∀ (X:Cx),X.prog=P->X.w=w->X.K=K->X.calm=true->∀ (i:Nat) (pins:List (Addr×Obj)) (s:Shared) (σ:St) (H:Hp) (E:Value->Shared->Prop),Inv X pins σ H s->(∀ b∈fp,FpOk X pins H b)->tn i s.heap->J.stop i H ->
  wpAny (model P w) X.A (pyNext (.ref it)) (fun r s1=>r=none/\Inv X pins σ H s1) E s
 self:∀ (A:Around) (i:Nat) (s:Shared) (Q:Value->Shared->Prop) (E:Value->Shared->Prop),tn i s.heap->Q (.ref it) s->wpAny (model P w) A (pyIter (.ref it)) Q E s
noncomputable abbrev TI:=St->Hp->(It->Hp->Prop)->Prop
noncomputable def PIE(X:Cx)(pins:List (Addr×Obj))(σ:St)(tg:Expr)(R:It->Hp->Prop)(itv:Value)(s2:Shared):Prop :=
 ∃ (it:Addr) (fp:List Addr) (tn:Nat->Heap->Prop) (J:It) (H':Hp),itv = .ref it/\Inv X pins σ H' s2/\Turn X.prog X.w X.K tg J fp it tn/\tn 0 s2.heap/\(∀ b∈fp,FpOk X pins H' b)/\R J H'
noncomputable def PI(X:Cx)(tg iter:Expr)(wi:TI):Prop :=
 ∀ (pins:List (Addr×Obj)) (s:Shared) (σ:St) (H:Hp) (R:It->Hp->Prop),Inv X pins σ H s->wi σ H R ->
  wpAny (model X.prog X.w) X.A (eval iter X.env) (fun v s1=>wpAny (model X.prog X.w) X.A (pyIter v) (PIE X pins σ tg R) X.xe s1) X.xe s
theorem go_of {M : Model} {A : Around} {E : Value → Shared → Prop} {s : Shared} {tg : Expr} {it : Addr} {u : Value} {o : Obj} {n : String} {vs : Array Value} {Q : Unit → Shared → Prop} (ho : s.heap.get? it = some o) (hc : o.cls = .type n) (hd : o.data = .fields vs)
    (hn : ["enumerate", "zip", "dict_itemiterator", "dict_reverseitemiterator", "odict_iterator", "itertools.zip_longest", "itertools.pairwise"].contains n = false) (hQ : Q () s) : wpAny M A (letOwnedTupleGo tg (.ref it) u) Q E s := by
  unfold letOwnedTupleGo
  cases tg <;> first
    | exact zH hQ
    | (cases u <;> first
        | exact zH hQ
        | (refine zB (wpAny_load ho ?_)
           rw [hc, hd]
           show wpAny M A (if (["enumerate", "zip", "dict_itemiterator", "dict_reverseitemiterator", "odict_iterator", "itertools.zip_longest", "itertools.pairwise"].contains n && vs[0]? == some (rawInt _)) = true then _ else _) Q E s
           rw [if_neg (by intro h; rw [hn, Bool.false_and] at h; cases h)]
           exact zH hQ))
noncomputable def Itl(K:PySem.W.Frag)(a:Addr):It :=
 ⟨fun i H=>∃ xs x,SqL K H a xs/\xs[i]?=some x,fun i H x H'=>H'=H/\∀ xs,SqL K H a xs->xs[i]?=some x,fun i H=>∃ xs,SqL K H a xs/\xs.length<=i⟩
noncomputable def Itt(K:PySem.W.Frag)(a:Addr):It :=
 ⟨fun i H=>∃ xs x,SqT K H a xs/\xs[i]?=some x,fun i H x H'=>H'=H/\∀ xs,SqT K H a xs->xs[i]?=some x,fun i H=>∃ xs,SqT K H a xs/\xs.length<=i⟩
noncomputable def Itr(lo:Int)(n:Nat):It:=⟨fun i _=>i<n,fun i H x H'=>H'=H/\x = .int (lo+i),fun i _=>n<=i⟩
theorem turn_list{P:Program}{w:World}{K:PySem.W.Frag}{tg:Expr}(a it:Addr):Turn P w K tg (Itl K a) [it] it (fun i h=>h.IsListIter it a i)where
 mem:=by simp
 obj:=fun i h st b hb=>by
  have e:b=it:=by simpa using hb
  subst e
  obtain⟨o,e,c,d⟩:=st
  exact⟨o,e,fun v z=>by rw[d]at z;cases z⟩
 keep:=fun i h h' st k=>st.at fun o e=>k it (by simp) o e
 item:=by
  intro X hP hw hK hc i pins s σ H E I hf st hg
  subst hP hw hK
  obtain⟨xs,x,hq,hx⟩:=hg
  obtain⟨its,rv,p,hz⟩:=I.list hq
  obtain⟨u,hu,ru⟩:=rv.get hx
  obtain⟨f0,f1,f2,f3,f4,f5⟩:=hf it (by simp)
  refine wpAny_pyNext_list_item st p.isList (x:=u) (by simpa using hu) fun h' st' sb=>?_
  have I1:Inv X pins σ H { s with heap:=h' }:=I.turned (t':=s.toks) (fun b o hb e=>(sb.2 b hb).trans e) f0 f1 f3 f4 f5
  obtain⟨o,e,c,d⟩:=id st'
  exact⟨u,rfl,go_of (s:={ s with heap:=h' }) e c d (by decide) ⟨x,H,I1,ru,⟨rfl,fun ys hy=>by rw[I.list_inj hy hq];exact hx⟩,st',fun b hb=>(hf b hb).1⟩⟩
 done:=by
  intro X hP hw hK hc i pins s σ H E I hf st hg
  subst hP hw hK
  obtain⟨xs,hq,hx⟩:=hg
  obtain⟨its,rv,p,hz⟩:=I.list hq
  obtain⟨f0,f1,f2,f3,f4,f5⟩:=hf it (by simp)
  have hl:=rv.length
  exact wpAny_pyNext_list_end (I.ok.hd hc) st p.isList (by simp;lia) fun h' eb=>⟨rfl,I.turned (t':=s.toks) (fun b o hb e=>eb b o hb e) f0 f1 f3 f4 f5⟩
 self:=fun _ _ _ _ _ st h=>wpAny_pyIter_listiter st h
theorem turn_tuple{P:Program}{w:World}{K:PySem.W.Frag}{tg:Expr}(a it:Addr):Turn P w K tg (Itt K a) [it] it (fun i h=>h.IsTupleIter it a i)where
 mem:=by simp
 obj:=fun i h st b hb=>by
  have e:b=it:=by simpa using hb
  subst e
  obtain⟨o,e,c,d⟩:=st
  exact⟨o,e,fun v z=>by rw[d]at z;cases z⟩
 keep:=fun i h h' st k=>st.at fun o e=>k it (by simp) o e
 item:=by
  intro X hP hw hK hc i pins s σ H E I hf st hg
  subst hP hw hK
  obtain⟨xs,x,hq,hx⟩:=hg
  obtain⟨its,rv,p,hz⟩:=I.tuple hq
  obtain⟨u,hu,ru⟩:=rv.get hx
  obtain⟨f0,f1,f2,f3,f4,f5⟩:=hf it (by simp)
  refine wpAny_pyNext_tuple_item st (show s.heap.IsTuple a its.toArray from p) (x:=u) (by simpa using hu) fun h' st' sb=>?_
  have I1:Inv X pins σ H { s with heap:=h' }:=I.turned (t':=s.toks) (fun b o hb e=>(sb.2 b hb).trans e) f0 f1 f3 f4 f5
  obtain⟨o,e,c,d⟩:=id st'
  exact⟨u,rfl,go_of (s:={ s with heap:=h' }) e c d (by decide) ⟨x,H,I1,ru,⟨rfl,fun ys hy=>by rw[I.tuple_inj hy hq];exact hx⟩,st',fun b hb=>(hf b hb).1⟩⟩
 done:=by
  intro X hP hw hK hc i pins s σ H E I hf st hg
  subst hP hw hK
  obtain⟨xs,hq,hx⟩:=hg
  obtain⟨its,rv,p,hz⟩:=I.tuple hq
  obtain⟨f0,f1,f2,f3,f4,f5⟩:=hf it (by simp)
  have hl:=rv.length
  exact wpAny_pyNext_tuple_end (I.ok.hd hc) st (show s.heap.IsTuple a its.toArray from p) (by simp;lia) fun h' eb=>⟨rfl,I.turned (t':=s.toks) (fun b o hb e=>eb b o hb e) f0 f1 f3 f4 f5⟩
 self:=fun _ _ _ _ _ st h=>wpAny_pyIter_tupleiter st h
theorem turn_range{P:Program}{w:World}{K:PySem.W.Frag}{tg:Expr}(it:Addr)(lo:Int)(n:Nat):Turn P w K tg (Itr lo n) [it] it (fun i h=>IsRangeIter h it (lo+(i:Nat) * 1) ((n:Int)-(i:Nat)) 1)where
 mem:=by simp
 obj:=fun i h st b hb=>by
  have e:b=it:=by simpa using hb
  subst e
  exact⟨_,st,fun v z=>by
   have z':Data.fields _=Data.cell v:=z
   cases z'⟩
 keep:=fun i h h' st k=>k it (by simp) _ st
 item:=by
  intro X hP hw hK hc i pins s σ H E I hf st hg
  subst hP hw hK
  obtain⟨f0,f1,f2,f3,f4,f5⟩:=hf it (by simp)
  have W:=Walks.range (prog:=X.prog) (w:=X.w) (I.ok.hd hc) it lo 1 n
  refine W.item i s _ _ hg st fun v h' tk hv st' kk=>?_
  obtain⟨t,rfl⟩:=hv
  have I1:Inv X pins σ H { s with heap:=h',toks:=tk }:=I.turned (fun b o hb e=>kk b o (by simpa using hb) e) f0 f1 f3 f4 f5
  refine⟨_,rfl,go_of (s:={ s with heap:=h',toks:=tk }) (n:="range_iterator") st' rfl rfl (by decide) ⟨.int (lo+i),H,I1,⟨t,?_⟩,⟨rfl,rfl⟩,st',fun b hb=>(hf b hb).1⟩⟩
  rw[Int.mul_one]
 done:=by
  intro X hP hw hK hc i pins s σ H E I hf st hg
  subst hP hw hK
  obtain⟨f0,f1,f2,f3,f4,f5⟩:=hf it (by simp)
  exact wpAny_pyNext_range_end (I.ok.hd hc) st (by have:n<=i:=hg;lia) fun h' eb=>⟨rfl,I.turned (t':=s.toks) (fun b o hb e=>eb b o hb e) f0 f1 f3 f4 f5⟩
 self:=fun _ _ _ _ _ st h=>wpAny_pyIter_rangeiter st h
open PySem PySem.Spec PyProof.Rows
section
variable{X:Cx}{tg:Expr}
inductive ExS(x:V)(S Q:Addr->Prop):Prop where
 |mk (a:Addr) (e:x = .ref a) (s:S a) (h:Q a)
noncomputable def iList(K:PySem.W.Frag)(tl:TE):TI:=fun σ H R=>tl σ H fun x H1=>ExS x (fun a=>∃ xs,SqL K H1 a xs) fun a=>R (Itl K a) H1
noncomputable def iTup(K:PySem.W.Frag)(tl:TE):TI:=fun σ H R=>tl σ H fun x H1=>ExS x (fun a=>∃ xs,SqT K H1 a xs) fun a=>R (Itt K a) H1
theorem pi_list{l:Expr}{tl:TE}(hl:PE X l tl):PI X tg l (iList X.K tl):=by
 intro pins s σ H R I h
 refine thn (hl pins s σ H _ I h) fun v s1 ⟨x,H1,I1,r1,q1⟩=>?_
 obtain⟨a,e,⟨xs,hq⟩,q⟩:=q1
 subst e
 cases r1
 obtain⟨its,rv,p,hz⟩:=I1.list hq
 refine wpAny_pyIter_list p.isList ?_
 refine⟨s1.heap.objs.size,[s1.heap.objs.size],_,_,H1,rfl,I1.kept (t':=s1.toks) fun b o e=>zC _ e,turn_list a _,⟨_,zW _ rfl,rfl,rfl⟩,fun b hb=>?_,q⟩
 have e:b=s1.heap.objs.size:=by simpa using hb
 subst e
 exact I1.fpOk (zI _) (I1.hok.fresh (zI _))
theorem pi_tup{l:Expr}{tl:TE}(hl:PE X l tl):PI X tg l (iTup X.K tl):=by
 intro pins s σ H R I h
 refine thn (hl pins s σ H _ I h) fun v s1 ⟨x,H1,I1,r1,q1⟩=>?_
 obtain⟨a,e,⟨xs,hq⟩,q⟩:=q1
 subst e
 cases r1
 obtain⟨its,rv,p,hz⟩:=I1.tuple hq
 refine wpAny_pyIter_tuple (show s1.heap.IsTuple a its.toArray from p) ?_
 refine⟨s1.heap.objs.size,[s1.heap.objs.size],_,_,H1,rfl,I1.kept (t':=s1.toks) fun b o e=>zC _ e,turn_tuple a _,⟨_,zW _ rfl,rfl,rfl⟩,fun b hb=>?_,q⟩
 have e:b=s1.heap.objs.size:=by simpa using hb
 subst e
 exact I1.fpOk (zI _) (I1.hok.fresh (zI _))
theorem range_it{pins:List (Addr×Obj)}{σ:St}{H:Hp}{s:Shared}{R:It->Hp->Prop}{E:Value->Shared->Prop}{lo hi:Int}{t u v:Tok}{tk:Nat}(I:Inv X pins σ H s)(h1:-(2 ^ 62)<=lo)(h2:lo<2 ^ 62)(h3:-(2 ^ 62)<=hi)(h4:hi<2 ^ 62)
  (q:R (Itr lo (hi-lo).toNat) H):wpAny (model X.prog X.w) X.A (pyIter (.ref s.heap.objs.size)) (PIE X pins σ tg R) E { s with heap:=s.heap.push { cls:=.type "range",data:=.fields #[.int lo t,.int hi u,.int 1 v] },toks:=tk }:=by
 refine wpAny_pyIter_range (IsRange.new ..) (small_one h1 h2 h3 h4) ?_
 have I1:Inv X pins σ H { s with heap:=s.heap.push { cls:=.type "range",data:=.fields #[.int lo t,.int hi u,.int 1 v] },toks:=tk }:=I.kept fun b o e=>zC _ e
 refine⟨(s.heap.push { cls:=.type "range",data:=.fields #[.int lo t,.int hi u,.int 1 v] }).objs.size,[(s.heap.push { cls:=.type "range",data:=.fields #[.int lo t,.int hi u,.int 1 v] }).objs.size],_,_,H,rfl,
  I1.kept (t':=tk) fun b o e=>zC _ e,turn_range _ lo (hi-lo).toNat,?_,fun b hb=>?_,q⟩
 ·have e1:lo+((0:Nat):Int) * 1=lo:=by simp
  have e2:(((hi-lo).toNat:Nat):Int)-((0:Nat):Int)=Builtin.Range.rangeSize lo hi 1:=by rw[rangeSize_one];split <;> lia
  show IsRangeIter _ _ (lo+((0:Nat):Int) * 1) ((((hi-lo).toNat:Nat):Int)-((0:Nat):Int)) 1
  rw[e1,e2]
  exact zW _ rfl
 ·have e:b=(s.heap.push { cls:=.type "range",data:=.fields #[.int lo t,.int hi u,.int 1 v] }).objs.size:=by simpa using hb
  subst e
  exact I1.fpOk (zI _) (I1.hok.fresh (zI _))
noncomputable def iRng1(ta:TA):TI:=fun σ H R=>ta σ H fun vs H1=>∃ j:Int,vs=[.int j]/\-(2 ^ 62)<=j/\j<2 ^ 62/\R (Itr 0 j.toNat) H1
noncomputable def iRng2(ta:TA):TI:=fun σ H R=>ta σ H fun vs H1=>∃ i j:Int,vs=[.int i,.int j]/\(-(2 ^ 62)<=i/\i<2 ^ 62/\-(2 ^ 62)<=j/\j<2 ^ 62)/\R (Itr i (j-i).toNat) H1
theorem pi_range1{a:Expr}{ta:TA}{p pos:Pos}(hg:Gl X "range")(hm:X.mg "range" = none)(ha:PA X [a] ta)(hs:starEach [a] X.env=[(false,eval a X.env)]:=by rfl):PI X tg (.Call (.Name "range" p) [a] [] pos) (iRng1 ta):=by
 intro pins s σ H R I h
 refine Call_ (ld_blt I hg hm boot_range (PyProof.Rows.callWith_type1 (thn (ha pos pins s σ H _ I h) fun us s1 ⟨vs,H1,I1,r1,q1⟩=>?_) hs rfl))
 obtain⟨j,e,q1,q2,q⟩:=q1
 subst e
 cases r1 with
 |cons r rr =>
  cases rr
  obtain⟨t,rfl⟩:=r
  exact call_range_1 (range_it I1 (by lia) (by lia) q1 q2 (by simpa using q))
theorem pi_range2{a b:Expr}{ta:TA}{p pos:Pos}(hg:Gl X "range")(hm:X.mg "range" = none)(ha:PA X [a,b] ta)(hs:starEach [a,b] X.env=[(false,eval a X.env),(false,eval b X.env)]:=by rfl)(hs2:starEach [b] X.env=[(false,eval b X.env)]:=by rfl) :
  PI X tg (.Call (.Name "range" p) [a,b] [] pos) (iRng2 ta):=by
 intro pins s σ H R I h
 refine Call_ (ld_blt I hg hm boot_range (PyProof.Rows.callWith_type1 (thn (ha pos pins s σ H _ I h) fun us s1 ⟨vs,H1,I1,r1,q1⟩=>?_) (by rw[hs,hs2]) (by rw[hs2];rfl)))
 obtain⟨i,j,e,⟨q1,q2,q3,q4⟩,q⟩:=q1
 subst e
 cases r1 with
 |cons r rr =>
  cases rr with
  |cons r' rr =>
   cases rr
   obtain⟨t,rfl⟩:=r
   obtain⟨t',rfl⟩:=r'
   exact call_range_2 (range_it I1 q1 q2 q3 q4 q)
noncomputable def tFor(wi:TI)(g:TG)(tb:TS):TS:=fun D σ H=>wi σ H fun J H1=>∃ W:Nat->Nat->St->Hp->Prop,(∃ m,W 0 m σ H1)/\∀ i m σ H,W i m σ H ->
 (J.stop i H/\D.nx σ H)\/(J.go i H/\∃ N:St->Hp->Prop,(∀ σ' H',N σ' H'->∃ m',m'<m/\W (i+1) m' σ' H')/\∀ x H',J.yld i H x H'->g x σ H' fun σ2 H2=>tb { D with nx:=N,ct:=N,bk:=D.nx } σ2 H2)
noncomputable def pinsAt(fp:List Addr)(h:Heap):List (Addr×Obj):=fp.filterMap fun b=>(h.get? b).map fun o=>(b,o)
theorem mem_pinsAt{fp:List Addr}{h:Heap}{b:Addr}{o:Obj}(hb:b∈fp)(e:h.get? b=some o):(b,o)∈pinsAt fp h:=List.mem_filterMap.mpr ⟨b,hb,by rw[e];rfl⟩
theorem of_pinsAt{fp:List Addr}{h:Heap}{p:Addr×Obj}(hp:p∈pinsAt fp h):p.1∈fp/\h.get? p.1=some p.2:=by
 obtain⟨b,hb,e⟩:=List.mem_filterMap.mp hp
 cases q:h.get? b with
 |none=>rw[q]at e;cases e
 |some o =>
  rw[q]at e
  have e':(b,o)=p:=Option.some.inj e
  subst e'
  exact⟨hb,q⟩
theorem Inv.pinned{pins:List (Addr×Obj)}{σ:St}{H:Hp}{s:Shared}{fp:List Addr}(I:Inv X pins σ H s)(hf:∀ b∈fp,FpOk X pins H b)(ho:∀ b∈fp,∃ o,s.heap.get? b=some o/\∀ v,o.data≠.cell v):Inv X (pins++pinsAt fp s.heap) σ H s :=
 I.pins_of fun p hp=>(zO.mp hp).elim (fun z=>I.pin p (zM _ z)) fun z=>by
  obtain⟨hb,e⟩:=of_pinsAt z
  obtain⟨f0,f1,f2,_⟩:=hf p.1 hb
  obtain⟨o,e',d⟩:=ho p.1 hb
  rw[e]at e';cases e'
  exact⟨e,f0,f1,f2,d⟩
theorem Inv.unpinned{pins pl:List (Addr×Obj)}{σ:St}{H:Hp}{s:Shared}(I:Inv X (pins++pl) σ H s):Inv X pins σ H s:=I.pins_of fun p hp=>I.pin p (zM _ (zV _ hp))
theorem ps_for{iter:Expr}{body:List Stmt}{wi:TI}{g:TG}{tb:TS}{pos:Pos}(hp:PassesOwn (model X.prog X.w) X.A X.env X.xe)(hc:X.calm=true)(hi:PI X tg iter wi)(hg:PG X tg g)(hb:PSs X body tb)
  (hs:∀ x,foldedSetIterable iter X.env x=pure x:=by intro _;rfl):PS X (.For tg iter body [] pos) (tFor wi g tb):=by
 intro pins s σ H D I h
 refine wpAny_For (thn (hi pins s σ H _ I h) fun v s1 h1=>thn h1 fun itv s2 h2=>?_) hs
 obtain⟨it,fp,tn,J,H2,e,I2,T,st2,f2,W,⟨m0,w0⟩,turn⟩:=h2
 subst e
 -- what stays true of the iterator's objects through the loop
 have stat:∀ {H':Hp},(∀ b∈fp,H' b=none)->∀ b∈fp,FpOk X pins H' b:=fun hn b hb=>⟨hn b hb,(f2 b hb).2⟩
 refine codeAny_forLoop_any (fun n s'=>∃ i σ' H',Inv X pins σ' H' s'/\tn i s'.heap/\(∀ b∈fp,H' b=none)/\W i n σ' H') ?_ m0 ⟨0,σ,H2,I2,st2,fun b hb=>(f2 b hb).1,w0⟩
 rintro n s3 ⟨i,σ3,H3,I3,st3,fr3,w3⟩
 rcases turn i n σ3 H3 w3 with⟨stop,qn⟩ |⟨go,N,hN,step⟩
 ·refine wpAny_passesOwn hp (thn (T.done X rfl rfl rfl hc i pins s3 σ3 H3 X.xe I3 (stat fr3) st3 stop) fun r s4 ⟨hr,I4⟩=>?_)
  subst hr
  exact wpAny_execs_nil ⟨σ3,H3,I4,qn⟩
 ·refine wpAny_passesOwn hp (thn (T.item X rfl rfl rfl hc i pins s3 σ3 H3 X.xe I3 (stat fr3) st3 go) fun r s4 ⟨u,hr,h4⟩=>?_)
  subst hr
  refine wpAny_passesOwn hp (thn h4 fun _ s5 ⟨x,H5,I5,r5,y5,st5,fr5⟩=>?_)
  have I5':=I5.pinned (stat fr5) (T.obj _ _ st5)
  refine wpAny_passesOwn hp (thn (hg _ s5 σ3 H5 x u _ I5' r5 (step x H5 y5)) fun _ s6 ⟨σ6,H6,I6,q6⟩=>?_)
  refine wpAny_passesOwn hp (thn (hb _ s6 σ6 H6 _ I6 q6) fun f s7 q7=>?_)
  have again:∀ {σ7:St}{H7:Hp},Inv X (pins++pinsAt fp s5.heap) σ7 H7 s7->N σ7 H7->∃ m,m<n/\∃ i σ' H',Inv X pins σ' H' s7/\tn i s7.heap/\(∀ b∈fp,H' b=none)/\W i m σ' H':=fun {σ7 H7} I7 n7=>by
   obtain⟨m',hm,w7⟩:=hN σ7 H7 n7
   refine⟨m',hm,i+1,σ7,H7,I7.unpinned,T.keep _ _ _ st5 fun b hb o e=>(I7.pin (b,o) (zM _ (zM _ (mem_pinsAt hb e)))).1,fun b hb=>?_,w7⟩
   obtain⟨o,e,d⟩:=T.obj _ _ st5 b hb
   exact(I7.pin (b,o) (zM _ (zM _ (mem_pinsAt hb e)))).2.1
  cases f with
  |next=>obtain⟨σ7,H7,I7,n7⟩:=q7;exact again I7 n7
  |cont=>obtain⟨σ7,H7,I7,n7⟩:=q7;exact again I7 n7
  |brk=>obtain⟨σ7,H7,I7,q7⟩:=q7;exact⟨σ7,H7,I7.unpinned,q7⟩
  |ret v=>obtain⟨x7,σ7,H7,I7,r7,q7⟩:=q7;exact⟨x7,σ7,H7,I7.unpinned,r7,q7⟩
end
theorem for_list{K:PySem.W.Frag}{a:Addr}{xs:List V}{g:TG}{tb:TS}{D:Ends}{σ:St}{H:Hp}(Pv:Nat->St->Hp->Prop)(h0:Pv 0 σ H)(hl:∀ i σ H,i<=xs.length->Pv i σ H->SqL K H a xs)
  (hs:∀ i x σ H,xs[i]?=some x->Pv i σ H->g x σ H fun σ2 H2=>tb { D with nx:=Pv (i+1),ct:=Pv (i+1),bk:=D.nx } σ2 H2) (hd:∀ σ H,Pv xs.length σ H->D.nx σ H) :
  ∃ W:Nat->Nat->St->Hp->Prop,(∃ m,W 0 m σ H)/\∀ i m σ H,W i m σ H ->
   ((Itl K a).stop i H/\D.nx σ H)\/((Itl K a).go i H/\∃ N:St->Hp->Prop,(∀ σ' H',N σ' H'->∃ m',m'<m/\W (i+1) m' σ' H')/\∀ x H',(Itl K a).yld i H x H'->g x σ H' fun σ2 H2=>tb { D with nx:=N,ct:=N,bk:=D.nx } σ2 H2):=by
 refine⟨fun i m σ H=>m=xs.length-i/\i<=xs.length/\Pv i σ H,⟨xs.length,by simp,zAQ _,h0⟩,?_⟩
 rintro i m σ H ⟨rfl,hi,p⟩
 have q:=hl i σ H hi p
 by_cases hlt:i<xs.length
 ·refine .inr ⟨⟨xs,xs[i],q,by simp[hlt]⟩,Pv (i+1),fun σ' H' p'=>⟨xs.length-(i+1),by omega,rfl,hlt,p'⟩,fun x H' y=>?_⟩
  obtain⟨e,y⟩:=y
  subst e
  exact hs i x σ _ (y xs q) p
 ·have e:i=xs.length:=by lia
  subst e
  exact .inl ⟨⟨xs,q,zI _⟩,hd σ H p⟩
theorem for_tup{K:PySem.W.Frag}{a:Addr}{xs:List V}{g:TG}{tb:TS}{D:Ends}{σ:St}{H:Hp}(Pv:Nat->St->Hp->Prop)(h0:Pv 0 σ H)(hl:∀ i σ H,i<=xs.length->Pv i σ H->SqT K H a xs)
  (hs:∀ i x σ H,xs[i]?=some x->Pv i σ H->g x σ H fun σ2 H2=>tb { D with nx:=Pv (i+1),ct:=Pv (i+1),bk:=D.nx } σ2 H2) (hd:∀ σ H,Pv xs.length σ H->D.nx σ H) :
  ∃ W:Nat->Nat->St->Hp->Prop,(∃ m,W 0 m σ H)/\∀ i m σ H,W i m σ H ->
   ((Itt K a).stop i H/\D.nx σ H)\/((Itt K a).go i H/\∃ N:St->Hp->Prop,(∀ σ' H',N σ' H'->∃ m',m'<m/\W (i+1) m' σ' H')/\∀ x H',(Itt K a).yld i H x H'->g x σ H' fun σ2 H2=>tb { D with nx:=N,ct:=N,bk:=D.nx } σ2 H2):=by
 refine⟨fun i m σ H=>m=xs.length-i/\i<=xs.length/\Pv i σ H,⟨xs.length,by simp,zAQ _,h0⟩,?_⟩
 rintro i m σ H ⟨rfl,hi,p⟩
 have q:=hl i σ H hi p
 by_cases hlt:i<xs.length
 ·refine .inr ⟨⟨xs,xs[i],q,by simp[hlt]⟩,Pv (i+1),fun σ' H' p'=>⟨xs.length-(i+1),by omega,rfl,hlt,p'⟩,fun x H' y=>?_⟩
  obtain⟨e,y⟩:=y
  subst e
  exact hs i x σ _ (y xs q) p
 ·have e:i=xs.length:=by lia
  subst e
  exact .inl ⟨⟨xs,q,zI _⟩,hd σ H p⟩
theorem for_range{lo:Int}{n:Nat}{g:TG}{tb:TS}{D:Ends}{σ:St}{H:Hp}(Pv:Nat->St->Hp->Prop)(h0:Pv 0 σ H)
  (hs:∀ i σ H,i<n->Pv i σ H->g (.int (lo+i)) σ H fun σ2 H2=>tb { D with nx:=Pv (i+1),ct:=Pv (i+1),bk:=D.nx } σ2 H2) (hd:∀ σ H,Pv n σ H->D.nx σ H) :
  ∃ W:Nat->Nat->St->Hp->Prop,(∃ m,W 0 m σ H)/\∀ i m σ H,W i m σ H ->
   ((Itr lo n).stop i H/\D.nx σ H)\/((Itr lo n).go i H/\∃ N:St->Hp->Prop,(∀ σ' H',N σ' H'->∃ m',m'<m/\W (i+1) m' σ' H')/\∀ x H',(Itr lo n).yld i H x H'->g x σ H' fun σ2 H2=>tb { D with nx:=N,ct:=N,bk:=D.nx } σ2 H2):=by
 refine⟨fun i m σ H=>m=n-i/\i<=n/\Pv i σ H,⟨n,by simp,zAQ _,h0⟩,?_⟩
 rintro i m σ H ⟨rfl,hi,p⟩
 by_cases hlt:i<n
 ·refine .inr ⟨hlt,Pv (i+1),fun σ' H' p'=>⟨n-(i+1),by omega,rfl,hlt,p'⟩,fun x H' y=>?_⟩
  obtain⟨e,y⟩:=y
  subst e y
  exact hs i σ _ hlt p
 ·have e:i=n:=by lia
  subst e
  exact .inl ⟨zI _,hd σ H p⟩
open PySem PySem.Spec PyProof.Rows
noncomputable abbrev R2:=V->V->Hp->VK->Prop
noncomputable def OpR(X:Cx)(f:Value->Value->Sem Value)(r:R2):Prop :=
 ∀ (pins:List (Addr×Obj)) (s:Shared) (σ:St) (H:Hp) (x y:V) (v u:Value) (Q:VK),Inv X pins σ H s->RelV x v->RelV y u->r x y H Q ->
  wpAny (model X.prog X.w) X.A (f v u) (EP X pins σ Q) X.xe s
noncomputable def UnR(X:Cx)(f:Value->Sem Value)(r:V->Hp->VK->Prop):Prop :=
 ∀ (pins:List (Addr×Obj)) (s:Shared) (σ:St) (H:Hp) (x:V) (v:Value) (Q:VK),Inv X pins σ H s->RelV x v->r x H Q ->
  wpAny (model X.prog X.w) X.A (f v) (EP X pins σ Q) X.xe s
noncomputable def CallR(X:Cx)(f:Value)(r:List V->Hp->VK->Prop):Prop :=
 ∀ (pins:List (Addr×Obj)) (s:Shared) (σ:St) (H:Hp) (xs:List V) (us:List Value) (Q:VK),Inv X pins σ H s->Vals xs us->r xs H Q ->
  wpAny (model X.prog X.w) X.A (call f us) (EP X pins σ Q) X.xe s
noncomputable def TruR(X:Cx)(r:V->Hp->(Bool->Hp->Prop)->Prop):Prop :=
 ∀ (pins:List (Addr×Obj)) (s:Shared) (σ:St) (H:Hp) (x:V) (v:Value) (Q:Bool->Hp->Prop),Inv X pins σ H s->RelV x v->r x H Q ->
  wpAny (model X.prog X.w) X.A (truthy v) (TP X pins σ Q) X.xe s
noncomputable def tOp(r:R2)(ta tb:TE):TE:=fun σ H Q=>ta σ H fun x H1=>tb σ H1 fun y H2=>r x y H2 Q
noncomputable def tUn(r:V->Hp->VK->Prop)(ta:TE):TE:=fun σ H Q=>ta σ H fun x H1=>r x H1 Q
inductive rII(C:Int->Int->Prop)(g:Int->Int->V)(x:V)(y:V)(H:Hp)(Q:VK):Prop where
 |mk (i:_) (j:_) (h1:x = .int i) (h2:y = .int j) (h3:C i j) (h4:Q (g i j) H)
noncomputable def rI(C:Int->Int->Prop)(g:Int->Int->V):R2:=fun x y H Q=>rII C g x y H Q
inductive rI0I(g:Int->Int->V)(x:V)(y:V)(H:Hp)(Q:VK):Prop where
 |mk (i:_) (j:_) (h1:x = .int i) (h2:y = .int j) (h3:Q (g i j) H)
noncomputable def rI0(g:Int->Int->V):R2:=fun x y H Q=>rI0I g x y H Q
inductive rUI(g:Int->V)(x:V)(H:Hp)(Q:VK):Prop where
 |mk (i:_) (h1:x = .int i) (h2:Q (g i) H)
noncomputable def rU(g:Int->V):V->Hp->VK->Prop:=fun x H Q=>rUI g x H Q
section
variable{X:Cx}{a b c:Expr}{ta tb tc:TE}{pos:Pos}
theorem binT(ha:PE X a ta)(hb:PE X b tb){pins:List (Addr×Obj)}{s:Shared}{σ:St}{H:Hp}{R:V->V->Hp->Prop}(I:Inv X pins σ H s)
  (h:ta σ H fun x H1=>tb σ H1 fun y H2=>R x y H2) {Q:Value->Shared->Prop}{f:Value->Value->Sem Value}
  (hf:∀ v u s2 x y H2,Inv X pins σ H2 s2->RelV x v->RelV y u->R x y H2->wpAny (model X.prog X.w) X.A (f v u) Q X.xe s2) :
  wpAny (model X.prog X.w) X.A (eval a X.env) (fun v s₁=>wpAny (model X.prog X.w) X.A (eval b X.env) (fun u s₂=>wpAny (model X.prog X.w) X.A (f v u) Q X.xe s₂) X.xe s₁) X.xe s:=by
 refine thn (ha pins s σ H _ I h) fun v s1 ⟨x,H1,I1,r1,q1⟩=>?_
 refine thn (hb pins s1 σ H1 _ I1 q1) fun u s2 ⟨y,H2,I2,r2,q2⟩=>?_
 exact hf v u s2 x y H2 I2 r1 r2 q2
theorem pe_op{op:Operator}{r:R2}(ho:OpR X (binaryOp op) r)(ha:PE X a ta)(hb:PE X b tb):PE X (.BinOp a op b pos) (tOp r ta tb):=by
 intro pins s σ H Q I h
 exact wpAny_BinOp (binT ha hb I h fun v u s2 x y H2 I2 rx ry q=>ho pins s2 σ H2 x y v u Q I2 rx ry q)
theorem pe_un{op:UnaryOp}{r:V->Hp->VK->Prop}(ho:UnR X (unaryOp op) r)(ha:PE X a ta):PE X (.UnaryOp op a pos) (tUn r ta):=by
 intro pins s σ H Q I h
 exact UnaryOp_ (thn (ha pins s σ H _ I h) fun v s1 ⟨x,H1,I1,r1,q1⟩=>ho pins s1 σ H1 x v Q I1 r1 q1)
theorem opI{f:Value->Value->Sem Value}{C:Int->Int->Prop}{g:Int->Int->Int}
  (rule:∀ (i j:Int) (t u:Tok) (s:Shared) (Q:Value->Shared->Prop) (E:Value->Shared->Prop),C i j->Q (.int (g i j) s.toks) { s with toks:=s.toks+1 }->wpAny (model X.prog X.w) X.A (f (.int i t) (.int j u)) Q E s) :
  OpR X f (rI C fun i j=>.int (g i j)):=by
 intro pins s σ H x y v u Q I rx ry h
 obtain⟨i,j,rfl,rfl,hc,q⟩:=h
 obtain⟨t,rfl⟩:=rx
 obtain⟨t',rfl⟩:=ry
 exact rule i j t t' s _ _ hc ⟨.int (g i j),H,I.tok _,⟨_,rfl⟩,q⟩
theorem opI0{f:Value->Value->Sem Value}{g:Int->Int->Int}
  (rule:∀ (i j:Int) (t u:Tok) (s:Shared) (Q:Value->Shared->Prop) (E:Value->Shared->Prop),Q (.int (g i j) s.toks) { s with toks:=s.toks+1 }->wpAny (model X.prog X.w) X.A (f (.int i t) (.int j u)) Q E s) :
  OpR X f (rI0 fun i j=>.int (g i j)):=by
 intro pins s σ H x y v u Q I rx ry h
 obtain⟨i,j,rfl,rfl,q⟩:=h
 obtain⟨t,rfl⟩:=rx
 obtain⟨t',rfl⟩:=ry
 exact rule i j t t' s _ _ ⟨.int (g i j),H,I.tok _,⟨_,rfl⟩,q⟩
theorem opB0{f:Value->Value->Sem Value}{g:Int->Int->Bool}
  (rule:∀ (i j:Int) (t u:Tok) (s:Shared) (Q:Value->Shared->Prop) (E:Value->Shared->Prop),Q (.bool (g i j)) s->wpAny (model X.prog X.w) X.A (f (.int i t) (.int j u)) Q E s) :
  OpR X f (rI0 fun i j=>.bl (g i j)):=by
 intro pins s σ H x y v u Q I rx ry h
 obtain⟨i,j,rfl,rfl,q⟩:=h
 obtain⟨t,rfl⟩:=rx
 obtain⟨t',rfl⟩:=ry
 exact rule i j t t' s _ _ ⟨.bl (g i j),H,I,rfl,q⟩
noncomputable def CDiv(i j:Int):Prop:=0<j/\j<1073741824
noncomputable def CPow(i j:Int):Prop:=0<=j/\j<=1000000/\i.natAbs<2 ^ 64
noncomputable def CMul(i j:Int):Prop:=(-(2 ^ 64)<i/\i<2 ^ 64)\/(-(2 ^ 64)<j/\j<2 ^ 64)
theorem CMul.ok{i j:Int}(h:CMul i j):IntMulOk i j:=by
 rcases h with⟨h1,h2⟩ |⟨h1,h2⟩
 ·exact .of_left (intBits_le_64 h1 h2)
 ·exact .of_right (intBits_le_64 h1 h2)
theorem op_add:OpR X (binaryOp .Add) (rI0 fun i j=>.int (i+j)):=opI0 fun _ _ _ _ _ _ _ q=>add_int q
theorem op_sub:OpR X (binaryOp .Sub) (rI0 fun i j=>.int (i-j)):=opI0 fun _ _ _ _ _ _ _ q=>sub_int q
theorem op_mul:OpR X (binaryOp .Mult) (rI CMul fun i j=>.int (i * j)):=opI fun _ _ _ _ _ _ _ hc q=>mul_int q hc.ok
theorem op_fdiv:OpR X (binaryOp .FloorDiv) (rI CDiv fun i j=>.int (i / j)):=opI fun i j _ _ _ _ _ hc q=>by
 have h1:(0:Int)<j:=hc.1
 have h2:j<1073741824:=hc.2
 exact floordiv_int (by lia) (by rw[Int.fdiv_eq_ediv_of_nonneg i (by lia)];exact q) (.inl (PyProof.noPylong_small (by omega)))
theorem op_mod:OpR X (binaryOp .Mod) (rI (fun _ j=>0<j) fun i j=>.int (i % j)):=opI fun i j _ _ _ _ _ hc q=>by
 have h1:(0:Int)<j:=hc
 exact mod_int' (by lia) (by rw[Int.fmod_eq_emod_of_nonneg i (by lia)];exact q)
theorem op_pow:OpR X (binaryOp .Pow) (rI CPow fun i j=>.int (i ^ j.toNat)):=opI fun _ _ _ _ _ _ _ hc q=>pow_int_small hc.1 hc.2.1 hc.2.2 q
theorem unI{f:Value->Sem Value}{g:Int->Int}
  (rule:∀ (i:Int) (t:Tok) (s:Shared) (Q:Value->Shared->Prop) (E:Value->Shared->Prop),Q (.int (g i) s.toks) { s with toks:=s.toks+1 }->wpAny (model X.prog X.w) X.A (f (.int i t)) Q E s) :
  UnR X f (rU fun i=>.int (g i)):=by
 intro pins s σ H x v Q I rx h
 obtain⟨i,rfl,q⟩:=h
 obtain⟨t,rfl⟩:=rx
 exact rule i t s _ _ ⟨.int (g i),H,I.tok _,⟨_,rfl⟩,q⟩
theorem un_neg:UnR X (unaryOp .USub) (rU fun i=>.int (-i)):=unI fun _ _ _ _ _ q=>neg_int q
end
noncomputable def scal:V->V->Bool
 | .non,.non=>true | .non,.int _=>true | .int _,.non=>true | .non,.bl _=>true | .bl _,.non=>true | .non,.str _=>true | .str _,.non=>true
 | .int _,.int _=>true | .bl _,.bl _=>true | .str _,.str _=>true | .byt _,.byt _=>true
 | .int _,.str _=>true | .str _,.int _=>true | .bl _,.str _=>true | .str _,.bl _=>true
 | _,_=>false
noncomputable def rEq:R2:=fun x y H Q=>scal x y=true/\Q (.bl (decide (x=y))) H
noncomputable def rNe:R2:=fun x y H Q=>scal x y=true/\Q (.bl (!decide (x=y))) H
theorem dec_int{i j:Int}:decide (V.int i=V.int j)=(i == j):=by
 rw[zBB]
 simp
theorem dec_bl{i j:Bool}:decide (V.bl i=V.bl j)=(i == j):=by
 rw[zBB]
 simp
theorem dec_str{i j:Str}:decide (V.str i=V.str j)=(i == j):=by
 rw[zBB]
 simp
theorem dec_byt{i j:Array UInt8}:decide (V.byt i=V.byt j)=(i.toList == j.toList):=by
 rw[zBB]
 cases i
 cases j
 simp
section
variable{X:Cx}{a b c:Expr}{ta tb tc:TE}{pos:Pos}
theorem fin_bl{pins:List (Addr×Obj)}{σ:St}{H:Hp}{s:Shared}{Q:VK}{k k':Bool}(I:Inv X pins σ H s)(q:Q (.bl k) H)(e:k=k'):EP X pins σ Q (.bool k') s:=by
 subst e
 exact⟨.bl k,H,I,rfl,q⟩
theorem op_eq:OpR X (compareOp .Eq) rEq:=by
 intro pins s σ H x y v u Q I rx ry h
 obtain⟨hs,q⟩:=h
 cases x with
 |non =>
  cases rx
  cases y with
  |non=>cases ry;exact PySem.EqNone.eq_none_none (fin_bl I q (by simp))
  |bl j=>cases ry;exact PySem.EqNone.eq_none_bool (fin_bl I q (by simp))
  |int j=>obtain⟨t',rfl⟩:=ry;exact PySem.EqNone.eq_none_int (fin_bl I q (by simp))
  |str j=>obtain⟨t',rfl⟩:=ry;exact PySem.EqNone.eq_none_str (fin_bl I q (by simp))
  | _=>exact absurd (show false=true from hs) zN
 |bl i =>
  cases rx
  cases y with
  |non=>cases ry;exact PySem.EqNone.eq_bool_none (fin_bl I q (by simp))
  |bl j=>cases ry;exact eq_bool (fin_bl I q dec_bl)
  |str j=>obtain⟨t',rfl⟩:=ry;exact PySem.EqMixed.eq_bool_str (fin_bl I q (by simp))
  | _=>exact absurd (show false=true from hs) zN
 |int i =>
  obtain⟨t,rfl⟩:=rx
  cases y with
  |non=>cases ry;exact PySem.EqNone.eq_int_none (fin_bl I q (by simp))
  |int j=>obtain⟨t',rfl⟩:=ry;exact eq_int (fin_bl I q dec_int)
  |str j=>obtain⟨t',rfl⟩:=ry;exact PySem.EqMixed.eq_int_str (fin_bl I q (by simp))
  | _=>exact absurd (show false=true from hs) zN
 |str i =>
  obtain⟨t,rfl⟩:=rx
  cases y with
  |non=>cases ry;exact PySem.EqNone.eq_str_none (fin_bl I q (by simp))
  |bl j=>cases ry;exact PySem.EqMixed.eq_str_bool (fin_bl I q (by simp))
  |int j=>obtain⟨t',rfl⟩:=ry;exact PySem.EqMixed.eq_str_int (fin_bl I q (by simp))
  |str j=>obtain⟨t',rfl⟩:=ry;exact eq_str (fin_bl I q dec_str)
  | _=>exact absurd (show false=true from hs) zN
 |byt i =>
  obtain⟨t,rfl⟩:=rx
  cases y with
  |byt j=>obtain⟨t',rfl⟩:=ry;exact PySem.W.eq_bytes (fin_bl I q dec_byt)
  | _=>exact absurd (show false=true from hs) zN
 | _=>cases y <;> exact absurd (show false=true from hs) zN
theorem op_ne:OpR X (compareOp .NotEq) rNe:=by
 intro pins s σ H x y v u Q I rx ry h
 obtain⟨hs,q⟩:=h
 cases x with
 |non =>
  cases rx
  cases y with
  |non=>cases ry;exact PySem.EqNone.ne_none_none (fin_bl I q (by simp))
  |bl j=>cases ry;exact PySem.EqNone.ne_none_bool (fin_bl I q (by simp))
  |int j=>obtain⟨t',rfl⟩:=ry;exact PySem.EqNone.ne_none_int (fin_bl I q (by simp))
  |str j=>obtain⟨t',rfl⟩:=ry;exact PySem.EqNone.ne_none_str (fin_bl I q (by simp))
  | _=>exact absurd (show false=true from hs) zN
 |bl i =>
  cases rx
  cases y with
  |non=>cases ry;exact PySem.EqNone.ne_bool_none (fin_bl I q (by simp))
  |bl j=>cases ry;exact ne_bool (fin_bl I q (congrArg not dec_bl))
  |str j=>obtain⟨t',rfl⟩:=ry;exact PySem.EqMixed.ne_bool_str (fin_bl I q (by simp))
  | _=>exact absurd (show false=true from hs) zN
 |int i =>
  obtain⟨t,rfl⟩:=rx
  cases y with
  |non=>cases ry;exact PySem.EqNone.ne_int_none (fin_bl I q (by simp))
  |int j=>obtain⟨t',rfl⟩:=ry;exact ne_int (fin_bl I q (congrArg not dec_int))
  |str j=>obtain⟨t',rfl⟩:=ry;exact PySem.EqMixed.ne_int_str (fin_bl I q (by simp))
  | _=>exact absurd (show false=true from hs) zN
 |str i =>
  obtain⟨t,rfl⟩:=rx
  cases y with
  |non=>cases ry;exact PySem.EqNone.ne_str_none (fin_bl I q (by simp))
  |bl j=>cases ry;exact PySem.EqMixed.ne_str_bool (fin_bl I q (by simp))
  |int j=>obtain⟨t',rfl⟩:=ry;exact PySem.EqMixed.ne_str_int (fin_bl I q (by simp))
  |str j=>obtain⟨t',rfl⟩:=ry;exact ne_str (fin_bl I q (congrArg not dec_str))
  | _=>exact absurd (show false=true from hs) zN
 |byt i =>
  obtain⟨t,rfl⟩:=rx
  cases y with
  |byt j=>obtain⟨t',rfl⟩:=ry;exact PySem.W.ne_bytes (fin_bl I q (congrArg not dec_byt))
  | _=>exact absurd (show false=true from hs) zN
 | _=>cases y <;> exact absurd (show false=true from hs) zN
theorem op_lt:OpR X (compareOp .Lt) (rI0 fun i j=>.bl (decide (i<j))):=opB0 fun _ _ _ _ _ _ _ q=>lt_int q
theorem op_le:OpR X (compareOp .LtE) (rI0 fun i j=>.bl (decide (i<=j))):=opB0 fun _ _ _ _ _ _ _ q=>le_int q
theorem op_gt:OpR X (compareOp .Gt) (rI0 fun i j=>.bl (decide (j<i))):=opB0 fun _ _ _ _ _ _ _ q=>gt_int q
theorem op_ge:OpR X (compareOp .GtE) (rI0 fun i j=>.bl (decide (j<=i))):=opB0 fun _ _ _ _ _ _ _ q=>ge_int q
theorem nomark(b:Expr){op:CmpOp}(h:op≠.In:=by decide)(h2:op≠.NotIn:=by decide):behindInMarks op b=false:=by
 have e1:(op == CmpOp.In)=false:=by cases op <;> first | rfl | exact absurd rfl h
 have e2:(op == CmpOp.NotIn)=false:=by cases op <;> first | rfl | exact absurd rfl h2
 cases b <;> simp[behindInMarks,e1,e2]
theorem pe_cmpR{op:CmpOp}{r:R2}(ho:OpR X (compareOp op) r)(ha:PE X a ta)(hb:PE X b tb)(hm:behindInMarks op b=false):PE X (.Compare a [op] [b] pos) (tOp r ta tb):=by
 intro pins s σ H Q I h
 exact wpAny_Compare1 (binT ha hb I h fun v u s2 x y H2 I2 rx ry q=>ho pins s2 σ H2 x y v u Q I2 rx ry q) hm
noncomputable def tTest(t:TE):TT:=fun σ H Q=>t σ H fun x H'=>ExB x fun k=>Q k H'
theorem pt_cmpR{op:CmpOp}{r:R2}(ho:OpR X (compareOp op) r)(ha:PE X a ta)(hb:PE X b tb)(hm:behindInMarks op b=false):PT X (.Compare a [op] [b] pos) (tTest (tOp r ta tb)):=by
 intro pins s σ H Q I h
 refine wpAny_isTrue_Compare1 (thn (ha pins s σ H _ I h) fun v s1 ⟨x,H1,I1,r1,q1⟩=>thn (hb pins s1 σ H1 _ I1 q1) fun u s2 ⟨y,H2,I2,r2,q2⟩ =>
  thn (ho pins s2 σ H2 x y v u _ I2 r1 r2 q2) fun c s3 ⟨z,H3,I3,r3,k,e,q3⟩=>?_) hm
 subst e
 cases r3
 exact wpAny_truthy_bool ⟨H3,I3,q3⟩
noncomputable def tChain(r r':R2)(ta tb tc:TE):TE:=fun σ H Q=>ta σ H fun x H1=>tb σ H1 fun y H2=>r x y H2 fun z H3=>ExB z fun k =>
 (if k=true then tc σ H3 fun w' H4=>r' y w' H4 Q else Q (.bl false) H3)
theorem pt_chain{op op':CmpOp}{r r':R2}(ho:OpR X (compareOp op) r)(ho':OpR X (compareOp op') r')(ha:PE X a ta)(hb:PE X b tb)(hc:PE X c tc)
  (hm:lastMarks [op,op'] [b,c]=false:=by with_unfolding_all rfl):PT X (.Compare a [op,op'] [b,c] pos) (tTest (tChain r r' ta tb tc)):=by
 intro pins s σ H Q I h
 refine isTrue_chain (thn (ha pins s σ H _ I h) fun v s1 ⟨x,H1,I1,r1,q1⟩=>test_link (thn (hb pins s1 σ H1 _ I1 q1) fun u s2 ⟨y,H2,I2,r2,q2⟩ =>
  thn (ho pins s2 σ H2 x y v u _ I2 r1 r2 q2) fun d s3 ⟨z,H3,I3,r3,k,e,q3⟩=>?_)) hm
 subst e
 cases r3
 refine wpAny_truthy_bool ?_
 cases k with
 |false =>
  obtain⟨k',e',q'⟩:=q3
  cases e'
  exact ite_ff ⟨H3,I3,q'⟩
 |true =>
  refine ite_tt (test_last (thn (hc pins s3 σ H3 _ I3 q3) fun w' s4 ⟨z',H4,I4,r4,q4⟩=>thn (ho' pins s4 σ H4 y z' u w' _ I4 r2 r4 q4) fun d' s5 ⟨z2,H5,I5,r5,k2,e2,q5⟩=>?_))
  subst e2
  cases r5
  exact wpAny_truthy_bool ⟨H5,I5,q5⟩
noncomputable def TruV(K:PySem.W.Frag)(x:V)(H:Hp)(k:Bool):Prop :=
 match x with
 | .non=>k=false
 | .bl b=>k=b
 | .int i=>k=(i != 0)
 | .str y=>y.length<=sizeLine/\k=((y.length:Int) != 0)
 | .byt y=>y.size<=sizeLine/\k=((y.size:Int) != 0)
 | .ref p=>(∃ xs,SqL K H p xs/\k = !xs.isEmpty)\/(∃ xs,SqT K H p xs/\k = !xs.isEmpty)\/∃ kvs,H p=some (.dK kvs)/\k = !kvs.isEmpty
 | _=>False
theorem isEmpty_kv{κ:Type}{kvs:List (κ×V)}{vs:List (κ×Value)}(r:KV kvs vs):(!vs.isEmpty) = !kvs.isEmpty:=by
 cases r <;> rfl
theorem isEmpty_of{xs:List V}{its:List Value}(r:Vals xs its):(!its.toArray.isEmpty) = !xs.isEmpty:=by
 cases r <;> simp
theorem line63:(sizeLine:Nat)<2 ^ 63:=by rw[sizeLine_eq];decide
theorem tru_ok:TruR X (fun x H Q=>∃ k,TruV X.K x H k/\Q k H):=by
 intro pins s σ H x v Q I rx h
 obtain⟨k,e,q⟩:=h
 have hl:=line63
 have hs:sizeLine=16777216:=sizeLine_eq
 cases x with
 |non =>
  cases rx
  have e':k=false:=e
  subst e'
  exact truthy_none ⟨H,I,q⟩
 |bl b =>
  cases rx
  have e':k=b:=e
  subst e'
  exact wpAny_truthy_bool ⟨H,I,q⟩
 |int i =>
  obtain⟨t,rfl⟩:=rx
  have e':k=(i != 0):=e
  subst e'
  exact PySem.P.truthy_int ⟨H,I,q⟩
 |str y =>
  obtain⟨t,rfl⟩:=rx
  obtain⟨hy,e'⟩:y.length<=sizeLine/\k=((y.length:Int) != 0):=e
  subst e'
  exact PySem.P.truthy_str (by lia) ⟨H,I.tok _,q⟩
 |byt y =>
  obtain⟨t,rfl⟩:=rx
  obtain⟨hy,e'⟩:y.size<=sizeLine/\k=((y.size:Int) != 0):=e
  subst e'
  exact PySem.W.truthy_bytes (by lia) ⟨H,I.tok _,q⟩
 |ref p =>
  cases rx
  have e':(∃ xs,SqL X.K H p xs/\k = !xs.isEmpty)\/(∃ xs,SqT X.K H p xs/\k = !xs.isEmpty)\/∃ kvs,H p=some (.dK kvs)/\k = !kvs.isEmpty:=e
  rcases e' with⟨xs,hx,e'⟩ |⟨xs,hx,e'⟩ |⟨kvs,hx,e'⟩
  ·subst e'
   obtain⟨its,r,pl,hz⟩:=I.list hx
   have hlen:=r.length
   exact wpAny_truthy_list pl.isList (by simp only[zG];lia) ⟨H,I.tok _,by rw[isEmpty_of r];exact q⟩
  ·subst e'
   obtain⟨its,r,pl,hz⟩:=I.tuple hx
   have hlen:=r.length
   exact truthy_tuple pl (by simp only[zG];lia) ⟨H,I.tok _,by rw[isEmpty_of r];exact q⟩
  ·subst e'
   obtain⟨hz,hS,vs,r,m⟩:kvs.length<=sizeLine/\(p == sysModules)=false/\∃ vs,KV kvs vs/\s.heap.DictOf (mixKind X.prog X.w) p vs:=I.hok p _ hx
   have hlen:kvs.length=vs.length:=Paired.length r
   exact wpAny_truthy_dict hS m (by lia) ⟨H,I.tok _,by rw[isEmpty_kv r];exact q⟩
 | _=>exact(show False from e).elim
theorem pt_truth(ha:PE X a ta)(he:∀ whole,isTrue a X.env whole=(do let v <- whole;standAt a.pos;holding [v] (truthy v))) :
  PT X a (fun σ H Q=>ta σ H fun x H'=>∃ k,TruV X.K x H' k/\Q k H'):=by
 intro pins s σ H Q I h
 exact isTrue_plain (thn (ha pins s σ H _ I h) fun v s1 ⟨x,H1,I1,r1,q1⟩=>tru_ok pins s1 σ H1 x v Q I1 r1 q1) (he _)
theorem vals1{x:V}{us:List Value}(r:Vals [x] us):∃ u,us=[u]/\RelV x u:=by
 cases r with
 |cons r1 r2=>cases r2;exact⟨_,rfl,r1⟩
theorem vals2{x y:V}{us:List Value}(r:Vals [x,y] us):∃ u w',us=[u,w']/\RelV x u/\RelV y w':=by
 cases r with
 |cons r1 r2 =>
  cases r2 with
  |cons r3 r4=>cases r4;exact⟨_,_,rfl,r1,r3⟩
theorem call_abs:CallR X (.builtin "abs") (fun xs H Q=>∃ i,xs=[.int i]/\Q (.int (if i<0 then -i else i)) H):=by
 intro pins s σ H xs us Q I r h
 obtain⟨i,rfl,q⟩:=h
 obtain⟨u,rfl,t,rfl⟩:=vals1 r
 exact call_abs_int fun u tk=>⟨.int (if i<0 then -i else i),H,I.tok _,⟨_,rfl⟩,q⟩
theorem call_max2(hc:X.calm=true):CallR X (.builtin "max") (fun xs H Q=>∃ i j,xs=[.int i,.int j]/\Q (.int (if j > i then j else i)) H):=by
 intro pins s σ H xs us Q I r h
 obtain⟨i,j,rfl,q⟩:=h
 obtain⟨u,w',rfl,⟨t,rfl⟩,⟨t',rfl⟩⟩:=vals2 r
 refine max_two_ints (I.ok.hd hc) fun h' tk k=>⟨_,H,I.kept k,?_,q⟩
 by_cases hj:j > i
 ·rw[if_pos hj,if_pos hj];exact⟨_,rfl⟩
 ·rw[if_neg hj,if_neg hj];exact⟨_,rfl⟩
theorem call_min2(hc:X.calm=true):CallR X (.builtin "min") (fun xs H Q=>∃ i j,xs=[.int i,.int j]/\Q (.int (if j<i then j else i)) H):=by
 intro pins s σ H xs us Q I r h
 obtain⟨i,j,rfl,q⟩:=h
 obtain⟨u,w',rfl,⟨t,rfl⟩,⟨t',rfl⟩⟩:=vals2 r
 refine min_two_ints (I.ok.hd hc) fun h' tk k=>⟨_,H,I.kept k,?_,q⟩
 by_cases hj:j<i
 ·rw[if_pos hj,if_pos hj];exact⟨_,rfl⟩
 ·rw[if_neg hj,if_neg hj];exact⟨_,rfl⟩
theorem call_int1:CallR X (.type "int") (fun xs H Q=>(∃ i,xs=[.int i]/\Q (.int i) H)\/∃ k,xs=[.bl k]/\Q (.int (if k then 1 else 0)) H):=by
 intro pins s σ H xs us Q I r h
 rcases h with⟨i,rfl,q⟩ |⟨k,rfl,q⟩
 ·obtain⟨u,rfl,t,rfl⟩:=vals1 r
  exact call_int_int ⟨.int i,H,I,⟨_,rfl⟩,q⟩
 ·obtain⟨u,rfl,r1⟩:=vals1 r
  cases r1
  exact call_int_bool ⟨.int (if k then 1 else 0),H,I.tok _,⟨_,rfl⟩,q⟩
end
open PySem PySem.Spec PyProof.Rows
structure ObjM(h:Heap)(x dx C:Addr)(mA:Str->Option Value):Prop where
 obj:h.get? x=some (PySem.W.instObj C dx)
 ns:h.Ns1 dx mA
 ne:dx≠x
theorem lookIn_ns{h:Heap}{dx:Addr}{mA:Str->Option Value}(n:h.Ns1 dx mA):∃ od,h.get? dx=some od/\∀ name,PySem.W.lookIn name od=some (mA name):=by
 obtain⟨o,es,ep,ho,hd,hk,_,hm⟩:=n
 refine⟨o,ho,fun name=>?_⟩
 have e:=hm name
 unfold nsFind findBy at e
 rw[<- Array.find?_toList]at e
 unfold PySem.W.lookIn
 rw[hd]
 dsimp only
 split
 ·rename_i y q
  rw[q]at e
  exact congrArg some e
 ·rename_i q
  rw[q]at e
  have a:es.toList.any (·.refKey)=false:=by
   rw[List.any_eq_false]
   intro y hy
   obtain⟨z,t,hkey⟩:=hk y (Array.mem_toList_iff.mp hy)
   simp[DictEntry.refKey,hkey]
  have a':¬ es.toList.any (·.refKey)=true:=by rw[a];exact zN
  rw[if_neg a']
  exact congrArg some e
theorem ObjM.look{h:Heap}{x dx C:Addr}{mA:Str->Option Value}(I:ObjM h x dx C mA):∃ od,PySem.W.InstAt h x (PySem.W.instObj C dx) C (some od)/\∀ name,PySem.W.lookIn name od=some (mA name) :=
 let ⟨od,ho,hl⟩:=lookIn_ns I.ns
 ⟨od,⟨I.obj,rfl,rfl,ho⟩,hl⟩
theorem RelO.some_of{v:V}{o:Option Value}(r:RelO (some v) o):∃ u,o=some u/\RelV v u:=by
 cases o with
 |none=>exact(show False from r).elim
 |some u=>exact⟨u,rfl,r⟩
section
variable{P:Program}{w:World}{H H':Hp}{h h':Heap}{a C dx:Addr}{fs fs':List (Str×V)}
theorem ins_get(hok:HOk P w H h)(e:H a=some (.ins C dx fs)):∃ mA,ObjM h a dx C mA/\(∀ f,RelO (fs.lookup f) (mA f))/\PySem.Within mA (fs.map (·.1))/\fs.length<=1000/\H dx=some (.own a):=by
 obtain⟨d,z,ne,ob,mA,n,r,q⟩:=(show ObjOk P w H h a (.ins C dx fs)from hok a _ e)
 exact⟨mA,⟨ob,n,ne⟩,r,q,z,d⟩
end
structure Cls(K:PySem.W.Frag)(C:Addr):Prop where
 pg:PySem.W.plainGet K C Str.empty=true
 hd:PySem.W.hasDictIn K C=true
 po:PySem.W.plainOver K C=true
 sa:PySem.W.findIn K (.ref C) "__setattr__" = some (some (.builtin "object.__setattr__"))
theorem Cls.get{K:PySem.W.Frag}{C:Addr}(c:Cls K C)(f:Str):PySem.W.plainGet K C f=true:=c.pg
section
variable{X:Cx}{pins:List (Addr×Obj)}{σ:St}{H:Hp}{s:Shared}{A:Around}{E:Value->Shared->Prop}{Q:Value->Shared->Prop}{c:Value}{b:Bool}
inductive TyOf(K:PySem.W.Frag)(H:Hp):V->Value->Prop where
 |non:TyOf K H .non (.type "NoneType")
 |bl (x:Bool):TyOf K H (.bl x) (.type "bool")
 |int (i:Int):TyOf K H (.int i) (.type "int")
 |str (x:Str):TyOf K H (.str x) (.type "str")
 |flt (x:UInt64):TyOf K H (.flt x) (.type "float")
 |lst {a:Addr}{xs:List V} (e:H a=some (.lst xs)):TyOf K H (.ref a) (.type "list")
 |frz {a:Addr}{o:Obj}{xs:List V} (e:H a=some (.frz o (.lst xs))):TyOf K H (.ref a) (.type "list")
 |tup {a:Addr}{xs:List V} (e:H a=some (.tup xs)):TyOf K H (.ref a) (.type "tuple")
 |dK {a:Addr}{kvs:List (Key×V)} (e:H a=some (.dK kvs)):TyOf K H (.ref a) (.type "dict")
 |dT {a:Addr}{kvs:List (List Key×V)} (e:H a=some (.dT kvs)):TyOf K H (.ref a) (.type "dict")
 |ins {a C dx:Addr}{fs:List (Str×V)} (e:H a=some (.ins C dx fs)) (cl:Cls K C) (ha:PySem.W.findIn K (.ref C) "__class__" = some (some (.builtin "object.__class__")))
   (hn:PySem.W.specialIn K (.builtin "object.__class__") "__get__" = some (some (.builtin "getset_descriptor.__get__"))) (htk:PySem.W.takesIn K (.builtin "object.__class__")=some true)
   (hm:PySem.W.mroIn K C (.type "object")=some true):TyOf K H (.ref a) (.ref C)
theorem isinst_ok{x:V}{u t:Value}(I:Inv X pins σ H s)(rx:RelV x u)(ty:TyOf X.K H x t)(e:PySem.W.kitOne X.K t c=some b)(h:∀ tk,Q (.bool b) { s with toks:=tk }) :
  wpAny (model X.prog X.w) A (call (.builtin "isinstance") [u,c]) Q E s:=by
 cases ty with
 |non=>cases(show u=Value.none from rx);exact PySem.W.kia_one PySem.W.kitx_none I.kIn True.intro e (fun z=>nomatch z) h
 |bl y=>cases(show u=Value.bool y from rx);exact PySem.W.kia_one PySem.W.kitx_bool I.kIn True.intro e (fun z=>nomatch z) h
 |int i=>obtain⟨t,q⟩:=(show ∃ t,u=Value.int i t from rx);cases q;exact PySem.W.kia_one PySem.W.kitx_int I.kIn True.intro e (fun z=>nomatch z) h
 |str y=>obtain⟨t,q⟩:=(show ∃ t,u=Value.str y t from rx);cases q;exact PySem.W.kia_one PySem.W.kitx_str I.kIn True.intro e (fun z=>nomatch z) h
 |flt y=>obtain⟨t,q⟩:=(show ∃ t,u=Value.float y t from rx);cases q;exact PySem.W.kia_one PySem.W.kitx_float I.kIn True.intro e (fun z=>nomatch z) h
 | @lst a xs ea =>
  cases(show u=Value.ref a from rx)
  obtain⟨_,_,n,_,h1⟩:=(show ObjOk X.prog X.w H s.heap a (.lst xs)from I.hok a _ ea)
  exact PySem.W.kia_one PySem.W.kitx_list I.kIn ⟨_,h1,rfl⟩ e (fun z=>nomatch z) h
 | @frz a ob xs ea =>
  cases(show u=Value.ref a from rx)
  obtain⟨_,_,_,n,_,h1⟩:=(show ObjOk X.prog X.w H s.heap a (.frz ob (.lst xs))from I.hok a _ ea)
  exact PySem.W.kia_one PySem.W.kitx_list I.kIn ⟨_,h1,rfl⟩ e (fun z=>nomatch z) h
 | @tup a xs ea =>
  cases(show u=Value.ref a from rx)
  obtain⟨_,_,_,p⟩:=(show ObjOk X.prog X.w H s.heap a (.tup xs)from I.hok a _ ea)
  obtain⟨o,h1,h2,_⟩:=p
  exact PySem.W.kia_one PySem.W.kitx_tuple I.kIn ⟨o,h1,h2⟩ e (fun z=>nomatch z) h
 | @dK a kvs ea =>
  cases(show u=Value.ref a from rx)
  obtain⟨_,_,vs,_,p⟩:=(show ObjOk X.prog X.w H s.heap a (.dK kvs)from I.hok a _ ea)
  obtain⟨o,es,ep,h1,h2,_⟩:=p
  exact PySem.W.kia_one PySem.W.kitx_dict I.kIn ⟨o,h1,h2.1⟩ e (fun z=>nomatch z) h
 | @dT a kvs ea =>
  cases(show u=Value.ref a from rx)
  obtain⟨_,_,xs,_,o,es,ep,h1,h2,_⟩:=(show ObjOk X.prog X.w H s.heap a (.dT kvs)from I.hok a _ ea)
  exact PySem.W.kia_one PySem.W.kitx_dict I.kIn ⟨o,h1,h2.1⟩ e (fun z=>nomatch z) h
 | @ins a C dx fs ea cl ha hn htk hm =>
  cases(show u=Value.ref a from rx)
  obtain⟨mA,O,_⟩:=ins_get I.hok ea
  obtain⟨od,J,_⟩:=O.look
  exact PySem.W.kia_one (PySem.W.kitx_own (cl.get _) cl.hd ha hn htk hm) I.kIn J e (fun z=>nomatch z) h
end
open PySem PySem.Spec PyProof.Rows
theorem deep_gd{A:Around}{env:Env}(h:A.guards=some []):(A.deeper env).guards=some []:=by
 first | exact h | simp[Around.deeper,h]
structure Room(k:Nat)(A:Around):Prop where
 hd:A.handled=none
 dp:A.depth+3 * k+5<recursionLimit
 un:A.units+16 * k+200<cLine
 gd:A.guards=some []
theorem Room.mono{j k:Nat}{A:Around}(r:Room k A)(h:j<=k):Room j A:=⟨r.hd,by have:=r.dp;lia,by have:=r.un;lia,r.gd⟩
theorem Room.deeper{k:Nat}{A:Around}(r:Room (k+1) A)(env:Env):Room k (A.deeper env) :=
 ⟨r.hd,by have:=r.dp;show A.depth+1+3 * k+5<_;lia,by have:=r.un;show A.units+3+16 * k+200<_;lia,deep_gd r.gd⟩
theorem Room.depth{k:Nat}{A:Around}(r:Room k A):A.depth<recursionLimit:=by have:=r.dp;lia
theorem Room.units{k:Nat}{A:Around}(r:Room k A):A.units+64<cLine:=by have:=r.un;lia
theorem Room.units0{k:Nat}{A:Around}(r:Room k A):A.units<cLine:=by have:=r.un;lia
noncomputable def tNil:TA:=fun _ H Q=>Q [] H
noncomputable def tCons(ta:TE)(tr:TA):TA:=fun σ H Q=>ta σ H fun x H1=>tr σ H1 fun xs H2=>Q (x :: xs) H2
section
variable{X:Cx}{e:Expr}{es:List Expr}{te:TE}{t:TA}{pos:Pos}
theorem pa_nil:PA X [] tNil:=fun _ _ _ _ H Q I h=>Calls.spliced_nil ⟨[],H,I,.nil,h⟩
theorem pa_cons(ha:PE X e te)(hr:PA X es t)(hs:starEach (e :: es) X.env=(false,eval e X.env) :: starEach es X.env:=by rfl):PA X (e :: es) (tCons te t):=by
 intro pos pins s σ H Q I h
 rw[hs]
 show wpAny _ _ (spliced ((false,eval e X.env) :: backTo pos (starEach es X.env))) _ _ s
 refine Calls.spliced_cons (thn (ha pins s σ H _ I h) fun u s1 ⟨x,H1,I1,r1,q1⟩=>?_)
 exact thn (hr pos pins s1 σ H1 _ I1 q1) fun us s2 ⟨xs,H2,I2,r2,q2⟩=>⟨x :: xs,H2,I2,.cons r1 r2,q2⟩
noncomputable def tTup(t:TA):TE:=fun σ H Q=>t σ H fun xs H1=>xs.length<=sizeLine/\∀ p,H1 p=none->Q (.ref p) (upd H1 p (.tup xs))
noncomputable def tLst(t:TA):TE:=fun σ H Q=>t σ H fun xs H1=>xs.length<=sizeLine/\∀ p,H1 p=none->Q (.ref p) (upd H1 p (.lst xs))
theorem pe_tup{x1}(h:PA X es t):PE X (.Tuple es x1 pos) (tTup t):=by
 intro pins s σ H Q I hq
 refine wpAny_Tuple_spliced (thn (h pos pins s σ H _ I hq) fun us s1 ⟨xs,H1,I1,r,z,q⟩=>⟨by rw[<- r.length];exact z,?_⟩)
 have hf:H1 s1.heap.objs.size=none:=I1.hok.fresh (zI _)
 refine⟨.ref s1.heap.objs.size,upd H1 s1.heap.objs.size (.tup xs),I1.laid (t':=s1.toks) (fun b u e=>zC _ e) (zI _) ?_,rfl,q _ hf⟩
 exact⟨z,us,r,⟨_,zW _ rfl,rfl,_,rfl⟩⟩
theorem pe_lst(h:PA X es t):PE X (.List es pos) (tLst t):=by
 intro pins s σ H Q I hq
 refine wpAny_List_spliced (thn (h pos pins s σ H _ I hq) fun us s1 ⟨xs,H1,I1,r,z,q⟩=>⟨by rw[<- r.length];exact z,?_⟩)
 have hf:H1 s1.heap.objs.size=none:=I1.hok.fresh (zI _)
 refine⟨.ref s1.heap.objs.size,upd H1 s1.heap.objs.size (.lst xs),I1.laid (t':=s1.toks) (fun b u e=>zC _ e) (zI _) ?_,rfl,q _ hf⟩
 exact⟨z,us,0,r,zW _ rfl⟩
end
noncomputable abbrev Sp:=List V->Hp->VK->XK->Prop
noncomputable abbrev CXT:=List Env->Hp->Shared->XK->Value->Shared->Prop
structure Env0(P:Program)(w:World)(K:PySem.W.Frag)(mg:Str->Option Value)(base:Heap)(A:Around)(outer:List Env)(s:Shared)(H:Hp):Prop where
 frames:A.frames=some outer
 mod:Mod K mg base
 bs:∀ b o,base.get? b=some o->s.heap.get? b=some o/\H b=none
 bsz:base.objs.size<=s.heap.objs.size
 funs:s.heap.FunFrames base outer
 frf:∀ b∈frs outer,H b=none
 hok:HOk P w H s.heap
 bare:AllBare s.gens
noncomputable def CE(outer:List Env)(P:Program)(w:World)(H:Hp)(s:Shared)(Q:VK)(u:Value)(s':Shared):Prop :=
 ∃ v H',s'.os=s.os/\AllBare s'.gens/\Un (frs outer) [] H H' s.heap s'.heap/\HOk P w H' s'.heap/\RelV v u/\Q v H'
noncomputable def CR(CX:CXT)(outer:List Env)(P:Program)(w:World)(H:Hp)(s:Shared)(Q:VK)(E:XK)(r:Result)(s':Shared):Prop :=
 match r with
 | .ok (.ret u)=>CE outer P w H s Q u s'
 | .ok _=>False
 | .error e=>CX outer H s E e s'
structure FnOk(P:Program)(w:World)(K:PySem.W.Frag)(mg:Str->Option Value)(base:Heap)(CX:CXT)(k:Nat)(f:Addr)(fd:FuncData)(ps:List Str)(sp:Sp):Prop where
 len:∀ vs H Q E,sp vs H Q E->vs.length=ps.length
 run:∀ (A:Around) (outer:List Env) (s:Shared) (H:Hp) (args:Args) (us:List Value) (vs:List V) (Q:VK) (E:XK),Room k A->Env0 P w K mg base A outer s H->BindsTo s fd args (ps.zip us)->Vals vs us->sp vs H Q E ->
  codeAny (model P w) A (.call (.ref f) args) (CR CX outer P w H s Q E) s
section
variable{X:Cx}{pins:List (Addr×Obj)}{σ:St}{H:Hp}{s s':Shared}
theorem Inv.env0(I:Inv X pins σ H s):Env0 X.prog X.w X.K X.mg X.base X.A X.stack s H :=
 ⟨I.ok.frames,I.ok.mod,I.bs,zAC I.ok.bsz I.sz,I.stack,I.stkFree,I.hok,I.bare⟩
theorem Inv.after{Q:VK}{u:Value}(I:Inv X pins σ H s)(h:CE X.stack X.prog X.w H s Q u s'):EP X pins σ Q u s':=by
 obtain⟨v,H',os,bare,un,hok,r,q⟩:=h
 obtain⟨hh,g,d,t,os'⟩:=s'
 obtain rfl:os'=s.os:=os
 exact⟨v,H',I.call (h':=hh) (g':=g) (d':=d) (t':=t) (ch:=[]) un hok bare (fun b z=>absurd z (by simp)),r,q⟩
end
noncomputable def tCall(sp:Sp)(dvs:List V)(E:XK)(t:TA):TE:=fun σ H Q=>t σ H fun vs H1=>sp (vs++dvs) H1 Q E
noncomputable def Binds(K:PySem.W.Frag)(fd:FuncData)(ps:List Str)(ds:List Value):Prop :=
 ∀ (s:Shared) (us:List Value),K.In s.heap->(us++ds).length=ps.length->BindsTo s fd ⟨us,[]⟩ (ps.zip (us++ds))
theorem Binds.all{K:PySem.W.Frag}{fd:FuncData}{ps:List Str}(h:∀ us:List Value,us.length=ps.length->bindArgs fd ⟨us,[]⟩=pure (ps.zip us)):Binds K fd ps []:=fun s us _ hl=>by
 rw[zAU]at hl ⊢
 exact .of_eq (h us hl)
noncomputable def Passes(CX:CXT)(X:Cx)(E:XK):Prop:=∀ (pins:List (Addr×Obj)) (σ:St) (H:Hp) (s:Shared) (e:Value) (s':Shared),Inv X pins σ H s->CX X.stack H s E e s'->X.xe e s'
section
variable{X:Cx}{CX:CXT}{k:Nat}{f C:Addr}{fd:FuncData}{ps:List Str}{sp:Sp}{dvs:List V}{ds:List Value}{E:XK}{x m:Str}{p pos apos:Pos}{e o:Expr}{es:List Expr}{ta:TE}{t:TA}
theorem run_fn{pins:List (Addr×Obj)}{σ:St}{H:Hp}{s:Shared}{Q:VK}{us:List Value}{vs:List V}(F:FnOk X.prog X.w X.K X.mg X.base CX k f fd ps sp)(hr:Room k X.A)(hb:Binds X.K fd ps ds)(hd:Vals dvs ds)(hx:Passes CX X E)
  (I:Inv X pins σ H s) (r:Vals vs us) (h:sp (vs++dvs) H Q E):wpAny (model X.prog X.w) X.A (call (.ref f) us) (EP X pins σ Q) X.xe s:=by
 have r2:Vals (vs++dvs) (us++ds):=r.append hd
 have hl:(us++ds).length=ps.length:=by rw[<- r2.length];exact F.len _ _ _ _ h
 refine wpAny_call (codeAny_mono (F.run X.A X.stack s H ⟨us,[]⟩ (us++ds) (vs++dvs) Q E hr I.env0 (hb s us I.kIn hl) r2 h) fun r s' hq=>?_)
 cases r with
 |error e=>exact hx pins σ H s e s' I hq
 |ok fl =>
  cases fl with
  |ret u=>exact I.after hq
  |next=>exact False.elim hq
  |brk=>exact False.elim hq
  |cont=>exact False.elim hq
theorem pe_call(F:FnOk X.prog X.w X.K X.mg X.base CX k f fd ps sp)(hr:Room k X.A)(hg:Gl X x)(hm:X.mg x=some (.ref f))(hk:PySem.W.keepIn X.K (.ref f)=true)(hb:Binds X.K fd ps ds)(hd:Vals dvs ds)(hx:Passes CX X E)
  (ha:PA X (e :: es) t) (hdb:(x ==("__debug__":Str))=false:=by decide) (he:starEach (e :: es) X.env=(false,eval e X.env) :: starEach es X.env:=by rfl) (hpl:(backTo pos (starEach es X.env)).any (·.1)=false:=by rfl) :
  PE X (.Call (.Name x p) (e :: es) [] pos) (tCall sp dvs E t):=by
 intro pins s σ H Q I h
 refine wpAny_Call_Name_kw (ld_glob I hg hm ?_ hdb)
 refine PySem.W.callWith_K (h₀:=X.base) I.ok.mod.kin hk (thn (ha pos pins s σ H _ I h) fun us s1 ⟨vs,H1,I1,r,q⟩=>⟨I1.kIn,?_⟩) he hpl
 exact run_fn F hr hb hd hx I1 r q
end
structure FnScope(N P:List Str)(sc:Scope):Prop where
 kind:sc.kind = .function
 co:sc.isCoroutine=false
 gen:sc.isGenerator=false
 nd:N.Nodup
 pre:N.take P.length=P
 par:∀ x∈P,sc.names.lookup x=some .local\/sc.names.lookup x=some .cell
 nofree:∀ y∈sc.names,y.2≠.free
theorem bindL_out{kindOf:Str->Option NameKind}{x:Str}:∀ {binds:List (Str×Value)}{m:Str->Option Value},(∀ v,(x,v)∉binds)->bindL kindOf binds m x=m x
 |[],_,_=>rfl
 |(n,v) :: r,m,h=>by
  unfold bindL
  rw[bindL_out fun w hw=>h w (zQ _ hw)]
  split
  ·have:x≠n:=by rintro rfl;exact h v zS
   simp[this]
  ·rfl
theorem bindC_out{kindOf:Str->Option NameKind}{x:Str}:∀ {binds:List (Str×Value)}{m:Str->Option Value},(∀ v,(x,v)∉binds)->bindC kindOf binds m x=m x
 |[],_,_=>rfl
 |(n,v) :: r,m,h=>by
  unfold bindC
  rw[bindC_out fun w hw=>h w (zQ _ hw)]
  split
  ·rfl
  ·have:x≠n:=by rintro rfl;exact h v zS
   simp[this]
theorem bindL_get{kindOf:Str->Option NameKind}{x:Str}{v:Value}:∀ {P:List Str}{vs:List Value}{i:Nat}{m:Str->Option Value},P.Nodup->P[i]?=some x->vs[i]?=some v->kindOf x=some .local ->
  bindL kindOf (P.zip vs) m x=some v
 |[],_,_,_,_,h,_,_=>by simp at h
 | _ :: _,[],_,_,_,_,h,_=>by simp at h
 |p :: P,w :: vs,0,m,nd,h1,h2,hk=>by
  simp at h1 h2;subst h1;subst h2
  show bindL kindOf ((p,w) :: P.zip vs) m p=_
  unfold bindL
  rw[bindL_out fun v hv=>(zBN.mp nd).1 (List.of_mem_zip hv).1,if_pos hk]
  simp
 |p :: P,w :: vs,i+1,m,nd,h1,h2,hk=>by
  show bindL kindOf ((p,w) :: P.zip vs) m x=_
  unfold bindL
  exact bindL_get (i:=i) (zBN.mp nd).2 (by simpa using h1) (by simpa using h2) hk
theorem bindC_get{kindOf:Str->Option NameKind}{x:Str}{v:Value}:∀ {P:List Str}{vs:List Value}{i:Nat}{m:Str->Option Value},P.Nodup->P[i]?=some x->vs[i]?=some v->kindOf x≠some .local ->
  bindC kindOf (P.zip vs) m x=some v
 |[],_,_,_,_,h,_,_=>by simp at h
 | _ :: _,[],_,_,_,_,h,_=>by simp at h
 |p :: P,w :: vs,0,m,nd,h1,h2,hk=>by
  simp at h1 h2;subst h1;subst h2
  show bindC kindOf ((p,w) :: P.zip vs) m p=_
  unfold bindC
  rw[bindC_out fun v hv=>(zBN.mp nd).1 (List.of_mem_zip hv).1,if_neg hk]
  simp
 |p :: P,w :: vs,i+1,m,nd,h1,h2,hk=>by
  show bindC kindOf ((p,w) :: P.zip vs) m x=_
  unfold bindC
  exact bindC_get (i:=i) (zBN.mp nd).2 (by simpa using h1) (by simpa using h2) hk
noncomputable def start(N:List Str)(vs:List V):St:=vs.map some++List.replicate (N.length-vs.length) none
noncomputable def cxOf(CX:CXT)(P:Program)(w:World)(K:PySem.W.Frag)(mg:Str->Option Value)(base:Heap)(N:List Str)(qual:Str)(scope:Scope)(f:Addr)(cd:Value)(A:Around)(outer:List Env)(s:Shared)(H:Hp)(E:XK):Cx where
 prog:=P
 w:=w
 K:=K
 mg:=mg
 base:=base
 A:=A.deeper (envOfC qual scope s.heap.objs.size f cd)
 N:=N
 s₀:=s
 H₀:=H
 env:=envOfC qual scope s.heap.objs.size f cd
 outer:=outer
 stack:=envOfC qual scope s.heap.objs.size f cd :: outer
 ex:=[]
 calm:=true
 fn:=fun _=>true
 pn:=[]
 xe:=fun e s'=>wpAny (model P w) (A.deeper (envOfC qual scope s.heap.objs.size f cd)) (leaving (envOfC qual scope s.heap.objs.size f cd) e) (fun _ s''=>CX outer H s E e s'') (fun e' s''=>CX outer H s E e' s'') s'
theorem cell_has{sc:Scope}{n:Nat}{x:Str}(h:sc.names.lookup x=some .cell):∃ c,(cellsFrom n sc.names []).lookup x=some c:=by
 have q:=PySem.W.cellsFrom_some sc.names n [] (.inl h)
 exact Option.isSome_iff_exists.mp q
theorem inv_start{CX:CXT}{P:Program}{w:World}{K:PySem.W.Frag}{mg:Str->Option Value}{base:Heap}{N ps:List Str}{qual:Str}{scope:Scope}{f:Addr}{cd:Value}{A:Around}{outer:List Env}{s s1:Shared}{H:Hp}{E:XK}{us:List Value}{vs:List V}
  (S:FnScope N ps scope) (hd:A.handled=none) (e0:Env0 P w K mg base A outer s H) (hl:vs.length=ps.length) (r:Vals vs us)
  (x:InCallC s s.heap.objs.size (bindL (envOfC qual scope s.heap.objs.size f cd).kindOf (ps.zip us) fun _=>none) (cellsFrom (s.heap.objs.size+1) scope.names []) (bindC (envOfC qual scope s.heap.objs.size f cd).kindOf (ps.zip us) fun _=>none) s1) :
  Inv (cxOf CX P w K mg base N qual scope f cd A outer s H E) [] (start N vs) H s1:=by
 have hpl:ps.length<=N.length:=by have:=congrArg List.length S.pre;rw[zAH]at this;lia
 obtain⟨h1,tk,rfl,hk⟩:=x.done
 have noA:∀ b:Addr,b∉(cxOf CX P w K mg base N qual scope f cd A outer s H E).ex:=fun b z=>absurd (show b∈([]:List Addr)from z) (by simp)
 refine⟨⟨e0.mod,S.kind,rfl,rfl,zI _,fun y z c h1 h2=>?_,fun y hy=>?_,fun y c _ h=>?_,fun _=>hd,Around.frames_deeper e0.frames,.inr ⟨rfl,rfl⟩,fun b z=>absurd z (noA b),e0.bs,e0.bsz,fun b _ _=>noA b,fun b z=>absurd z (noA b),e0.funs,e0.frf⟩,
  rfl,e0.bare,Un.kept hk,⟨_,x.toInCall.ns,fun i y v h1 h2 h3=>?_⟩,fun y c h=>⟨_,x.cell y c h⟩,e0.hok.fresh (zI _),fun y c h=>?_,fun p hp=>absurd (show p∈([]:List (Addr×Obj))from hp) (by simp),e0.hok.kept hk,?_⟩
 ·exact name_of_addr x.apart (PySem.mem_of_lookup h1) (PySem.mem_of_lookup h2)
 ·have hy:scope.names.lookup y=some .cell\/scope.names.lookup y=some .free:=hy
  rcases hy with hy | hy
  ·exact cell_has hy
  ·exact absurd rfl (S.nofree _ (PySem.mem_of_lookup hy))
 ·exact Nat.le_of_lt (x.above y c (PySem.mem_of_lookup h))
 ·have hi:i<vs.length:=by
   unfold start at h2
   by_cases hi:i<vs.length
   ·exact hi
   ·rw[zAX (by simpa using hi)]at h2
    rw[List.getElem?_replicate]at h2
    split at h2 <;> cases h2
  have ha:vs[i]?=some v:=by
   unfold start at h2
   rw[zBF (by simpa using hi),zAD]at h2
   cases e:vs[i]? with
   |none=>rw[e]at h2;cases h2
   |some a=>rw[e]at h2;cases h2;rfl
  obtain⟨u,hu,rv⟩:=r.get ha
  have hp:ps[i]?=some y:=by
   rw[<- S.pre,List.getElem?_take_of_lt (by lia)];exact h1
  have ndP:ps.Nodup:=by rw[<- S.pre];exact S.nd.sublist (List.take_sublist _ _)
  refine⟨u,rv,?_⟩
  rcases S.par y (List.mem_of_getElem? hp)with k | k
  ·exact .inl ⟨k,bindL_get ndP hp hu k⟩
  ·obtain⟨c,e⟩:=cell_has (n:=s.heap.objs.size+1) k
   refine .inr ⟨.inl k,c,e,?_⟩
   have q:=x.cell y c e
   rw[bindC_get ndP hp hu (by show scope.names.lookup y≠_;rw[k];decide)]at q
   exact q
 ·exact e0.hok.fresh (Nat.le_of_lt (x.above y c (PySem.mem_of_lookup h)))
 ·unfold start
  show _=N.length
  rw[zK,zA,List.length_replicate]
  lia
theorem fn_of{CX:CXT}{P:Program}{w:World}{K:PySem.W.Frag}{mg:Str->Option Value}{base:Heap}{k:Nat}{f:Addr}{name qual:Str}{params:Arguments}{body:List Stmt}{scope:Scope}{dV kV doc pm cdv ct oc:Value}{an od:Option Addr}
  {osl:Array (Option Value)}{N ps:List Str}{sp:Sp} (lk:K.lookup f=some ⟨oc,od,.func (PySem.W.fnOf name qual params body scope dV kV doc pm an cdv ct),osl⟩) (hcd:PySem.W.codeIn K cdv qual=true) (S:FnScope N ps scope)
  (len:∀ vs H Q E,sp vs H Q E->vs.length=ps.length)
  (hbody:∀ (A:Around) (outer:List Env) (s:Shared) (H:Hp) (vs:List V) (Q:VK) (E:XK),Room k (A.deeper (envOfC qual scope s.heap.objs.size f cdv))->sp vs H Q E ->
   ∃ t,PSs (cxOf CX P w K mg base N qual scope f cdv A outer s H E) body t/\t { nx:=fun _ H'=>Q .non H',rt:=Q } (start N vs) H) :
  FnOk P w K mg base CX (k+1) f (PySem.W.fnOf name qual params body scope dV kV doc pm an cdv ct) ps sp:=by
 refine⟨len,fun A outer s H args us vs Q E hr e0 hb r hsp=>?_⟩
 have hl:=len _ _ _ _ hsp
 have KX:K.In s.heap:=e0.mod.kin.keeps fun b o e=>(e0.bs b o e).1
 have lim:s.heap.NoLimit:=e0.mod.nolimit.keeps fun b o e=>(e0.bs b o e).1
 have hkind:∀ y∈ps.zip us,scope.names.lookup y.1=some .local\/(scope.names.lookup y.1=some .cell/\((cellsFrom (s.heap.objs.size+1) scope.names []).lookup y.1).isSome=true):=fun⟨n,v⟩ hy=>by
  rcases S.par n (List.of_mem_zip hy).1 with q | q
  ·exact .inl q
  ·exact .inr ⟨q,PySem.W.cellsFrom_some _ _ _ (.inl q)⟩
 refine codeAny_call_function hr.depth (KX _ _ lk) rfl S.co S.gen rfl (PySem.W.codeRec_of KX hcd) (hb _ _ _ _ ?_)
 refine wpAny_newFunctionEnv_cells S.kind hkind fun env he s1 x=>?_
 subst he
 refine⟨lim.keeps x.toInCall.keep,codeAny_func ?_⟩
 obtain⟨t,ht,hq⟩:=hbody A outer s H vs Q E (hr.deeper _) hsp
 have I:Inv (cxOf CX P w K mg base N qual scope f cdv A outer s H E) [] (start N vs) H s1:=inv_start S hr.hd e0 hl r x
 refine wpAny_mono (ht [] s1 (start N vs) H _ I hq) (fun fl s' hs=>?_) fun e s' hs=>hs
 have fin:∀ {σ':St}{H':Hp}{v:V}{u:Value},Inv (cxOf CX P w K mg base N qual scope f cdv A outer s H E) [] σ' H' s'->RelV v u->Q v H'->CE outer P w H s Q u s' :=
  fun {σ' H' v u} J rv q=>⟨v,H',J.os,J.bare,J.base,J.hok,rv,q⟩
 cases fl with
 |ret u =>
  obtain⟨v,σ',H',J,rv,q⟩:=hs
  exact fin J rv q
 |next =>
  obtain⟨σ',H',J,q⟩:=hs
  exact fin (v:=V.non) (u:=Value.none) J rfl q
 |brk =>
  obtain⟨_,_,_,q⟩:=hs
  exact False.elim q
 |cont =>
  obtain⟨_,_,_,q⟩:=hs
  exact False.elim q
open PySem PySem.Spec PyProof.Rows
section
variable{X:Cx}{x:Str}{p pos:Pos}{e:Expr}{es:List Expr}{t:TA}{id T:String}{r:List V->Hp->VK->Prop}
noncomputable def tCB(r:List V->Hp->VK->Prop)(t:TA):TE:=fun σ H Q=>t σ H fun vs H1=>r vs H1 Q
theorem pe_callB(hc:CallR X (.builtin id) r)(hg:Gl X x)(hm:X.mg x=none)(hv:bootBuiltins x=some (.builtin id))(ha:PA X (e :: es) t)(hn:x≠"__name__":=by decide)(hdb:(x ==("__debug__":Str))=false:=by decide)
  (he:starEach (e :: es) X.env=(false,eval e X.env) :: starEach es X.env:=by rfl) (hpl:(backTo pos (starEach es X.env)).any (·.1)=false:=by rfl):PE X (.Call (.Name x p) (e :: es) [] pos) (tCB r t):=by
 intro pins s σ H Q I h
 refine wpAny_Call_Name_kw (ld_blt I hg hm hv ?_ hn hdb)
 exact PyProof.Rows.callWith_builtin1 (thn (ha pos pins s σ H _ I h) fun us s1 ⟨vs,H1,I1,r1,q1⟩=>hc pins s1 σ H1 vs us Q I1 r1 q1) he hpl
theorem pe_callTy(hc:CallR X (.type T) r)(hg:Gl X x)(hm:X.mg x=none)(hv:bootBuiltins x=some (.type T))(ha:PA X (e :: es) t)(hn:x≠"__name__":=by decide)(hdb:(x ==("__debug__":Str))=false:=by decide)
  (he:starEach (e :: es) X.env=(false,eval e X.env) :: starEach es X.env:=by rfl) (hpl:(backTo pos (starEach es X.env)).any (·.1)=false:=by rfl):PE X (.Call (.Name x p) (e :: es) [] pos) (tCB r t):=by
 intro pins s σ H Q I h
 refine wpAny_Call_Name_kw (ld_blt I hg hm hv ?_ hn hdb)
 exact PyProof.Rows.callWith_type1 (thn (ha pos pins s σ H _ I h) fun us s1 ⟨vs,H1,I1,r1,q1⟩=>hc pins s1 σ H1 vs us Q I1 r1 q1) he hpl
end
open PySem PySem.Spec PyProof.Rows
section
variable{κ:Type}[DecidableEq κ]
noncomputable def valV(kvs:List (κ×V))(k:κ):Option V:=(kvs.find? fun kv=>decide (kv.1=k)).map (·.2)
noncomputable def putK(kvs:List (κ×V))(k:κ)(v:V):List (κ×V) :=
 if(kvs.any fun kv=>decide (kv.1=k))=true then kvs.map (fun kv=>if kv.1=k then(kv.1,v)else kv)else kvs++[(k,v)]
theorem valV_nil{k:κ}:valV ([]:List (κ×V)) k=none:=rfl
theorem valV_pos{p:κ×V}{r:List (κ×V)}{k:κ}(e:p.1=k):valV (p :: r) k=some p.2:=by simp[valV,zBO,e]
theorem valV_neg{p:κ×V}{r:List (κ×V)}{k:κ}(e:¬ p.1=k):valV (p :: r) k=valV r k:=by simp[valV,zBO,e]
theorem valV_any(k:κ):∀ kvs:List (κ×V),(kvs.any fun kv=>decide (kv.1=k))=(valV kvs k).isSome
 |[]=>rfl
 |p :: r=>by
  rw[List.any_cons]
  by_cases e:p.1=k
  ·simp only[valV_pos e,decide_eq_true e,Bool.true_or,Option.isSome_some]
  ·rw[valV_neg e,decide_eq_false e,Bool.false_or];exact valV_any k r
theorem valV_map(k j:κ)(y:V):∀ kvs:List (κ×V),valV (kvs.map fun kv=>if kv.1=k then(kv.1,y)else kv) j=(valV kvs j).map fun x=>if j=k then y else x
 |[]=>rfl
 |p :: r=>by
  have ih:=valV_map k j y r
  rw[zAB]
  by_cases h:p.1=k
  ·rw[if_pos h]
   by_cases e:p.1=j
   ·rw[valV_pos (p:=(p.1,y)) e,valV_pos e,Option.map_some,if_pos (e.symm.trans h)]
   ·rw[valV_neg (p:=(p.1,y)) e,valV_neg e,ih]
  ·rw[if_neg h]
   by_cases e:p.1=j
   ·rw[valV_pos (p:=p) e,valV_pos e,Option.map_some,if_neg (fun z=>h (e.trans z))]
   ·rw[valV_neg (p:=p) e,valV_neg e,ih]
theorem valV_snoc(k j:κ)(y:V):∀ kvs:List (κ×V),valV kvs k=none->valV (kvs++[(k,y)]) j=if j=k then some y else valV kvs j
 |[],_=>by
  by_cases e:k=j
  ·rw[if_pos e.symm];exact valV_pos (p:=(k,y)) e
  ·rw[if_neg (fun z=>e z.symm)];exact valV_neg (p:=(k,y)) e
 |p :: r,hn=>by
  rw[List.cons_append]
  have hk:¬ p.1=k:=fun z=>by rw[valV_pos z]at hn;cases hn
  rw[valV_neg hk]at hn
  have ih:=valV_snoc k j y r hn
  by_cases e:p.1=j
  ·rw[valV_pos e,valV_pos e,if_neg (fun z=>hk (e.trans z))]
  ·rw[valV_neg e,valV_neg e,ih]
theorem valV_put(kvs:List (κ×V))(k j:κ)(y:V):valV (putK kvs k y) j=if j=k then some y else valV kvs j:=by
 unfold putK
 by_cases a:(kvs.any fun kv=>decide (kv.1=k))=true
 ·rw[if_pos a,valV_map]
  rw[valV_any]at a
  by_cases e:j=k
  ·obtain⟨x,hx⟩:=Option.isSome_iff_exists.mp a
   rw[if_pos e,e,hx,Option.map_some,if_pos rfl]
  ·rw[if_neg e]
   cases valV kvs j with
   |none=>rfl
   |some x=>rw[Option.map_some,if_neg e]
 ·rw[if_neg a]
  refine valV_snoc k j y kvs ?_
  rw[valV_any]at a
  cases q:valV kvs k with
  |none=>rfl
  |some x=>rw[q]at a;exact(a rfl).elim
theorem length_putK(kvs:List (κ×V))(k:κ)(v:V):(putK kvs k v).length<=kvs.length+1:=by
 unfold putK
 split
 ·rw[zA];lia
 ·rw[zK,zAN,zBP];lia
theorem RelO.isSome_eq{o:Option V}{u:Option Value}(r:RelO o u):o.isSome=u.isSome:=by
 cases o with
 |none=>cases u with
  |none=>rfl
  |some _=>exact(show False from r).elim
 |some _=>cases u with
  |none=>exact(show False from r).elim
  |some _=>rfl
theorem KV.val{kvs:List (κ×V)}{vs:List (κ×Value)}(r:KV kvs vs)(k:κ):RelO (valV kvs k) (valueAt vs k):=by
 unfold KV at r
 induction r with
 |nil=>exact True.intro
 | @cons p q ps qs h t ih =>
  obtain⟨h1,h2⟩:=h
  by_cases e:p.1=k
  ·have e':q.1=k:=h1.symm.trans e
   have b:valueAt (q :: qs) k=some q.2:=by simp[valueAt,zBO,e']
   rw[valV_pos e,b];exact h2
  ·have e':¬ q.1=k:=fun z=>e (h1.trans z)
   have b:valueAt (q :: qs) k=valueAt qs k:=by simp[valueAt,zBO,e']
   rw[valV_neg e,b];exact ih
theorem KV.any{kvs:List (κ×V)}{vs:List (κ×Value)}(r:KV kvs vs)(k:κ):(kvs.any fun kv=>decide (kv.1=k))=vs.any fun kv=>decide (kv.1=k):=by
 unfold KV at r
 induction r with
 |nil=>rfl
 |cons h t ih=>rw[List.any_cons,List.any_cons,ih,h.1]
theorem KV.repl{kvs:List (κ×V)}{vs:List (κ×Value)}(r:KV kvs vs)(k:κ){y:V}{u:Value}(ry:RelV y u) :
  KV (kvs.map fun kv=>if kv.1=k then(kv.1,y)else kv) (vs.map fun kv=>if kv.1=k then(kv.1,u)else kv):=by
 unfold KV at r ⊢
 induction r with
 |nil=>exact .nil
 | @cons p q ps qs h t ih =>
  rw[zAB,zAB]
  refine .cons ?_ ih
  obtain⟨h1,h2⟩:=h
  by_cases e:p.1=k
  ·rw[if_pos e,if_pos (h1.symm.trans e)];exact⟨h1,ry⟩
  ·rw[if_neg e,if_neg (fun z=>e (h1.trans z))];exact⟨h1,h2⟩
theorem KV.put{kvs:List (κ×V)}{vs:List (κ×Value)}(r:KV kvs vs)(k:κ){y:V}{u:Value}(ry:RelV y u):KV (putK kvs k y) (stored vs k u):=by
 unfold putK stored
 rw[r.any k]
 by_cases e:(vs.any fun kv=>decide (kv.1=k))=true
 ·rw[if_pos e,if_pos e];exact r.repl k ry
 ·rw[if_neg e,if_neg e];exact Paired.snoc r ⟨rfl,ry⟩
theorem KV.length{kvs:List (κ×V)}{vs:List (κ×Value)}(r:KV kvs vs):kvs.length=vs.length:=Paired.length r
end
theorem kV_is{P:Program}{w:World}{k:Key}{u:Value}(r:RelV (kV k) u):(mixKind P w).is k u=true:=by
 cases k with
 |inl i=>obtain⟨t,e⟩:=(show ∃ t,u=Value.int i t from r);subst e;exact mixKind_int P w i t
 |inr x=>obtain⟨t,e⟩:=(show ∃ t,u=Value.str x t from r);subst e;exact mixKind_str P w x t
theorem items_are{P:Program}{w:World}:∀ {ks:List Key}{us:List Value},Vals (ks.map kV) us->ItemsAre (mixKind P w) ks us
 |[],_,r=>by rw[List.map_nil]at r;cases r;exact .nil
 |k :: ks,_,r=>by
  rw[zAB]at r
  cases r with
  |cons h t=>exact .cons (kV_is h) (items_are t)
noncomputable abbrev KT(H:Hp):List (List Key×V)->List (List Key×Addr×Value)->Prop:=Paired fun p q=>p.1=q.1/\H q.2.1=some (.tup (p.1.map kV))/\RelV p.2 q.2.2
theorem KT.val{H:Hp}{kvs:List (List Key×V)}{xs:List (List Key×Addr×Value)}(r:KT H kvs xs)(k:List Key):RelO (valV kvs k) ((atKey xs k).map (·.2)):=by
 induction r with
 |nil=>exact True.intro
 | @cons p q ps qs h t ih =>
  obtain⟨h1,_,h2⟩:=h
  by_cases e:p.1=k
  ·have e':q.1=k:=h1.symm.trans e
   have b:atKey (q :: qs) k=some q.2:=by simp[atKey,zBO,e']
   rw[valV_pos e,b];exact h2
  ·have e':¬ q.1=k:=fun z=>e (h1.trans z)
   have b:atKey (q :: qs) k=atKey qs k:=by simp[atKey,zBO,e']
   rw[valV_neg e,b];exact ih
theorem KT.repl{H:Hp}{kvs:List (List Key×V)}{xs:List (List Key×Addr×Value)}(r:KT H kvs xs)(k:List Key){y:V}{u:Value}(ry:RelV y u) :
  KT H (kvs.map fun kv=>if kv.1=k then(kv.1,y)else kv) (xs.map (putAt k u)):=by
 induction r with
 |nil=>exact .nil
 | @cons p q ps qs h t ih =>
  rw[zAB,zAB]
  refine .cons ?_ ih
  obtain⟨h1,h2,h3⟩:=h
  unfold putAt
  by_cases e:p.1=k
  ·rw[if_pos e,if_pos (h1.symm.trans e)];exact⟨h1,h2,ry⟩
  ·rw[if_neg e,if_neg (fun z=>e (h1.trans z))];exact⟨h1,h2,h3⟩
theorem KT.put{H:Hp}{kvs:List (List Key×V)}{xs:List (List Key×Addr×Value)}(r:KT H kvs xs)(k:List Key){b:Addr}{y:V}{u:Value}(hb:H b=some (.tup (k.map kV)))(ry:RelV y u) :
  KT H (putK kvs k y) (storedH xs k b u):=by
 have e:(kvs.any fun kv=>decide (kv.1=k))=(atKey xs k).isSome:=by
  rw[valV_any,(r.val k).isSome_eq,Option.isSome_map]
 unfold putK storedH
 rw[e]
 by_cases q:(atKey xs k).isSome=true
 ·rw[if_pos q,if_pos q];exact r.repl k ry
 ·rw[if_neg q,if_neg q];exact Paired.snoc r ⟨rfl,hb,ry⟩
theorem KT.keeps{H H':Hp}{kvs:List (List Key×V)}{xs:List (List Key×Addr×Value)}(r:KT H kvs xs)(ht:∀ b ys,H b=some (.tup ys)->H' b=some (.tup ys)):KT H' kvs xs :=
 Paired.mapP r fun _ _ z=>⟨z.1,ht _ _ z.2.1,z.2.2⟩
section
variable{P:Program}{w:World}{H:Hp}{h:Heap}{a:Addr}
theorem rd_of{u:HO}(ok:HOk P w H h)(e:Rd H a u):ObjOk P w H h a u:=e.ok ok
theorem dk_rd{kvs:List (Key×V)}(ok:HOk P w H h)(e:Rd H a (.dK kvs)):kvs.length<=sizeLine/\(a == sysModules)=false/\∃ vs,KV kvs vs/\h.DictOf (mixKind P w) a vs :=
 show ObjOk P w H h a (.dK kvs)from rd_of ok e
theorem dk_of{kvs:List (Key×V)}(ok:HOk P w H h)(e:H a=some (.dK kvs)):kvs.length<=sizeLine/\(a == sysModules)=false/\∃ vs,KV kvs vs/\h.DictOf (mixKind P w) a vs:=dk_rd ok (.inl e)
theorem key_of{ks:List Key}(ok:HOk P w H h)(e:H a=some (.tup (ks.map kV))):(tupleKind (mixKind P w)).is h ks a:=by
 obtain⟨_,its,r,o,h1,h2,n,h3⟩:=(show ObjOk P w H h a (.tup (ks.map kV))from ok a _ e)
 exact⟨o,its.toArray,n,h1,h2,h3,by simpa using items_are r⟩
theorem dt_rd{kvs:List (List Key×V)}(ok:HOk P w H h)(e:Rd H a (.dT kvs)):kvs.length<=sizeLine/\(a == sysModules)=false /\
  ∃ xs,KT H kvs xs/\h.DictOfH (tupleKind (mixKind P w)) a xs:=by
 obtain⟨z,y,xs,r,o,es,ep,h1,h2,h3,h4,h5⟩:=(show ObjOk P w H h a (.dT kvs)from rd_of ok e)
 refine⟨z,y,xs,r,o,es,ep,h1,h2,h3,h4,fun x hx=>?_,h5⟩
 have all:∀ {l:List (List Key×V)}{m:List (List Key×Addr×Value)},KT H l m->∀ x∈m,(tupleKind (mixKind P w)).is h x.1 x.2.1:=by
  intro l m q
  induction q with
  |nil=>intro x hx;exact nomatch hx
  | @cons p q ps qs hq t ih =>
   intro x hx
   rcases zT.mp hx with e | hx
   ·subst e
    exact key_of ok (by rw[<- hq.1];exact hq.2.1)
   ·exact ih x hx
 exact all r x hx
theorem dt_of{kvs:List (List Key×V)}(ok:HOk P w H h)(e:H a=some (.dT kvs)):kvs.length<=sizeLine/\(a == sysModules)=false /\
  ∃ xs,KT H kvs xs/\h.DictOfH (tupleKind (mixKind P w)) a xs:=dt_rd ok (.inl e)
end
noncomputable def DGet(H:Hp)(a:Addr)(y:V)(r:Option V):Prop :=
 (∃ kvs k,Rd H a (.dK kvs)/\y=kV k/\r=valV kvs k)\/∃ kvs k b,Rd H a (.dT kvs)/\y = .ref b/\H b=some (.tup (k.map kV))/\r=valV kvs k
noncomputable def DPut(H:Hp)(a:Addr)(y v:V)(H':Hp):Prop :=
 (∃ kvs k,H a=some (.dK kvs)/\y=kV k/\kvs.length<sizeLine/\H'=upd H a (.dK (putK kvs k v))) \/
 ∃ kvs k b,H a=some (.dT kvs)/\y = .ref b/\H b=some (.tup (k.map kV))/\kvs.length<sizeLine/\H'=upd H a (.dT (putK kvs k v))
theorem DGet.k{H:Hp}{a:Addr}{kvs:List (Key×V)}{k:Key}(e:H a=some (.dK kvs)):DGet H a (kV k) (valV kvs k):=.inl ⟨kvs,k,.inl e,rfl,rfl⟩
theorem DGet.t{H:Hp}{a b:Addr}{kvs:List (List Key×V)}{k:List Key}(e:H a=some (.dT kvs))(eb:H b=some (.tup (k.map kV))):DGet H a (.ref b) (valV kvs k):=.inr ⟨kvs,k,b,.inl e,rfl,eb,rfl⟩
theorem DPut.k{H:Hp}{a:Addr}{kvs:List (Key×V)}{k:Key}{v:V}(e:H a=some (.dK kvs))(hl:kvs.length<sizeLine):DPut H a (kV k) v (upd H a (.dK (putK kvs k v))):=.inl ⟨kvs,k,e,rfl,hl,rfl⟩
theorem DPut.t{H:Hp}{a b:Addr}{kvs:List (List Key×V)}{k:List Key}{v:V}(e:H a=some (.dT kvs))(eb:H b=some (.tup (k.map kV)))(hl:kvs.length<sizeLine) :
  DPut H a (.ref b) v (upd H a (.dT (putK kvs k v))):=.inr ⟨kvs,k,b,e,rfl,eb,hl,rfl⟩
section
variable{X:Cx}{pins:List (Addr×Obj)}{σ:St}{H:Hp}{s:Shared}{a:Addr}{y v:V}{u r:Value}{o:Option V}{A:Around}{E:Value->Shared->Prop}
theorem Inv.big(I:Inv X pins σ H s):sysModules<s.heap.objs.size:=by
 have h:mainGlobals<s.heap.objs.size:=(I.mod.glob.keeps I.bk).lt
 exact Nat.lt_trans (by decide) h
theorem d_getItem{Q:Value->Shared->Prop}(hu:A.units+1<cLine)(I:Inv X pins σ H s)(g:DGet H a y (some v))(ry:RelV y u)(h:∀ w' s',Inv X pins σ H s'->RelV v w'->Q w' s') :
  wpAny (model X.prog X.w) A (getItem (.ref a) u) Q E s:=by
 rcases g with⟨kvs,k,e,ey,l⟩ |⟨kvs,k,b,e,ey,eb,l⟩
 ·subst ey
  obtain⟨z,hd,vs,rel,dd⟩:=dk_rd I.hok e
  obtain⟨w',hw,rw'⟩:=RelO.some_of (v:=v) (o:=valueAt vs k) (by rw[l];exact rel.val k)
  exact wpAny_getItem_of (kV_is ry) dd.mapOf hw (h w' _ (I.tok _) rw')
 ·subst ey
  cases(show u=Value.ref b from ry)
  obtain⟨z,hd,xs,rel,dd⟩:=dt_rd I.hok e
  obtain⟨w',hw,rw'⟩:=RelO.some_of (v:=v) (o:=(atKey xs k).map (·.2)) (by rw[l];exact rel.val k)
  obtain⟨p,hp,hp2⟩:=Option.map_eq_some_iff.mp hw
  refine wpAny_getItem_heap (tupleKind_room_in1 hu) (key_of I.hok eb) dd hp ?_
  rw[hp2]
  exact h w' _ (I.tok _) rw'
theorem d_in{Q:Value->Shared->Prop}(hu:A.units+1<cLine)(I:Inv X pins σ H s)(g:DGet H a y o)(ry:RelV y u)(h:∀ s',Inv X pins σ H s'->Q (.bool o.isSome) s') :
  wpAny (model X.prog X.w) A (compareOp .In u (.ref a)) Q E s:=by
 rcases g with⟨kvs,k,e,ey,l⟩ |⟨kvs,k,b,e,ey,eb,l⟩
 ·subst ey
  obtain⟨z,hd,vs,rel,dd⟩:=dk_rd I.hok e
  refine wpAny_in_of (kV_is ry) hd dd.mapOf ?_
  rw[<-(rel.val k).isSome_eq,<- l]
  exact h _ (I.tok _)
 ·subst ey
  cases(show u=Value.ref b from ry)
  obtain⟨z,hd,xs,rel,dd⟩:=dt_rd I.hok e
  refine wpAny_in_heap (tupleKind_room_in1 hu) (key_of I.hok eb) hd dd ?_
  have q:=(rel.val k).isSome_eq
  rw[Option.isSome_map]at q
  rw[<- q,<- l]
  exact h _ (I.tok _)
theorem d_notIn{Q:Value->Shared->Prop}(hu:A.units+1<cLine)(I:Inv X pins σ H s)(g:DGet H a y o)(ry:RelV y u)(h:∀ s',Inv X pins σ H s'->Q (.bool (!o.isSome)) s') :
  wpAny (model X.prog X.w) A (compareOp .NotIn u (.ref a)) Q E s:=by
 rcases g with⟨kvs,k,e,ey,l⟩ |⟨kvs,k,b,e,ey,eb,l⟩
 ·subst ey
  obtain⟨z,hd,vs,rel,dd⟩:=dk_rd I.hok e
  refine wpAny_notIn_of (kV_is ry) hd dd.mapOf ?_
  rw[<-(rel.val k).isSome_eq,<- l]
  exact h _ (I.tok _)
 ·subst ey
  cases(show u=Value.ref b from ry)
  obtain⟨z,hd,xs,rel,dd⟩:=dt_rd I.hok e
  refine wpAny_notIn_heap (tupleKind_room_in1 hu) (key_of I.hok eb) hd dd ?_
  have q:=(rel.val k).isSome_eq
  rw[Option.isSome_map]at q
  rw[<- q,<- l]
  exact h _ (I.tok _)
theorem d_write{h':Heap}{t':Nat}{ob:HO}(I:Inv X pins σ H s)(mu:Mut (H a))(hs:Heap.SameBut a s.heap h')(he:∃ q,h'.get? a=some q)(new:ObjOk X.prog X.w (upd H a ob) h' a ob) :
  Inv X pins σ (upd H a ob) { s with heap:=h',toks:=t' } :=
 I.write (x:=a) (e:=a) mu (.inl rfl) (fun b q hb z=>(hs.2 b hb).trans z) he new
theorem dk_new{P:Program}{w:World}{H':Hp}{h':Heap}{kvs:List (Key×V)}{vs:List (Key×Value)}(z:kvs.length<=sizeLine)(hd:(a == sysModules)=false)(rel:KV kvs vs)(dd:h'.DictOf (mixKind P w) a vs) :
  ObjOk P w H' h' a (.dK kvs):=⟨z,hd,vs,rel,dd⟩
theorem d_setItem{H':Hp}{Q:Unit->Shared->Prop}(hu:A.units+1<cLine)(I:Inv X pins σ H s)(g:DPut H a y v H')(ry:RelV y u)(rv:RelV v r)(h:∀ s',Inv X pins σ H' s'->Q () s') :
  wpAny (model X.prog X.w) A (setItem (.ref a) u r) Q E s:=by
 rcases g with⟨kvs,k,e,ey,l,eH⟩ |⟨kvs,k,b,e,ey,eb,l,eH⟩
 ·subst ey eH
  obtain⟨z,hd,vs,rel,dd⟩:=dk_of I.hok e
  have hz:vs.length<=sizeLine:=by rw[<- rel.length];exact z
  have hl:(putK kvs k v).length<=sizeLine:=by have:=length_putK kvs k v;lia
  refine wpAny_setItem_pairs (hsz:=hz) (kV_is ry) dd fun h' dd' hs=>h _ ?_
  have he:∃ q,h'.get? a=some q:=let ⟨q,_,_,hq,_⟩:=dd';⟨q,hq⟩
  exact d_write I (by rw[e];exact True.intro) hs he (dk_new hl hd (rel.put k rv) dd')
 ·subst ey eH
  cases(show u=Value.ref b from ry)
  obtain⟨z,hd,xs,rel,dd⟩:=dt_of I.hok e
  have hz:xs.length<=sizeLine:=by rw[<- Paired.length rel];exact z
  have hl:(putK kvs k v).length<=sizeLine:=by have:=length_putK kvs k v;lia
  refine wpAny_setItem_heap (hsz:=hz) (tupleKind_room_in1 hu) (key_of I.hok eb) dd fun h' dd' hs=>h _ ?_
  obtain⟨q,es,ep,hq,h2,h3,h4,_,h5⟩:=dd'
  refine d_write I (by rw[e];exact True.intro) hs ⟨q,hq⟩ ⟨hl,hd,_,(rel.put k eb rv).keeps fun c ys ec=>?_,q,es,ep,hq,h2,h3,h4,h5⟩
  rw[upd_ne (ne_of ec e (fun z=>nomatch z))]
  exact ec
end
noncomputable def NoSl(i:Expr):Prop:=∀ ov iv,subscripted i false ov iv=operate [ov,iv] (getItem ov iv)
theorem subD_of{prog:Program}{w:World}{A:Around}{E:Value->Shared->Prop}{s:Shared}{env:Env}{value slice:Expr}{pos:Pos}{T id:String}{Q:Value->Shared->Prop}
  (hl:typeLookup (.type T) "__getitem__" = pure (some (.builtin id))) (hs:NoSl slice)
  (h:wpAny (model prog w) A (eval value env) (fun o s₁=>wpAny (model prog w) A (eval slice env) (fun i s₂=>s₂.TypeIs o T/\wpAny (model prog w) A (getItem o i) Q E s₂) E s₁) E s) :
  wpAny (model prog w) A (eval (.Subscript value slice pos) env) Q E s:=by
 refine Subscript_ (wpAny_mono h (fun o s₁ h₁=>wpAny_mono h₁ (fun i s₂ h₂=>?_) fun _ _ x=>x) fun _ _ x=>x)
 obtain⟨hT,h₂⟩:=h₂
 unfold subscriptTail
 refine zB ?_
 rw[getitemInPython_of_ne hT.not_modules]
 refine zB (wpAny_specialOf hT hl ?_)
 have fin:wpAny (model prog w) A (subscripted slice false o i) (fun r s₃=>wpAny (model prog w) A (letTemporaryGo value o r >>= fun _=>pure r) Q E s₃) E s₂:=by
  rw[hs o i]
  exact wpAny_operating (wpAny_mono h₂ (fun r s₃ h₃=>zB (wpAny_letTemporaryGo (zH h₃))) fun _ _ x=>x)
 first
  |exact zH (zB fin)
  |exact zB (zH (zB fin))
  |exact zB fin
theorem dict_typeIs{X:Cx}{pins:List (Addr×Obj)}{σ:St}{H:Hp}{s:Shared}{a:Addr}{y:V}{o:Option V}(I:Inv X pins σ H s)(g:DGet H a y o):s.TypeIs (.ref a) "dict":=by
 rcases g with⟨kvs,k,e,_,_⟩ |⟨kvs,k,b,e,_,_,_⟩
 ·obtain⟨_,_,vs,_,dd⟩:=dk_rd I.hok e
  exact dd.typeIs
 ·obtain⟨_,_,xs,_,dd⟩:=dt_rd I.hok e
  exact dd.typeIs
noncomputable def tDGet(td ty:TE):TE:=fun σ H Q=>td σ H fun x H1=>ty σ H1 fun y H2=>∃ a v,x = .ref a/\DGet H2 a y (some v)/\Q v H2
noncomputable def tDIn(ty td:TE):TE:=fun σ H Q=>ty σ H fun y H1=>td σ H1 fun x H2=>∃ a o,x = .ref a/\DGet H2 a y o/\Q (.bl o.isSome) H2
noncomputable def tDNotIn(ty td:TE):TE:=fun σ H Q=>ty σ H fun y H1=>td σ H1 fun x H2=>∃ a o,x = .ref a/\DGet H2 a y o/\Q (.bl (!o.isSome)) H2
noncomputable def sDPut(td ty tv:TE):TS:=fun D σ H=>tv σ H fun v H1=>td σ H1 fun x H2=>ty σ H2 fun y H3=>∃ a H4,x = .ref a/\DPut H3 a y v H4/\D.nx σ H4
section
variable{X:Cx}{o i e value:Expr}{pos pos' tpos:Pos}{td ty tv:TE}
theorem pe_dget(hu:X.A.units+1<cLine)(ho:PE X o td)(hi:PE X i ty)(hs:NoSl i):PE X (.Subscript o i pos) (tDGet td ty):=by
 intro pins s σ H Q I h
 refine subD_of PySem.F.slot_dict_getitem.lookup hs (thn (ho pins s σ H _ I h) fun u s1 ⟨x,H1,I1,rx,q1⟩=>thn (hi pins s1 σ H1 _ I1 q1) fun iv s2 ⟨y,H2,I2,ry,a,v,ex,g,q2⟩=>?_)
 subst ex
 obtain rfl:u=Value.ref a:=rx
 exact⟨dict_typeIs I2 g,d_getItem hu I2 g ry fun w' s3 I3 rw'=>⟨v,H2,I3,rw',q2⟩⟩
theorem pc_din(hu:X.A.units+1<cLine)(hi:PE X i ty)(ho:PE X o td):PC X .In i o (tDIn ty td):=by
 intro pins s σ H Q I h
 refine thn (hi pins s σ H _ I h) fun iv s1 ⟨y,H1,I1,ry,q1⟩=>thn (ho pins s1 σ H1 _ I1 q1) fun u s2 ⟨x,H2,I2,rx,a,ov,ex,g,q2⟩=>?_
 subst ex
 obtain rfl:u=Value.ref a:=rx
 exact d_in hu I2 g ry fun s3 I3=>⟨.bl ov.isSome,H2,I3,rfl,q2⟩
theorem pc_dnotin(hu:X.A.units+1<cLine)(hi:PE X i ty)(ho:PE X o td):PC X .NotIn i o (tDNotIn ty td):=by
 intro pins s σ H Q I h
 refine thn (hi pins s σ H _ I h) fun iv s1 ⟨y,H1,I1,ry,q1⟩=>thn (ho pins s1 σ H1 _ I1 q1) fun u s2 ⟨x,H2,I2,rx,a,ov,ex,g,q2⟩=>?_
 subst ex
 obtain rfl:u=Value.ref a:=rx
 exact d_notIn hu I2 g ry fun s3 I3=>⟨.bl (!ov.isSome),H2,I3,rfl,q2⟩
theorem ps_dput(hu:X.A.units+1<cLine)(ho:PE X o td)(hi:PE X i ty)(hv:PE X value tv)(hs:swapsWith value (some (.Subscript o i pos')) pos.line X.env=pure false) :
  PS X (.Assign [.Subscript o i pos'] value pos) (sDPut td ty tv):=by
 intro pins s σ H D I h
 refine wpAny_Assign_Subscript (thn (hv pins s σ H _ I h) fun r s1 ⟨v,H1,I1,rv,q1⟩=>thn (ho pins s1 σ H1 _ I1 q1) fun u s2 ⟨x,H2,I2,rx,q2⟩=>thn (hi pins s2 σ H2 _ I2 q2) fun iv s3 ⟨y,H3,I3,ry,a,H4,ex,g,q3⟩=>?_) hs
 subst ex
 obtain rfl:u=Value.ref a:=rx
 exact d_setItem hu I3 g ry rv fun s4 I4=>⟨σ,H4,I4,q3⟩
end
theorem dk_empty{P:Program}{w:World}{H:Hp}(h:Heap)(hb:sysModules<h.objs.size):ObjOk P w H (h.push { cls:=.type "dict",data:=.dict #[] }) h.objs.size (.dK []) :=
 ⟨zAQ _,beq_eq_false_iff_ne.mpr (Ne.symm (zZ hb)),[],.nil,Heap.DictOf.new h⟩
theorem dt_empty{P:Program}{w:World}{H:Hp}(h:Heap)(hb:sysModules<h.objs.size):ObjOk P w H (h.push { cls:=.type "dict",data:=.dict #[] }) h.objs.size (.dT []) :=
 ⟨zAQ _,beq_eq_false_iff_ne.mpr (Ne.symm (zZ hb)),[],.nil,_,#[],0,zW _ rfl,⟨rfl,rfl,rfl⟩,rfl,rfl,zAS⟩
noncomputable def tDNewT:TE:=fun _ H Q=>∀ p,H p=none->Q (.ref p) (upd H p (.dT []))
section
variable{X:Cx}{pos:Pos}
theorem pe_dnewT:PE X (.Dict [] [] pos) tDNewT:=fun pins s σ H Q I h =>
 wpAny_Dict_empty ⟨.ref s.heap.objs.size,_,I.laid (a:=s.heap.objs.size) (o:=.dT []) (t':=s.toks) (fun _ _ q=>zC _ q) (zI _) (dt_empty s.heap I.big),rfl,h _ (I.hok.fresh (zI _))⟩
end
end L2
namespace HT
open PySem PyProof.Rows
noncomputable def lexLt:List Int->List Int->Bool
 |[],[]=>false
 |[],_ :: _=>true
 | _ :: _,[]=>false
 |x :: xs,y :: ys=>if x=y then lexLt xs ys else decide (x<y)
theorem lexLt_cons(x y:Int)(xs ys:List Int):lexLt (x :: xs) (y :: ys)=if x=y then lexLt xs ys else decide (x<y):=rfl
theorem lexLt_nil_nil:lexLt [] []=false:=rfl
theorem lexLt_nil_cons(y:Int)(ys:List Int):lexLt [] (y :: ys)=true:=rfl
theorem lexLt_cons_nil(x:Int)(xs:List Int):lexLt (x :: xs) []=false:=rfl
theorem eqAt_int(A:Around)(s:Shared)(a:Int)(t:Tok)(c:Int)(u:Tok):∃ e,SeqAt.EqAt A s (.int a t) (.int c u) e/\(e=true↔a=c) :=
 ⟨(a == c),SeqAt.EqAt.int_int a t c u,by simp⟩
theorem rcLt_int(A:Around)(s:Shared)(a:Int)(t:Tok)(c:Int)(u:Tok)(prog:Program)(w:World)(E:Value->Shared->Prop)(Q:Value->Shared->Prop)(h:Q (.bool (decide (a<c))) s) :
  wpAny (model prog w) A (richCompare .Lt (.int a t) (.int c u)) Q E s :=
 (PyProof.Rows.lt_int h:wpAny (model prog w) A (compareOp .Lt (.int a t) (.int c u)) Q E s)
section
open PySem.SeqAt
open PySem.AutoSeq1 (wpAny_loadPart')
open PySem.MeetsSeq PySem.MeetsSeq2 PySem.MeetsSeq3
theorem tuple_lt_ints(l b:Addr)(items items2:Array Value)(n n2:Nat)(dd dd2:Option Addr)(sl sl2:Array (Option Value))(ns ms:List Int)(hi:IntsAre items.toList ns)(hj:IntsAre items2.toList ms) :
  Meets (Builtin.«tuple.__lt__» ⟨[.ref l,.ref b],[]⟩)
   (fun _ R s=>s.heap.get? l=some { cls:=.type "tuple",dict:=dd,data:=.seq items n,slots:=sl }/\s.heap.get? b=some { cls:=.type "tuple",dict:=dd2,data:=.seq items2 n2,slots:=sl2 } /\
    R (.ok (.ret (.bool (lexLt ns ms)))) s) :=
 .of_wp fun prog w A R s h=>by
  obtain⟨hp,g,d,tk,os⟩:=s;obtain⟨hl,hb,h⟩:=h
  have f2:=AutoSeq1.sub_tuple_tuple
  have z1:items.size=ns.length:=by rw[<- hi.length];simp
  have z2:items2.size=ms.length:=by rw[<- hj.length];simp
  wp_walk using wpAny_loadPart' hl,wpAny_loadPart' hb,wpAny_forIn_list _ (fun rest b s'=>b.1=none/\s'=⟨hp,g,d,tk,os⟩/\∃ (vs ws:List Value) (ns' ms':List Int),rest=vs.zip ws /\
   IntsAre vs ns'/\IntsAre ws ms'/\ns'.length+items2.size=ms'.length+items.size/\R (.ok (.ret (.bool (lexLt ns' ms')))) ⟨hp,g,d,tk,os⟩) _
  case turn =>
   rintro⟨y,x⟩ rest b s' ⟨hb',rfl,vs,ws,ns',ms',hz,hvi,hwi,hlen,hR⟩
   cases hvi with
   |nil=>rw[List.zip_nil_left]at hz;cases hz
   |cons a t hvi' =>
    cases hwi with
    |nil=>rw[List.zip_nil_right]at hz;cases hz
    |cons c u hwi' =>
     rw[List.zip_cons_cons]at hz
     injection hz with hyx hrest
     injection hyx with hy hx
     subst hy hx
     rw[lexLt_cons]at hR
     simp only[zAN]at hlen
     obtain⟨e,he,hiff⟩:=eqAt_int A.in1 ⟨hp,g,d,tk,os⟩ a t c u
     refine zB (he prog w _ _ ?_)
     cases e with
     |true =>
      rw[if_pos (hiff.mp rfl)]at hR
      wp_walk
      exact⟨rfl,rfl,_,_,_,_,hrest,hvi',hwi',by lia,hR⟩
     |false =>
      rw[if_neg (fun q=>absurd (hiff.mpr q) zN)]at hR
      have hri:=rcLt_int A.in1 ⟨hp,g,d,tk,os⟩ a t c u prog w
      wp_walk using hri
      exact⟨_,rfl,by simpa using hR⟩
  case fin =>
   rintro⟨b1,b2⟩ s' ⟨hb',rfl,vs,ws,ns',ms',hz,hvi,hwi,hlen,hR⟩
   simp only at hb'
   subst hb'
   have hv:lexLt ns' ms'=decide (items.size<items2.size):=by
    cases hvi with
    |nil =>
     cases hwi with
     |nil =>
      simp only[zBP]at hlen
      rw[lexLt_nil_nil]
      exact(decide_eq_false (by lia)).symm
     |cons c u hw =>
      simp only[zBP,zAN]at hlen
      rw[lexLt_nil_cons]
      exact(decide_eq_true (by lia)).symm
    |cons a t hv =>
     cases hwi with
     |nil =>
      simp only[zBP,zAN]at hlen
      rw[lexLt_cons_nil]
      exact(decide_eq_false (by lia)).symm
     |cons c u hw =>
      rw[List.zip_cons_cons]at hz
      cases hz
   rw[hv]at hR
   wp_walk
   exact⟨_,rfl,by simpa[Builtin.Tuple.tupleCompareSizes]using hR⟩
  case h =>
   exact⟨rfl,rfl,items.toList,items2.toList,ns,ms,rfl,hi,hj,by lia,h⟩
end
section
variable{prog:Program}{w:World}{A:Around}{E:Value->Shared->Prop}{s:Shared}
theorem lt_tupInts{l b:Addr}{items items2:Array Value}{ns ms:List Int}{Q:Value->Shared->Prop}(hl:IsTup s.heap l items)(hb:IsTup s.heap b items2)(hi:IntsAre items.toList ns)(hj:IntsAre items2.toList ms)
  (hu:A.units<cLine) (h:Q (.bool (lexLt ns ms)) s):wpAny (model prog w) A (compareOp .Lt (.ref l) (.ref b)) Q E s:=by
 obtain⟨⟨cls,dd,data,sl⟩,ho,hc,n,hd⟩:=id hl
 obtain⟨⟨cls2,dd2,data2,sl2⟩,ho2,hc2,n2,hd2⟩:=id hb
 simp only at hc hd hc2 hd2
 subst hc hd hc2 hd2
 exact richCompare_meets_room (op:=.Lt) ⟨_,ho,rfl⟩ ⟨_,ho2,rfl⟩ PySem.F.slot_tuple_lt PySem.F.entry_tuple_lt (PySem.F.args_tuple_lt_2 _ _) (tuple_lt_ints l b items items2 n n2 dd dd2 sl sl2 ns ms hi hj)
  ⟨ho,ho2,show Value.bool (lexLt ns ms)≠Value.notImplemented/\Q (.bool (lexLt ns ms)) s from⟨(fun x=>nomatch x),h⟩⟩ hu
theorem cat_tup{t b:Addr}{vs ws:List Value}{Q:Value->Shared->Prop}(ht:IsTup s.heap t vs.toArray)(hb:IsTup s.heap b ws.toArray)(hv:vs≠[])
  (h1:ws=[]->Q (.ref t) s) (h2:ws≠[]->Q (.ref s.heap.objs.size) { s with heap:=s.heap.push { cls:=.type "tuple",data:=.seq (vs++ws).toArray } })
  (hsz:vs.length+ws.length<=sizeLine):wpAny (model prog w) A (binaryOp .Add (.ref t) (.ref b)) Q E s:=by
 obtain⟨⟨cls,dd,data,sl⟩,ho,hc,n,hd⟩:=id ht
 obtain⟨⟨cls2,dd2,data2,sl2⟩,ho2,hc2,n2,hd2⟩:=id hb
 simp only at hc hd hc2 hd2
 subst hc hd hc2 hd2
 have e:vs.toArray++ws.toArray=(vs++ws).toArray:=by simp
 by_cases hw:ws=[]
 ·exact concat_meets ⟨_,ho,rfl⟩ ⟨_,ho2,rfl⟩ noFill_tuple_add seq_tuple_add PySem.F.slot_tuple_add PySem.F.entry_tuple_add (PySem.F.args_tuple_add_2 _ _)
   (tuple_addW1 t b vs.toArray ws.toArray n n2 dd dd2 sl sl2 (by simpa using hv) (by simp[hw])) ⟨ho,ho2,h1 hw⟩
 ·refine concat_meets ⟨_,ho,rfl⟩ ⟨_,ho2,rfl⟩ noFill_tuple_add seq_tuple_add PySem.F.slot_tuple_add PySem.F.entry_tuple_add (PySem.F.args_tuple_add_2 _ _)
   (tuple_addW2 t b vs.toArray ws.toArray n n2 dd dd2 sl sl2 (by simpa using hv) (by simpa using hw) (by rw[zG,zG];exact hsz)) ⟨ho,ho2,?_⟩
  rw[e]
  exact h2 hw
noncomputable def sIx(n d:Nat):Option Int->Nat
 |none=>d
 |some v=>if v<0 then(v+(n:Int)).toNat else min v.toNat n
theorem sIx_none(n d:Nat):sIx n d none=d:=rfl
theorem sIx_nat(n d k:Nat):sIx n d (some (k:Int))=min k n:=by
 show(if(k:Int)<0 then((k:Int)+(n:Int)).toNat else min (k:Int).toNat n)=min k n
 rw[if_neg (by lia),zAO]
theorem sIx_le(n d:Nat)(hd:d<=n)(o:Option Int):sIx n d o<=n:=by
 cases o with
 |none=>exact hd
 |some v =>
  show(if v<0 then(v+(n:Int)).toNat else min v.toNat n)<=n
  by_cases hv:v<0
  ·rw[if_pos hv];lia
  ·rw[if_neg hv];exact Nat.min_le_right _ _
theorem clip_eq(v:Int)(n d:Nat):(if v<0 then max (v+(n:Int)) 0 else min v (n:Int))=((sIx n d (some v):Nat):Int):=by
 show(if v<0 then max (v+(n:Int)) 0 else min v (n:Int))=(((if v<0 then(v+(n:Int)).toNat else min v.toNat n):Nat):Int)
 by_cases hv:v<0
 ·simp only[if_pos hv];lia
 ·simp only[if_neg hv];lia
theorem adjust_gen(lo hi:Option Int)(n:Nat):Builtin.Slice.sliceAdjust lo hi 1 (n:Int)=(((sIx n 0 lo:Nat):Int),((sIx n n hi:Nat):Int)):=by
 have h1:¬((1:Int)<0):=by lia
 unfold Builtin.Slice.sliceAdjust
 simp only[h1,if_false]
 refine Prod.ext ?_ ?_
 ·cases lo with
  |none=>rfl
  |some v=>exact clip_eq v n 0
 ·cases hi with
  |none=>rfl
  |some v=>exact clip_eq v n n
theorem places_gen(i j:Nat):Builtin.Slice.slicePlaces (i:Int) (j:Int) 1=j-i:=by
 unfold Builtin.Slice.slicePlaces
 have h1:(1:Int) > 0:=by lia
 simp only[h1,if_true,Int.ediv_one]
 split <;> lia
theorem slicePart_{v:Value}{o:Option Int}{Q:Option Int->Shared->Prop}(p:IsPart v o)(h:Q o s):wpAny (model prog w) A (Builtin.Slice.slicePartIndex v) Q E s:=by
 cases p with
 |none=>exact slicePart_none h
 |int i t=>exact slicePart_int h
theorem sliceApplied_gen{sl:Addr}{vl vu:Value}{lo hi:Option Int}{n:Nat}{Q:Int×Int×Nat->Shared->Prop}(hs:s.heap.IsSliceOf sl vl vu .none)(pl:IsPart vl lo)(pu:IsPart vu hi)
  (h:Q (((sIx n 0 lo:Nat):Int),1,sIx n n hi-sIx n 0 lo) s):wpAny (model prog w) A (Builtin.Slice.sliceApplied (.ref sl) (pure (n:Int))) Q E s:=by
 obtain⟨os,hos,hcs,hds⟩:=id hs
 unfold Builtin.Slice.sliceApplied Builtin.Slice.sliceFields
 refine zB (zB (wpAny_field hos hds (x:=vl) rfl (zB (wpAny_field hos hds (x:=vu) rfl (zB (wpAny_field hos hds (x:=.none) rfl (zH ?_)))))))
 refine zB (slicePart_none ?_)
 show wpAny _ _ (if((1:Int) == 0)=true then _ else _) _ _ s
 rw[if_neg (by decide)]
 refine zB (slicePart_ pl (zB (slicePart_ pu (zB (zH ?_)))))
 show wpAny _ _ (match Builtin.Slice.sliceAdjust lo hi 1 (n:Int)with |(lo,hi)=>pure (lo,(1:Int),Builtin.Slice.slicePlaces lo hi 1)) _ _ s
 rw[adjust_gen lo hi n]
 show wpAny _ _ (pure (((sIx n 0 lo:Nat):Int),(1:Int),Builtin.Slice.slicePlaces ((sIx n 0 lo:Nat):Int) ((sIx n n hi:Nat):Int) 1)) _ _ s
 rw[places_gen]
 exact zH h
theorem pick_gen(xs:Array Value)(i k:Nat):((List.range k).filterMap fun(m:Nat)=>xs[((i:Int)+(m:Int) * 1).toNat]?).toArray=((xs.toList.drop i).take k).toArray:=by
 have e:(fun(m:Nat)=>xs[((i:Int)+(m:Int) * 1).toNat]?)=fun m=>xs[i+m]?:=by
  funext m
  have:((i:Int)+(m:Int) * 1).toNat=i+m:=by lia
  rw[this]
 rw[e]
 have:=pick_run xs i k
 rw[List.filterMap_map]at this
 have e2:((fun x=>xs[x]?) ∘ fun x=>i+x)=fun m=>xs[i+m]?:=rfl
 rw[e2]at this
 rw[this]
theorem getItem_tuple_cut{t sl:Addr}{items:Array Value}{vl vu:Value}{lo hi:Option Int}{Q:Value->Shared->Prop}(ht:IsTup s.heap t items)(hs:s.heap.IsSliceOf sl vl vu .none)(pl:IsPart vl lo)(pu:IsPart vu hi)
  (hw:¬(sIx items.size 0 lo=0/\sIx items.size items.size hi=items.size))
  (h:Q (.ref s.heap.objs.size) { s with heap:=s.heap.push { cls:=.type "tuple",data:=.seq ((items.toList.drop (sIx items.size 0 lo)).take (sIx items.size items.size hi-sIx items.size 0 lo)).toArray } })
  (hsz:items.size<=sizeLine):wpAny (model prog w) A (getItem (.ref t) (.ref sl)) Q E s:=by
 have htake:sizeOk (.seq ((items.toList.drop (sIx items.size 0 lo)).take (sIx items.size items.size hi-sIx items.size 0 lo)).toArray):=by
  show((items.toList.drop (sIx items.size 0 lo)).take (sIx items.size items.size hi-sIx items.size 0 lo)).toArray.size<=sizeLine
  rw[zG,zAH,List.length_drop,zBQ]
  omega
 have hj:sIx items.size items.size hi<=items.size:=sIx_le _ _ (zI _) hi
 obtain⟨os,hos,hcs,hds⟩:=id hs
 have hTs:s.TypeIs (.ref sl) "slice":=⟨os,hos,hcs⟩
 unfold getItem
 try with_reducible refine wpAny_holding ?_
 first | refine zB (zH ?_) | skip
 refine zB (wpAny_sequenceKey ht.typeIs (by decide) ?_)
 refine zB (wpAny_callSpecial?_slot (name:=Str.ofString "__getitem__") ht.typeIs PyProof.Rows.slot_tuple_getitem
  (wpAny_call_entry PyProof.Rows.slot_tuple_getitem ht.typeIs entry_tuple_getitem ?_ (args_tuple_getitem _ _)))
 show wpAny _ _ (Builtin.Tuple.tupleItemsOf (.ref t) >>= _) _ _ s
 refine zB (tupleItemsOf_ ht ?_)
 refine zB (wpAny_typeOf hTs ?_)
 rw[if_pos (by decide)]
 refine zB (sliceApplied_gen hs pl pu ?_)
 have hno:¬((((sIx items.size 0 lo:Nat):Int) == 0 && (1:Int) == 1 && (sIx items.size items.size hi-sIx items.size 0 lo) == items.size)=true):=by
  intro q
  rw[zBC,zBC]at q
  have q1:((sIx items.size 0 lo:Nat):Int)=0:=eq_of_beq q.1.1
  have q2:sIx items.size items.size hi-sIx items.size 0 lo=items.size:=eq_of_beq q.2
  exact hw ⟨by lia,by omega⟩
 show wpAny _ _ (if(((sIx items.size 0 lo:Nat):Int) == 0 && (1:Int) == 1 && (sIx items.size items.size hi-sIx items.size 0 lo) == items.size)=true then _ else _) _ _ s
 rw[if_neg hno,pick_gen]
 first
  |exact zB (m:=Builtin.Tuple.tupleExact _) (wpAny_newObj_type (zH ⟨_,rfl,zH h⟩) htake)
  |exact zB (m:=Builtin.Tuple.tupleExact _) (wpAny_newObj_type (zB (zH (zH ⟨_,rfl,zH h⟩))) htake)
  |exact zB (zB (m:=Builtin.Tuple.tupleExact _) (wpAny_newObj_type (zH (zH ⟨_,rfl,zH h⟩)) htake))
  |exact zB (zB (m:=Builtin.Tuple.tupleExact _) (wpAny_newObj_type (zH ⟨_,rfl,zH h⟩) htake))
end
end HT
namespace L2
open PySem PySem.Spec PyProof.Rows
noncomputable abbrev TO:=St->Hp->(Option Int->Hp->Prop)->Prop
noncomputable def PO(X:Cx)(e:Option Expr)(t:TO):Prop :=
 ∀ (pins:List (Addr×Obj)) (s:Shared) (σ:St) (H:Hp) (Q:Option Int->Hp->Prop),Inv X pins σ H s->t σ H Q ->
  wpAny (model X.prog X.w) X.A (evalPart e X.env) (fun u s'=>∃ o H',Inv X pins σ H' s'/\IsPart u o/\Q o H') X.xe s
noncomputable def tNoPart:TO:=fun _ H Q=>Q none H
noncomputable def tPart(t:TE):TO:=fun σ H Q=>t σ H fun x H1=>∃ i,x = .int i/\Q (some i) H1
theorem intsAre_of{ns:List Int}:∀ {us:List Value},Vals (ns.map V.int) us->IntsAre us ns:=by
 induction ns with
 |nil=>intro us r;rw[List.map_nil]at r;cases r;exact .nil
 |cons n ns ih =>
  intro us r
  rw[zAB]at r
  cases r with
  |cons r1 r2 =>
   obtain⟨t,e⟩:=r1
   subst e
   exact .cons n t (ih r2)
section
variable{X:Cx}{e:Expr}{te:TE}{lo hi:Option Expr}{tl th:TO}{pos p2:Pos}
theorem po_none:PO X none tNoPart:=by
 intro pins s σ H Q I h
 rw[evalPart_none]
 exact zH ⟨none,H,I,.none,h⟩
theorem po_some(h:PE X e te):PO X (some e) (tPart te):=by
 intro pins s σ H Q I hw
 rw[evalPart_some]
 refine thn (h pins s σ H _ I hw) fun u s1 ⟨x,H1,I1,r1,q1⟩=>?_
 obtain⟨i,rfl,q⟩:=q1
 obtain⟨t,rfl⟩:=r1
 exact⟨some i,H1,I1,.int i t,q⟩
noncomputable def SlR(X:Cx)(r:V->Option Int->Option Int->Hp->VK->Prop):Prop :=
 ∀ (pins:List (Addr×Obj)) (s:Shared) (σ:St) (H:Hp) (x:V) (v vl vu:Value) (lo hi:Option Int) (sl:Addr) (Q:VK),Inv X pins σ H s->RelV x v->s.heap.IsSliceOf sl vl vu .none->IsPart vl lo->IsPart vu hi->r x lo hi H Q ->
  ∃ T id,typeLookup (.type T) "__getitem__" = pure (some (.builtin id))/\s.TypeIs v T/\wpAny (model X.prog X.w) X.A (getItem v (.ref sl)) (EP X pins σ Q) X.xe s
noncomputable def tSl(r:V->Option Int->Option Int->Hp->VK->Prop)(te:TE)(tl th:TO):TE:=fun σ H Q=>te σ H fun x H1=>tl σ H1 fun l H2=>th σ H2 fun u H3=>r x l u H3 Q
theorem pe_slice{r:V->Option Int->Option Int->Hp->VK->Prop}(hr:SlR X r)(he:PE X e te)(hl:PO X lo tl)(hu:PO X hi th):PE X (.Subscript e (.Slice lo hi none p2) pos) (tSl r te tl th):=by
 intro pins s σ H Q I h
 refine Subscript_ (thn (he pins s σ H _ I h) fun v s1 ⟨x,H1,I1,r1,q1⟩=>?_)
 refine wpAny_Slice (thn (hl pins s1 σ H1 _ I1 q1) fun vl s2 ⟨l,H2,I2,pl,q2⟩=>thn (hu pins s2 σ H2 _ I2 q2) fun vu s3 ⟨u,H3,I3,pu,q3⟩=>?_)
 rw[evalPart_none]
 refine zH ?_
 have I4:Inv X pins σ H3 { s3 with heap:=s3.heap.push { cls:=.type "slice",data:=.fields #[vl,vu,.none] } }:=I3.kept (t':=s3.toks) fun b ob q=>zC _ q
 obtain⟨T,id,hT,ht,hg⟩:=hr pins { s3 with heap:=s3.heap.push { cls:=.type "slice",data:=.fields #[vl,vu,.none] } } σ H3 x v vl vu l u s3.heap.objs.size Q I4 r1 (Heap.IsSliceOf.new ..) pl pu q3
 show wpAny (model X.prog X.w) X.A (subscriptTail e (.Slice lo hi none p2) v (.ref s3.heap.objs.size)) (EP X pins σ Q) X.xe { s3 with heap:=s3.heap.push { cls:=.type "slice",data:=.fields #[vl,vu,.none] } }
 exact tail_any (ops:=[.ref s3.heap.objs.size,v]) ht hT hg (by with_unfolding_all rfl)
noncomputable def cutV(xs:List V)(lo hi:Option Int):List V:=(xs.drop (HT.sIx xs.length 0 lo)).take (HT.sIx xs.length xs.length hi-HT.sIx xs.length 0 lo)
theorem cutV_length(xs:List V)(lo hi:Option Int):(cutV xs lo hi).length<=xs.length:=by
 unfold cutV
 rw[zAH,List.length_drop]
 omega
inductive rSlTI(K:PySem.W.Frag)(x:V)(lo:Option Int)(hi:Option Int)(H:Hp)(Q:VK):Prop where
 |mk (a:_) (xs:_) (h1:x = .ref a) (h2:SqT K H a xs) (h3:¬(HT.sIx xs.length 0 lo=0/\HT.sIx xs.length xs.length hi=xs.length)) (h4:∀ p,H p=none->Q (.ref p) (upd H p (.tup (cutV xs lo hi))))
noncomputable def rSlT(K:PySem.W.Frag):V->Option Int->Option Int->Hp->VK->Prop:=fun x lo hi H Q=>rSlTI K x lo hi H Q
theorem sl_tup:SlR X (rSlT X.K):=by
 intro pins s σ H x v vl vu lo hi sl Q I rx hs pl pu h
 obtain⟨a,xs,rfl,hx,hw,q⟩:=h
 cases rx
 obtain⟨its,r,ht,hz⟩:=I.tuple hx
 have hlen:its.toArray.size=xs.length:=by rw[zG];exact r.length.symm
 refine⟨"tuple",_,PyProof.Rows.slot_tuple_getitem.lookup,ht.typeIs,?_⟩
 refine HT.getItem_tuple_cut ht hs pl pu (by rw[hlen];exact hw) ?_ (by rw[hlen];exact hz)
 rw[hlen]
 refine⟨.ref s.heap.objs.size,_,I.laid (t':=s.toks) (o:=.tup (cutV xs lo hi)) (fun b ob q=>zC _ q) (zI _) ?_,rfl,q _ (I.hok.fresh (zI _))⟩
 exact⟨zAC (cutV_length xs lo hi) hz,_,(r.drop (HT.sIx xs.length 0 lo)).take (HT.sIx xs.length xs.length hi-HT.sIx xs.length 0 lo),IsTup.new _ _⟩
inductive rLtTI(K:PySem.W.Frag)(x:V)(y:V)(H:Hp)(Q:VK):Prop where
 |mk (a:_) (b:_) (ns:_) (ms:_) (h1:x = .ref a) (h2:y = .ref b) (h3:SqT K H a (ns.map V.int)) (h4:SqT K H b (ms.map V.int)) (h5:Q (.bl (HT.lexLt ns ms)) H)
noncomputable def rLtT(K:PySem.W.Frag):R2:=fun x y H Q=>rLtTI K x y H Q
theorem op_ltT(hu:X.A.units<cLine):OpR X (compareOp .Lt) (rLtT X.K):=by
 intro pins s σ H x y v u Q I rx ry h
 obtain⟨a,b,ns,ms,rfl,rfl,ha,hb,q⟩:=h
 cases rx
 cases ry
 obtain⟨its,r1,p1,_⟩:=I.tuple ha
 obtain⟨its2,r2,p2,_⟩:=I.tuple hb
 have i1:IntsAre its.toArray.toList ns:=intsAre_of r1
 have i2:IntsAre its2.toArray.toList ms:=intsAre_of r2
 exact HT.lt_tupInts p1 p2 i1 i2 hu ⟨.bl (HT.lexLt ns ms),H,I,rfl,q⟩
noncomputable def rCatT(K:PySem.W.Frag):R2:=fun x y H Q=>∃ a b xs ys,x = .ref a/\y = .ref b/\SqT K H a xs/\SqT K H b ys/\xs≠[]/\xs.length+ys.length<=sizeLine /\
 (ys=[]->Q (.ref a) H)/\(ys≠[]->∀ p,H p=none->Q (.ref p) (upd H p (.tup (xs++ys))))
theorem Vals.nil_iff{xs:List V}{us:List Value}(r:Vals xs us):us=[]↔xs=[]:=by
 cases r with
 |nil=>simp
 |cons _ _=>simp
theorem op_catT:OpR X (binaryOp .Add) (rCatT X.K):=by
 intro pins s σ H x y v u Q I rx ry h
 obtain⟨a,b,xs,ys,rfl,rfl,ha,hb,hx,hz,q1,q2⟩:=h
 cases rx
 cases ry
 obtain⟨its,r1,p1,_⟩:=I.tuple ha
 obtain⟨its2,r2,p2,_⟩:=I.tuple hb
 refine HT.cat_tup p1 p2 (fun z=>hx (r1.nil_iff.mp z)) (fun z=>⟨.ref a,H,I,rfl,q1 (r2.nil_iff.mp z)⟩) (fun z=>?_) (by rw[<- r1.length,<- r2.length];exact hz)
 refine⟨.ref s.heap.objs.size,_,I.laid (t':=s.toks) (o:=.tup (xs++ys)) (fun b ob q=>zC _ q) (zI _) ?_,rfl,q2 (fun w=>z (r2.nil_iff.mpr w)) _ (I.hok.fresh (zI _))⟩
 exact⟨by rw[zK];exact hz,_,r1.append r2,IsTup.new _ _⟩
end
open PySem PySem.Spec PyProof.Rows
noncomputable def ixN(n:Nat)(i:Int):Option Nat:=if 0<=i then(if i<n then some i.toNat else none)else if -(n:Int)<=i then some (i+n).toNat else none
noncomputable def atI{α:Type}(xs:List α)(i:Int):Option α:=(ixN xs.length i).bind fun j=>xs[j]?
theorem ixN_seq{n:Nat}{i:Int}{j:Nat}(h:ixN n i=some j):seqIndex? i n=some j/\j<n/\-(n:Int)<=i/\i<n:=by
 unfold ixN at h
 by_cases h0:0<=i
 ·rw[if_pos h0]at h
  by_cases h1:i<n
  ·rw[if_pos h1]at h
   have e:i.toNat=j:=Option.some.inj h
   exact⟨by rw[seqIndex_of h0 h1,e],by omega,by lia,h1⟩
  ·rw[if_neg h1]at h;cases h
 ·rw[if_neg h0]at h
  by_cases h1:-(n:Int)<=i
  ·rw[if_pos h1]at h
   have e:(i+n).toNat=j:=Option.some.inj h
   exact⟨by rw[seqIndex_neg (by lia) h1,e],by lia,h1,by lia⟩
  ·rw[if_neg h1]at h;cases h
theorem atI_get{α:Type}{xs:List α}{i:Int}{v:α}(h:atI xs i=some v):∃ j,seqIndex? i xs.length=some j/\xs[j]?=some v/\j<xs.length/\-(xs.length:Int)<=i/\i<xs.length:=by
 unfold atI at h
 cases e:ixN xs.length i with
 |none=>rw[e]at h;cases h
 |some j =>
  rw[e]at h
  obtain⟨h1,h2,h3,h4⟩:=ixN_seq e
  exact⟨j,h1,h,h2,h3,h4⟩
theorem atI_nat{α:Type}{xs:List α}{j:Nat}{v:α}(h:xs[j]?=some v):atI xs (j:Int)=some v:=by
 have hj:j<xs.length:=(zE.mp h).1
 have e:ixN xs.length (j:Int)=some j:=by
  unfold ixN
  rw[if_pos (by lia),if_pos (by lia)];simp
 unfold atI;rw[e];exact h
theorem atI_last{α:Type}(xs:List α)(v:α):atI (xs++[v]) (-1)=some v:=by
 have hl:(xs++[v]).length=xs.length+1:=by simp
 have e:ixN (xs++[v]).length (-1)=some xs.length:=by
  unfold ixN
  rw[hl,if_neg (by decide),if_pos (by lia)]
  congr 1
  lia
 unfold atI
 rw[e]
 show(xs++[v])[xs.length]?=some v
 simp
noncomputable def PlainIx(b:Expr):Prop:=∀ o i,subscripted b false o i=operate [o,i] (getItem o i)
noncomputable def IxR(X:Cx)(r:R2):Prop :=
 ∀ (value slice:Expr) (pins:List (Addr×Obj)) (s:Shared) (σ:St) (H:Hp) (x y:V) (v u:Value) (Q:VK),Inv X pins σ H s->RelV x v->RelV y u->r x y H Q ->
  subscripted slice false v u=operate [v,u] (getItem v u)->wpAny (model X.prog X.w) X.A (subscriptTail value slice v u) (EP X pins σ Q) X.xe s
noncomputable def MtR(X:Cx)(id:String)(r:V->List V->Hp->VK->Prop):Prop :=
 ∀ (pins:List (Addr×Obj)) (s:Shared) (σ:St) (H:Hp) (x:V) (xs:List V) (v:Value) (us:List Value) (Q:VK),Inv X pins σ H s->RelV x v->Vals xs us->r x xs H Q ->
  wpAny (model X.prog X.w) X.A (call (.builtin id) (v :: us)) (EP X pins σ Q) X.xe s
section
variable{X:Cx}{a b:Expr}{ta tb:TE}{pos:Pos}
theorem pe_ix{r:R2}(hr:IxR X r)(ha:PE X a ta)(hb:PE X b tb)(hs:PlainIx b):PE X (.Subscript a b pos) (tOp r ta tb):=by
 intro pins s σ H Q I h
 exact Subscript_ (binT ha hb I h fun v u s2 x y H2 I2 rx ry q=>hr a b pins s2 σ H2 x y v u Q I2 rx ry q (hs _ _))
inductive rIxLI(K:PySem.W.Frag)(x:V)(y:V)(H:Hp)(Q:VK):Prop where
 |mk (p:_) (xs:_) (i:_) (v:_) (h1:x = .ref p) (h2:y = .int i) (h3:SqL K H p xs) (h4:atI xs i=some v) (h5:Q v H)
noncomputable def rIxL(K:PySem.W.Frag):R2:=fun x y H Q=>rIxLI K x y H Q
inductive rIxTI(K:PySem.W.Frag)(x:V)(y:V)(H:Hp)(Q:VK):Prop where
 |mk (p:_) (xs:_) (i:_) (v:_) (h1:x = .ref p) (h2:y = .int i) (h3:SqT K H p xs) (h4:atI xs i=some v) (h5:Q v H)
noncomputable def rIxT(K:PySem.W.Frag):R2:=fun x y H Q=>rIxTI K x y H Q
theorem ix_list:IxR X (rIxL X.K):=by
 intro value slice pins s σ H x y v u Q I rx ry h hs
 obtain⟨p,xs,i,z,rfl,rfl,hq,he,q⟩:=h
 cases rx
 obtain⟨t,rfl⟩:=ry
 obtain⟨its,r,pl,hz⟩:=I.list hq
 obtain⟨j,h1,h2,h3,h4,h5⟩:=atI_get he
 obtain⟨w,ew,rw'⟩:=r.get h2
 have hl:=r.length
 have hn:=line63
 have fin:EP X pins σ Q w s:=⟨z,H,I,rw',q⟩
 by_cases h0:0<=i
 ·have hj:i.toNat=j:=by
   rw[seqIndex_of h0 h5]at h1
   exact Option.some.inj h1
  exact item_listR pl.isList h0 (by lia) (by rw[hj];simpa using ew) fin hs
 ·have hj:(i+(its.toArray.size:Int)).toNat=j:=by
   rw[seqIndex_neg (by lia) h4]at h1
   rw[zG,<- hl]
   exact Option.some.inj h1
  exact subscriptTail_builtinR (x:=w) pl.isList.typeIs slot_list_getitem.lookup
   (wpAny_getItem_list_neg (Q:=fun r s'=>r=w/\EP X pins σ Q r s') pl.isList (by lia) (by rw[zG] <;> lia) (by lia) (by rw[hj];simpa using ew) ⟨rfl,fin⟩) hs
theorem ix_tup:IxR X (rIxT X.K):=by
 intro value slice pins s σ H x y v u Q I rx ry h hs
 obtain⟨p,xs,i,z,rfl,rfl,hq,he,q⟩:=h
 cases rx
 obtain⟨t,rfl⟩:=ry
 obtain⟨its,r,pl,hz⟩:=I.tuple hq
 obtain⟨j,h1,h2,h3,h4,h5⟩:=atI_get he
 obtain⟨w,ew,rw'⟩:=r.get h2
 have hl:=r.length
 have hn:=line63
 have fin:EP X pins σ Q w s:=⟨z,H,I,rw',q⟩
 exact subscriptTail_builtinR (x:=w) pl.typeIs slot_tuple_getitem.lookup
  (getItem_tuple (j:=j) (Q:=fun r s'=>r=w/\EP X pins σ Q r s') pl (by lia) (by lia) (by rw[zG,<- hl];exact h1) (by simpa using ew) ⟨rfl,fin⟩) hs
theorem mapSeq_set(its:List Value)(n j:Nat)(u:Value):Obj.mapSeq (·.setIfInBounds j u) { cls:=.type "list",data:=.seq its.toArray n } = { cls:=.type "list",data:=.seq (its.set j u).toArray n }:=by
 simp[Obj.mapSeq]
theorem Inv.lst{pins:List (Addr×Obj)}{σ:St}{H:Hp}{s:Shared}{p:Addr}{xs:List V}(I:Inv X pins σ H s)(h:H p=some (.lst xs)) :
  ∃ (its:List Value) (n:Nat),Vals xs its/\s.heap.get? p=some { cls:=.type "list",data:=.seq its.toArray n }/\xs.length<=sizeLine:=by
 obtain⟨z,its,n,r,e⟩:=I.hok p _ h
 exact⟨its,n,r,e,z⟩
theorem Inv.lstUpd{pins:List (Addr×Obj)}{σ:St}{H:Hp}{s:Shared}{p:Addr}{xs ys:List V}{its its':List Value}{n n':Nat}{f:Obj->Obj}(I:Inv X pins σ H s)(h:H p=some (.lst xs))
  (ho:s.heap.get? p=some { cls:=.type "list",data:=.seq its.toArray n }) (hf:f { cls:=.type "list",data:=.seq its.toArray n } = { cls:=.type "list",data:=.seq its'.toArray n' }) (r:Vals ys its') (hz:ys.length<=sizeLine) (t:Nat) :
  Inv X pins σ (upd H p (.lst ys)) { s with heap:=s.heap.update p f,toks:=t }:=by
 have e:(s.heap.update p f).get? p=some { cls:=.type "list",data:=.seq its'.toArray n' }:=by
  rw[Heap.get?_update_self f ho (by rw[hf] <;> rfl),hf]
 refine I.write (x:=p) (e:=p) (by rw[h];trivial) (.inl rfl) (fun b u hb q=>(Heap.get?_update_other _ _ (Ne.symm hb)).trans q) ⟨_,e⟩ ?_
 exact⟨hz,its',n',r,e⟩
inductive rSetLI(o:V)(i:V)(v:V)(H:Hp)(Q:Hp->Prop):Prop where
 |mk (p:_) (xs:_) (k:_) (j:_) (h1:o = .ref p) (h2:i = .int k) (h3:H p=some (.lst xs)) (h4:ixN xs.length k=some j) (h5:Q (upd H p (.lst (xs.set j v))))
noncomputable def rSetL:V->V->V->Hp->(Hp->Prop)->Prop:=fun o i v H Q=>rSetLI o i v H Q
theorem set_list:PSet X rSetL:=by
 intro pins s σ H o i v ov iv u Q I ro ri rv h
 obtain⟨p,xs,k,j,rfl,rfl,hp,hj,q⟩:=h
 cases ro
 obtain⟨t,rfl⟩:=ri
 obtain⟨its,n,r,ho,hz⟩:=I.lst hp
 obtain⟨h1,h2,h3,h4⟩:=ixN_seq hj
 have hl:=r.length
 have hn:=line63
 have I':Inv X pins σ (upd H p (.lst (xs.set j v))) { s with heap:=s.heap.update p (Obj.mapSeq (·.setIfInBounds j u)) } :=
  I.lstUpd hp ho (mapSeq_set its n j u) (r.set rv j) (by rw[List.length_set];exact hz) s.toks
 by_cases h0:0<=k
 ·have hk:k.toNat=j:=by
   rw[seqIndex_of h0 h4]at h1
   exact Option.some.inj h1
  exact PySem.W.ki_setAt ho h0 (by lia) (by rw[zG,<- hl];exact h4) (by rw[hk];exact⟨_,I',q⟩)
 ·have hk:(k+(its.toArray.size:Int)).toNat=j:=by
   rw[seqIndex_neg (by lia) h3]at h1
   rw[zG,<- hl]
   exact Option.some.inj h1
  exact PySem.W.ki_setBack ho (by lia) (by rw[zG,<- hl];exact h3) (by lia) (by rw[hk];exact⟨_,I',q⟩)
theorem slice_bounds(lo hi:Option Int)(n:Nat):(sliceBounds lo hi none n).1=((HT.sIx n 0 lo:Nat):Int)/\(sliceBounds lo hi none n).2.1=((HT.sIx n n hi:Nat):Int)/\(sliceBounds lo hi none n).2.2=1:=by
 refine⟨?_,?_,rfl⟩
 ·cases lo with
  |none=>simp[sliceBounds,HT.sIx]
  |some i =>
   simp only[sliceBounds,HT.sIx,Option.getD_none,show(1:Int) > 0 by decide,if_true]
   by_cases h:i<0
   ·simp only[h,if_true] <;> lia
   ·simp only[h,if_false] <;> lia
 ·cases hi with
  |none=>simp[sliceBounds,HT.sIx]
  |some i =>
   simp only[sliceBounds,HT.sIx,Option.getD_none,show(1:Int) > 0 by decide,if_true]
   by_cases h:i<0
   ·simp only[h,if_true] <;> lia
   ·simp only[h,if_false] <;> lia
theorem slicePick_cut(its:List Value)(lo hi:Option Int):slicePick its.toArray lo hi none=((its.drop (HT.sIx its.length 0 lo)).take (HT.sIx its.length its.length hi-HT.sIx its.length 0 lo)).toArray:=by
 obtain⟨h1,h2,h3⟩:=slice_bounds lo hi its.toArray.size
 unfold slicePick
 rw[h1,h2,h3]
 simp only[sliceRange_one,pick_run,zG] <;> rfl
inductive rSlLI(K:PySem.W.Frag)(x:V)(lo:Option Int)(hi:Option Int)(H:Hp)(Q:VK):Prop where
 |mk (a:_) (xs:_) (h1:x = .ref a) (h2:SqL K H a xs) (h3:∀ p,H p=none->Q (.ref p) (upd H p (.lst (cutV xs lo hi))))
noncomputable def rSlL(K:PySem.W.Frag):V->Option Int->Option Int->Hp->VK->Prop:=fun x lo hi H Q=>rSlLI K x lo hi H Q
theorem sl_list:SlR X (rSlL X.K):=by
 intro pins s σ H x v vl vu lo hi sl Q I rx hs pl pu h
 obtain⟨a,xs,rfl,hx,q⟩:=h
 cases rx
 obtain⟨its,r,ht,hz⟩:=I.list hx
 have hlen:=r.length
 refine⟨"list",_,slot_list_getitem.lookup,ht.isList.typeIs,?_⟩
 refine wpAny_getItem_list_slice ht.isList hs pl pu .none (by simp) ?_ (by rw[zG] <;> lia)
 rw[slicePick_cut,<- hlen]
 refine⟨.ref s.heap.objs.size,_,I.laid (t':=s.toks) (o:=.lst (cutV xs lo hi)) (fun b ob q=>zC _ q) (zI _) ?_,rfl,q _ (I.hok.fresh (zI _))⟩
 exact⟨zAC (cutV_length xs lo hi) hz,_,0,(r.drop (HT.sIx xs.length 0 lo)).take (HT.sIx xs.length xs.length hi-HT.sIx xs.length 0 lo),zW _ rfl⟩
noncomputable def flatV:V->Bool
 | .non=>true
 | .bl _=>true
 | .int _=>true
 | .str _=>true
 | _=>false
noncomputable def eqV:V->V->Bool
 | .non,.non=>true
 | .bl a,.bl b=>a == b
 | .bl a,.int b=>(if a then 1 else 0) == b
 | .int a,.bl b=>a ==(if b then 1 else 0)
 | .int a,.int b=>a == b
 | .str a,.str b=>a == b
 | _,_=>false
theorem eqAt_V{A:Around}{s:Shared}{y x:V}{u v:Value}(ry:RelV y u)(rx:RelV x v)(fy:flatV y=true)(fx:flatV x=true):SeqAt.EqAt A s u v (eqV y x):=by
 cases y with
 |non =>
  cases ry
  cases x with
  |non=>cases rx;exact SeqAt.EqAt.same _
  |bl b=>cases rx;exact SeqAt.EqAt.none_bool b
  |int b=>obtain⟨t,rfl⟩:=rx;exact SeqAt.EqAt.none_int b t
  |str b=>obtain⟨t,rfl⟩:=rx;exact SeqAt.EqAt.none_str b t
  | _=>exact absurd (show false=true from fx) zN
 |bl a =>
  cases ry
  cases x with
  |non=>cases rx;exact SeqAt.EqAt.bool_none a
  |bl b=>cases rx;exact SeqAt.EqAt.bool_bool a b
  |int b=>obtain⟨t,rfl⟩:=rx;exact SeqAt.EqAt.bool_int a b t
  |str b=>obtain⟨t,rfl⟩:=rx;exact SeqAt.EqAt.bool_str a b t
  | _=>exact absurd (show false=true from fx) zN
 |int a =>
  obtain⟨t',rfl⟩:=ry
  cases x with
  |non=>cases rx;exact SeqAt.EqAt.int_none a t'
  |bl b=>cases rx;exact SeqAt.EqAt.int_bool a t' b
  |int b=>obtain⟨t,rfl⟩:=rx;exact SeqAt.EqAt.int_int a t' b t
  |str b=>obtain⟨t,rfl⟩:=rx;exact SeqAt.EqAt.int_str a t' b t
  | _=>exact absurd (show false=true from fx) zN
 |str a =>
  obtain⟨t',rfl⟩:=ry
  cases x with
  |non=>cases rx;exact SeqAt.EqAt.str_none a t'
  |bl b=>cases rx;exact SeqAt.EqAt.str_bool a t' b
  |int b=>obtain⟨t,rfl⟩:=rx;exact SeqAt.EqAt.str_int a t' b t
  |str b=>obtain⟨t,rfl⟩:=rx;exact SeqAt.EqAt.str_str a t' b t
  | _=>exact absurd (show false=true from fx) zN
 | _=>exact absurd (show false=true from fy) zN
noncomputable def eqU(x:V)(u:Value):Bool:=match u with
 | .none=>eqV .non x
 | .bool b=>eqV (.bl b) x
 | .int i _=>eqV (.int i) x
 | .str z _=>eqV (.str z) x
 | _=>false
theorem eqU_of{x y:V}{u:Value}(r:RelV y u)(f:flatV y=true):eqU x u=eqV y x:=by
 cases y with
 |non=>cases r;rfl
 |bl b=>cases r;rfl
 |int i=>obtain⟨t,rfl⟩:=r;rfl
 |str z=>obtain⟨t,rfl⟩:=r;rfl
 | _=>exact absurd (show false=true from f) zN
theorem any_eqU{x:V}:∀ {xs:List V}{us:List Value},Vals xs us->xs.all flatV=true->us.any (eqU x)=xs.any fun y=>eqV y x
 | _,_,.nil,_=>rfl
 |y :: xs,u :: us,.cons r t,f=>by
  rw[List.all_cons,zBC]at f
  rw[List.any_cons,List.any_cons,eqU_of r f.1,any_eqU t f.2]
theorem mem_eqAt{A:Around}{s:Shared}{x:V}{v:Value}(rx:RelV x v)(fx:flatV x=true):∀ {xs:List V}{us:List Value},Vals xs us->xs.all flatV=true->∀ u∈us,SeqAt.EqAt A s u v (eqU x u)
 | _,_,.nil,_=>fun u hu=>by cases hu
 |y :: xs,u :: us,.cons r t,f=>fun u' hu=>by
  rw[List.all_cons,zBC]at f
  rcases zT.mp hu with rfl | hu
  ·rw[eqU_of r f.1];exact eqAt_V r rx f.1 fx
  ·exact mem_eqAt rx fx t f.2 u' hu
noncomputable def inV(x:V)(xs:List V):Bool:=xs.any fun y=>eqV y x
inductive rInI(K:PySem.W.Frag)(neg:Bool)(x:V)(y:V)(H:Hp)(Q:VK):Prop where
 |mk (p:_) (xs:_) (h1:y = .ref p) (h2:(SqL K H p xs\/SqT K H p xs)) (h3:flatV x=true) (h4:xs.all flatV=true) (h5:Q (.bl (if neg then !inV x xs else inV x xs)) H)
noncomputable def rIn(K:PySem.W.Frag)(neg:Bool):R2:=fun x y H Q=>rInI K neg x y H Q
theorem op_in_seq:OpR X (compareOp .In) (rIn X.K false):=by
 intro pins s σ H x y v u Q I rx ry h
 obtain⟨p,xs,rfl,hq,fx,fs,q⟩:=h
 cases ry
 rcases hq with hq | hq
 ·obtain⟨its,r,pl,hz⟩:=I.list hq
  refine SeqAt.in_listAt (eqU x) pl.isList (fun w hw=>mem_eqAt rx fx r fs w (by simpa using hw)) ⟨.bl _,H,I,rfl,?_⟩
  rw[show its.toArray.any (eqU x)=its.any (eqU x) by simp,any_eqU r fs]
  exact q
 ·obtain⟨its,r,pl,hz⟩:=I.tuple hq
  refine SeqAt.in_tupleAt (eqU x) pl (fun w hw=>mem_eqAt rx fx r fs w (by simpa using hw)) ⟨.bl _,H,I,rfl,?_⟩
  rw[show its.toArray.any (eqU x)=its.any (eqU x) by simp,any_eqU r fs]
  exact q
theorem call_len_seq:CallR X (.builtin "len") (fun xs H Q=>∃ p ys,xs=[.ref p]/\(SqL X.K H p ys\/SqT X.K H p ys)/\Q (.int ys.length) H):=by
 intro pins s σ H xs us Q I r h
 obtain⟨p,ys,rfl,hq,q⟩:=h
 obtain⟨u,rfl,rx⟩:=vals1 r
 cases rx
 have hn:=line63
 rcases hq with hq | hq
 ·obtain⟨its,r',pl,hz⟩:=I.list hq
  have hlen:=r'.length
  exact Calls.call_len_list pl.isList (by simp only[zG] <;> lia) ⟨.int ys.length,H,I.tok _,⟨s.toks+1,by rw[zG,hlen]⟩,q⟩
 ·obtain⟨its,r',pl,hz⟩:=I.tuple hq
  have hlen:=r'.length
  exact len_tuple pl (by simp only[zG] <;> lia) ⟨.int ys.length,H,I.tok _,⟨s.toks+1,by rw[zG,hlen]⟩,q⟩
theorem call_list_of:CallR X (.type "list") (fun xs H Q=>∃ p ys,xs=[.ref p]/\(SqL X.K H p ys\/SqT X.K H p ys)/\∀ l,H l=none->Q (.ref l) (upd H l (.lst ys))):=by
 intro pins s σ H xs us Q I r h
 obtain⟨p,ys,rfl,hq,q⟩:=h
 obtain⟨u,rfl,rx⟩:=vals1 r
 cases rx
 have fin:∀ (its:List Value),Vals ys its->ys.length<=sizeLine->∀ (h':Heap) (c':Nat),(∀ b o',s.heap.get? b=some o'->h'.get? b=some o') ->
   h'.get? s.heap.objs.size=some { cls:=.type "list",dict:=none,data:=.seq its.toArray c',slots:=#[] }->EP X pins σ Q (.ref s.heap.objs.size) { s with heap:=h' }:=fun its r' hz h' c' kp e =>
  ⟨.ref s.heap.objs.size,_,I.laid (t':=s.toks) kp (zI _) (show ObjOk X.prog X.w _ h' _ (.lst ys)from⟨hz,its,c',r',e⟩),rfl,q _ (I.hok.fresh (zI _))⟩
 rcases hq with hq | hq
 ·obtain⟨its,r',pl,hz⟩:=I.list hq
  have hlen:=r'.length
  obtain⟨o,ho,hc,n,hd⟩:=pl.isList
  exact call_list_seq p (.inl rfl) ho hc hd (fun h' c' kp e=>fin its r' hz h' c' kp e) (by simp only[zG] <;> lia)
 ·obtain⟨its,r',pl,hz⟩:=I.tuple hq
  have hlen:=r'.length
  obtain⟨o,ho,hc,n,hd⟩:=pl
  exact call_list_seq p (.inr rfl) ho hc hd (fun h' c' kp e=>fin its r' hz h' c' kp e) (by simp only[zG] <;> lia)
theorem call_tuple_of:CallR X (.type "tuple") (fun xs H Q=>∃ p ys,xs=[.ref p]/\((SqL X.K H p ys/\∀ l,H l=none->Q (.ref l) (upd H l (.tup ys)))\/(SqT X.K H p ys/\Q (.ref p) H))):=by
 intro pins s σ H xs us Q I r h
 obtain⟨p,ys,rfl,h⟩:=h
 obtain⟨u,rfl,rx⟩:=vals1 r
 cases rx
 rcases h with⟨hq,q⟩ |⟨hq,q⟩
 ·obtain⟨its,r',pl,hz⟩:=I.list hq
  have hlen:=r'.length
  refine call_tuple_list pl.isList (fun h' kp=>?_) (by simp only[zG] <;> lia)
  have I1:Inv X pins σ H { s with heap:=h' }:=I.kept (t':=s.toks) kp
  have I2:Inv X pins σ (upd H h'.objs.size (.tup ys)) { s with heap:=h'.push { cls:=.type "tuple",data:=.seq its.toArray } } :=
   I1.laid (t':=s.toks) (fun b o e=>zC _ e) (zI _) (show ObjOk X.prog X.w _ _ _ (.tup ys)from⟨hz,its,r',IsTup.new _ _⟩)
  exact⟨.ref h'.objs.size,_,I2,rfl,q _ (I1.hok.fresh (zI _))⟩
 ·obtain⟨its,r',pl,hz⟩:=I.tuple hq
  exact call_tuple_same pl ⟨.ref p,H,I,rfl,q⟩
noncomputable def tyV(K:PySem.W.Frag)(T:String)(x:V)(H:Hp):Prop:=match x with
 | .str _=>T = "str"
 | .int _=>T = "int"
 | .ref p=>(T = "list"/\∃ xs,SqL K H p xs)\/(T = "tuple"/\∃ o,K.lookup p=some o/\o.cls = .type "tuple"/\o.dict=none) \/
   (T = "dict"/\((∃ kvs,H p=some (.dK kvs))\/∃ kvs,H p=some (.dT kvs)))\/(T = "set"/\∃ S n,H p=some (.set S n))
 | _=>False
theorem tyV_is{pins:List (Addr×Obj)}{σ:St}{H:Hp}{s:Shared}{T:String}{x:V}{v:Value}(I:Inv X pins σ H s)(r:RelV x v)(ty:tyV X.K T x H) :
  s.TypeIs v T/\∀ a,v = .ref a->∃ ob,s.heap.get? a=some ob/\ob.dict=none:=by
 cases x with
 |str z =>
  obtain⟨t,rfl⟩:=r
  cases(show T = "str" from ty)
  exact⟨typeIs_str s z t,fun _ e=>nomatch e⟩
 |int i =>
  obtain⟨t,rfl⟩:=r
  cases(show T = "int" from ty)
  exact⟨typeIs_int s i t,fun _ e=>nomatch e⟩
 |ref p =>
  cases r
  rcases ty with⟨rfl,xs,hq⟩ |⟨rfl,o,hk,hc,hd⟩ |⟨rfl,hk⟩ |⟨rfl,S,n,hk⟩
  ·obtain⟨its,_,pl,_⟩:=I.list hq
   refine⟨pl.isList.typeIs,fun a e=>?_⟩
   cases e
   obtain⟨o,n,e,c,hd,_⟩:=pl
   exact⟨o,e,hd⟩
  ·refine⟨⟨o,I.kIn p o hk,hc⟩,fun a e=>?_⟩
   cases e
   exact⟨o,I.kIn _ o hk,hd⟩
  ·have z:∃ o,s.heap.get? p=some o/\o.ExactDict:=by
    rcases hk with⟨kvs,hk⟩ |⟨kvs,hk⟩
    ·obtain⟨_,_,_,_,o,_,_,e,ex,_⟩:=I.hok p _ hk
     exact⟨o,e,ex⟩
    ·obtain⟨_,_,_,_,o,_,_,e,ex,_⟩:=I.hok p _ hk
     exact⟨o,e,ex⟩
   obtain⟨o,e,ex⟩:=z
   refine⟨⟨o,e,ex.1⟩,fun a e2=>?_⟩
   cases e2
   exact⟨o,e,ex.2.1⟩
  ·obtain⟨o,_,_,_,e,ex,_⟩:=I.hok p _ hk
   refine⟨⟨o,e,ex.1⟩,fun a e2=>?_⟩
   cases e2
   exact⟨o,e,ex.2.1⟩
 | _=>exact False.elim ty
noncomputable def tBM0(K:PySem.W.Frag)(T:String)(r:V->List V->Hp->VK->Prop)(to:TE):TE:=fun σ H Q=>to σ H fun x H1=>tyV K T x H1/\r x [] H1 Q
noncomputable def tBM(K:PySem.W.Frag)(T:String)(r:V->List V->Hp->VK->Prop)(to:TE)(t:TA):TE:=fun σ H Q=>to σ H fun x H1=>tyV K T x H1/\t σ H1 fun xs H2=>r x xs H2 Q
variable{o e:Expr}{es:List Expr}{to:TE}{t:TA}{name:Str}{apos cpos:Pos}{T id:String}{r:V->List V->Hp->VK->Prop}
theorem pe_bm0(pa:PlainAttrs T)(slot:Slot T name id)(hty:typeOf (.builtin id)=pure (.type "method_descriptor"))(hm:MtR X id r)(ho:PE X o to)
  (hbase:attributeBase o name X.env (eval o X.env)=eval o X.env:=by rfl) (hline:(apos.endLine == cpos.line)=true:=by rfl):PE X (.Call (.Attribute o name apos) [] [] cpos) (tBM0 X.K T r to):=by
 intro pins s σ H Q I h
 refine wpAny_Call_method0_late hbase hline (thn (ho pins s σ H _ I h) fun v s1 ⟨x,H1,I1,r1,ty,q1⟩=>?_)
 obtain⟨h1,h2⟩:=tyV_is I1 r1 ty
 exact⟨T,id,pa,slot,hty,h1,h2,Calls.callWith_builtin rfl (PySem.evalArgs_none (hm pins s1 σ H1 x [] v [] Q I1 r1 .nil q1))⟩
theorem pe_bm(pa:PlainAttrs T)(slot:Slot T name id)(hty:typeOf (.builtin id)=pure (.type "method_descriptor"))(hm:MtR X id r)(ho:PE X o to)(ha:PA X (e :: es) t)
  (hbase:attributeBase o name X.env (eval o X.env)=eval o X.env:=by rfl)
  (hfew:((backTo cpos (starEach (e :: es) X.env)).all (fun x=>!x.1) && (backToKw cpos (keywordEach [] X.env)).all (fun x=>x.1.isSome)
   && decide ((e :: es).length+([]:List Keyword).length+(if([]:List Keyword).isEmpty then 0 else 1)<30))=true:=by rfl)
  (hline:(apos.endLine == cpos.line)=true:=by rfl) (hs:starEach (e :: es) X.env=(false,eval e X.env) :: starEach es X.env:=by rfl) (hplain:(backTo cpos (starEach es X.env)).any (·.1)=false:=by rfl) :
  PE X (.Call (.Attribute o name apos) (e :: es) [] cpos) (tBM X.K T r to t):=by
 intro pins s σ H Q I h
 refine wpAny_Call_method_late hbase hfew hline rfl (thn (ho pins s σ H _ I h) fun v s1 ⟨x,H1,I1,r1,ty,q1⟩=>?_)
 obtain⟨h1,h2⟩:=tyV_is I1 r1 ty
 refine⟨T,id,pa,slot,hty,h1,h2,?_⟩
 have hA:=ha cpos pins s1 σ H1 _ I1 q1
 rw[hs]at hA ⊢
 refine Calls.callWith_builtin (by show(false ||(backTo cpos (starEach es X.env)).any (·.1))=false;rw[hplain] <;> rfl) (Calls.evalArgs_plain ?_)
 exact thn hA fun us s2 ⟨vs,H2,I2,r2,q2⟩=>hm pins s2 σ H2 x vs v us Q I2 r1 r2 q2
end
open PySem PySem.Spec PyProof.Rows
noncomputable def MtM(X:Cx)(id:String)(r:V->List V->Hp->VK->Prop):Prop :=
 ∀ (pins:List (Addr×Obj)) (s:Shared) (σ:St) (H:Hp) (x:V) (xs:List V) (v:Value) (us:List Value) (Q:VK),Inv X pins σ H s->RelV x v->Vals xs us->r x xs H Q ->
  wpAny (model X.prog X.w) X.A (call (.builtin id) (v :: us)) (EP X pins σ Q) X.xe s
theorem Vals.one{x:V}{us:List Value}(h:Vals [x] us):∃ u,us=[u]/\RelV x u:=by
 cases h with | cons r q=>cases q;exact⟨_,rfl,r⟩
theorem Vals.zero:∀ {us:List Value},Vals [] us->us=[]
 | _,.nil=>rfl
theorem Vals.dropLast{xs:List V}{us:List Value}(h:Vals xs us):Vals xs.dropLast us.dropLast:=by
 induction h with
 |nil=>exact .nil
 |cons r t ih =>
  cases t with
  |nil=>exact .nil
  |cons q t'=>exact .cons r ih
theorem Vals.eraseIdx:∀ {xs:List V}{us:List Value} (i:Nat),Vals xs us->Vals (xs.eraseIdx i) (us.eraseIdx i)
 | _,_,_,.nil=>.nil
 | _,_,0,.cons _ t=>t
 | _,_,i+1,.cons r t=>.cons r (Vals.eraseIdx i t)
theorem Vals.rep{xs:List V}{us:List Value}(h:Vals xs us):∀ k:Nat,Vals (List.replicate k xs).flatten (List.replicate k us).flatten
 | 0=>.nil
 |k+1=>by
  rw[zBE,zBE,List.flatten_cons,List.flatten_cons]
  exact Vals.append h (Vals.rep h k)
theorem erase_last{α:Type}(l:List α):l.eraseIdx (l.length-1)=l.dropLast:=by
 induction l with
 |nil=>rfl
 |cons a r ih =>
  cases r with
  |nil=>rfl
  |cons b r =>
   have e:(a :: b :: r).length-1=((b :: r).length-1)+1:=by
    have h1:(a :: b :: r).length=r.length+2:=rfl
    have h2:(b :: r).length=r.length+1:=rfl
    lia
   rw[e,List.eraseIdx_cons_succ,ih]
   all_goals rfl
theorem len_erase{α:Type}:∀ (l:List α) (i:Nat),(l.eraseIdx i).length<=l.length
 |[],_=>zI _
 | _ :: _,0=>Nat.le_succ _
 | _ :: r,i+1=>Nat.succ_le_succ (len_erase r i)
theorem foldl_rep(its:List Value):∀ (k:Nat) (acc:List Value),
  List.foldl (fun x1 x2=>x1++x2) acc.toArray (List.replicate k its.toArray)=(acc++(List.replicate k its).flatten).toArray
 | 0,acc=>by simp
 |k+1,acc=>by
  have e:acc.toArray++its.toArray=(acc++its).toArray:=by simp
  have e2:(acc++its)++(List.replicate k its).flatten=acc++(List.replicate (k+1) its).flatten:=by
   rw[zBE,List.flatten_cons,List.append_assoc]
  rw[<- e2,<- foldl_rep its k (acc++its),<- e,zBE,List.foldl_cons]
section
variable{X:Cx}{pins:List (Addr×Obj)}{σ:St}{H:Hp}{s:Shared}{l b:Addr}{xs ys zs:List V}
theorem Inv.lset{its its':List Value}{n:Nat}{f:Array Value->Array Value}{t':Nat}(I:Inv X pins σ H s)(hH:H l=some (.lst xs))
  (e:s.heap.get? l=some { cls:=.type "list",data:=.seq its.toArray n }) (hf:f its.toArray=its'.toArray) (hv:Vals ys its') (hz:ys.length<=sizeLine) :
  Inv X pins σ (upd H l (.lst ys)) { s with heap:=s.heap.update l (Obj.mapSeq f),toks:=t' }:=by
 have q:=PySem.IsL.update e f
 rw[hf]at q
 refine I.write (x:=l) (e:=l) (by rw[hH];exact trivial) (.inl rfl) (fun b' u hb hu=>(Heap.get?_update_other s.heap (Obj.mapSeq f) (Ne.symm hb)).trans hu) ⟨_,q⟩ ?_
 exact⟨hz,its',_,hv,q⟩
theorem Inv.lnew{its:List Value}{t':Nat}(I:Inv X pins σ H s)(hv:Vals ys its)(hz:ys.length<=sizeLine) :
  Inv X pins σ (upd H s.heap.objs.size (.lst ys)) { s with heap:=s.heap.push { cls:=.type "list",data:=.seq its.toArray },toks:=t' } :=
 I.laid (fun _ _ q=>zC _ q) (zI _) ⟨hz,its,0,hv,zW _ rfl⟩
theorem Inv.fresh(I:Inv X pins σ H s):H s.heap.objs.size=none:=I.hok.fresh (zI _)
theorem Inv.lstM(I:Inv X pins σ H s)(hH:H l=some (.lst xs)):xs.length<=sizeLine/\∃ (its:List Value) (n:Nat),Vals xs its/\xs.length=its.length/\s.heap.get? l=some { cls:=.type "list",data:=.seq its.toArray n }:=by
 obtain⟨z,its,n,r,e⟩:=I.hok l _ hH
 exact⟨z,its,n,r,r.length,e⟩
theorem notLongL{n:Nat}(h:n<=sizeLine):Builtin.List.listTooLong n=false:=by
 unfold Builtin.List.listTooLong
 exact decide_eq_false (by lia)
end
section
variable{X:Cx}
inductive rAppendI(x:V)(vs:List V)(H:Hp)(Q:VK):Prop where
 |mk (l:_) (xs:_) (y:_) (h1:x = .ref l) (h2:vs=[y]) (h3:H l=some (.lst xs)) (h4:xs.length<sizeLine) (h5:Q .non (upd H l (.lst (xs++[y]))))
noncomputable def rAppend:V->List V->Hp->VK->Prop:=fun x vs H Q=>rAppendI x vs H Q
theorem mt_append:MtM X "list.append" rAppend:=by
 intro pins s σ H x vs v us Q I rx rv h
 obtain⟨l,xs,y,rfl,rfl,hH,hz,q⟩:=h
 cases rx
 obtain⟨u,rfl,ru⟩:=rv.one
 obtain⟨z,its,n,r,hl,e⟩:=I.lstM hH
 refine call_meets F.slot_list_append ⟨_,e,rfl⟩ F.entry_list_append (F.args_list_append_2 _ _) (PySem.list_append l its.toArray n u (by rw[zG];lia)) ⟨e,?_⟩
 refine⟨.non,_,I.lset (its':=its++[u]) hH e (by simp) (r.append (.cons ru .nil)) ?_,rfl,q⟩
 rw[zK,zX]
 lia
inductive rExtendI(x:V)(vs:List V)(H:Hp)(Q:VK):Prop where
 |mk (l:_) (b:_) (xs:_) (zs:_) (h1:x = .ref l) (h2:vs=[.ref b]) (h3:H l=some (.lst xs)) (h4:H b=some (.lst zs)) (h5:xs.length+zs.length<=sizeLine) (h6:Q .non (upd H l (.lst (xs++zs))))
noncomputable def rExtend:V->List V->Hp->VK->Prop:=fun x vs H Q=>rExtendI x vs H Q
theorem mt_extend:MtM X "list.extend" rExtend:=by
 intro pins s σ H x vs v us Q I rx rv h
 obtain⟨l,b,xs,zs,rfl,rfl,hH,hB,hz,q⟩:=h
 cases rx
 obtain⟨u,rfl,ru⟩:=rv.one
 cases ru
 obtain⟨z,its,n,r,hl,e⟩:=I.lstM hH
 obtain⟨z2,its2,n2,r2,hl2,e2⟩:=I.lstM hB
 have hsz:its.toArray.size+its2.toArray.size<=sizeLine:=by rw[zG,zG];lia
 have hlong:¬(!its.toArray.isEmpty && Builtin.List.listTooLong (its.toArray.size+its2.toArray.size))=true:=by
  rw[notLongL hsz,Bool.and_false]
  exact zN
 refine call_meets F.slot_list_extend ⟨_,e,rfl⟩ F.entry_list_extend (F.args_list_extend_2 _ _)
  (AutoSeq1.list_extend_list_list_0 l its.toArray n b its2.toArray n2 hlong (by rw[zG];lia) (by lia)) ⟨e,e2,?_⟩
 refine⟨.non,_,I.lset (its':=its++its2) hH e (by simp) (r.append r2) ?_,rfl,q⟩
 rw[zK]
 omega
inductive rPopI(x:V)(vs:List V)(H:Hp)(Q:VK):Prop where
 |mk (l:_) (xs:_) (y:_) (h1:x = .ref l) (h2:vs=[]) (h3:H l=some (.lst xs)) (h4:xs[xs.length-1]?=some y) (h5:Q y (upd H l (.lst xs.dropLast)))
noncomputable def rPop:V->List V->Hp->VK->Prop:=fun x vs H Q=>rPopI x vs H Q
theorem mt_pop:MtM X "list.pop" rPop:=by
 intro pins s σ H x vs v us Q I rx rv h
 obtain⟨l,xs,y,rfl,rfl,hH,hy,q⟩:=h
 cases rx
 have hus:=rv.zero
 subst hus
 obtain⟨z,its,n,r,hl,e⟩:=I.lstM hH
 obtain⟨u,hu,ru⟩:=r.get hy
 have hy':its.toArray[its.toArray.size-1]?=some u:=by
  show its.toArray[its.length-1]?=some u
  rw[<- Array.getElem?_toList,<- hl]
  exact hu
 refine call_meets F.slot_list_pop ⟨_,e,rfl⟩ F.entry_list_pop (F.args_list_pop_1 _) (MeetsSeq.list_pop_last l its.toArray n u hy' (by rw[zG];lia)) ⟨e,?_⟩
 refine⟨y,_,I.lset (its':=its.dropLast) hH e ?_ r.dropLast ?_,ru,q⟩
 ·show its.toArray.eraseIdxIfInBounds (its.toArray.size-1)=its.dropLast.toArray
  rw[zG,List.eraseIdxIfInBounds_toArray,erase_last]
 ·rw[List.length_dropLast]
  omega
inductive rPopAtI(x:V)(vs:List V)(H:Hp)(Q:VK):Prop where
 |mk (l:_) (xs:_) (i:_) (k:_) (y:_) (h1:x = .ref l) (h2:vs=[.int i]) (h3:H l=some (.lst xs)) (h4:-(2 ^ 63)<=i) (h5:i<2 ^ 63) (h6:seqIndex? i xs.length=some k) (h7:xs[k]?=some y) (h8:Q y (upd H l (.lst (xs.eraseIdx k))))
noncomputable def rPopAt:V->List V->Hp->VK->Prop:=fun x vs H Q=>rPopAtI x vs H Q
theorem mt_popAt:MtM X "list.pop" rPopAt:=by
 intro pins s σ H x vs v us Q I rx rv h
 obtain⟨l,xs,i,k,y,rfl,rfl,hH,h1,h2,hk,hy,q⟩:=h
 cases rx
 obtain⟨u,rfl,ru⟩:=rv.one
 obtain⟨t,rfl⟩:=ru
 obtain⟨z,its,n,r,hl,e⟩:=I.lstM hH
 obtain⟨w,hw,rw'⟩:=r.get hy
 refine call_meets F.slot_list_pop ⟨_,e,rfl⟩ F.entry_list_pop (F.args_list_pop_2 _ _)
  (MeetsSeq.list_pop_at l its.toArray n i t k w (fitsIndex_both h1 h2) (by rw[zG,<- hl];exact hk) (by rw[<- Array.getElem?_toList];exact hw) (by rw[zG];lia)) ⟨e,?_⟩
 refine⟨y,_,I.lset (its':=its.eraseIdx k) hH e ?_ (r.eraseIdx k) ?_,rw',q⟩
 ·show its.toArray.eraseIdxIfInBounds k=(its.eraseIdx k).toArray
  rw[List.eraseIdxIfInBounds_toArray]
 ·have:=len_erase xs k
  lia
inductive rCatI(x:V)(y:V)(H:Hp)(Q:VK):Prop where
 |mk (l:_) (b:_) (xs:_) (zs:_) (h1:x = .ref l) (h2:y = .ref b) (h3:H l=some (.lst xs)) (h4:H b=some (.lst zs)) (h5:xs.length+zs.length<=sizeLine) (h6:∀ p,H p=none->Q (.ref p) (upd H p (.lst (xs++zs))))
noncomputable def rCat:R2:=fun x y H Q=>rCatI x y H Q
theorem op_cat:OpR X (binaryOp .Add) rCat:=by
 intro pins s σ H x y v u Q I rx ry h
 obtain⟨l,b,xs,zs,rfl,rfl,hH,hB,hz,q⟩:=h
 cases rx
 cases ry
 obtain⟨z,its,n,r,hl,e⟩:=I.lstM hH
 obtain⟨z2,its2,n2,r2,hl2,e2⟩:=I.lstM hB
 refine PySem.P.add_list e e2 ?_ (by rw[zG,zG];lia)
 have ea:its.toArray++its2.toArray=(its++its2).toArray:=by simp
 rw[ea]
 exact⟨.ref _,_,I.lnew (t':=s.toks) (r.append r2) (by rw[zK];omega),rfl,q _ I.fresh⟩
inductive rRepI(x:V)(y:V)(H:Hp)(Q:VK):Prop where
 |mk (l:_) (k:_) (xs:_) (h1:x = .ref l) (h2:y = .int k) (h3:H l=some (.lst xs)) (h4:-(2 ^ 63)<=k) (h5:k<2 ^ 63) (h6:xs.length * k.toNat<=sizeLine) (h7:∀ p,H p=none->Q (.ref p) (upd H p (.lst (List.replicate k.toNat xs).flatten)))
noncomputable def rRep:R2:=fun x y H Q=>rRepI x y H Q
theorem len_rep{α:Type}(xs:List α)(k:Nat):(List.replicate k xs).flatten.length=k * xs.length:=by
 induction k with
 |zero=>simp
 |succ k ih=>rw[zBE,List.flatten_cons,zK,ih,Nat.succ_mul,Nat.add_comm]
theorem op_rep:OpR X (binaryOp .Mult) rRep:=by
 intro pins s σ H x y v u Q I rx ry h
 obtain⟨l,k,xs,rfl,rfl,hH,h1,h2,hz,q⟩:=h
 cases rx
 obtain⟨t,rfl⟩:=ry
 obtain⟨z,its,n,r,hl,e⟩:=I.lstM hH
 have hlen:its.toArray.size * k.toNat<=sizeLine:=by rw[zG,<- hl];exact hz
 have hcap:¬ its.toArray.size * k.toNat > (2 ^ 63-1) / 8:=by
  have:(sizeLine:Nat)<=(2 ^ 63-1) / 8:=by decide
  lia
 have hfit:¬(!Builtin.List.listFitsIndex k)=true:=by
  rw[fitsIndex_both h1 h2]
  exact zN
 have hlong:¬ Builtin.List.listTooLong (its.toArray.size * k.toNat)=true:=by
  rw[notLongL hlen]
  exact zN
 have hnew:List.foldl (fun x1 x2=>x1++x2) #[] (List.replicate (if its.toArray.isEmpty=true then 0 else k.toNat) its.toArray)=(List.replicate k.toNat its).flatten.toArray:=by
  have f0:∀ m:Nat,List.foldl (fun x1 x2=>x1++x2) #[] (List.replicate m its.toArray)=(List.replicate m its).flatten.toArray:=fun m=>by
   have:=foldl_rep its m []
   rw[List.nil_append]at this
   exact this
  rw[f0]
  cases its with
  |nil=>simp
  |cons a r'=>rw[if_neg (by simp)]
 refine wpAny_binaryOp_repeat_ref (T:="list") (U:="int") (by decide) ⟨_,e,rfl⟩ (fun s'=>typeIs_int s' k t) noFill_list_mul F.fills_int_mul F.slot_int_rmul repeat_list F.slot_int_index.lookup
  (call_meets F.slot_int_rmul (typeIs_int s k t) F.entry_int_rmul (F.args_int_rmul_2 _ _) (int___rmul___int_list k t l its.toArray n)
   ⟨e,rfl,⟨_,e,rfl⟩,call_meets F.slot_list_mul ⟨_,e,rfl⟩ F.entry_list_mul (F.args_list_mul_2 _ _) (AutoListH.list___mul___list_int_3 l its.toArray n k t hfit hcap hlong) ⟨e,?_⟩⟩)
 rw[hnew]
 exact⟨.ref _,_,I.lnew (t':=s.toks) (r.rep k.toNat) (by rw[len_rep,Nat.mul_comm];exact hz),rfl,q _ I.fresh⟩
end
end L2
namespace Att
open PySem PySem.W PySem.Calls PyProof.Rows
theorem ints_of_wellAll{P:Params}{h:Heap}:∀ (ns:List Int) (vs:List Value),WellAll P h vs (ns.map WData.int)->IntsAre vs ns:=by
 intro ns
 induction ns with
 |nil =>
  intro vs w
  rw[List.map_nil]at w
  cases w
  exact .nil
 |cons n ns ih =>
  intro vs w
  rw[zAB]at w
  cases w with
  |cons a b =>
   cases a
   exact .cons _ _ (ih _ b)
theorem script_of{l:OpenLaw}{n:Nat}(hn:l.most=some n){P:Params}{h:Heap}{args:List WData}{vals:List Value}
  (hpre:l.row.toRowW.claim.pre args=true) (hwl:WellAll P h vals args) :
  ∃ a vs ns,vals=[Value.ref a]/\args=[WData.list (ns.map WData.int)]/\h.get? a=some { cls:=.type "list",data:=.seq vs.toArray }/\IntsAre vs ns/\ns.length<=n:=by
 have hsh:WShape.hasAll [] args [.list .int]=true:=(pre_splitW hpre).1
 have hc:l.pre.holds [] { args:=args } = true:=(pre_splitW hpre).2
 obtain⟨d,r,rfl,h1,h2⟩:=hasAllW_cons hsh
 obtain rfl:=hasAllW_nil h2
 obtain⟨xs,rfl,h3⟩:=hasW_list h1
 obtain⟨ns,rfl⟩:=items_int h3
 have hlen:ns.length<=n:=by
  unfold OpenLaw.pre at hc
  have h4:(WTm.not (.lt (.lit (.int (n:Int))) (.len (.arg 0)))).holds [] { args:=[.list (ns.map .int)] } = true:=by
   have h4:=(holds_andW hc).1
   rw[hn]at h4
   exact h4
  have h5:=condW_of h4 (w_not (w_lt w_lit (w_len_list (w_arg rfl))))
  rw[zA]at h5
  refine Nat.le_of_not_lt fun q=>?_
  have q':(n:Int) <((ns.length:Nat):Int):=by omega
  first
   |(rw[decide_eq_true q']at h5;exact absurd h5 (by decide))
   |(simp at h5;omega)
 cases hwl with
 |cons w1 w2 =>
  cases w2
  cases w1 with
  |list ho hall=>exact⟨_,_,ns,rfl,rfl,ho,ints_of_wellAll ns _ hall,hlen⟩
theorem post_true(l:OpenLaw)(args:List WData):l.row.toRowW.claim.post args (.bool true) args=true :=
 postW_of (r:=l.row.toRowW) (X:=(true == true))
  (show WShape.has [] (.bool true) .bool=true by first | rfl | decide | simp[WShape.has,WShape.arms,WShape.armsAll])
  (show(WTm.eq .res (.lit (.bool true))).value [] { args:=args,res:=some (.bool true),after:=args } = some (.bool (true == true))from w_eq_bool (w_res rfl) w_lit) rfl
theorem attach_call{l:OpenLaw}{n:Nat}{q:Program}{loose:List Str}{XP:(Str->Option Value)->Heap->Prop}{YP:World->Heap->Prop}{d:DefRec}
  (hn:l.most=some n) (hdf:d.params.defaults=[])
  (call:∀ (w:World) (s₀ s₁:Shared) (mg mb:Str->Option Value) (fa:Addr) (o:Obj) (pm cd doc:Value) (a:Addr) (vs:List Value) (ns:List Int),
   Ground q loose [] XP w s₀ mg mb s₁.heap->YP w s₁.heap ->
   s₁.heap.get? fa=some o->o.data = .func (docDef d.name d.params d.body d.scope pm cd doc)->s₁.heap.CodeRec cd d.name->mg d.name=some (.ref fa) ->
   s₁.heap.get? a=some { cls:=.type "list",data:=.seq vs.toArray }->IntsAre vs ns->ns.length<=n->s₁.gens = #[] ->
   codeAny (model l.prog w) callerA (.call (.ref fa) ⟨[.ref a],[]⟩) (fun r s'=>r = .ok (.ret (.bool true))/\OldK s₁.heap s'.heap/\s'.os=s₁.os/\AllBare s'.gens) s₁) :
  WalkO q loose XP YP l.row.toRowW d [] (fun f vs=>PySem.call f vs):=by
 intro w s₀ s₁ mg mb G Y fa o pm cd doc dV kV ho hd hcd hD hmg hg args vals as hpre hlay hrd hwl hlo
 obtain rfl:dV = .none:=Dflts.none hD hdf
 obtain rfl:kV = .none:=Dflts.noKw hD
 obtain⟨a,vs,ns,rfl,rfl,hobj,hints,hlen⟩:=script_of hn hpre hwl
 refine enter_call (codeAny_mono (call w s₀ s₁ mg mb fa o pm cd doc a vs ns G Y ho (fd_plain hd) hcd hmg hobj hints hlen hg) fun r s' hq=>?_)
 obtain⟨rfl,h2,h3,h4⟩:=hq
 exact⟨.inl ⟨.bool true,.bool true,[],rfl,fun _=>rfl,.bool true,post_true l _,fun _=>⟨List.Pairwise.nil,fun _ hm=>(nomatch hm)⟩⟩,h2,h3,h4⟩
end Att
namespace L2
open PySem PySem.Spec PyProof.Rows
theorem vals_ints:∀ {vs:List Value}{ns:List Int},IntsAre vs ns->Vals (ns.map V.int) vs
 | _,_,.nil=>.nil
 | _,_,.cons n t h=>.cons ⟨t,rfl⟩ (vals_ints h)
noncomputable def Only(H:Hp):Prop:=∀ b,H b=none\/∃ o xs,H b=some (.frz o (.lst xs))
theorem law_call{P:Program}{w:World}{K:PySem.W.Frag}{mg mb:Str->Option Value}{CX:CXT}{k:Nat}{fa a:Addr}{fd:FuncData}{x:Str}{sp:Sp}{s₁:Shared}{vs:List Value}{ns:List Int}
  (KX:K.In s₁.heap) (hns:s₁.heap.Ns mainGlobals mg) (hb:s₁.heap.Ns builtinsNs mb) (hbb:∀ x:Str,x≠"__name__"->mb x=bootBuiltins x) (hlim:s₁.heap.NoLimit) (hg:s₁.gens = #[])
  (ha:s₁.heap.get? a=some { cls:=.type "list",data:=.seq vs.toArray }) (hi:IntsAre vs ns) (hl:ns.length<=sizeLine) (hr:Room k callerA)
  (F:∀ base:Heap,K.In base->base.Ns mainGlobals mg->FnOk P w K mg base CX k fa fd [x] sp) (hbind:∀ (s:Shared) (u:Value),BindsTo s fd ⟨[u],[]⟩ [(x,u)])
  (hsp:∀ H:Hp,Only H->SqL K H a (ns.map V.int)->sp [.ref a] H (fun v _=>v = .bl true) fun _ _ _=>False)
  (hCX:∀ H e s',CX [] H s₁ (fun _ _ _=>False) e s'->False) :
  codeAny (model P w) callerA (.call (.ref fa) ⟨[.ref a],[]⟩) (fun r s'=>r = .ok (.ret (.bool true))/\OldK s₁.heap s'.heap/\s'.os=s₁.os/\AllBare s'.gens) s₁:=by
 have rv:=vals_ints hi
 have lenV:=hi.length
 -- from an abstract heap in which nothing but the script may be tracked
 have core:∀ H:Hp,Only H->SqL K H a (ns.map V.int)->HOk P w H s₁.heap->(∀ b,H b≠none->b=a)->(H a≠none->K.lookup a=none) ->
   codeAny (model P w) callerA (.call (.ref fa) ⟨[.ref a],[]⟩) (fun r s'=>r = .ok (.ret (.bool true))/\OldK s₁.heap s'.heap/\s'.os=s₁.os/\AllBare s'.gens) s₁:=by
  intro H hO hS hok hA hK
  have base_of:∀ {b:Addr}{o:Obj},s₁.heap.get? b=some o->H b=none->(hidT s₁.heap H).get? b=some o:=fun e n=>hidT_get e n
  have noA:∀ {b:Addr}{o:Obj}{es:Array DictEntry}{ep:Nat},s₁.heap.get? b=some o->o.data = .dict es ep->H b=none:=fun {b o es ep} e d=>by
   cases q:H b with
   |none=>rfl
   |some u =>
    have e':b=a:=hA b (by rw[q];simp)
    subst e'
    rw[ha]at e;cases e
    have d':Data.seq vs.toArray _=Data.dict es ep:=d
    cases d'
  have nsK:∀ {b:Addr}{m:Str->Option Value},s₁.heap.Ns b m->(hidT s₁.heap H).Ns b m:=fun {b m} ⟨o,es,ep,e,d,r⟩=>⟨o,es,ep,base_of e (noA e d),d,r⟩
  have hKb:K.In (hidT s₁.heap H):=fun b o e=>base_of (KX b o e) (by
   cases q:H b with
   |none=>rfl
   |some u =>
    have e':b=a:=hA b (by rw[q];simp)
    subst e'
    rw[hK (by rw[q];simp)]at e;cases e)
  have hM:Mod K mg (hidT s₁.heap H):=⟨hKb,nsK hns,⟨mb,nsK hb,hbb⟩,let ⟨mc,h1,h2⟩:=hlim;⟨mc,nsK h1,h2⟩⟩
  have e0:Env0 P w K mg (hidT s₁.heap H) callerA [] s₁ H:=⟨rfl,hM,fun b o e=>of_hidT e,Nat.le_of_eq (hidT_size _ _),trivial,fun b hb=>absurd (show b∈([]:List Addr)from hb) (by simp),hok,.of_eq hg⟩
  refine codeAny_mono ((F _ hKb (nsK hns)).run callerA [] s₁ H ⟨[.ref a],[]⟩ [.ref a] [.ref a] _ _ hr e0 (hbind s₁ (.ref a)) (.cons rfl .nil) (hsp H hO hS)) fun r s' h=>?_
  cases r with
  |error e=>exact(hCX H e s' h).elim
  |ok fl =>
   cases fl with
   |next=>exact False.elim h
   |brk=>exact False.elim h
   |cont=>exact False.elim h
   |ret u =>
    obtain⟨v,H',os,bare,un,hok',r',q⟩:=h
    have q':v = .bl true:=q
    subst q'
    obtain rfl:u=Value.bool true:=r'
    refine⟨rfl,OldK.of_keep fun b o e=>?_,os,bare⟩
    cases q:H b with
    |none=>exact un.keep b o e q (by intro z;exact absurd (show b∈([]:List Addr)from z) (by simp)) (by simp)
    |some u =>
     rcases hO b with z |⟨ob,xs,z⟩
     ·rw[q]at z;cases z
     ·have z2:=un.frzs b ob _ z
      obtain⟨e1,_⟩:=hok b _ z
      obtain⟨e2,_⟩:=hok' b _ z2
      rw[e]at e1;cases e1
      exact e2
 cases hk:K.lookup a with
 |some o =>
  -- the script is one of the module's own objects
  have e:=KX a o hk
  rw[ha]at e
  cases e
  refine core (fun _=>none) (fun _=>.inl rfl) (.inr ⟨_,vs.toArray,_,hk,rfl,rfl,rfl,by rw[zG,lenV];exact hl,by simpa using rv⟩) (fun b u z=>by have z':(none:Option HO)=some u:=z;cases z') (fun b z=>absurd rfl z) fun z=>absurd rfl z
 |none =>
  refine core (fun b=>if b=a then some (.frz { cls:=.type "list",data:=.seq vs.toArray } (.lst (ns.map V.int)))else none) (fun b=>?_) (.inl (.inr ⟨{ cls:=.type "list",data:=.seq vs.toArray },if_pos rfl⟩)) (fun b u z=>?_) (fun b z=>?_) fun _=>hk
  ·by_cases hb:b=a
   ·exact .inr ⟨_,_,if_pos hb⟩
   ·exact .inl (if_neg hb)
  ·by_cases hb:b=a
   ·have z':=(if_pos hb).symm.trans z
    cases z'
    subst hb
    exact⟨ha,by rw[zA];exact hl,vs,_,rv,ha⟩
   ·have z':=(if_neg hb).symm.trans z
    cases z'
  ·by_cases hb:b=a
   ·exact hb
   ·exact absurd (if_neg hb) z
open PySem PySem.Spec PyProof.Rows
theorem walk_of{l:PySem.W.OpenLaw}{n k:Nat}{q:Program}{loose:List Str}{XP:(Str->Option Value)->Heap->Prop}{YP:World->Heap->Prop}{d:DefRec}{K:Params->PySem.W.Frag}{CX:World->CXT}{sp:World->Sp}{x:Str}
  (hn:l.most=some n) (hn2:n<=sizeLine) (hdf:d.params.defaults=[]) (hr:Room k callerA)
  (hY:∀ (w:World) (h:Heap),YP w h->(K w.params).In h)
  (F:∀ (w:World) (mg:Str->Option Value) (fa:Addr) (h:Heap),(K w.params).In h->h.Ns mainGlobals mg->mg d.name=some (.ref fa) ->
   ∃ fd:FuncData,(∀ (s:Shared) (u:Value),BindsTo s fd ⟨[u],[]⟩ [(x,u)]) /\
    ∀ base:Heap,(K w.params).In base->base.Ns mainGlobals mg->FnOk l.prog w (K w.params) mg base (CX w) k fa fd [x] (sp w))
  (hsp:∀ (w:World) (H:Hp) (a:Addr) (ns:List Int),ns.length<=n->Only H->SqL (K w.params) H a (ns.map V.int)->sp w [.ref a] H (fun v _=>v = .bl true) fun _ _ _=>False)
  (hCX:∀ (w:World) (H:Hp) (s:Shared) (e:Value) (s':Shared),CX w [] H s (fun _ _ _=>False) e s'->False) :
  PySem.W.WalkO q loose XP YP l.row.toRowW d [] (fun f vs=>PySem.call f vs):=by
 refine Att.attach_call hn hdf fun w s₀ s₁ mg mb fa o pm cd doc a vs ns G Y ho hd hcd hmg hobj hints hlen hg=>?_
 have KX:=hY w _ Y
 obtain⟨fd,hb,hF⟩:=F w mg fa _ KX G.T.g hmg
 exact law_call KX G.T.g G.T.b G.T.builtins G.T.nolimit hg hobj hints (zAC hlen hn2) hr hF hb (fun H hO hS=>hsp w H a ns hlen hO hS) fun H e s'=>hCX w H s₁ e s'
open PySem PySem.Spec PyProof.Rows
noncomputable def defArgs(s:Stmt):Arguments:=match s with
 | .FunctionDef _ a _ _ _ _ _ _ _ _=>a
 | _=>{ posonlyargs:=[],args:=[],vararg:=none,kwonlyargs:=[],kw_defaults:=[],kwarg:=none,defaults:=[] }
noncomputable def defBody(s:Stmt):List Stmt:=match s with
 | .FunctionDef _ _ b _ _ _ _ _ _ _=>b
 | _=>[]
noncomputable def defScope(s:Stmt):Scope:=match s with
 | .FunctionDef _ _ _ _ _ _ sc _ _ _=>sc
 | _=>{ kind:=.function,names:=[],isGenerator:=false,isCoroutine:=false }
noncomputable abbrev CX0:CXT:=fun _ _ _ _ _ _=>False
noncomputable abbrev E0:XK:=fun _ _ _=>False
theorem pass0{X:Cx}:Passes CX0 X E0:=fun _ _ _ _ _ _ _ h=>h.elim
structure Fun(K:PySem.W.Frag)(x qual:Str)(st:Stmt)(f:Addr)(fd:FuncData):Prop where
 ex:∃ (oc:Value) (od:Option Addr) (kV doc pm:Value) (an:Option Addr) (cdv ct:Value) (osl:Array (Option Value)),
  fd=PySem.W.fnOf x qual (defArgs st) (defBody st) (defScope st) .none kV doc pm an cdv ct/\K.lookup f=some ⟨oc,od,.func fd,osl⟩/\PySem.W.codeIn K cdv qual=true
 kp:PySem.W.keepIn K (.ref f)=true
section
variable{P:Program}{w:World}{K:PySem.W.Frag}{mg:Str->Option Value}{base:Heap}
theorem Fun.ok{x qual:Str}{st:Stmt}{f:Addr}{fd:FuncData}{N ps:List Str}{k:Nat}{sp:Sp}(F:Fun K x qual st f fd)(S:FnScope N ps (defScope st))(len:∀ vs H Q E,sp vs H Q E->vs.length=ps.length)
  (hbody:∀ (cdv:Value) (A:Around) (outer:List Env) (s:Shared) (H:Hp) (vs:List V) (Q:VK) (E:XK),Room k (A.deeper (envOfC qual (defScope st) s.heap.objs.size f cdv))->sp vs H Q E ->
   ∃ t,PSs (cxOf CX0 P w K mg base N qual (defScope st) f cdv A outer s H E).nox (defBody st) t/\t { nx:=fun _ H'=>Q .non H',rt:=Q } (start N vs) H):FnOk P w K mg base CX0 (k+1) f fd ps sp:=by
 obtain⟨oc,od,kV,doc,pm,an,cdv,ct,osl,rfl,lk,hcd⟩:=F.ex
 refine fn_of lk hcd S len fun A outer s H vs Q E hr hsp=>?_
 obtain⟨t,h,q⟩:=hbody cdv A outer s H vs Q E hr hsp
 exact⟨t,h.nox,q⟩
theorem Fun.binds{x qual:Str}{st:Stmt}{f:Addr}{fd:FuncData}{ps:List Str}(F:Fun K x qual st f fd)
  (h:∀ (kV doc pm:Value) (an:Option Addr) (cdv ct:Value) (us:List Value),us.length=ps.length->bindArgs (PySem.W.fnOf x qual (defArgs st) (defBody st) (defScope st) .none kV doc pm an cdv ct) ⟨us,[]⟩=pure (ps.zip us)):Binds K fd ps []:=by
 obtain⟨oc,od,kV,doc,pm,an,cdv,ct,osl,rfl,lk,hcd⟩:=F.ex
 exact .all (h kV doc pm an cdv ct)
theorem fun_mk{x qual:Str}{st:Stmt}{f:Addr}{oc:Value}{od an:Option Addr}{osl:Array (Option Value)}{kV doc pm cdv ct:Value}(l:K.lookup f=some ⟨oc,od,.func (PySem.W.fnOf x qual (defArgs st) (defBody st) (defScope st) .none kV doc pm an cdv ct),osl⟩)
  (c:PySem.W.codeIn K cdv qual=true) (k:PySem.W.keepIn K (.ref f)=true):Fun K x qual st f (PySem.W.fnOf x qual (defArgs st) (defBody st) (defScope st) .none kV doc pm an cdv ct):=⟨⟨oc,od,kV,doc,pm,an,cdv,ct,osl,rfl,l,c⟩,k⟩
end
theorem hu_of{A:Around}{k:Nat}(hr:Room k A):A.units+1<cLine:=Nat.lt_of_le_of_lt (Nat.add_le_add_left (by decide:1<=64) _) hr.units
section
variable{X:Cx}
theorem pv(i:Nat){x:Str}{pos:Pos}(hN:X.N[i]?=some x:=by rfl)(hv:Vis X.env.scope x:=by first | exact Or.inl rfl | exact Or.inr (Or.inl rfl) | exact Or.inr (Or.inr rfl))(hd:(x ==("__debug__":Str))=false:=by decide)
  (hcd:(x ==("__classdict__":Str))=false:=by decide):PE X (.Name x pos) (tVar i):=pe_var hN hv hd hcd
end
theorem iteF{A B:Prop}(h:B):if false=true then A else B:=by
 rw[if_neg zN]
 exact h
theorem iteT{A B:Prop}(h:A):if true=true then A else B:=by
 rw[if_pos rfl]
 exact h
theorem ite2{c A B:Prop}[Decidable c](h1:c->A)(h2:¬ c->B):if c then A else B:=by
 by_cases h:c
 ·rw[if_pos h]
  exact h1 h
 ·rw[if_neg h]
  exact h2 h
theorem iteNS{c A B:Prop}[Decidable c](hc:c)(h:B):if(!decide c)=true then A else B:=by
 rw[decide_eq_true hc]
 exact iteF h
noncomputable def Same(H H':Hp):Prop:=∀ b o,H b=some o->H' b=some o
theorem Same.refl(H:Hp):Same H H:=fun _ _ h=>h
theorem Same.trans{H H1 H2:Hp}(a:Same H H1)(b:Same H1 H2):Same H H2:=fun c o h=>b c o (a c o h)
theorem Same.free{H H':Hp}(e:Same H H'){l:Addr}(h:H' l=Option.none):H l=Option.none:=by
 cases q:H l with
 |none=>rfl
 |some o =>
  rw[e l o q]at h
  cases h
theorem Same.seq{K:PySem.W.Frag}{H H':Hp}{a:Addr}{xs:List V}(e:Same H H')(h:SqL K H a xs):SqL K H' a xs:=by
 rcases h with(h |⟨o,h⟩) | h
 ·exact .inl (.inl (e _ _ h))
 ·exact .inl (.inr ⟨o,e _ _ h⟩)
 ·exact .inr h
open PySem PySem.Spec PyProof.Rows
end L2
set_option maxHeartbeats 4000000
namespace L2
open PySem PySem.Spec PyProof.Rows
noncomputable def closCl(cells:List (Str×Addr)):List (Str×NameKind)->List (Str×Addr)->List (Str×Addr)
 |[],acc=>acc
 |(n,k) :: r,acc=>closCl cells r (if k == .free then(n,(cells.lookup n).getD 0) :: acc else acc)
theorem closureFor_cells{scope:Scope}{env:Env}(h:∀ x∈scope.names,x.2 = .free->∃ c,env.cells.lookup x.1=some c) :
  closureFor scope env=pure (closCl env.cells scope.names []):=by
 have gen:∀ (l:List (Str×NameKind)) (acc:List (Str×Addr)),(∀ x∈l,x.2 = .free->∃ c,env.cells.lookup x.1=some c) ->
   (forIn l acc fun(x:Str×NameKind) (cs:List (Str×Addr))=>(do
    if x.2 == .free then
     let c <- cellOf env x.1
     pure (ForInStep.yield ((x.1,c) :: cs))
    else pure (ForInStep.yield cs):Sem (ForInStep (List (Str×Addr)))))=pure (closCl env.cells l acc):=by
  intro l
  induction l with
  |nil=>intro acc _;rfl
  |cons x r ih =>
   intro acc hx
   obtain⟨n,k⟩:=x
   rw[List.forIn_cons]
   have hr:=fun y hy=>hx y (zQ _ hy)
   by_cases hk:k = .free
   ·subst hk
    obtain⟨c,hc⟩:=hx (n,.free) zS rfl
    have e1:cellOf env n=pure c:=by unfold cellOf;rw[hc]
    simp only[e1,beq_self_eq_true,if_true,pure_bind]
    rw[ih _ hr]
    have hc':env.cells.lookup n=some c:=hc
    simp[closCl,hc']
   ·have hb:(k == NameKind.free)=false:=by simpa using hk
    simp only[hb,zAY,if_false,pure_bind]
    rw[ih _ hr]
    simp[closCl,hb]
 have g:=gen scope.names [] h
 unfold closureFor
 simp only[bind_pure]
 exact g
theorem closCl_sound{cells:List (Str×Addr)}:∀ (l:List (Str×NameKind)) (acc:List (Str×Addr)),(∀ x∈l,x.2 = .free->∃ c,cells.lookup x.1=some c) ->
  (∀ y c,acc.lookup y=some c->cells.lookup y=some c)->∀ y c,(closCl cells l acc).lookup y=some c->cells.lookup y=some c
 |[],_,_,ha,y,c,e=>ha y c e
 |(n,k) :: r,acc,h,ha,y,c,e=>by
  refine closCl_sound r _ (fun x hx=>h x (zQ _ hx)) ?_ y c e
  intro y c e
  by_cases hk:k = .free
  ·subst hk
   obtain⟨c',hc⟩:=h (n,.free) zS rfl
   have hc:cells.lookup n=some c':=hc
   simp only[beq_self_eq_true,if_true,zAI]at e
   by_cases hy:y == n
   ·have:y=n:=by simpa using hy
    subst this
    simp[hc]at e
    rw[hc,e]
   ·simp only[hy]at e
    exact ha y c e
  ·have hb:(k == NameKind.free)=false:=by simpa using hk
   rw[hb,if_neg (by simp)]at e
   exact ha y c e
theorem closCl_acc{cells:List (Str×Addr)}:∀ (l:List (Str×NameKind)) (acc:List (Str×Addr)) (y:Str),(∃ c,acc.lookup y=some c)->∃ c,(closCl cells l acc).lookup y=some c
 |[],_,_,h=>h
 |(n,k) :: r,acc,y,h=>by
  refine closCl_acc r _ y ?_
  by_cases hk:(k == NameKind.free)=true
  ·rw[if_pos hk,zAI]
   by_cases hy:(y == n)=true
   ·rw[hy];exact⟨_,rfl⟩
   ·rw[zAJ.mpr hy];exact h
  ·rw[if_neg hk];exact h
theorem closCl_has{cells:List (Str×Addr)}:∀ (l:List (Str×NameKind)) (acc:List (Str×Addr)) (y:Str),(y,NameKind.free)∈l->∃ c,(closCl cells l acc).lookup y=some c
 |[],_,_,h=>nomatch h
 |(n,k) :: r,acc,y,h=>by
  rcases zT.mp h with e | h
  ·have e1:n=y:=(congrArg Prod.fst e).symm
   have e2:k=NameKind.free:=(congrArg Prod.snd e).symm
   subst e1 e2
   refine closCl_acc r _ n ?_
   rw[if_pos (by rfl),zAI,beq_self_eq_true]
   exact⟨_,rfl⟩
  ·exact closCl_has r _ y h
theorem relabel_mem{scope:Scope}{env:Env}:∀ {l:List (Str×NameKind)}{x:Str}{k':NameKind},
  (l.map fun(n,k)=>if(k == NameKind.free && env.scope.kind == .function && env.kindOf n == some .cell)then(n,NameKind.cell)else(n,k)).lookup x=some k' ->
  ∃ k,(x,k)∈l/\(k=k'\/(k = .free/\k' = .cell))
 |[],_,_,h=>by simp at h
 |(n,k) :: r,x,k',h=>by
  rw[zAB]at h
  dsimp only at h
  by_cases hc:(k == NameKind.free && env.scope.kind == .function && env.kindOf n == some .cell)=true
  ·simp only[hc,if_true,zAI]at h
   by_cases hx:(x == n)=true
   ·rw[hx]at h
    have:x=n:=by simpa using hx
    subst this
    have hk:k = .free:=by
     rw[zBC,zBC]at hc
     simpa using hc.1.1
    exact⟨k,zS,.inr ⟨hk,by cases h;rfl⟩⟩
   ·rw[zAJ.mpr hx]at h
    obtain⟨k1,h1,h2⟩:=relabel_mem (scope:=scope) h
    exact⟨k1,zQ _ h1,h2⟩
  ·rw[if_neg hc,zAI]at h
   by_cases hx:(x == n)=true
   ·rw[hx]at h
    have:x=n:=by simpa using hx
    subst this
    exact⟨k,zS,.inl (by cases h;rfl)⟩
   ·rw[zAJ.mpr hx]at h
    obtain⟨k1,h1,h2⟩:=relabel_mem (scope:=scope) h
    exact⟨k1,zQ _ h1,h2⟩
theorem relabel_free{env:Env}:∀ {l:List (Str×NameKind)}{x:Str},l.lookup x=some .free ->
  (l.map fun(n,k)=>if(k == NameKind.free && env.scope.kind == .function && env.kindOf n == some .cell)then(n,NameKind.cell)else(n,k)).lookup x=some .cell \/
  (l.map fun(n,k)=>if(k == NameKind.free && env.scope.kind == .function && env.kindOf n == some .cell)then(n,NameKind.cell)else(n,k)).lookup x=some .free
 |[],_,h=>by simp at h
 |(n,k) :: r,x,h=>by
  rw[zAB]
  dsimp only
  rw[zAI]at h
  by_cases hx:(x == n)=true
  ·rw[hx]at h
   have hk:k = .free:=by cases h;rfl
   by_cases hc:(k == NameKind.free && env.scope.kind == .function && env.kindOf n == some .cell)=true
   ·left;rw[if_pos hc,zAI,hx]
   ·right;rw[if_neg hc,zAI,hx,hk]
  ·rw[zAJ.mpr hx]at h
   have ih:=relabel_free (env:=env) h
   by_cases hc:(k == NameKind.free && env.scope.kind == .function && env.kindOf n == some .cell)=true
   ·rw[if_pos hc,zAI,zAJ.mpr hx];exact ih
   ·rw[if_neg hc,zAI,zAJ.mpr hx];exact ih
theorem lookup_mem{α:Type}[BEq α][LawfulBEq α]{β:Type}:∀ {l:List (α×β)}{x:α}{k:β},l.lookup x=some k->(x,k)∈l
 |[],_,_,h=>by simp at h
 |(n,k') :: r,x,k,h=>by
  rw[zAI]at h
  by_cases hx:(x == n)=true
  ·rw[hx]at h
   have:x=n:=by simpa using hx
   subst this
   cases h
   exact zS
  ·rw[zAJ.mpr hx]at h
   exact zQ _ (lookup_mem h)
noncomputable def cxIn(X:Cx)(N':List Str)(scope:Scope)(C:Addr)(s2:Shared)(H2:Hp)(fp:List Addr):Cx :=
 { X with N:=N',s₀:=s2,H₀:=H2,env:=compEnvC scope (closCl X.env.cells scope.names []) C X.env,outer:=X.stack,ex:=fp,fn:=fun _=>false,xe:=fun _ _=>False }
noncomputable def capt(cap:List (Option Nat))(σ:St):St:=cap.map fun o=>o.bind fun j=>(σ[j]?).join
structure CompScope(N':List Str)(cap:List (Option Nat))(N:List Str)(sc0 scope:Scope):Prop where
 kind:scope.kind = .function
 nocell:∀ x∈scope.names,x.2≠.cell
 loc:∀ x∈scope.names,x.2 = .local->scope.names.lookup x.1=some .local
 fre:∀ x∈scope.names,x.2 = .free->sc0.names.lookup x.1=some .cell\/sc0.names.lookup x.1=some .free
 len:cap.length=N'.length
 cap:∀ j∈List.range cap.length,match cap[j]? with
  |some (some i)=>match N'[j]? with
   |some x=>N[i]?=some x/\scope.names.lookup x=some .free
   |none=>False
  | _=>True
section
variable{X:Cx}{N':List Str}{cap:List (Option Nat)}{scope:Scope}{C:Addr}{s2 s4:Shared}{H2:Hp}{fp:List Addr}{pins:List (Addr×Obj)}{σ:St}
theorem CompScope.clos(S:CompScope N' cap X.N X.env.scope scope)(I:Inv X pins σ H2 s2):∀ x∈scope.names,x.2 = .free->∃ c,X.env.cells.lookup x.1=some c :=
 fun x hx hf=>I.ok.has x.1 (S.fre x hx hf)
theorem cxIn_ok(S:CompScope N' cap X.N X.env.scope scope)(I:Inv X pins σ H2 s2)(hC:s2.heap.objs.size<=C)(hfp:∀ b∈fp,FpOk X pins H2 b)(hfo:∀ b∈fp,∃ o,s2.heap.get? b=some o):(cxIn X N' scope C s2 H2 fp).Ok where
 mod:=I.ok.mod
 kind:=S.kind
 glob:=I.ok.glob
 blt:=I.ok.blt
 above:=hC
 inj:=fun x y c e1 e2=>I.ok.inj x y c (closCl_sound _ _ (S.clos I) (fun y c e=>by simp at e) x c e1) (closCl_sound _ _ (S.clos I) (fun y c e=>by simp at e) y c e2)
 has:=fun x h=>by
  have hm:(x,NameKind.free)∈scope.names:=by
   rcases h with h | h
   ·obtain⟨k,hk,e |⟨e,_⟩⟩:=relabel_mem (scope:=scope) (l:=scope.names) h
    ·subst e;exact absurd rfl (S.nocell _ hk)
    ·subst e;exact hk
   ·obtain⟨k,hk,e |⟨_,e⟩⟩:=relabel_mem (scope:=scope) (l:=scope.names) h
    ·subst e;exact hk
    ·cases e
  exact closCl_has _ _ x hm
 cab:=fun _ _ h _=>nomatch h
 hd:=I.ok.hd
 frames:=I.ok.frames
 stk:=.inl rfl
 exf:=fun b hb=>⟨fun z=>by
   obtain⟨o,ho⟩:=hfo b hb
   have h1:=zY (zP ho) hC
   have z:b=C:=z
   rw[z]at h1
   exact zAE _ h1,fun x c e=>(hfp b hb).2.2.2.2.1 x c (closCl_sound _ _ (S.clos I) (fun y c e=>by simp at e) x c e)⟩
 bs:=I.bs
 bsz:=zAC I.ok.bsz I.sz
 noex:=fun b o e hb=>by
  rcases(hfp b hb).2.2.2.1 with z | z
  ·exact I.ok.noex b o e z
  ·exact absurd (zY (zP e) (zAC I.ok.bsz z)) (zAE _)
 exfs:=fun b hb z=>by
  rcases zT.mp (I.stkSub b z)with e | e
  ·exact(hfp b hb).2.1 e
  ·exact(hfp b hb).2.2.1 e
 funs:=I.stack
 frf:=I.stkFree
theorem cxIn_inv(S:CompScope N' cap X.N X.env.scope scope)(I:Inv X pins σ H2 s2)(hC:s2.heap.objs.size<=C)(hfp:∀ b∈fp,FpOk X pins H2 b)(hfo:∀ b∈fp,∃ o,s2.heap.get? b=some o)
  (ho:s4.os=s2.os) (hg:s4.gens=s2.gens) (k:∀ b o,s2.heap.get? b=some o->s4.heap.get? b=some o) {m:Str->Option Value} (hn:s4.heap.Ns C m) {D:Addr}{oD:Obj}
  (hD:s4.heap.get? D=some oD) (hDs:s2.heap.objs.size<=D) (hDC:D≠C) (hDc:∀ v,oD.data≠.cell v) :
  Inv (cxIn X N' scope C s2 H2 fp) (pins++[(D,oD)]) (capt cap σ) H2 s4 where
 ok:=cxIn_ok S I hC hfp hfo
 os:=ho
 bare:=by rw[hg];exact I.bare
 base:=Un.kept k
 loc:=by
  refine⟨m,hn,fun j x v e1 e2 _=>?_⟩
  have hj:j<cap.length:=by rw[S.len];exact(zE.mp e1).1
  have e1:N'[j]?=some x:=e1
  have hc:=S.cap j (zAW.mpr hj)
  unfold capt at e2
  rw[zAD]at e2
  cases hq:cap[j]? with
  |none=>rw[hq]at e2;cases e2
  |some o =>
   rw[hq]at e2 hc
   cases o with
   |none=>cases e2
   |some i =>
    simp only[e1]at hc
    obtain⟨hN,hfr⟩:=hc
    have e3:σ[i]?=some (some v):=by
     have e2:(σ[i]?).join=some v:=Option.some.inj e2
     cases hs:σ[i]? with
     |none=>rw[hs]at e2;cases e2
     |some w=>rw[hs]at e2;have e2:w=some v:=e2;rw[e2]
    have hm:=lookup_mem hfr
    have hk:=S.fre _ hm rfl
    obtain⟨m0,hn0,hl0⟩:=I.loc
    obtain⟨u,r,l⟩:=hl0 i x v hN e3 (.inr hk)
    refine⟨u,r,?_⟩
    rcases l with⟨l,_⟩ |⟨_,c,e,z⟩
    ·rcases hk with hk | hk
     ·rw[show X.env.kindOf x=some .cell from hk]at l;cases l
     ·rw[show X.env.kindOf x=some .free from hk]at l;cases l
    ·obtain⟨c',hc'⟩:=closCl_has (cells:=X.env.cells) scope.names [] x hm
     have hs:=closCl_sound scope.names [] (S.clos I) (fun y c e=>by simp at e) x c' hc'
     rw[e]at hs
     cases hs
     refine .inr ⟨relabel_free hfr,c,hc',?_⟩
     obtain⟨oc,ho',hd'⟩:=z
     exact⟨oc,k _ _ ho',hd'⟩
 cell:=fun x c e=>by
  obtain⟨v,oc,ho',hd'⟩:=I.cell x c (closCl_sound scope.names [] (S.clos I) (fun y c e=>by simp at e) x c e)
  exact⟨v,oc,k _ _ ho',hd'⟩
 free:=I.hok.fresh hC
 freeC:=fun x c e=>I.freeC x c (closCl_sound scope.names [] (S.clos I) (fun y c e=>by simp at e) x c e)
 pin:=fun p hp=>by
  have hp:p∈X.pn++(pins++[(D,oD)]):=hp
  have cne:∀ b o,s2.heap.get? b=some o->b≠C:=fun b o e z=>by
   have h1:=zY (zP e) hC
   rw[z]at h1
   exact zAE _ h1
  rw[<- List.append_assoc]at hp
  rcases zO.mp hp with hp | hp
  ·obtain⟨e,n,ne,nf,d⟩:=I.pin p hp
   exact⟨k _ _ e,n,cne _ _ e,fun z=>by
    rcases zT.mp (I.stkSub p.1 z)with e | e
    ·exact ne e
    ·exact nf e,d⟩
  ·have e:p=(D,oD):=by simpa using hp
   subst e
   refine⟨hD,I.hok.fresh hDs,hDC,fun z=>?_,hDc⟩
   rcases zT.mp (I.stkSub D z)with e | e
   ·have h1:=zY I.lt hDs
    rw[e]at h1
    exact zAE _ h1
   ·exact I.nofs hDs e
 hok:=I.hok.kept k
 len:=by unfold capt;rw[zA];exact S.len
end
noncomputable def PF(X:Cx)(ifs:List Expr)(t:TT):Prop :=
 ∀ (pins:List (Addr×Obj)) (s:Shared) (σ:St) (H:Hp) (Q:Bool->Hp->Prop),Inv X pins σ H s->t σ H Q ->
  wpAny (model X.prog X.w) X.A (forIn ifs true fun c r=>if r=true then do let ok <- isTrue c X.env (eval c X.env);pure (ForInStep.yield ok)else pure (ForInStep.yield r)) (TP X pins σ Q) X.xe s
noncomputable def tTru:TT:=fun _ H Q=>Q true H
theorem pf_nil{X:Cx}:PF X [] tTru:=fun _ _ _ H _ I h=>wpAny_tests_nil ⟨H,I,h⟩
theorem pf_one{X:Cx}{c:Expr}{t:TT}(h:PT X c t):PF X [c] t:=fun pins s σ H Q I q=>wpAny_tests_one (h pins s σ H Q I q)
section
variable{prog:Program}{w:World}{A:Around}{E:Value->Shared->Prop}{R:Result->Shared->Prop}{s:Shared}
theorem codeAny_compLoop_any{elt target iter:Expr}{ifs:List Expr}{scope:Scope}{pos:Pos}{it acc:Value}{env:Env}(I:Nat->Shared->Prop)
  (turn:∀ n s,I n s->wpAny (model prog w) A (pyNext it) (fun r s₁=>match r with
   |none=>R (.ok .next) s₁
   |some v=>wpAny (model prog w) A (letOwnedTupleGo target it v) (fun _ s₁'=>wpAny (model prog w) A (assign target env v) (fun _ s₂ =>
     wpAny (model prog w) A (forIn ifs true fun c r=>if r=true then do let ok <- isTrue c env (eval c env);pure (ForInStep.yield ok)else pure (ForInStep.yield r)) (fun ok s₃ =>
      if ok=true then wpAny (model prog w) A (eval elt env) (fun x s₄ =>
       wpAny (model prog w) A (call (.builtin "list.append") [acc,x]) (fun _ s₅=>∃ m,m<n/\I m s₅) (fun _ _=>False) s₄) (fun _ _=>False) s₃
      else ∃ m,m<n/\I m s₃) (fun _ _=>False) s₂) (fun _ _=>False) s₁') (fun _ _=>False) s₁) (fun _ _=>False) s)
  (n:Nat) (h:I n s) :
  codeAny (model prog w) A (.compLoop (.ListComp elt [⟨target,iter,ifs,0⟩] scope pos) 0 it acc env) R s:=by
 refine codeAny_loop rfl I (fun n s hI=>?_) n h
 show wpAny _ A ((compTurn (.ListComp elt [⟨target,iter,ifs,0⟩] scope pos) 0 it acc env).onRaise (fun x=>do noteFrame x env;theTreesLotGoes x)) _ _ s
 refine wpAny_noted ?_
 rw[compTurn_list]
 refine zB (wpAny_standAt (zB (wpAny_mono (turn n s hI) (fun r s₁ h₁=>?_) fun _ _ h'=>h'.elim)))
 cases r with
 |none=>exact zH h₁
 |some v =>
  refine zB (wpAny_mono h₁ (fun _ s₁' h₁'=>?_) fun _ _ h'=>h'.elim)
  refine zB (wpAny_mono h₁' (fun _ s₂ h₂=>zB (wpAny_mono h₂ (fun ok s₃ h₃=>?_) fun _ _ h'=>h'.elim)) fun _ _ h'=>h'.elim)
  cases ok with
  |false=>exact zH ⟨rfl,h₃⟩
  |true =>
   exact zB (zB (wpAny_mono h₃ (fun x s₄ h₄=>zB (wpAny_mono h₄ (fun _ s₅ h₅=>zH (zH ⟨rfl,h₅⟩)) fun _ _ h'=>h'.elim)) fun _ _ h'=>h'.elim))
end
noncomputable def Kp:St->St->Prop
 |[],[]=>True
 |none :: r,_ :: r'=>Kp r r'
 |some v :: r,o :: r'=>o=some v/\Kp r r'
 | _,_=>False
theorem Kp.length:∀ {a b:St},Kp a b->a.length=b.length
 |[],[],_=>rfl
 |none :: r,_ :: r',h=>congrArg (· + 1) (Kp.length (a:=r) (b:=r') h)
 |some v :: r,o :: r',h=>congrArg (· + 1) (Kp.length (a:=r) (b:=r') h.2)
 |[],_ :: _,h=>h.elim
 |none :: _,[],h=>h.elim
 |some _ :: _,[],h=>h.elim
theorem Kp.get:∀ {a b:St},Kp a b->∀ (i:Nat) (v:V),a[i]?=some (some v)->b[i]?=some (some v)
 |[],[],_,i,v,e=>e
 |none :: r,_ :: r',h,0,v,e=>by simp at e
 |none :: r,_ :: r',h,i+1,v,e=>by simpa using Kp.get (a:=r) (b:=r') h i v (by simpa using e)
 |some w :: r,o :: r',h,0,v,e=>by rw[h.1];simpa using e
 |some w :: r,o :: r',h,i+1,v,e=>by simpa using Kp.get (a:=r) (b:=r') h.2 i v (by simpa using e)
 |[],_ :: _,h,_,_,_=>h.elim
 |none :: _,[],h,_,_,_=>h.elim
 |some _ :: _,[],h,_,_,_=>h.elim
noncomputable def compTurns(J:It)(cap:List (Option Nat))(σ:St)(H1:Hp)(Q:VK)(g:TG)(tc:TT)(te:TE):Prop:=∃ (n:Nat) (P:Nat->List V->Hp->Prop),n<=sizeLine/\P 0 [] H1 /\
 ∀ i ys H,ys.length<=i->i<=n->P i ys H->(J.stop i H/\∀ D,H D=none->Q (.ref D) (upd H D (.lst ys))) \/
  (i<n/\J.go i H/\∀ x H',J.yld i H x H'->g x (capt cap σ) H' fun σ2 H2=>Kp (capt cap σ) σ2/\tc σ2 H2 fun b H3=>if b=true then te σ2 H3 fun y H4=>P (i+1) (ys++[y]) H4 else P (i+1) ys H3)
noncomputable def tComp(cap:List (Option Nat))(wi:TI)(g:TG)(tc:TT)(te:TE):TE:=fun σ H Q=>wi σ H fun J H1=>compTurns J cap σ H1 Q g tc te
noncomputable def CompEnd(X:Cx)(pins:List (Addr×Obj))(σ:St)(Q:VK)(acc:Value)(C:Addr)(r:Result)(s':Shared):Prop :=
 match r with
 | .ok _=>∃ v H',Inv X pins σ H' s'/\RelV v acc/\Q v H'/\(∃ m,s'.heap.Ns C m)/\FpOk X pins H' C
 | .error _=>False
section
variable{X:Cx}{elt tg iter:Expr}{ifs:List Expr}{scope:Scope}{pos:Pos}{N':List Str}{cap:List (Option Nat)}{wi:TI}{g:TG}{tc:TT}{te:TE}
theorem comp_run(hc:X.calm=true)(S:CompScope N' cap X.N X.env.scope scope)(hi:PI X tg iter wi)(hg:∀ C s H fp,PG (cxIn X N' scope C s H fp) tg g)
  (ht:∀ C s H fp,PF (cxIn X N' scope C s H fp) ifs tc) (he:∀ C s H fp,PE (cxIn X N' scope C s H fp) elt te)
  {pins:List (Addr×Obj)}{s:Shared}{σ:St}{H:Hp}{Q:VK} (I:Inv X pins σ H s) (h:tComp cap wi g tc te σ H Q) :
  wpAny (model X.prog X.w) X.A (eval iter X.env) (fun x s₁=>wpAny (model X.prog X.w) X.A (pyIter x) (fun it s₂=>wpAny (model X.prog X.w) X.A (newList []) (fun acc s₃ =>
   wpAny (model X.prog X.w) X.A (newFunctionEnv scope X.env.globals (closCl X.env.cells scope.names []) [] X.env.qual none .none (some X.env)) (fun cenv s₄ =>
    codeAny (model X.prog X.w) X.A (.compStart (.ListComp elt [⟨tg,iter,ifs,0⟩] scope pos) 0 it acc { cenv with scope:=relabel scope X.env }) (CompEnd X pins σ Q acc cenv.locals) s₄) X.xe s₃) X.xe s₂) X.xe s₁) X.xe s:=by
 refine thn (hi pins s σ H _ I h) fun v s1 h1=>thn h1 fun itv s2 h2=>?_
 obtain⟨it,fp,tn,J,H2,e,I2,T,st2,f2,n,P,hn,p0,turn⟩:=h2
 subst e
 refine wpAny_newObj_type (wpAny_newFunctionEnv S.nocell (by intro y hy;simp at hy) (fun h₁ hns₁ hsb₁=>?_) S.kind)
 dsimp only at hns₁ hsb₁ ⊢
 generalize hHp:s2.heap.push { cls:=.type "list",dict:=none,data:=.seq ([]:List Value).toArray } = Hq at hns₁ hsb₁ ⊢
 have hC:Hq.objs.size=s2.heap.objs.size+1:=by rw[<- hHp,Heap.size_push]
 have hDC:s2.heap.objs.size≠Hq.objs.size:=by rw[hC];exact zZ (zBH _)
 have hCle:s2.heap.objs.size<=Hq.objs.size:=by rw[hC];exact Nat.le_succ _
 have old:∀ b o,s2.heap.get? b=some o->h₁.get? b=some o:=fun b o e =>
  hsb₁.extBut b o (by rw[hC];exact zZ (Nat.lt_succ_of_lt (zP e))) (zC _ (hHp▸zC _ e))
 have hacc:h₁.PlainList s2.heap.objs.size #[]:=⟨_,hsb₁.extBut _ _ hDC (zC _ (hHp▸zW _ rfl))⟩
 have hfo:∀ b∈fp,∃ o,s2.heap.get? b=some o:=fun b hb=>let ⟨o,e,_⟩:=T.obj _ _ st2 b hb;⟨o,e⟩
 have st4:tn 0 h₁:=T.keep _ _ _ st2 fun b _ o e=>old b o e
 let D:Addr:=s2.heap.objs.size
 let C:Addr:=Hq.objs.size
 let Y:Cx:=cxIn X N' scope C s2 H2 fp
 have hDfp:D∉fp:=fun hb=>by
  obtain⟨o,e⟩:=hfo D hb
  exact zAE _ (zP e)
 -- the iterator's objects,seen from within
 have stat:∀ {H':Hp}{oD:Obj},(∀ b∈fp,H' b=none)->∀ b∈fp,FpOk Y (pins++[(D,oD)]) H' b:=fun {H' oD} hn b hb=>by
  obtain⟨f0,f1,fx,f3,f4,f5⟩:=f2 b hb
  obtain⟨o,e⟩:=hfo b hb
  refine⟨hn b hb,fun z=>?_,fun z=>?_,.inl hb,fun x c e=>f4 x c (closCl_sound _ _ (S.clos I2) (fun y c e=>by simp at e) x c e),fun p hp=>?_⟩
  ·have h1:=zY (zP e) hCle
   have z:b=Hq.objs.size:=z
   rw[z]at h1
   exact zAE _ h1
  ·rcases zT.mp (I2.stkSub b z)with e | e
   ·exact f1 e
   ·exact fx e
  ·have hp:p∈X.pn++(pins++[(D,oD)]):=hp
   rw[<- List.append_assoc]at hp
   rcases zO.mp hp with hp | hp
   ·exact f5 p hp
   ·have q:p=(D,oD):=by simpa using hp
    subst q
    exact fun z=>hDfp (by rw[show D=b from z];exact hb)
 have loop:∀ s₃:Shared,s₃ = { s2 with heap:=h₁,toks:=s2.toks+([]:List (Str×Value)).length } ->
   codeAny (model X.prog X.w) X.A (.compLoop (.ListComp elt [⟨tg,iter,ifs,0⟩] scope pos) 0 (.ref it) (.ref s2.heap.objs.size) (compEnvC scope (closCl X.env.cells scope.names []) Hq.objs.size X.env))
    (CompEnd X pins σ Q (.ref s2.heap.objs.size) Hq.objs.size) s₃:=by
  rintro s₃ rfl
  have cellD:∀ x c,Y.env.cells.lookup x=some c->c≠D:=fun x c e z=>by
   obtain⟨v,q⟩:=I2.cell x c (closCl_sound _ _ (S.clos I2) (fun y c e=>by simp at e) x c e)
   have h1:=q.lt
   rw[show c=s2.heap.objs.size from z]at h1
   exact zAE _ h1
  have pinD:∀ p∈X.pn++pins,p.1≠D:=fun p hp z=>by
   have h1:=zP (I2.pin p hp).1
   rw[show p.1=s2.heap.objs.size from z]at h1
   exact zAE _ h1
  have inD:∀ {pl:List (Addr×Obj)}{oD:Obj},(D,oD)∈Y.pn++((pins++[(D,oD)])++pl):=fun {pl oD}=>zM _ (zV _ (zM _ (by simp)))
  have inF:∀ {pl:List (Addr×Obj)}{oD:Obj}{p:Addr×Obj},p∈pl->p∈Y.pn++((pins++[(D,oD)])++pl):=fun {pl oD p} hp=>zM _ (zM _ hp)
  refine codeAny_compLoop_any (fun m s'=>∃ i ys H' its ep,m=n-i/\i<=n/\ys.length<=i/\Vals ys its/\Inv Y (pins++[(D,{ cls:=.type "list",data:=.seq its.toArray ep })]) (capt cap σ) H' s'/\tn i s'.heap/\(∀ b∈fp,H' b=none)/\P i ys H') ?_ n ?_
  ·rintro m s3 ⟨i,ys,H3,its,ep,rfl,hin,hyl,rv,I3,st3,fr3,p3⟩
   rcases turn i ys H3 hyl hin p3 with⟨stop,q⟩ |⟨hlt,go,step⟩
   ·refine thn (T.done Y rfl rfl rfl hc i _ s3 _ H3 (fun _ _=>False) I3 (stat fr3) st3 stop) fun r s4 ⟨hr,I4⟩=>?_
    subst hr
    obtain⟨eD,nD,_⟩:=I4.pin (D,{ cls:=.type "list",data:=.seq its.toArray ep }) (zM _ (zM _ (by simp)))
    have nD:H3 D=none:=nD
    have okn:ObjOk X.prog X.w (upd H3 D (.lst ys)) s4.heap D (.lst ys):=⟨zAC hyl (zAC hin hn),its,ep,rv,eD⟩
    have hok:HOk X.prog X.w (upd H3 D (.lst ys)) s4.heap:=fun b u e=>by
     by_cases hb:b=D
     ·subst hb;rw[upd_same]at e;cases e;exact okn
     ·rw[upd_ne hb]at e
      exact(I4.hok b u e).stay (fun c v _ q=>q) (fun c q=>by rw[upd_ne (ne_of_none q nD)];exact q) fun c xs q=>by rw[upd_ne (ne_of_none q nD)];exact q
    have B:=I4.base
    have u:Un (frs X.stack) fp H2 (upd H3 D (.lst ys)) s2.heap s4.heap :=
     ⟨B.keep,B.slot,fun b o e n hx=>by rw[upd_ne (zZ (zP e))];exact B.free b o e n hx,B.there,fun b xs e=>by rw[upd_ne (ne_of_none (B.tups b xs e) nD)];exact B.tups b xs e,
      fun b o xs e=>by rw[upd_ne (ne_of_none (B.frzs b o xs e) nD)];exact B.frzs b o xs e,fun b ps e=>by
       obtain⟨more,z⟩:=B.tbls b ps e
       exact⟨more,by rw[upd_ne (ne_of_none z nD)];exact z⟩⟩
    have IX:Inv X pins σ (upd H3 D (.lst ys)) s4:=I2.call' (ch:=fp) I4.os u hok I4.bare fun b hb=>by
     obtain⟨f0,f1,fx,f3,f4,f5⟩:=f2 b hb
     exact⟨f3,f1,f4,f5⟩
    have nC:(upd H3 D (.lst ys)) Hq.objs.size=none:=by rw[upd_ne (Ne.symm hDC)];exact I4.free
    obtain⟨m',hm',_⟩:=I4.loc
    exact⟨.ref D,_,IX,rfl,q D nD,⟨m',hm'⟩,I2.fpOk hCle nC⟩
   ·refine thn (T.item Y rfl rfl rfl hc i _ s3 _ H3 (fun _ _=>False) I3 (stat fr3) st3 go) fun r s4 ⟨u,hr,h4⟩=>?_
    subst hr
    refine thn h4 fun _ s5 ⟨x,H5,I5,r5,y5,st5,fr5⟩=>?_
    have I5':=I5.pinned (stat fr5) (T.obj _ _ st5)
    refine thn (hg C s2 H2 fp _ s5 _ H5 x u _ I5' r5 (step x H5 y5)) fun _ s6 ⟨σ6,H6,I6,kp,q6⟩=>?_
    refine thn (ht C s2 H2 fp _ s6 σ6 H6 _ I6 q6) fun b s7 ⟨H7,I7,q7⟩=>?_
    cases b with
    |false =>
     rw[if_neg zN]at q7 ⊢
     refine⟨n-(i+1),zBK n i hlt,i+1,ys,H7,its,ep,rfl,hlt,zBL hyl,rv,I7.unpinned.weak kp.length kp.get,?_,fun b hb=>?_,q7⟩
     ·exact T.keep _ _ _ st5 fun b hb o e=>(I7.pin (b,o) (inF (mem_pinsAt hb e))).1
     ·obtain⟨o,e,d⟩:=T.obj _ _ st5 b hb
      exact(I7.pin (b,o) (inF (mem_pinsAt hb e))).2.1
    |true =>
     rw[if_pos rfl]at q7 ⊢
     refine thn (he C s2 H2 fp _ s7 σ6 H7 _ I7 q7) fun yv s8 ⟨y,H8,I8,r8,q8⟩=>?_
     obtain⟨eD,nD,_⟩:=I8.pin (D,{ cls:=.type "list",data:=.seq its.toArray ep }) inD
     have hsz:its.toArray.size<=sizeLine:=by
      rw[zG,<- rv.length]
      exact zAC hyl (zAC hin hn)
     refine wpAny_list_append_plain (items:=its.toArray) ⟨ep,eD⟩ (fun h9 pl9 sb9=>?_) hsz
     obtain⟨ep',e9⟩:=pl9
     have e9:h9.get? D=some { cls:=.type "list",data:=.seq (its++[yv]).toArray ep' }:=by rw[e9];simp
     have Ia:Inv Y pins σ6 H8 s8:=I8.pins_of fun p hp=>I8.pin p (zM _ (zV _ (zV _ hp)))
     have Ib:Inv Y pins σ6 H8 { s8 with heap:=h9 }:=Ia.turned (it:=D) (t':=s8.toks) (fun b o hb e=>(sb9.2 b hb).trans e) nD hDC (.inr (zI _)) cellD pinD
     have Ic:Inv Y (pins++[(D,{ cls:=.type "list",data:=.seq (its++[yv]).toArray ep' })]) σ6 H8 { s8 with heap:=h9 }:=Ib.pins_of fun p hp=>by
      rcases zO.mp hp with hp | hp
      ·exact Ib.pin p (zM _ hp)
      ·have q:p=(D,{ cls:=.type "list",data:=.seq (its++[yv]).toArray ep' }):=by simpa using hp
       subst q
       obtain⟨_,_,z1,z2,_⟩:=I8.pin (D,{ cls:=.type "list",data:=.seq its.toArray ep }) inD
       exact⟨e9,nD,z1,z2,fun v z=>by cases z⟩
     refine⟨n-(i+1),zBK n i hlt,i+1,ys++[y],H8,its++[yv],ep',rfl,hlt,by simp;omega,Vals.append rv (.cons r8 .nil),Ic.weak kp.length kp.get,?_,fun b hb=>?_,q8⟩
     ·exact T.keep _ _ _ st5 fun b hb o e=>sb9.extBut b o (fun z=>hDfp (by rw[show D=b from Eq.symm z];exact hb)) (I8.pin (b,o) (inF (mem_pinsAt hb e))).1
     ·obtain⟨o,e,d⟩:=T.obj _ _ st5 b hb
      exact(I8.pin (b,o) (inF (mem_pinsAt hb e))).2.1
  ·obtain⟨ep,e⟩:=hacc
   refine⟨0,[],H2,[],ep,rfl,zAQ _,zI _,.nil,?_,st4,fun b hb=>(f2 b hb).1,p0⟩
   exact cxIn_inv (s4:={ s2 with heap:=h₁,toks:=s2.toks+([]:List (Str×Value)).length }) S I2 hCle f2 hfo rfl rfl old hns₁ e (zI _) hDC fun v z=>by cases z
 exact codeAny_compStart_list (loop _ rfl) (T.self X.A 0 _ _ _ st4 (loop _ rfl))
theorem pe_comp(hc:X.calm=true)(S:CompScope N' cap X.N X.env.scope scope)(hi:PI X tg iter wi)(hg:∀ C s H fp,PG (cxIn X N' scope C s H fp) tg g)
  (ht:∀ C s H fp,PF (cxIn X N' scope C s H fp) ifs tc) (he:∀ C s H fp,PE (cxIn X N' scope C s H fp) elt te)
  (hs:∀ x,foldedSetIterable iter X.env x=pure x:=by intro _;rfl):PE X (.ListComp elt [⟨tg,iter,ifs,0⟩] scope pos) (tComp cap wi g tc te):=by
 intro pins s σ H Q I h
 rw[eval_ListComp]
 refine wpAny_comprehension_free (use:=none) rfl hs (closureFor_cells (S.clos I)) S.kind S.loc (thn (comp_run (pos:=pos) hc S hi hg ht he I h) fun x s1 h1=>thn h1 fun it s2 h2=>thn h2 fun acc s3 h3=>thn h3 fun cenv s4 h4=>?_)
 refine codeAny_mono h4 fun r s' hr=>?_
 cases r with
 |error x=>exact hr.elim
 |ok f =>
  obtain⟨v,H',I',rv,q,⟨m,hn⟩,f0,f1,f2,f3,f4,f5⟩:=hr
  refine⟨m,hn,fun h' sb=>⟨v,H',I'.turned (it:=cenv.locals) (t':=s'.toks) (fun b o hb e=>(sb.2 b hb).trans e) f0 f1 f3 f4 f5,rv,q⟩⟩
theorem ps_comp{i:Nat}{x:Str}{pos' spos:Pos}(hN:X.N.Nodup)(hx:X.N[i]?=some x)(hl:Loc X.env.scope x)(hc:X.calm=true)(S:CompScope N' cap X.N X.env.scope scope)(hi:PI X tg iter wi)(hg:∀ C s H fp,PG (cxIn X N' scope C s H fp) tg g)
  (ht:∀ C s H fp,PF (cxIn X N' scope C s H fp) ifs tc) (he:∀ C s H fp,PE (cxIn X N' scope C s H fp) elt te)
  (hs:∀ x,foldedSetIterable iter X.env x=pure x:=by intro _;rfl) (hsw:swapsWith (.ListComp elt [⟨tg,iter,ifs,0⟩] scope pos) (some (.Name x pos')) spos.line X.env=pure true:=by rfl)
  (hf:X.fn x=true\/X.env.scope.names.lookup x=some .local:=by first | exact .inl rfl | exact .inr rfl | assumption) :
  PS X (.Assign [.Name x pos'] (.ListComp elt [⟨tg,iter,ifs,0⟩] scope pos) spos) (tAsg (tComp cap wi g tc te) (gName i)):=by
 intro pins s σ H D I h
 rw[exec_Assign_Name_used _ _ _ _ hsw]
 refine zB (wpAny_standAt (zB ?_))
 show wpAny _ _ (do let _ <- comprehension (.ListComp elt [⟨tg,iter,ifs,0⟩] scope pos) scope X.env _ (newList []) false (eval iter X.env) (some (assign (.Name x pos') X.env))) _ _ s
 refine zB (wpAny_mono (wpAny_comprehension_free (use:=some (assign (.Name x pos') X.env)) (Q:=fun _ s'=>SP X pins D .next s') rfl hs (closureFor_cells (S.clos I)) S.kind S.loc
  (thn (comp_run (pos:=pos) hc S hi hg ht he I h) fun x s1 h1=>thn h1 fun it s2 h2=>thn h2 fun acc s3 h3=>thn h3 fun cenv s4 h4=>?_)) (fun _ s' hq=>zH (zH hq)) fun _ _ e=>e)
 refine codeAny_mono h4 fun r s' hr=>?_
 cases r with
 |error x=>exact hr.elim
 |ok f =>
  obtain⟨v,H',I',rv,q,⟨m,hn⟩,f0,f1,f2,f3,f4,f5⟩:=hr
  show wpAny _ _ (assign (.Name _ pos') X.env acc) _ _ _
  refine wpAny_assign_Name (store_ok2 I' hN hx hl rv (fun s'' I'' ⟨a,sb,ha⟩=>?_) hf)
  have hac:cenv.locals≠a:=by
   rcases ha with ha | ha
   ·rw[ha];exact f1
   ·exact Ne.symm (f4 _ a ha)
  refine⟨m,hn.sameBut sb hac,fun h' sb'=>⟨_,H',I''.turned (it:=cenv.locals) (t':=s''.toks) (fun b o hb e=>(sb'.2 b hb).trans e) f0 f1 f3 f4 f5,q⟩⟩
end
end L2
namespace Srt
open PySem PyProof.Rows
noncomputable def LtOk(κ:KeyKind)(kd:SortKind)(prog:Program)(w:World)(A:Around)(s:Shared):Prop :=
 ∀ (E:Value->Shared->Prop) (x y:Keyed) (a b:κ.α) (Q:Option Bool->SortSt->Prop) (st:SortSt),kindOf st=kd->κ.keyOf x.1=some a->κ.keyOf y.1=some b ->
  Q (some (κ.blt a b)) st->wpS (model prog w) A E s (lt' x y) Q st
structure SB(kd:SortKind)(a₀ b:Array Keyed)(lo:Nat)(pd:Array (Nat×Nat×Nat))(st:SortSt):Prop where
 perm:(arrOf st).Perm a₀
 kind:kindOf st=kd
 failed:failedOf st=none
 pend:pendingOf st=pd
 low:∀ k,k<lo->(arrOf st)[k]?=b[k]?
noncomputable def SIn(κ:KeyKind)(xs:Array Keyed)(lo n:Nat):Prop:=∀ i j,i<=j->j<n->κ.kle (KK κ xs (lo+i)) (KK κ xs (lo+j))
noncomputable def DIn(κ:KeyKind)(xs:Array Keyed)(lo n:Nat):Prop:=∀ i j,i<=j->j<n->κ.kle (KK κ xs (lo+j)) (KK κ xs (lo+i))
theorem at_key{κ:KeyKind}{a₀ xs:Array Keyed}(hp:xs.Perm a₀)(h0:KeysOf κ a₀){i:Nat}(hi:i<xs.size):∃ p a,xs[i]?=some p/\κ.keyOf p.1=some a/\KK κ xs i=a:=by
 have hm:xs[i]∈a₀.toList:=(Array.perm_iff_toList_perm.mp hp).mem_iff.mp (by simp)
 obtain⟨a,ha⟩:=h0 _ hm
 have e:xs[i]?=some xs[i]:=getElem?_pos _ i hi
 refine⟨xs[i],a,e,ha,?_⟩
 unfold KK;rw[e];simp[ha]
section
variable{prog:Program}{w:World}{A:Around}{E:Value->Shared->Prop}{s:Shared}{a₀ b:Array Keyed}{κ:KeyKind}{kd:SortKind}{lo:Nat}{pd:Array (Nat×Nat×Nat)}
theorem SB.size{st:SortSt}(h:SB kd a₀ b lo pd st):(arrOf st).size=a₀.size:=h.perm.size_eq
theorem SB.arr{st:SortSt}(h:SB kd a₀ b lo pd st){xs:Array Keyed}(hp:xs.Perm (arrOf st))(hl:∀ k,k<lo->xs[k]?=(arrOf st)[k]?):SB kd a₀ b lo pd (setArr st xs) :=
 ⟨hp.trans h.perm,h.kind,h.failed,h.pend,fun k hk=>(hl k hk).trans (h.low k hk)⟩
theorem SB.mirror{st:SortSt}(h:SB kd a₀ b lo pd st){i j:Nat}(hi:lo<=i)(hj:j<=a₀.size):SB kd a₀ b lo pd (setArr st (mirror (arrOf st) i j ((j-i) / 2))) :=
 h.arr (mirror_perm _ _ _ _) fun k hk=>by rw[getElem?_mirror_all (by rw[h.size];exact hj),if_neg (by lia)]
theorem elem_ok{arr:Array Keyed}{i:Nat}{p:Keyed}{Q:Keyed->SortSt->Prop}{st:SortSt}(h:arr[i]?=some p)(hq:Q p st):wpS (model prog w) A E s (elem' arr i) Q st:=by
 rw[elem'_eq,h];exact wpS_pure hq
theorem ltAt_ok{st:SortSt}{i j:Nat}{Q:Option Bool->SortSt->Prop}(hO:LtOk κ kd prog w A s)(hB:SB kd a₀ b lo pd st)(h0:KeysOf κ a₀)(hi:i<a₀.size)(hj:j<a₀.size)
  (h:Q (some (κ.blt (KK κ (arrOf st) i) (KK κ (arrOf st) j))) st):wpS (model prog w) A E s (ltAt' i j) Q st:=by
 obtain⟨x,a,e1,ha,ka⟩:=at_key hB.perm h0 (i:=i) (by rw[hB.size];exact hi)
 obtain⟨y,c,e2,hc,kc⟩:=at_key hB.perm h0 (i:=j) (by rw[hB.size];exact hj)
 rw[ka,kc]at h
 rw[ltAt'_eq]
 refine wpS_bind (wpS_get (wpS_bind (elem_ok e1 (wpS_bind (elem_ok e2 ?_)))))
 exact hO E x y a c Q st hB.kind ha hc h
theorem rev_ok{st:SortSt}{i j:Nat}{Q:Unit->SortSt->Prop}(h:Q () (setArr st (mirror (arrOf st) i j ((j-i) / 2)))):wpS (model prog w) A E s (reverseSlice' i j) Q st:=by
 rw[reverseSlice'_eq];exact wpS_modify h
theorem bcong{σ α β:Type}{m m':StateT σ Sem α}{f f':α->StateT σ Sem β}(h:m=m')(hf:∀ a,f a=f' a):(m >>= f)=(m' >>= f'):=by
 subst h
 rw[show f=f' from funext hf]
noncomputable def asc(lo a nrem:Nat):StateT SortSt Sem AscSt :=
 forIn [a:nrem] ((none,a):AscSt) fun _ c=>do
  let x <- ltAt' (lo+c.2) (lo+c.2-1)
  match x with
  |some sm=>if sm=true then pure (ForInStep.done (none,c.2))else pure (ForInStep.yield (none,c.2+1))
  | _=>pure (ForInStep.done (some none,c.2))
noncomputable def tl3(lo n nrem:Nat):StateT SortSt Sem (Option Nat):=do
 reverseSlice' lo (lo+n)
 let c <- asc lo n nrem
 match c.1 with
 |some r=>pure r
 |none=>pure (some c.2)
noncomputable def dsc(lo n nrem:Nat):StateT SortSt Sem DescSt :=
 forIn [n:nrem] ((none,n,0):DescSt) fun _ c=>do
  let x <- ltAt' (lo+c.2.1) (lo+c.2.1-1)
  match x with
  |some sm =>
   if sm=true then
    if c.2.2 > 0 then do
     reverseSlice' (lo+c.2.1-(c.2.2+1)) (lo+c.2.1)
     pure (ForInStep.yield (none,c.2.1+1,0))
    else pure (ForInStep.yield (none,c.2.1+1,0))
   else do
    let x <- ltAt' (lo+c.2.1-1) (lo+c.2.1)
    match x with
    |some la =>
     if la=true then pure (ForInStep.done (none,c.2.1,c.2.2))
     else pure (ForInStep.yield (none,c.2.1+1,c.2.2+1))
    | _=>pure (ForInStep.done (some none,c.2.1,c.2.2))
  | _=>pure (ForInStep.done (some none,c.2.1,c.2.2))
noncomputable def dpt(lo n nrem:Nat):StateT SortSt Sem (Option Nat):=do
 liftM (rule "list.sort.descending-run")
 let c <- dsc lo (n+1) nrem
 match c.1 with
 |some r=>pure r
 |none =>
  if c.2.2 > 0 then do
   reverseSlice' (lo+c.2.1-(c.2.2+1)) (lo+c.2.1)
   tl3 lo c.2.1 nrem
  else tl3 lo c.2.1 nrem
theorem count_eq(lo nrem:Nat):countRun' lo nrem=(do
  let c <- asc lo 1 nrem
  match c.1 with
  |some r=>pure r
  |none =>
   if(c.2 == nrem)=true then pure (some c.2)
   else if c.2 > 1 then do
    let x <- ltAt' lo (lo+c.2-1)
    match x with
    |some rose=>if rose=true then pure (some c.2)else do
      reverseSlice' lo (lo+c.2)
      dpt lo c.2 nrem
    | _=>pure none
   else dpt lo c.2 nrem):=by
 rw[countRun'_eq]
 unfold dpt tl3 dsc asc
 refine bcong rfl fun c=>?_
 obtain⟨r,n⟩:=c
 cases r with
 |some r=>rfl
 |none =>
  dsimp only
  split
  ·rfl
  ·split
   ·refine bcong rfl fun x=>?_
    cases x with
    |none=>rfl
    |some rose =>
     dsimp only
     split
     ·rfl
     ·refine bcong rfl fun _=>bcong rfl fun _=>bcong rfl fun s2=>?_
      obtain⟨r2,n2,q2⟩:=s2
      cases r2 with
      |some r2=>rfl
      |none =>
       dsimp only
       split
       ·refine bcong rfl fun _=>bcong rfl fun _=>bcong rfl fun s3=>?_
        obtain⟨r3,n3⟩:=s3
        cases r3 <;> rfl
       ·refine bcong rfl fun _=>bcong rfl fun s3=>?_
        obtain⟨r3,n3⟩:=s3
        cases r3 <;> rfl
   ·refine bcong rfl fun _=>bcong rfl fun s2=>?_
    obtain⟨r2,n2,q2⟩:=s2
    cases r2 with
    |some r2=>rfl
    |none =>
     dsimp only
     split
     ·refine bcong rfl fun _=>bcong rfl fun _=>bcong rfl fun s3=>?_
      obtain⟨r3,n3⟩:=s3
      cases r3 <;> rfl
     ·refine bcong rfl fun _=>bcong rfl fun s3=>?_
      obtain⟨r3,n3⟩:=s3
      cases r3 <;> rfl
theorem asc_ok{st:SortSt}{a nrem:Nat}{Q:AscSt->SortSt->Prop}(hO:LtOk κ kd prog w A s)(h0:KeysOf κ a₀)(hn:lo+nrem<=a₀.size)(ha:1<=a)(han:a<=nrem)(hB:SB kd a₀ b lo pd st)(hs:SIn κ (arrOf st) lo a)
  (h:∀ n,a<=n->n<=nrem->SIn κ (arrOf st) lo n->(n=nrem\/κ.klt (KK κ (arrOf st) (lo+n)) (KK κ (arrOf st) (lo+n-1)))->Q (none,n) st):wpS (model prog w) A E s (asc lo a nrem) Q st:=by
 unfold asc
 refine wpS_forRange (I:=fun x c st'=>st'=st/\c=(none,x)/\SIn κ (arrOf st) lo x) ?step ?fin ⟨rfl,rfl,hs⟩
 case fin =>
  rintro c st' ⟨rfl,rfl,g⟩
  rw[show max a nrem=nrem by lia]at g ⊢
  exact h nrem han (zI _) g (.inl rfl)
 case step =>
  rintro x c st' hax hxn ⟨rfl,rfl,g⟩
  dsimp only
  refine wpS_bind (ltAt_ok hO hB h0 (by lia) (by omega) ?_)
  cases q:κ.blt (KK κ (arrOf st') (lo+x)) (KK κ (arrOf st') (lo+x-1))with
  |true=>exact wpS_pure (h x hax (by lia) g (.inr q))
  |false =>
   refine wpS_pure ⟨rfl,rfl,fun i j hij hj=>?_⟩
   by_cases z:j<x
   ·exact g i j hij z
   ·have z:j=x:=by lia
    subst z
    by_cases y:i=j
    ·subst y;exact KeyOrd.kle_refl _
    ·have u:=g i (j-1) (by lia) (by lia)
     rw[show lo+(j-1)=lo+j-1 by lia]at u
     exact KeyOrd.kle_trans u q
theorem tl3_ok{st:SortSt}{n nrem:Nat}{Q:Option Nat->SortSt->Prop}(hO:LtOk κ kd prog w A s)(h0:KeysOf κ a₀)(hn:lo+nrem<=a₀.size)(h1:1<=n)(hnn:n<=nrem)(hB:SB kd a₀ b lo pd st)(hs:DIn κ (arrOf st) lo n)
  (h:∀ m st',SB kd a₀ b lo pd st'->1<=m->m<=nrem->SIn κ (arrOf st') lo m->Q (some m) st'):wpS (model prog w) A E s (tl3 lo n nrem) Q st:=by
 unfold tl3
 have hsz:lo+n<=(arrOf st).size:=by rw[hB.size];lia
 have hB':=hB.mirror (i:=lo) (j:=lo+n) (zI _) (by lia)
 refine wpS_bind (rev_ok (wpS_bind (asc_ok hO h0 hn h1 hnn hB' ?_ fun m p1 p2 p3 _=>wpS_pure (h m _ hB' (by lia) p2 p3))))
 intro i j hij hj
 show κ.kle (KK κ (mirror (arrOf st) lo (lo+n) ((lo+n-lo) / 2)) (lo+i)) (KK κ (mirror (arrOf st) lo (lo+n) ((lo+n-lo) / 2)) (lo+j))
 rw[KK_mirror hsz,KK_mirror hsz,if_pos (by lia),if_pos (by lia),show lo+(lo+n)-1-(lo+i)=lo+(n-1-i) by lia,show lo+(lo+n)-1-(lo+j)=lo+(n-1-j) by omega]
 exact hs _ _ (by omega) (by omega)
theorem dsc_ok{st:SortSt}{n nrem:Nat}{Q:DescSt->SortSt->Prop}(hO:LtOk κ kd prog w A s)(h0:KeysOf κ a₀)(hn:lo+nrem<=a₀.size)(h1:1<=n)(hnn:n<=nrem)(hB:SB kd a₀ b lo pd st)(hs:DIn κ (arrOf st) lo n)
  (h:∀ m q st',SB kd a₀ b lo pd st'->n<=m->m<=nrem->DIn κ (arrOf st') lo m->q+1<=m->(∀ i,m-(q+1)<=i->i<m->KK κ (arrOf st') (lo+i)=KK κ (arrOf st') (lo+m-1))->Q (none,m,q) st') :
  wpS (model prog w) A E s (dsc lo n nrem) Q st:=by
 unfold dsc
 refine wpS_forRange (I:=fun x c st'=>∃ q,c=(none,x,q)/\SB kd a₀ b lo pd st'/\DIn κ (arrOf st') lo x/\q+1<=x/\(∀ i,x-(q+1)<=i->i<x->KK κ (arrOf st') (lo+i)=KK κ (arrOf st') (lo+x-1))) ?step ?fin
  ⟨0,rfl,hB,hs,by omega,fun i h1 h2=>by rw[show lo+i=lo+n-1 by lia]⟩
 case fin =>
  rintro c st' ⟨q,rfl,g1,g2,g3,g4⟩
  rw[show max n nrem=nrem by lia]at g2 g3 g4 ⊢
  exact h nrem q st' g1 hnn (zI _) g2 g3 g4
 case step =>
  rintro x c st' hax hxn ⟨q,rfl,g1,g2,g3,g4⟩
  dsimp only
  have hsz:lo+x<=(arrOf st').size:=by rw[g1.size];lia
  refine wpS_bind (ltAt_ok hO g1 h0 (by lia) (by lia) ?_)
  cases t:κ.blt (KK κ (arrOf st') (lo+x)) (KK κ (arrOf st') (lo+x-1))with
  |true =>
   have step1:∀ xs:Array Keyed,(∀ k,KK κ xs k=KK κ (arrOf st') k)->DIn κ xs lo (x+1):=by
    intro xs hk i j hij hj
    rw[hk,hk]
    by_cases z:j<x
    ·exact g2 i j hij z
    ·have z:j=x:=by lia
     subst z
     by_cases y:i=j
     ·subst y;exact KeyOrd.kle_refl _
     ·have u:=g2 i (j-1) (by lia) (by lia)
      rw[show lo+(j-1)=lo+j-1 by lia]at u
      exact KeyOrd.kle_trans (KeyOrd.kle_of_klt t) u
   dsimp only
   rw[if_pos rfl]
   by_cases y:q > 0
   ·rw[if_pos y]
    have eqs:∀ k,lo+x-(q+1)<=k->k<lo+x->KK κ (arrOf st') k=KK κ (arrOf st') (lo+x-1):=fun k k1 k2=>by
     have u:=g4 (k-lo) (by omega) (by lia)
     rwa [show lo+(k-lo)=k by lia]at u
    refine wpS_bind (rev_ok (wpS_pure ⟨0,rfl,g1.mirror (by omega) (by lia),step1 _ (KK_mirror_equal hsz eqs),by lia,fun i h1 h2=>by rw[show lo+i=lo+(x+1)-1 by lia]⟩))
   ·rw[if_neg y]
    exact wpS_pure ⟨0,rfl,g1,step1 _ (fun _=>rfl),by lia,fun i h1 h2=>by rw[show lo+i=lo+(x+1)-1 by lia]⟩
  |false =>
   dsimp only
   rw[if_neg zN]
   refine wpS_bind (ltAt_ok hO g1 h0 (by lia) (by lia) ?_)
   cases u:κ.blt (KK κ (arrOf st') (lo+x-1)) (KK κ (arrOf st') (lo+x))with
   |true=>exact wpS_pure (h x q st' g1 hax (by lia) g2 g3 g4)
   |false =>
    have ex:KK κ (arrOf st') (lo+x)=KK κ (arrOf st') (lo+x-1):=KeyOrd.kle_antisymm u t
    refine wpS_pure ⟨q+1,rfl,g1,fun i j hij hj=>?_,by lia,fun i h1 h2=>?_⟩
    ·by_cases z:j<x
     ·exact g2 i j hij z
     ·have z:j=x:=by lia
      subst z
      by_cases y:i=j
      ·subst y;exact KeyOrd.kle_refl _
      ·rw[ex]
       have v:=g2 i (j-1) (by lia) (by lia)
       rwa [show lo+(j-1)=lo+j-1 by lia]at v
    ·rw[show lo+(x+1)-1=lo+x by lia]
     by_cases z:i=x
     ·subst z;rfl
     ·rw[ex];exact g4 i (by lia) (by lia)
theorem dpt_ok{st:SortSt}{n nrem:Nat}{Q:Option Nat->SortSt->Prop}(hO:LtOk κ kd prog w A s)(h0:KeysOf κ a₀)(hn:lo+nrem<=a₀.size)(hnn:n+1<=nrem)(hB:SB kd a₀ b lo pd st)(hs:DIn κ (arrOf st) lo (n+1))
  (h:∀ m st',SB kd a₀ b lo pd st'->1<=m->m<=nrem->SIn κ (arrOf st') lo m->Q (some m) st'):wpS (model prog w) A E s (dpt lo n nrem) Q st:=by
 unfold dpt
 refine wpS_bind (wpS_lift (wpAny_rule ⟨rfl,wpS_bind (dsc_ok hO h0 hn (by lia) hnn hB hs fun m q st' g1 m1 m2 g2 g3 g4=>?_)⟩))
 dsimp only
 have hsz:lo+m<=(arrOf st').size:=by rw[g1.size];lia
 by_cases y:q > 0
 ·rw[if_pos y]
  have eqs:∀ k,lo+m-(q+1)<=k->k<lo+m->KK κ (arrOf st') k=KK κ (arrOf st') (lo+m-1):=fun k k1 k2=>by
   have u:=g4 (k-lo) (by omega) (by lia)
   rwa [show lo+(k-lo)=k by lia]at u
  refine wpS_bind (rev_ok (tl3_ok hO h0 hn (by lia) m2 (g1.mirror (by omega) (by lia)) (fun i j hij hj=>?_) h))
  show κ.kle (KK κ (mirror (arrOf st') _ _ _) (lo+j)) (KK κ (mirror (arrOf st') _ _ _) (lo+i))
  rw[KK_mirror_equal hsz eqs,KK_mirror_equal hsz eqs]
  exact g2 i j hij hj
 ·rw[if_neg y]
  exact tl3_ok hO h0 hn (by lia) m2 g1 g2 h
theorem count_ok{st:SortSt}{nrem:Nat}{Q:Option Nat->SortSt->Prop}(hO:LtOk κ kd prog w A s)(h0:KeysOf κ a₀)(hn:lo+nrem<=a₀.size)(h1:1<=nrem)(hB:SB kd a₀ b lo pd st)
  (h:∀ m st',SB kd a₀ b lo pd st'->1<=m->m<=nrem->SIn κ (arrOf st') lo m->Q (some m) st'):wpS (model prog w) A E s (countRun' lo nrem) Q st:=by
 rw[count_eq]
 refine wpS_bind (asc_ok hO h0 hn (zI 1) h1 hB (fun i j hij hj=>by rw[show i=j by lia];exact KeyOrd.kle_refl _) fun n n1 n2 g1 g2=>?_)
 dsimp only
 by_cases z:n=nrem
 ·rw[if_pos (by simpa using z)]
  exact wpS_pure (h n st hB n1 n2 g1)
 ·rw[if_neg (by simpa using z)]
  have t:=g2.resolve_left z
  by_cases y:n > 1
  ·rw[if_pos y]
   refine wpS_bind (ltAt_ok hO hB h0 (by lia) (by omega) ?_)
   cases u:κ.blt (KK κ (arrOf st) lo) (KK κ (arrOf st) (lo+n-1))with
   |true=>exact wpS_pure (h n st hB n1 n2 g1)
   |false =>
    have hsz:lo+n<=(arrOf st).size:=by rw[hB.size];lia
    have eqs:∀ k,lo<=k->k<lo+n->KK κ (arrOf st) k=KK κ (arrOf st) (lo+n-1):=fun k k1 k2=>by
     have a1:=g1 0 (k-lo) (by lia) (by omega)
     have a2:=g1 (k-lo) (n-1) (by lia) (by omega)
     rw[show lo+(k-lo)=k by lia]at a1 a2
     rw[show lo+(n-1)=lo+n-1 by lia]at a2
     exact KeyOrd.kle_antisymm a2 (KeyOrd.kle_trans u a1)
    dsimp only
    rw[if_neg zN]
    refine wpS_bind (rev_ok (dpt_ok hO h0 hn (by lia) (hB.mirror (zI _) (by lia)) (fun i j hij hj=>?_) h))
    show κ.kle (KK κ (mirror (arrOf st) _ _ _) (lo+j)) (KK κ (mirror (arrOf st) _ _ _) (lo+i))
    rw[KK_mirror_equal hsz eqs,KK_mirror_equal hsz eqs]
    by_cases v:j<n
    ·rw[eqs (lo+i) (by lia) (by lia),eqs (lo+j) (by lia) (by lia)];exact KeyOrd.kle_refl _
    ·have v:j=n:=by lia
     subst v
     by_cases v:i=j
     ·subst v;exact KeyOrd.kle_refl _
     ·rw[eqs (lo+i) (by lia) (by lia)];exact KeyOrd.kle_of_klt t
  ·rw[if_neg y]
   have z:n=1:=by lia
   subst z
   refine dpt_ok hO h0 hn (by lia) hB (fun i j hij hj=>?_) h
   by_cases v:i=j
   ·subst v;exact KeyOrd.kle_refl _
   ·have e1:i=0:=by lia
    have e2:j=1:=by lia
    subst e1 e2
    exact KeyOrd.kle_of_klt t
theorem bin_ok{st:SortSt}{n ok:Nat}{Q:Bool->SortSt->Prop}(hO:LtOk κ kd prog w A s)(h0:KeysOf κ a₀)(hn:lo+n<=a₀.size)(hok:ok<=n)(hB:SB kd a₀ b lo pd st)(hs:SIn κ (arrOf st) lo ok)
  (h:∀ st',SB kd a₀ b lo pd st'->SIn κ (arrOf st') lo n->Q true st'):wpS (model prog w) A E s (binarySort' lo n ok) Q st:=by
 rw[binarySort'_eq]
 refine wpS_bind (wpS_mono (wpS_forRange (I:=fun k c st'=>c=(none,())/\SB kd a₀ b lo pd st'/\SIn κ (arrOf st') lo (min k n)) (Q:=fun c st'=>c=(none,())/\SB kd a₀ b lo pd st'/\SIn κ (arrOf st') lo n) ?step ?fin ?init) ?post)
 case post =>
  rintro c st' ⟨rfl,g1,g2⟩
  exact wpS_pure (h st' g1 g2)
 case init =>
  refine⟨rfl,hB,fun i j hij hj=>?_⟩
  by_cases h1:ok=0
  ·rw[show i=j by lia];exact KeyOrd.kle_refl _
  ·exact hs i j hij (by lia)
 case fin =>
  rintro c st' ⟨g0,g1,g2⟩
  refine⟨g0,g1,?_⟩
  rwa [show min (max (max ok 1) n) n=n by lia]at g2
 case step =>
  rintro k c st' hak hkn ⟨rfl,g1,g2⟩
  rw[show min k n=k by lia]at g2
  have hk:lo+k<a₀.size:=by lia
  refine wpS_bind (wpS_mono (wpS_forRange (I:=fun x c st''=>st''=st'/\∃ l r,c=(none,l,r)/\l<=r/\r<=k/\r-l<=k-x/\(∀ i,i<l->κ.kle (KK κ (arrOf st') (lo+i)) (KK κ (arrOf st') (lo+k))) /\
     (∀ i,r<=i->i<k->κ.klt (KK κ (arrOf st') (lo+k)) (KK κ (arrOf st') (lo+i))))
   (Q:=fun c st''=>st''=st'/\∃ l r,c=(none,l,r)/\l<=k/\(∀ i,i<l->κ.kle (KK κ (arrOf st') (lo+i)) (KK κ (arrOf st') (lo+k)))/\(∀ i,l<=i->i<k->κ.klt (KK κ (arrOf st') (lo+k)) (KK κ (arrOf st') (lo+i)))) ?istep ?ifin ?iinit) ?ipost)
  case iinit=>exact⟨rfl,0,k,rfl,by lia,by lia,by lia,fun i hi=>by lia,fun i h1 h2=>by lia⟩
  case ifin =>
   rintro c st'' ⟨rfl,l,r,rfl,i1,i2,i3,i4,i5⟩
   have z:l=r:=by lia
   subst z
   exact⟨rfl,l,l,rfl,i2,i4,i5⟩
  case istep =>
   rintro x c st'' _ hxk ⟨rfl,l,r,rfl,i1,i2,i3,i4,i5⟩
   dsimp only
   by_cases y:l >= r
   ·rw[if_pos y]
    have z:l=r:=by lia
    subst z
    exact wpS_pure ⟨rfl,l,l,rfl,i2,i4,i5⟩
   ·rw[if_neg y]
    refine wpS_bind (ltAt_ok hO g1 h0 hk (by lia) ?_)
    cases t:κ.blt (KK κ (arrOf st'') (lo+k)) (KK κ (arrOf st'') (lo+(l+r) / 2))with
    |true =>
     refine wpS_pure ⟨rfl,l,(l+r) / 2,rfl,by lia,by lia,by omega,i4,fun i h1 h2=>?_⟩
     exact KeyOrd.klt_of_klt_of_kle t (g2 _ _ h1 h2)
    |false =>
     refine wpS_pure ⟨rfl,(l+r) / 2+1,r,rfl,by lia,by omega,by omega,fun i h1=>?_,i5⟩
     exact KeyOrd.kle_trans (g2 i ((l+r) / 2) (by lia) (by lia)) (show κ.kle _ _ from t)
  case ipost =>
   rintro c st'' ⟨rfl,l,r,rfl,i2,i4,i5⟩
   show wpS _ _ _ _ (do moveDown' (lo+k) (lo+l);pure (ForInStep.yield (none,()))) _ _
   rw[moveDown'_eq]
   have hks:lo+k <(arrOf st'').size:=by rw[g1.size];exact hk
   refine wpS_bind (wpS_modify (wpS_pure ⟨rfl,g1.arr (bubble_perm _ _ _) fun m hm=>?_,?_⟩))
   ·rw[getElem?_bubble hks _ (by omega),if_neg (by omega),if_neg (by omega)]
   rw[show min (k+1) n=k+1 by lia]
   intro i j hij hj
   show κ.kle (KK κ (bubble (arrOf st'') (lo+k) (lo+k-(lo+l))) (lo+i)) (KK κ (bubble (arrOf st'') (lo+k) (lo+k-(lo+l))) (lo+j))
   rw[KK_bubble hks (by omega),KK_bubble hks (by omega),show lo+k-(lo+k-(lo+l))=lo+l by lia]
   have sh:∀ m,lo+l<lo+m->lo+m-1=lo+(m-1):=fun m hm=>by lia
   repeat' split
   all_goals first
    |(exfalso;lia)
    |exact KeyOrd.kle_refl _
    |exact i4 _ (by lia)
    |(rw[sh _ (by lia)];exact KeyOrd.kle_of_klt (i5 _ (by lia) (by lia)))
    |exact KeyOrd.kle_of_klt (i5 _ (by omega) (by omega))
    |exact g2 _ _ (by omega) (by lia)
    |(rw[sh _ (by lia),sh _ (by lia)];exact g2 _ _ (by omega) (by lia))
    |(rw[sh _ (by lia)];exact g2 _ _ (by lia) (by omega))
end
open PySem PyProof.Rows
section
variable{prog:Program}{w:World}{A:Around}{E:Value->Shared->Prop}{s:Shared}{κ:KeyKind}{kd:SortKind}{st:SortSt}{a₀:Array Keyed}
theorem wpS_ifZ{M:Model}{A:Around}{E:Value->Shared->Prop}{s:Shared}{σ α:Type}{c:Prop}[Decidable c]{x y:StateT σ Sem α}{Q:α->σ->Prop}{t:σ}(h1:c->wpS M A E s x Q t)(h2:¬ c->wpS M A E s y Q t):wpS M A E s (if c then x else y) Q t:=by
 by_cases h:c
 ·rw[if_pos h];exact h1 h
 ·rw[if_neg h];exact h2 h
structure CoreZ(κ:KeyKind)(kd:SortKind)(a₀:Array Keyed)(lo:Nat)(st:SortSt):Prop where
 perm:(arrOf st).Perm a₀
 kind:kindOf st=kd
 failed:failedOf st=none
 one:(lo=0/\pendingOf st = #[])\/(lo=a₀.size/\SIn κ (arrOf st) 0 a₀.size/\(pendingOf st).size<=1)
theorem runs_okZ{Q:Unit->SortSt->Prop}(hO:LtOk κ kd prog w A s)(h0:KeysOf κ a₀)(hB:SB kd a₀ a₀ 0 #[] st)(h2:2<=a₀.size)(h64:a₀.size<64)
  (h:∀ st',(arrOf st').Perm a₀->failedOf st'=none->SIn κ (arrOf st') 0 a₀.size->Q () st'):wpS (model prog w) A E s sortRuns' Q st:=by
 rw[sortRuns'_eq]
 refine wpS_bind (wpS_get ?_)
 dsimp only
 simp only[hB.size]
 have hmr:minRun' a₀.size a₀.size 0=a₀.size:=by
  obtain⟨k,e⟩:∃ k,a₀.size=k+1:=⟨a₀.size-1,by lia⟩
  rw[e,minRun'_succ,if_pos (by lia)]
 rw[hmr]
 refine wpS_bind (wpS_mono (wpS_forRange
  (I:=fun x c st'=>∃ lo,c=(none,lo)/\x<=lo/\CoreZ κ kd a₀ lo st')
  (Q:=fun c st'=>c=(none,a₀.size)/\CoreZ κ kd a₀ a₀.size st') ?step ?fin ⟨0,rfl,zI _,hB.perm,hB.kind,hB.failed,.inl ⟨rfl,hB.pend⟩⟩) ?post)
 case fin =>
  rintro c st' ⟨lo,rfl,hx,C⟩
  have e:lo=a₀.size:=by have:=C.one;lia
  subst e
  exact⟨rfl,C⟩
 case step =>
  rintro x c st1 _ hx ⟨lo,rfl,xlo,C⟩
  dsimp only
  by_cases hlo:lo >= a₀.size
  ·rw[if_pos hlo]
   have e:lo=a₀.size:=by have:=C.one;lia
   subst e
   exact wpS_pure ⟨rfl,C⟩
  rw[if_neg hlo]
  obtain⟨rfl,pd⟩:lo=0/\pendingOf st1 = #[]:=C.one.resolve_right fun z=>hlo (Nat.le_of_eq z.1.symm)
  refine wpS_bind (count_ok hO h0 (b:=arrOf st1) (pd:=pendingOf st1) (by lia) (by lia) ⟨C.perm,C.kind,C.failed,rfl,fun _ _=>rfl⟩ fun m st2 B2 m1 m2 S2=>?_)
  dsimp only
  have last:∀ (st':SortSt) (n:Nat),SB kd a₀ (arrOf st1) 0 (pendingOf st1) st'->SIn κ (arrOf st') 0 n->n=a₀.size->∀ z,CoreZ κ kd a₀ (0+n) (setPending st' ((pendingOf st').push (0,n,z))):=fun st' n B S e z=>by
   subst e
   refine⟨B.perm,B.kind,B.failed,.inr ⟨Nat.zero_add _,S,?_⟩⟩
   show((pendingOf st').push (0,a₀.size,z)).size<=1
   rw[B.pend,pd]
   exact zI 1
  by_cases hlt:m<a₀.size
  ·rw[if_pos hlt]
   refine wpS_bind (wpS_lift (wpAny_rule ⟨rfl,wpS_bind (bin_ok hO h0 (by lia) (by lia) B2 S2 fun st3 B3 S3=>?_)⟩))
   refine wpS_ifZ (fun z=>absurd z (by simp)) fun _=>?_
   have g0:min (a₀.size-0) a₀.size=a₀.size:=by lia
   rw[g0]at S3 ⊢
   refine wpS_bind (wpS_get ?_)
   rw[show(pendingOf st3).back?=none by rw[B3.pend,pd];rfl]
   dsimp only
   refine wpS_bind (wpS_modify (wpS_pure ?_))
   exact⟨0+a₀.size,rfl,by lia,last st3 _ B3 S3 rfl _⟩
  ·rw[if_neg hlt]
   refine wpS_bind (wpS_get ?_)
   rw[show(pendingOf st2).back?=none by rw[B2.pend,pd];rfl]
   dsimp only
   refine wpS_bind (wpS_modify (wpS_pure ?_))
   exact⟨0+m,rfl,by lia,last st2 _ B2 S2 (by lia) _⟩
 case post =>
  rintro c st1 ⟨rfl,C⟩
  dsimp only
  obtain⟨_,S,ps⟩:a₀.size=a₀.size/\SIn κ (arrOf st1) 0 a₀.size/\(pendingOf st1).size<=1:=C.one.resolve_left fun z=>by have:=z.1;lia
  refine wpS_bind (wpS_mono (wpS_forRange (I:=fun x c st'=>c=(none,())/\st'=st1) (Q:=fun c st'=>c=(none,())/\st'=st1) ?lstep ?lfin ⟨rfl,rfl⟩) ?lpost)
  case lfin=>exact fun c st' z=>z
  case lpost =>
   rintro c st' ⟨rfl,rfl⟩
   exact wpS_pure (h _ C.perm C.failed S)
  case lstep =>
   rintro x c st2 _ hx ⟨rfl,rfl⟩
   refine wpS_bind (wpS_get ?_)
   rw[if_pos ps]
   exact wpS_pure ⟨rfl,rfl⟩
end
open PySem PySem.W PyProof.Rows
noncomputable def RawD(d:Addr)(ks:List Value)(ep:Nat)(g:Heap):Prop:=∃ ob en,g.get? d=some ob/\ob.ExactDict/\ob.data = .dict en ep/\en.toList.map (fun r=>r.key)=ks
section
variable{d it:Addr}{ks:List Value}{ep i:Nat}{g g':Heap}{prog:Program}{w:World}{A:Around}{E:Value->Shared->Prop}{s:Shared}
theorem RawD.to(x:RawD d ks ep g)(k:∀ u,g.get? d=some u->g'.get? d=some u):RawD d ks ep g':=by
 obtain⟨ob,en,a,r⟩:=x
 exact⟨ob,en,k _ a,r⟩
theorem RawD.ty(x:RawD d ks ep s.heap):s.TypeIs (.ref d) "dict":=by
 obtain⟨ob,en,a,c,r⟩:=x
 exact⟨ob,a,c.1⟩
theorem RawD.lt(x:RawD d ks ep g):d<g.objs.size:=by
 obtain⟨ob,en,a,c,r⟩:=x
 exact zP a
theorem rawIter{Q:Value->Shared->Prop}(nd:(d == sysModules)=false)(x:RawD d ks ep s.heap)
  (q:Q (.ref s.heap.objs.size) { s with heap:=s.heap.push { cls:=.type "dict_keyiterator",data:=.fields #[.ref d,.int 0 0,.int ks.length 0,.int ep 0] } }) :
  wpAny (model prog w) A (pyIter (.ref d)) Q E s:=by
 have ty:=x.ty
 obtain⟨ob,en,a,c,dt,ke⟩:=x
 have len:en.size=ks.length:=by rw[<- ke];simp
 refine wpAny_pyIter_slot ty F.slot_dict_iter (wpAny_call_entry F.slot_dict_iter ty F.entry_dict_iter ?_ (F.args_dict_iter_1 _))
 unfold Builtin.«dict.__iter__»;refine zB ?_
 unfold Builtin.Dict.dictSlotNone;refine zB (wpAny_notOrdered_dict ty ?_)
 show wpAny _ _ (pure (Value.ref d)) _ _ s;refine zH ?_
 show wpAny _ _ (Builtin.Dict.showsAll d >>= _) _ _ s;unfold Builtin.Dict.showsAll
 rw[if_neg (fun e=>zN (nd.symm.trans e))];refine zB (zH (zB (wpAny_dictEntries a dt (zB (wpAny_dictEpoch a dt ?_)))))
 refine zB (wpAny_newObj_type (zH ⟨_,rfl,"dict_keyiterator",_,⟨_,zW _ rfl,rfl⟩,F.slot_dict_keyiterator_next.lookup,?_⟩));simpa[rawInt,len]using q
theorem rawItem{v:Value}{Q:Option Value->Shared->Prop}(hI:s.heap.IsKeyIter it d i ks.length ep)(x:RawD d ks ep s.heap)(hv:ks[i]?=some v)
  (q:∀ g',g'.IsKeyIter it d (i+1) ks.length ep->Heap.SameBut it s.heap g'->Q (some v) { s with heap:=g' }):wpAny (model prog w) A (pyNext (.ref it)) Q E s:=by
 obtain⟨io,a0,c0,d0⟩:=id hI
 obtain⟨ob,en,a,c,dt,ke⟩:=x
 have len:en.size=ks.length:=by rw[<- ke];simp
 unfold pyNext;refine zB (wpAny_attempt (wpAny_callSpecial?_slot (name:=Str.ofString "__next__") hI.typeIs F.slot_dict_keyiterator_next (wpAny_call_entry F.slot_dict_keyiterator_next hI.typeIs F.entry_dict_keyiterator_next ?_ (F.args_dict_keyiterator_next_1 _))))
 refine zB (zH (zB (zB ?_)))
 first | refine zB (wpAny_typeNameOfWhole_keyiter hI.typeIs (zH ?_)) | refine zB (wpAny_typeNameOf_keyiter hI.typeIs (zH ?_))
 refine zB (wpAny_fieldsOf a0 d0 ?_);have own:Builtin.Dict_items.ownsTuple "dict_keyiterator" = false:=by decide
 simp only[own,zAY,if_false];show wpAny _ _ (if(Value.ref d == Value.none)=true then _ else _) _ _ s
 rw[if_neg (show ¬((Value.ref d == Value.none)=true)from zN)];refine zB (zH (zB (wpAny_dictEntries a dt ?_)))
 rw[if_neg (by rw[len];simp)];refine zB (zH (zB (wpAny_dictEpoch a dt ?_)))
 rw[if_neg (by simp)];refine zH ?_
 have il:i<en.size:=by rw[len];exact(zE.mp hv).1
 have iv:en[i].key=v:=by
  have z:(en.toList.map (fun r=>r.key))[i]?=some en[i].key:=by rw[zAD,Array.getElem?_toList,Array.getElem?_eq_getElem il];rfl
  rw[ke,hv]at z
  exact(Option.some.inj z).symm
 simp only[show ¬((i:Int)<0)from by lia,if_false,zAO,Array.getElem?_eq_getElem il];refine zB ?_
 first | refine zB (wpAny_typeNameOfWhole_keyiter hI.typeIs (zH ?_)) | refine zB (wpAny_typeNameOf_keyiter hI.typeIs (zH ?_))
 refine zB (wpAny_isOneOf_keyiter hI.typeIs ?_);show wpAny _ _ (setField (.ref it) 1 (rawInt ((i:Int)+1)) >>= _) _ _ s
 refine zB (wpAny_setField a0 d0 (by simp) ?_)
 have hI':(s.heap.update it (Obj.mapFields (·.setIfInBounds 1 (rawInt ((i:Int)+1))))).IsKeyIter it d (i+1) ks.length ep:=⟨_,Heap.get?_update_self _ a0 (Obj.isFreed_of_fields (Obj.data_mapFields d0 _)),(Obj.cls_mapFields ..).trans c0,by rw[Obj.data_mapFields d0];simp[rawInt]⟩
 refine zB (wpAny_holding (zB (wpAny_isOneOf_keyiter (s:={ s with heap:=s.heap.update it (Obj.mapFields (·.setIfInBounds 1 (rawInt ((i:Int)+1)))) }) hI'.typeIs ?_)))
 show wpAny _ _ (pure en[i].key) _ _ _;rw[iv]
 exact zH (zH ⟨_,rfl,zH (q _ hI' (Heap.SameBut.update ..))⟩)
theorem rawEnd{Q:Option Value->Shared->Prop}(hh:A.handled=none)(hI:s.heap.IsKeyIter it d i ks.length ep)(x:RawD d ks ep s.heap)(hv:ks.length<=i)
  (q:∀ g',Heap.ExtBut it s.heap g'->Q none { s with heap:=g' }):wpAny (model prog w) A (pyNext (.ref it)) Q E s:=by
 obtain⟨io,a0,c0,d0⟩:=id hI
 obtain⟨ob,en,a,c,dt,ke⟩:=x
 have len:en.size=ks.length:=by rw[<- ke];simp
 unfold pyNext;refine zB (wpAny_attempt (wpAny_callSpecial?_slot (name:=Str.ofString "__next__") hI.typeIs F.slot_dict_keyiterator_next (wpAny_call_entry F.slot_dict_keyiterator_next hI.typeIs F.entry_dict_keyiterator_next ?_ (F.args_dict_keyiterator_next_1 _))))
 refine zB (zH (zB (zB ?_)))
 first | refine zB (wpAny_typeNameOfWhole_keyiter hI.typeIs (zH ?_)) | refine zB (wpAny_typeNameOf_keyiter hI.typeIs (zH ?_))
 refine zB (wpAny_fieldsOf a0 d0 ?_);have own:Builtin.Dict_items.ownsTuple "dict_keyiterator" = false:=by decide
 simp only[own,zAY,if_false];show wpAny _ _ (if(Value.ref d == Value.none)=true then _ else _) _ _ s
 rw[if_neg (show ¬((Value.ref d == Value.none)=true)from zN)];refine zB (zH (zB (wpAny_dictEntries a dt ?_)))
 rw[if_neg (by rw[len];simp)];refine zB (zH (zB (wpAny_dictEpoch a dt ?_)))
 rw[if_neg (by simp)];refine zH ?_
 have il:en.size<=i:=by rw[len];exact hv
 simp only[show ¬((i:Int)<0)from by lia,if_false,zAO,Array.getElem?_eq_none il];refine zB ?_
 first | refine zB (wpAny_typeNameOfWhole_keyiter hI.typeIs (zH ?_)) | refine zB (wpAny_typeNameOf_keyiter hI.typeIs (zH ?_))
 show wpAny _ _ (setField (.ref it) 0 .none >>= _) _ _ s;refine zB (wpAny_setField a0 d0 (by simp) ?_)
 show wpAny _ _ (newExc (.type "StopIteration") [] >>= _) _ _ _;refine zB ?_
 simp only[newExc,newTuple];refine zB (wpAny_newObj_type ?_ (by size_fits))
 refine zB (m:=firstArgMember _ _) (wpAny_of_eq (a:=Value.none) (by first | rfl |(simp only[firstArgMember];rfl)) (wpAny_newObj_type ?_ (by size_fits)))
 simp only[raiseNew];refine zB (wpAny_handled ?_)
 rw[show A.in1.handled=none from hh];refine zB (zH (wpAny_throw ?_))
 refine zB (wpAny_isInstance (T:="StopIteration") (b:=true) ⟨_,zW _ rfl,rfl⟩ isSubtype_stop ?_)
 exact zH (q _ (((Heap.SameBut.update ..).extBut.push _).push _))
theorem rawWalks(hh:A.handled=none)(I d:Addr)(ne:d≠I)(ks:List Value)(ep:Nat) :
  Walks prog w A I [I,d] [I] ks.length (fun i v=>ks[i]?=some v) (fun i g=>g.IsKeyIter I d i ks.length ep/\RawD d ks ep g)where
 sub:=fun b z=>by simp at z;simp[z]
 frame:=fun _ _ _ st k=>⟨st.1.at fun o e=>k I (by simp) o e,st.2.to fun o e=>k d (by simp) o e⟩
 item:=fun i s Q E hi st hQ=>by
  obtain⟨v,hx⟩:∃ p,ks[i]?=some p:=⟨ks[i],by simp[hi]⟩
  refine rawItem st.1 st.2 hx fun g' it' sb=>?_
  exact hQ v g' s.toks hx ⟨it',st.2.to fun o e=>sb.extBut d o ne e⟩ fun b o z e=>sb.extBut b o (fun h=>z (by simp[h])) e
 done:=fun s Q E st hQ=>rawEnd hh st.1 st.2 (zI _) fun g' e'=>hQ g' s.toks fun b o z e=>e' b o (fun h=>z (by simp[h])) e
 self:=fun _ _ _ _ st hQ=>wpAny_pyIter_keyiter st.1 hQ
theorem rawSrc(nd:(d == sysModules)=false):KdlSrc prog w "dict" d d ks.length (fun i v=>ks[i]?=some v) (RawD d ks ep)where
 type:=fun _ x=>x.ty
 there:=fun _ x=>⟨x.lt,x.lt⟩
 keep:=fun _ _ x k=>x.to fun o e=>k d (.inl rfl) o e
 notList:=by decide
 notTuple:=by decide
 hint:=fun _ _ _ _ x q=>kdl_hint_dict x.ty q
 iter:=fun _ _ hh x=>⟨_,_,(fun _ _ q=>rawIter nd x q),rawWalks hh _ d (zZ x.lt) ks ep,⟨⟨_,zW _ rfl,rfl,rfl⟩,x.to fun o e=>zC _ e⟩⟩
end
open PySem PySem.W PyProof.Rows
noncomputable def lexlt:List Int->List Int->Bool
 | _,[]=>false
 |[],_ :: _=>true
 |a :: x,b :: y=>decide (a<b) ||(decide (a=b) && lexlt x y)
theorem lexlt_irrefl:∀ x,lexlt x x=false
 |[]=>rfl
 |a :: x=>by simp[lexlt,lexlt_irrefl x]
theorem lexlt_trans:∀ x y z,lexlt x y=true->lexlt y z=true->lexlt x z=true
 | _,_,[],_,h=>by simp[lexlt]at h
 | _,[],_ :: _,h,_=>by simp[lexlt]at h
 |[],_ :: _,_ :: _,_,_=>rfl
 |a :: x,b :: y,c :: z,h,k=>by
  simp only[lexlt,Bool.or_eq_true,zBC,decide_eq_true_eq]at h k ⊢
  rcases h with h |⟨h,h'⟩ <;> rcases k with k |⟨k,k'⟩
  ·left;lia
  ·left;lia
  ·left;lia
  ·right;exact⟨by lia,lexlt_trans x y z h' k'⟩
theorem lexlt_neg:∀ x y z,lexlt x z=true->lexlt x y=true\/lexlt y z=true
 | _,_,[],h=>by simp[lexlt]at h
 | _,[],_ :: _,_=>.inr rfl
 |[],_ :: _,_ :: _,_=>.inl rfl
 |a :: x,b :: y,c :: z,h=>by
  simp only[lexlt,Bool.or_eq_true,zBC,decide_eq_true_eq]at h ⊢
  rcases h with h |⟨h,h'⟩
  ·by_cases e:a<b
   ·exact .inl (.inl e)
   ·exact .inr (.inl (by lia))
  ·rcases lexlt_neg x y z h' with q | q
   ·by_cases e:a<b
    ·exact .inl (.inl e)
    ·by_cases e':a=b
     ·exact .inl (.inr ⟨e',q⟩)
     ·exact .inr (.inl (by lia))
   ·by_cases e:a<b
    ·exact .inl (.inl e)
    ·by_cases e':b=c
     ·exact .inr (.inr ⟨e',q⟩)
     ·exact .inr (.inl (by lia))
theorem lexlt_total:∀ x y,lexlt x y=false->lexlt y x=false->x=y
 |[],[],_,_=>rfl
 |[],_ :: _,h,_=>by simp[lexlt]at h
 | _ :: _,[],_,h=>by simp[lexlt]at h
 |a :: x,b :: y,h,k=>by
  simp only[lexlt,Bool.or_eq_false_iff,Bool.and_eq_false_iff,decide_eq_false_iff_not]at h k
  have e:a=b:=by lia
  subst e
  rw[lexlt_total x y (by simpa using h.2) (by simpa using k.2)]
noncomputable abbrev IntsV(ns:List Int)(us:List Value):Prop:=Paired (fun(i:Int) (u:Value)=>∃ t,u=Value.int i t) ns us
theorem IntsV.inj:∀ {ns ms:List Int}{us:List Value},IntsV ns us->IntsV ms us->ns=ms:=by
 intro ns ms us h
 induction h generalizing ms with
 |nil=>intro h';cases h';rfl
 |cons h r ih =>
  intro h'
  cases h' with
  |cons h2 r' =>
   obtain⟨t,e⟩:=h
   obtain⟨t',e'⟩:=h2
   rw[e]at e'
   cases e'
   rw[ih r']
noncomputable def TupI(g:Heap)(v:Value)(ns:List Int):Prop:=∃ a ob its n,v=Value.ref a/\g.get? a=some ob/\ob.cls = .type "tuple"/\ob.data = .seq its n/\IntsV ns its.toList
theorem TupI.inj{g:Heap}{v:Value}{ns ms:List Int}(x:TupI g v ns)(y:TupI g v ms):ns=ms:=by
 obtain⟨a,ob,its,n,rfl,e,_,d,p⟩:=x
 obtain⟨a',ob',its',n',e',q,_,d',p'⟩:=y
 cases e'
 rw[e]at q
 cases q
 rw[d]at d'
 cases d'
 exact p.inj p'
theorem TupI.to{g g':Heap}{v:Value}{ns:List Int}(x:TupI g v ns)(k:∀ b u,v = .ref b->g.get? b=some u->g'.get? b=some u):TupI g' v ns:=by
 obtain⟨a,ob,its,n,rfl,e,r⟩:=x
 exact⟨a,ob,its,n,rfl,k a ob rfl e,r⟩
open Classical in
noncomputable def κT(g:Heap):KeyKind where
 α:=List Int
 blt:=lexlt
 irrefl:=lexlt_irrefl
 trans:=lexlt_trans
 negTrans:=lexlt_neg
 total:=lexlt_total
 keyOf v:=if h:∃ ns,TupI g v ns then some h.choose else none
 dflt:=[]
open Classical in
theorem κT_key{g:Heap}{v:Value}{ns:List Int}(x:TupI g v ns):(κT g).keyOf v=some ns:=by
 have h:∃ ns,TupI g v ns:=⟨ns,x⟩
 show(if h:∃ ns,TupI g v ns then some h.choose else none)=some ns
 rw[dif_pos h,h.choose_spec.inj x]
open Classical in
theorem κT_of{g:Heap}{v:Value}{ns:List Int}(e:(κT g).keyOf v=some ns):TupI g v ns:=by
 have e':(if h:∃ ns,TupI g v ns then some h.choose else none)=some ns:=e
 by_cases h:∃ ns,TupI g v ns
 ·rw[dif_pos h]at e'
  rw[<- Option.some.inj e']
  exact h.choose_spec
 ·rw[dif_neg h]at e'
  cases e'
section
variable{prog:Program}{w:World}{A:Around}{E:Value->Shared->Prop}{s:Shared}
theorem lex_ok{b fin:Bool}{Q:Bool->Shared->Prop}:∀ {ns ms:List Int}{us vs:List Value} (i:Nat),IntsV ns us->IntsV ms vs->fin=decide (ns.length<ms.length)->Q (lexlt ns ms) s->KatLex prog w A b fin Q (us.zip vs) i s:=by
 intro ns ms us vs i h
 induction h generalizing ms vs i with
 |nil =>
  intro h' e q
  rw[e]
  cases h' with
  |nil=>exact kat_nil q
  |cons _ _=>exact kat_nil (show Q (decide (0<_+1)) s by simpa[lexlt]using q)
 | @cons n u ns us h r ih =>
  intro h' e q
  cases h' with
  |nil=>rw[e];exact kat_nil (by simpa[lexlt]using q)
  | @cons m v ms vs h2 r' =>
   obtain⟨t,e1⟩:=h
   obtain⟨t',e2⟩:=h2
   subst e1 e2
   refine kat_cons (wpAny_eqBool_int (kat_go (fun z=>kat_yes ?_) fun z=>kat_no ?_))
   ·have z':n=m:=by simpa using z
    refine ih (i+1) r' (by rw[e];simp) ?_
    have l:lexlt (n :: ns) (m :: ms)=lexlt ns ms:=by simp[lexlt,z']
    rw[<- l]
    exact q
   ·have z':n≠m:=by simpa using z
    have l:lexlt (n :: ns) (m :: ms)=decide (n<m):=by simp[lexlt,z']
    rw[l]at q
    cases hb:(b && i == 0)with
    |true=>exact oneLt_int q
    |false=>exact kat_one _ _ (lt_int q)
theorem ltT_ok{h₁:Heap}{b:Bool}(kp:∀ v ns,TupI h₁ v ns->TupI s.heap v ns):LtOk (κT h₁) (tuples' b) prog w A s:=by
 intro E x y ka kb Q st hk ha hb q
 obtain⟨a,ob,its,n,e1,g1,_,d1,p1⟩:=kp _ _ (κT_of ha)
 obtain⟨a',ob',its',n',e2,g2,_,d2,p2⟩:=kp _ _ (κT_of hb)
 rw[lt'_eq]
 refine wpS_bind (wpS_get ?_)
 rw[hk,e1,e2]
 have l1:ka.length=its.size:=by rw[p1.length];simp
 have l2:kb.length=its'.size:=by rw[p2.length];simp
 refine wpS_bind (wpS_lift (wpAny_attempt (kat_lt g1 d1 g2 d2 (lex_ok (ns:=ka) (ms:=kb) 0 p1 p2 (by rw[l1,l2]) ⟨rfl,?_⟩))))
 exact wpS_pure q
theorem map2_pairs:∀ {l:List Keyed},(∀ p∈l,p.1=p.2)->(l.map (·.2)).zip (l.map (·.2))=l
 |[],_=>rfl
 |p :: l,h=>by
  have e:p.1=p.2:=h p (zS ..)
  show(p.2,p.2) :: (l.map (·.2)).zip (l.map (·.2))=_
  rw[map2_pairs fun q hq=>h q (zQ _ hq)]
  congr 1
  exact Prod.ext e.symm rfl
theorem mem_zip_self:∀ {l:List Value}{p:Keyed},p∈l.zip l->p.1=p.2/\p.2∈l
 |[],p,h=>by simp at h
 |v :: l,p,h=>by
  rcases zT.mp (show p∈(v,v) :: l.zip l from h)with e | e
  ·rw[e];exact⟨rfl,zS ..⟩
  ·exact⟨(mem_zip_self e).1,zQ _ (mem_zip_self e).2⟩
theorem map2_zip:∀ {l:List Value},(l.zip l).map (·.2)=l
 |[]=>rfl
 |v :: l=>by show v :: (l.zip l).map (·.2)=_;rw[map2_zip]
theorem back_pairs{xs:Array Keyed}{vs:List Value}(hp:xs.Perm (pairsOf vs)):xs=pairsOf (xs.toList.map (·.2))/\(xs.toList.map (·.2)).Perm vs:=by
 have hp':xs.toList.Perm (vs.zip vs):=by
  have:=Array.perm_iff_toList_perm.mp hp
  rw[pairsOf_toList]at this
  exact this
 refine⟨?_,?_⟩
 ·apply Array.ext'
  rw[pairsOf_toList,map2_pairs fun p hq=>(mem_zip_self (hp'.mem_iff.mp hq)).1]
 ·have:=hp'.map (·.2)
  rw[map2_zip]at this
  exact this
theorem sort_gen{κ:KeyKind}{kd:SortKind}{a:Addr}{vs:List Value}{n:Nat}{P:Fin->Shared->Prop}(ho:s.heap.get? a=some (seqObj "list" vs.toArray n))(h0:KeysOf κ (pairsOf vs))(hl:vs.length<64)
  (hk:2<=vs.length->∀ g:Heap,(∀ b u,b≠a->s.heap.get? b=some u->g.get? b=some u)->LtOk κ kd prog w A { s with heap:=g }/\∀ R:SortKind->Shared->Prop,R kd { s with heap:=g }->wpAny (model prog w) A (keyKind' vs.toArray) R E { s with heap:=g })
  (h:∀ (ws:List Value) (g:Heap) (c:Nat),ws.Perm vs->SortedToK κ (pairsOf ws) ws.length->(∀ b u,b≠a->s.heap.get? b=some u->g.get? b=some u)->g.get? a=some (seqObj "list" ws.toArray c)->P (.done (.ret .none)) { s with heap:=g }) :
  wpAny (model prog w) A (Builtin.«list.sort» ⟨[.ref a],[]⟩) P E s:=by
 have lt0:a<s.heap.objs.size:=zP ho
 have k1:∀ b u,b≠a->s.heap.get? b=some u->(s.heap.update a (Obj.mapSeq fun _=>#[])).get? b=some u:=fun b u ne e=>by rw[Heap.get?_update_ne _ _ _ _ ne];exact e
 obtain⟨c1,g1⟩:∃ c1,(s.heap.update a (Obj.mapSeq fun _=>#[])).get? a=some (seqObj "list" #[] c1):=⟨_,get?_update_seq ho _⟩
 generalize hg1:s.heap.update a (Obj.mapSeq fun _=>#[])=G1 at k1 g1
 have k2:∀ b u,b≠a->s.heap.get? b=some u->((G1.push (seqObj "tuple" vs.toArray 0)).push (seqObj "list" #[] 0)).get? b=some u:=fun b u ne e=>zC _ (zC _ (k1 b u ne e))
 have g2:((G1.push (seqObj "tuple" vs.toArray 0)).push (seqObj "list" #[] 0)).get? a=some (seqObj "list" #[] c1):=zC _ (zC _ g1)
 rw[list_sort_plain]
 refine zB (listItems_at ho rfl (zB (listUpdate_at ho rfl ?_ (hsz:=by rw[zG,sizeLine_eq];lia))))
 rw[hg1]
 refine zB (seqEpoch_at g1 rfl (zB (wpAny_newTuple ?_ (by show vs.length<=_;rw[sizeLine_eq];lia))))
 refine zB (wpAny_newList (wpAny_holding ?_))
 show wpAny (model prog w) A _ P E { s with heap:=(G1.push (seqObj "tuple" vs.toArray 0)).push (seqObj "list" #[] 0) }
 generalize (G1.push (seqObj "tuple" vs.toArray 0)).push (seqObj "list" #[] 0)=G2 at k2 g2
 dsimp only
 have fin:∀ st':SortSt,(arrOf st').Perm (pairsOf vs)->SortedToK κ (arrOf st') (pairsOf vs).size->P (.done (.ret .none)) { s with heap:=G2.update a (Obj.mapSeq fun _=>(arrOf st').map (·.2)) }:=fun st' hp hs=>by
  obtain⟨e,p⟩:=back_pairs hp
  obtain⟨c3,g3⟩:∃ c3,(G2.update a (Obj.mapSeq fun _=>(arrOf st').map (·.2))).get? a=some (seqObj "list" ((arrOf st').map (·.2)) c3):=⟨_,get?_update_seq g2 _⟩
  refine h ((arrOf st').toList.map (·.2)) _ c3 p ?_ (fun b u ne z=>by rw[Heap.get?_update_ne _ _ _ _ ne];exact k2 b u ne z) ?_
  ·rw[<- e]
   have l2:(pairsOf vs).size=((arrOf st').toList.map (·.2)).length:=by rw[pairsOf_size,p.length_eq]
   rw[<- l2]
   exact hs
  ·rw[g3]
   congr 2
   apply Array.ext'
   simp
 by_cases h2:vs.toArray.size<2
 ·rw[if_pos h2,if_pos h2]
  refine zB (zH ?_)
  rw[StateT.run_pure]
  refine zB (zH ?_)
  dsimp only
  refine zB (seqEpoch_at g2 rfl (zB (listUpdate_at g2 rfl ?_ (hsz2:=by rw[Array.size_map];show(pairsOf vs).size<=_;rw[pairsOf_size,sizeLine_eq];lia))))
  simp only[bne_self_eq_false,zAY,if_false]
  refine zH (fin (SortSt.mk' general' (vs.toArray.zip vs.toArray) #[] 7 none) (Array.Perm.refl _) fun i j ij jl=>?_)
  have e:i=j:=by
   rw[pairsOf_size]at jl
   simp only[zG]at h2
   lia
  rw[e]
  exact KeyOrd.kle_refl _
 ·have h2':2<=vs.length:=by simpa using h2
  obtain⟨lo,kk⟩:=hk h2' G2 k2
  rw[if_neg h2,if_neg h2]
  refine zB (kk _ ?_)
  refine zB (wpAny_mono (runs_okZ (κ:=κ) (kd:=kd) (a₀:=pairsOf vs) (st:=SortSt.mk' kd (vs.toArray.zip vs.toArray) #[] 7 none) (Q:=fun _ st'=>(arrOf st').Perm (pairsOf vs)/\failedOf st'=none/\SortedToK κ (arrOf st') (pairsOf vs).size)
   lo h0 ⟨Array.Perm.refl _,rfl,rfl,rfl,fun k z=>absurd z (Nat.not_lt_zero _)⟩ (by rw[pairsOf_size];exact h2') (by rw[pairsOf_size];exact hl) fun st' a1 a2 a3=>⟨a1,a2,fun i j ij jl=>by
    have:=a3 i j ij jl
    rw[Nat.zero_add,Nat.zero_add]at this
    exact this⟩) ?_ fun _ _ e=>e)
  rintro⟨⟨⟩,st'⟩ s' ⟨rfl,hp,hf,hs⟩
  dsimp only
  refine zB (seqEpoch_at g2 rfl (zB (listUpdate_at g2 rfl ?_ (hsz2:=by refine zAC (Nat.le_of_eq ((Array.size_map ..).trans (hp.size_eq.trans (pairsOf_size _)))) ?_;rw[sizeLine_eq];lia))))
  rw[hf]
  simp only[bne_self_eq_false,zAY,if_false]
  exact zH (fin st' hp hs)
theorem sort_at{κ:KeyKind}{kd:SortKind}{a:Addr}{vs:List Value}{n:Nat}{P:Fin->Shared->Prop}(ho:s.heap.get? a=some (seqObj "list" vs.toArray n))(h0:KeysOf κ (pairsOf vs))(hl:vs.length<64)
  (hk:2<=vs.length->∀ g:Heap,(∀ b u,b≠a->s.heap.get? b=some u->g.get? b=some u)->LtOk κ kd prog w A { s with heap:=g }/\∀ R:SortKind->Shared->Prop,R kd { s with heap:=g }->wpAny (model prog w) A (keyKind' vs.toArray) R E { s with heap:=g })
  (h:∀ (ws:List Value) (g:Heap) (c:Nat),ws.Perm vs->SortedToK κ (pairsOf ws) ws.length->(∀ b u,b≠a->s.heap.get? b=some u->g.get? b=some u)->g.get? a=some (seqObj "list" ws.toArray c)->P (.done (.ret .none)) { s with heap:=g }) :
  wpAny (model prog w) A (Builtin.«list.sort» ⟨[.ref a],[]⟩) P E s:=sort_gen ho h0 hl hk h
end
end Srt
namespace L2
open PySem PySem.W PyProof.Rows Srt
theorem intsV_of:∀ {ns:List Int}{us:List Value},Vals (ns.map V.int) us->IntsV ns us
 |[],_,.nil=>.nil
 |n :: ns,_,.cons r t=>.cons r (intsV_of t)
noncomputable def keyA(g:Heap)(a:Addr):List Int:=(show Option (List Int)from(κT g).keyOf (.ref a)).getD []
theorem keyA_eq{g:Heap}{a:Addr}{k:List Int}(x:TupI g (.ref a) k):keyA g a=k:=by
 unfold keyA
 rw[κT_key x]
 rfl
noncomputable def unref:Value->Addr
 | .ref a=>a
 | _=>(0:Nat)
section
variable{X:Cx}{pins:List (Addr×Obj)}{σ:St}{H:Hp}{s:Shared}
theorem tupI_of(I:Inv X pins σ H s){a:Addr}{ns:List Int}(h:H a=some (.tup (ns.map V.int))):TupI s.heap (.ref a) ns:=by
 obtain⟨its,r,⟨o,e,c,n,d⟩,_⟩:=I.tuple (SqT.of h)
 exact⟨a,o,_,n,rfl,e,c,d,intsV_of r⟩
theorem looks_int{M:Model}{h:Heap}{i:Int}{t:Tok}:Looks M h (typeOf (.int i t)) (Value.type "int"):=Looks.now
theorem tups_of{g:Heap}:∀ {as:List Addr}{ks:List (List Int)},Paired (fun a k=>TupI g (.ref a) k/\k≠[]) as ks->∃ fs:List Value,KatTups g (as.map .ref) fs/\fs.length=as.length/\∀ v∈fs,∃ i t,v=Value.int i t:=by
 intro as ks h
 induction h with
 |nil=>exact⟨[],trivial,rfl,fun _ h=>nomatch h⟩
 | @cons a k as ks h r ih =>
  obtain⟨⟨a',o,its,n,e,g1,c,d,p⟩,ne⟩:=h
  cases e
  obtain⟨fs,t,l,z⟩:=ih
  cases k with
  |nil=>exact absurd rfl ne
  |cons i k =>
   obtain⟨il⟩:=its
   cases p with
   |cons r1 r2 =>
    obtain⟨tk,rfl⟩:=r1
    refine⟨_ :: fs,KatTups.cons g1 c d rfl t,by simp[l],fun v hv=>?_⟩
    rcases zT.mp hv with e | e
    ·exact⟨i,tk,e⟩
    ·exact z v e
theorem sort_new{L:Addr}{A:Around}{E:Value->Shared->Prop}{as:List Addr}{ks:List (List Int)}{P:Fin->Shared->Prop}(ho:s.heap.get? L=some (seqObj "list" (as.map Value.ref).toArray 0))(hT:Paired (fun a k=>TupI s.heap (.ref a) k/\k≠[]) as ks)(hl:as.length<64)
  (h:∀ (bs:List Addr) (ns:List (List Int)) (g:Heap) (c:Nat),bs.Perm as->ns.Perm ks->ns.Pairwise (fun x y=>lexlt y x=false)->Paired (fun a k=>TupI s.heap (.ref a) k) bs ns->(∀ b u,b≠L->s.heap.get? b=some u->g.get? b=some u)->g.get? L=some (seqObj "list" (bs.map Value.ref).toArray c) ->
   P (.done (.ret .none)) { s with heap:=g }):wpAny (model X.prog X.w) A (Builtin.«list.sort» ⟨[.ref L],[]⟩) P E s:=by
 have neL:∀ v ns,TupI s.heap v ns->v≠.ref L:=fun v ns x e=>by
  obtain⟨a,o,its,n,rfl,g1,c,_⟩:=x
  cases e
  rw[ho]at g1
  cases g1
  exact absurd (show Value.type "list" = Value.type "tuple" from c) (by decide)
 have lenk:as.length=ks.length:=hT.length
 have kp:∀ g:Heap,(∀ b u,b≠L->s.heap.get? b=some u->g.get? b=some u)->∀ v ns,TupI s.heap v ns->TupI g v ns:=fun g k v ns x=>x.to fun b u e z=>k b u (fun q=>neL v ns x (by rw[e,q])) z
 have memk:∀ v∈as.map Value.ref,∃ k,TupI s.heap v k:=fun v hv=>by
  obtain⟨a,ha,rfl⟩:=zAA.mp hv
  clear h ho neL kp hl lenk hv
  induction hT with
  |nil=>cases ha
  |cons r _ ih =>
   rcases zT.mp ha with e | e
   ·rw[e];exact⟨_,r.1⟩
   ·exact ih e
 refine sort_at (κ:=κT s.heap) (kd:=tuples' true) ho (fun p hp=>?_) (by rw[zA];exact hl) (fun l2 g k=>⟨ltT_ok (kp g k),fun R hR=>?_⟩) fun ws g c pw sw k gL=>?_
 ·rw[pairsOf_toList]at hp
  obtain⟨e1,e2⟩:=Srt.mem_zip_self hp
  obtain⟨kk,x⟩:=memk p.2 e2
  rw[e1]
  exact⟨kk,κT_key x⟩
 ·have hT':Paired (fun a k=>TupI g (.ref a) k/\k≠[]) as ks:=Paired.mapP hT fun a b z=>⟨kp g k _ _ z.1,z.2⟩
  obtain⟨fs,t,l,z⟩:=tups_of hT'
  by_cases e0:fs=[]
  ·rw[e0]at l
   rw[zA]at l2
   simp at l
   lia
  ·refine kat_kind (T:=Value.type "int") t (zBA.mpr e0) (fun v hv=>?_) (by decide) ?_
   ·obtain⟨i,tk,rfl⟩:=z v hv
    exact looks_int
   ·have e:(Value.type "int" != Value.type "tuple")=true:=by decide
    rw[e]
    exact hR
 ·-- the values are refs again,the keys a permutation
  have unr:∀ l:List Value,(∀ v∈l,∃ a,v=Value.ref a)->(l.map unref).map Value.ref=l:=fun l hl=>by
   induction l with
   |nil=>rfl
   |cons v l ih =>
    obtain⟨a,rfl⟩:=hl v (zS ..)
    rw[zAB,zAB,ih fun v hv=>hl v (zQ _ hv)]
    rfl
  have eb:(ws.map unref).map Value.ref=ws:=unr ws fun v hv=>by
   obtain⟨a,_,rfl⟩:=zAA.mp (pw.mem_iff.mp hv)
   exact⟨a,rfl⟩
  have pb:(ws.map unref).Perm as:=by
   have:=pw.map unref
   rw[zBD]at this
   have e:(as.map (unref ∘ Value.ref))=as:=by
    rw[show(unref ∘ Value.ref)=id from rfl,List.map_id]
   rw[e]at this
   exact this
  generalize ws.map unref=bs at eb pb
  subst eb
  have ek:ks=as.map (keyA s.heap):=by
   clear h ho neL kp hl lenk memk pw sw pb
   induction hT with
   |nil=>rfl
   |cons r _ ih=>rw[zAB,keyA_eq r.1,<- ih]
  have kb:∀ b∈bs,TupI s.heap (.ref b) (keyA s.heap b):=fun b hb=>by
   obtain⟨k,x⟩:=memk (.ref b) (zAA.mpr ⟨b,pb.mem_iff.mp hb,rfl⟩)
   rw[keyA_eq x]
   exact x
  refine h bs (bs.map (keyA s.heap)) g c pb (by rw[ek];exact pb.map _) ?_ ?_ k gL
  ·rw[List.pairwise_iff_getElem]
   intro i j hi hj ij
   rw[zA]at hi hj
   have z:=sw i j (Nat.le_of_lt ij) (by rw[zA];exact hj)
   have kk:∀ m (hm:m<bs.length),KK (κT s.heap) (pairsOf (bs.map Value.ref)) m=keyA s.heap bs[m]:=fun m hm=>by
    have e:(pairsOf (bs.map Value.ref))[m]?=some (Value.ref bs[m],Value.ref bs[m]):=by simp[pairsOf,hm]
    unfold KK
    rw[e]
    rfl
   rw[kk i hi,kk j hj]at z
   rw[zR,zR]
   exact z
  ·clear h ho neL kp hl lenk memk pw sw pb gL
   induction bs with
   |nil=>exact .nil
   |cons b bs ih=>exact .cons (kb b (zS ..)) (ih fun b hb=>kb b (zQ _ hb))
theorem call_sortedD(hc:X.calm=true):CallR X (.builtin "sorted") (fun xs H Q=>∃ d kvs ks,xs=[V.ref d]/\H d=some (.dT kvs)/\kvs.map (·.1)=List.map (List.map Sum.inl) ks/\(∀ k∈ks,k≠[])/\kvs.length<64 /\
  ∀ (l:Addr) (as:List Addr) (ns:List (List Int)),H l=none->ns.Perm ks->ns.Pairwise (fun x y=>lexlt y x=false)->Paired (fun a n=>H a=some (.tup (n.map V.int))) as ns->Q (.ref l) (upd H l (.lst (as.map V.ref)))):=by
 intro pins s σ H xs us Q I r h
 obtain⟨d,kvs,ks,rfl,hd,hks,hne,hlen,q⟩:=h
 obtain⟨u,rfl,rx⟩:=vals1 r
 cases rx
 obtain⟨z,nsys,xs,pr,o,es,ep,go,ex,dt,ee,nd⟩:=I.hok d _ hd
 have hpl:xs.length=kvs.length:=pr.length.symm
 have hT:Paired (fun a k=>(H a=some (.tup (k.map V.int))/\k≠[])) (xs.map fun q=>q.2.1) ks:=by
  clear q hd hlen z nd go ex dt ee hpl
  induction pr generalizing ks with
  |nil =>
   cases ks with
   |nil=>exact .nil
   |cons _ _=>simp at hks
  | @cons p x l1 l2 r1 r2 ih =>
   cases ks with
   |nil=>simp at hks
   |cons k ks =>
    simp only[zAB,List.cons.injEq]at hks
    refine .cons ⟨?_,hne k (zS ..)⟩ (ih ks hks.2 fun k hk=>hne k (zQ _ hk))
    rw[r1.2.1,hks.1,zBD]
    rfl
 have raw:RawD d (xs.map fun q=>Value.ref q.2.1) ep s.heap:=⟨o,es,go,ex,dt,by rw[ee,zBD];rfl⟩
 refine Calls.call_function_entry kind_sorted plain_sorted entry_sorted (args_sorted1 _) ?_
 unfold Builtin.«sorted»
 refine zB (m:=checkCount "sorted" 1 1 _) (zH (zB (kdu_collect (A:=X.A.in1) (rawSrc nsys) (show X.A.handled=none from I.ok.hd hc) raw (by rw[zA,hpl,sizeLine_eq];lia) fun h' tk acc kp hacc=>?_)))
 have eacc:acc.toList=(xs.map fun q=>q.2.1).map Value.ref:=by
  apply List.ext_getElem?
  intro i
  by_cases hi:i<acc.size
  ·have e1:acc.toList[i]?=some acc[i]:=by rw[Array.getElem?_toList,Array.getElem?_eq_getElem hi]
   have e2:=hacc.2 i acc[i] (Array.getElem?_eq_getElem hi)
   rw[e1,zBD]
   exact e2.symm
  ·have l0:=hacc.1
   rw[zA]at l0
   rw[List.getElem?_eq_none (by rw[zBQ];omega),List.getElem?_eq_none (by rw[zA,zA];lia)]
 rw[eacc]
 generalize exs:(xs.map fun q=>q.2.1)=as0 at hT
 have las:as0.length<64:=by rw[<- exs,zA];lia
 refine zB (wpAny_newList ?_ (by rw[zA,sizeLine_eq];lia))
 have gL:(h'.push (seqObj "list" (as0.map Value.ref).toArray 0)).get? h'.objs.size=some (seqObj "list" (as0.map Value.ref).toArray 0):=zW _ rfl
 have I1:Inv X pins σ H { s with heap:=h',toks:=tk }:=I.kept kp
 have kp2:∀ b u,h'.get? b=some u->(h'.push (seqObj "list" (as0.map Value.ref).toArray 0)).get? b=some u:=fun b u e=>zC _ e
 have tT:Paired (fun a k=>TupI (h'.push (seqObj "list" (as0.map Value.ref).toArray 0)) (.ref a) k/\k≠[]) as0 ks:=Paired.mapP hT fun a k z=>⟨(tupI_of I1 z.1).to fun b u _ e=>kp2 b u e,z.2⟩
 have memH:∀ a∈as0,∃ k:List Int,H a=some (.tup (k.map V.int)):=fun a ha=>by
  clear q exs eacc raw gL tT kp2 las hks hne hlen
  induction hT with
  |nil=>cases ha
  |cons r _ ih =>
   rcases zT.mp ha with e | e
   ·rw[e];exact⟨_,r.1⟩
   ·exact ih e
 refine zB (wpAny_holding (wpAny_call_entry slot_list_sort ⟨_,gL,rfl⟩ entry_list_sort (sort_new (X:=X) (s:={ s with heap:=h'.push (seqObj "list" (as0.map Value.ref).toArray 0),toks:=tk }) gL tT las fun bs ns g c pb pn pw pt kp3 gg=>⟨_,rfl,?_⟩) (args_list_sort _)))
 refine zH ⟨_,rfl,.ref h'.objs.size,_,I1.laid (t':=tk) (a:=h'.objs.size) (o:=.lst (bs.map V.ref)) (fun b u e=>kp3 b u (zZ (zP e)) (kp2 b u e)) (zI _) (show ObjOk X.prog X.w _ g _ (.lst (bs.map V.ref))from⟨?_,bs.map Value.ref,c,?_,gg⟩),rfl,q _ bs ns (I1.hok.fresh (zI _)) pn pw ?_⟩
 ·rw[zA,pb.length_eq,sizeLine_eq];lia
 ·clear pb pt gg
  induction bs with
  |nil=>exact .nil
  |cons b bs ih=>exact .cons rfl ih
 ·have memB:∀ a∈bs,∃ k:List Int,H a=some (.tup (k.map V.int)):=fun a ha=>memH a (pb.mem_iff.mp ha)
  clear pb gg pn pw
  induction pt with
  |nil=>exact .nil
  | @cons a k l1 l2 r1 _ ih =>
   refine .cons ?_ (ih fun a ha=>memB a (zQ _ ha))
   obtain⟨k',e⟩:=memB a (zS ..)
   rw[e,r1.inj ((tupI_of I1 e).to fun b u _ z=>kp2 b u z)]
end
open PySem PySem.W PyProof.Rows
section
variable{X:Cx}
theorem call_sum(hc:X.calm=true):CallR X (.builtin "sum") (fun xs H Q=>∃ (l:Addr) (ns:List Int),xs=[V.ref l]/\SqL X.K H l (ns.map V.int)/\Q (.int ns.sum) H):=by
 intro pins s σ H xs us Q I r h
 obtain⟨l,ns,rfl,hq,q⟩:=h
 obtain⟨u,rfl,rx⟩:=vals1 r
 cases rx
 obtain⟨its,r',pl,hz⟩:=I.list hq
 have hi:=intsAre_of r'
 obtain⟨ys,hx⟩:=hi.allInts.items
 have pl':s.heap.IsList l (intItems ys):=hx▸pl.isList
 refine sum_intListG (I.ok.hd hc) pl' fun h' tk t' hk=>?_
 have e1:ns=ys.toList.map (·.1):=by
  rw[<- nums_intItems,<- hx]
  exact(show numsOf its.toArray.toList=ns from hi.numsOf).symm
 have e2:preSum (numAt ys) ys.size=ns.sum:=by rw[preSum_eq,zAM (by simp),e1]
 rw[e2]
 exact⟨.int ns.sum,H,I.kept hk,⟨t',rfl⟩,q⟩
noncomputable def upto(n:Nat):List Int:=(List.range n).map fun(i:Nat)=>(i:Int)
theorem upto_length(n:Nat):(upto n).length=n:=by simp[upto]
theorem call_isinst:CallR X (.builtin "isinstance") (fun xs H Q=>∃ x t c b,xs=[x,V.ty c]/\TyOf X.K H x t/\PySem.W.kitOne X.K t (.type c)=some b/\Q (.bl b) H):=by
 intro pins s σ H xs us Q I r h
 obtain⟨x,t,c,b,rfl,ty,e,q⟩:=h
 obtain⟨u,u',rfl,rx,rc⟩:=vals2 r
 cases rc
 exact isinst_ok I rx ty e fun tk=>⟨.bl b,H,I.tok _,rfl,q⟩
end
theorem star_sub{a b:Expr}{pos:Pos}{rest:List Expr}{env:Env}:starEach (.Subscript a b pos :: rest) env=(false,eval (.Subscript a b pos) env) :: starEach rest env:=rfl
theorem star_call{f:Expr}{args:List Expr}{ks:List Keyword}{pos:Pos}{rest:List Expr}{env:Env}:starEach (.Call f args ks pos :: rest) env=(false,eval (.Call f args ks pos) env) :: starEach rest env:=rfl
theorem star_bin{a b:Expr}{op:Operator}{pos:Pos}{rest:List Expr}{env:Env}:starEach (.BinOp a op b pos :: rest) env=(false,eval (.BinOp a op b pos) env) :: starEach rest env:=rfl
theorem star_comp{e:Expr}{gs:List Comprehension}{sc:Scope}{pos:Pos}{rest:List Expr}{env:Env}:starEach (.ListComp e gs sc pos :: rest) env=(false,eval (.ListComp e gs sc pos) env) :: starEach rest env:=rfl
theorem star_lst{es:List Expr}{pos:Pos}{rest:List Expr}{env:Env}:starEach (.List es pos :: rest) env=(false,eval (.List es pos) env) :: starEach rest env:=rfl
theorem star_tup{es:List Expr}{k:Nat}{pos:Pos}{rest:List Expr}{env:Env}:starEach (.Tuple es k pos :: rest) env=(false,eval (.Tuple es k pos) env) :: starEach rest env:=rfl
section
variable{X:Cx}{es:List Expr}{te:TE}{t:TA}{pos:Pos}
theorem pa_sub{a b:Expr}(ha:PE X (.Subscript a b pos) te)(hr:PA X es t):PA X (.Subscript a b pos :: es) (tCons te t):=pa_cons ha hr (hs:=star_sub)
theorem pa_call{f:Expr}{args:List Expr}{ks:List Keyword}(ha:PE X (.Call f args ks pos) te)(hr:PA X es t):PA X (.Call f args ks pos :: es) (tCons te t):=pa_cons ha hr (hs:=star_call)
theorem pa_bin{a b:Expr}{op:Operator}(ha:PE X (.BinOp a op b pos) te)(hr:PA X es t):PA X (.BinOp a op b pos :: es) (tCons te t):=pa_cons ha hr (hs:=star_bin)
theorem pa_comp{e:Expr}{gs:List Comprehension}{sc:Scope}(ha:PE X (.ListComp e gs sc pos) te)(hr:PA X es t):PA X (.ListComp e gs sc pos :: es) (tCons te t):=pa_cons ha hr (hs:=star_comp)
theorem pa_lst{xs:List Expr}(ha:PE X (.List xs pos) te)(hr:PA X es t):PA X (.List xs pos :: es) (tCons te t):=pa_cons ha hr (hs:=star_lst)
theorem pa_tup{xs:List Expr}{k:Nat}(ha:PE X (.Tuple xs k pos) te)(hr:PA X es t):PA X (.Tuple xs k pos :: es) (tCons te t):=pa_cons ha hr (hs:=star_tup)
theorem star_cst{c:Const}{k:Nat}{pos:Pos}{rest:List Expr}{env:Env}:starEach (.Constant c k pos :: rest) env=(false,eval (.Constant c k pos) env) :: starEach rest env:=rfl
theorem star_nam{x:Str}{pos:Pos}{rest:List Expr}{env:Env}:starEach (.Name x pos :: rest) env=(false,eval (.Name x pos) env) :: starEach rest env:=rfl
theorem pa_cst{c:Const}{k:Nat}(ha:PE X (.Constant c k pos) te)(hr:PA X es t):PA X (.Constant c k pos :: es) (tCons te t):=pa_cons ha hr (hs:=star_cst)
theorem pa_nam{x:Str}(ha:PE X (.Name x pos) te)(hr:PA X es t):PA X (.Name x pos :: es) (tCons te t):=pa_cons ha hr (hs:=star_nam)
end
end L2
namespace Srt
open PySem PySem.W PyProof.Rows
noncomputable def SeqK(b:Bool)(g:Heap)(l:Addr)(xs:Array Value):Prop:=match b with
 |true=>g.IsTuple l xs
 |false=>g.IsList l xs
noncomputable def ItK(b:Bool)(g:Heap)(it l:Addr)(i:Nat):Prop:=match b with
 |true=>g.IsTupleIter it l i
 |false=>g.IsListIter it l i
noncomputable def itO(b:Bool)(l:Addr):Obj:=match b with
 |true=>{ cls:=.type "tuple_iterator",data:=.fields #[.ref l,.int 0 0] }
 |false=>{ cls:=.type "list_iterator",data:=.fields #[.ref l,.int 0 0] }
theorem SeqK.to{b:Bool}{g g':Heap}{l:Addr}{xs:Array Value}(x:SeqK b g l xs)(k:∀ o,g.get? l=some o->g'.get? l=some o):SeqK b g' l xs:=by
 cases b
 ·exact Heap.IsList.at x k
 ·exact Heap.IsTuple.at x k
theorem ItK.to{b:Bool}{g g':Heap}{it l:Addr}{i:Nat}(x:ItK b g it l i)(k:∀ o,g.get? it=some o->g'.get? it=some o):ItK b g' it l i:=by
 cases b
 ·exact Heap.IsListIter.at x k
 ·obtain⟨o,e,r⟩:=(show g.IsTupleIter it l i from x)
  exact⟨o,k o e,r⟩
theorem ItK.lt{b:Bool}{g:Heap}{it l:Addr}{i:Nat}(x:ItK b g it l i):∃ o,g.get? it=some o/\∀ v,o.data≠.cell v:=by
 cases b
 ·obtain⟨o,e,c,d⟩:=(show g.IsListIter it l i from x)
  exact⟨o,e,fun v z=>by rw[d]at z;cases z⟩
 ·obtain⟨o,e,c,d⟩:=(show g.IsTupleIter it l i from x)
  exact⟨o,e,fun v z=>by rw[d]at z;cases z⟩
section
variable{prog:Program}{w:World}{A:Around}{E:Value->Shared->Prop}{s:Shared}
theorem nextK_item{b:Bool}{it l:Addr}{i:Nat}{xs:Array Value}{x:Value}{Q:Value->Shared->Prop}(hit:ItK b s.heap it l i)(hl:SeqK b s.heap l xs)(hx:xs[i]?=some x)
  (q:∀ g,ItK b g it l (i+1)->Heap.SameBut it s.heap g->Q x { s with heap:=g }):wpAny (model prog w) A (Builtin.SmallTypes.nextOf (.ref it)) Q E s:=by
 cases b
 ·exact wpAny_nextOf_list_item hit hl hx q
 ·have ty:s.TypeIs (.ref it) "tuple_iterator":=by
   obtain⟨o,e,c,_⟩:=(show s.heap.IsTupleIter it l i from hit)
   exact⟨o,e,c⟩
  obtain⟨o,e,c,d⟩:=(show s.heap.IsTupleIter it l i from hit)
  obtain⟨o2,e2,_,n2,d2⟩:=(show s.heap.IsTuple l xs from hl)
  unfold Builtin.SmallTypes.nextOf;refine zB (wpAny_callSpecial?_slot (name:=Str.ofString "__next__") ty F.slot_tuple_iterator_next (wpAny_call_entry F.slot_tuple_iterator_next ty F.entry_tuple_iterator_next ?_ (F.args_tuple_iterator_next_1 _)))
  show wpAny _ _ (field (.ref it) 0 >>= _) _ _ s;refine zB (wpAny_field e d (x:=.ref l) rfl ?_)
  show wpAny _ _ (if(Value.ref l == Value.none)=true then _ else _) _ _ s;rw[if_neg (show ¬((Value.ref l == Value.none)=true)from zN)]
  show wpAny _ _ (field (.ref it) 1 >>= _) _ _ s;refine zB (wpAny_field e d (x:=.int i 0) rfl ?_)
  show wpAny _ _ (seqItems? (.ref l) >>= _) _ _ s;refine zB (wpAny_seqItems e2 d2 ?_)
  simp only[zAO,hx]
  refine zB (wpAny_setField e d (by simp) (zH ⟨x,rfl,zH (q _ ?_ (Heap.SameBut.update ..))⟩))
  exact(show Heap.IsTupleIter _ it l (i+1)from⟨_,Heap.get?_update_self _ e (Obj.isFreed_of_fields (Obj.data_mapFields d _)),(Obj.cls_mapFields ..).trans c,by rw[Obj.data_mapFields d];simp[rawInt]⟩)
theorem nextK_end{b:Bool}{it l:Addr}{i:Nat}{xs:Array Value}{Q:Value->Shared->Prop}(hh:A.handled=none)(hit:ItK b s.heap it l i)(hl:SeqK b s.heap l xs)(hx:xs[i]?=none)
  (q:∀ g e,Heap.ExtBut it s.heap g->(∃ o,g.get? e=some o/\o.cls = .type "StopIteration")->E (.ref e) { s with heap:=g }):wpAny (model prog w) A (Builtin.SmallTypes.nextOf (.ref it)) Q E s:=by
 cases b
 ·exact wpAny_nextOf_list_end hh hit hl hx q
 ·have ty:s.TypeIs (.ref it) "tuple_iterator":=by
   obtain⟨o,e,c,_⟩:=(show s.heap.IsTupleIter it l i from hit)
   exact⟨o,e,c⟩
  obtain⟨o,e,c,d⟩:=(show s.heap.IsTupleIter it l i from hit)
  obtain⟨o2,e2,_,n2,d2⟩:=(show s.heap.IsTuple l xs from hl)
  unfold Builtin.SmallTypes.nextOf;refine zB (wpAny_callSpecial?_slot (name:=Str.ofString "__next__") ty F.slot_tuple_iterator_next (wpAny_call_entry F.slot_tuple_iterator_next ty F.entry_tuple_iterator_next ?_ (F.args_tuple_iterator_next_1 _)))
  show wpAny _ _ (field (.ref it) 0 >>= _) _ _ s;refine zB (wpAny_field e d (x:=.ref l) rfl ?_)
  show wpAny _ _ (if(Value.ref l == Value.none)=true then _ else _) _ _ s;rw[if_neg (show ¬((Value.ref l == Value.none)=true)from zN)]
  show wpAny _ _ (field (.ref it) 1 >>= _) _ _ s;refine zB (wpAny_field e d (x:=.int i 0) rfl ?_)
  show wpAny _ _ (seqItems? (.ref l) >>= _) _ _ s;refine zB (wpAny_seqItems e2 d2 ?_)
  simp only[zAO,hx];refine zB (wpAny_rule (zB (wpAny_setField e d (by simp) ?_)))
  show wpAny _ _ (newExc (.type "StopIteration") [] >>= _) _ _ _;refine zB ?_
  simp only[newExc,newTuple];refine zB (wpAny_newObj_type ?_ (by size_fits))
  refine zB (m:=firstArgMember _ _) (wpAny_of_eq (a:=Value.none) (by first | rfl |(simp only[firstArgMember];rfl)) (wpAny_newObj_type ?_ (by size_fits)))
  simp only[raiseNew];refine zB (wpAny_handled ?_)
  rw[show A.in1.handled=none from hh];refine zB (zH (wpAny_throw ?_))
  exact q _ _ (((Heap.SameBut.update ..).extBut.push _).push _) ⟨_,zW _ rfl,rfl⟩
structure ZA(z ti to i1 i2:Addr):Prop where
 a1:ti≠z
 a2:to≠z
 a3:i1≠z
 a4:i2≠z
 a5:ti≠to
 a6:ti≠i1
 a7:ti≠i2
 a8:to≠i1
 a9:to≠i2
 a10:i1≠i2
noncomputable def Off(z to i1 i2 l:Addr):Prop:=l≠z/\l≠to/\l≠i1/\l≠i2
theorem zipK_item{b1 b2:Bool}{z ti to i1 i2 l1 l2:Addr}{k:Nat}{xs ys:Array Value}{x y a b:Value}{Q:Value->Shared->Prop}(D:ZA z ti to i1 i2)(o1:Off z to i1 i2 l1)(o2:Off z to i1 i2 l2)
  (hz:IsZip s.heap z ti to .none) (hTI:IsPair s.heap ti (.ref i1) (.ref i2)) (hTO:IsPair s.heap to a b) (h1:ItK b1 s.heap i1 l1 k) (h2:ItK b2 s.heap i2 l2 k) (hl1:SeqK b1 s.heap l1 xs) (hl2:SeqK b2 s.heap l2 ys) (hx:xs[k]?=some x) (hy:ys[k]?=some y)
  (q:∀ g,IsZip g z ti to (rawInt s.heap.objs.size)->IsPair g to x y->ItK b1 g i1 l1 (k+1)->ItK b2 g i2 l2 (k+1)->IsPair g s.heap.objs.size x y->(∀ c o,c≠z->c≠to->c≠i1->c≠i2->s.heap.get? c=some o->g.get? c=some o)->Q (.ref s.heap.objs.size) { s with heap:=g }) :
  wpAny (model prog w) A (Builtin.«zip.__next__» ⟨[.ref z],[]⟩) (fun fin s'=>∃ v,fin = .done (.ret v)/\Q v s') E s:=by
 show wpAny _ _ (field (.ref z) 2 >>= _) _ _ _;refine zB (wpAny_field hz rfl (x:=.bool false) rfl ?_)
 show wpAny _ _ (field (.ref z) 3 >>= _) _ _ _;refine zB (wpAny_field hz rfl (x:=.ref ti) rfl (zB (wpAny_seqItems hTI rfl ?_)))
 show wpAny _ _ (Builtin.SmallTypes.ownedTupleIsFree (.ref z) >>= _) _ _ _;refine zB ?_
 unfold Builtin.SmallTypes.ownedTupleIsFree;refine zB (wpAny_field hz rfl (x:=.none) rfl (zH ?_))
 simp only[if_true];refine zB (wpAny_rule (zB (wpAny_field hz rfl (x:=.ref to) rfl (zB (wpAny_setField_rec hz (by simp) fun g1 z1 e1=>?_)))))
 replace z1:IsZip g1 z ti to .ellipsis:=z1
 refine zB ?_;simp only[List.zipIdx_cons,List.zipIdx_nil,List.forIn_cons,List.forIn_nil]
 refine zB (zB (wpAny_onRaise ?_));show wpAny _ _ (Builtin.SmallTypes.nextOf (.ref i1) >>= _) _ _ _
 refine zB (nextK_item (h1.to fun o e=>e1.extBut _ _ D.a3 e) (hl1.to fun o e=>e1.extBut _ _ o1.1 e) hx fun g2 n2 e2=>zH ?_)
 have t2:IsPair g2 to a b:=e2.extBut _ _ D.a8 (e1.extBut _ _ D.a2 hTO)
 refine zB (wpAny_seqItems t2 rfl (zB (wpAny_updateSeq_pair t2 fun g3 t3 e3=>?_)))
 replace t3:IsPair g3 to x b:=t3
 refine zB (wpAny_letGo (zH (zB (zB (wpAny_onRaise ?_)))));show wpAny _ _ (Builtin.SmallTypes.nextOf (.ref i2) >>= _) _ _ _
 refine zB (nextK_item (((h2.to fun o e=>e1.extBut _ _ D.a4 e).to fun o e=>e2.extBut _ _ (Ne.symm D.a10) e).to fun o e=>e3.extBut _ _ (Ne.symm D.a9) e) (((hl2.to fun o e=>e1.extBut _ _ o2.1 e).to fun o e=>e2.extBut _ _ o2.2.2.1 e).to fun o e=>e3.extBut _ _ o2.2.1 e) hy fun g4 n4 e4=>zH ?_)
 have t4:IsPair g4 to x b:=e4.extBut _ _ D.a9 t3
 refine zB (wpAny_seqItems t4 rfl (zB (wpAny_updateSeq_pair t4 fun g5 t5 e5=>?_)))
 replace t5:IsPair g5 to x y:=t5
 refine zB (wpAny_letGo (zH (zH (zB (wpAny_seqItems t5 rfl (zB (wpAny_newTuple ?_)))))))
 have sz:g5.objs.size=s.heap.objs.size:=by rw[e5.1,e4.1,e3.1,e2.1,e1.1]
 have z5:IsZip g5 z ti to .ellipsis:=e5.extBut _ _ (Ne.symm D.a2) (e4.extBut _ _ (Ne.symm D.a4) (e3.extBut _ _ (Ne.symm D.a2) (e2.extBut _ _ (Ne.symm D.a3) z1)))
 have k5:∀ c o,c≠z->c≠to->c≠i1->c≠i2->s.heap.get? c=some o->g5.get? c=some o:=fun c o c1 c2 c3 c4 e=>e5.extBut _ _ c2 (e4.extBut _ _ c4 (e3.extBut _ _ c2 (e2.extBut _ _ c3 (e1.extBut _ _ c1 e))))
 have n15:ItK b1 g5 i1 l1 (k+1):=((n2.to fun o e=>e3.extBut _ _ (Ne.symm D.a8) e).to fun o e=>e4.extBut _ _ D.a10 e).to fun o e=>e5.extBut _ _ (Ne.symm D.a8) e
 have n25:ItK b2 g5 i2 l2 (k+1):=n4.to fun o e=>e5.extBut _ _ (Ne.symm D.a9) e
 show wpAny _ _ (Builtin.SmallTypes.ownedTupleHandOut (.ref z) (.ref g5.objs.size) >>= _) _ _ _;refine zB ?_
 unfold Builtin.SmallTypes.ownedTupleHandOut
 have z6:IsZip (g5.push { cls:=.type "tuple",data:=.seq #[x,y] }) z ti to .ellipsis:=zC _ z5
 refine zB (wpAny_setField_rec z6 (by simp) fun g7 z7 e7=>?_)
 replace z7:IsZip g7 z ti to (rawInt g5.objs.size):=z7
 refine wpAny_setField_rec z7 (by simp) fun g8 z8 e8=>?_
 replace z8:IsZip g8 z ti to (rawInt g5.objs.size):=z8
 have up:∀ c o,c≠z->g5.get? c=some o->g8.get? c=some o:=fun c o c1 e=>e8.extBut _ _ c1 (e7.extBut _ _ c1 (zC _ e))
 have zlt:z<g5.objs.size:=zP z5
 have p8:IsPair g8 g5.objs.size x y:=e8.extBut _ _ (Nat.ne_of_gt zlt) (e7.extBut _ _ (Nat.ne_of_gt zlt) (zW _ rfl))
 rw[sz]at z8 p8
 refine zH ⟨_,rfl,?_⟩
 show Q (.ref g5.objs.size) _;rw[sz]
 exact q g8 z8 (up _ _ D.a2 t5) (n15.to fun o e=>up _ o D.a3 e) (n25.to fun o e=>up _ o D.a4 e) p8 fun c o c1 c2 c3 c4 e=>up c o c1 (k5 c o c1 c2 c3 c4 e)
theorem zipK_end{b1 b2:Bool}{z ti to i1 i2 l1 l2:Addr}{k:Nat}{xs ys:Array Value}{a b:Value}{Q:Fin->Shared->Prop}(hh:A.handled=none)(D:ZA z ti to i1 i2)(o1:Off z to i1 i2 l1)(o2:Off z to i1 i2 l2)
  (hz:IsZip s.heap z ti to .none) (hTI:IsPair s.heap ti (.ref i1) (.ref i2)) (hTO:IsPair s.heap to a b) (h1:ItK b1 s.heap i1 l1 k) (h2:ItK b2 s.heap i2 l2 k) (hl1:SeqK b1 s.heap l1 xs) (hl2:SeqK b2 s.heap l2 ys) (he:xs[k]?=none\/ys[k]?=none)
  (q:∀ g e,(∀ c o,c≠z->c≠to->c≠i1->c≠i2->s.heap.get? c=some o->g.get? c=some o)->(∃ o,g.get? e=some o/\o.cls = .type "StopIteration")->E (.ref e) { s with heap:=g }) :
  wpAny (model prog w) A (Builtin.«zip.__next__» ⟨[.ref z],[]⟩) Q E s:=by
 show wpAny _ _ (field (.ref z) 2 >>= _) _ _ _;refine zB (wpAny_field hz rfl (x:=.bool false) rfl ?_)
 show wpAny _ _ (field (.ref z) 3 >>= _) _ _ _;refine zB (wpAny_field hz rfl (x:=.ref ti) rfl (zB (wpAny_seqItems hTI rfl ?_)))
 show wpAny _ _ (Builtin.SmallTypes.ownedTupleIsFree (.ref z) >>= _) _ _ _;refine zB ?_
 unfold Builtin.SmallTypes.ownedTupleIsFree;refine zB (wpAny_field hz rfl (x:=.none) rfl (zH ?_))
 simp only[if_true];refine zB (wpAny_rule (zB (wpAny_field hz rfl (x:=.ref to) rfl (zB (wpAny_setField_rec hz (by simp) fun g1 z1 e1=>?_)))))
 replace z1:IsZip g1 z ti to .ellipsis:=z1
 refine zB ?_;simp only[List.zipIdx_cons,List.zipIdx_nil,List.forIn_cons,List.forIn_nil]
 refine zB (zB (wpAny_onRaise ?_));show wpAny _ _ (Builtin.SmallTypes.nextOf (.ref i1) >>= _) _ _ _
 cases hx:xs[k]? with
 |none =>
  refine zB (nextK_end hh (h1.to fun o e=>e1.extBut _ _ D.a3 e) (hl1.to fun o e=>e1.extBut _ _ o1.1 e) hx fun g2 e e2 he=>?_)
  obtain⟨oe,hoe,hce⟩:=he
  have z2:IsZip g2 z ti to .ellipsis:=e2 _ _ (Ne.symm D.a3) z1
  have ez:e≠z:=fun x=>by subst x;rw[z2]at hoe;cases hoe;simp at hce
  refine wpAny_setField_rec z2 (by simp) fun g3 _ e3=>q g3 e (fun c o c1 _ c3 _ x=>e3.extBut _ _ c1 (e2 _ _ c3 (e1.extBut _ _ c1 x))) ⟨oe,e3.extBut _ _ ez hoe,hce⟩
 |some x =>
  have hy:ys[k]?=none:=by
   rcases he with h | h
   ·rw[hx]at h;cases h
   ·exact h
  refine zB (nextK_item (h1.to fun o e=>e1.extBut _ _ D.a3 e) (hl1.to fun o e=>e1.extBut _ _ o1.1 e) hx fun g2 n2 e2=>zH ?_)
  have t2:IsPair g2 to a b:=e2.extBut _ _ D.a8 (e1.extBut _ _ D.a2 hTO)
  refine zB (wpAny_seqItems t2 rfl (zB (wpAny_updateSeq_pair t2 fun g3 t3 e3=>zB (wpAny_letGo (zH (zB (zB (wpAny_onRaise ?_))))))))
  show wpAny _ _ (Builtin.SmallTypes.nextOf (.ref i2) >>= _) _ _ _
  refine zB (nextK_end hh (((h2.to fun o e=>e1.extBut _ _ D.a4 e).to fun o e=>e2.extBut _ _ (Ne.symm D.a10) e).to fun o e=>e3.extBut _ _ (Ne.symm D.a9) e) (((hl2.to fun o e=>e1.extBut _ _ o2.1 e).to fun o e=>e2.extBut _ _ o2.2.2.1 e).to fun o e=>e3.extBut _ _ o2.2.1 e) hy fun g4 e e4 he=>?_)
  obtain⟨oe,hoe,hce⟩:=he
  have z4:IsZip g4 z ti to .ellipsis:=e4 _ _ (Ne.symm D.a4) (e3.extBut _ _ (Ne.symm D.a2) (e2.extBut _ _ (Ne.symm D.a3) z1))
  have ez:e≠z:=fun x=>by subst x;rw[z4]at hoe;cases hoe;simp at hce
  refine wpAny_setField_rec z4 (by simp) fun g5 _ e5=>q g5 e (fun c o c1 c2 c3 c4 x=>e5.extBut _ _ c1 (e4 _ _ c4 (e3.extBut _ _ c2 (e2.extBut _ _ c3 (e1.extBut _ _ c1 x))))) ⟨oe,e5.extBut _ _ ez hoe,hce⟩
theorem pyIterK{b:Bool}{l:Addr}{xs:Array Value}{Q:Value->Shared->Prop}(h:SeqK b s.heap l xs)(q:Q (.ref s.heap.objs.size) { s with heap:=s.heap.push (itO b l) }):wpAny (model prog w) A (pyIter (.ref l)) Q E s:=by
 cases b
 ·exact wpAny_pyIter_list h q
 ·exact wpAny_pyIter_tuple h q
theorem ItK.new{b:Bool}{l:Addr}(g:Heap):ItK b (g.push (itO b l)) g.objs.size l 0:=by
 cases b
 ·exact(show Heap.IsListIter _ _ _ _ from⟨_,zW _ rfl,rfl,rfl⟩)
 ·exact(show Heap.IsTupleIter _ _ _ _ from⟨_,zW _ rfl,rfl,rfl⟩)
noncomputable abbrev zK2(g:Heap)(b1 b2:Bool)(l1 l2:Addr):Heap:=(g.push (itO b1 l1)).push (itO b2 l2)
noncomputable abbrev zK3(g:Heap)(b1 b2:Bool)(l1 l2:Addr):Heap:=(zK2 g b1 b2 l1 l2).push { cls:=.type "tuple",data:=.seq #[.ref g.objs.size,.ref (g.push (itO b1 l1)).objs.size] }
noncomputable abbrev zK4(g:Heap)(b1 b2:Bool)(l1 l2:Addr):Heap:=(zK3 g b1 b2 l1 l2).push { cls:=.type "tuple",data:=.seq #[.none,.none] }
noncomputable abbrev zK5(g:Heap)(b1 b2:Bool)(l1 l2:Addr):Heap:=(zK4 g b1 b2 l1 l2).push { cls:=.type "zip",data:=.fields #[.none,.bool false,.bool false,.ref (zK2 g b1 b2 l1 l2).objs.size,.ref (zK3 g b1 b2 l1 l2).objs.size] }
theorem zipK_new(b1 b2:Bool)(l1 l2:Addr)(xs ys:Array Value):Meets (Builtin.«zip.__new__» ⟨[.type "zip",.ref l1,.ref l2],[]⟩) (fun _ R s=>SeqK b1 s.heap l1 xs/\SeqK b2 s.heap l2 ys/\R (.ok (.ret (.ref (zK4 s.heap b1 b2 l1 l2).objs.size))) { s with heap:=zK5 s.heap b1 b2 l1 l2 }) :=
 .of_wp fun prog w A R s h=>by
  obtain⟨hp,g,d,tk,os⟩:=s
  obtain⟨hl1,hl2,h⟩:=h
  have hsub:=sub_zip
  have hL1:SeqK b1 (Shared.heap ⟨hp,g,d,tk,os⟩) l1 xs:=hl1
  have hL2:SeqK b2 (Shared.heap ⟨hp.push (itO b1 l1),g,d,tk,os⟩) l2 ys:=hl2.to fun o e=>zC _ e
  wp_walk using pyIterK hL1,pyIterK hL2
  exact⟨_,rfl,h⟩
end
end Srt
namespace L2
open PySem PySem.W PyProof.Rows Srt
noncomputable def SqB(b:Bool)(K:PySem.W.Frag)(H:Hp)(l:Addr)(xs:List V):Prop:=match b with
 |true=>SqT K H l xs
 |false=>SqL K H l xs
section
variable{X:Cx}{pins:List (Addr×Obj)}{σ:St}{H:Hp}{s:Shared}{h':Heap}
theorem Inv.seqB(I:Inv X pins σ H s){b:Bool}{l:Addr}{xs:List V}(h:SqB b X.K H l xs):∃ its:List Value,Vals xs its/\SeqK b s.heap l its.toArray/\xs.length<=sizeLine:=by
 cases b
 ·obtain⟨its,r,p,z⟩:=I.list h
  exact⟨its,r,p.isList,z⟩
 ·obtain⟨its,r,p,z⟩:=I.tuple h
  exact⟨its,r,p,z⟩
theorem Inv.seqB_inj(I:Inv X pins σ H s){b:Bool}{l:Addr}{xs ys:List V}(h:SqB b X.K H l xs)(h':SqB b X.K H l ys):xs=ys:=by
 cases b
 ·exact I.list_inj h h'
 ·exact I.tuple_inj h h'
theorem Inv.offB(I:Inv X pins σ H s){b:Bool}{l c:Addr}{xs:List V}(h:SqB b X.K H l xs)(f:FpOk X pins H c):l≠c:=by
 intro e
 subst e
 obtain⟨f0,_,_,f3,_,_⟩:=f
 have base:∀ o,X.K.lookup l=some o->False:=fun o hk=>by
  have eb:=I.ok.mod.kin l o hk
  rcases f3 with f3 | f3
  ·exact I.ok.noex l o eb f3
  ·exact absurd (zY (zP eb) (zAC I.ok.bsz f3)) (zAE _)
 cases b
 ·rcases(show SqL X.K H l xs from h)with(z |⟨o,z⟩) |⟨o,_,_,hk,_⟩
  ·rw[f0]at z;cases z
  ·rw[f0]at z;cases z
  ·exact base o hk
 ·rcases(show SqT X.K H l xs from h)with(z |⟨o,z⟩) |⟨o,_,_,hk,_⟩
  ·rw[f0]at z;cases z
  ·rw[f0]at z;cases z
  ·exact base o hk
theorem Inv.turnedL{t':Nat}{ch:List Addr}(I:Inv X pins σ H s)(hf:∀ b∈ch,FpOk X pins H b)(k:∀ b o,b∉ch->s.heap.get? b=some o->h'.get? b=some o):Inv X pins σ H { s with heap:=h',toks:=t' }:=by
 have nit:∀ b u,H b=some u->b∉ch:=fun b u e z=>by rw[(hf b z).1]at e;cases e
 have loc:X.env.locals∉ch:=fun z=>(hf _ z).2.1 rfl
 refine I.step (g':=s.gens) (d':=s.drawn) (ch:=ch) (fun b hb=>?_) (fun b o _ _ hc e _=>k b o hc e) (fun b o _ _ hc e _=>⟨o.slots,k b o hc e⟩) (fun _ _ _ _ n=>n) (fun b o hc e=>⟨o,k b o hc e⟩) (fun _ _ e=>e) (fun _ _ _ e=>e) (fun b ps e=>⟨#[],by rw[e];simp⟩) (fun m hm=>?_) (fun b u e=>?_) I.bare
 ·obtain⟨_,f1,_,f3,f4,f5⟩:=hf b hb
  exact⟨f3,f1,f4,f5⟩
 ·obtain⟨o,es,ep,ho,r⟩:=hm
  exact⟨o,es,ep,k _ o loc ho,r⟩
 ·refine(I.hok b u e).stay (fun c v hc q=>k c v ?_ q) (fun _ q=>q) fun _ _ q=>q
  rcases hc with z | z
  ·rw[z];exact nit b u e
  ·exact nit c _ z
theorem Inv.turnedN{t':Nat}{ch:List Addr}{a:Addr}{ob:HO}(I:Inv X pins σ H s)(hf:∀ b∈ch,FpOk X pins H b)(k:∀ b o,b∉ch->s.heap.get? b=some o->h'.get? b=some o)(ha:s.heap.objs.size<=a)(new:ObjOk X.prog X.w (upd H a ob) h' a ob) :
  Inv X pins σ (upd H a ob) { s with heap:=h',toks:=t' }:=by
 have hn:H a=none:=I.hok.fresh ha
 have nit:∀ b u,H b=some u->b∉ch:=fun b u e z=>by rw[(hf b z).1]at e;cases e
 have loc:X.env.locals∉ch:=fun z=>(hf _ z).2.1 rfl
 have old:∀ b o,s.heap.get? b=some o->b≠a:=fun b o e=>zZ (zY (zP e) ha)
 refine I.step (g':=s.gens) (d':=s.drawn) (ch:=ch) (fun b hb=>?_) (fun b o _ _ hc e _=>k b o hc e) (fun b o _ _ hc e _=>⟨o.slots,k b o hc e⟩) (fun b o _ e n=>by rw[upd_ne (old b o e)];exact n) (fun b o hc e=>⟨o,k b o hc e⟩)
  (fun b xs e=>by rw[upd_ne (ne_of_none e hn)];exact e) (fun b o u e=>by rw[upd_ne (ne_of_none e hn)];exact e) (fun b ps e=>⟨#[],by rw[upd_ne (ne_of_none e hn),e];simp⟩) (fun m hm=>?_) (fun b u e=>?_) I.bare
 ·obtain⟨_,f1,_,f3,f4,f5⟩:=hf b hb
  exact⟨f3,f1,f4,f5⟩
 ·obtain⟨o,es,ep,ho,r⟩:=hm
  exact⟨o,es,ep,k _ o loc ho,r⟩
 ·by_cases hb:b=a
  ·subst hb
   rw[upd_same]at e
   cases e
   exact new
  ·rw[upd_ne hb]at e
   refine(I.hok b u e).stay (fun c v hc q=>k c v ?_ q) (fun c q=>by rw[upd_ne (ne_of_none q hn)];exact q) fun c xs q=>by rw[upd_ne (ne_of_none q hn)];exact q
   rcases hc with z | z
   ·rw[z];exact nit b u e
   ·exact nit c _ z
end
noncomputable def Itz(K:PySem.W.Frag)(b1 b2:Bool)(l1 l2:Addr):It :=
  ⟨fun i H=>∃ xs ys x y,SqB b1 K H l1 xs/\SqB b2 K H l2 ys/\xs[i]?=some x/\ys[i]?=some y,
   fun i H v H'=>∃ T x y,v = .ref T/\H T=none/\H'=upd H T (.tup [x,y])/\(∀ xs,SqB b1 K H l1 xs->xs[i]?=some x)/\∀ ys,SqB b2 K H l2 ys->ys[i]?=some y,
   fun i H=>∃ xs ys,SqB b1 K H l1 xs/\SqB b2 K H l2 ys/\(xs.length<=i\/ys.length<=i)⟩
theorem turn_zip{P:Program}{w:World}{K:PySem.W.Frag}{es:List Expr}{kk:Nat}{pos:Pos}(b1 b2:Bool)(z ti to i1 i2 l1 l2:Addr)(D:ZA z ti to i1 i2):Turn P w K (.Tuple es kk pos) (Itz K b1 b2 l1 l2) [z,ti,to,i1,i2] z
  (fun i h=>IsZip h z ti to .none/\IsPair h ti (.ref i1) (.ref i2)/\(∃ a b,IsPair h to a b)/\ItK b1 h i1 l1 i/\ItK b2 h i2 l2 i)where
 mem:=by simp
 obj:=fun i h st b hb=>by
  obtain⟨hz,hti,⟨a,c,hto⟩,h1,h2⟩:=st
  simp only[zT,zAT,or_false]at hb
  rcases hb with e | e | e | e | e
  ·rw[e];exact⟨_,hz,fun v z=>by cases z⟩
  ·rw[e];exact⟨_,hti,fun v z=>by cases z⟩
  ·rw[e];exact⟨_,hto,fun v z=>by cases z⟩
  ·rw[e];exact h1.lt
  ·rw[e];exact h2.lt
 keep:=fun i h h' st k=>by
  obtain⟨hz,hti,⟨a,c,hto⟩,h1,h2⟩:=st
  exact⟨k z (by simp) _ hz,k ti (by simp) _ hti,⟨a,c,k to (by simp) _ hto⟩,h1.to fun o e=>k i1 (by simp) o e,h2.to fun o e=>k i2 (by simp) o e⟩
 item:=by
  intro X hP hw hK hc i pins s σ H E I hf st hg
  subst hP hw hK
  obtain⟨hz,hti,⟨a,c,hto⟩,h1,h2⟩:=st
  obtain⟨xs,ys,x,y,q1,q2,hx,hy⟩:=hg
  obtain⟨us,r1,p1,_⟩:=I.seqB q1
  obtain⟨ws,r2,p2,_⟩:=I.seqB q2
  obtain⟨u,hu,ru⟩:=r1.get hx
  obtain⟨v,hv,rv⟩:=r2.get hy
  have off1:Off z to i1 i2 l1:=⟨I.offB q1 (hf z (by simp)),I.offB q1 (hf to (by simp)),I.offB q1 (hf i1 (by simp)),I.offB q1 (hf i2 (by simp))⟩
  have off2:Off z to i1 i2 l2:=⟨I.offB q2 (hf z (by simp)),I.offB q2 (hf to (by simp)),I.offB q2 (hf i1 (by simp)),I.offB q2 (hf i2 (by simp))⟩
  have hT:s.TypeIs (.ref z) "zip":=⟨_,hz,rfl⟩
  have hn:H s.heap.objs.size=none:=I.hok.fresh (zI _)
  unfold pyNext
  refine zB (wpAny_attempt (wpAny_callSpecial?_slot (name:=Str.ofString "__next__") hT F.slot_zip_next (wpAny_call_entry F.slot_zip_next hT F.entry_zip_next
   (zipK_item D off1 off2 hz hti hto h1 h2 p1 p2 (x:=u) (y:=v) (by simpa using hu) (by simpa using hv) fun g z1 t1 n1 n2 pp kp=>zH ⟨_,rfl,?_⟩) (F.args_zip_next_1 _))))
  refine wpAny_letOwnedTupleGo_zip z1 fun g' z2 sb=>?_
  have zlt:z≠s.heap.objs.size:=zZ (zP hz)
  have kp2:∀ b o,b∉[z,ti,to,i1,i2]->s.heap.get? b=some o->g'.get? b=some o:=fun b o nb e=>by
   simp only[zT,zAT,or_false,not_or]at nb
   exact sb.extBut _ _ nb.1 (kp b o nb.1 nb.2.2.1 nb.2.2.2.1 nb.2.2.2.2 e)
  have I2:Inv X pins σ (upd H s.heap.objs.size (.tup [x,y])) { s with heap:=g' }:=I.turnedN (t':=s.toks) (ch:=[z,ti,to,i1,i2]) (a:=s.heap.objs.size) (ob:=.tup [x,y]) hf kp2 (zI _) (show ObjOk X.prog X.w _ g' _ (.tup [x,y])from⟨by show 2<=sizeLine;decide,[u,v],.cons ru (.cons rv .nil),⟨_,sb.extBut _ _ (Ne.symm zlt) pp,rfl,0,rfl⟩⟩)
  refine⟨.ref s.heap.objs.size,_,I2,rfl,⟨_,x,y,rfl,hn,rfl,fun xs' h=>by rw[I.seqB_inj h q1];exact hx,fun ys' h=>by rw[I.seqB_inj h q2];exact hy⟩,⟨z2,sb.extBut _ _ D.a1 (kp _ _ D.a1 D.a5 D.a6 D.a7 hti),⟨_,_,sb.extBut _ _ D.a2 t1⟩,n1.to fun o e=>sb.extBut _ _ D.a3 e,n2.to fun o e=>sb.extBut _ _ D.a4 e⟩,fun b hb=>?_⟩
  have bo:∃ o,s.heap.get? b=some o:=by
   simp only[zT,zAT,or_false]at hb
   rcases hb with e | e | e | e | e
   ·rw[e];exact⟨_,hz⟩
   ·rw[e];exact⟨_,hti⟩
   ·rw[e];exact⟨_,hto⟩
   ·rw[e];obtain⟨o,e,_⟩:=h1.lt;exact⟨o,e⟩
   ·rw[e];obtain⟨o,e,_⟩:=h2.lt;exact⟨o,e⟩
  obtain⟨o,e⟩:=bo
  rw[upd_ne (zZ (zP e))]
  exact(hf b hb).1
 done:=by
  intro X hP hw hK hc i pins s σ H E I hf st hg
  subst hP hw hK
  obtain⟨hz,hti,⟨a,c,hto⟩,h1,h2⟩:=st
  obtain⟨xs,ys,q1,q2,he⟩:=hg
  obtain⟨us,r1,p1,_⟩:=I.seqB q1
  obtain⟨ws,r2,p2,_⟩:=I.seqB q2
  have e1:=r1.length
  have e2:=r2.length
  have off1:Off z to i1 i2 l1:=⟨I.offB q1 (hf z (by simp)),I.offB q1 (hf to (by simp)),I.offB q1 (hf i1 (by simp)),I.offB q1 (hf i2 (by simp))⟩
  have off2:Off z to i1 i2 l2:=⟨I.offB q2 (hf z (by simp)),I.offB q2 (hf to (by simp)),I.offB q2 (hf i1 (by simp)),I.offB q2 (hf i2 (by simp))⟩
  have hT:s.TypeIs (.ref z) "zip":=⟨_,hz,rfl⟩
  unfold pyNext
  refine zB (wpAny_attempt (wpAny_callSpecial?_slot (name:=Str.ofString "__next__") hT F.slot_zip_next (wpAny_call_entry F.slot_zip_next hT F.entry_zip_next (zipK_end (I.ok.hd hc) D off1 off2 hz hti hto h1 h2 p1 p2 ?_ fun g e kp he=>?_) (F.args_zip_next_1 _))))
  ·rcases he with h | h
   ·exact .inl (by simp;lia)
   ·exact .inr (by simp;lia)
  ·obtain⟨o,ho,hcl⟩:=he
   refine zB (wpAny_isInstance (T:="StopIteration") (b:=true) ⟨o,ho,hcl⟩ isSubtype_stop (zH ⟨rfl,?_⟩))
   refine I.turnedL (t':=s.toks) (ch:=[z,ti,to,i1,i2]) hf fun b o nb e=>?_
   simp only[zT,zAT,or_false,not_or]at nb
   exact kp b o nb.1 nb.2.2.1 nb.2.2.2.1 nb.2.2.2.2 e
 self:=fun _ _ _ _ _ st h=>wpAny_pyIter_zip st.1 h
theorem za_new(n:Addr):ZA (n+4) (n+2) (n+3) n (n+1)where
 a1:=zZ (zBR (by decide) n)
 a2:=zZ (zBR (by decide) n)
 a3:=zZ (Nat.lt_add_of_pos_right (by decide))
 a4:=zZ (zBR (by decide) n)
 a5:=zZ (zBR (by decide) n)
 a6:=Nat.ne_of_gt (Nat.lt_add_of_pos_right (by decide))
 a7:=Nat.ne_of_gt (zBR (by decide) n)
 a8:=Nat.ne_of_gt (Nat.lt_add_of_pos_right (by decide))
 a9:=Nat.ne_of_gt (zBR (by decide) n)
 a10:=zZ (Nat.lt_add_of_pos_right (by decide))
noncomputable def iZip(b1 b2:Bool)(K:PySem.W.Frag)(ta:TA):TI:=fun σ H R=>ta σ H fun vs H1=>∃ l1 l2,vs=[.ref l1,.ref l2]/\(∃ xs,SqB b1 K H1 l1 xs)/\(∃ ys,SqB b2 K H1 l2 ys)/\R (Itz K b1 b2 l1 l2) H1
theorem pi_zip{X:Cx}{es:List Expr}{kk:Nat}{tpos:Pos}(b1 b2:Bool){a b:Expr}{ta:TA}{p pos:Pos}(hg:Gl X "zip")(hm:X.mg "zip" = none)(ha:PA X [a,b] ta)(hs:starEach [a,b] X.env=[(false,eval a X.env),(false,eval b X.env)]:=by rfl)(hs2:starEach [b] X.env=[(false,eval b X.env)]:=by rfl) :
  PI X (.Tuple es kk tpos) (.Call (.Name "zip" p) [a,b] [] pos) (iZip b1 b2 X.K ta):=by
 intro pins s σ H R I h
 refine Call_ (ld_blt I hg hm boot_zip (PyProof.Rows.callWith_type1 (thn (ha pos pins s σ H _ I h) fun us s1 ⟨vs,H1,I1,r1,q1⟩=>?_) (by rw[hs,hs2]) (by rw[hs2];rfl)))
 obtain⟨l1,l2,e,⟨xs,q1⟩,⟨ys,q2⟩,q⟩:=q1
 subst e
 obtain⟨u,u',rfl,rx,ry⟩:=vals2 r1
 cases rx
 cases ry
 obtain⟨us,_,p1,_⟩:=I1.seqB q1
 obtain⟨ws,_,p2,_⟩:=I1.seqB q2
 have z1:(s1.heap.push (itO b1 l1)).objs.size=s1.heap.objs.size+1:=Heap.size_push ..
 have z2:(zK2 s1.heap b1 b2 l1 l2).objs.size=s1.heap.objs.size+2:=by rw[Heap.size_push,z1]
 have z3:(zK3 s1.heap b1 b2 l1 l2).objs.size=s1.heap.objs.size+3:=by rw[Heap.size_push,z2]
 have z4:(zK4 s1.heap b1 b2 l1 l2).objs.size=s1.heap.objs.size+4:=by rw[Heap.size_push,z3]
 have g5:(zK5 s1.heap b1 b2 l1 l2).get? (zK4 s1.heap b1 b2 l1 l2).objs.size=some _:=zW _ rfl
 have g4:(zK5 s1.heap b1 b2 l1 l2).get? (zK3 s1.heap b1 b2 l1 l2).objs.size=some _:=zC _ (zW _ rfl)
 have g3:(zK5 s1.heap b1 b2 l1 l2).get? (zK2 s1.heap b1 b2 l1 l2).objs.size=some _:=zC _ (zC _ (zW _ rfl))
 have g2:ItK b2 (zK5 s1.heap b1 b2 l1 l2) (s1.heap.push (itO b1 l1)).objs.size l2 0:=(ItK.new (b:=b2) (l:=l2) (s1.heap.push (itO b1 l1))).to fun o e=>zC _ (zC _ (zC _ e))
 have g1:ItK b1 (zK5 s1.heap b1 b2 l1 l2) s1.heap.objs.size l1 0:=(ItK.new (b:=b1) (l:=l1) s1.heap).to fun o e=>zC _ (zC _ (zC _ (zC _ e)))
 rw[z2,z3,z4]at g5
 rw[z1,z2]at g3
 rw[z3]at g4
 rw[z1]at g2
 refine callType_new F.called_zip (by decide) (F.typeCall_zip_2 _ _) (F.newCall_zip_2 _ _) (fun obj=>F.args_object_init_3 obj _ _) F.entry_zip_new (zipK_new b1 b2 l1 l2 us.toArray ws.toArray) ⟨p1,p2,?_⟩
 show _/\_
 rw[z4]
 have kp:∀ c o,s1.heap.get? c=some o->(zK5 s1.heap b1 b2 l1 l2).get? c=some o:=fun c o x=>zC _ (zC _ (zC _ (zC _ (zC _ x))))
 refine⟨⟨_,g5,rfl⟩,wpAny_pyIter_zip g5 ⟨s1.heap.objs.size+4,_,_,_,H1,rfl,I1.kept (t':=s1.toks) kp,turn_zip b1 b2 _ (s1.heap.objs.size+2) (s1.heap.objs.size+3) s1.heap.objs.size (s1.heap.objs.size+1) l1 l2 (za_new _),⟨g5,g3,⟨_,_,g4⟩,g1,g2⟩,fun b hb=>?_,q⟩⟩
 have le:s1.heap.objs.size<=b:=by
  simp only[zT,zAT,or_false]at hb
  rcases hb with e | e | e | e | e
  ·rw[e];exact Nat.le_add_right _ 4
  ·rw[e];exact Nat.le_add_right _ 2
  ·rw[e];exact Nat.le_add_right _ 3
  ·rw[e];exact zI _
  ·rw[e];exact Nat.le_add_right _ 1
 exact I1.fpOk le (I1.hok.fresh le)
open PySem PySem.W PyProof.Rows Srt
section
variable{X:Cx}{pins:List (Addr×Obj)}{σ:St}{H:Hp}{s:Shared}{a:Addr}{y v:V}{u r:Value}{A:Around}{E:Value->Shared->Prop}
theorem d_set{H':Hp}{Q:Unit->Shared->Prop}(hu:A.units<cLine)(I:Inv X pins σ H s)(g:DPut H a y v H')(ry:RelV y u)(rv:RelV v r)(h:∀ s',Inv X pins σ H' s'->Q () s'):wpAny (model X.prog X.w) A (dictSet a u r) Q E s:=by
 rcases g with⟨kvs,k,e,ey,l,eH⟩ |⟨kvs,k,b,e,ey,eb,l,eH⟩
 ·subst ey eH
  obtain⟨z,hd,vs,rel,dd⟩:=dk_of I.hok e
  have hz:vs.length<=sizeLine:=by rw[<- rel.length];exact z
  have hl:(putK kvs k v).length<=sizeLine:=by have:=length_putK kvs k v;lia
  refine wpAny_dictSet_pairs (hsz:=hz) (kV_is ry) dd fun h' dd' hs=>h _ ?_
  have he:∃ q,h'.get? a=some q:=let ⟨q,_,_,hq,_⟩:=dd';⟨q,hq⟩
  exact d_write I (by rw[e];exact True.intro) hs he (dk_new hl hd (rel.put k rv) dd')
 ·subst ey eH
  cases(show u=Value.ref b from ry)
  obtain⟨z,hd,xs,rel,dd⟩:=dt_of I.hok e
  have hz:xs.length<=sizeLine:=by rw[<- Paired.length rel];exact z
  have hl:(putK kvs k v).length<=sizeLine:=by have:=length_putK kvs k v;lia
  refine wpAny_dictSet_heap (hsz:=hz) (knd:=tupleKind (mixKind X.prog X.w)) hu (key_of I.hok eb) dd fun h' dd' hs=>h _ ?_
  obtain⟨q,es,ep,hq,h2,h3,h4,_,h5⟩:=dd'
  refine d_write I (by rw[e];exact True.intro) hs ⟨q,hq⟩ ⟨hl,hd,_,(rel.put k eb rv).keeps fun c ys ec=>?_,q,es,ep,hq,h2,h3,h4,h5⟩
  rw[upd_ne (ne_of ec e (fun z=>nomatch z))]
  exact ec
theorem Inv.track{D:Addr}{ob:HO}(I:Inv X pins σ H s)(f:FpOk X pins H D)(new:ObjOk X.prog X.w (upd H D ob) s.heap D ob):Inv X pins σ (upd H D ob) s:=by
 have hn:H D=none:=f.1
 have:=I.step (h':=s.heap) (H':=upd H D ob) (g':=s.gens) (t':=s.toks) (d':=s.drawn) (ch:=[D]) (fun b hb=>?_) (fun b o _ _ _ e _=>e) (fun b o _ _ _ e _=>⟨o.slots,e⟩) (fun b o nb _ n=>by
  rw[upd_ne (fun z=>nb (by simp[z]))];exact n) (fun b o _ e=>⟨o,e⟩) (fun b xs e=>by rw[upd_ne (ne_of_none e hn)];exact e) (fun b o u e=>by rw[upd_ne (ne_of_none e hn)];exact e) (fun b ps e=>⟨#[],by rw[upd_ne (ne_of_none e hn),e];simp⟩) (fun m hm=>hm) (fun b u e=>?_) I.bare
 ·exact this
 ·have e:b=D:=by simpa using hb
  subst e
  obtain⟨_,f1,_,f3,f4,f5⟩:=f
  exact⟨f3,f1,f4,f5⟩
 ·by_cases hb:b=D
  ·subst hb;rw[upd_same]at e;cases e;exact new
  ·rw[upd_ne hb]at e
   exact(I.hok b u e).stay (fun c v _ q=>q) (fun c q=>by rw[upd_ne (ne_of_none q hn)];exact q) fun c xs q=>by rw[upd_ne (ne_of_none q hn)];exact q
end
section
variable{prog:Program}{w:World}{A:Around}{R:Result->Shared->Prop}{s:Shared}
theorem dcompLoop{kx vx target iter:Expr}{ifs:List Expr}{scope:Scope}{pos:Pos}{it:Value}{D:Addr}{env:Env}(I:Nat->Shared->Prop)
  (turn:∀ n s,I n s->wpAny (model prog w) A (pyNext it) (fun r s₁=>match r with
   |none=>R (.ok .next) s₁
   |some v=>wpAny (model prog w) A (letOwnedTupleGo target it v) (fun _ s₁'=>wpAny (model prog w) A (assign target env v) (fun _ s₂ =>
     wpAny (model prog w) A (forIn ifs true fun c r=>if r=true then do let ok <- isTrue c env (eval c env);pure (ForInStep.yield ok)else pure (ForInStep.yield r)) (fun ok s₃ =>
      if ok=true then wpAny (model prog w) A (eval kx env) (fun kv s₄=>wpAny (model prog w) A (eval vx env) (fun vv s₅=>wpAny (model prog w) A (dictSet D kv vv) (fun _ s₆=>∃ m,m<n/\I m s₆) (fun _ _=>False) s₅) (fun _ _=>False) s₄) (fun _ _=>False) s₃
      else ∃ m,m<n/\I m s₃) (fun _ _=>False) s₂) (fun _ _=>False) s₁') (fun _ _=>False) s₁) (fun _ _=>False) s)
  (n:Nat) (h:I n s):codeAny (model prog w) A (.compLoop (.DictComp kx vx [⟨target,iter,ifs,0⟩] scope pos) 0 it (.ref D) env) R s:=by
 refine codeAny_loop rfl I (fun n s hI=>?_) n h
 show wpAny _ A ((compTurn (.DictComp kx vx [⟨target,iter,ifs,0⟩] scope pos) 0 it (.ref D) env).onRaise (fun x=>do noteFrame x env;theTreesLotGoes x)) _ _ s
 refine wpAny_noted ?_
 rw[compTurn_dict];refine zB (wpAny_standAt (zB (wpAny_mono (turn n s hI) (fun r s₁ h₁=>?_) fun _ _ h'=>h'.elim)))
 cases r with
 |none=>exact zH h₁
 |some v =>
  refine zB (wpAny_mono h₁ (fun _ s₁' h₁'=>?_) fun _ _ h'=>h'.elim);refine zB (wpAny_mono h₁' (fun _ s₂ h₂=>zB (wpAny_mono h₂ (fun ok s₃ h₃=>?_) fun _ _ h'=>h'.elim)) fun _ _ h'=>h'.elim)
  cases ok with
  |false=>exact zH ⟨rfl,h₃⟩
  |true =>
   exact zB (zB (wpAny_mono h₃ (fun kv s₄ h₄=>zB (wpAny_holding (wpAny_mono h₄ (fun vv s₅ h₅=>zB (wpAny_standAt (wpAny_holding (wpAny_mono h₅ (fun _ s₆ h₆=>zH ⟨rfl,h₆⟩) fun _ _ h'=>h'.elim)))) fun _ _ h'=>h'.elim))) fun _ _ h'=>h'.elim))
end
noncomputable def dcompTurns(J:It)(cap:List (Option Nat))(σ:St)(H1:Hp)(D:Addr)(Q:VK)(g:TG)(tc:TT)(tk tv:TE):Prop:=∃ (n:Nat) (P:Nat->Hp->Prop),P 0 H1 /\
 ∀ i H,i<=n->P i H->(J.stop i H/\Q (.ref D) H) \/
  (i<n/\J.go i H/\∀ x H',J.yld i H x H'->g x (capt cap σ) H' fun σ2 H2=>Kp (capt cap σ) σ2/\tc σ2 H2 fun b H3=>if b=true then tk σ2 H3 fun k H4=>tv σ2 H4 fun y H5=>∃ H6,DPut H5 D k y H6/\P (i+1) H6 else P (i+1) H3)
noncomputable def dEmp:Bool->HO
 |true=>.dT []
 |false=>.dK []
noncomputable def tDComp(t:Bool)(cap:List (Option Nat))(wi:TI)(g:TG)(tc:TT)(tk tv:TE):TE:=fun σ H Q=>wi σ H fun J H1=>∀ D,H1 D=none->dcompTurns J cap σ (upd H1 D (dEmp t)) D Q g tc tk tv
section
variable{X:Cx}{kx vx tg iter:Expr}{ifs:List Expr}{scope:Scope}{pos:Pos}{N':List Str}{cap:List (Option Nat)}{wi:TI}{g:TG}{tc:TT}{tk tv:TE}
theorem dcomp_run(t:Bool)(hu:X.A.units<cLine)(hc:X.calm=true)(S:CompScope N' cap X.N X.env.scope scope)(hi:PI X tg iter wi)(hg:∀ C s H fp,PG (cxIn X N' scope C s H fp) tg g)
  (ht:∀ C s H fp,PF (cxIn X N' scope C s H fp) ifs tc) (hk:∀ C s H fp,PE (cxIn X N' scope C s H fp) kx tk) (he:∀ C s H fp,PE (cxIn X N' scope C s H fp) vx tv)
  {pins:List (Addr×Obj)}{s:Shared}{σ:St}{H:Hp}{Q:VK} (I:Inv X pins σ H s) (h:tDComp t cap wi g tc tk tv σ H Q) :
  wpAny (model X.prog X.w) X.A (eval iter X.env) (fun x s₁=>wpAny (model X.prog X.w) X.A (pyIter x) (fun it s₂=>wpAny (model X.prog X.w) X.A newDict (fun acc s₃ =>
   wpAny (model X.prog X.w) X.A (newFunctionEnv scope X.env.globals (closCl X.env.cells scope.names []) [] X.env.qual none .none (some X.env)) (fun cenv s₄ =>
    codeAny (model X.prog X.w) X.A (.compStart (.DictComp kx vx [⟨tg,iter,ifs,0⟩] scope pos) 0 it acc { cenv with scope:=relabel scope X.env }) (CompEnd X pins σ Q acc cenv.locals) s₄) X.xe s₃) X.xe s₂) X.xe s₁) X.xe s:=by
 refine thn (hi pins s σ H _ I h) fun v s1 h1=>thn h1 fun itv s2 h2=>?_
 obtain⟨it,fp,tn,J,H2,e,I2,T,st2,f2,turns⟩:=h2
 subst e
 obtain⟨n,P,p0,turn⟩:=turns s2.heap.objs.size (I2.hok.fresh (zI _))
 refine wpAny_newObj_type (wpAny_newFunctionEnv S.nocell (by intro y hy;simp at hy) (fun h₁ hns₁ hsb₁=>?_) S.kind)
 dsimp only at hns₁ hsb₁ ⊢
 generalize hHp:s2.heap.push { cls:=.type "dict",dict:=none,data:=.dict #[] } = Hq at hns₁ hsb₁ ⊢
 have hC:Hq.objs.size=s2.heap.objs.size+1:=by rw[<- hHp,Heap.size_push]
 have hDC:s2.heap.objs.size≠Hq.objs.size:=by rw[hC];exact zZ (zBH _)
 have hCle:s2.heap.objs.size<=Hq.objs.size:=by rw[hC];exact Nat.le_succ _
 have old:∀ b o,s2.heap.get? b=some o->h₁.get? b=some o:=fun b o e =>
  hsb₁.extBut b o (by rw[hC];exact zZ (Nat.lt_succ_of_lt (zP e))) (zC _ (hHp▸zC _ e))
 have hacc:h₁.get? s2.heap.objs.size=some { cls:=.type "dict",dict:=none,data:=.dict #[] }:=hsb₁.extBut _ _ hDC (zC _ (hHp▸zW _ rfl))
 have hfo:∀ b∈fp,∃ o,s2.heap.get? b=some o:=fun b hb=>let ⟨o,e,_⟩:=T.obj _ _ st2 b hb;⟨o,e⟩
 have st4:tn 0 h₁:=T.keep _ _ _ st2 fun b _ o e=>old b o e
 let D:Addr:=s2.heap.objs.size
 let C:Addr:=Hq.objs.size
 let Y:Cx:=cxIn X N' scope C s2 H2 fp
 have hDfp:D∉fp:=fun hb=>by
  obtain⟨o,e⟩:=hfo D hb
  exact zAE _ (zP e)
 have stat:∀ {H':Hp},(∀ b∈fp,H' b=none)->∀ b∈fp,FpOk Y pins H' b:=fun {H'} hn b hb=>by
  obtain⟨f0,f1,fx,f3,f4,f5⟩:=f2 b hb
  obtain⟨o,e⟩:=hfo b hb
  refine⟨hn b hb,fun z=>?_,fun z=>?_,.inl hb,fun x c e=>f4 x c (closCl_sound _ _ (S.clos I2) (fun y c e=>by simp at e) x c e),f5⟩
  ·have h1:=zY (zP e) hCle
   have z:b=Hq.objs.size:=z
   rw[z]at h1
   exact zAE _ h1
  ·rcases zT.mp (I2.stkSub b z)with e | e
   ·exact f1 e
   ·exact fx e
 have loop:∀ s₃:Shared,s₃ = { s2 with heap:=h₁,toks:=s2.toks+([]:List (Str×Value)).length } ->
   codeAny (model X.prog X.w) X.A (.compLoop (.DictComp kx vx [⟨tg,iter,ifs,0⟩] scope pos) 0 (.ref it) (.ref s2.heap.objs.size) (compEnvC scope (closCl X.env.cells scope.names []) Hq.objs.size X.env))
    (CompEnd X pins σ Q (.ref s2.heap.objs.size) Hq.objs.size) s₃:=by
  rintro s₃ rfl
  have inF:∀ {pl:List (Addr×Obj)}{p:Addr×Obj},p∈pl->p∈Y.pn++(pins++pl):=fun {pl p} hp=>zM _ (zM _ hp)
  refine dcompLoop (fun m s'=>∃ i H',m=n-i/\i<=n/\Inv Y pins (capt cap σ) H' s'/\tn i s'.heap/\(∀ b∈fp,H' b=none)/\P i H') ?_ n ?_
  ·rintro m s3 ⟨i,H3,rfl,hin,I3,st3,fr3,p3⟩
   rcases turn i H3 hin p3 with⟨stop,q⟩ |⟨hlt,go,step⟩
   ·refine thn (T.done Y rfl rfl rfl hc i _ s3 _ H3 (fun _ _=>False) I3 (stat fr3) st3 stop) fun r s4 ⟨hr,I4⟩=>?_
    subst hr
    have IX:Inv X pins σ H3 s4:=I2.call' (ch:=fp) I4.os I4.base I4.hok I4.bare fun b hb=>by
     obtain⟨f0,f1,fx,f3,f4,f5⟩:=f2 b hb
     exact⟨f3,f1,f4,f5⟩
    obtain⟨m',hm',_⟩:=I4.loc
    exact⟨.ref D,_,IX,rfl,q,⟨m',hm'⟩,I2.fpOk hCle I4.free⟩
   ·refine thn (T.item Y rfl rfl rfl hc i _ s3 _ H3 (fun _ _=>False) I3 (stat fr3) st3 go) fun r s4 ⟨u,hr,h4⟩=>?_
    subst hr
    refine thn h4 fun _ s5 ⟨x,H5,I5,r5,y5,st5,fr5⟩=>?_
    have I5':=I5.pinned (stat fr5) (T.obj _ _ st5)
    refine thn (hg C s2 H2 fp _ s5 _ H5 x u _ I5' r5 (step x H5 y5)) fun _ s6 ⟨σ6,H6,I6,kp,q6⟩=>?_
    refine thn (ht C s2 H2 fp _ s6 σ6 H6 _ I6 q6) fun b s7 ⟨H7,I7,q7⟩=>?_
    cases b with
    |false =>
     rw[if_neg zN]at q7 ⊢
     refine⟨n-(i+1),zBK n i hlt,i+1,H7,rfl,hlt,I7.unpinned.weak kp.length kp.get,?_,fun b hb=>?_,q7⟩
     ·exact T.keep _ _ _ st5 fun b hb o e=>(I7.pin (b,o) (inF (mem_pinsAt hb e))).1
     ·obtain⟨o,e,d⟩:=T.obj _ _ st5 b hb
      exact(I7.pin (b,o) (inF (mem_pinsAt hb e))).2.1
    |true =>
     rw[if_pos rfl]at q7 ⊢
     refine thn (hk C s2 H2 fp _ s7 σ6 H7 _ I7 q7) fun kv s8 ⟨k,H8,I8,r8,q8⟩=>thn (he C s2 H2 fp _ s8 σ6 H8 _ I8 q8) fun yv s9 ⟨y,H9,I9,r9,H10,dp,q9⟩=>?_
     refine d_set (X:=Y) hu I9 dp r8 r9 fun s10 I10=>?_
     refine⟨n-(i+1),zBK n i hlt,i+1,H10,rfl,hlt,I10.unpinned.weak kp.length kp.get,?_,fun b hb=>?_,q9⟩
     ·exact T.keep _ _ _ st5 fun b hb o e=>(I10.pin (b,o) (inF (mem_pinsAt hb e))).1
     ·obtain⟨o,e,d⟩:=T.obj _ _ st5 b hb
      exact(I10.pin (b,o) (inF (mem_pinsAt hb e))).2.1
  ·have I4:=cxIn_inv (s4:={ s2 with heap:=h₁,toks:=s2.toks+([]:List (Str×Value)).length }) S I2 hCle f2 hfo rfl rfl old hns₁ hacc (zI _) hDC fun v z=>by cases z
   obtain⟨_,pD1,pD2,pD3,_⟩:=I4.pin (D,{ cls:=.type "dict",dict:=none,data:=.dict #[] }) (zM _ (zM _ (zD.mpr rfl)))
   have I5:Inv Y pins (capt cap σ) H2 { s2 with heap:=h₁,toks:=s2.toks+([]:List (Str×Value)).length }:=I4.pins_of fun p hp=>I4.pin p (zM _ (zV _ hp))
   have fD:FpOk Y pins H2 D:=⟨pD1,pD2,pD3,.inr (zI _),fun x c e z=>by
    obtain⟨v,q⟩:=I2.cell x c (closCl_sound _ _ (S.clos I2) (fun y c e=>by simp at e) x c e)
    have h1:=q.lt
    rw[show c=s2.heap.objs.size from z]at h1
    exact zAE _ h1,fun p hp z=>by
    have h1:=zP (I2.pin p hp).1
    rw[show p.1=s2.heap.objs.size from z]at h1
    exact zAE _ h1⟩
   have nsys:(D == sysModules)=false:=by
    have:=I2.big
    exact zAJ.mpr fun z=>by
     have e:D=sysModules:=by simpa using z
     have h1:sysModules<D:=this
     rw[<- e]at h1
     exact zAE _ h1
   have new:ObjOk X.prog X.w (upd H2 D (dEmp t)) h₁ D (dEmp t):=by
    cases t
    ·exact⟨zAQ _,nsys,[],.nil,_,#[],0,hacc,⟨rfl,rfl,rfl⟩,rfl,fun e he=>by simp at he,.nil,zAS⟩
    ·exact⟨zAQ _,nsys,[],.nil,_,#[],0,hacc,⟨rfl,rfl,rfl⟩,rfl,rfl,zAS⟩
   refine⟨0,upd H2 D (dEmp t),rfl,zAQ _,I5.track fD new,st4,fun b hb=>?_,p0⟩
   rw[upd_ne (fun z=>hDfp (by rw[<- z];exact hb))]
   exact(f2 b hb).1
 exact codeAny_compStart_dict (loop _ rfl) (T.self X.A 0 _ _ _ st4 (loop _ rfl))
theorem pe_dcomp(t:Bool)(hu:X.A.units<cLine)(hc:X.calm=true)(S:CompScope N' cap X.N X.env.scope scope)(hi:PI X tg iter wi)(hg:∀ C s H fp,PG (cxIn X N' scope C s H fp) tg g)
  (ht:∀ C s H fp,PF (cxIn X N' scope C s H fp) ifs tc) (hk:∀ C s H fp,PE (cxIn X N' scope C s H fp) kx tk) (he:∀ C s H fp,PE (cxIn X N' scope C s H fp) vx tv)
  (hs:∀ x,foldedSetIterable iter X.env x=pure x:=by intro _;rfl):PE X (.DictComp kx vx [⟨tg,iter,ifs,0⟩] scope pos) (tDComp t cap wi g tc tk tv):=by
 intro pins s σ H Q I h
 rw[arm_eval_DictComp]
 refine wpAny_comprehension_free (use:=none) rfl hs (closureFor_cells (S.clos I)) S.kind S.loc (thn (dcomp_run (pos:=pos) t hu hc S hi hg ht hk he I h) fun x s1 h1=>thn h1 fun it s2 h2=>thn h2 fun acc s3 h3=>thn h3 fun cenv s4 h4=>?_)
 refine codeAny_mono h4 fun r s' hr=>?_
 cases r with
 |error x=>exact hr.elim
 |ok f =>
  obtain⟨v,H',I',rv,q,⟨m,hn⟩,f0,f1,f2,f3,f4,f5⟩:=hr
  refine⟨m,hn,fun h' sb=>⟨v,H',I'.turned (it:=cenv.locals) (t':=s'.toks) (fun b o hb e=>(sb.2 b hb).trans e) f0 f1 f3 f4 f5,rv,q⟩⟩
end
open PySem PySem.W PyProof.Rows Srt
section
variable{X:Cx}
theorem bools_at:∀ {bs:List Bool}{us:List Value},Vals (bs.map V.bl) us->∀ (i:Nat) (v:Value),us[i]?=some v->∃ b,bs[i]?=some b/\v = .bool b
 |[],_,.nil,i,v,h=>by simp at h
 |b :: bs,_,.cons r t,0,v,h=>by
  simp at h
  subst h
  exact⟨b,rfl,r⟩
 |b :: bs,_,.cons r t,i+1,v,h=>by
  obtain⟨c,e,q⟩:=bools_at t i v (by simpa using h)
  exact⟨c,by simpa using e,q⟩
theorem call_all(hc:X.calm=true):CallR X (.builtin "all") (fun xs H Q=>∃ (l:Addr) (bs:List Bool),xs=[V.ref l]/\SqL X.K H l (bs.map V.bl)/\Q (.bl (bs.all id)) H):=by
 intro pins s σ H xs us Q I r h
 obtain⟨l,bs,rfl,hq,q⟩:=h
 obtain⟨u,rfl,rx⟩:=vals1 r
 cases rx
 obtain⟨its,r',pl,hz⟩:=I.list hq
 have len:its.length=bs.length:=by rw[<- r'.length,zA]
 have hl:=pl.isList
 have hlt:l<s.heap.objs.size:=by obtain⟨_,e,_⟩:=hl;exact zP e
 refine call_all_walk (wpAny_pyIter_list hl ⟨s.heap.objs.size,[s.heap.objs.size,l],[s.heap.objs.size],its.toArray.size,_,_,fun i=>(bs[i]?).getD true,rfl,Walks.list (A:=X.A.in1) (show X.A.handled=none from I.ok.hd hc) _ l (zZ hlt) its.toArray,⟨⟨_,zW _ rfl,rfl,rfl⟩,hl.push _⟩,fun i v s' Q' E' hP hQ=>?_,fun h' tk hk=>?_⟩)
 ·obtain⟨b,e,rfl⟩:=bools_at r' i v (by simpa using hP)
  simp only[e,Option.getD_some]at hQ
  exact wpAny_truthy_bool hQ
 ·have e:((List.range its.toArray.size).all fun i=>(bs[i]?).getD true)=bs.all id:=by rw[zG,len];exact LSm.range_all bs
  rw[e]
  exact⟨.bl _,H,I.kept (t':=tk) (LSm.kept_iter hk),rfl,q⟩
theorem call_any(hc:X.calm=true):CallR X (.builtin "any") (fun xs H Q=>∃ (l:Addr) (bs:List Bool),xs=[V.ref l]/\SqL X.K H l (bs.map V.bl)/\Q (.bl (bs.any id)) H):=by
 intro pins s σ H xs us Q I r h
 obtain⟨l,bs,rfl,hq,q⟩:=h
 obtain⟨u,rfl,rx⟩:=vals1 r
 cases rx
 obtain⟨its,r',pl,hz⟩:=I.list hq
 have len:its.length=bs.length:=by rw[<- r'.length,zA]
 have hl:=pl.isList
 have hlt:l<s.heap.objs.size:=by obtain⟨_,e,_⟩:=hl;exact zP e
 refine call_any_walk (wpAny_pyIter_list hl ⟨s.heap.objs.size,[s.heap.objs.size,l],[s.heap.objs.size],its.toArray.size,_,_,fun i=>(bs[i]?).getD false,rfl,Walks.list (A:=X.A.in1) (show X.A.handled=none from I.ok.hd hc) _ l (zZ hlt) its.toArray,⟨⟨_,zW _ rfl,rfl,rfl⟩,hl.push _⟩,fun i v s' Q' E' hP hQ=>?_,fun h' tk hk=>?_⟩)
 ·obtain⟨b,e,rfl⟩:=bools_at r' i v (by simpa using hP)
  simp only[e,Option.getD_some]at hQ
  exact wpAny_truthy_bool hQ
 ·have e:((List.range its.toArray.size).any fun i=>(bs[i]?).getD false)=bs.any id:=by rw[zG,len];exact LSm.range_any bs
  rw[e]
  exact⟨.bl _,H,I.kept (t':=tk) (LSm.kept_iter hk),rfl,q⟩
variable{a b c d:Expr}{ta tb tc td:TE}{pos:Pos}
theorem op_isnotB:OpR X (compareOp .IsNot) (fun x y H Q=>∃ p q:Bool,x = .bl p/\y = .bl q/\Q (.bl (!decide (p=q))) H):=by
 intro pins s σ H x y v u Q I rx ry h
 obtain⟨p,q',rfl,rfl,q⟩:=h
 cases rx
 cases ry
 refine wpAny_isNot_plain rfl (fin_bl I q ?_)
 cases p <;> cases q' <;> rfl
theorem eqT{A:Around}{s:Shared}{p q:Addr}{ks ns:List Int}(hu:A.units<cLine)(x:TupI s.heap (.ref p) ks)(y:TupI s.heap (.ref q) ns):SeqAt.EqAt A s (.ref p) (.ref q) (decide (ks=ns)):=by
 by_cases e:p=q
 ·subst e
  rw[x.inj y,decide_eq_true rfl]
  exact SeqAt.EqAt.same _
 ·obtain⟨a,o,its,n,e1,g1,c1,d1,p1⟩:=x
  obtain⟨a',o',its',n',e2,g2,c2,d2,p2⟩:=y
  cases e1
  cases e2
  have l1:ks.length=its.size:=by rw[p1.length];simp
  have l2:ns.length=its'.size:=by rw[p2.length];simp
  have at1:∀ {ks:List Int}{us:List Value} (_:IntsV ks us) (j:Nat) (h:j<us.length) (h2:j<ks.length),∃ t,us[j]=Value.int ks[j] t:=by
   intro ks us hp
   induction hp with
   |nil=>intro j h;simp at h
   |cons r _ ih =>
    intro j h h2
    cases j with
    |zero=>exact r
    |succ j=>exact ih j (by simpa using h) (by simpa using h2)
  refine SeqAt.EqAt.of_refs e ?_
  have key:=SeqAt.RcAt.tuples (A:=A) (s:=s) (e:=fun j=>decide (ks[j]?=ns[j]?)) (show s.heap.IsTuple p its from⟨o,g1,c1,n,d1⟩) (show s.heap.IsTuple q its' from⟨o',g2,c2,n',d2⟩) hu fun j h1 h2=>by
   obtain⟨t,q1⟩:=at1 p1 j (by simpa using h1) (by lia)
   obtain⟨t',q2⟩:=at1 p2 j (by simpa using h2) (by lia)
   have q1':its[j]=Value.int (ks[j]'(by lia)) t:=by rw[<- q1];simp
   have q2':its'[j]=Value.int (ns[j]'(by lia)) t':=by rw[<- q2];simp
   rw[q1',q2']
   have e:decide (ks[j]?=ns[j]?)=(ks[j]'(by lia) == ns[j]'(by lia)):=by
    rw[zF (by lia),zF (by lia),Bool.beq_eq_decide_eq]
    simp
   rw[e]
   exact SeqAt.EqAt.int_int _ _ _ _
  have fin:((List.range (min its.size its'.size)).all (fun j=>decide (ks[j]?=ns[j]?)) && its.size == its'.size)=decide (ks=ns):=by
   rw[zBB,zBC,zBI,decide_eq_true_eq,beq_iff_eq]
   constructor
   ·rintro⟨h1,h2⟩
    apply List.ext_getElem?
    intro i
    by_cases hi:i<ks.length
    ·exact of_decide_eq_true (h1 i (zAW.mpr (by lia)))
    ·rw[List.getElem?_eq_none (by lia),List.getElem?_eq_none (by lia)]
   ·rintro rfl
    exact⟨fun i _=>decide_eq_true rfl,by lia⟩
  rw[fin]at key
  exact key
end
open PySem PySem.W PyProof.Rows Srt
noncomputable abbrev TupsAt(H:Hp)(as:List Addr)(ks:List (List Int)):Prop:=Paired (fun a k=>H a=some (.tup (List.map V.int k))) as ks
section
variable{X:Cx}
theorem refs_of:∀ {as:List Addr}{us:List Value},Vals (as.map V.ref) us->us=as.map Value.ref
 |[],_,.nil=>rfl
 |a :: as,_,.cons r t=>by rw[show _=Value.ref a from r,refs_of t];rfl
theorem tups_mem{H:Hp}{as:List Addr}{ks:List (List Int)}(h:TupsAt H as ks):∀ a∈as,∃ k:List Int,H a=some (.tup (k.map V.int)):=by
 induction h with
 |nil=>intro a ha;cases ha
 |cons r _ ih =>
  intro a ha
  rcases zT.mp ha with e | e
  ·rw[e];exact⟨_,r⟩
  ·exact ih a e
inductive rInTI(neg:Bool)(x:V)(y:V)(H:Hp)(Q:VK):Prop where
 |mk (p:_) (l:_) (as:_) (ks:_) (ns:_) (h1:x = .ref p) (h2:y = .ref l) (h3:H p=some (.tup (List.map V.int ns))) (h4:H l=some (.lst (List.map V.ref as))) (h5:TupsAt H as ks) (h6:Q (.bl (if neg then !decide (ns∈ks)else decide (ns∈ks))) H)
noncomputable def rInT(neg:Bool):R2:=fun x y H Q=>rInTI neg x y H Q
theorem any_tups{pins:List (Addr×Obj)}{σ:St}{H:Hp}{s:Shared}(I:Inv X pins σ H s)(ns:List Int):∀ {as:List Addr}{ks:List (List Int)},TupsAt H as ks->(as.map Value.ref).any (fun u=>decide (keyA s.heap (unref u)=ns))=decide (ns∈ks)
 | _,_,.nil=>by simp
 |a :: as,k :: ks,.cons r t=>by
  rw[zAB,List.any_cons,any_tups I ns t,show keyA s.heap (unref (Value.ref a))=k from keyA_eq (tupI_of I r)]
  rw[zBB,Bool.or_eq_true,decide_eq_true_eq,decide_eq_true_eq,decide_eq_true_eq,zT]
  constructor
  ·rintro(h | h)
   ·exact .inl h.symm
   ·exact .inr h
  ·rintro(h | h)
   ·exact .inl h.symm
   ·exact .inr h
theorem op_inT(hu:X.A.units+1<cLine):OpR X (compareOp .In) (rInT false):=by
 intro pins s σ H x y v u Q I rx ry h
 obtain⟨p,l,as,ks,ns,rfl,rfl,hp,hl,ht,q⟩:=h
 cases rx
 cases ry
 obtain⟨its,r,pl,hz⟩:=I.list (SqL.of hl)
 have er:=refs_of r
 subst er
 refine SeqAt.in_listAt (fun u=>decide (keyA s.heap (unref u)=ns)) pl.isList (fun w hw=>?_) ⟨.bl _,H,I,rfl,?_⟩
 ·obtain⟨a,ha,rfl⟩:=zAA.mp (by simpa using hw)
  obtain⟨k,e⟩:=tups_mem ht a ha
  rw[show keyA s.heap (unref (Value.ref a))=k from keyA_eq (tupI_of I e)]
  exact eqT hu (tupI_of I e) (tupI_of I hp)
 ·rw[show((as.map Value.ref).toArray.any fun u=>decide (keyA s.heap (unref u)=ns))=(as.map Value.ref).any (fun u=>decide (keyA s.heap (unref u)=ns)) by simp,any_tups I ns ht]
  exact q
theorem op_notInT(hu:X.A.units+1<cLine):OpR X (compareOp .NotIn) (rInT true):=by
 intro pins s σ H x y v u Q I rx ry h
 obtain⟨p,l,as,ks,ns,rfl,rfl,hp,hl,ht,q⟩:=h
 cases rx
 cases ry
 obtain⟨its,r,pl,hz⟩:=I.list (SqL.of hl)
 have er:=refs_of r
 subst er
 refine SeqAt.notIn_listAt (fun u=>decide (keyA s.heap (unref u)=ns)) pl.isList (fun w hw=>?_) ⟨.bl _,H,I,rfl,?_⟩
 ·obtain⟨a,ha,rfl⟩:=zAA.mp (by simpa using hw)
  obtain⟨k,e⟩:=tups_mem ht a ha
  rw[show keyA s.heap (unref (Value.ref a))=k from keyA_eq (tupI_of I e)]
  exact eqT hu (tupI_of I e) (tupI_of I hp)
 ·rw[show((as.map Value.ref).toArray.any fun u=>decide (keyA s.heap (unref u)=ns))=(as.map Value.ref).any (fun u=>decide (keyA s.heap (unref u)=ns)) by simp,any_tups I ns ht]
  exact q
theorem tups_len{H:Hp}{as:List Addr}{ks:List (List Int)}(h:TupsAt H as ks):as.length=ks.length:=Paired.length h
theorem tups_at{H:Hp}:∀ {as:List Addr}{ks:List (List Int)},TupsAt H as ks->∀ (i:Nat) (h1:i<as.length) (h2:i<ks.length),H as[i]=some (.tup (List.map V.int ks[i])):=by
 intro as ks h
 induction h with
 |nil=>intro i h1;exact absurd h1 (Nat.not_lt_zero _)
 |cons h t ih =>
  intro i h1 h2
  cases i with
  |zero=>exact h
  |succ i=>exact ih i (Nat.lt_of_succ_lt_succ h1) (Nat.lt_of_succ_lt_succ h2)
inductive TyF(H:Hp):V->Value->Prop where
 |non:TyF H .non (.type "NoneType")
 |bl (x:Bool):TyF H (.bl x) (.type "bool")
 |int (i:Int):TyF H (.int i) (.type "int")
 |str (x:Str):TyF H (.str x) (.type "str")
 |lst {a:Addr}{xs:List V} (e:H a=some (.lst xs)):TyF H (.ref a) (.type "list")
 |tup {a:Addr}{xs:List V} (e:H a=some (.tup xs)):TyF H (.ref a) (.type "tuple")
theorem call_isinst2:CallR X (.builtin "isinstance") (fun xs H Q=>∃ x t p b,xs=[x,V.ref p]/\TyF H x t/\H p=some (.tup [.ty "list",.ty "tuple"])/\PySem.W.kitAny X.K t [.type "list",.type "tuple"]=some b/\Q (.bl b) H):=by
 intro pins s σ H xs us Q I r h
 obtain⟨x,t,p,b,rfl,ty,hp,e,q⟩:=h
 obtain⟨u,u',rfl,rx,rc⟩:=vals2 r
 cases rc
 obtain⟨z,its,rv,o,e0,c,n,d⟩:=I.hok p _ hp
 obtain⟨cls,dd,dat,sl⟩:=o
 cases c
 cases d
 cases rv with
 |cons r1 r2 =>
  cases r2 with
  |cons r2 r3 =>
   cases r3
   cases r1
   cases r2
   have fin:∀ tk,EP X pins σ Q (.bool b) { s with toks:=tk }:=fun tk=>⟨.bl b,H,I.tok _,rfl,q⟩
   cases ty with
   |non=>cases(show u=Value.none from rx);exact PySem.W.kia_tup PySem.W.kitx_none I.kIn True.intro e0 e (fun z=>nomatch z) fin
   |bl y=>cases(show u=Value.bool y from rx);exact PySem.W.kia_tup PySem.W.kitx_bool I.kIn True.intro e0 e (fun z=>nomatch z) fin
   |int i=>obtain⟨t,q⟩:=(show ∃ t,u=Value.int i t from rx);cases q;exact PySem.W.kia_tup PySem.W.kitx_int I.kIn True.intro e0 e (fun z=>nomatch z) fin
   |str y=>obtain⟨t,q⟩:=(show ∃ t,u=Value.str y t from rx);cases q;exact PySem.W.kia_tup PySem.W.kitx_str I.kIn True.intro e0 e (fun z=>nomatch z) fin
   | @lst a xs ea =>
    cases(show u=Value.ref a from rx)
    obtain⟨_,_,n,_,h1⟩:=(show ObjOk X.prog X.w H s.heap a (.lst xs)from I.hok a _ ea)
    exact PySem.W.kia_tup PySem.W.kitx_list I.kIn ⟨_,h1,rfl⟩ e0 e (fun z=>nomatch z) fin
   | @tup a xs ea =>
    cases(show u=Value.ref a from rx)
    obtain⟨_,_,_,pp⟩:=(show ObjOk X.prog X.w H s.heap a (.tup xs)from I.hok a _ ea)
    obtain⟨o,h1,h2,_⟩:=pp
    exact PySem.W.kia_tup PySem.W.kitx_tuple I.kIn ⟨o,h1,h2⟩ e0 e (fun z=>nomatch z) fin
end
inductive Dt where
 |non | bl (b:Bool) | int (i:Int) | str (x:Str) | lst (ds:List Dt) | tup (ds:List Dt)
noncomputable def Dat(H:Hp):Nat->V->Dt->Prop
 | _,v,.non=>v = .non
 | _,v,.bl b=>v = .bl b
 | _,v,.int i=>v = .int i
 | _,v,.str x=>v = .str x
 | 0,_,.lst _=>False
 | 0,_,.tup _=>False
 |n+1,v,.lst ds=>∃ a xs,v = .ref a/\xs.length<=1000/\H a=some (.lst xs)/\Paired (Dat H n) xs ds
 |n+1,v,.tup ds=>∃ a xs,v = .ref a/\xs.length<=1000/\H a=some (.tup xs)/\Paired (Dat H n) xs ds
open PySem PyProof.Rows
section
variable{K:PySem.W.Frag}{a:Addr}{xs:List V}{g:TG}{tc:TT}{te:TE}{cap:List (Option Nat)}{σ:St}{H1:Hp}{Q:VK}
theorem comp_tup(P:Nat->List V->Hp->Prop)(hz:xs.length<=sizeLine)(p0:P 0 [] H1)(hl:∀ i ys H,i<=xs.length->P i ys H->SqT K H a xs)
  (hs:∀ i x ys H,xs[i]?=some x->P i ys H->g x (capt cap σ) H fun σ2 H2=>Kp (capt cap σ) σ2/\tc σ2 H2 fun b H3=>if b=true then te σ2 H3 fun y H4=>P (i+1) (ys++[y]) H4 else P (i+1) ys H3)
  (hd:∀ ys H,ys.length<=xs.length->P xs.length ys H->∀ D,H D=none->Q (.ref D) (upd H D (.lst ys))):compTurns (Itt K a) cap σ H1 Q g tc te:=by
 refine⟨xs.length,P,hz,p0,fun i ys H yl il p=>?_⟩
 have q:=hl i ys H il p
 by_cases hlt:i<xs.length
 ·refine .inr ⟨hlt,⟨xs,xs[i],q,by simp[hlt]⟩,fun x H' y=>?_⟩
  obtain⟨e,y⟩:=y
  subst e
  exact hs i x ys _ (y xs q) p
 ·have e:i=xs.length:=by lia
  subst e
  exact .inl ⟨⟨xs,q,zI _⟩,hd ys H yl p⟩
theorem comp_list(P:Nat->List V->Hp->Prop)(hz:xs.length<=sizeLine)(p0:P 0 [] H1)(hl:∀ i ys H,i<=xs.length->P i ys H->SqL K H a xs)
  (hs:∀ i x ys H,xs[i]?=some x->P i ys H->g x (capt cap σ) H fun σ2 H2=>Kp (capt cap σ) σ2/\tc σ2 H2 fun b H3=>if b=true then te σ2 H3 fun y H4=>P (i+1) (ys++[y]) H4 else P (i+1) ys H3)
  (hd:∀ ys H,ys.length<=xs.length->P xs.length ys H->∀ D,H D=none->Q (.ref D) (upd H D (.lst ys))):compTurns (Itl K a) cap σ H1 Q g tc te:=by
 refine⟨xs.length,P,hz,p0,fun i ys H yl il p=>?_⟩
 have q:=hl i ys H il p
 by_cases hlt:i<xs.length
 ·refine .inr ⟨hlt,⟨xs,xs[i],q,by simp[hlt]⟩,fun x H' y=>?_⟩
  obtain⟨e,y⟩:=y
  subst e
  exact hs i x ys _ (y xs q) p
 ·have e:i=xs.length:=by lia
  subst e
  exact .inl ⟨⟨xs,q,zI _⟩,hd ys H yl p⟩
theorem comp_range{lo:Int}{n:Nat}(P:Nat->List V->Hp->Prop)(hz:n<=sizeLine)(p0:P 0 [] H1)
  (hs:∀ i ys H,i<n->P i ys H->g (.int (lo+i)) (capt cap σ) H fun σ2 H2=>Kp (capt cap σ) σ2/\tc σ2 H2 fun b H3=>if b=true then te σ2 H3 fun y H4=>P (i+1) (ys++[y]) H4 else P (i+1) ys H3)
  (hd:∀ ys H,ys.length<=n->P n ys H->∀ D,H D=none->Q (.ref D) (upd H D (.lst ys))):compTurns (Itr lo n) cap σ H1 Q g tc te:=by
 refine⟨n,P,hz,p0,fun i ys H yl il p=>?_⟩
 by_cases hlt:i<n
 ·refine .inr ⟨hlt,hlt,fun x H' y=>?_⟩
  obtain⟨e,y⟩:=y
  subst e y
  exact hs i ys _ hlt p
 ·have e:i=n:=by lia
  subst e
  exact .inl ⟨zI _,hd ys H yl p⟩
end
noncomputable def capB(cap:List (Option Nat))(N' N:List Str)(names:List (Str×NameKind)):Bool:=(List.range cap.length).all fun j=>match cap[j]? with
 |some (some i)=>(match N'[j]? with
  |some x=>decide (N[i]?=some x/\names.lookup x=some .free)
  |none=>false)
 | _=>true
theorem capB_ok{cap:List (Option Nat)}{N' N:List Str}{names:List (Str×NameKind)}(h:capB cap N' N names=true):∀ j∈List.range cap.length,match cap[j]? with
  |some (some i)=>match N'[j]? with
   |some x=>N[i]?=some x/\names.lookup x=some .free
   |none=>False
  | _=>True:=by
 intro j hj
 have z:=zBI.mp h j hj
 revert z
 cases e1:cap[j]? with
 |none=>intro _;trivial
 |some o =>
  cases o with
  |none=>intro _;trivial
  |some i =>
   cases e2:N'[j]? with
   |none =>
    intro z
    dsimp only at z
    exact absurd z zN
   |some x =>
    intro z
    dsimp only at z
    exact of_decide_eq_true z
theorem op_catTK{X:Cx}(K:PySem.W.Frag)(e:X.K=K):OpR X (binaryOp .Add) (rCatT K):=e▸op_catT
theorem pg_tupK{X:Cx}{pos:Pos}(K:PySem.W.Frag)(e:X.K=K){es:List Expr}{k:Nat}{t:TGs}{n:Nat}(hc:X.calm=true)(h:PGs X es t)
  (hn:(assignEach es X.env).length=n) (hst:(assignEach es X.env).findIdx? (·.1)=none):PG X (.Tuple es k pos) (gTup K n t):=e▸pg_tup hc h hn hst
theorem Paired.at{α β:Type}{F:α->β->Prop}:∀ {l₁:List α}{l₂:List β},Paired F l₁ l₂->∀ (i:Nat) (h1:i<l₁.length) (h2:i<l₂.length),F l₁[i] l₂[i]:=by
 intro l ks h
 induction h with
 |nil=>intro i h1;exact absurd h1 (Nat.not_lt_zero _)
 |cons h t ih =>
  intro i h1 h2
  cases i with
  |zero=>exact h
  |succ i=>exact ih i (Nat.lt_of_succ_lt_succ h1) (Nat.lt_of_succ_lt_succ h2)
theorem Same.tupq{K:PySem.W.Frag}{H H':Hp}{a:Addr}{xs:List V}(e:Same H H')(h:SqT K H a xs):SqT K H' a xs:=by
 rcases h with(h |⟨o,h⟩) | h
 ·exact .inl (.inl (e _ _ h))
 ·exact .inl (.inr ⟨o,e _ _ h⟩)
 ·exact .inr h
theorem Same.new{q:Addr}{H:Hp}{o:HO}(h:H q=none):Same H (upd H q o):=fun b u e=>by rw[upd_ne (ne_of_none e h)];exact e
section
variable{K:PySem.W.Frag}{l1 l2:Addr}{xs ys:List V}{b1 b2:Bool}{g:TG}{tc:TT}{te:TE}{cap:List (Option Nat)}{σ:St}{H1:Hp}{Q:VK}
theorem comp_zip(P:Nat->List V->Hp->Prop)(hz:min xs.length ys.length<=sizeLine)(p0:P 0 [] H1)(hl:∀ i zs H,i<=min xs.length ys.length->P i zs H->SqB b1 K H l1 xs/\SqB b2 K H l2 ys)
  (hs:∀ i x y zs H T,xs[i]?=some x->ys[i]?=some y->P i zs H->H T=none->g (.ref T) (capt cap σ) (upd H T (.tup [x,y])) fun σ2 H2=>Kp (capt cap σ) σ2/\tc σ2 H2 fun b H3=>if b=true then te σ2 H3 fun y H4=>P (i+1) (zs++[y]) H4 else P (i+1) zs H3)
  (hd:∀ zs H,zs.length<=min xs.length ys.length->P (min xs.length ys.length) zs H->∀ D,H D=none->Q (.ref D) (upd H D (.lst zs))):compTurns (Itz K b1 b2 l1 l2) cap σ H1 Q g tc te:=by
 refine⟨min xs.length ys.length,P,hz,p0,fun i zs H yl il p=>?_⟩
 obtain⟨q1,q2⟩:=hl i zs H il p
 by_cases hlt:i<min xs.length ys.length
 ·have h1:i<xs.length:=by lia
  have h2:i<ys.length:=by omega
  refine .inr ⟨hlt,⟨xs,ys,xs[i],ys[i],q1,q2,by simp[h1],by simp[h2]⟩,fun v H' y=>?_⟩
  obtain⟨T,x,y,rfl,hT,rfl,f1,f2⟩:=y
  exact hs i x y zs _ T (f1 xs q1) (f2 ys q2) p hT
 ·have e:i=min xs.length ys.length:=by lia
  subst e
  exact .inl ⟨⟨xs,ys,q1,q2,by lia⟩,hd zs H yl p⟩
end
theorem lexLt_eq:∀ x y:List Int,HT.lexLt x y=Srt.lexlt x y
 |[],[]=>rfl
 |[],_ :: _=>rfl
 | _ :: _,[]=>rfl
 |a :: x,b :: y=>by
  rw[HT.lexLt_cons,lexLt_eq x y]
  show _=(decide (a<b) ||(decide (a=b) && Srt.lexlt x y))
  by_cases e:a=b
  ·subst e;simp
  ·rw[if_neg e,decide_eq_false e];simp
theorem cutV_tail(xs:List V):cutV xs (some 1) none=xs.drop 1:=by
 unfold cutV
 cases xs with
 |nil=>rfl
 |cons x xs =>
  have e1:HT.sIx (x :: xs).length 0 (some 1)=1:=by simp[HT.sIx]
  have e2:HT.sIx (x :: xs).length (x :: xs).length none=(x :: xs).length:=by simp[HT.sIx]
  rw[e1,e2]
  simp
open PySem PySem.W PyProof.Rows
noncomputable def tVq(i:Nat):TE:=fun σ H Q=>match σ[i]? with
 |some (some v)=>Q v H
 | _=>False
theorem tVar_of{i:Nat}{σ:St}{H:Hp}{Q:VK}(h:tVq i σ H Q):tVar i σ H Q:=by
 unfold tVq at h
 split at h
 ·exact⟨_,by assumption,h⟩
 ·exact h.elim
section
variable{X:Cx}
theorem pvQ(i:Nat){x:Str}{pos:Pos}(hN:X.N[i]?=some x:=by rfl)(hv:Vis X.env.scope x:=by first | exact Or.inl rfl | exact Or.inr (Or.inl rfl) | exact Or.inr (Or.inr rfl))(hd:(x ==("__debug__":Str))=false:=by decide)
  (hcd:(x ==("__classdict__":Str))=false:=by decide):PE X (.Name x pos) (tVq i):=fun pins s σ H Q I h=>pv i hN hv hd hcd pins s σ H Q I (tVar_of h)
end
open PySem PySem.W PyProof.Rows HT
end L2
namespace SetA
open PySem
open PySem
open PySem
open PySem
open PySem
open PySem
open PySem
open PySem
open PySem
open PySem L2
open PySem L2
open PySem L2
open PySem PySem.W PyProof.Rows
end SetA
namespace Srt
open PySem PySem.W PyProof.Rows
end Srt
namespace L2
open PySem PySem.W PyProof.Rows Srt
section
variable{X:Cx}{pins:List (Addr×Obj)}{σ:St}{H:Hp}{s:Shared}
theorem collect_kept{g:Heap}{vs:List Value}:∀ b u,g.get? b=some u->((g.push (seqObj "list" #[] 0)).update g.objs.size (Obj.mapSeq (·++vs.toArray))).get? b=some u:=fun b u e=>by
 rw[Heap.get?_update_ne _ _ _ _ (zZ (zP e))]
 exact zC _ e
end
open PySem PySem.W PyProof.Rows Srt SetA
end L2
namespace Srt
open PySem PySem.W PyProof.Rows
section
variable{prog:Program}{w:World}{A:Around}{E:Value->Shared->Prop}{s:Shared}
theorem sort_genZ{κ:KeyKind}{kd:SortKind}{a:Addr}{vs:List Value}{n:Nat}{P:Fin->Shared->Prop}(ho:s.heap.get? a=some (seqObj "list" vs.toArray n))(h0:KeysOf κ (pairsOf vs))(hl:vs.length<64)
  (hk:2<=vs.length->∀ g:Heap,(∀ b u,b≠a->s.heap.get? b=some u->g.get? b=some u)->LtOk κ kd prog w A { s with heap:=g }/\∀ R:SortKind->Shared->Prop,R kd { s with heap:=g }->wpAny (model prog w) A (keyKind' vs.toArray) R E { s with heap:=g })
  (h:∀ (ws:List Value) (g:Heap) (c:Nat),ws.Perm vs->SortedToK κ (pairsOf ws) ws.length->(∀ b u,b≠a->s.heap.get? b=some u->g.get? b=some u)->g.get? a=some (seqObj "list" ws.toArray c)->P (.done (.ret .none)) { s with heap:=g }) :
  wpAny (model prog w) A (Builtin.«list.sort» ⟨[.ref a],[]⟩) P E s:=by
 have lt0:a<s.heap.objs.size:=zP ho
 have k1:∀ b u,b≠a->s.heap.get? b=some u->(s.heap.update a (Obj.mapSeq fun _=>#[])).get? b=some u:=fun b u ne e=>by rw[Heap.get?_update_ne _ _ _ _ ne];exact e
 obtain⟨c1,g1⟩:∃ c1,(s.heap.update a (Obj.mapSeq fun _=>#[])).get? a=some (seqObj "list" #[] c1):=⟨_,get?_update_seq ho _⟩
 generalize hg1:s.heap.update a (Obj.mapSeq fun _=>#[])=G1 at k1 g1
 have k2:∀ b u,b≠a->s.heap.get? b=some u->((G1.push (seqObj "tuple" vs.toArray 0)).push (seqObj "list" #[] 0)).get? b=some u:=fun b u ne e=>zC _ (zC _ (k1 b u ne e))
 have g2:((G1.push (seqObj "tuple" vs.toArray 0)).push (seqObj "list" #[] 0)).get? a=some (seqObj "list" #[] c1):=zC _ (zC _ g1)
 rw[list_sort_plain]
 refine zB (listItems_at ho rfl (zB (listUpdate_at ho rfl ?_ (hsz:=by rw[zG,sizeLine_eq];lia))))
 rw[hg1]
 refine zB (seqEpoch_at g1 rfl (zB (wpAny_newTuple ?_ (by show vs.length<=_;rw[sizeLine_eq];lia))))
 refine zB (wpAny_newList (wpAny_holding ?_))
 show wpAny (model prog w) A _ P E { s with heap:=(G1.push (seqObj "tuple" vs.toArray 0)).push (seqObj "list" #[] 0) }
 generalize (G1.push (seqObj "tuple" vs.toArray 0)).push (seqObj "list" #[] 0)=G2 at k2 g2
 dsimp only
 have fin:∀ st':SortSt,(arrOf st').Perm (pairsOf vs)->SortedToK κ (arrOf st') (pairsOf vs).size->P (.done (.ret .none)) { s with heap:=G2.update a (Obj.mapSeq fun _=>(arrOf st').map (·.2)) }:=fun st' hp hs=>by
  obtain⟨e,p⟩:=back_pairs hp
  obtain⟨c3,g3⟩:∃ c3,(G2.update a (Obj.mapSeq fun _=>(arrOf st').map (·.2))).get? a=some (seqObj "list" ((arrOf st').map (·.2)) c3):=⟨_,get?_update_seq g2 _⟩
  refine h ((arrOf st').toList.map (·.2)) _ c3 p ?_ (fun b u ne z=>by rw[Heap.get?_update_ne _ _ _ _ ne];exact k2 b u ne z) ?_
  ·rw[<- e]
   have l2:(pairsOf vs).size=((arrOf st').toList.map (·.2)).length:=by rw[pairsOf_size,p.length_eq]
   rw[<- l2]
   exact hs
  ·rw[g3]
   congr 2
   apply Array.ext'
   simp
 by_cases h2:vs.toArray.size<2
 ·rw[if_pos h2,if_pos h2]
  refine zB (zH ?_)
  rw[StateT.run_pure]
  refine zB (zH ?_)
  dsimp only
  refine zB (seqEpoch_at g2 rfl (zB (listUpdate_at g2 rfl ?_ (hsz2:=by rw[Array.size_map];show(pairsOf vs).size<=_;rw[pairsOf_size,sizeLine_eq];lia))))
  simp only[bne_self_eq_false,zAY,if_false]
  refine zH (fin (SortSt.mk' general' (vs.toArray.zip vs.toArray) #[] 7 none) (Array.Perm.refl _) fun i j ij jl=>?_)
  have e:i=j:=by
   rw[pairsOf_size]at jl
   simp only[zG]at h2
   lia
  rw[e]
  exact KeyOrd.kle_refl _
 ·have h2':2<=vs.length:=by simpa using h2
  obtain⟨lo,kk⟩:=hk h2' G2 k2
  rw[if_neg h2,if_neg h2]
  refine zB (kk _ ?_)
  refine zB (wpAny_mono (runs_okZ (κ:=κ) (kd:=kd) (a₀:=pairsOf vs) (st:=SortSt.mk' kd (vs.toArray.zip vs.toArray) #[] 7 none) (Q:=fun _ st'=>(arrOf st').Perm (pairsOf vs)/\failedOf st'=none/\SortedToK κ (arrOf st') (pairsOf vs).size)
   lo h0 ⟨Array.Perm.refl _,rfl,rfl,rfl,fun k z=>absurd z (Nat.not_lt_zero _)⟩ (by rw[pairsOf_size];exact h2') (by rw[pairsOf_size];exact hl) fun st' a1 a2 a3=>⟨a1,a2,fun i j ij jl=>by
    have:=a3 i j ij jl
    rw[Nat.zero_add,Nat.zero_add]at this
    exact this⟩) ?_ fun _ _ e=>e)
  rintro⟨⟨⟩,st'⟩ s' ⟨rfl,hp,hf,hs⟩
  dsimp only
  refine zB (seqEpoch_at g2 rfl (zB (listUpdate_at g2 rfl ?_ (hsz2:=by refine zAC (Nat.le_of_eq ((Array.size_map ..).trans (hp.size_eq.trans (pairsOf_size _)))) ?_;rw[sizeLine_eq];lia))))
  rw[hf]
  simp only[bne_self_eq_false,zAY,if_false]
  exact zH (fin st' hp hs)
end
end Srt
namespace L2
open PySem PySem.W PyProof.Rows Srt SetA
section
variable{X:Cx}{pins:List (Addr×Obj)}{σ:St}{H:Hp}{s:Shared}
theorem sort_newZ{L:Addr}{A:Around}{E:Value->Shared->Prop}{as:List Addr}{ks:List (List Int)}{P:Fin->Shared->Prop}(ho:s.heap.get? L=some (seqObj "list" (as.map Value.ref).toArray 0))(hT:Paired (fun a k=>TupI s.heap (.ref a) k/\k≠[]) as ks)(hl:as.length<64)
  (h:∀ (bs:List Addr) (ns:List (List Int)) (g:Heap) (c:Nat),bs.Perm as->ns.Perm ks->ns.Pairwise (fun x y=>lexlt y x=false)->Paired (fun a k=>TupI s.heap (.ref a) k) bs ns->(∀ b u,b≠L->s.heap.get? b=some u->g.get? b=some u)->g.get? L=some (seqObj "list" (bs.map Value.ref).toArray c) ->
   P (.done (.ret .none)) { s with heap:=g }):wpAny (model X.prog X.w) A (Builtin.«list.sort» ⟨[.ref L],[]⟩) P E s:=by
 have neL:∀ v ns,TupI s.heap v ns->v≠.ref L:=fun v ns x e=>by
  obtain⟨a,o,its,n,rfl,g1,c,_⟩:=x
  cases e
  rw[ho]at g1
  cases g1
  exact absurd (show Value.type "list" = Value.type "tuple" from c) (by decide)
 have lenk:as.length=ks.length:=hT.length
 have kp:∀ g:Heap,(∀ b u,b≠L->s.heap.get? b=some u->g.get? b=some u)->∀ v ns,TupI s.heap v ns->TupI g v ns:=fun g k v ns x=>x.to fun b u e z=>k b u (fun q=>neL v ns x (by rw[e,q])) z
 have memk:∀ v∈as.map Value.ref,∃ k,TupI s.heap v k:=fun v hv=>by
  obtain⟨a,ha,rfl⟩:=zAA.mp hv
  clear h ho neL kp hl lenk hv
  induction hT with
  |nil=>cases ha
  |cons r _ ih =>
   rcases zT.mp ha with e | e
   ·rw[e];exact⟨_,r.1⟩
   ·exact ih e
 refine sort_genZ (κ:=κT s.heap) (kd:=tuples' true) ho (fun p hp=>?_) (by rw[zA];exact hl) (fun l2 g k=>⟨ltT_ok (kp g k),fun R hR=>?_⟩) fun ws g c pw sw k gL=>?_
 ·rw[pairsOf_toList]at hp
  obtain⟨e1,e2⟩:=Srt.mem_zip_self hp
  obtain⟨kk,x⟩:=memk p.2 e2
  rw[e1]
  exact⟨kk,κT_key x⟩
 ·have hT':Paired (fun a k=>TupI g (.ref a) k/\k≠[]) as ks:=Paired.mapP hT fun a b z=>⟨kp g k _ _ z.1,z.2⟩
  obtain⟨fs,t,l,z⟩:=tups_of hT'
  by_cases e0:fs=[]
  ·rw[e0]at l
   rw[zA]at l2
   simp at l
   lia
  ·refine kat_kind (T:=Value.type "int") t (zBA.mpr e0) (fun v hv=>?_) (by decide) ?_
   ·obtain⟨i,tk,rfl⟩:=z v hv
    exact looks_int
   ·have e:(Value.type "int" != Value.type "tuple")=true:=by decide
    rw[e]
    exact hR
 ·-- the values are refs again,the keys a permutation
  have unr:∀ l:List Value,(∀ v∈l,∃ a,v=Value.ref a)->(l.map unref).map Value.ref=l:=fun l hl=>by
   induction l with
   |nil=>rfl
   |cons v l ih =>
    obtain⟨a,rfl⟩:=hl v (zS ..)
    rw[zAB,zAB,ih fun v hv=>hl v (zQ _ hv)]
    rfl
  have eb:(ws.map unref).map Value.ref=ws:=unr ws fun v hv=>by
   obtain⟨a,_,rfl⟩:=zAA.mp (pw.mem_iff.mp hv)
   exact⟨a,rfl⟩
  have pb:(ws.map unref).Perm as:=by
   have:=pw.map unref
   rw[zBD]at this
   have e:(as.map (unref ∘ Value.ref))=as:=by
    rw[show(unref ∘ Value.ref)=id from rfl,List.map_id]
   rw[e]at this
   exact this
  generalize ws.map unref=bs at eb pb
  subst eb
  have ek:ks=as.map (keyA s.heap):=by
   clear h ho neL kp hl lenk memk pw sw pb
   induction hT with
   |nil=>rfl
   |cons r _ ih=>rw[zAB,keyA_eq r.1,<- ih]
  have kb:∀ b∈bs,TupI s.heap (.ref b) (keyA s.heap b):=fun b hb=>by
   obtain⟨k,x⟩:=memk (.ref b) (zAA.mpr ⟨b,pb.mem_iff.mp hb,rfl⟩)
   rw[keyA_eq x]
   exact x
  refine h bs (bs.map (keyA s.heap)) g c pb (by rw[ek];exact pb.map _) ?_ ?_ k gL
  ·rw[List.pairwise_iff_getElem]
   intro i j hi hj ij
   rw[zA]at hi hj
   have z:=sw i j (Nat.le_of_lt ij) (by rw[zA];exact hj)
   have kk:∀ m (hm:m<bs.length),KK (κT s.heap) (pairsOf (bs.map Value.ref)) m=keyA s.heap bs[m]:=fun m hm=>by
    have e:(pairsOf (bs.map Value.ref))[m]?=some (Value.ref bs[m],Value.ref bs[m]):=by simp[pairsOf,hm]
    unfold KK
    rw[e]
    rfl
   rw[kk i hi,kk j hj]at z
   rw[zR,zR]
   exact z
  ·clear h ho neL kp hl lenk memk pw sw pb gL
   induction bs with
   |nil=>exact .nil
   |cons b bs ih=>exact .cons (kb b (zS ..)) (ih fun b hb=>kb b (zQ _ hb))
theorem call_sortedTZ:CallR X (.builtin "sorted") (fun xs H Q=>∃ l as ks,xs=[V.ref l]/\SqL X.K H l (List.map V.ref as)/\TupsAt H as ks/\(∀ k∈ks,k≠[])/\as.length<64 /\
  ∀ (l':Addr) (bs:List Addr) (ns:List (List Int)),H l'=none->ns.Perm ks->ns.Pairwise (fun x y=>lexlt y x=false)->TupsAt H bs ns->Q (.ref l') (upd H l' (.lst (bs.map V.ref)))):=by
 intro pins s σ H xs us Q I r h
 obtain⟨l,as,ks,rfl,hq,ht,hne,hlen,q⟩:=h
 obtain⟨u,rfl,rx⟩:=vals1 r
 cases rx
 obtain⟨its,r',pl,hz⟩:=I.list hq
 have er:=refs_of r'
 subst er
 refine Calls.call_function_entry kind_sorted plain_sorted entry_sorted (args_sorted1 _) ?_
 unfold Builtin.«sorted»
 refine zB (m:=checkCount "sorted" 1 1 _) (zH (zB (collect_list pl.isList ?_ (by rw[zA,sizeLine_eq];lia))))
 generalize hh':(s.heap.push (seqObj "list" #[] 0)).update s.heap.objs.size (Obj.mapSeq (·++(as.map Value.ref).toArray))=h'
 have kp:∀ b u,s.heap.get? b=some u->h'.get? b=some u:=hh'▸collect_kept
 refine zB (wpAny_newList ?_ (by rw[zA,sizeLine_eq];lia))
 have gL:(h'.push (seqObj "list" (as.map Value.ref).toArray 0)).get? h'.objs.size=some (seqObj "list" (as.map Value.ref).toArray 0):=zW _ rfl
 have I1:Inv X pins σ H { s with heap:=h' }:=I.kept (t':=s.toks) kp
 have kp2:∀ b u,h'.get? b=some u->(h'.push (seqObj "list" (as.map Value.ref).toArray 0)).get? b=some u:=fun b u e=>zC _ e
 have zipne:∀ {as:List Addr}{ks:List (List Int)},TupsAt H as ks->(∀ k∈ks,k≠[])->Paired (fun a k=>H a=some (.tup (List.map V.int k))/\k≠[]) as ks:=by
  intro as ks h
  induction h with
  |nil=>intro _;exact .nil
  |cons r _ ih=>intro hn;exact .cons ⟨r,hn _ (zS ..)⟩ (ih fun k hk=>hn k (zQ _ hk))
 have tT:Paired (fun a k=>TupI (h'.push (seqObj "list" (as.map Value.ref).toArray 0)) (.ref a) k/\k≠[]) as ks:=Paired.mapP (zipne ht hne) fun a k z=>⟨(tupI_of I1 z.1).to fun b u _ e=>kp2 b u e,z.2⟩
 have memH:=tups_mem ht
 refine zB (wpAny_holding (wpAny_call_entry slot_list_sort ⟨_,gL,rfl⟩ entry_list_sort (sort_newZ (X:=X) (s:={ s with heap:=h'.push (seqObj "list" (as.map Value.ref).toArray 0) }) gL tT hlen fun bs ns g c pb pn pw pt kp3 gg=>⟨_,rfl,?_⟩) (args_list_sort _)))
 refine zH ⟨_,rfl,.ref h'.objs.size,_,I1.laid (t':=s.toks) (a:=h'.objs.size) (o:=.lst (bs.map V.ref)) (fun b u e=>kp3 b u (zZ (zP e)) (kp2 b u e)) (zI _) (show ObjOk X.prog X.w _ g _ (.lst (bs.map V.ref))from⟨?_,bs.map Value.ref,c,?_,gg⟩),rfl,q _ bs ns (I1.hok.fresh (zI _)) pn pw ?_⟩
 ·rw[zA,pb.length_eq,sizeLine_eq];lia
 ·clear pb pt gg
  induction bs with
  |nil=>exact .nil
  |cons b bs ih=>exact .cons rfl ih
 ·have memB:∀ a∈bs,∃ k:List Int,H a=some (.tup (k.map V.int)):=fun a ha=>memH a (pb.mem_iff.mp ha)
  clear pb gg pn pw
  induction pt with
  |nil=>exact .nil
  | @cons a k l1 l2 r1 _ ih =>
   refine .cons ?_ (ih fun a ha=>memB a (zQ _ ha))
   obtain⟨k',e⟩:=memB a (zS ..)
   rw[e,r1.inj ((tupI_of I1 e).to fun b u _ z=>kp2 b u z)]
end
end L2
namespace K63
open PySem L2 PyProof.Rows
noncomputable def top(i:Nat):Stmt:=PySem.Challenge.pw_partedweb_k63_trees_by_others.main.body.getD i (.Pass ⟨0,0,0,0⟩)
noncomputable abbrev sIsNumber:Stmt:=top 1
noncomputable abbrev sAreNumbers:Stmt:=top 2
noncomputable abbrev sIsList:Stmt:=top 3
noncomputable abbrev sIsTupleOf:Stmt:=top 4
noncomputable abbrev sRises:Stmt:=top 5
noncomputable abbrev sIsCut:Stmt:=top 7
noncomputable abbrev sTieWeights:Stmt:=top 8
noncomputable abbrev sWeightOf:Stmt:=top 9
noncomputable abbrev sWithout:Stmt:=top 10
noncomputable abbrev sBesideEach:Stmt:=top 11
noncomputable abbrev sHeadsOf:Stmt:=top 12
noncomputable abbrev sSpread:Stmt:=top 13
noncomputable abbrev sTiesAlong:Stmt:=top 14
noncomputable abbrev sPartsPairs:Stmt:=top 16
noncomputable abbrev sLeastForPairs:Stmt:=top 17
noncomputable abbrev sLightest:Stmt:=top 18
noncomputable abbrev sLoosestWay:Stmt:=top 19
noncomputable abbrev sWaysFrom:Stmt:=top 20
noncomputable abbrev sShowsForPairs:Stmt:=top 22
noncomputable abbrev sIsEnd:Stmt:=top 23
noncomputable abbrev sIsWayOf:Stmt:=top 24
noncomputable abbrev sIsWay:Stmt:=top 25
noncomputable abbrev sAreEnds:Stmt:=top 26
noncomputable abbrev sCell:Stmt:=top 28
noncomputable abbrev sBox:Stmt:=top 29
noncomputable abbrev sTake:Stmt:=top 30
noncomputable abbrev sWeight:Stmt:=top 31
noncomputable abbrev sWeb:Stmt:=top 32
noncomputable abbrev sWeigh:Stmt:=top 33
noncomputable abbrev sPairs:Stmt:=top 34
noncomputable abbrev sSmallWeb:Stmt:=top 35
noncomputable abbrev sLeastPairs:Stmt:=top 36
noncomputable abbrev sTies:Stmt:=top 37
noncomputable abbrev sSomeWay:Stmt:=top 38
noncomputable abbrev sGrown:Stmt:=top 39
noncomputable abbrev sLaw:Stmt:=top 40
noncomputable def Kept(p:Addr)(H H':Hp):Prop:=∀ b o,b≠p->H b=some o->H' b=some o
theorem Kept.refl{p:Addr}{H:Hp}:Kept p H H:=fun _ _ _ e=>e
theorem Kept.trans{p:Addr}{H H' H'':Hp}(a:Kept p H H')(b:Kept p H' H''):Kept p H H'':=fun c o n e=>b c o n (a c o n e)
theorem Kept.new{p q:Addr}{H:Hp}{o:HO}(h:H q=none):Kept p H (upd H q o):=fun b u _ e=>by rw[upd_ne (ne_of_none e h)];exact e
theorem Kept.at{p:Addr}{H:Hp}{o:HO}:Kept p H (upd H p o):=fun b u n e=>by rw[upd_ne n];exact e
noncomputable def BoxAt(H:Hp)(p:Addr)(N:Nat):Prop:=∃ a b c:Int,H p=some (.lst [.int a,.int b,.int c])/\0<=a/\0<=c/\c<=(N:Int)
theorem BoxAt.mono{H:Hp}{p:Addr}{N M:Nat}(x:BoxAt H p N)(h:N<=M):BoxAt H p M:=by
 obtain⟨a,b,c,e,h1,h2,h3⟩:=x
 exact⟨a,b,c,e,h1,h2,by lia⟩
theorem BoxAt.new{H:Hp}{p q:Addr}{N:Nat}{o:HO}(x:BoxAt H p N)(h:H q=none):BoxAt (upd H q o) p N:=by
 obtain⟨a,b,c,e,r⟩:=x
 exact⟨a,b,c,by rw[upd_ne (ne_of_none e h)];exact e,r⟩
theorem b01(b:Bool):-(2 ^ 64) <(if b=true then 1 else 0:Int)/\(if b=true then 1 else 0:Int)<2 ^ 64:=by cases b <;> decide
theorem b0(b:Bool):(0:Int)<=(if b=true then 1 else 0:Int):=by cases b <;> decide
inductive spCellI(K:PySem.W.Frag)(vs:List V)(H:Hp)(Q:VK):Prop where
 |mk (a:Addr) (ns:List Int) (k:Nat) (h1:vs=[.ref a,.int k]) (h2:SqL K H a (ns.map V.int)) (h3:∀ z,Q (.int z) H)
noncomputable def spCell(K:PySem.W.Frag):Sp:=fun vs H Q _=>spCellI K vs H Q
inductive spBoxI(K:PySem.W.Frag)(vs:List V)(H:Hp)(Q:VK):Prop where
 |mk (a:Addr) (ns:List Int) (k:Nat) (h1:vs=[.ref a,.int k]) (h2:SqL K H a (ns.map V.int)) (h3:∀ p H',H p=none->BoxAt H' p 0->Kept p H H'->Q (.ref p) H')
noncomputable def spBox(K:PySem.W.Frag):Sp:=fun vs H Q _=>spBoxI K vs H Q
inductive spTakeI(vs:List V)(H:Hp)(Q:VK):Prop where
 |mk (p:Addr) (m:Int) (N:Nat) (h1:vs=[.ref p,.int m]) (h2:BoxAt H p N) (h3:N<2 ^ 40) (h4:0<m) (h5:m<1073741824) (h6:∀ z H',0<=z->z<m->BoxAt H' p (N+1)->Kept p H H'->Q (.int z) H')
noncomputable def spTake:Sp:=fun vs H Q _=>spTakeI vs H Q
inductive spWeightI(vs:List V)(H:Hp)(Q:VK):Prop where
 |mk (p:Addr) (h:Nat) (N:Nat) (h1:vs=[.ref p,.int h]) (h2:h<4) (h3:BoxAt H p N) (h4:N+2<2 ^ 40) (h5:∀ z H',1<=z->BoxAt H' p (N+2)->Kept p H H'->Q (.int z) H')
noncomputable def spWeight:Sp:=fun vs H Q _=>spWeightI vs H Q
structure Txt(mg:Str->Option Value):Prop where
 abs:mg "abs" = none
 int:mg "int" = none
 len:mg "len" = none
 range:mg "range" = none
 min:mg "min" = none
 max:mg "max" = none
 tuple:mg "tuple" = none
 sorted:mg "sorted" = none
 isinst:mg "isinstance" = none
 list:mg "list" = none
 str:mg "str" = none
 bool:mg "bool" = none
 sum:mg "sum" = none
section
variable{P:Program}{w:World}{K:PySem.W.Frag}{mg:Str->Option Value}{base:Heap}
theorem scCell:FnScope ["_law_script","_law_k"] ["_law_script","_law_k"] (defScope sCell):=⟨rfl,rfl,rfl,by decide +kernel,rfl,by decide +kernel,by decide +kernel⟩
theorem ok_cell{f:Addr}{fd:FuncData}(F:Fun K "_law_cell_at" "_law_cell_at" sCell f fd)(T:Txt mg):FnOk P w K mg base CX0 1 f fd ["_law_script","_law_k"] (spCell K):=by
 refine F.ok scCell (fun vs H Q E h=>?_) (fun cdv A outer s H vs Q E hr h=>?_)
 ·obtain⟨a,ns,k,rfl,_⟩:=h
  rfl
 ·obtain⟨a,ns,k,rfl,hS,q⟩:=h
  refine⟨_,pss_cons (ps_if (pt_cmpR op_lt (pv 1) (pe_callB call_len_seq (by rfl) T.len PySem.boot_len (pa_cons (pv 0) pa_nil)) (nomark _)) (pss_one (ps_ret (pe_ix ix_list (pv 0) (pv 1) (fun _ _=>rfl)))) pss_nil) (pss_one (ps_ret pe_int)),?_⟩
  refine⟨_,rfl,_,rfl,a,_,rfl,.inl hS,_,_,rfl,rfl,_,rfl,?_⟩
  refine ite2 (fun hk=>?_) (fun _=>?_)
  ·have hk':k<ns.length:=by
    have:=of_decide_eq_true hk
    rw[zA]at this
    lia
   exact⟨_,rfl,_,rfl,a,_,_,_,rfl,rfl,hS,atI_nat (v:=V.int ns[k]) (by rw[zAD,zF hk'];rfl),q _⟩
  ·exact q _
theorem scBox:FnScope ["_law_script","_law_k","_law_cell"] ["_law_script","_law_k"] (defScope sBox):=⟨rfl,rfl,rfl,by decide +kernel,rfl,by decide +kernel,by decide +kernel⟩
theorem ok_box{f g:Addr}{fd gd:FuncData}(F:Fun K "_law_box" "_law_box" sBox f fd)(T:Txt mg)(G:Fun K "_law_cell_at" "_law_cell_at" sCell g gd)(mG:mg "_law_cell_at" = some (.ref g))(bG:Binds K gd ["_law_script","_law_k"] []):FnOk P w K mg base CX0 2 f fd ["_law_script","_law_k"] (spBox K):=by
 refine F.ok scBox (fun vs H Q E h=>?_) (fun cdv A outer s H vs Q E hr h=>?_)
 ·obtain⟨a,ns,k,rfl,_⟩:=h
  rfl
 ·obtain⟨a,ns,k,rfl,hS,q⟩:=h
  have GG:FnOk P w K mg base CX0 1 g gd ["_law_script","_law_k"] (spCell K):=ok_cell G T
  refine⟨_,pss_cons (ps_set (i:=2) scBox.nd rfl (Or.inl rfl) (pe_call GG hr rfl mG G.kp bG .nil pass0 (pa_cons (pv 0) (pa_cons (pv 1) pa_nil))))
   (pss_one (ps_ret (pe_lst (pa_cons (pe_op op_mul (pe_callB call_abs (by rfl) T.abs boot_abs (pa_cons (pv 2) pa_nil)) (pe_callTy call_int1 (by rfl) T.int boot_int (pa_cons (pe_cmpR op_ge (pe_callB call_abs (by rfl) T.abs boot_abs (pa_cons (pv 2) pa_nil)) (pe_op op_pow pe_int pe_int) (nomark _)) pa_nil)))
    (pa_cons (pe_op op_add (pe_op op_add (pe_op op_mod (pv 2) pe_int) (pe_op op_mul pe_int (pv 1))) pe_int) (pa_cons pe_int pa_nil)))))),?_⟩
  refine⟨_,rfl,_,rfl,a,ns,k,rfl,hS,fun z=>?_⟩
  refine⟨_,rfl,_,rfl,_,rfl,_,rfl,_,_,rfl,rfl,⟨by decide,by decide,by decide⟩,_,_,rfl,rfl,.inr ⟨_,rfl,_,_,rfl,rfl,.inr ?_,_,rfl,_,_,rfl,rfl,(by show(0:Int)<2305843009213693951;decide),_,rfl,_,_,rfl,rfl,.inl ⟨by decide,by decide⟩,_,_,rfl,rfl,_,_,rfl,rfl,(by show 3<=sizeLine;decide),fun p hp=>?_⟩⟩
  ·exact b01 _
  ·refine q p _ hp ⟨_,_,_,upd_same,?_,by decide,by decide⟩ (Kept.new hp)
   refine Int.mul_nonneg ?_ ?_
   ·split <;> lia
   ·exact b0 _
theorem scTake:FnScope ["_law_box_here","_law_many","_law_found","_law_once","_law_twice"] ["_law_box_here","_law_many"] (defScope sTake):=⟨rfl,rfl,rfl,by decide +kernel,rfl,by decide +kernel,by decide +kernel⟩
theorem ok_take{f:Addr}{fd:FuncData}(F:Fun K "_law_take" "_law_take" sTake f fd):FnOk P w K mg base CX0 1 f fd ["_law_box_here","_law_many"] spTake:=by
 refine F.ok scTake (fun vs H Q E h=>?_) (fun cdv A outer s H vs Q E hr h=>?_)
 ·obtain⟨p,m,N,rfl,_⟩:=h
  rfl
 ·obtain⟨p,m,N,rfl,⟨a,b,c,hp,a0,c0,cN⟩,hN,m0,m1,q⟩:=h
  have hS:∀ {x y z:Int}{G:Hp},G p=some (.lst [.int x,.int y,.int z])->SqL K G p [.int x,.int y,.int z]:=fun e=>SqL.of e
  refine⟨_,pss_cons (ps_if (pt_cmpR op_gt (pe_ix ix_list (pvQ 0) pe_int (fun _ _=>rfl)) pe_int (nomark _))
    (pss_cons (ps_set (i:=2) scTake.nd rfl (Or.inl rfl) (pe_op op_mod (pe_ix ix_list (pvQ 0) pe_int (fun _ _=>rfl)) (pvQ 1)))
     (pss_cons (ps_asg (pe_op op_fdiv (pe_ix ix_list (pvQ 0) pe_int (fun _ _=>rfl)) (pvQ 1)) (pg_sub (pvQ 0) pe_int set_list))
     (pss_one (ps_ret (pvQ 2))))) pss_nil)
   (pss_cons (ps_asg (pe_op op_add (pe_ix ix_list (pvQ 0) pe_int (fun _ _=>rfl)) pe_int) (pg_sub (pvQ 0) pe_int set_list))
   (pss_cons (ps_set (i:=3) scTake.nd rfl (Or.inl rfl) (pe_op op_mod (pe_op op_mul (pe_op op_add (pe_ix ix_list (pvQ 0) pe_int (fun _ _=>rfl)) (pe_op op_mul pe_int (pe_ix ix_list (pvQ 0) pe_int (fun _ _=>rfl)))) (pe_op op_add pe_int (pe_ix ix_list (pvQ 0) pe_int (fun _ _=>rfl)))) pe_int))
   (pss_cons (ps_set (i:=4) scTake.nd rfl (Or.inl rfl) (pe_op op_mod (pe_op op_mul (pe_op op_add (pvQ 3) (pe_ix ix_list (pvQ 0) pe_int (fun _ _=>rfl))) (pe_op op_add (pe_op op_mod (pvQ 3) pe_int) pe_int)) pe_int))
   (pss_one (ps_ret (pe_op op_mod (pe_op op_fdiv (pe_op op_mod (pe_op op_add (pe_op op_mul (pvQ 4) pe_int) (pvQ 3)) pe_int) pe_int) (pvQ 1))))))),?_⟩
  refine⟨p,_,_,_,rfl,rfl,hS hp,rfl,_,_,rfl,rfl,_,rfl,?_⟩
  refine ite2 (fun hk=>?_) (fun _=>?_)
  ·have pos:0<a:=of_decide_eq_true hk
   refine⟨p,_,_,_,rfl,rfl,hS hp,rfl,_,_,rfl,rfl,m0,?_⟩
   refine⟨p,_,_,_,rfl,rfl,hS hp,rfl,_,_,rfl,rfl,⟨m0,m1⟩,p,_,_,_,rfl,rfl,hp,rfl,?_⟩
   refine q _ _ (Int.emod_nonneg _ (by lia)) (Int.emod_lt_of_pos _ m0) ⟨_,_,_,upd_same,Int.ediv_nonneg a0 (by lia),c0,by lia⟩ Kept.at
  ·refine⟨p,_,_,_,rfl,rfl,hS hp,rfl,_,_,rfl,rfl,p,_,_,_,rfl,rfl,hp,rfl,?_⟩
   have g1:(upd H p (.lst [.int a,.int b,.int (c+1)])) p=some (.lst [.int a,.int b,.int (c+1)]):=upd_same
   refine⟨p,_,_,_,rfl,rfl,hS g1,rfl,p,_,_,_,rfl,rfl,hS g1,rfl,_,_,rfl,rfl,.inl ⟨by decide,by decide⟩,_,_,rfl,rfl,p,_,_,_,rfl,rfl,hS g1,rfl,_,_,rfl,rfl,_,_,rfl,rfl,.inr ⟨by lia,by lia⟩,_,_,rfl,rfl,(by show(0:Int)<2147483647;decide),?_⟩
   generalize ho:(b+48271 * (c+1)) * (39373+(c+1)) % 2147483647=once
   have o0:0<=once:=by rw[<- ho];exact Int.emod_nonneg _ (by decide)
   have o1:once<2147483647:=by rw[<- ho];exact Int.emod_lt_of_pos _ (by decide)
   refine⟨p,_,_,_,rfl,rfl,hS g1,rfl,_,_,rfl,rfl,_,_,rfl,rfl,(by show(0:Int)<40009;decide),_,_,rfl,rfl,_,_,rfl,rfl,.inl ⟨by lia,by lia⟩,_,_,rfl,rfl,(by show(0:Int)<2147483629;decide),?_⟩
   generalize ht:(once+(c+1)) * (once % 40009+7) % 2147483629=twice
   have t0:0<=twice:=by rw[<- ht];exact Int.emod_nonneg _ (by decide)
   have t1:twice<2147483629:=by rw[<- ht];exact Int.emod_lt_of_pos _ (by decide)
   refine⟨_,_,rfl,rfl,.inl ⟨by lia,by lia⟩,_,_,rfl,rfl,_,_,rfl,rfl,(by show(0:Int)<2147483587;decide),_,_,rfl,rfl,⟨by decide,by decide⟩,_,_,rfl,rfl,m0,?_⟩
   exact q _ _ (Int.emod_nonneg _ (by lia)) (Int.emod_lt_of_pos _ m0) ⟨_,_,_,g1,a0,by lia,by lia⟩ Kept.at
structure TakeF(P:Program)(w:World)(K:PySem.W.Frag)(mg:Str->Option Value)(base:Heap)(g:Addr)(gd:FuncData):Prop where
 ok:FnOk P w K mg base CX0 1 g gd ["_law_box_here","_law_many"] spTake
 mg:mg "_law_take" = some (.ref g)
 kp:PySem.W.keepIn K (.ref g)=true
 bd:Binds K gd ["_law_box_here","_law_many"] []
theorem scWeight:FnScope ["_law_box_here","_law_heavy"] ["_law_box_here","_law_heavy"] (defScope sWeight):=⟨rfl,rfl,rfl,by decide +kernel,rfl,by decide +kernel,by decide +kernel⟩
theorem ok_weight{f g:Addr}{fd gd:FuncData}(F:Fun K "_law_weight" "_law_weight" sWeight f fd)(G:TakeF P w K mg base g gd):FnOk P w K mg base CX0 2 f fd ["_law_box_here","_law_heavy"] spWeight:=by
 refine F.ok scWeight (fun vs H Q E h=>?_) (fun cdv A outer s H vs Q E hr h=>?_)
 ·obtain⟨p,h,N,rfl,_⟩:=h
  rfl
 ·obtain⟨p,h,N,rfl,h4,B,hN,q⟩:=h
  refine⟨_,pss_one (ps_ret (pe_op op_add pe_int (pe_call G.ok hr rfl G.mg G.kp G.bd .nil pass0 (pa_cons (pvQ 0) (@pa_sub _ _ _ _ _ _ _
   (@pe_ix _ _ _ _ _ _ _ ix_list (@pe_lst _ _ _ _ (@pa_cst _ _ _ _ _ _ _ pe_int (@pa_cst _ _ _ _ _ _ _ pe_int (@pa_cst _ _ _ _ _ _ _ pe_int (@pa_sub _ _ _ _ _ _ _ (@pe_ix _ _ _ _ _ _ _ ix_list (@pe_lst _ _ _ _ (@pa_cst _ _ _ _ _ _ _ pe_int (@pa_cst _ _ _ _ _ _ _ pe_int (@pa_bin _ _ _ _ _ _ _ _ (pe_op op_pow pe_int pe_int) pa_nil)))) (pe_call G.ok hr rfl G.mg G.kp G.bd .nil pass0 (pa_cons (pvQ 0) (pa_cons pe_int pa_nil))) (fun _ _=>rfl)) pa_nil))))) (pvQ 1) (fun _ _=>rfl)) pa_nil))))),?_⟩
  refine⟨10,9,rfl,rfl,⟨by decide,by decide,by decide⟩,?_⟩
  refine⟨(by show 3<=sizeLine;decide),fun l hl=>?_⟩
  refine⟨p,_,N,rfl,B.new hl,by lia,by decide,by decide,fun z H1 z0 z1 B1 k1=>?_⟩
  have lp:l≠p:=fun e=>by
   obtain⟨a,b,c,e1,_⟩:=B
   rw[e,e1]at hl
   cases hl
  have el:=k1 l _ lp upd_same
  obtain⟨zn,rfl⟩:∃ zn:Nat,z=(zn:Int):=⟨z.toNat,by lia⟩
  have e9:((10:Int) ^ (Int.toNat 9))=1000000000:=by decide +kernel
  try dsimp only at el
  rw[e9]at el
  have h3:zn<3:=by lia
  obtain⟨v,hv,v0,v1⟩:∃ v:Int,[V.int 10,V.int 100,V.int 1000000000][zn]?=some (V.int v)/\0<v/\v<1073741824:=by
   match zn,h3 with
   | 0,_=>exact⟨_,rfl,by decide,by decide⟩
   | 1,_=>exact⟨_,rfl,by decide,by decide⟩
   | 2,_=>exact⟨_,rfl,by decide,by decide⟩
  refine⟨l,_,_,_,rfl,rfl,SqL.of el,atI_nat hv,(by show 4<=sizeLine;decide),fun l2 hl2=>?_⟩
  obtain⟨v',hv',v0',v1'⟩:∃ v':Int,[V.int 1,V.int 3,V.int 9,V.int v][h]?=some (V.int v')/\0<v'/\v'<1073741824:=by
   match h,h4 with
   | 0,_=>exact⟨_,rfl,by decide,by decide⟩
   | 1,_=>exact⟨_,rfl,by decide,by decide⟩
   | 2,_=>exact⟨_,rfl,by decide,by decide⟩
   | 3,_=>exact⟨_,rfl,v0,v1⟩
  refine⟨l2,_,_,_,rfl,rfl,SqL.of upd_same,atI_nat hv',p,_,N+1,rfl,B1.new hl2,by lia,v0',v1',fun y H2 y0 y1 B2 k2=>⟨_,_,rfl,rfl,?_⟩⟩
  exact q _ _ (by lia) B2 ((Kept.new hl).trans (k1.trans ((Kept.new hl2).trans k2)))
end
noncomputable abbrev Tie:=Int×Int×Int
noncomputable def tieV(x:Tie):List V:=[.int x.1,.int x.2.1,.int x.2.2]
structure WebAt(H:Hp)(t:Addr)(n:Nat)(ties:List Tie):Prop where
 ex:∃ (ts:Addr) (as:List Addr),H t=some (.tup [.int n,.ref ts])/\H ts=some (.tup (as.map V.ref))/\Paired (fun a x=>H a=some (.tup (tieV x))) as ties
 len:ties.length<=60
theorem WebAt.same{H H':Hp}{t:Addr}{n:Nat}{ties:List Tie}(W:WebAt H t n ties)(s:Same H H'):WebAt H' t n ties:=by
 obtain⟨⟨ts,as,h1,h2,h3⟩,l⟩:=W
 exact⟨⟨ts,as,s _ _ h1,s _ _ h2,Paired.mapP h3 fun a x e=>s _ _ e⟩,l⟩
theorem inV_ints(z:Int):∀ ns:List Int,inV (V.int z) (ns.map V.int)=ns.contains z
 |[]=>rfl
 |n :: ns=>by
  have ih:=inV_ints z ns
  unfold inV at ih ⊢
  rw[zAB,List.any_cons,ih,List.contains_cons]
  congr 1
  show(n == z)=(z == n)
  exact Bool.beq_comm
theorem Kept.free{p l:Addr}{H H':Hp}{M:Nat}(k:Kept p H H')(B:BoxAt H' p M)(h:H' l=none):H l=none:=by
 cases e:H l with
 |none=>rfl
 |some o =>
  by_cases lp:l=p
  ·obtain⟨a,b,c,e1,_⟩:=B
   rw[lp,e1]at h
   cases h
  ·rw[k l o lp e]at h
   cases h
theorem BoxAt.ne{H:Hp}{p l:Addr}{N:Nat}(B:BoxAt H p N)(h:H l=none):l≠p:=fun e=>by
 obtain⟨a,b,c,e1,_⟩:=B
 rw[e,e1]at h
 cases h
theorem Kept.put{p d:Addr}{H H':Hp}{o:HO}(k:Kept p H H')(h:H d=none):Kept p H (upd H' d o):=fun b u n e=>by
 rw[upd_ne (ne_of_none e h)]
 exact k b u n e
theorem BoxAt.put{H:Hp}{p d:Addr}{N:Nat}{o:HO}(B:BoxAt H p N)(h:d≠p):BoxAt (upd H d o) p N:=by
 obtain⟨a,b,c,e,r⟩:=B
 exact⟨a,b,c,by rw[upd_ne (Ne.symm h)];exact e,r⟩
theorem tTru_if{σ:L2.St}{H:Hp}{A B:Hp->Prop}(h:A H):tTru σ H (fun b H3=>if b=true then A H3 else B H3):=by
 show if true=true then A H else B H
 exact iteT h
theorem Paired.snoc{α β:Type}{F:α->β->Prop}:∀ {l₁:List α}{l₂:List β}{a:α}{b:β},Paired F l₁ l₂->F a b->Paired F (l₁++[a]) (l₂++[b]):=by
 intro l ks a b h r
 induction h with
 |nil=>exact .cons r .nil
 |cons q t ih=>exact .cons q ih
noncomputable def TieOk(n:Nat)(x:Tie):Prop:=0<=x.1/\x.1<x.2.1/\x.2.1<n/\1<=x.2.2
noncomputable def tieLt(x y:Tie):Prop:=Srt.lexlt [x.1,x.2.1] [y.1,y.2.1]=true
noncomputable def KeyOk(n:Nat)(kv:List Key×V):Prop:=∃ a b c:Int,kv=([Sum.inl a,Sum.inl b],V.int c)/\TieOk n (a,b,c)
noncomputable def DInv(n:Nat)(kvs:List (List Key×V)):Prop:=(∀ kv∈kvs,KeyOk n kv)/\(kvs.map (·.1)).Nodup
theorem DInv.put{n:Nat}{kvs:List (List Key×V)}(h:DInv n kvs){a b c:Int}(ok:TieOk n (a,b,c)):DInv n (putK kvs [Sum.inl a,Sum.inl b] (V.int c))/\(putK kvs [Sum.inl a,Sum.inl b] (V.int c)).length<=kvs.length+1:=by
 unfold putK
 by_cases ex:(kvs.any fun kv=>decide (kv.1=[Sum.inl a,Sum.inl b]))=true
 ·rw[if_pos ex]
  refine⟨⟨fun kv hk=>?_,?_⟩,by rw[zA];lia⟩
  ·obtain⟨q,hq,e⟩:=zAA.mp hk
   by_cases z:q.1=[Sum.inl a,Sum.inl b]
   ·rw[if_pos z,z]at e
    exact⟨a,b,c,e.symm,ok⟩
   ·rw[if_neg z]at e
    rw[<- e]
    exact h.1 q hq
  ·have e:(kvs.map fun kv=>if kv.1=[Sum.inl a,Sum.inl b]then(kv.1,V.int c)else kv).map (·.1)=kvs.map (·.1):=by
    rw[zBD]
    refine zBS fun q _=>?_
    show(if q.1=[Sum.inl a,Sum.inl b]then(q.1,V.int c)else q).1=q.1
    split <;> rfl
   rw[e]
   exact h.2
 ·rw[if_neg ex]
  refine⟨⟨fun kv hk=>?_,?_⟩,by rw[zK];exact zI _⟩
  ·rcases zO.mp hk with z | z
   ·exact h.1 kv z
   ·exact⟨a,b,c,zD.mp z,ok⟩
  ·rw[zJ,zAV]
   refine⟨h.2,by simp,fun x hx y hy=>?_⟩
   have ey:y=[Sum.inl a,Sum.inl b]:=by simpa using hy
   subst ey
   intro z
   subst z
   obtain⟨q,hq,e⟩:=zAA.mp hx
   exact ex (List.any_eq_true.mpr ⟨q,hq,decide_eq_true e⟩)
noncomputable def unkey(k:List Key):List Int:=k.map fun x=>match x with
 | .inl i=>i
 | .inr _=>0
theorem keys_of{n:Nat}:∀ {kvs:List (List Key×V)},(∀ kv∈kvs,KeyOk n kv)->kvs.map (·.1)=List.map (List.map Sum.inl) (kvs.map fun kv=>unkey kv.1)
 |[],_=>rfl
 |kv :: kvs,h=>by
  obtain⟨a,b,c,e,_⟩:=h kv (zS ..)
  rw[zAB,zAB,zAB,keys_of fun q hq=>h q (zQ _ hq),e]
  rfl
theorem DInv.keys{n:Nat}{kvs:List (List Key×V)}(h:DInv n kvs):kvs.map (·.1)=List.map (List.map Sum.inl) (kvs.map fun kv=>unkey kv.1):=keys_of h.1
theorem DInv.nodup{n:Nat}{kvs:List (List Key×V)}(h:DInv n kvs):(kvs.map fun kv=>unkey kv.1).Nodup:=by
 have:=h.2
 rw[h.keys]at this
 unfold List.Nodup at this ⊢
 rw[List.pairwise_map]at this
 exact this.imp fun {x y} z e=>z (by rw[e])
theorem valV_mem{kvs:List (List Key×V)}{k:List Key}(h:k∈kvs.map (·.1)):∃ v,valV kvs k=some v/\(k,v)∈kvs:=by
 induction kvs with
 |nil=>cases h
 |cons q r ih =>
  by_cases e:q.1=k
  ·exact⟨q.2,valV_pos e,by rw[<- e];exact zS ..⟩
  ·rw[zAB]at h
   rcases zT.mp h with z | z
   ·exact absurd z.symm e
   ·obtain⟨v,h1,h2⟩:=ih z
    exact⟨v,(valV_neg e).trans h1,zQ _ h2⟩
inductive spWebI(vs:List V)(H:Hp)(Q:VK):Prop where
 |mk (p:Addr) (n N:Nat) (h1:vs=[.ref p,.int n]) (h2:BoxAt H p N) (h3:N+1000<2 ^ 40) (h4:1<=n) (h5:n<=8) (h6:∀ (t:Addr) (ties:List Tie) (H':Hp),H t=none->WebAt H' t n ties->(∀ x∈ties,TieOk n x)->ties.Pairwise tieLt->BoxAt H' p (N+1000)->Kept p H H'->Q (.ref t) H')
noncomputable def spWeb:Sp:=fun vs H Q _=>spWebI vs H Q
structure WeightF(P:Program)(w:World)(K:PySem.W.Frag)(mg:Str->Option Value)(base:Heap)(g:Addr)(gd:FuncData):Prop where
 ok:FnOk P w K mg base CX0 2 g gd ["_law_box_here","_law_heavy"] spWeight
 mg:mg "_law_weight" = some (.ref g)
 kp:PySem.W.keepIn K (.ref g)=true
 bd:Binds K gd ["_law_box_here","_law_heavy"] []
structure WI(H:Hp)(p d:Addr)(n M c:Nat)(kvs:List (List Key×V))(H':Hp):Prop where
 box:BoxAt H' p M
 dic:H' d=some (.dT kvs)
 inv:DInv n kvs
 len:kvs.length<=c
 kep:Kept p H H'
theorem WI.keep{H H' H'':Hp}{p d:Addr}{n M M' c:Nat}{kvs:List (List Key×V)}(W:WI H p d n M c kvs H')(dp:d≠p)(k:Kept p H' H'')(B:BoxAt H'' p M'):WI H p d n M' c kvs H'' :=
 ⟨B,k d _ dp W.dic,W.inv,W.len,W.kep.trans k⟩
theorem WI.mono{H H':Hp}{p d:Addr}{n M M' c c':Nat}{kvs:List (List Key×V)}(W:WI H p d n M c kvs H')(h:M<=M')(h2:c<=c'):WI H p d n M' c' kvs H' :=
 ⟨W.box.mono h,W.dic,W.inv,zAC W.len h2,W.kep⟩
theorem WI.new{H H':Hp}{p d q:Addr}{n M c:Nat}{kvs:List (List Key×V)}{o:HO}(W:WI H p d n M c kvs H')(h:H' q=none):WI H p d n M c kvs (upd H' q o) :=
 ⟨W.box.new h,by rw[upd_ne (ne_of_none W.dic h)];exact W.dic,W.inv,W.len,W.kep.trans (Kept.new h)⟩
theorem WI.put{H H':Hp}{p d:Addr}{n M c:Nat}{kvs:List (List Key×V)}(W:WI H p d n M c kvs H')(dp:d≠p)(hd:H d=none){a b x:Int}(ok:TieOk n (a,b,x)):WI H p d n M (c+1) (putK kvs [Sum.inl a,Sum.inl b] (V.int x)) (upd H' d (.dT (putK kvs [Sum.inl a,Sum.inl b] (V.int x)))) :=
 ⟨W.box.put dp,upd_same,(W.inv.put ok).1,zAC (W.inv.put ok).2 (Nat.succ_le_succ W.len),W.kep.put hd⟩
section
variable{P:Program}{w:World}{K:PySem.W.Frag}{mg:Str->Option Value}{base:Heap}
noncomputable abbrev nWeb:List Str:=["_law_box_here","_law_many","_law_heavy","_law_ties_here","_law_place","_law_turn","_law_one","_law_other"]
theorem scWeb:FnScope nWeb ["_law_box_here","_law_many"] (defScope sWeb):=⟨rfl,rfl,rfl,by decide +kernel,rfl,by decide +kernel,by decide +kernel⟩
theorem csWeb:CompScope ["_law_pair","_law_ties_here"] [none,some 3] nWeb (defScope sWeb) { kind:=.function,names:=[(".0",.local),("_law_pair",.local),("_law_ties_here",.free)],isGenerator:=false,isCoroutine:=false } :=
 ⟨rfl,by decide +kernel,by decide +kernel,by decide +kernel,rfl,capB_ok (by decide +kernel)⟩
theorem ndWeb:(["_law_pair","_law_ties_here"]:List Str).Nodup:=by decide +kernel
theorem ok_web{f g g2:Addr}{fd gd gd2:FuncData}(F:Fun K "_law_web" "_law_web" sWeb f fd)(T:Txt mg)(G:TakeF P w K mg base g gd)(G2:WeightF P w K mg base g2 gd2):FnOk P w K mg base CX0 3 f fd ["_law_box_here","_law_many"] spWeb:=by
 refine F.ok scWeb (fun vs H Q E h=>?_) (fun cdv A outer s H vs Q E hr h=>?_)
 ·obtain⟨p,n,N,rfl,_⟩:=h
  rfl
 ·obtain⟨p,n,N,rfl,B,hN,n1,n30,q⟩:=h
  have hu:=hu_of hr
  have hr1:Room 1 _:=hr.mono (by decide)
  refine⟨_,pss_cons (ps_set (i:=2) scWeb.nd rfl (Or.inl rfl) (pe_call G.ok hr1 rfl G.mg G.kp G.bd .nil pass0 (@pa_nam _ _ _ _ _ _ (pv 0) (@pa_cst _ _ _ _ _ _ _ pe_int pa_nil))))
   (pss_cons (ps_set (i:=3) scWeb.nd rfl (Or.inr rfl) pe_dnewT)
   (pss_cons (ps_for PassesOwn.never rfl (pi_range2 rfl T.range (@pa_cst _ _ _ _ _ _ _ pe_int (@pa_nam _ _ _ _ _ _ (pv 1) pa_nil))) (pg_name (i:=4) scWeb.nd rfl (Or.inl rfl))
    (pss_one (ps_if (pt_cmpR op_gt (pe_call G.ok hr1 rfl G.mg G.kp G.bd .nil pass0 (@pa_nam _ _ _ _ _ _ (pv 0) (@pa_cst _ _ _ _ _ _ _ pe_int pa_nil))) pe_int (nomark _))
     (pss_one (ps_dput hu (pv 3) (@pe_tup _ _ _ _ _ (@pa_call _ _ _ _ _ _ _ _ (pe_call G.ok hr1 rfl G.mg G.kp G.bd .nil pass0 (@pa_nam _ _ _ _ _ _ (pv 0) (@pa_nam _ _ _ _ _ _ (pv 4) pa_nil))) (@pa_nam _ _ _ _ _ _ (pv 4) pa_nil))) (pe_call G2.ok hr rfl G2.mg G2.kp G2.bd .nil pass0 (@pa_nam _ _ _ _ _ _ (pv 0) (@pa_nam _ _ _ _ _ _ (pv 2) pa_nil))) rfl)) pss_nil)))
   (pss_cons (ps_for PassesOwn.never rfl (pi_range1 rfl T.range (@pa_call _ _ _ _ _ _ _ _ (pe_callB (call_min2 rfl) (by rfl) T.min boot_min (@pa_call _ _ _ _ _ _ _ _ (pe_call G.ok hr1 rfl G.mg G.kp G.bd .nil pass0 (@pa_nam _ _ _ _ _ _ (pv 0) (@pa_bin _ _ _ _ _ _ _ _ (pe_op op_add (pe_op op_mul pe_int (pv 1)) pe_int) pa_nil))) (@pa_bin _ _ _ _ _ _ _ _ (pe_op op_sub pe_int (pv 1)) pa_nil))) pa_nil)) (pg_name (i:=5) scWeb.nd rfl (Or.inl rfl))
    (pss_cons (ps_par rfl scWeb.nd (i:=6) (j:=7) rfl rfl (by decide) rfl rfl (@pa_call _ _ _ _ _ _ _ _ (pe_call G.ok hr1 rfl G.mg G.kp G.bd .nil pass0 (@pa_nam _ _ _ _ _ _ (pv 0) (@pa_nam _ _ _ _ _ _ (pv 1) pa_nil))) (@pa_call _ _ _ _ _ _ _ _ (pe_call G.ok hr1 rfl G.mg G.kp G.bd .nil pass0 (@pa_nam _ _ _ _ _ _ (pv 0) (@pa_nam _ _ _ _ _ _ (pv 1) pa_nil))) pa_nil)) rfl)
    (pss_one (ps_if (pt_cmpR op_ne (pv 6) (pv 7) (nomark _)) (pss_one (ps_dput hu (pv 3) (@pe_tup _ _ _ _ _ (@pa_call _ _ _ _ _ _ _ _ (pe_callB (call_min2 rfl) (by rfl) T.min boot_min (@pa_nam _ _ _ _ _ _ (pv 6) (@pa_nam _ _ _ _ _ _ (pv 7) pa_nil))) (@pa_call _ _ _ _ _ _ _ _ (pe_callB (call_max2 rfl) (by rfl) T.max boot_max (@pa_nam _ _ _ _ _ _ (pv 6) (@pa_nam _ _ _ _ _ _ (pv 7) pa_nil))) pa_nil))) (pe_call G2.ok hr rfl G2.mg G2.kp G2.bd .nil pass0 (@pa_nam _ _ _ _ _ _ (pv 0) (@pa_nam _ _ _ _ _ _ (pv 2) pa_nil))) rfl)) pss_nil))))
   (pss_one (ps_ret (@pe_tup _ _ _ _ _ (@pa_nam _ _ _ _ _ _ (pv 1) (@pa_call _ _ _ _ _ _ _ _ (pe_callTy call_tuple_of (by rfl) T.tuple boot_tuple (@pa_comp _ _ _ _ _ _ _ _ (pe_comp rfl csWeb
    (pi_list (pe_callB (call_sortedD rfl) (by rfl) T.sorted boot_sorted (@pa_nam _ _ _ _ _ _ (pv 3) pa_nil)))
    (fun C s H fp=>pg_name (i:=0) ndWeb rfl (Or.inl rfl)) (fun C s H fp=>pf_nil)
    (fun C s H fp=>pe_op (op_catTK K rfl) (pv 0) (@pe_tup _ _ _ _ _ (@pa_sub _ _ _ _ _ _ _ (pe_dget hu (pv 1) (pv 0) (fun _ _=>rfl)) pa_nil)))) pa_nil)) pa_nil)))))))),?_⟩
  refine⟨_,rfl,p,_,N,rfl,B,by lia,by decide,by decide,fun z H1 z0 z1 B1 k1=>?_⟩
  obtain⟨hh,rfl⟩:∃ hh:Nat,z=(hh:Int):=⟨z.toNat,by lia⟩
  have h4:hh<4:=by lia
  intro d hd
  have dp:d≠p:=B1.ne hd
  have hd0:H d=none:=k1.free B1 hd
  have W0:WI H p d n (N+1) 0 [] (upd H1 d (.dT [])):=⟨B1.new hd,upd_same,⟨fun _ h=>(nomatch h),zAS⟩,zI _,k1.trans (Kept.new hd)⟩
  refine⟨_,rfl,1,(n:Int),rfl,⟨by decide,by decide,by lia,by lia⟩,?_⟩
  refine for_range (lo:=1) (n:=((n:Int)-1).toNat) (fun i σ H'=>∃ kvs v,σ=[some (.ref p),some (.int n),some (.int hh),some (.ref d),v,none,none,none]/\WI H p d n (N+1+4 * i) i kvs H') ⟨[],none,rfl,W0⟩ ?_ ?_
  ·rintro i σ H' hi ⟨kvs,v,rfl,W⟩
   have len:=W.len
   refine⟨_,rfl,p,_,_,rfl,W.box,by lia,by decide,by decide,fun z H3 y0 y1 B3 k3=>⟨_,_,rfl,rfl,_,rfl,?_⟩⟩
   have W3:=W.keep dp k3 B3
   refine ite2 (fun _=>?_) (fun _=>?_)
   ·refine⟨_,rfl,_,rfl,p,hh,_,rfl,h4,B3,by lia,fun x H4 x1 B4 k4=>⟨_,rfl,_,rfl,_,rfl,p,_,_,rfl,B4,by lia,by lia,by omega,fun a H5 a0 a1 B5 k5=>⟨_,rfl,(by show 2<=sizeLine;decide),fun tp htp=>?_⟩⟩⟩
    have W5:=((W3.keep dp k4 B4).keep dp k5 B5).new (o:=.tup [.int a,.int (1+(i:Int))]) htp
    refine⟨d,_,rfl,DPut.t (k:=[Sum.inl a,Sum.inl (1+(i:Int))]) W5.dic upd_same (by rw[sizeLine_eq];lia),?_⟩
    exact⟨_,_,rfl,(W5.put dp hd0 ⟨a0,by show a<1+(i:Int);omega,by show 1+(i:Int) <(n:Int);omega,x1⟩).mono (by lia) (by lia)⟩
   ·exact⟨_,_,rfl,W3.mono (by lia) (by lia)⟩
  ·rintro σ H' ⟨kvs,v,rfl,W⟩
   have len0:=W.len
   refine⟨_,rfl,_,rfl,_,_,rfl,rfl,.inl ⟨by decide,by decide⟩,_,_,rfl,rfl,p,_,_,rfl,W.box,by lia,by lia,by lia,fun z H3 y0 y1 B3 k3=>⟨_,rfl,_,_,rfl,rfl,_,_,rfl,_,rfl,?_,?_,?_⟩⟩
   ·split <;> lia
   ·split <;> lia
   have W3:=W.keep dp k3 B3
   have cb:(if 91-(n:Int)<z then 91-(n:Int)else z).toNat<=2 * n:=by split <;> lia
   generalize (if 91-(n:Int)<z then 91-(n:Int)else z).toNat=cnt at cb
   refine for_range (lo:=0) (n:=cnt) (fun i σ H'=>∃ kvs v4 v5 v6 v7,σ=[some (.ref p),some (.int n),some (.int hh),some (.ref d),v4,v5,v6,v7]/\WI H p d n (N+200+4 * i) (n-1+i) kvs H') ⟨kvs,v,none,none,none,rfl,W3.mono (by lia) (by lia)⟩ ?_ ?_
   ·clear W W3 B3 k3 len0
    rintro i σ H' hi ⟨kvs,v4,v5,v6,v7,rfl,W⟩
    have len:=W.len
    refine⟨_,rfl,_,rfl,p,_,_,rfl,W.box,by lia,by lia,by lia,fun x H4 x0 x1 B4 k4=>⟨_,rfl,_,rfl,p,_,_,rfl,B4,by lia,by lia,by lia,fun y H5 w0 w1 B5 k5=>⟨_,_,rfl,?_⟩⟩⟩
    have W5:=(W.keep dp k4 B4).keep dp k5 B5
    refine⟨_,rfl,_,rfl,rfl,_,rfl,?_⟩
    refine ite2 (fun hxy=>?_) (fun _=>?_)
    ·have xy:x≠y:=fun z=>by rw[z]at hxy;simp at hxy
     refine⟨_,rfl,_,rfl,p,hh,_,rfl,h4,B5,by lia,fun c H6 c1 B6 k6=>⟨_,rfl,_,rfl,_,rfl,_,_,rfl,_,rfl,_,rfl,_,_,rfl,(by show 2<=sizeLine;decide),fun tp htp=>?_⟩⟩
     have W6:=(W5.keep dp k6 B6).new (o:=.tup [.int (if y<x then y else x),.int (if y > x then y else x)]) htp
     refine⟨d,_,rfl,DPut.t (k:=[Sum.inl (if y<x then y else x),Sum.inl (if y > x then y else x)]) W6.dic upd_same (by rw[sizeLine_eq];lia),?_⟩
     refine⟨_,_,_,_,_,rfl,(W6.put dp hd0 ⟨?_,?_,?_,c1⟩).mono (by lia) (by lia)⟩
     ·show(0:Int)<=if y<x then y else x
      split <;> omega
     ·show(if y<x then y else x) <(if y > x then y else x)
      split <;> split <;> omega
     ·show(if y > x then y else x) <(n:Int)
      split <;> omega
    ·exact⟨_,_,_,_,_,rfl,W5.mono (by lia) (by lia)⟩
   ·clear W W3 B3 k3 len0
    rintro σ H' ⟨kvs,v4,v5,v6,v7,rfl,W⟩
    have len:=W.len
    refine⟨_,rfl,_,rfl,d,kvs,kvs.map (fun kv=>unkey kv.1),rfl,W.dic,W.inv.keys,fun k hk=>?_,by lia,fun l as ns hl perm pw pt=>⟨l,rfl,⟨_,SqL.of upd_same⟩,?_⟩⟩
    ·obtain⟨kv,hkv,rfl⟩:=zAA.mp hk
     obtain⟨a,b,c,e,_⟩:=W.inv.1 kv hkv
     rw[e]
     exact fun z=>nomatch z
    have W1:=W.new (o:=.lst (as.map V.ref)) hl
    have lenA:as.length=ns.length:=pt.length
    have lenN:ns.length=kvs.length:=by rw[perm.length_eq,zA]
    -- each key is there
    have keyAt:∀ i (h1:i<as.length),∃ a b c:Int,H' as[i]=some (.tup [.int a,.int b])/\valV kvs [Sum.inl a,Sum.inl b]=some (V.int c)/\TieOk n (a,b,c)/\ns[i]?=some [a,b]:=fun i h1=>by
     have h2:i<ns.length:=by lia
     have e1:=Paired.at pt i h1 h2
     have m1:ns[i]∈kvs.map (fun kv=>unkey kv.1):=perm.mem_iff.mp (zU h2)
     obtain⟨kv,hkv,e2⟩:=zAA.mp m1
     obtain⟨a,b,c,e3,ok⟩:=W.inv.1 kv hkv
     rw[e3]at e2
     have e4:ns[i]=[a,b]:=e2.symm
     rw[e4]at e1
     have m2:[Sum.inl a,Sum.inl b]∈kvs.map (·.1):=zAA.mpr ⟨kv,hkv,by rw[e3]⟩
     obtain⟨v,v1,v2⟩:=valV_mem m2
     obtain⟨a',b',c',e5,ok'⟩:=W.inv.1 _ v2
     cases e5
     exact⟨a,b,c',e1,v1,ok',by rw[zF h2,e4]⟩
    refine comp_list (K:=K) (a:=l) (xs:=as.map V.ref) (fun i ys G=>Same (upd H' l (.lst (as.map V.ref))) G/\∃ (bs:List Addr) (tl:List Tie),ys=bs.map V.ref/\Paired (fun b x=>G b=some (.tup (tieV x))) bs tl/\(∀ x∈tl,TieOk n x)/\tl.map (fun x=>[x.1,x.2.1])=ns.take i) (by rw[zA,sizeLine_eq];lia) ⟨Same.refl _,[],[],rfl,.nil,(fun _ h=>nomatch h),rfl⟩ (fun i ys G _ pp=>pp.1.seq (SqL.of upd_same)) ?_ ?_
    ·rintro i x ys G hi ⟨sm,bs,tl,rfl,pr,oks,eks⟩
     obtain⟨il,e⟩:=zE.mp hi
     rw[zA]at il
     rw[zR]at e
     subst e
     obtain⟨a,b,c,ha,hv,ok,nsi⟩:=keyAt i il
     have ha2:G as[i]=some (.tup [.int a,.int b]):=sm _ _ (by rw[upd_ne (ne_of_none ha hl)];exact ha)
     have hd2:G d=some (.dT kvs):=sm _ _ W1.dic
     have g0:DGet G d (V.ref as[i]) (valV kvs [Sum.inl a,Sum.inl b]):=DGet.t hd2 ha2
     rw[hv]at g0
     refine⟨⟨rfl,trivial⟩,tTru_if ?_⟩
     refine⟨_,rfl,_,rfl,_,rfl,d,_,rfl,g0,(by show 1<=sizeLine;decide),fun t1 ht1=>⟨as[i],t1,[.int a,.int b],[.int c],rfl,rfl,SqT.of (by rw[upd_ne (ne_of_none ha2 ht1)];exact ha2),SqT.of upd_same,(fun z=>nomatch z),(by show 3<=sizeLine;decide),(fun z=>nomatch z),fun _ t2 ht2=>?_⟩⟩
     have sm2:Same G (upd (upd G t1 (.tup [.int c])) t2 (.tup ([.int a,.int b]++[.int c]))):=(Same.new ht1).trans (Same.new ht2)
     refine⟨sm.trans sm2,bs++[t2],tl++[(a,b,c)],by rw[zJ];rfl,?_,fun x hx=>?_,?_⟩
     ·refine Paired.snoc (Paired.mapP pr fun b x e=>sm2 _ _ e) upd_same
     ·rcases zO.mp hx with z | z
      ·exact oks x z
      ·rw[zD.mp z];exact ok
     ·obtain⟨ni,ne⟩:=zE.mp nsi
      rw[zJ,eks,zL ni,ne]
      rfl
    ·rintro ys G yl ⟨sm,bs,tl,rfl,pr,oks,eks⟩ D hD
     rw[zA]at yl
     refine⟨D,_,rfl,.inl ⟨SqL.of upd_same,fun ts hts=>⟨(by show 2<=sizeLine;decide),fun t ht=>?_⟩⟩⟩
     have s1:Same G (upd G D (.lst (bs.map V.ref))):=Same.new hD
     have s2:Same (upd G D (.lst (bs.map V.ref))) (upd (upd G D (.lst (bs.map V.ref))) ts (.tup (bs.map V.ref))):=Same.new hts
     have s3:=Same.new (o:=.tup [.int n,.ref ts]) ht
     have sA:=sm.trans (s1.trans (s2.trans s3))
     have kA:Kept p H (upd (upd (upd G D (.lst (bs.map V.ref))) ts (.tup (bs.map V.ref))) t (.tup [.int n,.ref ts])):=W1.kep.trans fun b o _ e=>sA b o e
     have bA:BoxAt (upd (upd (upd G D (.lst (bs.map V.ref))) ts (.tup (bs.map V.ref))) t (.tup [.int n,.ref ts])) p (N+1000):=by
      obtain⟨a,b,c,e,r1,r2,r3⟩:=W1.box
      exact⟨a,b,c,sA _ _ e,r1,r2,by lia⟩
     refine q t tl _ ?_ ⟨⟨ts,bs,upd_same,s3 _ _ upd_same,Paired.mapP pr fun b x e=>s3 _ _ (s2 _ _ (s1 _ _ e))⟩,?_⟩ oks ?_ bA kA
     ·have f1:H' t=none:=(Same.new hl).free (sm.free (s1.free (s2.free ht)))
      exact W.kep.free W.box f1
     ·have:=pr.length
      rw[zA]at yl
      lia
     ·rw[zAM (by rw[zA];lia)]at eks
      have nd:ns.Nodup:=perm.nodup_iff.mpr W.inv.nodup
      have st:ns.Pairwise (fun x y=>Srt.lexlt x y=true):=(pw.and nd).imp fun {x y} z=>by
       cases e:Srt.lexlt x y with
       |true=>rfl
       |false=>exact absurd (Srt.lexlt_total x y e z.1) z.2
      rw[<- eks,List.pairwise_map]at st
      exact st
end
end K63
namespace L2
open PySem PySem.W PyProof.Rows Srt
open PySem PySem.Spec PySem.W PyProof.Rows
open PySem PySem.Spec PySem.W PyProof.Rows
open PySem PySem.Spec PySem.W PyProof.Rows
open PySem PySem.W PyProof.Rows
open PySem PyProof.Rows
section
variable{K:PySem.W.Frag}{a D:Addr}{xs:List V}{b:Bool}{g:TG}{tc:TT}{tk tv:TE}{cap:List (Option Nat)}{σ:St}{H1:Hp}{Q:VK}
theorem dcomp_tup(P:Nat->Hp->Prop)(p0:P 0 H1)(hl:∀ i H,i<=xs.length->P i H->SqT K H a xs)
  (hs:∀ i x H,xs[i]?=some x->P i H->g x (capt cap σ) H fun σ2 H2=>Kp (capt cap σ) σ2/\tc σ2 H2 fun b H3=>if b=true then tk σ2 H3 fun k H4=>tv σ2 H4 fun y H5=>∃ H6,DPut H5 D k y H6/\P (i+1) H6 else P (i+1) H3)
  (hd:∀ H,P xs.length H->Q (.ref D) H):dcompTurns (Itt K a) cap σ H1 D Q g tc tk tv:=by
 refine⟨xs.length,P,p0,fun i H il p=>?_⟩
 have q:=hl i H il p
 by_cases hlt:i<xs.length
 ·refine .inr ⟨hlt,⟨xs,xs[i],q,by simp[hlt]⟩,fun x H' y=>?_⟩
  obtain⟨e,y⟩:=y
  subst e
  exact hs i x _ (y xs q) p
 ·have e:i=xs.length:=by lia
  subst e
  exact .inl ⟨⟨xs,q,zI _⟩,hd H p⟩
theorem dcomp_list(P:Nat->Hp->Prop)(p0:P 0 H1)(hl:∀ i H,i<=xs.length->P i H->SqL K H a xs)
  (hs:∀ i x H,xs[i]?=some x->P i H->g x (capt cap σ) H fun σ2 H2=>Kp (capt cap σ) σ2/\tc σ2 H2 fun b H3=>if b=true then tk σ2 H3 fun k H4=>tv σ2 H4 fun y H5=>∃ H6,DPut H5 D k y H6/\P (i+1) H6 else P (i+1) H3)
  (hd:∀ H,P xs.length H->Q (.ref D) H):dcompTurns (Itl K a) cap σ H1 D Q g tc tk tv:=by
 refine⟨xs.length,P,p0,fun i H il p=>?_⟩
 have q:=hl i H il p
 by_cases hlt:i<xs.length
 ·refine .inr ⟨hlt,⟨xs,xs[i],q,by simp[hlt]⟩,fun x H' y=>?_⟩
  obtain⟨e,y⟩:=y
  subst e
  exact hs i x _ (y xs q) p
 ·have e:i=xs.length:=by lia
  subst e
  exact .inl ⟨⟨xs,q,zI _⟩,hd H p⟩
noncomputable def ItB(b:Bool)(K:PySem.W.Frag)(a:Addr):It:=match b with
 |true=>Itt K a
 |false=>Itl K a
noncomputable def iSeq(b:Bool)(K:PySem.W.Frag)(tl:TE):TI:=fun σ H R=>tl σ H fun x H1=>ExS x (fun a=>∃ xs,SqB b K H1 a xs) fun a=>R (ItB b K a) H1
theorem pi_seq{X:Cx}{tg l:Expr}{tl:TE}(b:Bool)(hl:PE X l tl):PI X tg l (iSeq b X.K tl):=by
 cases b
 ·exact pi_list hl
 ·exact pi_tup hl
theorem comp_seq{te:TE}{a:Addr}{xs:List V}(P:Nat->List V->Hp->Prop)(hz:xs.length<=sizeLine)(p0:P 0 [] H1)(hl:∀ i ys H,i<=xs.length->P i ys H->SqB b K H a xs)
  (hs:∀ i x ys H,xs[i]?=some x->P i ys H->g x (capt cap σ) H fun σ2 H2=>Kp (capt cap σ) σ2/\tc σ2 H2 fun b H3=>if b=true then te σ2 H3 fun y H4=>P (i+1) (ys++[y]) H4 else P (i+1) ys H3)
  (hd:∀ ys H,ys.length<=xs.length->P xs.length ys H->∀ D,H D=none->Q (.ref D) (upd H D (.lst ys))):compTurns (ItB b K a) cap σ H1 Q g tc te:=by
 cases b
 ·exact comp_list P hz p0 hl hs hd
 ·exact comp_tup P hz p0 hl hs hd
theorem dcomp_seq(P:Nat->Hp->Prop)(p0:P 0 H1)(hl:∀ i H,i<=xs.length->P i H->SqB b K H a xs)
  (hs:∀ i x H,xs[i]?=some x->P i H->g x (capt cap σ) H fun σ2 H2=>Kp (capt cap σ) σ2/\tc σ2 H2 fun b H3=>if b=true then tk σ2 H3 fun k H4=>tv σ2 H4 fun y H5=>∃ H6,DPut H5 D k y H6/\P (i+1) H6 else P (i+1) H3)
  (hd:∀ H,P xs.length H->Q (.ref D) H):dcompTurns (ItB b K a) cap σ H1 D Q g tc tk tv:=by
 cases b
 ·exact dcomp_list P p0 hl hs hd
 ·exact dcomp_tup P p0 hl hs hd
theorem Same.seqB{H H':Hp}(s:Same H H')(h:SqB b K H a xs):SqB b K H' a xs:=by
 cases b
 ·exact s.seq h
 ·exact s.tupq h
end
open PySem PySem.Spec PySem.W PyProof.Rows
open PySem PySem.W PyProof.Rows Srt
theorem drawsK{prog:Program}{w:World}{A:Around}(hh:A.handled=none)(b:Bool)(it l:Addr)(hne:l≠it)(items:Array Value):Draws prog w A it [it,l] items.size (fun i v=>items[i]?=some v) (fun i h=>ItK b h it l i/\SeqK b h l items)where
 live:=fun _ _ st=>let ⟨o,ho,_⟩:=st.1.lt;⟨o,ho⟩
 frame:=fun _ _ _ st hk=>⟨st.1.to fun o e=>hk it (by simp) o e,st.2.to fun o e=>hk l (by simp) o e⟩
 item:=fun i s Q E hi st hQ=>nextK_item st.1 st.2 (x:=items[i]) (by simp[hi]) fun h' hit' hs'=>hQ _ h' s.toks (by simp[hi]) ⟨hit',st.2.to fun o e=>hs'.extBut _ _ hne e⟩ hs'
 done:=fun s Q E st hE=>nextK_end hh st.1 st.2 (by simp) hE
noncomputable abbrev enO(it:Addr):Obj:={ cls:=.type "enumerate",data:=.fields #[.none,.bool false,.ref it,rawInt 0,.none,.none] }
theorem enumK_new(b:Bool)(l:Addr)(xs:Array Value):Meets (Builtin.«enumerate.__new__» ⟨[.type "enumerate",.ref l],[]⟩) (fun _ R s=>SeqK b s.heap l xs/\R (.ok (.ret (.ref (s.heap.push (itO b l)).objs.size))) { s with heap:=(s.heap.push (itO b l)).push (enO s.heap.objs.size) }) :=
 .of_wp fun prog w A R s h=>by
  obtain⟨hp,g,d,tk,os⟩:=s
  obtain⟨hl,h⟩:=h
  have hsub:=sub_enumerate
  have hL:SeqK b (Shared.heap ⟨hp,g,d,tk,os⟩) l xs:=hl
  wp_walk using pyIterK hL
  refine wpAny_stack_any fun st=>zH ?_
  split
  ·rename_i c _ _ _ _ _
   cases(c == Value.type "enumerate") <;> (wp_walk using pyIterK hL;exact⟨_,rfl,h⟩)
  ·wp_walk using pyIterK hL
   exact⟨_,rfl,h⟩
theorem call_enumK{prog:Program}{w:World}{A:Around}{E:Value->Shared->Prop}{s:Shared}{b:Bool}{l:Addr}{items:Array Value}{Q:Value->Shared->Prop}(hL:SeqK b s.heap l items)
  (h:∀ h',IsEnum h' (s.heap.objs.size+1) s.heap.objs.size 0 .none->ItK b h' s.heap.objs.size l 0->(∀ b o,s.heap.get? b=some o->h'.get? b=some o)->Q (.ref (s.heap.objs.size+1)) { s with heap:=h' }):wpAny (model prog w) A (call (.type "enumerate") [.ref l]) Q E s:=by
 refine callType_new F.called_enumerate (by decide) (F.typeCall_enumerate_1 _) (F.newCall_enumerate_1 _) (fun obj=>F.args_object_init_2 obj _) F.entry_enumerate_new (enumK_new b l items) ⟨hL,?_⟩
 have hz:(s.heap.push (itO b l)).objs.size=s.heap.objs.size+1:=Heap.size_push ..
 show _/\_
 rw[hz]
 have he:IsEnum ((s.heap.push (itO b l)).push (enO s.heap.objs.size)) (s.heap.objs.size+1) s.heap.objs.size 0 .none:=by
  have:=zW (s.heap.push (itO b l)) (o:=enO s.heap.objs.size) rfl
  rw[hz]at this
  exact this
 exact⟨⟨_,he,rfl⟩,h _ he ((ItK.new s.heap).to fun o e=>zC _ e) fun b o x=>zC _ (zC _ x)⟩
theorem enumK_end{prog:Program}{w:World}{A:Around}{E:Value->Shared->Prop}{s:Shared}{b:Bool}{e it l:Addr}{i:Nat}{items:Array Value}{old:Value}{Q:Option Value->Shared->Prop}(hh:A.handled=none)(he:IsEnum s.heap e it i old)(hit:ItK b s.heap it l i)(hl:SeqK b s.heap l items)(hx:items[i]?=none)
  (q:∀ g,Heap.ExtBut it s.heap g->Q none { s with heap:=g }):wpAny (model prog w) A (pyNext (.ref e)) Q E s:=by
 have ty:s.TypeIs (.ref e) "enumerate":=⟨_,he,rfl⟩
 unfold pyNext;refine zB (wpAny_attempt (wpAny_callSpecial?_slot (name:=Str.ofString "__next__") ty F.slot_enumerate_next (wpAny_call_entry F.slot_enumerate_next ty F.entry_enumerate_next ?_ (F.args_enumerate_next_1 _))))
 show wpAny _ _ (field (.ref e) 2 >>= _) _ _ _;refine zB (wpAny_field he rfl (x:=.ref it) rfl (zB (nextK_end hh hit hl hx fun g y hg hy=>?_)))
 obtain⟨o,ho,hc⟩:=hy
 refine zB (wpAny_isInstance (T:="StopIteration") (b:=true) ⟨o,ho,hc⟩ isSubtype_stop (zH (q _ hg)))
noncomputable def IteB(b:Bool)(K:PySem.W.Frag)(l:Addr):It :=
  ⟨fun i H=>∃ xs x,SqB b K H l xs/\xs[i]?=some x,
   fun i H v H'=>∃ T x,v = .ref T/\H T=none/\H'=upd H T (.tup [.int i,x])/\∀ xs,SqB b K H l xs->xs[i]?=some x,
   fun i H=>∃ xs,SqB b K H l xs/\xs.length<=i⟩
theorem turn_enumB(b:Bool){P:Program}{w:World}{K:PySem.W.Frag}{es:List Expr}{kk:Nat}{pos:Pos}(e it l:Addr)(ne:e≠it):Turn P w K (.Tuple es kk pos) (IteB b K l) [e,it] e
  (fun i h=>(∃ old,IsEnum h e it i old)/\ItK b h it l i)where
 mem:=by simp
 obj:=fun i h st b hb=>by
  obtain⟨⟨old,he⟩,h1⟩:=st
  simp only[zT,or_false,zAT]at hb
  rcases hb with z | z
  ·rw[z];exact⟨_,he,fun v z=>by cases z⟩
  ·rw[z]
   exact h1.lt
 keep:=fun i h h' st k=>by
  obtain⟨⟨old,he⟩,h1⟩:=st
  exact⟨⟨old,k e (by simp) _ he⟩,h1.to fun o e=>k it (by simp) o e⟩
 item:=by
  intro X hP hw hK hc i pins s σ H E I hf st hg
  subst hP hw hK
  obtain⟨⟨old,he⟩,h1⟩:=st
  obtain⟨xs,x,q1,hx⟩:=hg
  obtain⟨us,r1,p1,_⟩:=I.seqB q1
  obtain⟨u,hu,ru⟩:=r1.get hx
  have hn:H s.heap.objs.size=none:=I.hok.fresh (zI _)
  have lit:l≠it:=I.offB q1 (hf it (by simp))
  have lee:l≠e:=I.offB q1 (hf e (by simp))
  have hlt:i<us.toArray.size:=by rw[zG];exact(zE.mp hu).1
  refine wpAny_pyNext_enum_itemD (drawsK (A:=X.A.in1) (I.ok.hd hc) b it l lit us.toArray) he ⟨h1,p1⟩ hlt ne (by simp[ne,Ne.symm lee]) fun u' g tk hP e1 st1 t1 sz kp=>⟨_,rfl,?_⟩
  have eu:u'=u:=by
   have hP:us.toArray[i]?=some u':=hP
   rw[List.getElem?_toArray,hu]at hP
   exact(Option.some.inj hP).symm
  subst eu
  have n1:=st1.1
  refine wpAny_letOwnedTupleGo_enum e1 fun g' e2 sb=>?_
  have zlt:e≠s.heap.objs.size:=zZ (zP he)
  have kp2:∀ b o,b∉[e,it]->s.heap.get? b=some o->g'.get? b=some o:=fun b o nb z=>by
   simp only[zT,zAT,or_false,not_or]at nb
   exact sb.extBut _ _ nb.1 (kp b o nb.1 nb.2 z)
  have I2:Inv X pins σ (upd H s.heap.objs.size (.tup [.int i,x])) { s with heap:=g',toks:=tk+1 }:=I.turnedN (t':=tk+1) (ch:=[e,it]) (a:=s.heap.objs.size) (ob:=.tup [.int i,x]) hf kp2 (zI _) (show ObjOk X.prog X.w _ g' _ (.tup [.int i,x])from⟨by show 2<=sizeLine;decide,[.int i tk,u'],.cons ⟨_,rfl⟩ (.cons ru .nil),⟨_,sb.extBut _ _ (Ne.symm zlt) t1,rfl,0,rfl⟩⟩)
  refine⟨.ref s.heap.objs.size,_,I2,rfl,⟨_,x,rfl,hn,rfl,fun xs' h=>by rw[I.seqB_inj h q1];exact hx⟩,⟨⟨_,by have e3:=e2;exact_mod_cast e3⟩,n1.to fun o z=>sb.extBut _ _ (Ne.symm ne) z⟩,fun b hb=>?_⟩
  have bo:∃ o,s.heap.get? b=some o:=by
   simp only[zT,or_false,zAT]at hb
   rcases hb with z | z
   ·rw[z];exact⟨_,he⟩
   ·rw[z];obtain⟨o,e,_⟩:=h1.lt;exact⟨o,e⟩
  obtain⟨o,z⟩:=bo
  rw[upd_ne (zZ (zP z))]
  exact(hf b hb).1
 done:=by
  intro X hP hw hK hc i pins s σ H E I hf st hg
  subst hP hw hK
  obtain⟨⟨old,he⟩,h1⟩:=st
  obtain⟨xs,q1,le⟩:=hg
  obtain⟨us,r1,p1,_⟩:=I.seqB q1
  have e1:=r1.length
  refine enumK_end (I.ok.hd hc) he h1 p1 (by simp;lia) fun g kp=>⟨rfl,?_⟩
  refine I.turnedL (t':=s.toks) (ch:=[e,it]) hf fun b o nb z=>?_
  simp only[zT,zAT,or_false,not_or]at nb
  exact kp b o nb.2 z
 self:=fun _ _ _ _ _ st h=>by
  obtain⟨⟨old,he⟩,h1⟩:=st
  exact wpAny_pyIter_enum he h
noncomputable def iEnumB(b:Bool)(K:PySem.W.Frag)(ta:TA):TI:=fun σ H R=>ta σ H fun vs H1=>∃ l,vs=[.ref l]/\(∃ xs,SqB b K H1 l xs)/\R (IteB b K l) H1
theorem pi_enumB(b:Bool){X:Cx}{es:List Expr}{kk:Nat}{tpos:Pos}{a:Expr}{ta:TA}{p pos:Pos}(hg:Gl X "enumerate")(hm:X.mg "enumerate" = none)(ha:PA X [a] ta)(hs:starEach [a] X.env=[(false,eval a X.env)]:=by rfl) :
  PI X (.Tuple es kk tpos) (.Call (.Name "enumerate" p) [a] [] pos) (iEnumB b X.K ta):=by
 intro pins s σ H R I h
 refine Call_ (ld_blt I hg hm boot_enumerate (PyProof.Rows.callWith_type1 (thn (ha pos pins s σ H _ I h) fun us s1 ⟨vs,H1,I1,r1,q1⟩=>?_) (by rw[hs];rfl) (by rfl)))
 obtain⟨l,e,⟨xs,q1⟩,q⟩:=q1
 subst e
 obtain⟨u,rfl,rx⟩:=Vals.one r1
 cases rx
 obtain⟨us,_,p1,_⟩:=I1.seqB q1
 refine call_enumK p1 fun g' e1 h1 kp=>?_
 refine wpAny_pyIter_enum e1 ⟨s1.heap.objs.size+1,_,_,_,H1,rfl,I1.kept (t':=s1.toks) kp,turn_enumB b _ s1.heap.objs.size l (Nat.ne_of_gt (zBH _)),⟨⟨_,e1⟩,h1⟩,fun b hb=>?_,q⟩
 have le:s1.heap.objs.size<=b:=by
  simp only[zT,or_false,zAT]at hb
  rcases hb with e | e
  ·rw[e];exact Nat.le_add_right _ 1
  ·rw[e];exact zI _
 exact I1.fpOk le (I1.hok.fresh le)
open PySem PySem.W PyProof.Rows
section
variable{X:Cx}
theorem best_of{ns:List Int}{ys:Array (Int×Tok)}(e1:ns=ys.toList.map (·.1))(hs:0<ys.size){v:Value}(hv:(intItems ys)[argBest (fun i j=>decide (numAt ys i > numAt ys j)) (ys.size-1)]?=some v) :
  ∃ (m:Int) (t:Tok),v = .int m t/\m∈ns/\∀ a∈ns,a<=m:=by
 obtain⟨tk,rfl⟩:=intItems_at hv
 have best:=argBest_gt (numAt ys) (ys.size-1)
 have len:(ys.toList.map (·.1)).length=ys.size:=by simp
 refine⟨_,tk,rfl,?_,fun a ha=>?_⟩
 ·have:=best.1
  rw[numAt_eq,e1]
  exact getD_mem (by omega)
 ·subst e1
  obtain⟨i,hi,z⟩:=mem_getD ha
  have top:=best.2 i (by lia)
  rw[numAt_eq ys i,z]at top
  exact top
theorem call_maxL(hc:X.calm=true):CallR X (.builtin "max") (fun xs H Q=>∃ (l:Addr) (ns:List Int),xs=[V.ref l]/\SqL X.K H l (ns.map V.int)/\ns≠[]/\∀ m:Int,m∈ns->(∀ a∈ns,a<=m)->Q (.int m) H):=by
 intro pins s σ H xs us Q I r h
 obtain⟨l,ns,rfl,hq,hne,q⟩:=h
 obtain⟨u,rfl,rx⟩:=vals1 r
 cases rx
 obtain⟨its,r',pl,hz⟩:=I.list hq
 have hi:=intsAre_of r'
 obtain⟨ys,hx⟩:=hi.allInts.items
 have e1:ns=ys.toList.map (·.1):=by
  rw[<- nums_intItems,<- hx]
  exact(show numsOf its.toArray.toList=ns from hi.numsOf).symm
 have hs:0<ys.size:=by
  have:=zBA.mpr hne
  rw[e1,zA,zBQ]at this
  exact this
 refine max_intList (I.ok.hd hc) (hx▸pl.isList) hs fun v h' tk hv hk=>?_
 obtain⟨m,t,rfl,hm,hb⟩:=best_of e1 hs hv
 exact⟨.int m,H,I.kept hk,⟨t,rfl⟩,q m hm hb⟩
end
open PySem PySem.W PyProof.Rows Srt
section
variable{X:Cx}
theorem least_at{ns:List Int}{ys:Array (Int×Tok)}(e1:ns=ys.toList.map (·.1))(hs:0<ys.size){v:Value}(hv:(intItems ys)[argBest (fun i j=>decide (numAt ys i<numAt ys j)) (ys.size-1)]?=some v) :
  ∃ (m:Int) (t:Tok),v = .int m t/\m∈ns/\∀ a∈ns,m<=a:=by
 obtain⟨tk,rfl⟩:=intItems_at hv
 have best:=argBest_lt (numAt ys) (ys.size-1)
 have len:(ys.toList.map (·.1)).length=ys.size:=by simp
 refine⟨_,tk,rfl,?_,fun a ha=>?_⟩
 ·have:=best.1
  rw[numAt_eq,e1]
  exact getD_mem (by omega)
 ·subst e1
  obtain⟨i,hi,z⟩:=mem_getD ha
  have top:=best.2 i (by lia)
  rw[numAt_eq ys i,z]at top
  exact top
theorem call_minL(hc:X.calm=true):CallR X (.builtin "min") (fun xs H Q=>∃ (l:Addr) (ns:List Int),xs=[V.ref l]/\SqL X.K H l (ns.map V.int)/\ns≠[]/\∀ m:Int,m∈ns->(∀ a∈ns,m<=a)->Q (.int m) H):=by
 intro pins s σ H xs us Q I r h
 obtain⟨l,ns,rfl,hq,hne,q⟩:=h
 obtain⟨u,rfl,rx⟩:=vals1 r
 cases rx
 obtain⟨its,r',pl,hz⟩:=I.list hq
 have hi:=intsAre_of r'
 obtain⟨ys,hx⟩:=hi.allInts.items
 have e1:ns=ys.toList.map (·.1):=by
  rw[<- nums_intItems,<- hx]
  exact(show numsOf its.toArray.toList=ns from hi.numsOf).symm
 have hs:0<ys.size:=by
  have:=zBA.mpr hne
  rw[e1,zA,zBQ]at this
  exact this
 refine min_intList (I.ok.hd hc) (hx▸pl.isList) hs fun v h' tk hv hk=>?_
 obtain⟨m,t,rfl,hm,hb⟩:=least_at e1 hs hv
 exact⟨.int m,H,I.kept hk,⟨t,rfl⟩,q m hm hb⟩
end
open PySem PySem.W PyProof.Rows Srt
open PySem PySem.W PyProof.Rows Srt
noncomputable def nubF(σ:List Int)(ns:List Int):List Int:=ns.foldl step_dedup σ
noncomputable abbrev nub(ns:List Int):List Int:=nubF [] ns
theorem step_nub(σ:List Int)(v:Int):step_dedup σ v=if v∈σ then σ else σ++[v]:=by
 unfold step_dedup
 by_cases h:v∈σ
 ·rw[if_pos h,if_pos (List.any_eq_true.mpr ⟨v,h,by simp⟩)]
 ·rw[if_neg h,if_neg fun z=>by
   obtain⟨x,hx,e⟩:=List.any_eq_true.mp z
   rw[show v=x by simpa using(beq_iff_eq.mp e).symm]at h
   exact h hx]
theorem nubF_spec:∀ (ns σ:List Int),σ.Nodup->(nubF σ ns).Nodup/\(∀ x,x∈nubF σ ns↔x∈σ\/x∈ns)/\(nubF σ ns).length<=σ.length+ns.length/\((nubF σ ns).length=σ.length+ns.length↔(σ++ns).Nodup)
 |[],σ,h=>⟨h,fun x=>⟨.inl,fun z=>z.elim id (fun y=>nomatch y)⟩,zI _,⟨fun _=>by rw[zAU];exact h,fun _=>rfl⟩⟩
 |v :: ns,σ,h=>by
  show(nubF (step_dedup σ v) ns).Nodup/\_
  have e:nubF σ (v :: ns)=nubF (step_dedup σ v) ns:=rfl
  rw[e,step_nub]
  by_cases hv:v∈σ
  ·rw[if_pos hv]
   obtain⟨i1,i2,i3,i4⟩:=nubF_spec ns σ h
   refine⟨i1,fun x=>?_,by rw[zAN];lia,?_⟩
   ·rw[i2 x,zT]
    exact⟨fun z=>z.elim .inl (fun y=>.inr (.inr y)),fun z=>z.elim .inl (fun y=>y.elim (fun q=>.inl (q▸hv)) .inr)⟩
   ·rw[zAN]
    refine⟨fun z=>by lia,fun z=>?_⟩
    exact absurd rfl ((zAV.mp z).2.2 v hv v (zS ..))
  ·rw[if_neg hv]
   have h':(σ++[v]).Nodup:=zAV.mpr ⟨h,by simp,fun a ha b hb=>by
    rw[zD.mp hb]
    exact fun z=>hv (z▸ha)⟩
   obtain⟨i1,i2,i3,i4⟩:=nubF_spec ns (σ++[v]) h'
   rw[zK,zX]at i3 i4
   refine⟨i1,fun x=>?_,by rw[zAN];lia,?_⟩
   ·rw[i2 x,zO,zD,zT,or_assoc]
   ·rw[zAN,show σ++v :: ns=σ++[v]++ns by simp,<- i4]
    lia
theorem nub_len(ns:List Int):(nub ns).length=ns.length↔ns.Nodup:=by
 have:=(nubF_spec ns [] zAS).2.2.2
 simpa using this
noncomputable def setI(ns:List Int):HO:=.set (fun k=>decide (k∈nub ns)) (nub ns).length
section
variable{X:Cx}
theorem call_lenS:CallR X (.builtin "len") (fun xs H Q=>∃ a ns,xs=[V.ref a]/\H a=some (setI ns)/\Q (.int (nub ns).length) H):=by
 intro pins s σ H xs us Q I r h
 obtain⟨a,ns,rfl,ha,q⟩:=h
 obtain⟨u,rfl,ru⟩:=vals1 r
 cases ru
 have x:s.heap.SetOf (intKind X.prog X.w) a _ _:=I.hok a _ ha
 obtain⟨o,es,ep,t,ho,hex,hd,_,_,hb,hf,hn⟩:=x
 refine call_len_set ho hex hd hf (by unfold scanBound at hb;lia) ?_
 exact⟨.int (nub ns).length,H,I.tok _,⟨_,by rw[hn]⟩,q⟩
theorem call_setI:CallR X (.type "set") (fun xs H Q=>∃ (l:Addr) (ns:List Int),xs=[V.ref l]/\SqL X.K H l (ns.map V.int)/\X.A.handled=none/\ns.length+1<scanBound/\∀ S:Addr,H S=none->Q (.ref S) (upd H S (setI ns))):=by
 intro pins s σ H xs us Q I r h
 obtain⟨l,ns,rfl,hq,hh,hl,q⟩:=h
 obtain⟨u,rfl,rx⟩:=vals1 r
 cases rx
 obtain⟨its,r',pl,hz⟩:=I.list hq
 have li:=r'.length
 rw[zA]at li
 refine call_set_list hh pl.isList (intsAre_of r') (by rw[zG];lia) fun h' tk hS kp=>?_
 have kp':∀ b u,s.heap.get? b=some u->h'.get? b=some u:=fun b u e=>kp b u (zP e) e
 have en:firstMet (fun i=>ns.getD i 0) its.toArray.size=nub ns:=by
  unfold firstMet nub nubF
  congr 1
  rw[zG,<- li]
  apply List.ext_getElem
  ·simp
  ·intro i h1 h2
   simp[zAG,zF h2]
 rw[en]at hS
 have eS:(fun k'=>(nub ns).any (· == k'))=fun k=>decide (k∈nub ns):=by
  funext k
  rw[zBB,List.any_eq_true,decide_eq_true_eq]
  exact⟨fun⟨x,hx,e⟩=>by rw[<- beq_iff_eq.mp e];exact hx,fun h=>⟨k,h,by simp⟩⟩
 rw[eS]at hS
 exact⟨.ref s.heap.objs.size,_,I.laid (t':=tk) (a:=s.heap.objs.size) (o:=setI ns) kp' (zI _) hS,rfl,q _ (I.hok.fresh (zI _))⟩
end
open PySem PySem.W PyProof.Rows
noncomputable def sqO:Bool->List V->HO
 |true,xs=>.tup xs
 |false,xs=>.lst xs
theorem sq_or{b:Bool}{K:PySem.W.Frag}{H:Hp}{a:Addr}{xs:List V}(h:H a=some (sqO b xs)):SqL K H a xs\/SqT K H a xs:=by
 cases b
 ·exact .inl (SqL.of h)
 ·exact .inr (SqT.of h)
section
variable{X:Cx}
inductive rIxLhI(x:V)(y:V)(H:Hp)(Q:VK):Prop where
 |mk (p:_) (xs:_) (i:_) (v:_) (h1:x = .ref p) (h2:y = .int i) (h3:H p=some (.lst xs)) (h4:atI xs i=some v) (h5:Q v H)
noncomputable def rIxLh:R2:=fun x y H Q=>rIxLhI x y H Q
inductive rIxThI(x:V)(y:V)(H:Hp)(Q:VK):Prop where
 |mk (p:_) (xs:_) (i:_) (v:_) (h1:x = .ref p) (h2:y = .int i) (h3:H p=some (.tup xs)) (h4:atI xs i=some v) (h5:Q v H)
noncomputable def rIxTh:R2:=fun x y H Q=>rIxThI x y H Q
theorem ix_listH:IxR X rIxLh:=by
 intro value slice pins s σ H x y v u Q I rx ry h hs
 obtain⟨p,xs,i,z,rfl,rfl,hp,he,q⟩:=h
 exact ix_list value slice pins s σ H _ _ v u Q I rx ry ⟨p,xs,i,z,rfl,rfl,SqL.of hp,he,q⟩ hs
theorem ix_tupH:IxR X rIxTh:=by
 intro value slice pins s σ H x y v u Q I rx ry h hs
 obtain⟨p,xs,i,z,rfl,rfl,hp,he,q⟩:=h
 exact ix_tup value slice pins s σ H _ _ v u Q I rx ry ⟨p,xs,i,z,rfl,rfl,SqT.of hp,he,q⟩ hs
theorem call_lenH:CallR X (.builtin "len") (fun xs H Q=>∃ p ys,xs=[.ref p]/\H p=some (.lst ys)/\Q (.int ys.length) H):=by
 intro pins s σ H xs us Q I r h
 obtain⟨p,ys,rfl,hp,q⟩:=h
 exact call_len_seq pins s σ H _ us Q I r ⟨p,ys,rfl,.inl (SqL.of hp),q⟩
theorem call_lenTH:CallR X (.builtin "len") (fun xs H Q=>∃ p ys,xs=[.ref p]/\H p=some (.tup ys)/\Q (.int ys.length) H):=by
 intro pins s σ H xs us Q I r h
 obtain⟨p,ys,rfl,hp,q⟩:=h
 exact call_len_seq pins s σ H _ us Q I r ⟨p,ys,rfl,.inr (SqT.of hp),q⟩
theorem call_lenQ(b:Bool):CallR X (.builtin "len") (fun xs H Q=>∃ p ys,xs=[.ref p]/\H p=some (sqO b ys)/\Q (.int ys.length) H):=by
 intro pins s σ H xs us Q I r h
 obtain⟨p,ys,rfl,hp,q⟩:=h
 exact call_len_seq pins s σ H _ us Q I r ⟨p,ys,rfl,sq_or hp,q⟩
theorem call_tupleH:CallR X (.type "tuple") (fun xs H Q=>∃ p ys,xs=[.ref p]/\H p=some (.lst ys)/\∀ l,H l=none->Q (.ref l) (upd H l (.tup ys))):=by
 intro pins s σ H xs us Q I r h
 obtain⟨p,ys,rfl,hp,q⟩:=h
 exact call_tuple_of pins s σ H _ us Q I r ⟨p,ys,rfl,.inl ⟨SqL.of hp,q⟩⟩
theorem call_listH(b:Bool):CallR X (.type "list") (fun xs H Q=>∃ p ys,xs=[.ref p]/\H p=some (sqO b ys)/\∀ l,H l=none->Q (.ref l) (upd H l (.lst ys))):=by
 intro pins s σ H xs us Q I r h
 obtain⟨p,ys,rfl,hp,q⟩:=h
 exact call_list_of pins s σ H _ us Q I r ⟨p,ys,rfl,sq_or hp,q⟩
theorem call_sumH(hc:X.calm=true):CallR X (.builtin "sum") (fun xs H Q=>∃ (l:Addr) (ns:List Int),xs=[V.ref l]/\H l=some (.lst (ns.map V.int))/\Q (.int ns.sum) H):=by
 intro pins s σ H xs us Q I r h
 obtain⟨p,ys,rfl,hp,q⟩:=h
 exact call_sum hc pins s σ H _ us Q I r ⟨p,ys,rfl,SqL.of hp,q⟩
theorem call_allH(hc:X.calm=true):CallR X (.builtin "all") (fun xs H Q=>∃ (l:Addr) (bs:List Bool),xs=[V.ref l]/\H l=some (.lst (bs.map V.bl))/\Q (.bl (bs.all id)) H):=by
 intro pins s σ H xs us Q I r h
 obtain⟨p,ys,rfl,hp,q⟩:=h
 exact call_all hc pins s σ H _ us Q I r ⟨p,ys,rfl,SqL.of hp,q⟩
theorem call_anyH(hc:X.calm=true):CallR X (.builtin "any") (fun xs H Q=>∃ (l:Addr) (bs:List Bool),xs=[V.ref l]/\H l=some (.lst (bs.map V.bl))/\Q (.bl (bs.any id)) H):=by
 intro pins s σ H xs us Q I r h
 obtain⟨p,ys,rfl,hp,q⟩:=h
 exact call_any hc pins s σ H _ us Q I r ⟨p,ys,rfl,SqL.of hp,q⟩
theorem call_minLH(hc:X.calm=true):CallR X (.builtin "min") (fun xs H Q=>∃ (l:Addr) (ns:List Int),xs=[V.ref l]/\H l=some (.lst (ns.map V.int))/\ns≠[]/\∀ m:Int,m∈ns->(∀ a∈ns,m<=a)->Q (.int m) H):=by
 intro pins s σ H xs us Q I r h
 obtain⟨p,ys,rfl,hp,n0,q⟩:=h
 exact call_minL hc pins s σ H _ us Q I r ⟨p,ys,rfl,SqL.of hp,n0,q⟩
theorem call_maxLH(hc:X.calm=true):CallR X (.builtin "max") (fun xs H Q=>∃ (l:Addr) (ns:List Int),xs=[V.ref l]/\H l=some (.lst (ns.map V.int))/\ns≠[]/\∀ m:Int,m∈ns->(∀ a∈ns,a<=m)->Q (.int m) H):=by
 intro pins s σ H xs us Q I r h
 obtain⟨p,ys,rfl,hp,n0,q⟩:=h
 exact call_maxL hc pins s σ H _ us Q I r ⟨p,ys,rfl,SqL.of hp,n0,q⟩
theorem call_setIH:CallR X (.type "set") (fun xs H Q=>∃ (l:Addr) (ns:List Int),xs=[V.ref l]/\H l=some (.lst (ns.map V.int))/\X.A.handled=none/\ns.length+1<scanBound/\∀ S:Addr,H S=none->Q (.ref S) (upd H S (setI ns))):=by
 intro pins s σ H xs us Q I r h
 obtain⟨p,ys,rfl,hp,n0,q⟩:=h
 exact call_setI pins s σ H _ us Q I r ⟨p,ys,rfl,SqL.of hp,n0,q⟩
inductive rInQI(b n:Bool)(x:V)(y:V)(H:Hp)(Q:VK):Prop where
 |mk (p:_) (xs:_) (h1:y = .ref p) (h2:H p=some (sqO b xs)) (h3:flatV x=true) (h4:xs.all flatV=true) (h5:Q (.bl (if n=true then !inV x xs else inV x xs)) H)
noncomputable def rInQ(b n:Bool):R2:=fun x y H Q=>rInQI b n x y H Q
theorem op_inQ(b:Bool):OpR X (compareOp .In) (rInQ b false):=by
 intro pins s σ H x y v u Q I rx ry h
 obtain⟨p,xs,rfl,hp,fx,fs,q⟩:=h
 exact op_in_seq pins s σ H x _ v u Q I rx ry ⟨p,xs,rfl,sq_or hp,fx,fs,q⟩
noncomputable def tBMh(r:V->List V->Hp->VK->Prop)(to:TE)(t:TA):TE:=fun σ H Q=>to σ H fun x H1=>(∃ p xs,x = .ref p/\H1 p=some (.lst xs))/\t σ H1 fun xs H2=>r x xs H2 Q
theorem pe_bmH{id:String}{name:Str}{r:V->List V->Hp->VK->Prop}{o e:Expr}{es:List Expr}{to:TE}{t:TA}{apos cpos:Pos}(slot:Slot "list" name id)(hty:typeOf (.builtin id)=pure (.type "method_descriptor"))(hm:MtR X id r)(ho:PE X o to)(ha:PA X (e :: es) t)(hbase:attributeBase o name X.env (eval o X.env)=eval o X.env:=by rfl)
  (hfew:((backTo cpos (starEach (e :: es) X.env)).all (fun x=>!x.1) && (backToKw cpos (keywordEach [] X.env)).all (fun x=>x.1.isSome) && decide ((e :: es).length+([]:List Keyword).length+(if([]:List Keyword).isEmpty then 0 else 1)<30))=true:=by rfl) (hline:(apos.endLine == cpos.line)=true:=by rfl)
  (hs:starEach (e :: es) X.env=(false,eval e X.env) :: starEach es X.env:=by rfl) (hplain:(backTo cpos (starEach es X.env)).any (·.1)=false:=by rfl):PE X (.Call (.Attribute o name apos) (e :: es) [] cpos) (tBMh r to t):=by
 intro pins s σ H Q I h
 refine wpAny_Call_method_late hbase hfew hline rfl (thn (ho pins s σ H _ I h) fun v s1 ⟨x,H1,I1,r1,⟨p,xs,ex,hx⟩,q1⟩=>?_)
 subst ex
 obtain⟨h1,h2⟩:=tyV_is (T:="list") I1 r1 (.inl ⟨rfl,xs,SqL.of hx⟩)
 refine⟨"list",id,PySem.F.plainAttrs_list,slot,hty,h1,h2,?_⟩;have hA:=ha cpos pins s1 σ H1 _ I1 q1
 rw[hs]at hA ⊢;refine Calls.callWith_builtin (by show(false ||(backTo cpos (starEach es X.env)).any (·.1))=false;rw[hplain] <;> rfl) (Calls.evalArgs_plain (thn hA fun us s2 ⟨vs,H2,I2,r2,q2⟩=>?_))
 exact hm pins s2 σ H2 _ vs v us Q I2 r1 r2 q2
end
open PySem PySem.W PyProof.Rows
theorem star_un{op:UnaryOp}{a:Expr}{pos:Pos}{es:List Expr}{env:Env}:starEach (.UnaryOp op a pos :: es) env=(false,eval (.UnaryOp op a pos) env) :: starEach es env:=rfl
theorem pa_un{X:Cx}{a:Expr}{op:UnaryOp}{pos:Pos}{es:List Expr}{te:TE}{t:TA}(ha:PE X (.UnaryOp op a pos) te)(hr:PA X es t):PA X (.UnaryOp op a pos :: es) (tCons te t):=pa_cons ha hr (hs:=star_un)
theorem for_enumB{b:Bool}{K:PySem.W.Frag}{l:Addr}{xs:List V}{g:TG}{tb:TS}{D:Ends}{σ:St}{H:Hp}(Pv:Nat->St->Hp->Prop)(h0:Pv 0 σ H)(hl:∀ i σ H,i<=xs.length->Pv i σ H->SqB b K H l xs)
  (hs:∀ i x σ H T,xs[i]?=some x->Pv i σ H->H T=none->g (.ref T) σ (upd H T (.tup [.int i,x])) fun σ2 H2=>tb { D with nx:=Pv (i+1),ct:=Pv (i+1),bk:=D.nx } σ2 H2) (hd:∀ σ H,Pv xs.length σ H->D.nx σ H) :
  ∃ W:Nat->Nat->St->Hp->Prop,(∃ m,W 0 m σ H)/\∀ i m σ H,W i m σ H ->
   ((IteB b K l).stop i H/\D.nx σ H)\/((IteB b K l).go i H/\∃ N:St->Hp->Prop,(∀ σ' H',N σ' H'->∃ m',m'<m/\W (i+1) m' σ' H')/\∀ x H',(IteB b K l).yld i H x H'->g x σ H' fun σ2 H2=>tb { D with nx:=N,ct:=N,bk:=D.nx } σ2 H2):=by
 refine⟨fun i m σ H=>m=xs.length-i/\i<=xs.length/\Pv i σ H,⟨xs.length,by simp,zAQ _,h0⟩,?_⟩
 rintro i m σ H ⟨rfl,hi,p⟩
 have q:=hl i σ H hi p
 by_cases hlt:i<xs.length
 ·refine .inr ⟨⟨xs,xs[i],q,by simp[hlt]⟩,Pv (i+1),fun σ' H' p'=>⟨xs.length-(i+1),by omega,rfl,hlt,p'⟩,fun x H' y=>?_⟩
  obtain⟨T,x',e1,hT,e2,y⟩:=y
  subst e1
  subst e2
  exact hs i x' σ H T (y xs q) p hT
 ·have e:i=xs.length:=by lia
  subst e
  exact .inl ⟨⟨xs,q,zI _⟩,hd σ H p⟩
open PySem PySem.W PyProof.Rows
section
variable{M:Model}{A:Around}{E:Value->Shared->Prop}{s:Shared}
theorem newEnv_cell{scope:Scope}{globals:Addr}{closure:List (Str×Addr)}{qual:Str}{func:Option Addr}{code:Value}{builtins:Addr}{env:Env}{y:Str}{Q:Env->Shared->Prop}
  (h1:∀ b acc,cellsFrom b scope.names acc=(y,b) :: acc) (h2:∀ h:Heap,pushCells h scope.names=h.push { cls:=.type "cell",data:=.cell none })
  (hQ:Q (newEnv scope s.heap.objs.size globals ((y,s.heap.objs.size+1) :: closure) qual func code (some env) builtins) { s with heap:=(s.heap.push { cls:=.type "dict",data:=.dict #[] }).push { cls:=.type "cell",data:=.cell none } }) :
  wpAny M A (newFunctionEnv scope globals closure [] qual func code (some env) builtins) Q E s:=by
 simp only[newFunctionEnv,Option.isSome_some,if_true]
 refine zB (wpAny_alloc ?_)
 refine zB (wpAny_layCells _ (fun name kind cells=>by cases hkc:kind == NameKind.cell <;> simp[hkc]) _ _ _ _ ?_)
 rw[h1,h2,show({ s with heap:=s.heap.push { cls:=.type "dict",data:=.dict #[] } }:Shared).heap.objs.size=s.heap.objs.size+1 from Heap.size_push ..]
 rw[List.forIn_nil]
 exact zB (zH (zH hQ))
end
noncomputable def cxIc(X:Cx)(y:Str)(N':List Str)(scope:Scope)(C:Addr)(s2:Shared)(H2:Hp)(fp:List Addr):Cx :=
 { X with N:=N',s₀:=s2,H₀:=H2,env:=compEnvC scope ((y,C+1) :: closCl X.env.cells scope.names []) C X.env,outer:=X.stack,ex:=fp,fn:=fun x=>decide (x=y),xe:=fun _ _=>False }
structure CellScope(y:Str)(N':List Str)(cap:List (Option Nat))(N:List Str)(sc0 scope:Scope):Prop where
 kind:scope.kind = .function
 one:∀ b acc,cellsFrom b scope.names acc=(y,b) :: acc
 push:∀ h:Heap,pushCells h scope.names=h.push { cls:=.type "cell",data:=.cell none }
 only:∀ x∈scope.names,x.2 = .cell->x.1=y
 own:scope.names.lookup y=some .cell
 loc:∀ x∈scope.names,x.2 = .local->scope.names.lookup x.1=some .local
 fre:∀ x∈scope.names,x.2 = .free->sc0.names.lookup x.1=some .cell\/sc0.names.lookup x.1=some .free
 len:cap.length=N'.length
 cap:∀ j∈List.range cap.length,match cap[j]? with
  |some (some i)=>match N'[j]? with
   |some x=>N[i]?=some x/\scope.names.lookup x=some .free
   |none=>False
  | _=>True
section
variable{X:Cx}{y:Str}{N':List Str}{cap:List (Option Nat)}{scope:Scope}{C:Addr}{s2 s4:Shared}{H2:Hp}{fp:List Addr}{pins:List (Addr×Obj)}{σ:St}
theorem CellScope.clos(S:CellScope y N' cap X.N X.env.scope scope)(I:Inv X pins σ H2 s2):∀ x∈scope.names,x.2 = .free->∃ c,X.env.cells.lookup x.1=some c :=
 fun x hx hf=>I.ok.has x.1 (S.fre x hx hf)
theorem csC_sound(S:CellScope y N' cap X.N X.env.scope scope)(I:Inv X pins σ H2 s2){x:Str}{c:Addr}(e:((y,C+1) :: closCl X.env.cells scope.names []).lookup x=some c):(x=y/\c=C+1)\/X.env.cells.lookup x=some c:=by
 rw[zAI]at e
 by_cases z:(x == y)=true
 ·rw[z]at e
  exact .inl ⟨by simpa using z,by cases e;rfl⟩
 ·rw[zAJ.mpr z]at e
  exact .inr (closCl_sound _ _ (S.clos I) (fun y c e=>by simp at e) x c e)
theorem csC_old(I:Inv X pins σ H2 s2){x:Str}{c:Addr}(hC:s2.heap.objs.size<=C)(e:X.env.cells.lookup x=some c):c≠C+1:=fun z=>by
 obtain⟨v,q⟩:=I.cell x c e
 have h1:=q.lt
 rw[z]at h1
 exact absurd h1 (Nat.not_lt.mpr (zBL hC))
theorem cxIc_ok(S:CellScope y N' cap X.N X.env.scope scope)(I:Inv X pins σ H2 s2)(hC:s2.heap.objs.size<=C)(hfp:∀ b∈fp,FpOk X pins H2 b)(hfo:∀ b∈fp,∃ o,s2.heap.get? b=some o):(cxIc X y N' scope C s2 H2 fp).Ok where
 mod:=I.ok.mod
 kind:=S.kind
 glob:=I.ok.glob
 blt:=I.ok.blt
 above:=hC
 inj:=fun x z c e1 e2=>by
  rcases csC_sound S I e1 with⟨a1,b1⟩ | a1 <;> rcases csC_sound S I e2 with⟨a2,b2⟩ | a2
  ·rw[a1,a2]
  ·exact absurd b1 (csC_old I hC a2)
  ·exact absurd b2 (csC_old I hC a1)
  ·exact I.ok.inj x z c a1 a2
 has:=fun x h=>by
  have key:∀ k,(x,k)∈scope.names->(k = .cell\/k = .free)->∃ c,((y,C+1) :: closCl X.env.cells scope.names []).lookup x=some c:=fun k hk hc=>by
   rw[zAI]
   by_cases z:(x == y)=true
   ·rw[z];exact⟨_,rfl⟩
   ·rw[zAJ.mpr z]
    rcases hc with e | e
    ·subst e;exact absurd (by simpa using S.only _ hk rfl) z
    ·subst e;exact closCl_has _ _ x hk
  rcases h with h | h
  ·obtain⟨k,hk,e |⟨e,_⟩⟩:=relabel_mem (scope:=scope) (l:=scope.names) h
   ·exact key k hk (.inl e)
   ·exact key k hk (.inr e)
  ·obtain⟨k,hk,e |⟨_,e⟩⟩:=relabel_mem (scope:=scope) (l:=scope.names) h
   ·exact key k hk (.inr e)
   ·cases e
 cab:=fun x c h e=>by
  have h:x=y:=of_decide_eq_true h
  rcases csC_sound S I e with⟨_,b1⟩ | a1
  ·rw[b1];exact zBL hC
  ·subst h
   have e:((x,C+1) :: closCl X.env.cells scope.names []).lookup x=some c:=e
   rw[zAI,beq_self_eq_true]at e
   cases e
   exact zBL hC
 hd:=I.ok.hd
 frames:=I.ok.frames
 stk:=.inl rfl
 exf:=fun b hb=>⟨fun z=>by
   obtain⟨o,ho⟩:=hfo b hb
   have h1:=zY (zP ho) hC
   have z:b=C:=z
   rw[z]at h1
   exact zAE _ h1,fun x c e=>by
   rcases csC_sound S I e with⟨_,b1⟩ | a1
   ·obtain⟨o,ho⟩:=hfo b hb
    have h1:=zY (zP ho) hC
    intro z
    rw[<- z,b1]at h1
    exact absurd h1 (Nat.not_lt.mpr (Nat.le_succ _))
   ·exact(hfp b hb).2.2.2.2.1 x c a1⟩
 bs:=I.bs
 bsz:=zAC I.ok.bsz I.sz
 noex:=fun b o e hb=>by
  rcases(hfp b hb).2.2.2.1 with z | z
  ·exact I.ok.noex b o e z
  ·exact absurd (zY (zP e) (zAC I.ok.bsz z)) (zAE _)
 exfs:=fun b hb z=>by
  rcases zT.mp (I.stkSub b z)with e | e
  ·exact(hfp b hb).2.1 e
  ·exact(hfp b hb).2.2.1 e
 funs:=I.stack
 frf:=I.stkFree
theorem cxIc_inv(S:CellScope y N' cap X.N X.env.scope scope)(I:Inv X pins σ H2 s2)(hC:s2.heap.objs.size<=C)(hfp:∀ b∈fp,FpOk X pins H2 b)(hfo:∀ b∈fp,∃ o,s2.heap.get? b=some o)
  (ho:s4.os=s2.os) (hg:s4.gens=s2.gens) (k:∀ b o,s2.heap.get? b=some o->s4.heap.get? b=some o) {m:Str->Option Value} (hn:s4.heap.Ns C m) {D:Addr}{oD:Obj}
  (hD:s4.heap.get? D=some oD) (hDs:s2.heap.objs.size<=D) (hDC:D≠C) (hDc:∀ v,oD.data≠.cell v) (hcl:s4.heap.IsCell (C+1) none) :
  Inv (cxIc X y N' scope C s2 H2 fp) (pins++[(D,oD)]) (capt cap σ) H2 s4 where
 ok:=cxIc_ok S I hC hfp hfo
 os:=ho
 bare:=by rw[hg];exact I.bare
 base:=Un.kept k
 loc:=by
  refine⟨m,hn,fun j x v e1 e2 _=>?_⟩
  have hj:j<cap.length:=by rw[S.len];exact(zE.mp e1).1
  have e1:N'[j]?=some x:=e1
  have hc:=S.cap j (zAW.mpr hj)
  unfold capt at e2
  rw[zAD]at e2
  cases hq:cap[j]? with
  |none=>rw[hq]at e2;cases e2
  |some o =>
   rw[hq]at e2 hc
   cases o with
   |none=>cases e2
   |some i =>
    simp only[e1]at hc
    obtain⟨hN,hfr⟩:=hc
    have e3:σ[i]?=some (some v):=by
     have e2:(σ[i]?).join=some v:=Option.some.inj e2
     cases hs:σ[i]? with
     |none=>rw[hs]at e2;cases e2
     |some w=>rw[hs]at e2;have e2:w=some v:=e2;rw[e2]
    have hm:=lookup_mem hfr
    have hk:=S.fre _ hm rfl
    obtain⟨m0,hn0,hl0⟩:=I.loc
    obtain⟨u,r,l⟩:=hl0 i x v hN e3 (.inr hk)
    refine⟨u,r,?_⟩
    rcases l with⟨l,_⟩ |⟨_,c,e,z⟩
    ·rcases hk with hk | hk
     ·rw[show X.env.kindOf x=some .cell from hk]at l;cases l
     ·rw[show X.env.kindOf x=some .free from hk]at l;cases l
    ·obtain⟨c',hc'⟩:=closCl_has (cells:=X.env.cells) scope.names [] x hm
     have hs:=closCl_sound scope.names [] (S.clos I) (fun y c e=>by simp at e) x c' hc'
     rw[e]at hs
     cases hs
     have ny:(x == y)=false:=zAJ.mpr fun z=>by
      have z:x=y:=by simpa using z
      rw[z,S.own]at hfr
      cases hfr
     refine .inr ⟨relabel_free hfr,c,(by show((y,C+1) :: closCl X.env.cells scope.names []).lookup x=some c;rw[zAI,ny];exact hc'),?_⟩
     obtain⟨oc,ho',hd'⟩:=z
     exact⟨oc,k _ _ ho',hd'⟩
 cell:=fun x c e=>by
  rcases csC_sound S I e with⟨_,b1⟩ | a1
  ·rw[b1];exact⟨none,hcl⟩
  ·obtain⟨v,oc,ho',hd'⟩:=I.cell x c a1
   exact⟨v,oc,k _ _ ho',hd'⟩
 free:=I.hok.fresh hC
 freeC:=fun x c e=>by
  rcases csC_sound S I e with⟨_,b1⟩ | a1
  ·rw[b1];exact I.hok.fresh (zBL hC)
  ·exact I.freeC x c a1
 pin:=fun p hp=>by
  have hp:p∈X.pn++(pins++[(D,oD)]):=hp
  have cne:∀ b o,s2.heap.get? b=some o->b≠C:=fun b o e z=>by
   have h1:=zY (zP e) hC
   rw[z]at h1
   exact zAE _ h1
  rw[<- List.append_assoc]at hp
  rcases zO.mp hp with hp | hp
  ·obtain⟨e,n,ne,nf,d⟩:=I.pin p hp
   exact⟨k _ _ e,n,cne _ _ e,fun z=>by
    rcases zT.mp (I.stkSub p.1 z)with e | e
    ·exact ne e
    ·exact nf e,d⟩
  ·have e:p=(D,oD):=by simpa using hp
   subst e
   refine⟨hD,I.hok.fresh hDs,hDC,fun z=>?_,hDc⟩
   rcases zT.mp (I.stkSub D z)with e | e
   ·have h1:=zY I.lt hDs
    rw[e]at h1
    exact zAE _ h1
   ·exact I.nofs hDs e
 hok:=I.hok.kept k
 len:=by unfold capt;rw[zA];exact S.len
end
section
variable{X:Cx}{y:Str}{elt tg iter:Expr}{ifs:List Expr}{scope:Scope}{pos:Pos}{N':List Str}{cap:List (Option Nat)}{wi:TI}{g:TG}{tc:TT}{te:TE}
theorem comp_runC(hc:X.calm=true)(S:CellScope y N' cap X.N X.env.scope scope)(hi:PI X tg iter wi)(hg:∀ C s H fp,PG (cxIc X y N' scope C s H fp) tg g)
  (ht:∀ C s H fp,PF (cxIc X y N' scope C s H fp) ifs tc) (he:∀ C s H fp,PE (cxIc X y N' scope C s H fp) elt te)
  {pins:List (Addr×Obj)}{s:Shared}{σ:St}{H:Hp}{Q:VK} (I:Inv X pins σ H s) (h:tComp cap wi g tc te σ H Q) :
  wpAny (model X.prog X.w) X.A (eval iter X.env) (fun x s₁=>wpAny (model X.prog X.w) X.A (pyIter x) (fun it s₂=>wpAny (model X.prog X.w) X.A (newList []) (fun acc s₃ =>
   wpAny (model X.prog X.w) X.A (newFunctionEnv scope X.env.globals (closCl X.env.cells scope.names []) [] X.env.qual none .none (some X.env)) (fun cenv s₄ =>
    codeAny (model X.prog X.w) X.A (.compStart (.ListComp elt [⟨tg,iter,ifs,0⟩] scope pos) 0 it acc { cenv with scope:=relabel scope X.env }) (CompEnd X pins σ Q acc cenv.locals) s₄) X.xe s₃) X.xe s₂) X.xe s₁) X.xe s:=by
 refine thn (hi pins s σ H _ I h) fun v s1 h1=>thn h1 fun itv s2 h2=>?_
 obtain⟨it,fp,tn,J,H2,e,I2,T,st2,f2,n,P,hn,p0,turn⟩:=h2
 subst e
 refine wpAny_newObj_type (newEnv_cell S.one S.push ?_)
 dsimp only
 generalize hHp:s2.heap.push { cls:=.type "list",dict:=none,data:=.seq ([]:List Value).toArray } = Hq
 generalize hh1:(Hq.push { cls:=.type "dict",data:=.dict #[] }).push { cls:=.type "cell",data:=.cell none } = h₁
 have hns₁:h₁.Ns Hq.objs.size fun _=>none:=by rw[<- hh1];exact(Heap.Ns.new Hq (.type "dict")).keeps fun b o e=>zC _ e
 have hcl₁:h₁.IsCell (Hq.objs.size+1) none:=by
  have e:(Hq.push { cls:=.type "dict",data:=.dict #[] }).objs.size=Hq.objs.size+1:=Heap.size_push ..
  rw[<- hh1,<- e]
  exact⟨_,zW _ rfl,rfl⟩
 have up₁:∀ b o,Hq.get? b=some o->h₁.get? b=some o:=fun b o e=>by rw[<- hh1];exact zC _ (zC _ e)
 have hC:Hq.objs.size=s2.heap.objs.size+1:=by rw[<- hHp,Heap.size_push]
 have hDC:s2.heap.objs.size≠Hq.objs.size:=by rw[hC];exact zZ (zBH _)
 have hCle:s2.heap.objs.size<=Hq.objs.size:=by rw[hC];exact Nat.le_succ _
 have old:∀ b o,s2.heap.get? b=some o->h₁.get? b=some o:=fun b o e=>up₁ b o (hHp▸zC _ e)
 have hacc:h₁.PlainList s2.heap.objs.size #[]:=⟨_,up₁ _ _ (hHp▸zW _ rfl)⟩
 have hfo:∀ b∈fp,∃ o,s2.heap.get? b=some o:=fun b hb=>let ⟨o,e,_⟩:=T.obj _ _ st2 b hb;⟨o,e⟩
 have st4:tn 0 h₁:=T.keep _ _ _ st2 fun b _ o e=>old b o e
 let D:Addr:=s2.heap.objs.size
 let C:Addr:=Hq.objs.size
 let Y:Cx:=cxIc X y N' scope C s2 H2 fp
 have hDfp:D∉fp:=fun hb=>by
  obtain⟨o,e⟩:=hfo D hb
  exact zAE _ (zP e)
 -- the iterator's objects,seen from within
 have stat:∀ {H':Hp}{oD:Obj},(∀ b∈fp,H' b=none)->∀ b∈fp,FpOk Y (pins++[(D,oD)]) H' b:=fun {H' oD} hn b hb=>by
  obtain⟨f0,f1,fx,f3,f4,f5⟩:=f2 b hb
  obtain⟨o,e⟩:=hfo b hb
  refine⟨hn b hb,fun z=>?_,fun z=>?_,.inl hb,fun x c e=>by
   rcases csC_sound S I2 e with⟨_,b1⟩ | a1
   ·obtain⟨o,ho⟩:=hfo b hb
    have h1:=zY (zP ho) hCle
    intro z
    rw[<- z,b1]at h1
    exact absurd h1 (Nat.not_lt.mpr (Nat.le_succ _))
   ·exact f4 x c a1,fun p hp=>?_⟩
  ·have h1:=zY (zP e) hCle
   have z:b=Hq.objs.size:=z
   rw[z]at h1
   exact zAE _ h1
  ·rcases zT.mp (I2.stkSub b z)with e | e
   ·exact f1 e
   ·exact fx e
  ·have hp:p∈X.pn++(pins++[(D,oD)]):=hp
   rw[<- List.append_assoc]at hp
   rcases zO.mp hp with hp | hp
   ·exact f5 p hp
   ·have q:p=(D,oD):=by simpa using hp
    subst q
    exact fun z=>hDfp (by rw[show D=b from z];exact hb)
 have loop:∀ s₃:Shared,s₃ = { s2 with heap:=h₁,toks:=s2.toks } ->
   codeAny (model X.prog X.w) X.A (.compLoop (.ListComp elt [⟨tg,iter,ifs,0⟩] scope pos) 0 (.ref it) (.ref s2.heap.objs.size) (compEnvC scope ((y,Hq.objs.size+1) :: closCl X.env.cells scope.names []) Hq.objs.size X.env))
    (CompEnd X pins σ Q (.ref s2.heap.objs.size) Hq.objs.size) s₃:=by
  rintro s₃ rfl
  have cellD:∀ x c,Y.env.cells.lookup x=some c->c≠D:=fun x c e z=>by
   have z:c=s2.heap.objs.size:=z
   rcases csC_sound S I2 e with⟨_,b1⟩ | a1
   ·have b1:c=Hq.objs.size+1:=b1
    rw[z,hC]at b1
    exact absurd b1 (zZ (Nat.lt_succ_of_lt (zBH _)))
   ·obtain⟨v,q⟩:=I2.cell x c a1
    have h1:=q.lt
    rw[z]at h1
    exact zAE _ h1
  have pinD:∀ p∈X.pn++pins,p.1≠D:=fun p hp z=>by
   have h1:=zP (I2.pin p hp).1
   rw[show p.1=s2.heap.objs.size from z]at h1
   exact zAE _ h1
  have inD:∀ {pl:List (Addr×Obj)}{oD:Obj},(D,oD)∈Y.pn++((pins++[(D,oD)])++pl):=fun {pl oD}=>zM _ (zV _ (zM _ (by simp)))
  have inF:∀ {pl:List (Addr×Obj)}{oD:Obj}{p:Addr×Obj},p∈pl->p∈Y.pn++((pins++[(D,oD)])++pl):=fun {pl oD p} hp=>zM _ (zM _ hp)
  refine codeAny_compLoop_any (fun m s'=>∃ i ys H' its ep,m=n-i/\i<=n/\ys.length<=i/\Vals ys its/\Inv Y (pins++[(D,{ cls:=.type "list",data:=.seq its.toArray ep })]) (capt cap σ) H' s'/\tn i s'.heap/\(∀ b∈fp,H' b=none)/\P i ys H') ?_ n ?_
  ·rintro m s3 ⟨i,ys,H3,its,ep,rfl,hin,hyl,rv,I3,st3,fr3,p3⟩
   rcases turn i ys H3 hyl hin p3 with⟨stop,q⟩ |⟨hlt,go,step⟩
   ·refine thn (T.done Y rfl rfl rfl hc i _ s3 _ H3 (fun _ _=>False) I3 (stat fr3) st3 stop) fun r s4 ⟨hr,I4⟩=>?_
    subst hr
    obtain⟨eD,nD,_⟩:=I4.pin (D,{ cls:=.type "list",data:=.seq its.toArray ep }) (zM _ (zM _ (by simp)))
    have nD:H3 D=none:=nD
    have okn:ObjOk X.prog X.w (upd H3 D (.lst ys)) s4.heap D (.lst ys):=⟨zAC hyl (zAC hin hn),its,ep,rv,eD⟩
    have hok:HOk X.prog X.w (upd H3 D (.lst ys)) s4.heap:=fun b u e=>by
     by_cases hb:b=D
     ·subst hb;rw[upd_same]at e;cases e;exact okn
     ·rw[upd_ne hb]at e
      exact(I4.hok b u e).stay (fun c v _ q=>q) (fun c q=>by rw[upd_ne (ne_of_none q nD)];exact q) fun c xs q=>by rw[upd_ne (ne_of_none q nD)];exact q
    have B:=I4.base
    have u:Un (frs X.stack) fp H2 (upd H3 D (.lst ys)) s2.heap s4.heap :=
     ⟨B.keep,B.slot,fun b o e n hx=>by rw[upd_ne (zZ (zP e))];exact B.free b o e n hx,B.there,fun b xs e=>by rw[upd_ne (ne_of_none (B.tups b xs e) nD)];exact B.tups b xs e,
      fun b o xs e=>by rw[upd_ne (ne_of_none (B.frzs b o xs e) nD)];exact B.frzs b o xs e,fun b ps e=>by
       obtain⟨more,z⟩:=B.tbls b ps e
       exact⟨more,by rw[upd_ne (ne_of_none z nD)];exact z⟩⟩
    have IX:Inv X pins σ (upd H3 D (.lst ys)) s4:=I2.call' (ch:=fp) I4.os u hok I4.bare fun b hb=>by
     obtain⟨f0,f1,fx,f3,f4,f5⟩:=f2 b hb
     exact⟨f3,f1,f4,f5⟩
    have nC:(upd H3 D (.lst ys)) Hq.objs.size=none:=by rw[upd_ne (Ne.symm hDC)];exact I4.free
    obtain⟨m',hm',_⟩:=I4.loc
    exact⟨.ref D,_,IX,rfl,q D nD,⟨m',hm'⟩,I2.fpOk hCle nC⟩
   ·refine thn (T.item Y rfl rfl rfl hc i _ s3 _ H3 (fun _ _=>False) I3 (stat fr3) st3 go) fun r s4 ⟨u,hr,h4⟩=>?_
    subst hr
    refine thn h4 fun _ s5 ⟨x,H5,I5,r5,y5,st5,fr5⟩=>?_
    have I5':=I5.pinned (stat fr5) (T.obj _ _ st5)
    refine thn (hg C s2 H2 fp _ s5 _ H5 x u _ I5' r5 (step x H5 y5)) fun _ s6 ⟨σ6,H6,I6,kp,q6⟩=>?_
    refine thn (ht C s2 H2 fp _ s6 σ6 H6 _ I6 q6) fun b s7 ⟨H7,I7,q7⟩=>?_
    cases b with
    |false =>
     rw[if_neg zN]at q7 ⊢
     refine⟨n-(i+1),zBK n i hlt,i+1,ys,H7,its,ep,rfl,hlt,zBL hyl,rv,I7.unpinned.weak kp.length kp.get,?_,fun b hb=>?_,q7⟩
     ·exact T.keep _ _ _ st5 fun b hb o e=>(I7.pin (b,o) (inF (mem_pinsAt hb e))).1
     ·obtain⟨o,e,d⟩:=T.obj _ _ st5 b hb
      exact(I7.pin (b,o) (inF (mem_pinsAt hb e))).2.1
    |true =>
     rw[if_pos rfl]at q7 ⊢
     refine thn (he C s2 H2 fp _ s7 σ6 H7 _ I7 q7) fun yv s8 ⟨y,H8,I8,r8,q8⟩=>?_
     obtain⟨eD,nD,_⟩:=I8.pin (D,{ cls:=.type "list",data:=.seq its.toArray ep }) inD
     have hsz:its.toArray.size<=sizeLine:=by
      rw[zG,<- rv.length]
      exact zAC hyl (zAC hin hn)
     refine wpAny_list_append_plain (items:=its.toArray) ⟨ep,eD⟩ (fun h9 pl9 sb9=>?_) hsz
     obtain⟨ep',e9⟩:=pl9
     have e9:h9.get? D=some { cls:=.type "list",data:=.seq (its++[yv]).toArray ep' }:=by rw[e9];simp
     have Ia:Inv Y pins σ6 H8 s8:=I8.pins_of fun p hp=>I8.pin p (zM _ (zV _ (zV _ hp)))
     have Ib:Inv Y pins σ6 H8 { s8 with heap:=h9 }:=Ia.turned (it:=D) (t':=s8.toks) (fun b o hb e=>(sb9.2 b hb).trans e) nD hDC (.inr (zI _)) cellD pinD
     have Ic:Inv Y (pins++[(D,{ cls:=.type "list",data:=.seq (its++[yv]).toArray ep' })]) σ6 H8 { s8 with heap:=h9 }:=Ib.pins_of fun p hp=>by
      rcases zO.mp hp with hp | hp
      ·exact Ib.pin p (zM _ hp)
      ·have q:p=(D,{ cls:=.type "list",data:=.seq (its++[yv]).toArray ep' }):=by simpa using hp
       subst q
       obtain⟨_,_,z1,z2,_⟩:=I8.pin (D,{ cls:=.type "list",data:=.seq its.toArray ep }) inD
       exact⟨e9,nD,z1,z2,fun v z=>by cases z⟩
     refine⟨n-(i+1),zBK n i hlt,i+1,ys++[y],H8,its++[yv],ep',rfl,hlt,by simp;omega,Vals.append rv (.cons r8 .nil),Ic.weak kp.length kp.get,?_,fun b hb=>?_,q8⟩
     ·exact T.keep _ _ _ st5 fun b hb o e=>sb9.extBut b o (fun z=>hDfp (by rw[show D=b from Eq.symm z];exact hb)) (I8.pin (b,o) (inF (mem_pinsAt hb e))).1
     ·obtain⟨o,e,d⟩:=T.obj _ _ st5 b hb
      exact(I8.pin (b,o) (inF (mem_pinsAt hb e))).2.1
  ·obtain⟨ep,e⟩:=hacc
   refine⟨0,[],H2,[],ep,rfl,zAQ _,zI _,.nil,?_,st4,fun b hb=>(f2 b hb).1,p0⟩
   exact cxIc_inv (s4:={ s2 with heap:=h₁,toks:=s2.toks }) S I2 hCle f2 hfo rfl rfl old hns₁ e (zI _) hDC (fun v z=>by cases z) hcl₁
 exact codeAny_compStart_list (loop _ rfl) (T.self X.A 0 _ _ _ st4 (loop _ rfl))
theorem pe_compC(hc:X.calm=true)(S:CellScope y N' cap X.N X.env.scope scope)(hi:PI X tg iter wi)(hg:∀ C s H fp,PG (cxIc X y N' scope C s H fp) tg g)
  (ht:∀ C s H fp,PF (cxIc X y N' scope C s H fp) ifs tc) (he:∀ C s H fp,PE (cxIc X y N' scope C s H fp) elt te)
  (hs:∀ x,foldedSetIterable iter X.env x=pure x:=by intro _;rfl):PE X (.ListComp elt [⟨tg,iter,ifs,0⟩] scope pos) (tComp cap wi g tc te):=by
 intro pins s σ H Q I h
 rw[eval_ListComp]
 refine wpAny_comprehension_free (use:=none) rfl hs (closureFor_cells (S.clos I)) S.kind S.loc (thn (comp_runC (pos:=pos) hc S hi hg ht he I h) fun x s1 h1=>thn h1 fun it s2 h2=>thn h2 fun acc s3 h3=>thn h3 fun cenv s4 h4=>?_)
 refine codeAny_mono h4 fun r s' hr=>?_
 cases r with
 |error x=>exact hr.elim
 |ok f =>
  obtain⟨v,H',I',rv,q,⟨m,hn⟩,f0,f1,f2,f3,f4,f5⟩:=hr
  refine⟨m,hn,fun h' sb=>⟨v,H',I'.turned (it:=cenv.locals) (t':=s'.toks) (fun b o hb e=>(sb.2 b hb).trans e) f0 f1 f3 f4 f5,rv,q⟩⟩
end
open PySem PySem.W PyProof.Rows
theorem Paired.atV{F:V->Dt->Prop}{xs:List V}{ds:List Dt}(h:Paired F xs ds){j:Nat}(h1:j<xs.length)(h2:j<ds.length):F xs[j] ds[j]:=Paired.at h j h1 h2
theorem eq_same{X:Cx}{pins:List (Addr×Obj)}{σ:St}{H:Hp}{s:Shared}(I:Inv X pins σ H s):∀ {n:Nat}{A:Around}{x y:V}{d:Dt}{u v:Value},Dat H n x d->Dat H n y d->RelV x u->RelV y v->A.units+n<cLine->SeqAt.EqAt A s u v true:=by
 have flat:∀ {A:Around}{x y:V}{d:Dt}{u v:Value},Dat H 0 x d->Dat H 0 y d->RelV x u->RelV y v->SeqAt.EqAt A s u v true:=by
  intro A x y d u v hx hy ru rv
  cases d with
  |non=>have ex:x = .non:=hx;have ey:y = .non:=hy;subst ex ey;cases ru;cases rv;exact SeqAt.EqAt.same _
  |bl b=>have ex:x = .bl b:=hx;have ey:y = .bl b:=hy;subst ex ey;cases ru;cases rv;exact SeqAt.EqAt.same _
  |int i =>
   have ex:x = .int i:=hx
   have ey:y = .int i:=hy
   subst ex ey
   obtain⟨t,rfl⟩:=ru
   obtain⟨t',rfl⟩:=rv
   have:=SeqAt.EqAt.int_int (A:=A) (s:=s) i t i t'
   rwa [beq_self_eq_true]at this
  |str z =>
   have ex:x = .str z:=hx
   have ey:y = .str z:=hy
   subst ex ey
   obtain⟨t,rfl⟩:=ru
   obtain⟨t',rfl⟩:=rv
   have:=SeqAt.EqAt.str_str (A:=A) (s:=s) z t z t'
   rwa [beq_self_eq_true]at this
  |lst ds=>exact(show False from hx).elim
  |tup ds=>exact(show False from hx).elim
 intro n
 induction n with
 |zero=>intro A x y d u v hx hy ru rv _;exact flat hx hy ru rv
 |succ n ih =>
  intro A x y d u v hx hy ru rv hu
  cases d with
  |non=>exact flat (d:=.non) hx hy ru rv
  |bl b=>exact flat (d:=.bl b) hx hy ru rv
  |int i=>exact flat (d:=.int i) hx hy ru rv
  |str z=>exact flat (d:=.str z) hx hy ru rv
  |lst ds =>
   obtain⟨a,xs,rfl,xl,ha,px⟩:=hx
   obtain⟨b,ys,rfl,yl,hb,py⟩:=hy
   cases ru
   cases rv
   by_cases e:a=b
   ·subst e;exact SeqAt.EqAt.same _
   ·obtain⟨its,r,pl,hz⟩:=I.list (SqL.of ha)
    obtain⟨its',r',pl',hz'⟩:=I.list (SqL.of hb)
    have l1:=r.length
    have l2:=r'.length
    have l3:xs.length=ds.length:=Paired.length px
    have l4:ys.length=ds.length:=Paired.length py
    have key:=SeqAt.RcAt.lists (A:=A) (e:=fun _=>true) pl.isList pl'.isList (by simp only[zG];lia) (by lia) (fun j h1 h2=>by
     simp only[zG]at h1 h2
     have jx:j<xs.length:=by lia
     have jy:j<ys.length:=by lia
     obtain⟨u,e1,q1⟩:=r.get (i:=j) (x:=xs[j]) (zF jx)
     obtain⟨u',e2,q2⟩:=r'.get (i:=j) (x:=ys[j]) (zF jy)
     rw[zF h1]at e1
     rw[zF h2]at e2
     have e1:=Option.some.inj e1
     have e2:=Option.some.inj e2
     simp only[List.getElem_toArray]
     rw[e1,e2]
     exact ih (A:=A.in1) (d:=ds[j]'(by lia)) (Paired.atV px jx (by lia)) (Paired.atV py jy (by lia)) q1 q2 (by show A.units+1+n<cLine;lia))
    have t:(List.range its.toArray.size).all (fun _=>true)=true:=by simp
    rw[t]at key
    exact SeqAt.EqAt.of_refs e key
  |tup ds =>
   obtain⟨a,xs,rfl,xl,ha,px⟩:=hx
   obtain⟨b,ys,rfl,yl,hb,py⟩:=hy
   cases ru
   cases rv
   by_cases e:a=b
   ·subst e;exact SeqAt.EqAt.same _
   ·obtain⟨its,r,pl,hz⟩:=I.tuple (SqT.of ha)
    obtain⟨its',r',pl',hz'⟩:=I.tuple (SqT.of hb)
    have l1:=r.length
    have l2:=r'.length
    have l3:xs.length=ds.length:=Paired.length px
    have l4:ys.length=ds.length:=Paired.length py
    have key:=SeqAt.RcAt.tuples (A:=A) (e:=fun _=>true) pl pl' (by lia) (fun j h1 h2=>by
     simp only[zG]at h1 h2
     have jx:j<xs.length:=by lia
     have jy:j<ys.length:=by lia
     obtain⟨u,e1,q1⟩:=r.get (i:=j) (x:=xs[j]) (zF jx)
     obtain⟨u',e2,q2⟩:=r'.get (i:=j) (x:=ys[j]) (zF jy)
     rw[zF h1]at e1
     rw[zF h2]at e2
     have e1:=Option.some.inj e1
     have e2:=Option.some.inj e2
     simp only[List.getElem_toArray]
     rw[e1,e2]
     exact ih (A:=A.in1) (d:=ds[j]'(by lia)) (Paired.atV px jx (by lia)) (Paired.atV py jy (by lia)) q1 q2 (by show A.units+1+n<cLine;lia))
    have t:((List.range (min its.toArray.size its'.toArray.size)).all (fun _=>true) && its.toArray.size == its'.toArray.size)=true:=by
     simp only[zG]
     rw[show its.length=its'.length by lia]
     simp
    rw[t]at key
    exact SeqAt.EqAt.of_refs e key
noncomputable def seqD:Dt->Bool
 | .lst _=>true
 | .tup _=>true
 | _=>false
inductive rSameI(b:Bool)(x:V)(y:V)(H:Hp)(Q:VK):Prop where
 |mk (n:_) (d:_) (h1:Dat H (n+1) x d) (h2:Dat H (n+1) y d) (h3:seqD d=true) (h4:n<=50) (h5:Q (.bl b) H)
noncomputable def rSame(b:Bool):R2:=fun x y H Q=>rSameI b x y H Q
section
variable{X:Cx}
theorem items_same{pins:List (Addr×Obj)}{σ:St}{H:Hp}{s:Shared}(I:Inv X pins σ H s){n:Nat}{A:Around}{xs ys:List V}{ds:List Dt}{us vs:List Value}(px:Paired (Dat H n) xs ds)(py:Paired (Dat H n) ys ds)(r:Vals xs us)(r':Vals ys vs)(hu:A.units+n<cLine) :
  ∀ j (h1:j<us.toArray.size) (h2:j<vs.toArray.size),SeqAt.EqAt A s us.toArray[j] vs.toArray[j] true:=fun j h1 h2=>by
 have l1:=r.length
 have l2:=r'.length
 have l3:xs.length=ds.length:=Paired.length px
 have l4:ys.length=ds.length:=Paired.length py
 simp only[zG]at h1 h2
 have jx:j<xs.length:=by lia
 have jy:j<ys.length:=by lia
 obtain⟨u,e1,q1⟩:=r.get (i:=j) (x:=xs[j]) (zF jx)
 obtain⟨u',e2,q2⟩:=r'.get (i:=j) (x:=ys[j]) (zF jy)
 rw[zF h1]at e1
 rw[zF h2]at e2
 have e1:=Option.some.inj e1
 have e2:=Option.some.inj e2
 simp only[List.getElem_toArray]
 rw[e1,e2]
 exact eq_same I (d:=ds[j]'(by lia)) (Paired.atV px jx (by lia)) (Paired.atV py jy (by lia)) q1 q2 hu
theorem op_eqS(hu:X.A.units+64<cLine):OpR X (compareOp .Eq) (rSame true):=by
 intro pins s σ H x y v u Q I rx ry h
 obtain⟨n,d,hx,hy,sd,hn,q⟩:=h
 have fin:EP X pins σ Q (.bool true) s:=⟨.bl true,H,I,rfl,q⟩
 cases d with
 |lst ds =>
  obtain⟨a,xs,rfl,xl,ha,px⟩:=hx
  obtain⟨b,ys,rfl,yl,hb,py⟩:=hy
  cases rx
  cases ry
  obtain⟨its,r,pl,hz⟩:=I.list (SqL.of ha)
  obtain⟨its',r',pl',hz'⟩:=I.list (SqL.of hb)
  have l1:=r.length
  have l2:=r'.length
  have l3:xs.length=ds.length:=Paired.length px
  have l4:ys.length=ds.length:=Paired.length py
  refine SeqAt.RcAt.lists (e:=fun _=>true) pl.isList pl'.isList (by simp only[zG];lia) (by lia) (items_same I px py r r' (by show X.A.units+1+n<cLine;lia)) _ _ _ _ ?_
  rw[show(List.range its.toArray.size).all (fun _=>true)=true by simp]
  exact fin
 |tup ds =>
  obtain⟨a,xs,rfl,xl,ha,px⟩:=hx
  obtain⟨b,ys,rfl,yl,hb,py⟩:=hy
  cases rx
  cases ry
  obtain⟨its,r,pl,hz⟩:=I.tuple (SqT.of ha)
  obtain⟨its',r',pl',hz'⟩:=I.tuple (SqT.of hb)
  have l1:=r.length
  have l2:=r'.length
  have l3:xs.length=ds.length:=Paired.length px
  have l4:ys.length=ds.length:=Paired.length py
  refine SeqAt.RcAt.tuples (e:=fun _=>true) pl pl' (by lia) (items_same I px py r r' (by show X.A.units+1+n<cLine;lia)) _ _ _ _ ?_
  rw[show((List.range (min its.toArray.size its'.toArray.size)).all (fun _=>true) && its.toArray.size == its'.toArray.size)=true by simp only[zG];rw[show its.length=its'.length by lia];simp]
  exact fin
 |non=>cases sd
 |bl b=>cases sd
 |int i=>cases sd
 |str z=>cases sd
end
theorem hu64{A:Around}{k:Nat}(hr:Room k A):A.units+64<cLine:=hr.units
open PySem PySem.Spec PyProof.Rows
section
variable{X:Cx}{elt tg iter:Expr}{ifs:List Expr}{scope:Scope}{pos:Pos}{y:Str}{N':List Str}{cap:List (Option Nat)}{wi:TI}{g:TG}{tc:TT}{te:TE}
theorem ps_compC{i:Nat}{x:Str}{pos' spos:Pos}(hN:X.N.Nodup)(hx:X.N[i]?=some x)(hl:Loc X.env.scope x)(hc:X.calm=true)(S:CellScope y N' cap X.N X.env.scope scope)(hi:PI X tg iter wi)(hg:∀ C s H fp,PG (cxIc X y N' scope C s H fp) tg g)
  (ht:∀ C s H fp,PF (cxIc X y N' scope C s H fp) ifs tc) (he:∀ C s H fp,PE (cxIc X y N' scope C s H fp) elt te)
  (hs:∀ x,foldedSetIterable iter X.env x=pure x:=by intro _;rfl) (hsw:swapsWith (.ListComp elt [⟨tg,iter,ifs,0⟩] scope pos) (some (.Name x pos')) spos.line X.env=pure true:=by rfl)
  (hf:X.fn x=true\/X.env.scope.names.lookup x=some .local:=by first | exact .inl rfl | exact .inr rfl | assumption) :
  PS X (.Assign [.Name x pos'] (.ListComp elt [⟨tg,iter,ifs,0⟩] scope pos) spos) (tAsg (tComp cap wi g tc te) (gName i)):=by
 intro pins s σ H D I h
 rw[exec_Assign_Name_used _ _ _ _ hsw]
 refine zB (wpAny_standAt (zB ?_))
 show wpAny _ _ (do let _ <- comprehension (.ListComp elt [⟨tg,iter,ifs,0⟩] scope pos) scope X.env _ (newList []) false (eval iter X.env) (some (assign (.Name x pos') X.env))) _ _ s
 refine zB (wpAny_mono (wpAny_comprehension_free (use:=some (assign (.Name x pos') X.env)) (Q:=fun _ s'=>SP X pins D .next s') rfl hs (closureFor_cells (S.clos I)) S.kind S.loc
  (thn (comp_runC (pos:=pos) hc S hi hg ht he I h) fun x s1 h1=>thn h1 fun it s2 h2=>thn h2 fun acc s3 h3=>thn h3 fun cenv s4 h4=>?_)) (fun _ s' hq=>zH (zH hq)) fun _ _ e=>e)
 refine codeAny_mono h4 fun r s' hr=>?_
 cases r with
 |error x=>exact hr.elim
 |ok f =>
  obtain⟨v,H',I',rv,q,⟨m,hn⟩,f0,f1,f2,f3,f4,f5⟩:=hr
  show wpAny _ _ (assign (.Name _ pos') X.env acc) _ _ _
  refine wpAny_assign_Name (store_ok2 I' hN hx hl rv (fun s'' I'' ⟨a,sb,ha⟩=>?_) hf)
  have hac:cenv.locals≠a:=by
   rcases ha with ha | ha
   ·rw[ha];exact f1
   ·exact Ne.symm (f4 _ a ha)
  refine⟨m,hn.sameBut sb hac,fun h' sb'=>⟨_,H',I''.turned (it:=cenv.locals) (t':=s''.toks) (fun b o hb e=>(sb'.2 b hb).trans e) f0 f1 f3 f4 f5,q⟩⟩
end
open PySem PySem.W PyProof.Rows
section
variable{X:Cx}
noncomputable def tBM0h(r:V->List V->Hp->VK->Prop)(to:TE):TE:=fun σ H Q=>to σ H fun x H1=>(∃ p xs,x = .ref p/\H1 p=some (.lst xs))/\r x [] H1 Q
theorem pe_bm0H{id:String}{name:Str}{r:V->List V->Hp->VK->Prop}{o:Expr}{to:TE}{apos cpos:Pos}(slot:Slot "list" name id)(hty:typeOf (.builtin id)=pure (.type "method_descriptor"))(hm:MtR X id r)(ho:PE X o to)
  (hbase:attributeBase o name X.env (eval o X.env)=eval o X.env:=by rfl) (hline:(apos.endLine == cpos.line)=true:=by rfl):PE X (.Call (.Attribute o name apos) [] [] cpos) (tBM0h r to):=by
 intro pins s σ H Q I h
 refine wpAny_Call_method0_late hbase hline (thn (ho pins s σ H _ I h) fun v s1 ⟨x,H1,I1,r1,⟨p,xs,ex,hx⟩,q1⟩=>?_)
 subst ex
 obtain⟨h1,h2⟩:=tyV_is (T:="list") I1 r1 (.inl ⟨rfl,xs,SqL.of hx⟩)
 exact⟨"list",id,PySem.F.plainAttrs_list,slot,hty,h1,h2,Calls.callWith_builtin rfl (PySem.evalArgs_none (hm pins s1 σ H1 _ [] v [] Q I1 r1 .nil q1))⟩
end
end L2
namespace K63
open PySem L2 PyProof.Rows
structure CalF(P:Program)(w:World)(K:PySem.W.Frag)(mg:Str->Option Value)(base:Heap)(k:Nat)(x:Str)(ps:List Str)(sp:Sp)(g:Addr)(gd:FuncData):Prop where
 ok:FnOk P w K mg base CX0 k g gd ps sp
 mg:mg x=some (.ref g)
 kp:PySem.W.keepIn K (.ref g)=true
 bd:Binds K gd ps []
structure Txt2(mg:Str->Option Value):Prop where
 all:mg "all" = none
 zip:mg "zip" = none
 enum:mg "enumerate" = none
 dict:mg "dict" = none
noncomputable abbrev scO(l:List (Str×NameKind)):Scope:={ kind:=.function,names:=l,isGenerator:=false,isCoroutine:=false }
noncomputable def pairOf(x:Tie):List Int:=[x.1,x.2.1]
theorem sl_tupK{X:Cx}(K:PySem.W.Frag)(e:X.K=K):SlR X (rSlT K):=e▸sl_tup
end K63
namespace HT
open PySem PySem.Spec PyProof.Rows
section
variable{prog:Program}{w:World}{A:Around}{E:Value->Shared->Prop}{s:Shared}
theorem getItem_tuple_whole{t sl:Addr}{items:Array Value}{vl vu:Value}{lo hi:Option Int}{Q:Value->Shared->Prop}(ht:IsTup s.heap t items)(hs:s.heap.IsSliceOf sl vl vu .none)(pl:IsPart vl lo)(pu:IsPart vu hi)
  (hw:sIx items.size 0 lo=0/\sIx items.size items.size hi=items.size)
  (h:Q (.ref t) s):wpAny (model prog w) A (getItem (.ref t) (.ref sl)) Q E s:=by
 obtain⟨os,hos,hcs,hds⟩:=id hs
 have hTs:s.TypeIs (.ref sl) "slice":=⟨os,hos,hcs⟩
 unfold getItem
 try with_reducible refine wpAny_holding ?_
 first | refine zB (zH ?_) | skip
 refine zB (wpAny_sequenceKey ht.typeIs (by decide) ?_)
 refine zB (wpAny_callSpecial?_slot (name:=Str.ofString "__getitem__") ht.typeIs PyProof.Rows.slot_tuple_getitem
  (wpAny_call_entry PyProof.Rows.slot_tuple_getitem ht.typeIs entry_tuple_getitem ?_ (args_tuple_getitem _ _)))
 show wpAny _ _ (Builtin.Tuple.tupleItemsOf (.ref t) >>= _) _ _ s
 refine zB (tupleItemsOf_ ht ?_)
 refine zB (wpAny_typeOf hTs ?_)
 rw[if_pos (by decide)]
 refine zB (sliceApplied_gen hs pl pu ?_)
 have hyes:(((sIx items.size 0 lo:Nat):Int) == 0 && (1:Int) == 1 && (sIx items.size items.size hi-sIx items.size 0 lo) == items.size)=true:=by
  rw[hw.1,hw.2]
  simp
 show wpAny _ _ (if(((sIx items.size 0 lo:Nat):Int) == 0 && (1:Int) == 1 && (sIx items.size items.size hi-sIx items.size 0 lo) == items.size)=true then _ else _) _ _ s
 rw[if_pos hyes]
 refine zB (m:=Builtin.Tuple.tupleIsExact (.ref t)) ?_
 unfold Builtin.Tuple.tupleIsExact
 refine zB (wpAny_typeOf ht.typeIs (zH ?_))
 rw[if_pos (by decide)]
 refine zB (wpAny_rule ?_)
 first
  |exact zH ⟨_,rfl,zH h⟩
  |exact zB (zH (zH ⟨_,rfl,zH h⟩))
  |exact zB (zH ⟨_,rfl,zH h⟩)
end
end HT
namespace L2
open PySem PySem.W PyProof.Rows
variable{X:Cx}
inductive rSlAI(x:V)(lo:Option Int)(hi:Option Int)(H:Hp)(Q:VK):Prop where
 |mk (a:_) (xs:_) (h1:x = .ref a) (h2:H a=some (.tup xs)) (h3:∀ p H',Same H H'->H' p=some (.tup (cutV xs lo hi))->Q (.ref p) H')
noncomputable def rSlA:V->Option Int->Option Int->Hp->VK->Prop:=fun x lo hi H Q=>rSlAI x lo hi H Q
theorem sl_tupA:SlR X rSlA:=by
 intro pins s σ H x v vl vu lo hi sl Q I rx hs pl pu h
 obtain⟨a,xs,rfl,hx,q⟩:=h
 by_cases hw:HT.sIx xs.length 0 lo=0/\HT.sIx xs.length xs.length hi=xs.length
 ·cases rx
  obtain⟨its,r,ht,hz⟩:=I.tuple (SqT.of (K:=X.K) hx)
  have hlen:its.toArray.size=xs.length:=by rw[zG];exact r.length.symm
  refine⟨"tuple",_,PyProof.Rows.slot_tuple_getitem.lookup,ht.typeIs,?_⟩
  refine HT.getItem_tuple_whole ht hs pl pu (by rw[hlen];exact hw) ⟨.ref a,H,I,rfl,q a H (Same.refl _) ?_⟩
  unfold cutV
  rw[hw.1,hw.2,List.drop_zero,Nat.sub_zero,zAF]
  exact hx
 ·exact sl_tup pins s σ H _ v vl vu lo hi sl Q I rx hs pl pu ⟨a,xs,rfl,SqT.of hx,hw,fun p hp=>q p _ (Same.new hp) upd_same⟩
noncomputable def wo(p:Addr)(H:Hp):Hp:=fun b=>if b=p then none else H b
theorem wo_ne{p b:Addr}{H:Hp}(h:b≠p):wo p H b=H b:=if_neg h
theorem wo_same{p:Addr}{H:Hp}:Same (wo p H) H:=fun b o e=>by
 by_cases z:b=p
 ·rw[wo,if_pos z]at e;cases e
 ·rw[wo_ne z]at e;exact e
theorem wo_some{p b:Addr}{H:Hp}{o:HO}(h:b≠p)(e:H b=some o):wo p H b=some o:=by rw[wo_ne h];exact e
open PySem PySem.W PyProof.Rows Srt HT
section
variable{X:Cx}
noncomputable def tRev(K:PySem.W.Frag)(te ts:TE):TE:=fun σ H Q=>te σ H fun x H1=>ts σ H1 fun y H2=>∃ a xs,x = .ref a/\y = .int (-1)/\SqL K H2 a xs/\∀ p,H2 p=none->Q (.ref p) (upd H2 p (.lst xs.reverse))
theorem pick_rev(its:List Value):slicePick its.toArray none none (some (-1))=its.reverse.toArray:=by
 have e:sliceBounds none none (some (-1)) its.toArray.size=((its.length:Int)-1,-1,-1):=by
  simp[sliceBounds]
 unfold slicePick
 rw[e]
 congr 1
 have r:sliceRange ((its.length:Int)-1) (-1) (-1)=(List.range its.length).map fun k=>its.length-1-k:=by
  unfold sliceRange
  have c:(if(-1:Int) > 0 then(if((its.length:Int)-1) < -1 then(-1-((its.length:Int)-1) + -1-1) / -1 else 0)else(if((its.length:Int)-1) > -1 then(((its.length:Int)-1) - -1 - -1-1) / (- -1)else 0)).toNat=its.length:=by
   rw[if_neg (by decide)]
   split
   ·have:(((its.length:Int)-1) - -1 - -1-1) / (- -1)=its.length:=by
     rw[show(- (-1:Int))=1 from rfl,Int.ediv_one]
     lia
    rw[this]
    exact zAO _
   ·lia
  dsimp only
  rw[c]
  apply zBS
  intro k hk
  have:=zAW.mp hk
  lia
 dsimp only
 rw[r]
 rw[List.filterMap_map]
 have fm:∀ (l:List Nat) (f:Nat->Option Value) (g:Nat->Value),(∀ k∈l,f k=some (g k))->l.filterMap f=l.map g:=by
  intro l f g
  induction l with
  |nil=>intro _;rfl
  |cons k l ih =>
   intro h
   rw[List.filterMap_cons,h k (zS ..),zAB,ih fun k hk=>h k (zQ _ hk)]
 rw[fm _ _ (fun k=>its.getD (its.length-1-k) .none) fun k hk=>?_]
 ·apply List.ext_getElem
  ·simp
  ·intro i h1 h2
   rw[zA,zBM]at h1
   rw[zR,List.getElem_range,List.getElem_reverse,zAG,zF (by omega)]
   rfl
 ·have:=zAW.mp hk
  show its.toArray[its.length-1-k]?=_
  rw[List.getElem?_toArray,zAG,zF (by omega)]
  rfl
theorem Vals.rev:∀ {xs:List V}{us:List Value},Vals xs us->Vals xs.reverse us.reverse
 | _,_,.nil=>.nil
 | _,_,.cons h t=>by
  rw[List.reverse_cons,List.reverse_cons]
  exact(Vals.rev t).append (.cons h .nil)
theorem pe_rev{e st:Expr}{te ts:TE}{p2 pos:Pos}(he:PE X e te)(hst:PE X st ts):PE X (.Subscript e (.Slice none none (some st) p2) pos) (tRev X.K te ts):=by
 intro pins s σ H Q I h
 refine Subscript_ (thn (he pins s σ H _ I h) fun v s1 ⟨x,H1,I1,r1,q1⟩=>?_)
 refine wpAny_Slice ?_
 rw[evalPart_none,evalPart_some]
 refine zH (zH (thn (hst pins s1 σ H1 _ I1 q1) fun w' s3 ⟨y,H3,I3,r3,q3⟩=>?_))
 obtain⟨a,xs,rfl,rfl,hx,q⟩:=q3
 cases r1
 obtain⟨tk,rfl⟩:=r3
 have I4:Inv X pins σ H3 { s3 with heap:=s3.heap.push { cls:=.type "slice",data:=.fields #[.none,.none,.int (-1) tk] } }:=I3.kept (t':=s3.toks) fun b ob q=>zC _ q
 obtain⟨its,r,ht,hz⟩:=I4.list hx
 show wpAny (model X.prog X.w) X.A (subscriptTail e (.Slice none none (some st) p2) (.ref a) (.ref s3.heap.objs.size)) (EP X pins σ Q) X.xe { s3 with heap:=s3.heap.push { cls:=.type "slice",data:=.fields #[.none,.none,.int (-1) tk] } }
 refine tail_any (ops:=[.ref a,.ref s3.heap.objs.size]) ht.isList.typeIs slot_list_getitem.lookup ?_ (by with_unfolding_all rfl)
 have hlen:=r.length
 refine wpAny_getItem_list_slice ht.isList (Heap.IsSliceOf.new ..) .none .none (.int (-1) tk) (by decide) ?_ (by rw[zG] <;> lia)
 rw[pick_rev its]
 refine⟨.ref _,_,I4.laid (t':=s3.toks) (o:=.lst xs.reverse) (fun b ob q=>zC _ q) (zI _) ?_,rfl,q _ (I4.hok.fresh (zI _))⟩
 refine⟨by rw[List.length_reverse];exact hz,its.reverse,0,?_,zW _ rfl⟩
 exact r.rev
end
end L2
namespace SetA
open PySem L2
end SetA
namespace L2
open PySem PySem.W PyProof.Rows
theorem pe_bmK{X:Cx}(K:PySem.W.Frag)(eK:X.K=K){T id:String}{name:Str}{r:V->List V->Hp->VK->Prop}{o e:Expr}{es:List Expr}{to:TE}{t:TA}{apos cpos:Pos}(pa:PlainAttrs T)(slot:Slot T name id)(hty:typeOf (.builtin id)=pure (.type "method_descriptor"))(hm:MtR X id r)(ho:PE X o to)(ha:PA X (e :: es) t)
  (hbase:attributeBase o name X.env (eval o X.env)=eval o X.env:=by rfl)
  (hfew:((backTo cpos (starEach (e :: es) X.env)).all (fun x=>!x.1) && (backToKw cpos (keywordEach [] X.env)).all (fun x=>x.1.isSome) && decide ((e :: es).length+([]:List Keyword).length+(if([]:List Keyword).isEmpty then 0 else 1)<30))=true:=by rfl)
  (hline:(apos.endLine == cpos.line)=true:=by rfl) (hs:starEach (e :: es) X.env=(false,eval e X.env) :: starEach es X.env:=by rfl) (hplain:(backTo cpos (starEach es X.env)).any (·.1)=false:=by rfl):PE X (.Call (.Attribute o name apos) (e :: es) [] cpos) (tBM K T r to t):=by
 subst eK
 exact pe_bm pa slot hty hm ho ha hbase hfew hline hs hplain
theorem call_len_seqK{X:Cx}(K:PySem.W.Frag)(e:X.K=K):CallR X (.builtin "len") (fun xs H Q=>∃ p ys,xs=[.ref p]/\(SqL K H p ys\/SqT K H p ys)/\Q (.int ys.length) H):=e▸call_len_seq
noncomputable def SIs(b:Bool)(H:Hp)(a:Addr)(xs:List V):Prop:=match b with
 |true=>H a=some (.tup xs)
 |false=>H a=some (.lst xs)
theorem SIs.sqB{b:Bool}{K:PySem.W.Frag}{H:Hp}{a:Addr}{xs:List V}(h:SIs b H a xs):SqB b K H a xs:=by
 cases b
 ·exact SqL.of h
 ·exact SqT.of h
theorem SIs.same{b:Bool}{H H':Hp}{a:Addr}{xs:List V}(h:SIs b H a xs)(s:Same H H'):SIs b H' a xs:=by
 cases b
 ·exact s _ _ h
 ·exact s _ _ h
inductive rSlBI(b:Bool)(x:V)(lo:Option Int)(hi:Option Int)(H:Hp)(Q:VK):Prop where
 |mk (a:_) (xs:_) (h1:x = .ref a) (h2:SIs b H a xs) (h3:∀ p H',Same H H'->SIs b H' p (cutV xs lo hi)->Q (.ref p) H')
noncomputable def rSlB(b:Bool):V->Option Int->Option Int->Hp->VK->Prop:=fun x lo hi H Q=>rSlBI b x lo hi H Q
theorem sl_B{X:Cx}(b:Bool):SlR X (rSlB b):=by
 intro pins s σ H x v vl vu lo hi sl Q I rx hs pl pu h
 obtain⟨a,xs,rfl,hx,q⟩:=h
 cases b
 ·exact sl_list pins s σ H _ v vl vu lo hi sl Q I rx hs pl pu ⟨a,xs,rfl,SqL.of hx,fun p hp=>q p _ (Same.new hp) upd_same⟩
 ·exact sl_tupA pins s σ H _ v vl vu lo hi sl Q I rx hs pl pu ⟨a,xs,rfl,hx,fun p H' s' g=>q p H' s' g⟩
end L2
namespace K63
open PySem L2 PyProof.Rows
theorem Kept.same{p:Addr}{H H':Hp}(h:H p=none)(k:Kept p H H'):Same H H':=fun b o e=>k b o (ne_of_none e h) e
theorem WebAt.kept{H H':Hp}{p t:Addr}{n:Nat}{ties:List Tie}{N:Nat}(W:WebAt H t n ties)(B:BoxAt H p N)(k:Kept p H H'):WebAt H' t n ties:=by
 obtain⟨⟨ts,as,h1,h2,h3⟩,l⟩:=W
 obtain⟨a,b,c,e,_⟩:=B
 have ne:∀ {q xs},H q=some (.tup xs)->q≠p:=fun hq=>ne_of hq e (by intro z;cases z)
 exact⟨⟨ts,as,k _ _ (ne h1) h1,k _ _ (ne h2) h2,Paired.mapP h3 fun a x e=>k _ _ (ne e) e⟩,l⟩
theorem BoxAt.same{H H':Hp}{p:Addr}{N:Nat}(B:BoxAt H p N)(s:Same H H'):BoxAt H' p N:=by
 obtain⟨a,b,c,e,r⟩:=B
 exact⟨a,b,c,s _ _ e,r⟩
open PySem L2 PyProof.Rows
inductive Rch(ties:List Tie):Int->Int->Prop
 |refl (a:Int):Rch ties a a
 |up {a b c w:Int}:(a,b,w)∈ties->Rch ties b c->Rch ties a c
 |dn {a b c w:Int}:(a,b,w)∈ties->Rch ties a c->Rch ties b c
theorem Rch.trans{ties:List Tie}{a b c:Int}(h:Rch ties a b):Rch ties b c->Rch ties a c:=by
 induction h with
 |refl=>exact id
 |up m _ ih=>exact fun z=>.up m (ih z)
 |dn m _ ih=>exact fun z=>.dn m (ih z)
theorem Rch.symm{ties:List Tie}{a b:Int}(h:Rch ties a b):Rch ties b a:=by
 induction h with
 |refl=>exact .refl _
 |up m _ ih=>exact ih.trans (.dn m (.refl _))
 |dn m _ ih=>exact ih.trans (.up m (.refl _))
theorem Rch.inv{ties:List Tie}{α:Type}{f:Int->α}(h:∀ a b w,(a,b,w)∈ties->f a=f b){a b:Int}(r:Rch ties a b):f a=f b:=by
 induction r with
 |refl=>rfl
 |up m _ ih=>exact(h _ _ _ m).trans ih
 |dn m _ ih=>exact(h _ _ _ m).symm.trans ih
theorem Rch.range{ties:List Tie}{n:Nat}(ok:∀ x∈ties,TieOk n x){a b:Int}(r:Rch ties a b):0<=a->a<n->0<=b/\b<n:=by
 induction r with
 |refl=>exact fun h1 h2=>⟨h1,h2⟩
 | @up a b c w m _ ih =>
  obtain⟨o1,o2,o3,_⟩:=ok _ m
  have o1:0<=a:=o1
  have o2:a<b:=o2
  intro _ _
  exact ih (by lia) o3
 | @dn a b c w m _ ih =>
  obtain⟨o1,o2,o3,_⟩:=ok _ m
  have o2:a<b:=o2
  have o3:b <(n:Int):=o3
  intro _ _
  exact ih o1 (by lia)
noncomputable def hAt(hs:List Int)(i:Int):Int:=hs.getD i.toNat 0
theorem hAt_nat{hs:List Int}{i:Nat}(h:i<hs.length):hAt hs (i:Int)=hs[i]:=by
 unfold hAt
 rw[zAO,zAG,zF h]
 rfl
structure IsHeads(n:Nat)(ties:List Tie)(hs:List Int):Prop where
 len:hs.length=n
 rch:∀ i:Int,0<=i->i<n->Rch ties i (hAt hs i)
 least:∀ i:Int,0<=i->i<n->∀ j,Rch ties i j->hAt hs i<=j
noncomputable def besideOf(ties:List Tie)(i:Int):List (Int×Int):=ties.flatMap fun x=>if x.1=i then [(x.2.1,x.2.2)]else if x.2.1=i then [(x.1,x.2.2)]else []
theorem besideOf_snoc{ties:List Tie}{x:Tie}{i:Int}:besideOf (ties++[x]) i=besideOf ties i++if x.1=i then [(x.2.1,x.2.2)]else if x.2.1=i then [(x.1,x.2.2)]else []:=by
 unfold besideOf
 rw[List.flatMap_append,List.flatMap_cons,List.flatMap_nil,zAU]
theorem mem_beside{ties:List Tie}{n:Nat}(ok:∀ x∈ties,TieOk n x){i f w:Int}:(f,w)∈besideOf ties i↔(i,f,w)∈ties\/(f,i,w)∈ties:=by
 unfold besideOf
 rw[List.mem_flatMap]
 refine⟨fun⟨x,hx,h⟩=>?_,fun h=>?_⟩
 ·obtain⟨a,b,c⟩:=x
  by_cases e:a=i
  ·rw[if_pos e]at h
   have:=zD.mp h
   injection this with e1 e2
   left
   rw[<- e,e1,e2]
   exact hx
  ·rw[if_neg e]at h
   by_cases e':b=i
   ·rw[if_pos e']at h
    have:=zD.mp h
    injection this with e1 e2
    right
    rw[<- e',e1,e2]
    exact hx
   ·rw[if_neg e']at h
    cases h
 ·rcases h with h | h
  ·exact⟨_,h,by rw[if_pos rfl];exact zD.mpr rfl⟩
  ·have:=(ok _ h).2.1
   have ne:f≠i:=by
    intro z
    rw[z]at this
    exact absurd this (Int.lt_irrefl _)
   exact⟨_,h,by rw[if_neg ne,if_pos rfl];exact zD.mpr rfl⟩
theorem beside_len:∀ (ties:List Tie) (i:Int),(besideOf ties i).length<=ties.length
 |[],_=>zI _
 |x :: r,i=>by
  unfold besideOf
  rw[List.flatMap_cons,zK]
  have:=beside_len r i
  unfold besideOf at this
  have h2:(if x.1=i then [(x.2.1,x.2.2)]else if x.2.1=i then [(x.1,x.2.2)]else []).length<=1:=by
   split
   ·exact zI _
   ·split
    ·exact zI _
    ·exact zAQ _
  simp only[zAN]
  lia
noncomputable def oV:Option Int->V
 |none=>.non
 |some i=>.int i
noncomputable def oAt(hv:List (Option Int))(i:Int):Option Int:=(hv[i.toNat]?).join
theorem oAt_set{hv:List (Option Int)}{j:Nat}{x:Option Int}(hj:j<hv.length)(i:Int)(h0:0<=i):oAt (hv.set j x) i=if i=(j:Int)then x else oAt hv i:=by
 unfold oAt
 by_cases e:i=(j:Int)
 ·subst e
  rw[if_pos rfl,zAO,List.getElem?_set_self hj]
  rfl
 ·rw[if_neg e,List.getElem?_set_ne (by lia)]
theorem oAt_get{hv:List (Option Int)}{j:Nat}(hj:j<hv.length):hv[j]?=some (oAt hv j):=by
 unfold oAt
 rw[zAO,zF hj]
 rfl
theorem nones_set:∀ {hv:List (Option Int)}{j:Nat}{x:Int},hv[j]?=some none->(hv.set j (some x)).countP (·.isNone)+1=hv.countP (·.isNone)
 |[],_,_,h=>by simp at h
 |a :: r,0,x,h=>by
  have e:a=none:=by simpa using h
  subst e
  simp
 |a :: r,j+1,x,h=>by
  have ih:=nones_set (hv:=r) (j:=j) (x:=x) (by simpa using h)
  rw[List.set_cons_succ,List.countP_cons,List.countP_cons]
  lia
noncomputable def Clo(ties:List Tie)(hv:List (Option Int)):Prop:=∀ a b w,(a,b,w)∈ties->oAt hv a=oAt hv b
structure SI(n:Nat)(ties:List Tie)(h0 hv:List (Option Int))(head:Int)(ws:List Int):Prop where
 len:hv.length=n
 old:∀ v:Int,0<=v->v<n->oAt h0 v≠none->oAt hv v=oAt h0 v
 new:∀ v:Int,0<=v->v<n->oAt h0 v=none->oAt hv v=none\/(oAt hv v=some head/\Rch ties head v)
 hd:oAt hv head=some head
 wait:∀ w∈ws,0<=w/\w<n/\oAt h0 w=none/\oAt hv w=some head
noncomputable def Done(ties:List Tie)(hv:List (Option Int))(v:Int):Prop:=∀ x∈besideOf ties v,oAt hv x.1≠none
structure Sprd(n:Nat)(ties:List Tie)(h0 hv:List (Option Int))(head:Int):Prop where
 si:SI n ties h0 hv head []
 clo:Clo ties hv
theorem SI.fin{n:Nat}{ties:List Tie}{h0 hv:List (Option Int)}{head:Int}(S:SI n ties h0 hv head [])(ok:∀ x∈ties,TieOk n x)(cl:Clo ties h0)(dn:∀ v:Int,0<=v->v<n->oAt h0 v=none->oAt hv v≠none->Done ties hv v):Sprd n ties h0 hv head:=by
 refine⟨S,fun a b w m=>?_⟩
 obtain⟨o1,o2,o3,_⟩:=ok _ m
 have o2:a<b:=o2
 have o3:b <(n:Int):=o3
 have o1:0<=a:=o1
 have c:=cl a b w m
 by_cases z:oAt h0 a=none
 ·have zb:oAt h0 b=none:=by rw[<- c];exact z
  rcases S.new a o1 (by lia) z with p |⟨p,_⟩
  ·rcases S.new b (by lia) o3 zb with q |⟨q,_⟩
   ·rw[p,q]
   ·exact absurd p (dn b (by lia) o3 zb (by rw[q];exact fun z=>nomatch z) (a,w) ((mem_beside ok).mpr (.inr m)))
  ·rcases S.new b (by lia) o3 zb with q |⟨q,_⟩
   ·exact absurd q (dn a o1 (by lia) z (by rw[p];exact fun z=>nomatch z) (b,w) ((mem_beside ok).mpr (.inl m)))
   ·rw[p,q]
 ·rw[S.old a o1 (by lia) z,S.old b (by lia) o3 (by rw[<- c];exact z),c]
theorem SI.put{n:Nat}{ties:List Tie}{h0 hv:List (Option Int)}{head:Int}{ws:List Int}{j:Nat}(S:SI n ties h0 hv head ws)(hj:j<n)(z:oAt hv j=none)(r:Rch ties head j):SI n ties h0 (hv.set j (some head)) head (ws++[(j:Int)]):=by
 have hl:j<hv.length:=by rw[S.len];exact hj
 have z0:oAt h0 j=none:=by
  cases e:oAt h0 j with
  |none=>rfl
  |some y =>
   have:=S.old j (by lia) (by lia) (by rw[e];exact fun z=>nomatch z)
   rw[z,e]at this
   cases this
 refine⟨by rw[List.length_set];exact S.len,fun v v0 v1 hv'=>?_,fun v v0 v1 hv'=>?_,?_,fun w hw=>?_⟩
 ·rw[oAt_set hl v v0]
  split
  ·rename_i e
   rw[e]at hv'
   exact absurd z0 hv'
  ·exact S.old v v0 v1 hv'
 ·rw[oAt_set hl v v0]
  split
  ·rename_i e
   subst e
   exact .inr ⟨rfl,r⟩
  ·exact S.new v v0 v1 hv'
 ·by_cases h0':0<=head
  ·rw[oAt_set hl head h0']
   split
   ·rfl
   ·exact S.hd
  ·have hd:=S.hd
   have t:head.toNat=0:=by lia
   unfold oAt at hd ⊢
   rw[t]at hd ⊢
   by_cases j0:j=0
   ·subst j0
    rw[List.getElem?_set_self hl]
    rfl
   ·rw[List.getElem?_set_ne j0]
    exact hd
 ·rcases zO.mp hw with m | m
  ·obtain⟨a,b,c,d⟩:=S.wait w m
   refine⟨a,b,c,?_⟩
   rw[oAt_set hl w a]
   split
   ·rfl
   ·exact d
  ·have e:=zD.mp m
   subst e
   exact⟨by lia,by lia,z0,by rw[oAt_set hl _ (by lia),if_pos rfl]⟩
theorem Done.mono{ties:List Tie}{hv:List (Option Int)}{n:Nat}{head:Int}{j:Nat}(ok:∀ x∈ties,TieOk n x)(hj:j<hv.length){v:Int}(d:Done ties hv v):Done ties (hv.set j (some head)) v:=fun x hx=>by
 have x0:0<=x.1:=by
  obtain⟨f,w⟩:=x
  rcases(mem_beside ok).mp hx with m | m
  ·obtain⟨o1,o2,_⟩:=ok _ m
   have o1:0<=v:=o1
   have o2:v<f:=o2
   show 0<=f
   lia
  ·exact(ok _ m).1
 rw[oAt_set hj _ x0]
 split
 ·exact fun z=>nomatch z
 ·exact d x hx
structure HI(n:Nat)(ties:List Tie)(hv:List (Option Int))(k:Nat):Prop where
 len:hv.length=n
 clo:Clo ties hv
 rch:∀ v h:Int,0<=v->v<n->oAt hv v=some h->Rch ties v h/\∀ j,Rch ties v j->h<=j
 all:∀ v:Int,0<=v->v<k->oAt hv v≠none
theorem HI.skip{n:Nat}{ties:List Tie}{hv:List (Option Int)}{k:Nat}(S:HI n ties hv k)(h:oAt hv k≠none):HI n ties hv (k+1) :=
 ⟨S.len,S.clo,S.rch,fun v v0 v1=>by
  by_cases e:v=(k:Int)
  ·rw[e];exact h
  ·exact S.all v v0 (by lia)⟩
theorem HI.next{n:Nat}{ties:List Tie}{h0 hv:List (Option Int)}{k:Nat}(ok:∀ x∈ties,TieOk n x)(S:HI n ties h0 k)(kn:k<n)(D:Sprd n ties h0 hv k):HI n ties hv (k+1):=by
 refine⟨D.si.len,D.clo,fun v h v0 v1 e=>?_,fun v v0 v1=>?_⟩
 ·by_cases z:oAt h0 v=none
  ·rcases D.si.new v v0 v1 z with q |⟨q,r⟩
   ·rw[q]at e
    cases e
   ·rw[q]at e
    injection e with e
    subst e
    refine⟨r.symm,fun j hj=>?_⟩
    obtain⟨j0,j1⟩:=hj.range ok v0 v1
    have c:oAt h0 v=oAt h0 j:=Rch.inv S.clo hj
    rw[z]at c
    by_cases lt:j <(k:Int)
    ·exact absurd c.symm (S.all j j0 lt)
    ·lia
  ·rw[D.si.old v v0 v1 z]at e
   exact S.rch v h v0 v1 e
 ·by_cases e:v=(k:Int)
  ·rw[e,D.si.hd]
   exact fun z=>nomatch z
  ·have:=S.all v v0 (by lia)
   rw[D.si.old v v0 (by lia) this]
   exact this
theorem HI.fin{n:Nat}{ties:List Tie}{hv:List (Option Int)}(S:HI n ties hv n):∃ hs:List Int,hv=hs.map some/\IsHeads n ties hs:=by
 have all:∀ x∈hv,x≠none:=fun x hx=>by
  obtain⟨i,hi,e⟩:=zBT hx
  have:=S.all i (by lia) (by have:=S.len;lia)
  have g:=oAt_get hi
  rw[zF hi]at g
  injection g with g
  rw[<- e,g]
  exact this
 have ex:hv=(hv.map (·.getD 0)).map some:=by
  rw[zBD]
  have:hv.map (some ∘ fun x=>x.getD 0)=hv.map id:=zBS fun x hx=>by
   cases e:x with
   |none=>exact absurd e (all x hx)
   |some y=>rfl
  rw[this,List.map_id]
 have at':∀ i:Int,0<=i->i<n->oAt hv i=some (hAt (hv.map (·.getD 0)) i):=fun i i0 i1=>by
  obtain⟨j,rfl⟩:∃ j:Nat,i=(j:Int):=⟨i.toNat,by lia⟩
  have jl:j <(hv.map (·.getD 0)).length:=by rw[zA,S.len];lia
  rw[hAt_nat jl]
  have e2:(hv.map (·.getD 0))[j]=(oAt hv j).getD 0:=by
   rw[zR]
   have jl2:j<hv.length:=by rw[S.len];lia
   have g:=oAt_get jl2
   rw[zF jl2]at g
   injection g with g
   rw[g]
  rw[e2]
  cases e:oAt hv j with
  |none=>exact absurd e (S.all j (by omega) (by omega))
  |some y=>rfl
 exact⟨_,ex,by rw[zA];exact S.len,fun i i0 i1=>(S.rch i _ i0 i1 (at' i i0 i1)).1,fun i i0 i1=>(S.rch i _ i0 i1 (at' i i0 i1)).2⟩
open PySem L2 PyProof.Rows
noncomputable def BesAt(H:Hp)(as:List Addr)(ties:List Tie):Prop:=∀ (i:Nat) (h:i<as.length),∃ cs:List Addr,H as[i]=some (.lst (cs.map V.ref))/\Paired (fun c (x:Int×Int)=>H c=some (.tup [.int x.1,.int x.2])) cs (besideOf ties i)
theorem BesAt.same{H H':Hp}{as:List Addr}{ties:List Tie}(B:BesAt H as ties)(s:Same H H'):BesAt H' as ties:=fun i h=>by
 obtain⟨cs,e,p⟩:=B i h
 exact⟨cs,s _ _ e,Paired.mapP p fun c x z=>s _ _ z⟩
theorem BesAt.kept{H H':Hp}{as:List Addr}{ties:List Tie}{p:Addr}{hv:List (Option Int)}(B:BesAt H as ties)(k:Kept p H H')(hp:H p=some (.lst (hv.map oV)))(na:p∉as):BesAt H' as ties:=fun i h=>by
 obtain⟨cs,e,q⟩:=B i h
 exact⟨cs,k _ _ (fun z=>na (z▸zU h)) e,Paired.mapP q fun c x z=>k _ _ (ne_of z hp (by intro z;cases z)) z⟩
theorem BesAt.put{H:Hp}{as:List Addr}{g:Int->List (Int×Int)}{j:Nat}{y:Int×Int}{tp:Addr}{cs0:List Addr}(nd:as.Nodup)(hj:j<as.length)
  (B:∀ (i:Nat) (h:i<as.length),∃ cs:List Addr,H as[i]=some (.lst (cs.map V.ref))/\Paired (fun c (x:Int×Int)=>H c=some (.tup [.int x.1,.int x.2])) cs (g i)) (e0:H as[j]=some (.lst (cs0.map V.ref))) (ht:H tp=some (.tup [.int y.1,.int y.2])) :
  ∀ (i:Nat) (h:i<as.length),∃ cs:List Addr,(upd H as[j] (.lst (cs0.map V.ref++[.ref tp]))) as[i]=some (.lst (cs.map V.ref))/\Paired (fun c (x:Int×Int)=>(upd H as[j] (.lst (cs0.map V.ref++[.ref tp]))) c=some (.tup [.int x.1,.int x.2])) cs (g i++if(i:Int)=j then [y]else []):=fun i h=>by
 obtain⟨cs,e,p⟩:=B i h
 have p2:Paired (fun c (x:Int×Int)=>(upd H as[j] (.lst (cs0.map V.ref++[.ref tp]))) c=some (.tup [.int x.1,.int x.2])) cs (g i):=Paired.mapP p fun c x z=>by rw[upd_ne (ne_of z e0 (by intro z;cases z))];exact z
 by_cases ij:i=j
 ·subst ij
  rw[e]at e0
  have ec:cs0=cs:=by
   injection e0 with e0
   injection e0 with e0
   have:=congrArg (List.map (fun v=>match v with | V.ref a=>a | _=>0)) e0
   rw[zBD,zBD]at this
   have idl:∀ l:List Addr,l.map ((fun v=>match v with | V.ref a=>a | _=>0) ∘ V.ref)=l:=fun l=>by
    induction l with
    |nil=>rfl
    |cons a r ih=>rw[zAB,ih];rfl
   rw[idl,idl]at this
   exact this.symm
  subst ec
  refine⟨cs0++[tp],by rw[upd_same,zJ];rfl,?_⟩
  rw[if_pos rfl]
  exact Paired.snoc p2 (by rw[upd_ne (ne_of ht e (by intro z;cases z))];exact ht)
 ·have ne:as[i]≠as[j]:=fun z=>ij ((List.getElem_inj nd).mp z)
  refine⟨cs,by rw[upd_ne ne];exact e,?_⟩
  rw[if_neg (by lia),zAU]
  exact p2
inductive spBesI(vs:List V)(H:Hp)(Q:VK):Prop where
 |mk (t:Addr) (n:Nat) (ties:List Tie) (h1:vs=[.ref t]) (h2:WebAt H t n ties) (h3:(∀ x∈ties,TieOk n x)) (h4:n<=1000) (h5:∀ (b:Addr) (as:List Addr) (H':Hp),H' b=some (.lst (as.map V.ref))->as.length=n->BesAt H' as ties->Same H H'->Q (.ref b) H')
noncomputable def spBes:Sp:=fun vs H Q _=>spBesI vs H Q
section
variable{P:Program}{w:World}{K:PySem.W.Frag}{mg:Str->Option Value}{base:Heap}
noncomputable abbrev nBes:List Str:=["web","many","ties","beside","a","b","weight"]
theorem scBes:FnScope nBes ["web"] (defScope sBesideEach):=⟨rfl,rfl,rfl,by decide +kernel,rfl,by decide +kernel,by decide +kernel⟩
theorem csBes:CompScope ["place"] [none] nBes (defScope sBesideEach) (scO [(".0",.local),("place",.local)]):=⟨rfl,by decide +kernel,by decide +kernel,by decide +kernel,rfl,capB_ok (by decide +kernel)⟩
theorem ndBes:(["place"]:List Str).Nodup:=by decide +kernel
theorem ok_bes{f:Addr}{fd:FuncData}(F:Fun K "beside_each" "beside_each" sBesideEach f fd)(T:Txt mg):FnOk P w K mg base CX0 1 f fd ["web"] spBes:=by
 refine F.ok scBes (fun vs H Q E h=>?_) (fun cdv A outer s H vs Q E hr h=>?_)
 ·obtain⟨t,n,ties,rfl,_⟩:=h
  rfl
 ·obtain⟨t,n,ties,rfl,W,ok,nb,q⟩:=h
  obtain⟨⟨ts,bs,h1,h2,h3⟩,len⟩:=id W
  have h3l:bs.length=ties.length:=h3.length
  refine⟨_,pss_cons (ps_asg (pvQ 0) (pg_tup (n:=2) rfl (pgs_cons (pg_name (i:=1) scBes.nd rfl (Or.inl rfl)) (pgs_cons (pg_name (i:=2) scBes.nd rfl (Or.inl rfl)) pgs_nil))))
   (pss_cons (ps_comp (i:=3) scBes.nd rfl (Or.inl rfl) rfl csBes (pi_range1 rfl T.range (@pa_nam _ _ _ _ _ _ (pvQ 1) pa_nil)) (fun C s H fp=>pg_name (i:=0) ndBes rfl (Or.inl rfl)) (fun C s H fp=>pf_nil) (fun C s H fp=>@pe_lst _ _ _ _ pa_nil))
   (pss_cons (ps_for PassesOwn.never rfl (pi_tup (pvQ 2)) (pg_tup (n:=3) rfl (pgs_cons (pg_name (i:=4) scBes.nd rfl (Or.inl rfl)) (pgs_cons (pg_name (i:=5) scBes.nd rfl (Or.inl rfl)) (pgs_cons (pg_name (i:=6) scBes.nd rfl (Or.inl rfl)) pgs_nil))))
    (pss_cons (ps_expr (pe_bm PySem.F.plainAttrs_list PySem.F.slot_list_append PySem.F.type_list_append mt_append (pe_ix ix_list (pvQ 3) (pvQ 4) (fun _ _=>rfl)) (@pa_tup _ _ _ _ _ _ _ (@pe_tup _ _ _ _ _ (@pa_nam _ _ _ _ _ _ (pvQ 5) (@pa_nam _ _ _ _ _ _ (pvQ 6) pa_nil))) pa_nil)))
    (pss_one (ps_expr (pe_bm PySem.F.plainAttrs_list PySem.F.slot_list_append PySem.F.type_list_append mt_append (pe_ix ix_list (pvQ 3) (pvQ 5) (fun _ _=>rfl)) (@pa_tup _ _ _ _ _ _ _ (@pe_tup _ _ _ _ _ (@pa_nam _ _ _ _ _ _ (pvQ 4) (@pa_nam _ _ _ _ _ _ (pvQ 6) pa_nil))) pa_nil))))))
   (pss_one (ps_ret (pvQ 3))))),?_⟩
  refine⟨t,_,rfl,SqT.of h1,rfl,_,_,rfl,_,_,rfl,rfl,?_⟩
  refine⟨_,rfl,by lia,by lia,?_⟩
  rw[show((n:Int)).toNat=n by lia]
  refine comp_range (lo:=0) (n:=n) (fun i ys G=>Same H G/\∃ as:List Addr,ys=as.map V.ref/\as.length=i/\as.Nodup/\∀ a∈as,H a=none/\G a=some (.lst [])) (by rw[sizeLine_eq];lia) ⟨Same.refl _,[],rfl,rfl,zAS,fun _ h=>nomatch h⟩ ?_ ?_
  ·rintro i ys G hi ⟨sm,as,rfl,al,nd,ha⟩
   refine⟨trivial,tTru_if ⟨(by show 0<=sizeLine;decide),fun l hl=>⟨sm.trans (Same.new hl),as++[l],by rw[zJ];rfl,by rw[zK,al];rfl,?_,fun a m=>?_⟩⟩⟩
   ·rw[zAV]
    refine⟨nd,by simp,fun x hx y hy z=>?_⟩
    rw[zD.mp hy]at z
    have:=(ha x hx).2
    rw[z,hl]at this
    cases this
   ·rcases zO.mp m with m | m
    ·exact⟨(ha a m).1,(Same.new hl) _ _ (ha a m).2⟩
    ·rw[zD.mp m]
     exact⟨sm.free hl,upd_same⟩
  ·rintro ys G yl ⟨sm,as,rfl,al,nd,ha⟩ D hD
   have sD:=Same.new (o:=.lst (as.map V.ref)) hD
   have hD0:H D=none:=sm.free hD
   have smD:=sm.trans sD
   refine⟨ts,rfl,⟨_,SqT.of (smD _ _ h2)⟩,?_⟩
   refine for_tup (K:=K) (a:=ts) (xs:=bs.map V.ref) (fun i σ G2=>∃ v4 v5 v6,σ=[some (.ref t),some (.int n),some (.ref ts),some (.ref D),v4,v5,v6]/\Same H G2/\G2 D=some (.lst (as.map V.ref))/\BesAt G2 as (ties.take i)) ⟨none,none,none,rfl,smD,upd_same,fun i h=>⟨[],sD _ _ (ha _ (zU h)).2,.nil⟩⟩ (fun i σ G2 _ z=>by obtain⟨v4,v5,v6,_,s2,_⟩:=z;exact SqT.of (s2 _ _ h2)) ?_ ?_
   ·rintro i x σ G2 hx ⟨v4,v5,v6,rfl,s2,gD,B⟩
    obtain⟨il,e⟩:=zE.mp hx
    rw[zA]at il
    rw[zR]at e
    subst e
    have it:i<ties.length:=by lia
    have hx:=s2 _ _ (Paired.at h3 i il it)
    obtain⟨o1,o2,o3,o4⟩:=ok _ (zU it)
    generalize ex:ties[i]=x at *
    obtain⟨a,b,c⟩:=x
    have o1:0<=a:=o1
    have o2:a<b:=o2
    have o3:b <(n:Int):=o3
    obtain⟨a,rfl⟩:∃ a':Nat,a=(a':Int):=⟨a.toNat,by lia⟩
    obtain⟨b,rfl⟩:∃ b':Nat,b=(b':Int):=⟨b.toNat,by lia⟩
    have aL:a<as.length:=by lia
    have bL:b<as.length:=by lia
    refine⟨bs[i],_,rfl,SqT.of hx,rfl,_,_,rfl,_,_,rfl,_,_,rfl,rfl,?_⟩
    obtain⟨ca,ea,pa⟩:=B a aL
    refine⟨D,_,_,_,rfl,rfl,SqL.of gD,atI_nat (v:=V.ref as[a]) (by rw[zAD,zF aL];rfl),.inl ⟨rfl,_,SqL.of ea⟩,(by show 2<=sizeLine;decide),fun tp htp=>?_⟩
    have sT:=Same.new (o:=.tup [.int (b:Int),.int c]) htp
    have lca:(ca.map V.ref).length<sizeLine:=by
     have l1:=pa.length
     have l2:=beside_len (ties.take i) a
     rw[zAH]at l2
     rw[zA,sizeLine_eq]
     lia
    refine⟨as[a],_,_,rfl,rfl,sT _ _ ea,lca,?_⟩
    have B1:=BesAt.put (g:=fun i'=>besideOf (ties.take i) i') (y:=((b:Int),c)) nd aL (B.same sT) (sT _ _ ea) upd_same
    have na:∀ (u:Addr) (o:HO),H u=some o->u≠as[a]:=fun u o e z=>by rw[z,(ha _ (zU aL)).1]at e;cases e
    have nb':∀ (u:Addr) (o:HO),H u=some o->u≠as[b]:=fun u o e z=>by rw[z,(ha _ (zU bL)).1]at e;cases e
    have nD:∀ (j:Nat) (h:j<as.length),D≠as[j]:=fun j h z=>by
     have:=(ha _ (zU h)).2
     rw[<- z,hD]at this
     cases this
    have gD1:(upd (upd G2 tp (.tup [.int (b:Int),.int c])) as[a] (.lst (ca.map V.ref++[.ref tp]))) D=some (.lst (as.map V.ref)):=by rw[upd_ne (nD a aL)];exact sT _ _ gD
    have s3:Same H (upd (upd G2 tp (.tup [.int (b:Int),.int c])) as[a] (.lst (ca.map V.ref++[.ref tp]))):=fun u o e=>by rw[upd_ne (na u o e)];exact sT _ _ (s2 _ _ e)
    generalize (upd (upd G2 tp (.tup [.int (b:Int),.int c])) as[a] (.lst (ca.map V.ref++[.ref tp])))=G3 at B1 gD1 s3
    obtain⟨cb,eb,pb⟩:=B1 b bL
    refine⟨D,_,_,_,rfl,rfl,SqL.of gD1,atI_nat (v:=V.ref as[b]) (by rw[zAD,zF bL];rfl),.inl ⟨rfl,_,SqL.of eb⟩,(by show 2<=sizeLine;decide),fun tp2 htp2=>?_⟩
    have sT2:=Same.new (o:=.tup [.int (a:Int),.int c]) htp2
    have lcb:(cb.map V.ref).length<sizeLine:=by
     have l1:=pb.length
     rw[zK]at l1
     have l2:=beside_len (ties.take i) b
     rw[zAH]at l2
     have l3:(if(b:Int)=(a:Int)then [((b:Int),c)]else []).length<=1:=by split <;> simp
     rw[zA,sizeLine_eq]
     lia
    refine⟨as[b],_,_,rfl,rfl,sT2 _ _ eb,lcb,?_⟩
    have B1':∀ (i':Nat) (h:i'<as.length),∃ cs:List Addr,(upd G3 tp2 (.tup [.int (a:Int),.int c])) as[i']=some (.lst (cs.map V.ref))/\Paired (fun c' (x:Int×Int)=>(upd G3 tp2 (.tup [.int (a:Int),.int c])) c'=some (.tup [.int x.1,.int x.2])) cs ((fun i'':Int=>besideOf (ties.take i) i''++if i''=(a:Int)then [((b:Int),c)]else []) i'):=fun i' h=>by
     obtain⟨cs,e,p⟩:=B1 i' h
     exact⟨cs,sT2 _ _ e,Paired.mapP p fun c x z=>sT2 _ _ z⟩
    have B2:=BesAt.put (g:=fun i'':Int=>besideOf (ties.take i) i''++if i''=(a:Int)then [((b:Int),c)]else []) (y:=((a:Int),c)) nd bL B1' (sT2 _ _ eb) upd_same
    refine⟨_,_,_,rfl,fun u o e=>by rw[upd_ne (nb' u o e)];exact sT2 _ _ (s3 _ _ e),by rw[upd_ne (nD b bL)];exact sT2 _ _ gD1,fun i' h'=>?_⟩
    obtain⟨cs,e,p⟩:=B2 i' h'
    refine⟨cs,e,?_⟩
    have eq:besideOf (ties.take (i+1)) i'=(besideOf (ties.take i) i'++if(i':Int)=(a:Int)then [((b:Int),c)]else [])++if(i':Int)=(b:Int)then [((a:Int),c)]else []:=by
     rw[zL it,besideOf_snoc,ex,List.append_assoc]
     congr 1
     show(if(a:Int)=(i':Int)then _ else if(b:Int)=(i':Int)then _ else _)=_
     by_cases e1:(i':Int)=(a:Int)
     ·rw[if_pos e1,if_pos e1.symm,if_neg (by lia)]
      rfl
     ·rw[if_neg e1,if_neg (fun z=>e1 z.symm)]
      by_cases e2:(i':Int)=(b:Int)
      ·rw[if_pos e2,if_pos e2.symm]
       rfl
      ·rw[if_neg e2,if_neg (fun z=>e2 z.symm)]
       rfl
    rw[eq]
    exact p
   ·rintro σ G2 ⟨v4,v5,v6,rfl,s2,gD,B⟩
    rw[zA,h3l,zAF]at B
    exact q D as G2 gD al B s2
end
open PySem L2 PyProof.Rows
noncomputable def PrAt(H:Hp)(a:Addr)(z:Int×Int):Prop:=H a=some (.tup [.int z.1,.int z.2])
inductive spSprI(vs:List V)(H:Hp)(Q:VK):Prop where
 |mk (b p:Addr) (as:List Addr) (n k:Nat) (ties:List Tie) (h0:List (Option Int)) (h1:vs=[.ref b,.ref p,.int k]) (h2:H b=some (.lst (as.map V.ref))) (h3:as.length=n) (h4:BesAt H as ties) (h5:(∀ x∈ties,TieOk n x)) (h6:n<=1000) (h7:H p=some (.lst (h0.map oV))) (h8:h0.length=n) (h9:b≠p) (h10:p∉as) (h11:k<n) (h12:oAt h0 k=none) (h13:Clo ties h0) (h14:∀ (hv:List (Option Int)) (H':Hp),H' p=some (.lst (hv.map oV))->Sprd n ties h0 hv k->Kept p H H'->Q .non H')
noncomputable def spSpr:Sp:=fun vs H Q _=>spSprI vs H Q
theorem oV_get{hv:List (Option Int)}{j:Nat}(hj:j<hv.length):atI (hv.map oV) (j:Int)=some (oV (oAt hv j)):=atI_nat (by rw[zAD,oAt_get hj];rfl)
theorem ixN_nat{n j:Nat}(h:j<n):ixN n (j:Int)=some j:=by
 unfold ixN
 rw[if_pos (by lia),if_pos (by lia),zAO]
theorem set_oV{hv:List (Option Int)}{j:Nat}{x:Int}:(hv.map oV).set j (.int x)=(hv.set j (some x)).map oV:=by rw[List.map_set];rfl
theorem nones_le(hv:List (Option Int)):hv.countP (·.isNone)<=hv.length:=List.countP_le_length
structure WlI(H:Hp)(p wl:Addr)(n k:Nat)(ties:List Tie)(h0 hv:List (Option Int))(ws:List Int)(G:Hp):Prop where
 hp:G p=some (.lst (hv.map oV))
 hw:G wl=some (.lst (ws.map V.int))
 si:SI n ties h0 hv k ws
 kp:Kept p H G
section
variable{P:Program}{w:World}{K:PySem.W.Frag}{mg:Str->Option Value}{base:Heap}
noncomputable abbrev nSpr:List Str:=["beside","heads","head","waiting","place","far","weight"]
theorem scSpr:FnScope nSpr ["beside","heads","head"] (defScope sSpread):=⟨rfl,rfl,rfl,by decide +kernel,rfl,by decide +kernel,by decide +kernel⟩
theorem ok_spr{f:Addr}{fd:FuncData}(F:Fun K "spread" "spread" sSpread f fd):FnOk P w K mg base CX0 1 f fd ["beside","heads","head"] spSpr:=by
 refine F.ok scSpr (fun vs H Q E h=>?_) (fun cdv A outer s H vs Q E hr h=>?_)
 ·obtain⟨b,p,as,n,k,ties,h0,rfl,_⟩:=h
  rfl
 ·obtain⟨b,p,as,n,k,ties,h0,rfl,hb,al,B,ok,nb,hp,l0,bp,pa,kn,kz,cl,q⟩:=h
  refine⟨_,pss_cons (ps_asg (pvQ 2) (pg_sub (pvQ 1) (pvQ 2) set_list))
   (pss_cons (ps_set (i:=3) scSpr.nd rfl (Or.inl rfl) (@pe_lst _ _ _ _ (@pa_nam _ _ _ _ _ _ (pvQ 2) pa_nil)))
   (pss_one (ps_while PassesOwn.never (pt_truth (pvQ 3) (fun _=>rfl))
    (pss_cons (ps_set (i:=4) scSpr.nd rfl (Or.inl rfl) (pe_bm0 PySem.F.plainAttrs_list PySem.F.slot_list_pop PySem.F.type_list_pop mt_pop (pvQ 3)))
    (pss_one (ps_for PassesOwn.never rfl (pi_list (pe_ix ix_list (pvQ 0) (pvQ 4) (fun _ _=>rfl))) (pg_tup (n:=2) rfl (pgs_cons (pg_name (i:=5) scSpr.nd rfl (Or.inl rfl)) (pgs_cons (pg_name (i:=6) scSpr.nd rfl (Or.inl rfl)) pgs_nil)))
     (pss_one (ps_if (pt_cmp (pc_isN (pe_ix ix_list (pvQ 1) (pvQ 5) (fun _ _=>rfl))))
      (pss_cons (ps_asg (pvQ 2) (pg_sub (pvQ 1) (pvQ 5) set_list))
      (pss_one (ps_expr (pe_bm PySem.F.plainAttrs_list PySem.F.slot_list_append PySem.F.type_list_append mt_append (pvQ 3) (@pa_nam _ _ _ _ _ _ (pvQ 5) pa_nil))))) pss_nil)))))))),?_⟩
  have kl:k<h0.length:=by lia
  refine⟨p,_,_,k,rfl,rfl,hp,by rw[zA];exact ixN_nat kl,?_⟩
  rw[set_oV]
  refine⟨(by show 1<=sizeLine;decide),fun wl hwl=>?_⟩
  have wp:wl≠p:=fun z=>by rw[z,upd_same]at hwl;cases hwl
  have wl0:H wl=none:=by rw[upd_ne wp]at hwl;exact hwl
  have S0:SI n ties h0 (h0.set k (some (k:Int))) k [(k:Int)]:=by
   refine⟨by rw[List.length_set];exact l0,fun v v0 v1 z=>?_,fun v v0 v1 z=>?_,?_,fun x hx=>?_⟩
   ·rw[oAt_set kl v v0,if_neg (fun e=>z (by rw[e];exact kz))]
   ·rw[oAt_set kl v v0]
    split
    ·rename_i e
     exact .inr ⟨rfl,by rw[e];exact .refl _⟩
    ·exact .inl z
   ·rw[oAt_set kl _ (by lia),if_pos rfl]
   ·rw[zD.mp hx]
    exact⟨by lia,by lia,kz,by rw[oAt_set kl _ (by lia),if_pos rfl]⟩
  have c0:(h0.set k (some (k:Int))).countP (·.isNone)+1=h0.countP (·.isNone):=nones_set (by rw[oAt_get kl,kz])
  have c1:=nones_le h0
  refine⟨fun m σ G=>∃ hv ws v4 v5 v6,σ=[some (.ref b),some (.ref p),some (.int k),some (.ref wl),v4,v5,v6]/\m=2 * hv.countP (·.isNone)+ws.length/\m<=2 * n/\WlI H p wl n k ties h0 hv ws G/\∀ v:Int,0<=v->v<n->oAt h0 v=none->oAt hv v≠none->v∉ws->Done ties hv v,
   ⟨_,h0.set k (some (k:Int)),[(k:Int)],none,none,none,rfl,rfl,by simp;lia,⟨by rw[upd_ne (Ne.symm wp),upd_same],upd_same,S0,(Kept.at).put wl0⟩,fun v v0 v1 z z2 z3=>?_⟩,?_⟩
  ·exfalso
   rw[oAt_set kl v v0]at z2
   split at z2
   ·rename_i e
    exact z3 (by rw[e];exact zD.mpr rfl)
   ·exact z2 z
  clear S0 c0 c1 hwl
  rintro m σ G ⟨hv,ws,v4,v5,v6,rfl,em,mn,I,dn⟩
  refine⟨_,.inl ⟨_,SqL.of I.hw,rfl⟩,ite2 (fun hc=>?_) (fun hc=>?_)⟩
  ·have r0:ws≠[]:=fun z=>by rw[z]at hc;exact absurd hc (by decide)
   obtain⟨w1,pl,rfl⟩:∃ w1 pl,ws=w1++[pl]:=⟨ws.dropLast,ws.getLast r0,(List.dropLast_concat_getLast r0).symm⟩
   refine⟨fun σ' G'=>∃ m',m'<m/\∃ hv ws v4 v5 v6,σ'=[some (.ref b),some (.ref p),some (.int k),some (.ref wl),v4,v5,v6]/\m'=2 * hv.countP (·.isNone)+ws.length/\m'<=2 * n/\WlI H p wl n k ties h0 hv ws G'/\∀ v:Int,0<=v->v<n->oAt h0 v=none->oAt hv v≠none->v∉ws->Done ties hv v,fun σ' G' z=>z,?_⟩
   refine⟨.inl ⟨rfl,_,SqL.of I.hw⟩,wl,_,V.int pl,rfl,rfl,I.hw,by simp,?_⟩
   have edl:(List.map V.int (w1++[pl])).dropLast=w1.map V.int:=by rw[zJ];simp
   rw[edl]
   obtain⟨p0,p1,pz,pk⟩:=I.si.wait pl (zM _ (zD.mpr rfl))
   obtain⟨pl,rfl⟩:∃ j:Nat,pl=(j:Int):=⟨pl.toNat,by lia⟩
   have pL:pl<as.length:=by lia
   have rp:Rch ties k pl:=by
    rcases I.si.new pl p0 p1 pz with z | z
    ·rw[pk]at z;cases z
    ·exact z.2
   have I1:WlI H p wl n k ties h0 hv w1 (upd G wl (.lst (w1.map V.int))):=⟨by rw[upd_ne (Ne.symm wp)];exact I.hp,upd_same,⟨I.si.len,I.si.old,I.si.new,I.si.hd,fun x hx=>I.si.wait x (zV _ hx)⟩,I.kp.put wl0⟩
   have hbG:∀ {G':Hp},Kept p H G'->G' b=some (.lst (as.map V.ref)):=fun k'=>k' _ _ bp hb
   have BG:∀ {G':Hp},Kept p H G'->BesAt G' as ties:=fun k'=>B.kept k' hp pa
   obtain⟨cs,ec,pc⟩:=(BG I1.kp) pl pL
   have ecG:∀ {G':Hp},Kept p H G'->G' as[pl]=some (.lst (cs.map V.ref)):=fun k'=>by
    obtain⟨cs',e',_⟩:=B pl pL
    have apl:as[pl]≠p:=fun z=>pa (z▸zU pL)
    have e1:=I1.kp _ _ apl e'
    have e2:=k' _ _ apl e'
    rw[ec]at e1
    rw[e2,<- e1]
   have pcG:∀ {G':Hp},Kept p H G'->Paired (fun c (x:Int×Int)=>G' c=some (.tup [.int x.1,.int x.2])) cs (besideOf ties pl):=fun {G'} k'=>by
    obtain⟨cs',e',p'⟩:=(BG k') pl pL
    rw[ecG k']at e'
    have:cs=cs':=by
     injection e' with e'
     injection e' with e'
     exact List.map_inj_right (fun _ _ h=>by injection h) |>.mp e'
    rw[this]
    exact p'
   refine⟨b,_,_,_,rfl,rfl,SqL.of (hbG I1.kp),atI_nat (v:=V.ref as[pl]) (by rw[zAD,zF pL];rfl),as[pl],rfl,⟨_,SqL.of ec⟩,?_⟩
   refine for_list (K:=K) (a:=as[pl]) (xs:=cs.map V.ref) (fun j σ' G'=>∃ hv ws v5 v6,σ'=[some (.ref b),some (.ref p),some (.int k),some (.ref wl),some (.int pl),v5,v6]/\2 * hv.countP (·.isNone)+ws.length<m/\WlI H p wl n k ties h0 hv ws G' /\
    (∀ v:Int,0<=v->v<n->oAt h0 v=none->oAt hv v≠none->v∉ws->v≠pl->Done ties hv v)/\∀ x∈(besideOf ties pl).take j,oAt hv x.1≠none)
    ⟨hv,w1,v5,v6,rfl,by rw[em,zK];show 2 * _+w1.length<2 * _+(w1.length+1);lia,I1,fun v v0 v1 z z2 z3 z4=>dn v v0 v1 z z2 (fun z5=>by rcases zO.mp z5 with y | y;exact z3 y;exact z4 (zD.mp y)),fun _ h=>by rw[List.take_zero]at h;cases h⟩
    (fun j σ' G' _ z=>by obtain⟨hv,ws,v5,v6,_,_,I',_⟩:=z;exact SqL.of (ecG I'.kp)) ?_ ?_
   ·clear I1 dn I em hc r0 edl v4 v5 v6 ec pc
    rintro j x σ' G' hx ⟨hv,ws,v5,v6,rfl,lt,I,dn,fs⟩
    obtain⟨il,e⟩:=zE.mp hx
    rw[zA]at il
    rw[zR]at e
    subst e
    have pcI:=pcG I.kp
    have jl:j <(besideOf ties pl).length:=by rw[<- pcI.length];exact il
    have hc:=Paired.at pcI j il jl
    have mem:(besideOf ties pl)[j]∈besideOf ties pl:=zU jl
    have tk:(besideOf ties pl).take (j+1)=(besideOf ties pl).take j++[(besideOf ties pl)[j]]:=zL jl
    generalize (besideOf ties pl)[j]=y at hc mem tk
    obtain⟨fa,wt⟩:=y
    have fr:0<=fa/\fa<n/\Rch ties pl fa:=by
     rcases(mem_beside ok).mp mem with m1 | m1
     ·obtain⟨o1,o2,o3,_⟩:=ok _ m1
      have o1:0<=(pl:Int):=o1
      have o2:(pl:Int)<fa:=o2
      exact⟨by lia,o3,.up m1 (.refl _)⟩
     ·obtain⟨o1,o2,o3,_⟩:=ok _ m1
      have o2:fa <(pl:Int):=o2
      exact⟨o1,by lia,.dn m1 (.refl _)⟩
    obtain⟨f0,f1,fr⟩:=fr
    obtain⟨fa,rfl⟩:∃ j:Nat,fa=(j:Int):=⟨fa.toNat,by lia⟩
    have fL:fa<hv.length:=by rw[I.si.len];lia
    refine⟨cs[j],_,rfl,SqT.of hc,rfl,_,_,rfl,_,_,rfl,rfl,?_⟩
    refine⟨p,_,_,_,rfl,rfl,SqL.of I.hp,oV_get fL,_,rfl,ite2 (fun hz=>?_) (fun hz=>?_)⟩
    ·have z:oAt hv fa=none:=by
      cases e:oAt hv fa with
      |none=>rfl
      |some y=>rw[e]at hz;exact absurd hz (by simp[oV])
     refine⟨p,_,_,fa,rfl,rfl,I.hp,by rw[zA];exact ixN_nat fL,?_⟩
     rw[set_oV]
     have hw1:(upd G' p (.lst ((hv.set fa (some (k:Int))).map oV))) wl=some (.lst (ws.map V.int)):=by rw[upd_ne wp];exact I.hw
     refine⟨.inl ⟨rfl,_,SqL.of hw1⟩,wl,_,_,rfl,rfl,hw1,by rw[zA,sizeLine_eq];lia,?_⟩
     have ea:ws.map V.int++[V.int (fa:Int)]=(ws++[(fa:Int)]).map V.int:=by rw[zJ];rfl
     rw[ea]
     have cz:=nones_set (x:=(k:Int)) (show hv[fa]?=some none by rw[oAt_get fL,z])
     refine⟨hv.set fa (some (k:Int)),ws++[(fa:Int)],_,_,rfl,by rw[zK];show 2 * _+(ws.length+1)<m;lia,⟨by rw[upd_ne (Ne.symm wp),upd_same],upd_same,I.si.put (by lia) z (rp.trans fr),(I.kp.trans Kept.at).put wl0⟩,fun v v0 v1 y1 y2 y3 y4=>?_,fun x hx=>?_⟩
     ·have y5:v∉ws:=fun h=>y3 (zV _ h)
      have y6:v≠(fa:Int):=fun h=>y3 (zM _ (zD.mpr h))
      rw[oAt_set fL v v0,if_neg y6]at y2
      exact(dn v v0 v1 y1 y2 y5 y4).mono ok fL
     ·rw[tk]at hx
      rcases zO.mp hx with hx | hx
      ·have d:∀ x∈(besideOf ties pl).take j,oAt (hv.set fa (some (k:Int))) x.1≠none:=fun x hx=>by
        have x0:0<=x.1:=by
         obtain⟨f,w⟩:=x
         rcases(mem_beside ok).mp (List.mem_of_mem_take hx)with m | m
         ·obtain⟨o1,o2,_⟩:=ok _ m
          have o1:0<=(pl:Int):=o1
          have o2:(pl:Int)<f:=o2
          show 0<=f
          lia
         ·exact(ok _ m).1
        rw[oAt_set fL _ x0]
        split
        ·exact fun z=>nomatch z
        ·exact fs x hx
       exact d x hx
      ·rw[zD.mp hx]
       show oAt _ (fa:Int)≠none
       rw[oAt_set fL _ f0,if_pos rfl]
       exact fun z=>nomatch z
    ·have z:oAt hv fa≠none:=fun e=>by rw[e]at hz;exact hz rfl
     refine⟨hv,ws,_,_,rfl,lt,I,dn,fun x hx=>?_⟩
     rw[tk]at hx
     rcases zO.mp hx with hx | hx
     ·exact fs x hx
     ·rw[zD.mp hx]
      exact z
   ·rintro σ' G' ⟨hv,ws,v5,v6,rfl,lt,I',dn',fs⟩
    refine⟨_,lt,hv,ws,_,_,_,rfl,rfl,by lia,I',fun v v0 v1 z z2 z3=>?_⟩
    by_cases e:v=pl
    ·subst e
     intro x hx
     exact fs x (by rw[zA,(pcG I'.kp).length,zAF];exact hx)
    ·exact dn' v v0 v1 z z2 z3 e
  ·have r0:ws=[]:=by
    cases ws with
    |nil=>rfl
    |cons a r=>exact absurd rfl hc
   subst r0
   exact q hv G I.hp (I.si.fin ok cl fun v v0 v1 z z2=>dn v v0 v1 z z2 (fun h=>nomatch h)) I.kp
end
open PySem L2 PyProof.Rows
inductive spHdsI(vs:List V)(H:Hp)(Q:VK):Prop where
 |mk (t:Addr) (n:Nat) (ties:List Tie) (h1:vs=[.ref t]) (h2:WebAt H t n ties) (h3:(∀ x∈ties,TieOk n x)) (h4:n<=1000) (h5:∀ (p:Addr) (hs:List Int) (H':Hp),H p=none->H' p=some (.lst (hs.map V.int))->IsHeads n ties hs->Same H H'->Q (.ref p) H')
noncomputable def spHds:Sp:=fun vs H Q _=>spHdsI vs H Q
theorem rep_non:∀ n:Nat,(List.replicate n [V.non]).flatten=(List.replicate n (none:Option Int)).map oV
 | 0=>rfl
 |n+1=>by
  rw[zBE,zBE,List.flatten_cons,rep_non n]
  rfl
section
variable{P:Program}{w:World}{K:PySem.W.Frag}{mg:Str->Option Value}{base:Heap}
noncomputable abbrev nHds:List Str:=["web","beside","heads","place"]
theorem scHds:FnScope nHds ["web"] (defScope sHeadsOf):=⟨rfl,rfl,rfl,by decide +kernel,rfl,by decide +kernel,by decide +kernel⟩
theorem ok_hds{f g1 g2:Addr}{fd d1 d2:FuncData}(F:Fun K "heads_of" "heads_of" sHeadsOf f fd)(T:Txt mg)(GB:CalF P w K mg base 1 "beside_each" ["web"] spBes g1 d1)(GS:CalF P w K mg base 1 "spread" ["beside","heads","head"] spSpr g2 d2):FnOk P w K mg base CX0 2 f fd ["web"] spHds:=by
 refine F.ok scHds (fun vs H Q E h=>?_) (fun cdv A outer s H vs Q E hr h=>?_)
 ·obtain⟨t,n,ties,rfl,_⟩:=h
  rfl
 ·obtain⟨t,n,ties,rfl,W,ok,nb,q⟩:=h
  obtain⟨⟨ts,bs,h1,h2,h3⟩,len⟩:=id W
  refine⟨_,pss_cons (ps_set (i:=1) scHds.nd rfl (Or.inl rfl) (pe_call GB.ok hr rfl GB.mg GB.kp GB.bd .nil pass0 (@pa_nam _ _ _ _ _ _ (pvQ 0) pa_nil)))
   (pss_cons (ps_set (i:=2) scHds.nd rfl (Or.inl rfl) (pe_op op_rep (@pe_lst _ _ _ _ (@pa_cst _ _ _ _ _ _ _ pe_non pa_nil)) (@pe_ix _ _ _ _ _ _ _ ix_tup (pvQ 0) pe_int (fun _ _=>rfl))))
   (pss_cons (ps_for PassesOwn.never rfl (pi_range1 rfl T.range (@pa_sub _ _ _ _ _ _ _ (@pe_ix _ _ _ _ _ _ _ ix_tup (pvQ 0) pe_int (fun _ _=>rfl)) pa_nil)) (pg_name (i:=3) scHds.nd rfl (Or.inl rfl))
    (pss_one (ps_if (pt_cmp (pc_isN (pe_ix ix_list (pvQ 2) (pvQ 3) (fun _ _=>rfl))))
     (pss_one (ps_expr (pe_call GS.ok hr rfl GS.mg GS.kp GS.bd .nil pass0 (@pa_nam _ _ _ _ _ _ (pvQ 1) (@pa_nam _ _ _ _ _ _ (pvQ 2) (@pa_nam _ _ _ _ _ _ (pvQ 3) pa_nil)))))) pss_nil)))
   (pss_one (ps_ret (pvQ 2))))),?_⟩
  refine⟨t,n,ties,rfl,W,ok,nb,fun b as H1 hb al B s1=>?_⟩
  have h1':=s1 _ _ h1
  refine⟨(by show 1<=sizeLine;decide),fun l hl=>⟨t,_,_,_,rfl,rfl,SqT.of ((Same.new hl) _ _ h1'),rfl,l,_,_,rfl,rfl,upd_same,by lia,by lia,by show 1 * _<=_;rw[sizeLine_eq];lia,fun p hp=>?_⟩⟩
  rw[show((n:Int)).toNat=n by lia,rep_non]
  have sl:=Same.new (o:=.lst [V.non]) hl
  have sp:=Same.new (o:=.lst ((List.replicate n (none:Option Int)).map oV)) hp
  have s2:=s1.trans (sl.trans sp)
  have hp1:H1 p=none:=sl.free hp
  have hp0:H p=none:=s1.free hp1
  have bp:b≠p:=fun z=>by rw[z,hp1]at hb;cases hb
  have pa:p∉as:=fun m=>by
   obtain⟨i,hi,e⟩:=zBT m
   obtain⟨cs,ec,_⟩:=B i hi
   rw[e,hp1]at ec
   cases ec
  have B2:=B.same (sl.trans sp)
  have hb2:=(sl.trans sp) _ _ hb
  have hpU:(upd (upd H1 l (.lst [V.non])) p (.lst ((List.replicate n (none:Option Int)).map oV))) p=_:=upd_same
  generalize (upd (upd H1 l (.lst [V.non])) p (.lst ((List.replicate n (none:Option Int)).map oV)))=H2 at s2 B2 hb2 hpU
  refine⟨t,_,_,_,rfl,rfl,SqT.of (s2 _ _ h1),rfl,_,rfl,by lia,by lia,?_⟩
  rw[show((n:Int)).toNat=n by lia]
  have at0:∀ v:Int,oAt (List.replicate n none) v=none:=fun v=>by
   unfold oAt
   rw[List.getElem?_replicate]
   split <;> rfl
  refine for_range (lo:=0) (n:=n) (fun i σ G=>∃ hv v3,σ=[some (.ref t),some (.ref b),some (.ref p),v3]/\G p=some (.lst (hv.map oV))/\HI n ties hv i/\Kept p H2 G) ⟨_,none,rfl,hpU,⟨List.length_replicate,fun a b w _=>(by rw[at0,at0]),fun v h _ _ e=>(by rw[at0]at e;cases e),fun v v0 v1=>absurd v1 (by lia)⟩,Kept.refl⟩ ?_ ?_
  ·rintro i σ G hi ⟨hv,v3,rfl,gp,S,kG⟩
   have il:i<hv.length:=by rw[S.len];exact hi
   rw[show(0:Int)+(i:Int)=(i:Int) by lia]
   refine⟨p,_,_,_,rfl,rfl,SqL.of gp,oV_get il,_,rfl,ite2 (fun hz=>?_) (fun hz=>?_)⟩
   ·have z:oAt hv i=none:=by
     cases e:oAt hv i with
     |none=>rfl
     |some y=>rw[e]at hz;exact absurd hz (by simp[oV])
    refine⟨b,p,as,n,i,ties,hv,rfl,kG _ _ bp hb2,al,B2.kept kG hpU pa,ok,nb,gp,S.len,bp,pa,hi,z,S.clo,fun hv' G' gp' D k'=>?_⟩
    exact⟨hv',_,rfl,gp',S.next ok hi D,kG.trans k'⟩
   ·have z:oAt hv i≠none:=fun e=>by rw[e]at hz;exact hz rfl
    exact⟨hv,_,rfl,gp,S.skip z,kG⟩
  ·rintro σ G ⟨hv,v3,rfl,gp,S,kG⟩
   obtain⟨hs,e,IH⟩:=S.fin
   subst e
   rw[zBD]at gp
   refine q p hs G hp0 gp IH fun u o e=>kG u o (ne_of_none e hp0) (s2 _ _ e)
end
end K63
namespace L2
open PySem PyProof.Rows
end L2
namespace K63
open PySem L2 PyProof.Rows
noncomputable def rest(ties:List Tie)(ks:List (List Int)):List Tie:=ties.filter fun x=>!decide (pairOf x∈ks)
theorem mem_rest{ties:List Tie}{ks:List (List Int)}{x:Tie}:x∈rest ties ks↔x∈ties/\pairOf x∉ks:=by
 unfold rest
 rw[zAL]
 simp
theorem inl_inj:∀ {a b:List Int},a.map (Sum.inl:Int->Key)=b.map Sum.inl->a=b
 |[],[],_=>rfl
 |[],_ :: _,h=>by cases h
 | _ :: _,[],h=>by cases h
 |i :: a,j :: b,h=>by
  simp only[zAB,List.cons.injEq,Sum.inl.injEq]at h
  rw[h.1,inl_inj h.2]
noncomputable def CutIn(K:PySem.W.Frag)(H:Hp)(c:Addr)(ks:List (List Int)):Prop:=∃ (b:Bool) (as:List Addr),SqB b K H c (as.map V.ref)/\TupsAt H as ks/\ks.length<=1000
inductive spWoutI(K:PySem.W.Frag)(vs:List V)(H:Hp)(Q:VK):Prop where
 |mk (t c:Addr) (n:Nat) (ties:List Tie) (ks:List (List Int)) (h1:vs=[.ref t,.ref c]) (h2:WebAt H t n ties) (h3:CutIn K H c ks) (h4:∀ (t':Addr) (H':Hp),H t'=none->Same H H'->WebAt H' t' n (rest ties ks)->Q (.ref t') H')
noncomputable def spWout(K:PySem.W.Frag):Sp:=fun vs H Q _=>spWoutI K vs H Q
section
variable{P:Program}{w:World}{K:PySem.W.Frag}{mg:Str->Option Value}{base:Heap}
noncomputable abbrev nWout:List Str:=["web","cut","many","ties","gone"]
theorem scWout:FnScope nWout ["web","cut"] (defScope sWithout):=⟨rfl,rfl,rfl,by decide +kernel,rfl,by decide +kernel,by decide +kernel⟩
theorem csWout1:CompScope ["pair"] [none] nWout (defScope sWithout) (scO [(".0",.local),("pair",.local)]):=⟨rfl,by decide +kernel,by decide +kernel,by decide +kernel,rfl,capB_ok (by decide +kernel)⟩
theorem ndWout1:(["pair"]:List Str).Nodup:=by decide +kernel
theorem csWout2:CompScope ["tie","gone"] [none,some 4] nWout (defScope sWithout) (scO [(".0",.local),("tie",.local),("gone",.free)]):=⟨rfl,by decide +kernel,by decide +kernel,by decide +kernel,rfl,capB_ok (by decide +kernel)⟩
theorem ndWout2:(["tie","gone"]:List Str).Nodup:=by decide +kernel
theorem ok_wout{f:Addr}{fd:FuncData}(F:Fun K "without" "without" sWithout f fd)(T:Txt mg):FnOk P w K mg base CX0 1 f fd ["web","cut"] (spWout K):=by
 refine F.ok scWout (fun vs H Q E h=>?_) (fun cdv A outer s H vs Q E hr h=>?_)
 ·obtain⟨t,c,n,ties,ks,rfl,_⟩:=h
  rfl
 ·obtain⟨t,c,n,ties,ks,rfl,W,⟨b,as,sc,tc,lk⟩,q⟩:=h
  obtain⟨⟨ts,bs,h1,h2,h3⟩,len⟩:=id W
  have h3l:bs.length=ties.length:=h3.length
  have hu:=hu_of hr
  have hu0:_<cLine:=hr.units0
  have ll:=tups_len tc
  refine⟨_,pss_cons (ps_asg (pvQ 0) (pg_tup (n:=2) rfl (pgs_cons (pg_name (i:=2) scWout.nd rfl (Or.inl rfl)) (pgs_cons (pg_name (i:=3) scWout.nd rfl (Or.inl rfl)) pgs_nil))))
   (pss_cons (ps_set (i:=4) scWout.nd rfl (Or.inr rfl) (pe_dcomp true hu0 rfl csWout1 (pi_seq b (pvQ 1)) (fun C s H fp=>pg_name (i:=0) ndWout1 rfl (Or.inl rfl)) (fun C s H fp=>pf_nil) (fun C s H fp=>pv 0) (fun C s H fp=>pe_bl)))
   (pss_one (ps_ret (@pe_tup _ _ _ _ _ (@pa_nam _ _ _ _ _ _ (pvQ 2) (@pa_call _ _ _ _ _ _ _ _ (pe_callTy call_tuple_of (by rfl) T.tuple boot_tuple (@pa_comp _ _ _ _ _ _ _ _ (pe_comp rfl csWout2 (pi_tup (pvQ 3)) (fun C s H fp=>pg_name (i:=0) ndWout2 rfl (Or.inl rfl))
    (fun C s H fp=>pf_one (pt_cmp (pc_dnotin hu (pe_slice (sl_tupK K rfl) (pvQ 0) po_none (po_some pe_int)) (pvQ 1)))) (fun C s H fp=>pv 0)) pa_nil)) pa_nil)))))),?_⟩
  refine⟨t,_,rfl,SqT.of h1,rfl,_,_,rfl,_,_,rfl,rfl,?_⟩
  refine⟨c,rfl,⟨_,sc⟩,fun D hD=>?_⟩
  refine dcomp_seq (b:=b) (K:=K) (a:=c) (xs:=as.map V.ref) (fun i G=>Same H G/\∃ kvs,G D=some (.dT kvs)/\kvs.length<=i/\∀ k:List Int,(valV kvs (k.map Sum.inl)).isSome=decide (k∈ks.take i)) ⟨Same.new hD,[],upd_same,zI _,fun k=>by simp[valV_nil]⟩ (fun i G _ z=>z.1.seqB sc) ?_ ?_
  ·rintro i x G hx ⟨sm,kvs,gD,kl,kv⟩
   obtain⟨il,e⟩:=zE.mp hx
   rw[zA]at il
   rw[zR]at e
   subst e
   have hk:i<ks.length:=by lia
   have a1:=sm _ _ (tups_at tc i il hk)
   refine⟨trivial,tTru_if ⟨_,rfl,_,DPut.t (k:=ks[i].map Sum.inl) gD (by rw[a1,zBD];rfl) (by rw[sizeLine_eq];lia),fun b o e=>?_,_,upd_same,?_,fun k=>?_⟩⟩
   ·rw[upd_ne (ne_of_none e hD)]
    exact sm _ _ e
   ·have:=length_putK kvs (ks[i].map Sum.inl) (V.bl true)
    lia
   ·rw[valV_put,zL hk]
    by_cases ek:k.map Sum.inl=ks[i].map (Sum.inl:Int->Key)
    ·rw[if_pos ek,inl_inj ek]
     exact(decide_eq_true (zM _ (zD.mpr rfl))).symm
    ·rw[if_neg ek,kv k]
     have nk:k≠ks[i]:=fun z=>ek (by rw[z])
     rw[zBB,decide_eq_true_eq,decide_eq_true_eq,zO,zD]
     exact⟨.inl,fun z=>z.resolve_right nk⟩
  ·rintro G ⟨sm,kvs,gD,kl,kv⟩
   rw[zAM (by rw[zA];lia)]at kv
   have h2G:=sm _ _ h2
   refine⟨ts,rfl,⟨_,SqT.of h2G⟩,?_⟩
   refine comp_tup (K:=K) (a:=ts) (xs:=bs.map V.ref) (fun i ys G2=>Same G G2/\∃ cs:List Addr,ys=cs.map V.ref/\Paired (fun a x=>G2 a=some (.tup (tieV x))) cs (rest (ties.take i) ks)) (by rw[zA,sizeLine_eq];lia) ⟨Same.refl _,[],rfl,.nil⟩ (fun i ys G2 _ z=>z.1.tupq (SqT.of h2G)) ?_ ?_
   ·rintro i x ys G2 hx ⟨sm2,cs,rfl,pc⟩
    obtain⟨il,e⟩:=zE.mp hx
    rw[zA]at il
    rw[zR]at e
    subst e
    have it:i<ties.length:=by lia
    have hx:=(sm.trans sm2) _ _ (Paired.at h3 i il it)
    refine⟨⟨rfl,trivial⟩,2,rfl,bs[i],_,rfl,SqT.of hx,(fun z=>absurd (show HT.sIx 3 3 (some 2)=3 from z.2) (by decide)),fun pp hpp=>⟨D,_,rfl,DGet.t (kvs:=kvs) (k:=(pairOf ties[i]).map Sum.inl) ((sm2.trans (Same.new hpp)) _ _ gD) (by rw[upd_same];rfl),_,rfl,?_⟩⟩
    have rs:rest (ties.take (i+1)) ks=rest (ties.take i) ks++(if pairOf ties[i]∈ks then []else [ties[i]]):=by
     unfold rest
     rw[zL it,zBJ]
     congr 1
     by_cases z:pairOf ties[i]∈ks <;> simp[z]
    rw[rs]
    rw[kv (pairOf ties[i])]
    have pc2:Paired (fun a x=>(upd G2 pp (.tup (cutV (tieV ties[i]) none (some 2)))) a=some (.tup (tieV x))) cs (rest (ties.take i) ks):=Paired.mapP pc fun a x e=>(Same.new hpp) _ _ e
    by_cases z:pairOf ties[i]∈ks
    ·rw[decide_eq_true z,if_pos z,zAU]
     exact iteF ⟨sm2.trans (Same.new hpp),cs,rfl,pc2⟩
    ·rw[decide_eq_false z,if_neg z]
     refine iteT ⟨_,rfl,sm2.trans (Same.new hpp),cs++[bs[i]],by rw[zJ];rfl,Paired.snoc pc2 ((Same.new hpp) _ _ hx)⟩
   ·rintro ys G2 yl ⟨sm2,cs,rfl,pc⟩ D2 hD2
    rw[zAM (by rw[zA,h3l];exact zI _)]at pc
    refine⟨D2,_,rfl,.inl ⟨SqL.of upd_same,fun ts2 hts2=>⟨(by show 2<=sizeLine;decide),fun t2 ht2=>?_⟩⟩⟩
    have s1:Same G2 (upd G2 D2 (.lst (cs.map V.ref))):=Same.new hD2
    have s2:Same (upd G2 D2 (.lst (cs.map V.ref))) (upd (upd G2 D2 (.lst (cs.map V.ref))) ts2 (.tup (cs.map V.ref))):=Same.new hts2
    have s3:=Same.new (o:=.tup [.int n,.ref ts2]) ht2
    refine q t2 _ ((sm.trans sm2).free (s1.free (s2.free ht2))) (sm.trans (sm2.trans (s1.trans (s2.trans s3)))) ⟨⟨ts2,cs,upd_same,s3 _ _ upd_same,Paired.mapP pc fun a x e=>s3 _ _ (s2 _ _ (s1 _ _ e))⟩,?_⟩
    have:(rest ties ks).length<=ties.length:=zBG _ _
    lia
end
noncomputable def apart(hs:List Int)(prs:List (Int×Int)):List Bool:=prs.map fun x=>!decide (hAt hs x.1=hAt hs x.2)
inductive spPPI(K:PySem.W.Frag)(vs:List V)(H:Hp)(Q:VK):Prop where
 |mk (t q c:Addr) (n:Nat) (ties:List Tie) (b:Bool) (as:List Addr) (prs:List (Int×Int)) (ks:List (List Int)) (h1:vs=[.ref t,.ref q,.ref c]) (h2:WebAt H t n ties) (h3:(∀ x∈ties,TieOk n x)) (h4:n<=1000) (h5:SqB b K H q (as.map V.ref)) (h6:Paired (PrAt H) as prs) (h7:prs.length<=1000) (h8:(∀ x∈prs,0<=x.1/\x.1<x.2/\x.2<n)) (h9:CutIn K H c ks) (h10:∀ (hs:List Int) (H':Hp),IsHeads n (rest ties ks) hs->Same H H'->Q (.bl ((apart hs prs).all id)) H')
noncomputable def spPP(K:PySem.W.Frag):Sp:=fun vs H Q _=>spPPI K vs H Q
section
variable{P:Program}{w:World}{K:PySem.W.Frag}{mg:Str->Option Value}{base:Heap}
noncomputable abbrev nPP:List Str:=["web","pairs","cut","heads"]
theorem scPP:FnScope nPP ["web","pairs","cut"] (defScope sPartsPairs):=⟨rfl,rfl,rfl,by decide +kernel,rfl,by decide +kernel,by decide +kernel⟩
theorem csPP:CompScope ["a","b","heads"] [none,none,some 3] nPP (defScope sPartsPairs) (scO [(".0",.local),("a",.local),("b",.local),("heads",.free)]):=⟨rfl,by decide +kernel,by decide +kernel,by decide +kernel,rfl,capB_ok (by decide +kernel)⟩
theorem ndPP:(["a","b","heads"]:List Str).Nodup:=by decide +kernel
theorem ok_pp{f g1 g2:Addr}{fd d1 d2:FuncData}(F:Fun K "parts_pairs" "parts_pairs" sPartsPairs f fd)(T2:Txt2 mg)(GO:CalF P w K mg base 1 "without" ["web","cut"] (spWout K) g1 d1)(GH:CalF P w K mg base 2 "heads_of" ["web"] spHds g2 d2):FnOk P w K mg base CX0 3 f fd ["web","pairs","cut"] (spPP K):=by
 refine F.ok scPP (fun vs H Q E h=>?_) (fun cdv A outer s H vs Q E hr h=>?_)
 ·obtain⟨t,q,c,n,ties,b,as,prs,ks,rfl,_⟩:=h
  rfl
 ·obtain⟨t,q,c,n,ties,b,as,prs,ks,rfl,W,ok,nb,sq,pr,pl,po,cu,fin⟩:=h
  have hr1:Room 1 _:=hr.mono (by decide)
  have lpr:as.length=prs.length:=pr.length
  refine⟨_,pss_cons (ps_set (i:=3) scPP.nd rfl (Or.inr rfl) (pe_call GH.ok hr rfl GH.mg GH.kp GH.bd .nil pass0 (@pa_call _ _ _ _ _ _ _ _ (pe_call GO.ok hr1 rfl GO.mg GO.kp GO.bd .nil pass0 (@pa_nam _ _ _ _ _ _ (pvQ 0) (@pa_nam _ _ _ _ _ _ (pvQ 2) pa_nil))) pa_nil)))
   (pss_one (ps_ret (pe_callB (call_all rfl) (by rfl) T2.all boot_all (@pa_comp _ _ _ _ _ _ _ _ (pe_comp rfl csPP (pi_seq b (pvQ 1)) (fun C s H fp=>pg_tupK K rfl (n:=2) rfl (pgs_cons (pg_name (i:=0) ndPP rfl (Or.inl rfl)) (pgs_cons (pg_name (i:=1) ndPP rfl (Or.inl rfl)) pgs_nil)) rfl rfl) (fun C s H fp=>pf_nil)
    (fun C s H fp=>pe_cmpR op_ne (pe_ix (ix_listH) (pvQ 2) (pvQ 0) (fun _ _=>rfl)) (pe_ix (ix_listH) (pvQ 2) (pvQ 1) (fun _ _=>rfl)) (nomark _))) pa_nil)))),?_⟩
  refine⟨t,c,n,ties,ks,rfl,W,cu,fun t' H1 ht' s1 W1=>?_⟩
  refine⟨t',n,rest ties ks,rfl,W1,fun x hx=>ok x (mem_rest.mp hx).1,nb,fun p hs H2 hp gp IH s2=>?_⟩
  have s12:=s1.trans s2
  have gi:∀ (j:Int),0<=j->j<n->atI (hs.map V.int) j=some (V.int (hAt hs j)):=fun j j0 j1=>by
   obtain⟨j,rfl⟩:∃ j':Nat,j=(j':Int):=⟨j.toNat,by lia⟩
   have jl:j<hs.length:=by rw[IH.len];lia
   exact atI_nat (by rw[zAD,zF jl,hAt_nat jl];rfl)
  refine⟨q,rfl,⟨_,s12.seqB sq⟩,?_⟩
  refine comp_seq (b:=b) (K:=K) (a:=q) (xs:=as.map V.ref) (fun i ys G=>G=H2/\ys=(apart hs (prs.take i)).map V.bl) (by rw[zA,sizeLine_eq];lia) ⟨rfl,rfl⟩ (fun i ys G _ z=>by rw[z.1];exact s12.seqB sq) ?_ ?_
  ·rintro i x ys G hx ⟨rfl,rfl⟩
   obtain⟨il,e⟩:=zE.mp hx
   rw[zA]at il
   rw[zR]at e
   subst e
   have ip:i<prs.length:=by lia
   have ha:=s12 _ _ (Paired.at pr i il ip)
   obtain⟨o1,o2,o3⟩:=po _ (zU ip)
   refine⟨as[i],_,rfl,SqT.of ha,rfl,_,_,rfl,_,_,rfl,rfl,⟨rfl,trivial⟩,tTru_if ?_⟩
   refine⟨p,_,_,_,rfl,rfl,gp,gi _ o1 (by lia),p,_,_,_,rfl,rfl,gp,gi _ (by lia) o3,rfl,?_⟩
   rw[zL ip]
   unfold apart
   rw[zJ,zJ]
   congr 1
   simp
  ·rintro ys G yl ⟨rfl,rfl⟩ D hD
   rw[zAM (by rw[zA];lia)]
   exact⟨D,_,rfl,SqL.of upd_same,fin hs _ IH (s12.trans (Same.new hD))⟩
end
end K63
namespace L2
open PySem PySem.W PyProof.Rows
theorem dcomp_tup'{K:PySem.W.Frag}{a D:Addr}{xs:List V}{cap:List (Option Nat)}{σ:St}{H1:Hp}{Q:VK}{g:TG}{tc:TT}{tk tv:TE}(P:Nat->Hp->Prop)(p0:P 0 H1)(hl:∀ i H,i<=xs.length->P i H->SqT K H a xs)
  (hs:∀ i x H,xs[i]?=some x->P i H->g x (capt cap σ) H fun σ2 H2=>Kp (capt cap σ) σ2/\tc σ2 H2 fun b H3=>if b=true then tk σ2 H3 fun k H4=>tv σ2 H4 fun y H5=>∃ H6,DPut H5 D k y H6/\P (i+1) H6 else P (i+1) H3)
  (hd:∀ H,P xs.length H->Q (.ref D) H):dcompTurns (Itt K a) cap σ H1 D Q g tc tk tv:=by
 refine⟨xs.length,P,p0,fun i H il p=>?_⟩
 have q:=hl i H il p
 by_cases hlt:i<xs.length
 ·refine .inr ⟨hlt,⟨xs,xs[i],q,by simp[hlt]⟩,fun x H' y=>?_⟩
  obtain⟨e,y⟩:=y
  subst e
  exact hs i x _ (y xs q) p
 ·have e:i=xs.length:=by lia
  subst e
  exact .inl ⟨⟨xs,q,by simp⟩,hd _ p⟩
end L2
namespace K63
open PySem L2 PyProof.Rows
noncomputable abbrev pairO(x:Tie):HO:=.tup [.int x.1,.int x.2.1]
noncomputable def PairT(H:Hp)(cs:List Addr)(ts:List Tie):Prop:=Paired (fun c x=>H c=some (pairO x)) cs ts
theorem PairT.same{H H':Hp}{cs:List Addr}{ts:List Tie}(h:PairT H cs ts)(s:Same H H'):PairT H' cs ts:=Paired.mapP h fun _ _ z=>s _ _ z
noncomputable def keyT(x:Tie):List Key:=[Sum.inl x.1,Sum.inl x.2.1]
inductive spTwI(vs:List V)(H:Hp)(Q:VK):Prop where
 |mk (t:Addr) (n:Nat) (ties:List Tie) (h1:vs=[.ref t]) (h2:WebAt H t n ties) (h3:ties.Pairwise tieLt) (h4:∀ (d:Addr) (kvs:List (List Key×V)) (H':Hp),H d=none->kvs.length<=ties.length->H' d=some (.dT kvs)->(∀ x∈ties,valV kvs (keyT x)=some (.int x.2.2))->Same H H'->Q (.ref d) H')
noncomputable def spTw:Sp:=fun vs H Q _=>spTwI vs H Q
inductive spWgI(vs:List V)(H:Hp)(Q:VK):Prop where
 |mk (t c:Addr) (n:Nat) (ties ts:List Tie) (as:List Addr) (h1:vs=[.ref t,.ref c]) (h2:WebAt H t n ties) (h3:ties.Pairwise tieLt) (h4:H c=some (.lst (as.map V.ref))) (h5:PairT H as ts) (h6:ts.length<=60) (h7:(∀ x∈ts,x∈ties)) (h8:∀ H',Same H H'->Q (.int (ts.map (·.2.2)).sum) H')
noncomputable def spWg:Sp:=fun vs H Q _=>spWgI vs H Q
section
variable{P:Program}{w:World}{K:PySem.W.Frag}{mg:Str->Option Value}{base:Heap}
noncomputable abbrev nTw:List Str:=["web"]
theorem scTw:FnScope nTw ["web"] (defScope sTieWeights):=⟨rfl,rfl,rfl,by decide +kernel,rfl,by decide +kernel,by decide +kernel⟩
theorem csTw1:CompScope ["a","b","weight"] [none,none,none] nTw (defScope sTieWeights) (scO [(".0",.local),("a",.local),("b",.local),("weight",.local)]):=⟨rfl,by decide +kernel,by decide +kernel,by decide +kernel,rfl,capB_ok (by decide +kernel)⟩
theorem ndTw1:(["a","b","weight"]:List Str).Nodup:=by decide +kernel
theorem ok_tw{f:Addr}{fd:FuncData}(F:Fun K "tie_weights" "tie_weights" sTieWeights f fd):FnOk P w K mg base CX0 1 f fd ["web"] spTw:=by
 refine F.ok scTw (fun vs H Q E h=>?_) (fun cdv A outer s H vs Q E hr h=>?_)
 ·obtain⟨t,n,ties,rfl,_⟩:=h
  rfl
 ·obtain⟨t,n,ties,rfl,W,pw,q⟩:=h
  obtain⟨⟨ts,as,h1,h2,h3⟩,len⟩:=id W
  have h3l:as.length=ties.length:=h3.length
  have hu0:_<cLine:=hr.units0
  refine⟨_,(pss_one (ps_ret (pe_dcomp true hu0 rfl csTw1 (pi_tup (@pe_ix _ _ _ _ _ _ _ ix_tupH (pv 0) pe_int (fun _ _=>rfl))) (fun C s H fp=>(pg_tupK K rfl (n:=3) rfl (pgs_cons (pg_name (i:=0) ndTw1 rfl (Or.inl rfl)) (pgs_cons (pg_name (i:=1) ndTw1 rfl (Or.inl rfl)) (pgs_cons (pg_name (i:=2) ndTw1 rfl (Or.inl rfl)) pgs_nil))) rfl rfl)) (fun C s H fp=>pf_nil) (fun C s H fp=>(@pe_tup _ _ _ _ _ (@pa_nam _ _ _ _ _ _ (pv 0) (@pa_nam _ _ _ _ _ _ (pv 1) pa_nil)))) (fun C s H fp=>(pv 2))))),?_⟩
  refine⟨_,rfl,t,_,_,_,rfl,rfl,h1,rfl,ts,rfl,⟨_,SqT.of h2⟩,fun D hD=>?_⟩
  refine dcomp_tup' (K:=K) (a:=ts) (xs:=as.map V.ref) (fun i G=>Same H G/\∃ kvs,G D=some (.dT kvs)/\kvs.length<=i/\∀ x∈ties.take i,valV kvs (keyT x)=some (.int x.2.2)) ⟨Same.new hD,[],upd_same,zI _,fun _ h=>nomatch h⟩ (fun i G _ z=>z.1.tupq (SqT.of h2)) ?_ ?_
  ·rintro i x G hx ⟨sm,kvs,gD,kl,kv⟩
   obtain⟨il,e⟩:=zE.mp hx
   rw[zA]at il
   rw[zR]at e
   subst e
   have it:i<ties.length:=by lia
   have hx:=sm _ _ (Paired.at h3 i il it)
   refine⟨as[i],_,rfl,SqT.of hx,rfl,_,_,rfl,_,_,rfl,_,_,rfl,rfl,trivial,tTru_if ⟨_,rfl,_,rfl,(by show 2<=sizeLine;decide),fun tp htp=>⟨_,rfl,?_⟩⟩⟩
   have sT:=Same.new (o:=pairO ties[i]) htp
   have gD2:=sT _ _ gD
   refine⟨_,DPut.t (k:=keyT ties[i]) gD2 upd_same (by rw[sizeLine_eq];lia),fun b o e=>?_,_,upd_same,?_,fun x hx=>?_⟩
   ·have n1:b≠D:=ne_of_none e hD
    rw[upd_ne n1]
    exact sT _ _ (sm _ _ e)
   ·have:=length_putK kvs (keyT ties[i]) (V.int ties[i].2.2)
    lia
   ·rw[valV_put]
    rw[zL it]at hx
    rcases zO.mp hx with hx | hx
    ·obtain⟨j,hj,e⟩:=zBT hx
     rw[zAH]at hj
     rw[List.getElem_take]at e
     have lt:=List.pairwise_iff_getElem.mp pw j i (by lia) it (by lia)
     rw[if_neg,kv x hx]
     intro z
     have z:keyT x=keyT ties[i]:=z
     rw[<- e]at z
     have z':([ties[j].1,ties[j].2.1]:List Int)=[ties[i].1,ties[i].2.1]:=by
      unfold keyT at z
      simp only[List.cons.injEq,Sum.inl.injEq,and_true]at z
      rw[z.1,z.2]
     unfold tieLt at lt
     rw[z']at lt
     have ir:∀ l:List Int,Srt.lexlt l l=false:=fun l=>by
      induction l with
      |nil=>rfl
      |cons a l ih=>simp[Srt.lexlt,ih]
     rw[ir]at lt
     cases lt
    ·have e:=zD.mp hx
     subst e
     rw[if_pos rfl]
  ·rintro G ⟨sm,kvs,gD,kl,kv⟩
   rw[zA,h3l]at kl
   rw[zA,h3l,zAF]at kv
   exact q D kvs G hD kl gD kv sm
noncomputable abbrev nWg:List Str:=["web","cut","weights"]
theorem scWg:FnScope nWg ["web","cut"] (defScope sWeightOf):=⟨rfl,rfl,rfl,by decide +kernel,rfl,by decide +kernel,by decide +kernel⟩
theorem csWg1:CompScope ["pair","weights"] [none,some 2] nWg (defScope sWeightOf) (scO [(".0",.local),("pair",.local),("weights",.free)]):=⟨rfl,by decide +kernel,by decide +kernel,by decide +kernel,rfl,capB_ok (by decide +kernel)⟩
theorem ndWg1:(["pair","weights"]:List Str).Nodup:=by decide +kernel
theorem ok_wg{f g:Addr}{fd gd:FuncData}(F:Fun K "weight_of" "weight_of" sWeightOf f fd)(T:Txt mg)(GT:CalF P w K mg base 1 "tie_weights" ["web"] spTw g gd):FnOk P w K mg base CX0 2 f fd ["web","cut"] spWg:=by
 refine F.ok scWg (fun vs H Q E h=>?_) (fun cdv A outer s H vs Q E hr h=>?_)
 ·obtain⟨t,c,n,ties,tt,as,rfl,_⟩:=h
  rfl
 ·obtain⟨t,c,n,ties,tt,as,rfl,W,pw,hc,pt,tl,sub,fin⟩:=h
  have hu:=hu_of hr
  have al:as.length=tt.length:=Paired.length pt
  refine⟨_,(pss_cons (ps_set (i:=2) scWg.nd rfl (Or.inr rfl) (pe_call GT.ok hr rfl GT.mg GT.kp GT.bd .nil pass0 (@pa_nam _ _ _ _ _ _ (pv 0) pa_nil)))
   (pss_one (ps_ret (pe_callB (call_sumH rfl) (by rfl) T.sum boot_sum (@pa_comp _ _ _ _ _ _ _ _ (pe_comp rfl csWg1 (pi_list (pv 1)) (fun C s H fp=>(pg_name (i:=0) ndWg1 rfl (Or.inl rfl))) (fun C s H fp=>pf_nil) (fun C s H fp=>(pe_dget hu (pv 1) (pv 0) (fun _ _=>rfl)))) pa_nil))))),?_⟩
  refine⟨_,rfl,t,n,ties,rfl,W,pw,fun d kvs H1 _ _ gd kv s1=>?_⟩
  refine⟨_,rfl,c,rfl,⟨_,SqL.of (s1 _ _ hc)⟩,?_⟩
  refine comp_list (K:=K) (a:=c) (xs:=as.map V.ref) (fun i ys G=>Same H1 G/\ys=((tt.take i).map (·.2.2)).map V.int) (by rw[zA,sizeLine_eq];lia) ⟨Same.refl _,rfl⟩ (fun i ys G _ z=>SqL.of (z.1 _ _ (s1 _ _ hc))) ?_ ?_
  ·rintro i x ys G hx ⟨sm,rfl⟩
   obtain⟨il,e⟩:=zE.mp hx
   rw[zA]at il
   rw[zR]at e
   subst e
   have it:i<tt.length:=by lia
   have a1:=(s1.trans sm) _ _ (Paired.at pt i il it)
   have g0:DGet G d (V.ref as[i]) (valV kvs (keyT tt[i])):=DGet.t (sm _ _ gd) a1
   rw[kv _ (sub _ (zU it))]at g0
   refine⟨⟨rfl,trivial⟩,tTru_if ⟨_,rfl,_,rfl,d,_,rfl,g0,sm,?_⟩⟩
   rw[zL it,zJ,zJ]
   rfl
  ·rintro ys G _ ⟨sm,rfl⟩ D hD
   rw[zA,al,zAF]
   exact⟨D,_,rfl,upd_same,fin _ (s1.trans (sm.trans (Same.new hD)))⟩
end
open PySem L2 PyProof.Rows
noncomputable def prT(u v:Int):Int×Int:=(if v<u then v else u,if v > u then v else u)
noncomputable def alg(way:List Int):List (Int×Int):=List.zipWith prT way (way.drop 1)
inductive spAlI(vs:List V)(H:Hp)(Q:VK):Prop where
 |mk (b:Bool) (w_:Addr) (way:List Int) (h1:vs=[.ref w_]) (h2:SIs b H w_ (way.map V.int)) (h3:way.length<=1000) (h4:∀ (l:Addr) (as:List Addr) (H':Hp),H' l=some (.lst (as.map V.ref))->Paired (PrAt H') as (alg way)->Same H H'->Q (.ref l) H')
noncomputable def spAl:Sp:=fun vs H Q _=>spAlI vs H Q
theorem cut1(xs:List V):cutV xs (some 1) none=xs.drop 1:=by
 cases xs with
 |nil=>rfl
 |cons x xs =>
  unfold cutV
  rw[show(1:Int)=((1:Nat):Int)from rfl,HT.sIx_nat,HT.sIx_none,zAN]
  rw[Nat.min_eq_left (by lia)]
  show(xs.take _)=xs
  exact zAM (by lia)
section
variable{P:Program}{w:World}{K:PySem.W.Frag}{mg:Str->Option Value}{base:Heap}
noncomputable abbrev nAl:List Str:=["way"]
theorem scAl:FnScope nAl ["way"] (defScope sTiesAlong):=⟨rfl,rfl,rfl,by decide +kernel,rfl,by decide +kernel,by decide +kernel⟩
theorem csAl1:CompScope ["one","other"] [none,none] nAl (defScope sTiesAlong) (scO [(".0",.local),("one",.local),("other",.local),("min",.globalImplicit),("max",.globalImplicit)]):=⟨rfl,by decide +kernel,by decide +kernel,by decide +kernel,rfl,capB_ok (by decide +kernel)⟩
theorem ndAl1:(["one","other"]:List Str).Nodup:=by decide +kernel
theorem ok_al{f:Addr}{fd:FuncData}(F:Fun K "ties_along" "ties_along" sTiesAlong f fd)(T:Txt mg)(T2:Txt2 mg):FnOk P w K mg base CX0 1 f fd ["way"] spAl:=by
 refine F.ok scAl (fun vs H Q E h=>?_) (fun cdv A outer s H vs Q E hr h=>?_)
 ·obtain⟨b,w_,way,rfl,_⟩:=h
  rfl
 ·obtain⟨b,w_,way,rfl,gw,wl,fin⟩:=h
  refine⟨_,(pss_one (ps_ret (pe_comp rfl csAl1 (pi_zip b b (by rfl) T2.zip (@pa_nam _ _ _ _ _ _ (pv 0) (@pa_sub _ _ _ _ _ _ _ (pe_slice (sl_B b) (pv 0) (po_some pe_int) po_none) pa_nil))) (fun C s H fp=>(pg_tupK K rfl (n:=2) rfl (pgs_cons (pg_name (i:=0) ndAl1 rfl (Or.inl rfl)) (pgs_cons (pg_name (i:=1) ndAl1 rfl (Or.inl rfl)) pgs_nil)) rfl rfl)) (fun C s H fp=>pf_nil) (fun C s H fp=>(@pe_tup _ _ _ _ _ (@pa_call _ _ _ _ _ _ _ _ (pe_callB (call_min2 rfl) (by rfl) T.min boot_min (@pa_nam _ _ _ _ _ _ (pv 0) (@pa_nam _ _ _ _ _ _ (pv 1) pa_nil))) (@pa_call _ _ _ _ _ _ _ _ (pe_callB (call_max2 rfl) (by rfl) T.max boot_max (@pa_nam _ _ _ _ _ _ (pv 0) (@pa_nam _ _ _ _ _ _ (pv 1) pa_nil))) pa_nil))))))),?_⟩
  refine⟨_,rfl,_,rfl,_,rfl,w_,_,rfl,gw,fun c H1 sc s2=>?_⟩
  rw[cut1,<- List.map_drop]at s2
  have s1:SIs b H1 w_ (way.map V.int):=gw.same sc
  have mnl:min (way.map V.int).length ((way.drop 1).map V.int).length=(alg way).length:=by
   unfold alg
   rw[zA,zA,zAR]
  have all:(alg way).length<=1000:=by unfold alg;rw[zAR];lia
  refine⟨w_,c,rfl,⟨_,s1.sqB⟩,⟨_,s2.sqB⟩,?_⟩
  refine comp_zip (K:=K) (b1:=b) (b2:=b) (l1:=w_) (l2:=c) (xs:=way.map V.int) (ys:=(way.drop 1).map V.int) (fun i zs G=>Same H1 G/\∃ cs:List Addr,zs=cs.map V.ref/\Paired (PrAt G) cs ((alg way).take i)) (by rw[mnl,sizeLine_eq];lia) ⟨Same.refl _,[],rfl,.nil⟩ (fun i zs G _ z=>⟨(s1.same z.1).sqB,(s2.same z.1).sqB⟩) ?_ ?_
  ·rintro i x y zs G T' hx hy ⟨sG,cs,rfl,pc⟩ hT
   obtain⟨il,ex⟩:=zE.mp hx
   obtain⟨il',ey⟩:=zE.mp hy
   rw[zA]at il il'
   rw[zR]at ex ey
   subst ex ey
   have ia:i <(alg way).length:=by unfold alg;rw[zAR];lia
   have ea:(alg way)[i]=prT way[i] (way.drop 1)[i]:=List.getElem_zipWith (f:=prT) (l:=way) (l':=way.drop 1) (i:=i) (h:=ia)
   rw[zL ia,ea]
   generalize way[i]=u at *
   generalize (way.drop 1)[i]=v at *
   have sT:=Same.new (o:=.tup [.int u,.int v]) hT
   refine⟨T',_,rfl,SqT.of upd_same,rfl,_,_,rfl,_,_,rfl,rfl,trivial,tTru_if ?_⟩
   refine⟨_,rfl,_,rfl,_,_,rfl,_,rfl,_,rfl,_,_,rfl,(by show 2<=sizeLine;decide),fun a ha=>?_⟩
   have sa:=Same.new (o:=.tup [.int (prT u v).1,.int (prT u v).2]) ha
   exact⟨sG.trans (sT.trans sa),cs++[a],by rw[zJ];rfl,Paired.snoc (Paired.mapP pc fun _ _ h=>sa _ _ (sT _ _ h)) upd_same⟩
  ·rintro zs G _ ⟨sG,cs,rfl,pc⟩ D hD
   rw[mnl,zAF]at pc
   have sD:=Same.new (o:=.lst (cs.map V.ref)) hD
   exact fin D cs _ upd_same (Paired.mapP pc fun _ _ h=>sD _ _ h) (sc.trans (sG.trans sD))
end
end K63
namespace L2
open PySem PySem.W PyProof.Rows
noncomputable def tDispK(tk tv:TE):TE:=fun σ H Q=>∀ p,H p=none->tk σ (upd H p (.dK [])) fun x H1=>tv σ H1 fun y H2=>∃ H3,DPut H2 p x y H3/\Q (.ref p) H3
section
variable{X:Cx}
theorem pe_dispK{k v:Expr}{tk tv:TE}{pos:Pos}(hu:X.A.units<cLine)(hk:PE X k tk)(hv:PE X v tv):PE X (.Dict [some k] [v] pos) (tDispK tk tv):=by
 intro pins s σ H Q I q
 have hn:=I.hok.fresh (zI s.heap.objs.size)
 have I1:=I.laid (a:=s.heap.objs.size) (o:=.dK []) (h':=s.heap.push { cls:=.type "dict",data:=.dict #[] }) (t':=s.toks) (fun _ _ q=>zC _ q) (zI _) (dk_empty s.heap I.big)
 rw[arm_eval_Dict,zip_pairTrees [some k] [v] X.env pos rfl rfl,dictDisplay_pairs (pairTrees [some k] [v] X.env pos) (by intro z;have:=congrArg List.length z;rw[pairTrees_length [some k] [v] X.env pos rfl rfl]at this;cases this) (by rw[pairTrees_length [some k] [v] X.env pos rfl rfl];show 1<17;decide)]
 refine zB (wpAny_standAt (zB ?_))
 unfold subDict;refine zB (wpAny_alloc (zB (wpAny_holding ?_)))
 rw[if_pos (by rw[pairTrees_length [some k] [v] X.env pos rfl rfl];show 1<=15;decide)]
 refine zB (pairTrees_cons_walk (thn (hk pins _ σ _ _ I1 (q _ hn)) fun u s1 ⟨x,H1,I1',rx,q1⟩=>thn (hv pins s1 σ H1 _ I1' q1) fun w2 s2 ⟨y,H2,I2,ry,H3,dp,q2⟩=>pairTrees_nil_walk ?_))
 refine wpAny_holding (zB ?_)
 simp only[List.forIn_cons,List.forIn_nil]
 refine zB (zB (d_set hu I2 dp rx ry fun s' I3=>zH ?_))
 refine zH (zH (zH (zH ⟨.ref s.heap.objs.size,H3,I3,rfl,q2⟩)))
end
open PySem PySem.W PyProof.Rows Srt
end L2
namespace K63
open PySem L2 PyProof.Rows
noncomputable def dkv(D:List Int)(ad:Int->Addr):List (Key×V):=D.map fun v=>(Sum.inl v,V.ref (ad v))
theorem dkv_val{D:List Int}{ad:Int->Addr}{v:Int}:valV (dkv D ad) (Sum.inl v)=if v∈D then some (V.ref (ad v))else none:=by
 induction D with
 |nil=>rfl
 |cons a D ih =>
  unfold valV dkv at *
  rw[zAB,zBO]
  by_cases e:a=v
  ·have:decide ((Sum.inl a:Key)=Sum.inl v)=true:=decide_eq_true (by rw[e])
   rw[this,if_pos (by rw[e];exact zS ..),e]
   rfl
  ·have:decide ((Sum.inl a:Key)=Sum.inl v)=false:=decide_eq_false (fun z=>e (by injection z))
   rw[this]
   show Option.map _ _=_
   rw[ih]
   by_cases z:v∈D
   ·rw[if_pos z,if_pos (zQ _ z)]
   ·rw[if_neg z,if_neg (fun y=>by
     rcases zT.mp y with y | y
     ·exact e y.symm
     ·exact z y)]
theorem dkv_put{D:List Int}{ad:Int->Addr}{v:Int}{a:Addr}(h:v∉D):putK (dkv D ad) (Sum.inl v) (.ref a)=dkv (D++[v]) fun u=>if u=v then a else ad u:=by
 have e:((dkv D ad).any fun x=>decide (x.1=(Sum.inl v:Key)))=false:=by
  rw[List.any_eq_false]
  intro x hx z
  obtain⟨u,hu,rfl⟩:=zAA.mp hx
  have:=of_decide_eq_true z
  injection this with this
  exact h (this▸hu)
 unfold putK
 rw[e,if_neg zN]
 unfold dkv
 rw[zJ]
 congr 1
 ·refine zBS fun u hu=>?_
  show _=(Sum.inl u,V.ref (if u=v then a else ad u))
  rw[if_neg (fun(z:u=v)=>h (z▸hu))]
 ·show _=[(Sum.inl v,V.ref (if v=v then a else ad v))]
  rw[if_pos rfl]
theorem dkv_old{D:List Int}{ad:Int->Addr}{v:Int}{a:Addr}(h:v∈D):putK (dkv D ad) (Sum.inl v) (.ref a)=dkv D fun u=>if u=v then a else ad u:=by
 have e:((dkv D ad).any fun x=>decide (x.1=(Sum.inl v:Key)))=true:=by
  rw[List.any_eq_true]
  exact⟨(Sum.inl v,V.ref (ad v)),zAA.mpr ⟨v,h,rfl⟩,decide_eq_true rfl⟩
 unfold putK
 rw[if_pos e]
 unfold dkv
 rw[zBD]
 refine zBS fun u _=>?_
 show(if(Sum.inl u:Key)=Sum.inl v then((Sum.inl u:Key),V.ref a)else(Sum.inl u,V.ref (ad u)))=(Sum.inl u,V.ref (if u=v then a else ad u))
 by_cases z:u=v
 ·rw[z,if_pos rfl,if_pos rfl]
 ·rw[if_neg (fun y=>z (Sum.inl.inj y)),if_neg z]
theorem nodup_le{α:Type}[DecidableEq α]:∀ {l m:List α},l.Nodup->(∀ x∈l,x∈m)->l.length<=m.length
 |[],_,_,_=>zAQ _
 |f :: l,m,nd,h=>by
  rw[zBN]at nd
  have hf:=h f (zS ..)
  have:=nodup_le (m:=m.erase f) nd.2 fun g hg=>(List.mem_erase_of_ne (fun(e:g=f)=>nd.1 (by rw[<- e];exact hg))).mpr (h g (zQ _ hg))
  rw[List.length_erase_of_mem hf]at this
  have p:=List.length_pos_of_mem hf
  rw[zAN]
  omega
inductive Pth(ties:List Tie)(s:Int):Int->List Int->Prop
 |one:Pth ties s s [s]
 |more {u v w:Int}{l:List Int}:Pth ties s u l->(v,w)∈besideOf ties u->Pth ties s v (l++[v])
theorem alg_snoc(l:List Int)(u v:Int):alg ((l++[u])++[v])=alg (l++[u])++[prT u v]:=by
 induction l with
 |nil=>rfl
 |cons a l ih =>
  cases l with
  |nil=>rfl
  |cons b l =>
   show prT a b :: alg (((b :: l)++[u])++[v])=(prT a b :: alg ((b :: l)++[u]))++[prT u v]
   rw[ih]
   rfl
theorem Pth.last{ties:List Tie}{s u:Int}{l:List Int}(h:Pth ties s u l):∃ l',l=l'++[u]:=by
 cases h with
 |one=>exact⟨[],rfl⟩
 |more _ _=>exact⟨_,rfl⟩
noncomputable def cst(ks:List (List Int))(p:Int×Int):Int:=if [p.1,p.2]∈ks then 0 else 1
noncomputable def lc(ks:List (List Int))(l:List Int):Int:=((alg l).map (cst ks)).sum
theorem cst_01(ks:List (List Int))(p:Int×Int):0<=cst ks p/\cst ks p<=1:=by unfold cst;split <;> lia
theorem lc_more{ties:List Tie}{s u v:Int}{l:List Int}(ks:List (List Int))(h:Pth ties s u l):lc ks (l++[v])=lc ks l+cst ks (prT u v):=by
 obtain⟨l',rfl⟩:=h.last
 unfold lc
 rw[alg_snoc,zJ,List.sum_append]
 show _+(cst ks (prT u v)+0)=_
 rw[Int.add_zero]
noncomputable abbrev Lab:=Int->Int×List Int
noncomputable def pot(n:Nat)(Ks:List Int)(f:Lab)(i:Nat):Nat:=if(i:Int)∈Ks then(f i).1.toNat else n+1
noncomputable def phi(n:Nat)(Ks:List Int)(f:Lab):Nat:=((List.range n).map (pot n Ks f)).sum
theorem sum_le{g g':Nat->Nat}:∀ l:List Nat,(∀ i∈l,g' i<=g i)->(l.map g').sum<=(l.map g).sum
 |[],_=>zI _
 |a :: l,h=>by
  have:=sum_le l fun i hi=>h i (zQ _ hi)
  have:=h a zS
  rw[zAB,zAB,List.sum_cons,List.sum_cons]
  lia
theorem sum_lt{g g':Nat->Nat}{j:Nat}:∀ l:List Nat,(∀ i∈l,g' i<=g i)->j∈l->g' j<g j->(l.map g').sum <(l.map g).sum
 |a :: l,h,hj,lt=>by
  rw[zAB,zAB,List.sum_cons,List.sum_cons]
  have ha:=h a zS
  rcases zT.mp hj with e | e
  ·subst e
   have:=sum_le l fun i hi=>h i (zQ _ hi)
   lia
  ·have:=sum_lt l (fun i hi=>h i (zQ _ hi)) e lt
   lia
theorem phi_le(n:Nat)(Ks:List Int)(f:Lab)(h:∀ v∈Ks,(f v).1<=n):phi n Ks f<=n * (n+1):=by
 unfold phi
 refine zAC (sum_le (g:=fun _=>n+1) (List.range n) fun i _=>?_) ?_
 ·unfold pot
  by_cases z:(i:Int)∈Ks
  ·rw[if_pos z]
   have:=h _ z
   lia
  ·rw[if_neg z]
   exact zI _
 ·have:∀ l:List Nat,(l.map fun _=>n+1).sum=l.length * (n+1):=fun l=>by
   induction l with
   |nil=>simp
   |cons a l ih=>rw[zAB,List.sum_cons,ih,zAN,Nat.succ_mul];lia
  rw[this,zBM]
  exact zI _
structure Wf(ks:List (List Int))(n:Nat)(ties:List Tie)(s:Int)(Ks Wt:List Int)(f:Lab):Prop where
 nd:Ks.Nodup
 rg:∀ v∈Ks,0<=v/\v<n
 st:s∈Ks
 pth:∀ v∈Ks,Pth ties s v (f v).2
 low:∀ v∈Ks,0<=(f v).1
 hi:∀ v∈Ks,(f v).1<Ks.length
 wt:∀ v∈Wt,v∈Ks
 len:∀ v∈Ks,(f v).2.length+phi n Ks f<=n * (n+1)+1
 sim:∀ v∈Ks,(f v).2.Nodup/\∀ u∈(f v).2,u∈Ks/\(f u).1<=(f v).1
 cnt:∀ v∈Ks,(f v).1=lc ks (f v).2
 s0:(f s).1<=0
noncomputable def put1(f:Lab)(v:Int)(x:Int×List Int):Lab:=fun u=>if u=v then x else f u
noncomputable def add1(Ks:List Int)(v:Int):List Int:=if v∈Ks then Ks else Ks++[v]
theorem mem_add1{Ks:List Int}{v u:Int}:u∈add1 Ks v↔u∈Ks\/u=v:=by
 unfold add1
 by_cases z:v∈Ks
 ·rw[if_pos z]
  exact⟨.inl,fun h=>h.elim id fun e=>e▸z⟩
 ·rw[if_neg z,zO,zD]
section
variable{ks:List (List Int)}{n:Nat}{ties:List Tie}{s:Int}{Ks Wt:List Int}{f:Lab}
theorem Wf.klen(w:Wf ks n ties s Ks Wt f):Ks.length<=n:=by
 have h1:∀ x∈Ks,x∈(List.range n).map fun(i:Nat)=>(i:Int):=fun x hx=>by
  have:=w.rg x hx
  exact zAA.mpr ⟨x.toNat,zAW.mpr (by omega),by lia⟩
 have:=nodup_le w.nd h1
 rw[zA,zBM]at this
 exact this
theorem Wf.put(w:Wf ks n ties s Ks Wt f)(ok:∀ x∈ties,TieOk n x){p far wg m:Int}(hp:p∈Ks)(hx:(far,wg)∈besideOf ties p)(hm:m=(f p).1+cst ks (prT p far))(new:far∉Ks\/m <(f far).1) :
  Wf ks n ties s (add1 Ks far) (Wt++[far]) (put1 f far (m,(f p).2++[far]))/\phi n (add1 Ks far) (put1 f far (m,(f p).2++[far]))+1<=phi n Ks f/\far≠p/\0<=far/\far<n:=by
 have c01:=cst_01 ks (prT p far)
 have m0:0<=m:=by have:=w.low p hp;lia
 have m1:m<=(f p).1+1:=by lia
 have m2:(f p).1<=m:=by lia
 have rgf:0<=far/\far<n/\far≠p:=by
  rcases(mem_beside ok).mp hx with h | h
  ·obtain⟨o1,o2,o3,_⟩:=ok _ h
   have o2:p<far:=o2
   have o1:0<=p:=o1
   exact⟨by lia,o3,by lia⟩
  ·obtain⟨o1,o2,o3,_⟩:=ok _ h
   have o2:far<p:=o2
   have o3:p <(n:Int):=o3
   exact⟨o1,by lia,by lia⟩
 obtain⟨f0,f1,fp⟩:=rgf
 have kl:=w.klen
 have hip:=w.hi p hp
 have le:∀ i∈List.range n,pot n (add1 Ks far) (put1 f far (m,(f p).2++[far])) i<=pot n Ks f i:=fun i _=>by
  unfold pot put1
  by_cases e:(i:Int)=far
  ·rw[if_pos (mem_add1.mpr (.inr e)),if_pos e]
   by_cases z:(i:Int)∈Ks
   ·rw[if_pos z]
    have:=new.resolve_left fun y=>y (e▸z)
    rw[e]
    show m.toNat<=_
    lia
   ·rw[if_neg z]
    show m.toNat<=_
    lia
  ·by_cases z:(i:Int)∈Ks
   ·rw[if_pos (mem_add1.mpr (.inl z)),if_neg e,if_pos z]
    exact zI _
   ·rw[if_neg (fun y=>(mem_add1.mp y).elim z e),if_neg z]
    exact zI _
 have lt:phi n (add1 Ks far) (put1 f far (m,(f p).2++[far]))<phi n Ks f:=by
  refine sum_lt (j:=far.toNat) _ le (zAW.mpr (by lia)) ?_
  have e:((far.toNat:Nat):Int)=far:=by lia
  unfold pot put1
  rw[e,if_pos (mem_add1.mpr (.inr rfl)),if_pos rfl]
  by_cases z:far∈Ks
  ·rw[if_pos z]
   have:=new.resolve_left fun y=>y z
   show m.toNat<_
   lia
  ·rw[if_neg z]
   show m.toNat<_
   lia
 have al:Ks.length<=(add1 Ks far).length/\m <(add1 Ks far).length:=by
  unfold add1
  by_cases z:far∈Ks
  ·rw[if_pos z]
   have:=new.resolve_left fun y=>y z
   have:=w.hi far z
   omega
  ·rw[if_neg z,zK,zX]
   lia
 have at_:∀ v,v≠far->put1 f far (m,(f p).2++[far]) v=f v:=fun v z=>if_neg z
 have at0:put1 f far (m,(f p).2++[far]) far=(m,(f p).2++[far]):=if_pos rfl
 refine⟨⟨?_,fun v hv=>?_,mem_add1.mpr (.inl w.st),fun v hv=>?_,fun v hv=>?_,fun v hv=>?_,fun v hv=>?_,fun v hv=>?_,fun v hv=>?_,fun v hv=>?_,?_⟩,lt,fp,f0,f1⟩
 ·unfold add1
  by_cases z:far∈Ks
  ·rw[if_pos z];exact w.nd
  ·rw[if_neg z]
   exact zAV.mpr ⟨w.nd,zAK _ _,fun a ha b hb e=>z (by rw[<- zD.mp hb,<- e];exact ha)⟩
 ·rcases mem_add1.mp hv with h | h
  ·exact w.rg v h
  ·rw[h];exact⟨f0,f1⟩
 ·by_cases e:v=far
  ·rw[e,at0]
   exact .more (w.pth p hp) hx
  ·rw[at_ v e]
   exact w.pth v ((mem_add1.mp hv).resolve_right e)
 ·by_cases e:v=far
  ·rw[e,at0];exact m0
  ·rw[at_ v e]
   exact w.low v ((mem_add1.mp hv).resolve_right e)
 ·by_cases e:v=far
  ·rw[e,at0];exact al.2
  ·rw[at_ v e]
   have:=w.hi v ((mem_add1.mp hv).resolve_right e)
   lia
 ·rcases zO.mp hv with h | h
  ·exact mem_add1.mpr (.inl (w.wt v h))
  ·exact mem_add1.mpr (.inr (zD.mp h))
 ·by_cases e:v=far
  ·rw[e,at0]
   have:=w.len p hp
   show((f p).2++[far]).length+_<=_
   rw[zK,zX]
   lia
  ·rw[at_ v e]
   have:=w.len v ((mem_add1.mp hv).resolve_right e)
   lia
 ·have far_low:∀ v∈Ks,far∈(f v).2->m <(f v).1:=fun v hv h=>by
   obtain⟨h1,h2⟩:=(w.sim v hv).2 far h
   have:=new.resolve_left fun y=>y h1
   lia
  by_cases e:v=far
  ·rw[e,at0]
   obtain⟨s1,s2⟩:=w.sim p hp
   have nf:far∉(f p).2:=fun h=>by have:=far_low p hp h;lia
   refine⟨zAV.mpr ⟨s1,zAK _ _,fun a ha b hb z=>nf (by rw[<- zD.mp hb,<- z];exact ha)⟩,fun u hu=>?_⟩
   rcases zO.mp hu with h | h
   ·obtain⟨h1,h2⟩:=s2 u h
    rw[at_ u fun z=>nf (z▸h)]
    exact⟨mem_add1.mpr (.inl h1),by show(f u).1<=m;lia⟩
   ·rw[zD.mp h,at0]
    exact⟨mem_add1.mpr (.inr rfl),zAZ _⟩
  ·have hv:=(mem_add1.mp hv).resolve_right e
   obtain⟨s1,s2⟩:=w.sim v hv
   rw[at_ v e]
   refine⟨s1,fun u hu=>?_⟩
   by_cases eu:u=far
   ·rw[eu,at0]
    have:=far_low v hv (eu▸hu)
    exact⟨mem_add1.mpr (.inr rfl),by show m<=_;lia⟩
   ·rw[at_ u eu]
    exact⟨mem_add1.mpr (.inl (s2 u hu).1),(s2 u hu).2⟩
 ·by_cases e:v=far
  ·rw[e,at0]
   show m=lc ks ((f p).2++[far])
   rw[lc_more ks (w.pth p hp),<- w.cnt p hp]
   exact hm
  ·rw[at_ v e]
   exact w.cnt v ((mem_add1.mp hv).resolve_right e)
 ·have ne:s≠far:=fun z=>by
   have:=new.resolve_left fun y=>y (z▸w.st)
   have:=w.s0
   rw[z]at this
   lia
  rw[at_ s ne]
  exact w.s0
theorem Wf.least(w:Wf ks n ties s Ks Wt f)(cl:∀ u∈Ks,∀ x∈besideOf ties u,x.1∈Ks/\(f x.1).1<=(f u).1+cst ks (prT u x.1)){v:Int}{l:List Int}(h:Pth ties s v l):v∈Ks/\(f v).1<=lc ks l:=by
 induction h with
 |one=>exact⟨w.st,w.s0⟩
 | @more u v wg l hp hb ih =>
  obtain⟨h1,h2⟩:=cl u ih.1 (v,wg) hb
  have h2:(f v).1<=(f u).1+cst ks (prT u v):=h2
  rw[lc_more ks hp]
  exact⟨h1,by lia⟩
theorem Wf.all(w:Wf ks n ties s Ks Wt f)(ok:∀ x∈ties,TieOk n x)(cl:∀ u∈Ks,∀ x∈besideOf ties u,x.1∈Ks){v:Int}(r:Rch ties s v):v∈Ks:=by
 have key:∀ a b:Int,Rch ties a b->a∈Ks->b∈Ks:=fun a b r=>by
  induction r with
  |refl=>exact id
  | @up a b c wg m _ ih=>exact fun h=>ih (cl a h (b,wg) ((mem_beside ok).mpr (.inl m)))
  | @dn a b c wg m _ ih=>exact fun h=>ih (cl b h (a,wg) ((mem_beside ok).mpr (.inr m)))
 exact key s v r w.st
theorem Wf.start(s0:0<=s)(s1:s<n):Wf ks n ties s [s] [s] (fun _=>(0,[s])):=by
 refine⟨zAK _ _,fun v hv=>?_,zD.mpr rfl,fun v hv=>?_,fun v hv=>zAZ _,fun v hv=>?_,fun v hv=>hv,fun v hv=>?_,fun v hv=>⟨zAK _ _,fun u hu=>⟨hu,zAZ _⟩⟩,fun v hv=>rfl,zAZ _⟩
 ·rw[zD.mp hv];exact⟨s0,s1⟩
 ·rw[zD.mp hv];exact .one
 ·show(0:Int) <((1:Nat):Int);decide
 ·have:=phi_le n [s] (fun _=>(0,[s])) fun v _=>by show(0:Int)<=n;lia
  show 1+_<=_
  lia
end
open PySem L2 PyProof.Rows
theorem same_put{H G:Hp}{c:Addr}{o:HO}(s:Same H G)(h:H c=none):Same H (upd G c o):=fun b u e=>by
 rw[upd_ne (ne_of_none e h)]
 exact s _ _ e
theorem at0{x:V}{r:List V}:atI (x :: r) 0=some x:=atI_nat (j:=0) rfl
noncomputable def WyA(H G:Hp)(Ks:List Int)(av lv:Int->Addr)(f:Lab):Prop:=∀ v∈Ks,G (av v)=some (.tup [.int (f v).1,.ref (lv v)])/\G (lv v)=some (.lst ((f v).2.map V.int))/\H (lv v)=none
theorem WyA.same{H G G':Hp}{Ks:List Int}{av lv:Int->Addr}{f:Lab}(h:WyA H G Ks av lv f)(s:Same G G'):WyA H G' Ks av lv f:=fun v hv=>⟨s _ _ (h v hv).1,s _ _ (h v hv).2.1,(h v hv).2.2⟩
inductive spWfI(vs:List V)(H:Hp)(Q:VK):Prop where
 |mk (b k:Addr) (s:Int) (n:Nat) (ties:List Tie) (as kas:List Addr) (ks:List (List Int)) (h1:vs=[.ref b,.ref k,.int s]) (h2:H b=some (.lst (as.map V.ref))) (h3:as.length=n) (h4:BesAt H as ties) (h5:(∀ x∈ties,TieOk n x)) (h6:ties.length<=60) (h7:n<=8) (h8:H k=some (.lst (kas.map V.ref))) (h9:TupsAt H kas ks) (h10:0<=s) (h11:s<n) (h12:∀ (d:Addr) (Ks:List Int) (av lv:Int->Addr) (f:Lab) (H':Hp),H' d=some (.dK (dkv Ks av))->WyA H H' Ks av lv f->(∀ v∈Ks,Pth ties s v (f v).2/\((f v).2.length<=100/\(f v).2.Nodup)/\(f v).1=lc ks (f v).2)->(∀ v l,Pth ties s v l->v∈Ks/\(f v).1<=lc ks l)->(∀ v,Rch ties s v->v∈Ks)->Same H H'->Q (.ref d) H')
noncomputable def spWf:Sp:=fun vs H Q _=>spWfI vs H Q
noncomputable def WfI(ks:List (List Int))(H:Hp)(b k d wl:Addr)(s:Int)(n:Nat)(ties:List Tie)(m:Nat)(σ:L2.St)(G:Hp):Prop:=Ex11 fun(Ks Wt:List Int) (av lv:Int->Addr) (f:Lab) (v5 v6 v7 v8 v9 v10:Option V)=>m=2 * phi n Ks f+Wt.length/\2 * phi n Ks f+Wt.length<=200/\σ=[some (.ref b),some (.ref k),some (.int s),some (.ref d),some (.ref wl),v5,v6,v7,v8,v9,v10]/\Same H G/\G d=some (.dK (dkv Ks av))/\G wl=some (.lst (Wt.map V.int))/\WyA H G Ks av lv f/\(∀ v∈Ks,lv v≠wl)/\Wf ks n ties s Ks Wt f/\∀ u∈Ks,u∉Wt->∀ x∈besideOf ties u,x.1∈Ks/\(f x.1).1<=(f u).1+cst ks (prT u x.1)
structure InS(ks:List (List Int))(H:Hp)(d wl lp:Addr)(s p:Int)(fp:Int×List Int)(n:Nat)(ties:List Tie)(j:Nat)(Ks Wt:List Int)(av lv:Int->Addr)(f:Lab)(G:Hp):Prop where
 same:Same H G
 gd:G d=some (.dK (dkv Ks av))
 gw:G wl=some (.lst (Wt.map V.int))
 wy:WyA H G Ks av lv f
 lvw:∀ v∈Ks,lv v≠wl
 w:Wf ks n ties s Ks Wt f
 cl:∀ u∈Ks,u∉Wt->u≠p->∀ x∈besideOf ties u,x.1∈Ks/\(f x.1).1<=(f u).1+cst ks (prT u x.1)
 pK:p∈Ks
 fpe:f p=fp
 glp:G lp=some (.lst (fp.2.map V.int))
 lpw:lp≠wl
 cj:∀ x∈(besideOf ties p).take j,x.1∈Ks/\(f x.1).1<=fp.1+cst ks (prT p x.1)
theorem InS.grow{ks:List (List Int)}{H:Hp}{d wl lp:Addr}{s p:Int}{fp:Int×List Int}{n:Nat}{ties:List Tie}{j:Nat}{Ks Wt:List Int}{av lv:Int->Addr}{f:Lab}{G G':Hp}(S:InS ks H d wl lp s p fp n ties j Ks Wt av lv f G)(g:Same G G'):InS ks H d wl lp s p fp n ties j Ks Wt av lv f G' :=
 ⟨S.same.trans g,g _ _ S.gd,g _ _ S.gw,S.wy.same g,S.lvw,S.w,S.cl,S.pK,S.fpe,g _ _ S.glp,S.lpw,S.cj⟩
theorem dkv_add{D:List Int}{ad:Int->Addr}{v:Int}{a:Addr}:putK (dkv D ad) (Sum.inl v) (.ref a)=dkv (add1 D v) fun u=>if u=v then a else ad u:=by
 unfold add1
 by_cases h:v∈D
 ·rw[if_pos h,dkv_old h]
 ·rw[if_neg h,dkv_put h]
theorem InS.skip{ks:List (List Int)}{H:Hp}{d wl lp:Addr}{s p:Int}{fp:Int×List Int}{n:Nat}{ties:List Tie}{j:Nat}{Ks Wt:List Int}{av lv:Int->Addr}{f:Lab}{G:Hp}(S:InS ks H d wl lp s p fp n ties j Ks Wt av lv f G)(hj:j <(besideOf ties p).length)(h:(besideOf ties p)[j].1∈Ks)(hl:(f (besideOf ties p)[j].1).1<=fp.1+cst ks (prT p (besideOf ties p)[j].1)):InS ks H d wl lp s p fp n ties (j+1) Ks Wt av lv f G :=
 ⟨S.same,S.gd,S.gw,S.wy,S.lvw,S.w,S.cl,S.pK,S.fpe,S.glp,S.lpw,fun x hx=>by
  rw[zL hj]at hx
  rcases zO.mp hx with h' | h'
  ·exact S.cj x h'
  ·rw[zD.mp h'];exact⟨h,hl⟩⟩
theorem InS.put{ks:List (List Int)}{H:Hp}{d wl lp l2 t1:Addr}{s p m:Int}{fp:Int×List Int}{n:Nat}{ties:List Tie}{j:Nat}{Ks Wt:List Int}{av lv:Int->Addr}{f:Lab}{G:Hp}(S:InS ks H d wl lp s p fp n ties j Ks Wt av lv f G)(ok:∀ x∈ties,TieOk n x)(hd:H d=none)(hwl:H wl=none)(dwl:d≠wl)
  (hj:j <(besideOf ties p).length) (hm:m=fp.1+cst ks (prT p (besideOf ties p)[j].1)) (new:(besideOf ties p)[j].1∉Ks\/m <(f (besideOf ties p)[j].1).1) (g2:G l2=some (.lst ((fp.2++[(besideOf ties p)[j].1]).map V.int))) (h2:H l2=none) (n2:l2≠wl) (g1:G t1=some (.tup [.int m,.ref l2])) :
  InS ks H d wl lp s p fp n ties (j+1) (add1 Ks (besideOf ties p)[j].1) (Wt++[(besideOf ties p)[j].1]) (fun u=>if u=(besideOf ties p)[j].1 then t1 else av u) (fun u=>if u=(besideOf ties p)[j].1 then l2 else lv u) (put1 f (besideOf ties p)[j].1 (m,fp.2++[(besideOf ties p)[j].1])) (upd (upd G d (.dK (putK (dkv Ks av) (Sum.inl (besideOf ties p)[j].1) (.ref t1)))) wl (.lst ((Wt++[(besideOf ties p)[j].1]).map V.int))) /\
  2 * phi n (add1 Ks (besideOf ties p)[j].1) (put1 f (besideOf ties p)[j].1 (m,fp.2++[(besideOf ties p)[j].1]))+(Wt++[(besideOf ties p)[j].1]).length<=2 * phi n Ks f+Wt.length:=by
 have hx:=zU hj
 have ej:(besideOf ties p).take (j+1)=(besideOf ties p).take j++[(besideOf ties p)[j]]:=zL hj
 rw[dkv_add]
 generalize (besideOf ties p)[j]=y at *
 obtain⟨far,wg⟩:=y
 have hm:m=fp.1+cst ks (prT p far):=hm
 have new:far∉Ks\/m <(f far).1:=new
 obtain⟨w',ph,fne,f0,f1⟩:=S.w.put ok S.pK hx (by rw[S.fpe];exact hm) new
 rw[S.fpe]at w' ph
 have lst:∀ {a:Addr}{xs:List V}{o:HO},a≠wl->G a=some (.lst xs)->(upd (upd G d o) wl (.lst ((Wt++[far]).map V.int))) a=some (.lst xs):=fun {a xs o} na h=>by
  rw[upd_ne na,upd_ne (fun e=>by rw[e,S.gd]at h;cases h)]
  exact h
 have tup:∀ {a:Addr}{xs:List V}{o:HO},G a=some (.tup xs)->(upd (upd G d o) wl (.lst ((Wt++[far]).map V.int))) a=some (.tup xs):=fun {a xs o} h=>by
  rw[upd_ne (fun e=>by rw[e,S.gw]at h;cases h),upd_ne (fun e=>by rw[e,S.gd]at h;cases h)]
  exact h
 refine⟨⟨same_put (same_put S.same hd) hwl,by rw[upd_ne dwl];exact upd_same,upd_same,fun v hv=>?_,fun v hv=>?_,w',fun u hu nu ne x hx=>?_,mem_add1.mpr (.inl S.pK),?_,lst S.lpw S.glp,S.lpw,fun x hx=>?_⟩,?_⟩
 ·by_cases e:v=far
  ·subst e
   show(upd _ wl _) (if v=v then t1 else av v)=some (HO.tup [V.int (put1 f v (m,fp.2++[v]) v).1,V.ref (if v=v then l2 else lv v)])/\(upd _ wl _) (if v=v then l2 else lv v)=some (HO.lst ((put1 f v (m,fp.2++[v]) v).2.map V.int))/\H (if v=v then l2 else lv v)=none
   rw[if_pos rfl,if_pos rfl,show put1 f v (m,fp.2++[v]) v=(m,fp.2++[v])from if_pos rfl]
   exact⟨tup g1,lst n2 g2,h2⟩
  ·obtain⟨a1,a2,a3⟩:=S.wy v ((mem_add1.mp hv).resolve_right e)
   have nw:=S.lvw v ((mem_add1.mp hv).resolve_right e)
   show(upd _ wl _) (if v=far then t1 else av v)=some (HO.tup [V.int (put1 f far (m,fp.2++[far]) v).1,V.ref (if v=far then l2 else lv v)])/\(upd _ wl _) (if v=far then l2 else lv v)=some (HO.lst ((put1 f far (m,fp.2++[far]) v).2.map V.int))/\H (if v=far then l2 else lv v)=none
   rw[if_neg e,if_neg e,show put1 f far (m,fp.2++[far]) v=f v from if_neg e]
   exact⟨tup a1,lst nw a2,a3⟩
 ·show(if v=far then l2 else lv v)≠wl
  by_cases e:v=far
  ·rw[if_pos e];exact n2
  ·rw[if_neg e];exact S.lvw v ((mem_add1.mp hv).resolve_right e)
 ·have uf:u≠far:=fun e=>nu (zM _ (zD.mpr e))
  obtain⟨h1,h2⟩:=S.cl u ((mem_add1.mp hu).resolve_right uf) (fun z=>nu (zV _ z)) ne x hx
  refine⟨mem_add1.mpr (.inl h1),?_⟩
  show(put1 f far (m,fp.2++[far]) x.1).1<=(put1 f far (m,fp.2++[far]) u).1+_
  rw[show put1 f far (m,fp.2++[far]) u=f u from if_neg uf]
  by_cases e:x.1=far
  ·have:=new.resolve_left fun y=>y (e▸h1)
   rw[e]at h2 ⊢
   rw[show put1 f far (m,fp.2++[far]) far=(m,fp.2++[far])from if_pos rfl]
   show m<=_
   lia
  ·rw[show put1 f far (m,fp.2++[far]) x.1=f x.1 from if_neg e]
   exact h2
 ·show(if p=far then _ else f p)=fp
  rw[if_neg (Ne.symm fne)]
  exact S.fpe
 ·rw[ej]at hx
  rcases zO.mp hx with h' | h'
  ·obtain⟨h1,h2⟩:=S.cj x h'
   refine⟨mem_add1.mpr (.inl h1),?_⟩
   show(put1 f far (m,fp.2++[far]) x.1).1<=_
   by_cases e:x.1=far
   ·have:=new.resolve_left fun y=>y (e▸h1)
    rw[e]at h2 ⊢
    rw[show put1 f far (m,fp.2++[far]) far=(m,fp.2++[far])from if_pos rfl]
    show m<=_
    lia
   ·rw[show put1 f far (m,fp.2++[far]) x.1=f x.1 from if_neg e]
    exact h2
  ·rw[zD.mp h']
   refine⟨mem_add1.mpr (.inr rfl),?_⟩
   show(put1 f far (m,fp.2++[far]) far).1<=_
   rw[show put1 f far (m,fp.2++[far]) far=(m,fp.2++[far])from if_pos rfl]
   show m<=fp.1+cst ks (prT p far)
   lia
 ·rw[zK,zX]
  show 2 * phi n (add1 Ks far) (put1 f far (m,fp.2++[far]))+(Wt.length+1)<=_
  lia
noncomputable def InI(ks:List (List Int))(H:Hp)(b k d wl lp:Addr)(s p:Int)(fp:Int×List Int)(n M:Nat)(ties:List Tie)(j:Nat)(σ:L2.St)(G:Hp):Prop:=Ex8 fun(Ks Wt:List Int) (av lv:Int->Addr) (f:Lab) (v8 v9 v10:Option V)=>2 * phi n Ks f+Wt.length<=M/\σ=[some (.ref b),some (.ref k),some (.int s),some (.ref d),some (.ref wl),some (.int p),some (.int fp.1),some (.ref lp),v8,v9,v10]/\InS ks H d wl lp s p fp n ties j Ks Wt av lv f G
section
variable{P:Program}{w:World}{K:PySem.W.Frag}{mg:Str->Option Value}{base:Heap}
noncomputable abbrev nWf:List Str:=["beside","kept","start","ways","waiting","place","loose","way","far","weight","more"]
theorem scWf:FnScope nWf ["beside","kept","start"] (defScope sWaysFrom):=⟨rfl,rfl,rfl,by decide +kernel,rfl,by decide +kernel,by decide +kernel⟩
theorem ok_wf{f:Addr}{fd:FuncData}(F:Fun K "ways_from" "ways_from" sWaysFrom f fd)(T:Txt mg):FnOk P w K mg base CX0 1 f fd ["beside","kept","start"] spWf:=by
 refine F.ok scWf (fun vs H Q E h=>?_) (fun cdv A outer s H vs Q E hr h=>?_)
 ·obtain⟨b,k,s,n,ties,as,kas,ks,rfl,_⟩:=h
  rfl
 ·obtain⟨b,k,s,n,ties,as,kas,ks,rfl,gb,al,BA,ok,tl,n8,gk,tk,s0,s1,fin⟩:=h
  have hu:_+1<cLine:=Nat.lt_of_le_of_lt (Nat.add_le_add_left (show 1<=64 by decide) _) hr.units
  have hu0:_<cLine:=hr.units0
  refine⟨_,(pss_cons (ps_set (i:=3) scWf.nd rfl (Or.inl rfl) (@pe_dispK _ _ _ _ _ _ hu0 (pv 2) (@pe_tup _ _ _ _ _ (@pa_cst _ _ _ _ _ _ _ pe_int (@pa_lst _ _ _ _ _ _ (@pe_lst _ _ _ _ (@pa_nam _ _ _ _ _ _ (pv 2) pa_nil)) pa_nil)))))
   (pss_cons (ps_set (i:=4) scWf.nd rfl (Or.inl rfl) (@pe_lst _ _ _ _ (@pa_nam _ _ _ _ _ _ (pv 2) pa_nil)))
   (pss_cons (ps_while PassesOwn.never (pt_truth (pv 4) (fun _=>rfl)) (pss_cons (ps_set (i:=5) scWf.nd rfl (Or.inl rfl) (pe_bm0H PySem.F.slot_list_pop PySem.F.type_list_pop mt_pop (pv 4)))
   (pss_cons (ps_asg (pe_dget hu (pv 3) (pv 5) (fun _ _=>rfl)) (pg_tup (n:=2) rfl (pgs_cons (pg_name (i:=6) scWf.nd rfl (Or.inl rfl)) (pgs_cons (pg_name (i:=7) scWf.nd rfl (Or.inl rfl)) pgs_nil))))
   (pss_one (ps_for PassesOwn.never rfl (pi_list (@pe_ix _ _ _ _ _ _ _ ix_listH (pv 0) (pv 5) (fun _ _=>rfl))) (pg_tup (n:=2) rfl (pgs_cons (pg_name (i:=8) scWf.nd rfl (Or.inl rfl)) (pgs_cons (pg_name (i:=9) scWf.nd rfl (Or.inl rfl)) pgs_nil)))
   (pss_cons (ps_set (i:=10) scWf.nd rfl (Or.inl rfl) (pe_ifExp (pt_cmpR (op_inT hu) (@pe_tup _ _ _ _ _ (@pa_call _ _ _ _ _ _ _ _ (pe_callB (call_min2 rfl) (by rfl) T.min boot_min (@pa_nam _ _ _ _ _ _ (pv 5) (@pa_nam _ _ _ _ _ _ (pv 8) pa_nil))) (@pa_call _ _ _ _ _ _ _ _ (pe_callB (call_max2 rfl) (by rfl) T.max boot_max (@pa_nam _ _ _ _ _ _ (pv 5) (@pa_nam _ _ _ _ _ _ (pv 8) pa_nil))) pa_nil))) (pv 1) rfl) (pv 6) (pe_op op_add (pv 6) pe_int)))
   (pss_one (ps_if (PW.pt (pw_or (pt_cmp (pc_dnotin hu (pv 8) (pv 3))) (pw_or1 (pt_cmpR op_lt (pv 10) (@pe_ix _ _ _ _ _ _ _ ix_tupH (pe_dget hu (pv 3) (pv 8) (fun _ _=>rfl)) pe_int (fun _ _=>rfl)) (nomark _))))) (pss_cons (ps_dput hu (pv 3) (pv 8) (@pe_tup _ _ _ _ _ (@pa_nam _ _ _ _ _ _ (pv 10) (@pa_bin _ _ _ _ _ _ _ _ (pe_op op_cat (pv 7) (@pe_lst _ _ _ _ (@pa_nam _ _ _ _ _ _ (pv 8) pa_nil))) pa_nil))) rfl)
   (pss_one (ps_expr (pe_bmH PySem.F.slot_list_append PySem.F.type_list_append mt_append (pv 4) (@pa_nam _ _ _ _ _ _ (pv 8) pa_nil))))) pss_nil))))))))
   (pss_one (ps_ret (pv 3)))))),?_⟩
  refine fun d hd=>⟨_,rfl,_,rfl,(by show 1<=sizeLine;decide),fun l0 hl0=>⟨(by show 2<=sizeLine;decide),fun tp htp=>?_⟩⟩
  have sd:=Same.new (o:=.dK []) hd
  have sl:=Same.new (o:=.lst [.int s]) hl0
  have st:=Same.new (o:=.tup [.int 0,.ref l0]) htp
  have l00:H l0=none:=sd.free hl0
  have gd1:(upd (upd (upd H d (.dK [])) l0 (.lst [.int s])) tp (.tup [.int 0,.ref l0])) d=some (.dK []):=st _ _ (sl _ _ upd_same)
  have gl1:(upd (upd (upd H d (.dK [])) l0 (.lst [.int s])) tp (.tup [.int 0,.ref l0])) l0=some (.lst [.int s]):=st _ _ upd_same
  have gt1:(upd (upd (upd H d (.dK [])) l0 (.lst [.int s])) tp (.tup [.int 0,.ref l0])) tp=some (.tup [.int 0,.ref l0]):=upd_same
  have s1':=sd.trans (sl.trans st)
  generalize (upd (upd (upd H d (.dK [])) l0 (.lst [.int s])) tp (.tup [.int 0,.ref l0]))=H1 at gd1 gl1 gt1 s1'
  refine⟨_,DPut.k (k:=Sum.inl s) gd1 (by rw[sizeLine_eq];decide),?_⟩
  have s2:Same H (upd H1 d (.dK (putK [] (Sum.inl s) (.ref tp)))):=same_put s1' hd
  have gd2:(upd H1 d (.dK (putK [] (Sum.inl s) (.ref tp)))) d=some (.dK (dkv [s] fun _=>tp)):=upd_same
  have gl2:(upd H1 d (.dK (putK [] (Sum.inl s) (.ref tp)))) l0=some (.lst [.int s]):=by rw[upd_ne (fun e=>by rw[e,gd1]at gl1;cases gl1)];exact gl1
  have gt2:(upd H1 d (.dK (putK [] (Sum.inl s) (.ref tp)))) tp=some (.tup [.int 0,.ref l0]):=by rw[upd_ne (fun e=>by rw[e,gd1]at gt1;cases gt1)];exact gt1
  generalize (upd H1 d (.dK (putK [] (Sum.inl s) (.ref tp))))=H2 at s2 gd2 gl2 gt2
  refine⟨_,rfl,(by show 1<=sizeLine;decide),fun wl hwl=>?_⟩
  have sw:=Same.new (o:=.lst [.int s]) hwl
  have wl0:H wl=none:=s2.free hwl
  have lwl:l0≠wl:=fun e=>by rw[e,hwl]at gl2;cases gl2
  have dwl:d≠wl:=fun e=>by rw[e,hwl]at gd2;cases gd2
  have gw3:(upd H2 wl (.lst [.int s])) wl=some (.lst (([s]:List Int).map V.int)):=upd_same
  have gd3:=sw _ _ gd2
  have gl3:=sw _ _ gl2
  have gt3:=sw _ _ gt2
  have s3:=s2.trans sw
  generalize (upd H2 wl (.lst [.int s]))=H3 at gw3 gd3 gl3 gt3 s3
  have st200:2 * phi n [s] (fun _=>(0,[s])) + [s].length<=200:=by
   have h1:=phi_le n [s] (fun _=>(0,[s])) fun v _=>by show(0:Int)<=n;lia
   have h2:n * (n+1)<=8 * 9:=Nat.mul_le_mul n8 (by lia)
   rw[zX]
   lia
  refine⟨WfI ks H b k d wl s n ties,⟨_,[s],[s],fun _=>tp,fun _=>l0,fun _=>(0,[s]),none,none,none,none,none,none,rfl,st200,rfl,s3,gd3,gw3,fun v hv=>⟨gt3,gl3,l00⟩,fun _ _=>lwl,Wf.start s0 s1,fun u hu hn=>absurd hu hn⟩,?_⟩
  clear gw3 gd3 gl3 gt3 s3 sw hwl gd2 gl2 gt2 s2 s1' gd1 gl1 gt1
  rintro m σ G ⟨Ks,Wt,av,lv,f,v5,v6,v7,v8,v9,v10,rfl,m200,rfl,sG,gd,gw,wy,lvw,w,cl⟩
  refine⟨_,rfl,_,.inl ⟨_,SqL.of gw,rfl⟩,?_⟩
  rcases List.eq_nil_or_concat Wt with rfl |⟨W',p,rfl⟩
  ·refine iteF ⟨_,rfl,fin d Ks av lv f G gd wy (fun v hv=>⟨w.pth v hv,⟨?_,(w.sim v hv).1⟩,w.cnt v hv⟩) (fun v l h=>w.least (fun u hu x hx=>cl u hu (fun z=>nomatch z) x hx) h) (fun v r=>w.all ok (fun u hu x hx=>(cl u hu (fun z=>nomatch z) x hx).1) r) sG⟩
   have h1:=w.len v hv
   have h2:n * (n+1)<=8 * 9:=Nat.mul_le_mul n8 (by lia)
   lia
  ·rw[List.concat_eq_append]at *
   have em:(!((W'++[p]).map V.int).isEmpty)=true:=by cases W' <;> rfl
   rw[em]
   refine iteT ?_
   have pW:p∈W'++[p]:=zM _ (zD.mpr rfl)
   have pK:=w.wt p pW
   obtain⟨p0,p1⟩:=w.rg p pK
   refine⟨fun σ' G'=>∃ m',m'<2 * phi n Ks f+(W'++[p]).length/\WfI ks H b k d wl s n ties m' σ' G',fun σ' H' h=>h,?_⟩
   have hlast:((W'++[p]).map V.int)[((W'++[p]).map V.int).length-1]?=some (V.int p):=by simp
   refine⟨_,rfl,⟨wl,_,rfl,gw⟩,wl,_,_,rfl,rfl,gw,hlast,?_⟩
   have dr:((W'++[p]).map V.int).dropLast=W'.map V.int:=by rw[zJ];exact List.dropLast_concat
   rw[dr]
   have sG1:Same H (upd G wl (.lst (W'.map V.int))):=same_put sG wl0
   have gd1:(upd G wl (.lst (W'.map V.int))) d=some (.dK (dkv Ks av)):=by rw[upd_ne dwl];exact gd
   have gw1:(upd G wl (.lst (W'.map V.int))) wl=some (.lst (W'.map V.int)):=upd_same
   have wy1:WyA H (upd G wl (.lst (W'.map V.int))) Ks av lv f:=fun v hv=>⟨by rw[upd_ne (fun e=>by have:=(wy v hv).1;rw[e,gw]at this;cases this)];exact(wy v hv).1,by rw[upd_ne (lvw v hv)];exact(wy v hv).2.1,(wy v hv).2.2⟩
   generalize (upd G wl (.lst (W'.map V.int)))=G1 at sG1 gd1 gw1 wy1
   have q1:=DGet.k (k:=Sum.inl p) gd1
   rw[dkv_val,if_pos pK]at q1
   obtain⟨gp,glp,_⟩:=wy1 p pK
   refine⟨_,rfl,_,rfl,d,_,rfl,q1,av p,_,rfl,SqT.of gp,rfl,_,_,rfl,_,_,rfl,rfl,?_⟩
   have vl:p.toNat<as.length:=by lia
   obtain⟨cs0,gcs,pcs⟩:=BA p.toNat vl
   have ev:p=((p.toNat:Nat):Int):=by lia
   have pcs:Paired (PrAt H) cs0 (besideOf ties ((p.toNat:Nat):Int)):=pcs
   rw[<- ev]at pcs
   have ab:atI (as.map V.ref) p=some (V.ref as[p.toNat]):=by
    have:=atI_nat (xs:=as.map V.ref) (j:=p.toNat) (v:=V.ref as[p.toNat]) (by rw[zAD,zF vl];rfl)
    rw[<- ev]at this
    exact this
   have cl0:=pcs.length
   refine⟨_,rfl,_,rfl,b,_,_,_,rfl,rfl,sG1 _ _ gb,ab,_,rfl,⟨_,SqL.of (sG1 _ _ gcs)⟩,?_⟩
   have lpw:=lvw p pK
   have m2:2 * phi n Ks f+W'.length<=200:=by rw[zK]at m200;lia
   refine for_list (K:=K) (a:=as[p.toNat]) (xs:=cs0.map V.ref) (InI ks H b k d wl (lv p) s p (f p) n (2 * phi n Ks f+W'.length) ties) ⟨Ks,W',av,lv,f,_,_,_,zI _,rfl,⟨sG1,gd1,gw1,wy1,lvw,⟨w.nd,w.rg,w.st,w.pth,w.low,w.hi,fun v hv=>w.wt v (zV _ hv),w.len,w.sim,w.cnt,w.s0⟩,fun u hu nu ne=>cl u hu (fun z=>(zO.mp z).elim nu fun e=>ne (zD.mp e)),pK,rfl,glp,lpw,fun x hx=>nomatch hx⟩⟩ (fun j σ G _ z=>by obtain⟨_,_,_,_,_,_,_,_,_,_,S⟩:=z;exact SqL.of (S.same _ _ gcs)) ?_ ?_
   ·have lo:=w.low p pK
    have lnp:=w.len p pK
    have h89:n * (n+1)<=8 * 9:=Nat.mul_le_mul n8 (by lia)
    generalize f p=fp at *
    generalize lv p=lp at *
    clear glp gp wy1 gw1 gd1 sG1 q1 wy lvw gd gw sG cl w
    rintro j x σ G hx ⟨Ks,Wt,av,lv,f,v8,v9,v10,mM,rfl,S⟩
    obtain⟨jl,ex⟩:=zE.mp hx
    rw[zA]at jl
    rw[zR]at ex
    subst ex
    have jb:j <(besideOf ties p).length:=by lia
    have gx:=S.same _ _ (Paired.at pcs j jl jb)
    refine⟨cs0[j],_,rfl,SqT.of gx,rfl,_,_,rfl,_,_,rfl,rfl,?_⟩
    refine⟨_,rfl,_,rfl,_,_,rfl,_,rfl,_,rfl,_,_,rfl,(by show 2<=sizeLine;decide),fun tq htq=>?_⟩
    have stq:=Same.new (o:=.tup [.int (if(besideOf ties p)[j].1<p then(besideOf ties p)[j].1 else p),.int (if(besideOf ties p)[j].1 > p then(besideOf ties p)[j].1 else p)]) htq
    have S1:=S.grow stq
    refine⟨_,rfl,tq,k,kas,ks,[if(besideOf ties p)[j].1<p then(besideOf ties p)[j].1 else p,if(besideOf ties p)[j].1 > p then(besideOf ties p)[j].1 else p],rfl,rfl,upd_same,S1.same _ _ gk,Paired.mapP tk (fun _ _ e=>S1.same _ _ e),_,rfl,?_⟩
    generalize (upd G tq (.tup [.int (if(besideOf ties p)[j].1<p then(besideOf ties p)[j].1 else p),.int (if(besideOf ties p)[j].1 > p then(besideOf ties p)[j].1 else p)]))=G1 at S1
    clear S stq htq gx
    refine ite2 (fun hk=>⟨_,rfl,?_⟩) (fun hk=>⟨_,rfl,_,_,rfl,rfl,?_⟩)
    ·have hm:fp.1=fp.1+cst ks (prT p (besideOf ties p)[j].1):=by
      have hk:=of_decide_eq_true hk
      unfold cst prT
      rw[if_pos hk,Int.add_zero]
     have q:=DGet.k (k:=Sum.inl (besideOf ties p)[j].1) S1.gd
     rw[dkv_val]at q
     by_cases fK:(besideOf ties p)[j].1∈Ks
     ·rw[if_pos fK]at q
      obtain⟨gf,glf,_⟩:=S1.wy _ fK
      refine⟨_,rfl,_,rfl,d,_,rfl,q,_,rfl,iteF ?_⟩
      refine⟨_,rfl,_,rfl,_,rfl,d,_,rfl,q,_,_,_,_,rfl,rfl,gf,at0,_,_,rfl,rfl,_,rfl,ite2 (fun lt=>?_) (fun lt=>?_)⟩
      ·have lt:fp.1 <(f (besideOf ties p)[j].1).1:=of_decide_eq_true lt
       refine⟨_,rfl,_,rfl,_,rfl,(by show 1<=sizeLine;decide),fun l1 hl1=>?_⟩
       have sl1:=Same.new (o:=.lst [.int (besideOf ties p)[j].1]) hl1
       refine⟨lp,l1,_,_,rfl,rfl,sl1 _ _ S1.glp,upd_same,by rw[zA,sizeLine_eq];show _+1<=_;lia,fun l2 hl2=>⟨(by show 2<=sizeLine;decide),fun t1 ht1=>?_⟩⟩
       have ecat:fp.2.map V.int++[V.int (besideOf ties p)[j].1]=(fp.2++[(besideOf ties p)[j].1]).map V.int:=by rw[zJ];rfl
       rw[ecat]at ht1 ⊢
       have sl2:=Same.new (o:=.lst ((fp.2++[(besideOf ties p)[j].1]).map V.int)) hl2
       have st1:=Same.new (o:=.tup [.int (fp.1),.ref l2]) ht1
       have sA:=sl1.trans (sl2.trans st1)
       have S4:=S1.grow sA
       have g2:(upd (upd (upd G1 l1 (.lst [.int (besideOf ties p)[j].1])) l2 (.lst ((fp.2++[(besideOf ties p)[j].1]).map V.int))) t1 (.tup [.int (fp.1),.ref l2])) l2=some (.lst ((fp.2++[(besideOf ties p)[j].1]).map V.int)):=st1 _ _ upd_same
       have h2:H l2=none:=S1.same.free (sl1.free hl2)
       have n2:l2≠wl:=fun e=>by rw[e,sl1 _ _ S1.gw]at hl2;cases hl2
       have kl:=S1.w.klen
       obtain⟨S5,ph⟩:=S4.put (t1:=t1) (m:=fp.1) ok hd wl0 dwl jb hm (.inr lt) g2 h2 n2 upd_same
       refine⟨_,rfl,_,rfl,d,_,rfl,DPut.k (k:=Sum.inl (besideOf ties p)[j].1) S4.gd (by unfold dkv;rw[zA,sizeLine_eq];lia),?_⟩
       have gw5:(upd (upd (upd (upd G1 l1 (.lst [.int (besideOf ties p)[j].1])) l2 (.lst ((fp.2++[(besideOf ties p)[j].1]).map V.int))) t1 (.tup [.int (fp.1),.ref l2])) d (.dK (putK (dkv Ks av) (Sum.inl (besideOf ties p)[j].1) (.ref t1)))) wl=some (.lst (Wt.map V.int)):=by rw[upd_ne (Ne.symm dwl)];exact S4.gw
       refine⟨_,rfl,⟨wl,_,rfl,gw5⟩,_,rfl,wl,_,_,rfl,rfl,gw5,by rw[zA,sizeLine_eq];lia,?_⟩
       have ew:Wt.map V.int++[V.int (besideOf ties p)[j].1]=(Wt++[(besideOf ties p)[j].1]).map V.int:=by rw[zJ];rfl
       rw[ew]
       exact⟨_,_,_,_,_,_,_,_,by lia,rfl,S5⟩
      ·exact⟨Ks,Wt,av,lv,f,_,_,_,mM,rfl,S1.skip jb fK (by have lt:=of_decide_eq_false (zAJ.mpr lt);lia)⟩
     ·rw[if_neg fK]at q
      refine⟨_,rfl,_,rfl,d,_,rfl,q,_,rfl,iteT ?_⟩
      refine⟨_,rfl,_,rfl,_,rfl,(by show 1<=sizeLine;decide),fun l1 hl1=>?_⟩
      have sl1:=Same.new (o:=.lst [.int (besideOf ties p)[j].1]) hl1
      refine⟨lp,l1,_,_,rfl,rfl,sl1 _ _ S1.glp,upd_same,by rw[zA,sizeLine_eq];show _+1<=_;lia,fun l2 hl2=>⟨(by show 2<=sizeLine;decide),fun t1 ht1=>?_⟩⟩
      have ecat:fp.2.map V.int++[V.int (besideOf ties p)[j].1]=(fp.2++[(besideOf ties p)[j].1]).map V.int:=by rw[zJ];rfl
      rw[ecat]at ht1 ⊢
      have sl2:=Same.new (o:=.lst ((fp.2++[(besideOf ties p)[j].1]).map V.int)) hl2
      have st1:=Same.new (o:=.tup [.int (fp.1),.ref l2]) ht1
      have sA:=sl1.trans (sl2.trans st1)
      have S4:=S1.grow sA
      have g2:(upd (upd (upd G1 l1 (.lst [.int (besideOf ties p)[j].1])) l2 (.lst ((fp.2++[(besideOf ties p)[j].1]).map V.int))) t1 (.tup [.int (fp.1),.ref l2])) l2=some (.lst ((fp.2++[(besideOf ties p)[j].1]).map V.int)):=st1 _ _ upd_same
      have h2:H l2=none:=S1.same.free (sl1.free hl2)
      have n2:l2≠wl:=fun e=>by rw[e,sl1 _ _ S1.gw]at hl2;cases hl2
      have kl:=S1.w.klen
      obtain⟨S5,ph⟩:=S4.put (t1:=t1) (m:=fp.1) ok hd wl0 dwl jb hm (.inl fK) g2 h2 n2 upd_same
      refine⟨_,rfl,_,rfl,d,_,rfl,DPut.k (k:=Sum.inl (besideOf ties p)[j].1) S4.gd (by unfold dkv;rw[zA,sizeLine_eq];lia),?_⟩
      have gw5:(upd (upd (upd (upd G1 l1 (.lst [.int (besideOf ties p)[j].1])) l2 (.lst ((fp.2++[(besideOf ties p)[j].1]).map V.int))) t1 (.tup [.int (fp.1),.ref l2])) d (.dK (putK (dkv Ks av) (Sum.inl (besideOf ties p)[j].1) (.ref t1)))) wl=some (.lst (Wt.map V.int)):=by rw[upd_ne (Ne.symm dwl)];exact S4.gw
      refine⟨_,rfl,⟨wl,_,rfl,gw5⟩,_,rfl,wl,_,_,rfl,rfl,gw5,by rw[zA,sizeLine_eq];lia,?_⟩
      have ew:Wt.map V.int++[V.int (besideOf ties p)[j].1]=(Wt++[(besideOf ties p)[j].1]).map V.int:=by rw[zJ];rfl
      rw[ew]
      exact⟨_,_,_,_,_,_,_,_,by lia,rfl,S5⟩
    ·have hm:fp.1+1=fp.1+cst ks (prT p (besideOf ties p)[j].1):=by
      have hk:=of_decide_eq_false (zAJ.mpr hk)
      unfold cst prT
      rw[if_neg hk]
     have q:=DGet.k (k:=Sum.inl (besideOf ties p)[j].1) S1.gd
     rw[dkv_val]at q
     by_cases fK:(besideOf ties p)[j].1∈Ks
     ·rw[if_pos fK]at q
      obtain⟨gf,glf,_⟩:=S1.wy _ fK
      refine⟨_,rfl,_,rfl,d,_,rfl,q,_,rfl,iteF ?_⟩
      refine⟨_,rfl,_,rfl,_,rfl,d,_,rfl,q,_,_,_,_,rfl,rfl,gf,at0,_,_,rfl,rfl,_,rfl,ite2 (fun lt=>?_) (fun lt=>?_)⟩
      ·have lt:fp.1+1 <(f (besideOf ties p)[j].1).1:=of_decide_eq_true lt
       refine⟨_,rfl,_,rfl,_,rfl,(by show 1<=sizeLine;decide),fun l1 hl1=>?_⟩
       have sl1:=Same.new (o:=.lst [.int (besideOf ties p)[j].1]) hl1
       refine⟨lp,l1,_,_,rfl,rfl,sl1 _ _ S1.glp,upd_same,by rw[zA,sizeLine_eq];show _+1<=_;lia,fun l2 hl2=>⟨(by show 2<=sizeLine;decide),fun t1 ht1=>?_⟩⟩
       have ecat:fp.2.map V.int++[V.int (besideOf ties p)[j].1]=(fp.2++[(besideOf ties p)[j].1]).map V.int:=by rw[zJ];rfl
       rw[ecat]at ht1 ⊢
       have sl2:=Same.new (o:=.lst ((fp.2++[(besideOf ties p)[j].1]).map V.int)) hl2
       have st1:=Same.new (o:=.tup [.int (fp.1+1),.ref l2]) ht1
       have sA:=sl1.trans (sl2.trans st1)
       have S4:=S1.grow sA
       have g2:(upd (upd (upd G1 l1 (.lst [.int (besideOf ties p)[j].1])) l2 (.lst ((fp.2++[(besideOf ties p)[j].1]).map V.int))) t1 (.tup [.int (fp.1+1),.ref l2])) l2=some (.lst ((fp.2++[(besideOf ties p)[j].1]).map V.int)):=st1 _ _ upd_same
       have h2:H l2=none:=S1.same.free (sl1.free hl2)
       have n2:l2≠wl:=fun e=>by rw[e,sl1 _ _ S1.gw]at hl2;cases hl2
       have kl:=S1.w.klen
       obtain⟨S5,ph⟩:=S4.put (t1:=t1) (m:=fp.1+1) ok hd wl0 dwl jb hm (.inr lt) g2 h2 n2 upd_same
       refine⟨_,rfl,_,rfl,d,_,rfl,DPut.k (k:=Sum.inl (besideOf ties p)[j].1) S4.gd (by unfold dkv;rw[zA,sizeLine_eq];lia),?_⟩
       have gw5:(upd (upd (upd (upd G1 l1 (.lst [.int (besideOf ties p)[j].1])) l2 (.lst ((fp.2++[(besideOf ties p)[j].1]).map V.int))) t1 (.tup [.int (fp.1+1),.ref l2])) d (.dK (putK (dkv Ks av) (Sum.inl (besideOf ties p)[j].1) (.ref t1)))) wl=some (.lst (Wt.map V.int)):=by rw[upd_ne (Ne.symm dwl)];exact S4.gw
       refine⟨_,rfl,⟨wl,_,rfl,gw5⟩,_,rfl,wl,_,_,rfl,rfl,gw5,by rw[zA,sizeLine_eq];lia,?_⟩
       have ew:Wt.map V.int++[V.int (besideOf ties p)[j].1]=(Wt++[(besideOf ties p)[j].1]).map V.int:=by rw[zJ];rfl
       rw[ew]
       exact⟨_,_,_,_,_,_,_,_,by lia,rfl,S5⟩
      ·exact⟨Ks,Wt,av,lv,f,_,_,_,mM,rfl,S1.skip jb fK (by have lt:=of_decide_eq_false (zAJ.mpr lt);lia)⟩
     ·rw[if_neg fK]at q
      refine⟨_,rfl,_,rfl,d,_,rfl,q,_,rfl,iteT ?_⟩
      refine⟨_,rfl,_,rfl,_,rfl,(by show 1<=sizeLine;decide),fun l1 hl1=>?_⟩
      have sl1:=Same.new (o:=.lst [.int (besideOf ties p)[j].1]) hl1
      refine⟨lp,l1,_,_,rfl,rfl,sl1 _ _ S1.glp,upd_same,by rw[zA,sizeLine_eq];show _+1<=_;lia,fun l2 hl2=>⟨(by show 2<=sizeLine;decide),fun t1 ht1=>?_⟩⟩
      have ecat:fp.2.map V.int++[V.int (besideOf ties p)[j].1]=(fp.2++[(besideOf ties p)[j].1]).map V.int:=by rw[zJ];rfl
      rw[ecat]at ht1 ⊢
      have sl2:=Same.new (o:=.lst ((fp.2++[(besideOf ties p)[j].1]).map V.int)) hl2
      have st1:=Same.new (o:=.tup [.int (fp.1+1),.ref l2]) ht1
      have sA:=sl1.trans (sl2.trans st1)
      have S4:=S1.grow sA
      have g2:(upd (upd (upd G1 l1 (.lst [.int (besideOf ties p)[j].1])) l2 (.lst ((fp.2++[(besideOf ties p)[j].1]).map V.int))) t1 (.tup [.int (fp.1+1),.ref l2])) l2=some (.lst ((fp.2++[(besideOf ties p)[j].1]).map V.int)):=st1 _ _ upd_same
      have h2:H l2=none:=S1.same.free (sl1.free hl2)
      have n2:l2≠wl:=fun e=>by rw[e,sl1 _ _ S1.gw]at hl2;cases hl2
      have kl:=S1.w.klen
      obtain⟨S5,ph⟩:=S4.put (t1:=t1) (m:=fp.1+1) ok hd wl0 dwl jb hm (.inl fK) g2 h2 n2 upd_same
      refine⟨_,rfl,_,rfl,d,_,rfl,DPut.k (k:=Sum.inl (besideOf ties p)[j].1) S4.gd (by unfold dkv;rw[zA,sizeLine_eq];lia),?_⟩
      have gw5:(upd (upd (upd (upd G1 l1 (.lst [.int (besideOf ties p)[j].1])) l2 (.lst ((fp.2++[(besideOf ties p)[j].1]).map V.int))) t1 (.tup [.int (fp.1+1),.ref l2])) d (.dK (putK (dkv Ks av) (Sum.inl (besideOf ties p)[j].1) (.ref t1)))) wl=some (.lst (Wt.map V.int)):=by rw[upd_ne (Ne.symm dwl)];exact S4.gw
      refine⟨_,rfl,⟨wl,_,rfl,gw5⟩,_,rfl,wl,_,_,rfl,rfl,gw5,by rw[zA,sizeLine_eq];lia,?_⟩
      have ew:Wt.map V.int++[V.int (besideOf ties p)[j].1]=(Wt++[(besideOf ties p)[j].1]).map V.int:=by rw[zJ];rfl
      rw[ew]
      exact⟨_,_,_,_,_,_,_,_,by lia,rfl,S5⟩
   ·rintro σ G ⟨Ks2,Wt,av,lv,f2,v8,v9,v10,mM,rfl,S⟩
    refine⟨_,?_,Ks2,Wt,av,lv,f2,_,_,_,_,_,_,rfl,by rw[zK,zX]at m200;lia,rfl,S.same,S.gd,S.gw,S.wy,S.lvw,S.w,fun u hu nu x hx=>?_⟩
    ·rw[zK,zX]
     lia
    ·by_cases e:u=p
     ·subst e
      have:=S.cj x (by rw[zA,cl0,zAF];exact hx)
      rw[S.fpe]
      exact this
     ·exact S.cl u hu nu e x hx
end
end K63
namespace Srt
open PySem PySem.W PyProof.Rows
open PySem.AutoSeq1 (wpAny_loadPart')
theorem rcLt{prog:Program}{w:World}{A:Around}{E:Value->Shared->Prop}{s:Shared}{a b:Int}{t u:Tok}{Q:Value->Shared->Prop}(h:Q (.bool (decide (a<b))) s):wpAny (model prog w) A (richCompare .Lt (.int a t) (.int b u)) Q E s:=lt_int h
open PySem PySem.W PyProof.Rows
noncomputable def LtAt(A:Around)(s:Shared)(u v:Value)(b:Bool):Prop:=∀ (prog:Program) (w:World) (E:Value->Shared->Prop) (Q:Value->Shared->Prop),Q (.bool b) s->wpAny (model prog w) A (richCompare .Lt u v) Q E s
noncomputable def lxL(e r:Nat->Bool)(tl:Bool):List Nat->Bool
 |[]=>tl
 |j :: js=>if e j=true then lxL e r tl js else r j
theorem tupG_meets(l b:Addr)(its its2:Array Value)(n n2:Nat)(dd dd2:Option Addr)(sl sl2:Array (Option Value))(e r:Nat->Bool) :
  Meets (Builtin.«tuple.__lt__» ⟨[.ref l,.ref b],[]⟩)
   (fun A R s=>s.heap.get? l=some { cls:=.type "tuple",dict:=dd,data:=.seq its n,slots:=sl }/\s.heap.get? b=some { cls:=.type "tuple",dict:=dd2,data:=.seq its2 n2,slots:=sl2 } /\
    (∀ j (h1:j<its.size) (h2:j<its2.size),(∀ i,i<j->e i=true)->SeqAt.EqAt A.in1 s its[j] its2[j] (e j))/\(∀ j (h1:j<its.size) (h2:j<its2.size),(∀ i,i<j->e i=true)->e j=false->LtAt A.in1 s its[j] its2[j] (r j)) /\
    R (.ok (.ret (.bool (lxL e r (decide (its.size<its2.size)) (List.range (min its.size its2.size)))))) s) :=
 .of_wp fun prog w A R s h=>by
  obtain⟨hp,g,d,tk,os⟩:=s
  obtain⟨hl,hb,he,hr,h⟩:=h
  have f2:=AutoSeq1.sub_tuple_tuple
  have hZ:(its.toList.zip its2.toList).length=min its.size its2.size:=by simp
  wp_walk using wpAny_loadPart' hl,wpAny_loadPart' hb,wpAny_forIn_list _ (fun rest q s'=>q.1=none/\s'=⟨hp,g,d,tk,os⟩/\∃ i,i<=min its.size its2.size/\(∀ m,m<i->e m=true)/\rest=(its.toList.zip its2.toList).drop i /\
   R (.ok (.ret (.bool (lxL e r (decide (its.size<its2.size)) ((List.range (min its.size its2.size)).drop i))))) ⟨hp,g,d,tk,os⟩) _
  case turn =>
   rintro⟨y,x⟩ rest q s' ⟨hq,rfl,i,hi,up,hz,hR⟩
   have lt:i <(its.toList.zip its2.toList).length:=by
    rcases Nat.lt_or_ge i (its.toList.zip its2.toList).length with z | z
    ·exact z
    ·rw[List.drop_of_length_le z]at hz;cases hz
   have a1:i<its.size:=by omega
   have a2:i<its2.size:=by omega
   rw[List.drop_eq_getElem_cons lt]at hz
   injection hz with hyx hrest
   have hy:y=its[i]:=by have:=congrArg Prod.fst hyx;simpa using this
   have hx:x=its2[i]:=by have:=congrArg Prod.snd hyx;simpa using this
   subst hy hx
   rw[List.drop_eq_getElem_cons (by rw[zBM];lia),List.getElem_range]at hR
   refine zB (he i a1 a2 up prog w _ _ ?_)
   cases z:e i with
   |true =>
    have l1:lxL e r (decide (its.size<its2.size)) (i :: (List.range (min its.size its2.size)).drop (i+1))=lxL e r (decide (its.size<its2.size)) ((List.range (min its.size its2.size)).drop (i+1)):=by simp[lxL,z]
    rw[l1]at hR
    wp_walk
    exact⟨rfl,rfl,i+1,by lia,(fun m hm=>by rcases Nat.lt_succ_iff_lt_or_eq.mp hm with y | y;exact up m y;rw[y];exact z),hrest,hR⟩
   |false =>
    have l1:lxL e r (decide (its.size<its2.size)) (i :: (List.range (min its.size its2.size)).drop (i+1))=r i:=by simp[lxL,z]
    rw[l1]at hR
    have rl:=hr i a1 a2 up z prog w
    wp_walk using rl
    exact⟨_,rfl,hR⟩
  case fin =>
   rintro⟨b1,b2⟩ s' ⟨hb',rfl,i,hi,up,hz,hR⟩
   simp only at hb'
   subst hb'
   have ge:min its.size its2.size<=i:=by
    rcases Nat.lt_or_ge i (its.toList.zip its2.toList).length with z | z
    ·rw[List.drop_eq_getElem_cons z]at hz;cases hz
    ·exact hZ▸z
   rw[List.drop_of_length_le (by rw[zBM];exact ge)]at hR
   wp_walk
   exact⟨_,rfl,by simpa[Builtin.Tuple.tupleCompareSizes,lxL]using hR⟩
  case h =>
   exact⟨rfl,rfl,0,zAQ _,(fun m hm=>absurd hm (Nat.not_lt_zero m)),rfl,by simpa using h⟩
theorem LtAt.tups{A:Around}{s:Shared}{p q:Addr}{its its2:Array Value}{e r:Nat->Bool}(hu:A.units<cLine)(x:s.heap.IsTuple p its)(y:s.heap.IsTuple q its2)(he:∀ j (h1:j<its.size) (h2:j<its2.size),(∀ i,i<j->e i=true)->SeqAt.EqAt A.in1 s its[j] its2[j] (e j))
  (hr:∀ j (h1:j<its.size) (h2:j<its2.size),(∀ i,i<j->e i=true)->e j=false->LtAt A.in1 s its[j] its2[j] (r j)):LtAt A s (.ref p) (.ref q) (lxL e r (decide (its.size<its2.size)) (List.range (min its.size its2.size))):=fun prog w E Q h=>by
 obtain⟨⟨cls,dd,data,sl⟩,g1,c1,n,d1⟩:=id x
 obtain⟨⟨cls2,dd2,data2,sl2⟩,g2,c2,n2,d2⟩:=id y
 simp only at c1 d1 c2 d2
 subst c1 d1 c2 d2
 exact richCompare_meets_room (op:=.Lt) ⟨_,g1,rfl⟩ ⟨_,g2,rfl⟩ F.slot_tuple_lt F.entry_tuple_lt (F.args_tuple_lt_2 _ _) (tupG_meets p q its its2 n n2 dd dd2 sl sl2 e r)
  ⟨g1,g2,he,hr,show Value.bool _≠Value.notImplemented/\Q (.bool _) s from⟨(fun x=>nomatch x),h⟩⟩ hu
open PySem PySem.W PyProof.Rows
noncomputable def CmpH(prog:Program)(w:World)(A:Around)(g0:Heap)(n:Nat)(P:Nat->Value->Prop)(bt:Nat->Nat->Bool):Prop :=
 ∀ j u v (s:Shared) (Q:Value->Shared->Prop) (E:Value->Shared->Prop),j+1<n->(∀ b o,g0.get? b=some o->s.heap.get? b=some o)->P (j+1) u->P (argBest bt j) v->Q (.bool (bt (j+1) (argBest bt j))) s->wpAny (model prog w) A (richCompare .Lt u v) Q E s
section
variable{prog:Program}{w:World}{A:Around}{R:Result->Shared->Prop}{I:Addr}{fp wr:List Addr}{n:Nat}{P:Nat->Value->Prop}{St:Nat->Heap->Prop}{g0:Heap}
theorem min_turns(W:Walks prog w A.in1 I fp wr n P St)(bt:Nat->Nat->Bool)(cm:CmpH prog w A.in1 g0 n P bt)(S:Addr)(nf:S∉fp)(nw:∀ b o,g0.get? b=some o->b∉wr/\b≠S) :
  ∀ (k j:Nat) (s:Shared) (x:Value) (c:Nat),n-(j+1)=k->j+1<=n->St (j+1) s.heap->(∀ b o,g0.get? b=some o->s.heap.get? b=some o)->P (argBest bt j) x ->
  s.heap.get? S=some { cls:=.type "list",dict:=none,data:=.seq #[x,x] c,slots:=#[] } ->
  (∀ v g tk,P (argBest bt (n-1)) v->(∀ b o,b∉wr->b≠S->s.heap.get? b=some o->g.get? b=some o)->R (.ok (.ret v)) { s with heap:=g,toks:=tk }) ->
  codeAny (model prog w) A (.builtin "min.loop" ⟨[.ref I,.none,.ref S],[]⟩) R s:=by
 have sw:S∉wr:=fun h=>nf (W.sub _ h)
 have nm:(toString "min"++toString ".loop":String) = "min.loop":=by decide
 intro k
 induction k with
 |zero =>
  intro j s x c hk hj st ex px hS hR
  have e:j+1=n:=by lia
  refine codeAny_builtin F.entry_min_loop ?_;rw[Around.under_plainId F.plain_min_loop _]
  show wpAny _ A.in1 (seqItems? (.ref S) >>= _) _ _ s;refine zB (wpAny_seqItems hS rfl ?_)
  show wpAny _ A.in1 (tryCatch (pyNext (.ref I)) _ >>= _) _ _ s;refine zB (wpAny_tryCatch (W.done s _ _ (e▸st) fun g tk kp=>?_))
  have hS':=kp S _ sw hS
  show wpAny _ A.in1 (updateSeq S (fun _=>#[]) >>= _) _ _ _;refine zB (wpAny_updateSeq hS' rfl (zB (wpAny_letGo (zH ?_))))
  refine hR x _ tk (by rw[<- e];exact px) fun b o bw bS z=>(Heap.get?_update_other _ _ (Ne.symm bS)).trans (kp b o bw z)
 |succ k ih =>
  intro j s x c hk hj st ex px hS hR
  have lt:j+1<n:=by omega
  refine codeAny_builtin F.entry_min_loop ?_;rw[Around.under_plainId F.plain_min_loop _]
  show wpAny _ A.in1 (seqItems? (.ref S) >>= _) _ _ s;refine zB (wpAny_seqItems hS rfl ?_)
  show wpAny _ A.in1 (tryCatch (pyNext (.ref I)) _ >>= _) _ _ s;refine zB (wpAny_tryCatch (W.item (j+1) s _ _ lt st fun v g tk pv st' kp=>?_))
  have hS':=kp S _ sw hS
  have ex':∀ b o,g0.get? b=some o->g.get? b=some o:=fun b o z=>kp b o (nw b o z).1 (ex b o z)
  show wpAny _ A.in1 (tryCatch (holding [v,v] (richCompare .Lt v x >>= _)) _ >>= _) _ _ _;refine zB (wpAny_tryCatch (wpAny_holding (zB (cm j v x _ _ _ lt ex' pv px ?_))))
  refine zB (wpAny_holding (wpAny_truthy_bool (zB (wpAny_letGo (zH ?_)))))
  cases hb:bt (j+1) (argBest bt j)with
  |true =>
   simp only[if_true];refine zB (wpAny_updateSeq hS' rfl (zB (wpAny_letGo ?_)));rw[nm]
   refine zH ⟨plainId_quiet F.plain_min_loop _,ih (j+1) _ v _ (by omega) lt (W.frame _ _ _ st' fun b bf o z=>(Heap.get?_update_other _ _ (fun h:S=b=>nf (by rw[h];exact bf))).trans z) (fun b o z=>(Heap.get?_update_other _ _ (Ne.symm (nw b o z).2)).trans (ex' b o z)) (by simp only[argBest,hb,if_true];exact pv) (Heap.get?_update_self _ hS' rfl) fun v' g' tk' pv' kp'=>?_⟩
   exact hR v' g' tk' pv' fun b o bw bS z=>kp' b o bw bS ((Heap.get?_update_other _ _ (Ne.symm bS)).trans (kp b o bw z))
  |false =>
   simp only[zAY,if_false];refine zB (wpAny_letGo ?_);rw[nm]
   refine zH ⟨plainId_quiet F.plain_min_loop _,ih (j+1) _ x c (by omega) lt st' ex' (by simp only[argBest,hb,zAY,if_false];exact px) hS' fun v' g' tk' pv' kp'=>?_⟩
   exact hR v' g' tk' pv' fun b o bw bS z=>kp' b o bw bS (kp b o bw z)
theorem min_first(W:Walks prog w A.in1 I fp wr n P St)(bt:Nat->Nat->Bool)(cm:CmpH prog w A.in1 g0 n P bt)(S:Addr)(nf:S∉fp)(nw:∀ b o,g0.get? b=some o->b∉wr/\b≠S)(hn:0<n){s:Shared}{c:Nat}(st:St 0 s.heap)(ex:∀ b o,g0.get? b=some o->s.heap.get? b=some o)
  (hS:s.heap.get? S=some { cls:=.type "list",dict:=none,data:=.seq #[] c,slots:=#[] })
  (hR:∀ v g tk,P (argBest bt (n-1)) v->(∀ b o,b∉wr->b≠S->s.heap.get? b=some o->g.get? b=some o)->R (.ok (.ret v)) { s with heap:=g,toks:=tk }) :
  codeAny (model prog w) A (.builtin "min.loop" ⟨[.ref I,.none,.ref S],[]⟩) R s:=by
 have sw:S∉wr:=fun h=>nf (W.sub _ h)
 have nm:(toString "min"++toString ".loop":String) = "min.loop":=by decide
 refine codeAny_builtin F.entry_min_loop ?_;rw[Around.under_plainId F.plain_min_loop _]
 show wpAny _ A.in1 (seqItems? (.ref S) >>= _) _ _ s;refine zB (wpAny_seqItems hS rfl ?_)
 show wpAny _ A.in1 (tryCatch (pyNext (.ref I)) _ >>= _) _ _ s;refine zB (wpAny_tryCatch (W.item 0 s _ _ hn st fun v g tk pv st' kp=>?_))
 have hS':=kp S _ sw hS
 show wpAny _ A.in1 (updateSeq S (fun _=>#[v,v]) >>= _) _ _ _;refine zB (wpAny_updateSeq hS' rfl ?_);rw[nm]
 refine zH ⟨plainId_quiet F.plain_min_loop _,min_turns W bt cm S nf nw _ 0 _ v _ rfl hn (W.frame _ _ _ st' fun b bf o z=>(Heap.get?_update_other _ _ (fun h:S=b=>nf (by rw[h];exact bf))).trans z) (fun b o z=>(Heap.get?_update_other _ _ (Ne.symm (nw b o z).2)).trans (kp b o (nw b o z).1 (ex b o z))) pv (Heap.get?_update_self _ hS' rfl) fun v' g' tk' pv' kp'=>?_⟩
 exact hR v' g' tk' pv' fun b o bw bS z=>kp' b o bw bS ((Heap.get?_update_other _ _ (Ne.symm bS)).trans (kp b o bw z))
end
end Srt
namespace L2
open PySem PySem.W PyProof.Rows Srt
open PySem PySem.W PyProof.Rows Srt
noncomputable def oI:Option Int->V
 |some i=>.int i
 |none=>.non
theorem eqAt_opt{A:Around}{s:Shared}{a b:Option Int}{u v:Value}(h:a.isSome=b.isSome)(r:RelV (oI a) u)(r':RelV (oI b) v):SeqAt.EqAt A s u v (decide (a=b)):=by
 cases a with
 |none =>
  cases b with
  |none =>
   cases r
   cases r'
   exact SeqAt.EqAt.same _
  |some y=>cases h
 |some x =>
  cases b with
  |none=>cases h
  |some y =>
   obtain⟨t,rfl⟩:=r
   obtain⟨t',rfl⟩:=r'
   have:=SeqAt.EqAt.int_int (A:=A) (s:=s) x t y t'
   have e:(x == y)=decide (some x=some y):=by
    rw[zBB,beq_iff_eq,decide_eq_true_eq]
    exact⟨fun z=>by rw[z],fun z=>by injection z⟩
   rw[e]at this
   exact this
theorem ltAt_opt{A:Around}{s:Shared}{x y:Int}{u v:Value}(r:RelV (oI (some x)) u)(r':RelV (oI (some y)) v):LtAt A s u v (decide (x<y)):=fun prog w E Q h=>by
 obtain⟨t,rfl⟩:=r
 obtain⟨t',rfl⟩:=r'
 exact rcLt h
end L2
namespace Srt
open PySem PySem.W PyProof.Rows
section
variable{prog:Program}{w:World}{A:Around}{E:Value->Shared->Prop}{s:Shared}
theorem min_listH{p:Addr}{its:Array Value}{bt:Nat->Nat->Bool}{Q:Value->Shared->Prop}(hh:A.handled=none)(lp:s.heap.IsList p its)(n0:0<its.size)(cm:CmpH prog w A.in1 s.heap its.size (fun i v=>its[i]?=some v) bt)
  (q:∀ v g tk,its[argBest bt (its.size-1)]?=some v->(∀ c o,s.heap.get? c=some o->g.get? c=some o)->Q v { s with heap:=g,toks:=tk }):wpAny (model prog w) A (call (.builtin "min") [.ref p]) Q E s:=by
 have nm:(toString "min"++toString ".loop":String) = "min.loop":=by decide
 have old:p<s.heap.objs.size:=Exists.elim lp fun _ z=>zP z.1
 refine call_function_tree F.kind_min F.plain_min F.entry_min (F.args_min1 _) ?_
 show wpAny _ A.in1 (Builtin.Builtins.bindParams "min" ["key","default"] 0 ⟨[],[]⟩ >>= _) _ _ s
 refine zB (wpAny_of_eq (show Builtin.Builtins.bindParams "min" ["key","default"] 0 ⟨[],[]⟩=pure [none,none]from rfl) ?_)
 refine zB (zH (zB (wpAny_pyIter_list lp (zB (wpAny_newObj_type ?_)))))
 rw[nm]
 have W:=Walks.list (prog:=prog) (w:=w) (A:=A.in1) hh s.heap.objs.size p (zZ old) its
 refine zH ⟨plainId_quiet F.plain_min_loop _,min_first (g0:=s.heap) W bt cm _ (fun hm=>?_) (fun c o e=>?_) n0 ⟨⟨_,zC _ (zW _ rfl),rfl,rfl⟩,(lp.push _).push _⟩ (fun c o e=>zC _ (zC _ e)) (zW _ rfl) fun v g tk pv kp=>?_⟩
 ·rw[Heap.size_push]at hm
  rcases zT.mp hm with e | hm
  ·exact absurd e (Nat.succ_ne_self _)
  ·have e:=zD.mp hm
   rw[<- e]at old
   exact absurd old (Nat.not_lt_of_le (Nat.le_succ _))
 ·have lt:=zP e
  refine⟨fun hm=>zZ lt (zD.mp hm),fun z=>?_⟩
  rw[Heap.size_push]at z
  rw[z]at lt
  exact absurd lt (Nat.not_lt_of_le (Nat.le_succ _))
 ·refine q v g tk pv fun c o e=>kp c o (fun hm=>zZ (zP e) (zD.mp hm)) (fun z=>?_) (zC _ (zC _ e))
  have lt:=zP e
  rw[Heap.size_push]at z
  rw[z]at lt
  exact absurd lt (Nat.not_lt_of_le (Nat.le_succ _))
end
end Srt
namespace L2
open PySem PySem.W PyProof.Rows Srt
noncomputable def ltP(z y:Int×Int):Prop:=z.1<y.1\/(z.1=y.1/\z.2<y.2)
noncomputable instance (z y:Int×Int):Decidable (ltP z y):=by unfold ltP;infer_instance
noncomputable def btP(rs:List (Int×Int))(i j:Nat):Bool:=decide (ltP (rs.getD i (0,0)) (rs.getD j (0,0)))
theorem best_le(rs:List (Int×Int)):∀ n,argBest (btP rs) n<=n/\∀ i,i<=n->¬ ltP (rs.getD i (0,0)) (rs.getD (argBest (btP rs) n) (0,0))
 | 0=>⟨zI _,fun i hi=>by
  obtain rfl:i=0:=by lia
  show ¬ ltP (rs.getD 0 (0,0)) (rs.getD 0 (0,0))
  unfold ltP
  lia⟩
 |n+1=>by
  obtain⟨h1,h2⟩:=best_le rs n
  unfold argBest
  cases hb:btP rs (n+1) (argBest (btP rs) n)with
  |true =>
   have hb:=of_decide_eq_true hb
   rw[if_pos rfl]
   refine⟨zI _,fun i hi=>?_⟩
   by_cases e:i=n+1
   ·rw[e]
    unfold ltP
    lia
   ·have:=h2 i (by lia)
    unfold ltP at *
    lia
  |false =>
   have hb:=of_decide_eq_false hb
   rw[if_neg zN]
   refine⟨by lia,fun i hi=>?_⟩
   by_cases e:i=n+1
   ·rw[e];exact hb
   ·exact h2 i (by lia)
open PySem PySem.W PyProof.Rows Srt
theorem ltAt_trip{X:Cx}{pins:List (Addr×Obj)}{σ:St}{H:Hp}{s:Shared}(I:Inv X pins σ H s){A:Around}(hu:A.units<cLine){a b:Addr}{x y:Int×Int}{vx vy:V}(ha:H a=some (.tup [.int x.1,.int x.2,vx]))(hb:H b=some (.tup [.int y.1,.int y.2,vy]))(ne:x.2≠y.2){s':Shared}(ex:∀ c o,s.heap.get? c=some o->s'.heap.get? c=some o) :
  LtAt A s' (.ref a) (.ref b) (decide (ltP x y)):=by
 obtain⟨its,r,pl,hz⟩:=I.tuple (SqT.of (K:=X.K) ha)
 obtain⟨its',r',pl',hz'⟩:=I.tuple (SqT.of (K:=X.K) hb)
 cases r with
 | @cons _ u1 _ _ r1 r =>
 cases r with
 | @cons _ u2 _ _ r2 r =>
 cases r with
 | @cons _ u3 _ _ r3 r =>
 cases r
 cases r' with
 | @cons _ w1 _ _ q1 r' =>
 cases r' with
 | @cons _ w2 _ _ q2 r' =>
 cases r' with
 | @cons _ w3 _ _ q3 r' =>
 cases r'
 have pl1:s'.heap.IsTuple a [u1,u2,u3].toArray:=by
  obtain⟨o,e,q⟩:=(show s.heap.IsTuple a [u1,u2,u3].toArray from pl)
  exact⟨o,ex _ _ e,q⟩
 have pl2:s'.heap.IsTuple b [w1,w2,w3].toArray:=by
  obtain⟨o,e,q⟩:=(show s.heap.IsTuple b [w1,w2,w3].toArray from pl')
  exact⟨o,ex _ _ e,q⟩
 have r1':RelV (oI (some x.1)) u1:=r1
 have r2':RelV (oI (some x.2)) u2:=r2
 have q1':RelV (oI (some y.1)) w1:=q1
 have q2':RelV (oI (some y.2)) w2:=q2
 have e1:decide (some x.1=some y.1)=decide (x.1=y.1):=decide_eq_decide.mpr ⟨fun z=>by injection z,fun z=>by rw[z]⟩
 have e2:decide (some x.2=some y.2)=false:=decide_eq_false fun z=>ne (by injection z)
 have t:=LtAt.tups (A:=A) (s:=s') (e:=fun j=>if j=0 then decide (x.1=y.1)else false) (r:=fun j=>if j=0 then decide (x.1<y.1)else decide (x.2<y.2)) hu pl1 pl2 (fun j h1 h2 up=>?_) (fun j h1 h2 up fe=>?_)
 ·have ev:lxL (fun j=>if j=0 then decide (x.1=y.1)else false) (fun j=>if j=0 then decide (x.1<y.1)else decide (x.2<y.2)) (decide ([u1,u2,u3].toArray.size <[w1,w2,w3].toArray.size)) (List.range (min [u1,u2,u3].toArray.size [w1,w2,w3].toArray.size))=decide (ltP x y):=by
   show(if decide (x.1=y.1)=true then(if false=true then _ else decide (x.2<y.2))else decide (x.1<y.1))=_
   by_cases c:x.1=y.1
   ·rw[decide_eq_true c,if_pos rfl,if_neg zN]
    exact decide_eq_decide.mpr (by unfold ltP;lia)
   ·rw[decide_eq_false c,if_neg zN]
    exact decide_eq_decide.mpr (by unfold ltP;lia)
  rw[ev]at t
  exact t
 ·match j,h1 with
  | 0,_ =>
   have:=eqAt_opt (A:=A.in1) (s:=s') (a:=some x.1) (b:=some y.1) rfl r1' q1'
   rw[e1]at this
   exact this
  | 1,_ =>
   have:=eqAt_opt (A:=A.in1) (s:=s') (a:=some x.2) (b:=some y.2) rfl r2' q2'
   rw[e2]at this
   exact this
  | 2,_=>exact nomatch (up 1 (by decide))
 ·match j,h1 with
  | 0,_=>exact ltAt_opt r1' q1'
  | 1,_=>exact ltAt_opt r2' q2'
  | 2,_=>exact nomatch (up 1 (by decide))
section
variable{X:Cx}
noncomputable abbrev Trip:=Int×Int×V
theorem call_minU(hc:X.calm=true)(hu:X.A.units+1<cLine):CallR X (.builtin "min") (fun xs H Q=>∃ (l:Addr) (as:List Addr) (rs:List Trip),xs=[.ref l]/\H l=some (.lst (as.map V.ref))/\Paired (fun a (r:Trip)=>H a=some (.tup [.int r.1,.int r.2.1,r.2.2])) as rs/\rs≠[]/\(rs.map fun r=>r.2.1).Nodup /\
  ∀ (a:Addr) (z:Trip),H a=some (.tup [.int z.1,.int z.2.1,z.2.2])->z∈rs->(∀ y∈rs,z.1<=y.1)->Q (.ref a) H):=by
 intro pins s σ H xs us Q I r h
 obtain⟨l,as,rs,rfl,hl,pa,ne,nd,q⟩:=h
 obtain⟨u,rfl,rx⟩:=vals1 r
 cases rx
 obtain⟨its,r',pl,hz⟩:=I.list (SqL.of (K:=X.K) hl)
 have er:=refs_of r'
 subst er
 have al:=pa.length
 have rp:0<rs.length:=zBA.mpr ne
 have sz:(as.map Value.ref).toArray.size=rs.length:=by rw[zG,zA,al]
 have atA:∀ (i:Nat) (v:Value),(as.map Value.ref).toArray[i]?=some v->∃ (h1:i<as.length) (h2:i<rs.length),v = .ref as[i]/\H as[i]=some (.tup [.int rs[i].1,.int rs[i].2.1,rs[i].2.2])/\(rs.map fun r=>(r.1,r.2.1)).getD i (0,0)=(rs[i].1,rs[i].2.1):=fun i v e=>by
  rw[List.getElem?_toArray,zAD]at e
  cases h:as[i]? with
  |none=>rw[h]at e;cases e
  |some a =>
   obtain⟨h1,e1⟩:=zE.mp h
   rw[h]at e
   injection e with e
   have h2:i<rs.length:=by lia
   refine⟨h1,h2,by rw[e1];exact e.symm,Paired.at pa i h1 h2,?_⟩
   rw[zAG,zAD,zF h2]
   rfl
 have bl:=(best_le (rs.map fun r=>(r.1,r.2.1)))
 refine min_listH (bt:=btP (rs.map fun r=>(r.1,r.2.1))) (I.ok.hd hc) pl.isList (by rw[sz];exact rp) (fun j u v s' Q' E' jl ex pu pv hq=>?_) fun v g tk hv kp=>?_
 ·obtain⟨h1,h2,rfl,g1,d1⟩:=atA _ _ pu
  obtain⟨h3,h4,rfl,g2,d2⟩:=atA _ _ pv
  have b1:=(bl j).1
  have dif:rs[j+1].2.1≠rs[argBest (btP (rs.map fun r=>(r.1,r.2.1))) j].2.1:=fun z=>by
   have e3:(rs.map fun r=>r.2.1)[j+1]'(by rw[zA];exact h2)=(rs.map fun r=>r.2.1)[argBest (btP (rs.map fun r=>(r.1,r.2.1))) j]'(by rw[zA];exact h4):=by rw[zR,zR];exact z
   have:=(List.getElem_inj nd).mp e3
   lia
  have t:=ltAt_trip I (A:=X.A.in1) (show X.A.in1.units<cLine from hu) (x:=(rs[j+1].1,rs[j+1].2.1)) (y:=(rs[argBest (btP (rs.map fun r=>(r.1,r.2.1))) j].1,rs[argBest (btP (rs.map fun r=>(r.1,r.2.1))) j].2.1)) g1 g2 dif ex
  have e:btP (rs.map fun r=>(r.1,r.2.1)) (j+1) (argBest (btP (rs.map fun r=>(r.1,r.2.1))) j)=decide (ltP (rs[j+1].1,rs[j+1].2.1) (rs[argBest (btP (rs.map fun r=>(r.1,r.2.1))) j].1,rs[argBest (btP (rs.map fun r=>(r.1,r.2.1))) j].2.1)):=by rw[<- d1,<- d2];rfl
  rw[e]at hq
  exact t _ _ _ _ hq
 ·rw[sz]at hv
  obtain⟨h1,h2,rfl,g1,d1⟩:=atA _ _ hv
  refine⟨.ref as[argBest (btP (rs.map fun r=>(r.1,r.2.1))) (rs.length-1)],H,I.kept kp,rfl,q _ _ g1 (zU h2) fun y hy=>?_⟩
  obtain⟨i,hi,rfl⟩:=zBT hy
  have:=(bl (rs.length-1)).2 i (by lia)
  rw[d1,zAG,zAD,zF hi]at this
  have this:¬ ltP (rs[i].1,rs[i].2.1) _:=this
  unfold ltP at this
  show _<=rs[i].1
  omega
end
end L2
namespace K63
open PySem L2 PyProof.Rows
theorem at1{x y:V}{r:List V}:atI (x :: y :: r) 1=some y:=atI_nat (j:=1) rfl
inductive spLwI(K:PySem.W.Frag)(vs:List V)(H:Hp)(Q:VK):Prop where
 |mk (t q c k:Addr) (n:Nat) (ties:List Tie) (b:Bool) (as kas:List Addr) (prs:List (Int×Int)) (ks kks:List (List Int)) (h1:vs=[.ref t,.ref q,.ref c,.ref k]) (h2:WebAt H t n ties) (h3:(∀ x∈ties,TieOk n x)) (h4:n<=8) (h5:SqB b K H q (as.map V.ref)) (h6:Paired (PrAt H) as prs) (h7:prs.length<=100) (h8:(∀ x∈prs,0<=x.1/\x.1<x.2/\x.2<n)) (h9:CutIn K H c ks) (h10:H k=some (.lst (kas.map V.ref))) (h11:TupsAt H kas kks) (h12:(∃ x∈prs,Rch (rest ties ks) x.1 x.2)) (h13:∀ (r l:Addr) (i x y:Int) (way:List Int) (H':Hp),H' r=some (.tup [.int i,.ref l])->H' l=some (.lst (way.map V.int))->0<=i/\prs[i.toNat]?=some (x,y)->(∀ z∈prs,∀ l,Pth (rest ties ks) z.1 z.2 l->lc kks way<=lc kks l)->Pth (rest ties ks) x y way->(way.length<=100/\way.Nodup)->H l=none->Same H H'->Q (.ref r) H')
noncomputable def spLw(K:PySem.W.Frag):Sp:=fun vs H Q _=>spLwI K vs H Q
structure Fnd(ks:List (List Int))(H G:Hp)(ties:List Tie)(prs:List (Int×Int))(i:Nat)(r:Trip):Prop where
 lt:0<=r.2.1/\r.2.1 <(i:Int)
 ex:Ex4 fun(l:Addr) (x y:Int) (way:List Int)=>r.2.2 = .ref l/\G l=some (.lst (way.map V.int))/\prs[r.2.1.toNat]?=some (x,y)/\r.1=lc ks way/\Pth ties x y way/\(way.length<=100/\way.Nodup)/\H l=none
theorem Fnd.same{ks:List (List Int)}{H G G':Hp}{ties:List Tie}{prs:List (Int×Int)}{i j:Nat}{r:Trip}(h:Fnd ks H G ties prs i r)(s:Same G G')(ij:i<=j):Fnd ks H G' ties prs j r:=by
 obtain⟨lt,l,x,y,way,e,g,m,c,p,wl,hl⟩:=h
 exact⟨by omega,l,x,y,way,e,s _ _ g,m,c,p,wl,hl⟩
section
variable{P:Program}{w:World}{K:PySem.W.Frag}{mg:Str->Option Value}{base:Heap}
noncomputable abbrev nLw:List Str:=["web","pairs","cut","kept","beside","found","number","a","b","ways"]
theorem scLw:FnScope nLw ["web","pairs","cut","kept"] (defScope sLoosestWay):=⟨rfl,rfl,rfl,by decide +kernel,rfl,by decide +kernel,by decide +kernel⟩
theorem ok_lw{f g1 g2 g3:Addr}{fd d1 d2 d3:FuncData}(F:Fun K "loosest_way" "loosest_way" sLoosestWay f fd)(T:Txt mg)(T2:Txt2 mg)(GB:CalF P w K mg base 1 "beside_each" ["web"] spBes g1 d1)(GO:CalF P w K mg base 1 "without" ["web","cut"] (spWout K) g2 d2)(GW:CalF P w K mg base 1 "ways_from" ["beside","kept","start"] spWf g3 d3):FnOk P w K mg base CX0 2 f fd ["web","pairs","cut","kept"] (spLw K):=by
 refine F.ok scLw (fun vs H Q E h=>?_) (fun cdv A outer s H vs Q E hr h=>?_)
 ·obtain⟨t,q,c,k,n,ties,b,as,kas,prs,ks,kks,rfl,_⟩:=h
  rfl
 ·obtain⟨t,q,c,k,n,ties,b,as,kas,prs,ks,kks,rfl,W,ok,n8,sq,pp,pl,po,cu,gk,tk,hang,fin⟩:=h
  have hr1:Room 1 _:=hr
  have hu:_+1<cLine:=Nat.lt_of_le_of_lt (Nat.add_le_add_left (show 1<=64 by decide) _) hr.units
  refine⟨_,(pss_cons (ps_set (i:=4) scLw.nd rfl (Or.inl rfl) (pe_call GB.ok hr1 rfl GB.mg GB.kp GB.bd .nil pass0 (@pa_call _ _ _ _ _ _ _ _ (pe_call GO.ok hr1 rfl GO.mg GO.kp GO.bd .nil pass0 (@pa_nam _ _ _ _ _ _ (pv 0) (@pa_nam _ _ _ _ _ _ (pv 2) pa_nil))) pa_nil)))
   (pss_cons (ps_set (i:=5) scLw.nd rfl (Or.inl rfl) (@pe_lst _ _ _ _ pa_nil))
   (pss_cons (ps_for PassesOwn.never rfl (pi_enumB b rfl T2.enum (@pa_nam _ _ _ _ _ _ (pv 1) pa_nil)) (pg_tup (n:=2) rfl (pgs_cons (pg_name (i:=6) scLw.nd rfl (Or.inl rfl)) (pgs_cons (pg_tup (n:=2) rfl (pgs_cons (pg_name (i:=7) scLw.nd rfl (Or.inl rfl)) (pgs_cons (pg_name (i:=8) scLw.nd rfl (Or.inl rfl)) pgs_nil))) pgs_nil)))
   (pss_cons (ps_set (i:=9) scLw.nd rfl (Or.inl rfl) (pe_call GW.ok hr1 rfl GW.mg GW.kp GW.bd .nil pass0 (@pa_nam _ _ _ _ _ _ (pv 4) (@pa_nam _ _ _ _ _ _ (pv 3) (@pa_nam _ _ _ _ _ _ (pv 7) pa_nil)))))
   (pss_one (ps_if (pt_cmp (pc_din hu (pv 8) (pv 9))) (pss_one (ps_expr (pe_bmH PySem.F.slot_list_append PySem.F.type_list_append mt_append (pv 5) (@pa_tup _ _ _ _ _ _ _ (@pe_tup _ _ _ _ _ (@pa_sub _ _ _ _ _ _ _ (@pe_ix _ _ _ _ _ _ _ ix_tupH (pe_dget hu (pv 9) (pv 8) (fun _ _=>rfl)) pe_int (fun _ _=>rfl)) (@pa_nam _ _ _ _ _ _ (pv 6) (@pa_sub _ _ _ _ _ _ _ (@pe_ix _ _ _ _ _ _ _ ix_tupH (pe_dget hu (pv 9) (pv 8) (fun _ _=>rfl)) pe_int (fun _ _=>rfl)) pa_nil)))) pa_nil)))) pss_nil))))
   (pss_one (ps_ret (pe_slice sl_tupA (pe_callB (call_minU rfl hu) (by rfl) T.min boot_min (@pa_nam _ _ _ _ _ _ (pv 5) pa_nil)) (po_some pe_int) po_none)))))),?_⟩
  have lpp:=pp.length
  have okr:∀ x∈rest ties ks,TieOk n x:=fun x hx=>ok x (mem_rest.mp hx).1
  have rl:(rest ties ks).length<=60:=zAC (zBG _ _) W.2
  refine⟨_,rfl,_,rfl,t,c,n,ties,ks,rfl,W,cu,fun t' H1 ht' s1 W1=>⟨t',n,rest ties ks,rfl,W1,okr,by lia,fun bl as0 H2 gb al BA s12=>?_⟩⟩
  have s2:=s1.trans s12
  refine⟨(by show 0<=sizeLine;decide),fun fl hfl=>?_⟩
  have sf:=Same.new (o:=.lst []) hfl
  have fl0:H fl=none:=s2.free hfl
  have fl2:H2 fl=none:=hfl
  have gfl:(upd H2 fl (.lst [])) fl=some (.lst []):=upd_same
  generalize (upd H2 fl (.lst []))=H3 at sf gfl
  refine⟨_,rfl,q,rfl,⟨_,(s2.trans sf).seqB sq⟩,?_⟩
  refine for_enumB (b:=b) (K:=K) (l:=q) (xs:=as.map V.ref) (fun i σ G=>Ex6 fun(cs:List Addr) (rs:List Trip) (v6 v7 v8 v9:Option V)=>σ=[some (.ref t),some (.ref q),some (.ref c),some (.ref k),some (.ref bl),some (.ref fl),v6,v7,v8,v9]/\Same H2 G/\G fl=some (.lst (cs.map V.ref))/\Paired (fun a (r:Trip)=>G a=some (.tup [.int r.1,.int r.2.1,r.2.2])) cs rs/\cs.length<=i/\(∀ r∈rs,Fnd kks H G (rest ties ks) prs i r/\∀ l,r.2.2 = .ref l->l≠fl)/\(rs.map fun r=>r.2.1).Nodup/\((∃ x∈prs.take i,Rch (rest ties ks) x.1 x.2)->rs≠[])/\∀ x∈prs.take i,∀ l,Pth (rest ties ks) x.1 x.2 l->∃ r∈rs,r.1<=lc kks l) ⟨[],[],_,_,_,_,rfl,sf,gfl,.nil,zI _,(fun r hr=>nomatch hr),zAS,fun⟨x,hx,_⟩=>(nomatch hx),fun x hx=>(nomatch hx)⟩ (fun i σ G _ z=>by obtain⟨_,_,_,_,_,_,_,s,_⟩:=z;exact(s2.trans s).seqB sq) ?_ ?_
  ·rintro i x σ G U hx ⟨cs,rs,v6,v7,v8,v9,rfl,sG,gf,pc,cl,fd,nd,ne,lo⟩ hU
   obtain⟨il,e⟩:=zE.mp hx
   rw[zA]at il
   rw[zR]at e
   subst e
   have ip:i<prs.length:=by lia
   have sU:=Same.new (o:=.tup [V.int i,.ref as[i]]) hU
   have s2U:=sG.trans sU
   have gx:=s2U _ _ (s2 _ _ (Paired.at pp i il ip))
   obtain⟨x0,x1,x2⟩:=po _ (zU ip)
   refine⟨U,_,rfl,SqT.of upd_same,rfl,_,_,rfl,⟨_,_,rfl,as[i],_,rfl,SqT.of gx,rfl,_,_,rfl,_,_,rfl,rfl,rfl,?_⟩⟩
   have gfU:=sU _ _ gf
   have pcU:Paired (fun a (r:Trip)=>(upd G U (.tup [V.int i,.ref as[i]])) a=some (.tup [.int r.1,.int r.2.1,r.2.2])) cs rs:=Paired.mapP pc fun _ _ h=>sU _ _ h
   have fdU:∀ r∈rs,Fnd kks H (upd G U (.tup [V.int i,.ref as[i]])) (rest ties ks) prs i r/\∀ l,r.2.2 = .ref l->l≠fl:=fun r hr=>⟨(fd r hr).1.same sU (zI _),(fd r hr).2⟩
   generalize (upd G U (.tup [V.int i,.ref as[i]]))=G1 at s2U gfU pcU fdU
   clear gx sG gf pc fd sU hU
   have sH1:=s2.trans s2U
   refine⟨_,rfl,_,rfl,_,rfl,bl,k,prs[i].1,n,rest ties ks,as0,kas,kks,rfl,s2U _ _ gb,al,fun j hj=>?_,okr,rl,n8,sH1 _ _ gk,Paired.mapP tk (fun _ _ h=>sH1 _ _ h),x0,by lia,fun d Ks av lv f G2 gd wy pth low all s12'=>?_⟩
   ·obtain⟨xs,h1,h2⟩:=BA j hj
    exact⟨xs,s2U _ _ h1,Paired.mapP h2 fun _ _ h=>s2U _ _ h⟩
   have q1:=DGet.k (k:=Sum.inl prs[i].2) gd
   rw[dkv_val]at q1
   have s22:=s2U.trans s12'
   have gf2:=s12' _ _ gfU
   have pc2:Paired (fun a (r:Trip)=>G2 a=some (.tup [.int r.1,.int r.2.1,r.2.2])) cs rs:=Paired.mapP pcU fun _ _ h=>s12' _ _ h
   have tk2:prs.take (i+1)=prs.take i++[prs[i]]:=zL ip
   by_cases bK:prs[i].2∈Ks
   ·rw[if_pos bK]at q1
    obtain⟨ga,gl,hl⟩:=wy _ bK
    obtain⟨pt,wl,cn⟩:=pth _ bK
    have hlG:G1 (lv prs[i].2)=none:=hl
    have nl:lv prs[i].2≠fl:=fun e=>by rw[e,gfU]at hlG;cases hlG
    refine⟨_,rfl,_,rfl,d,_,rfl,q1,_,rfl,iteT ?_⟩
    refine⟨_,rfl,⟨fl,_,rfl,gf2⟩,_,rfl,_,rfl,d,_,rfl,q1,_,_,_,_,rfl,rfl,ga,at0,_,rfl,_,rfl,_,rfl,d,_,rfl,q1,_,_,_,_,rfl,rfl,ga,at1,(by show 3<=sizeLine;decide),fun tp htp=>?_⟩
    have stp:=Same.new (o:=.tup [.int (f prs[i].2).1,.int (i:Int),.ref (lv prs[i].2)]) htp
    have nft:fl≠tp:=fun e=>by rw[e,htp]at gf2;cases gf2
    refine⟨fl,_,_,rfl,rfl,stp _ _ gf2,by rw[zA,sizeLine_eq];lia,?_⟩
    have ec:cs.map V.ref++[V.ref tp]=(cs++[tp]).map V.ref:=by rw[zJ];rfl
    rw[ec]
    have keep:∀ {a:Addr}{o:HO}{o':HO},a≠fl->G2 a=some o->(upd (upd G2 tp (.tup [.int (f prs[i].2).1,.int (i:Int),.ref (lv prs[i].2)])) fl o') a=some o:=fun {a o o'} na h=>by
     rw[upd_ne na]
     exact stp _ _ h
    refine⟨cs++[tp],rs++[((f prs[i].2).1,(i:Int),.ref (lv prs[i].2))],_,_,_,_,rfl,same_put (s22.trans stp) fl2,upd_same,?_,by rw[zK,zX];lia,fun r hr=>?_,?_,fun _ z=>by simp at z,fun x hx l hl=>?_⟩
    ·refine Paired.snoc (Paired.mapP pc2 fun a r h=>keep (fun e=>by rw[e,gf2]at h;cases h) h) ?_
     show(upd _ fl _) tp=_
     rw[upd_ne (Ne.symm nft)]
     exact upd_same
    ·rcases zO.mp hr with h | h
     ·obtain⟨⟨lt,l,x,y,way,e,g,m,c,p,wl',hl'⟩,nf⟩:=fdU r h
      exact⟨⟨by lia,l,x,y,way,e,keep (nf l e) (s12' _ _ g),m,c,p,wl',hl'⟩,nf⟩
     ·rw[zD.mp h]
      refine⟨⟨by show(0:Int)<=(i:Int)/\(i:Int) <((i+1:Nat):Int);lia,lv prs[i].2,prs[i].1,prs[i].2,(f prs[i].2).2,rfl,keep nl gl,(by show prs[((i:Nat):Int).toNat]?=_;rw[zAO,zF ip]),cn,pt,wl,sH1.free hlG⟩,fun l e=>?_⟩
      have e:V.ref (lv prs[i].2)=V.ref l:=e
      injection e with e
      rw[<- e];exact nl
    ·rw[zJ]
     refine zAV.mpr ⟨nd,zAK _ _,fun a ha b hb e=>?_⟩
     obtain⟨r,hr,rfl⟩:=zAA.mp ha
     have:=(fdU r hr).1.lt
     have hb:b=(i:Int):=by simpa using hb
     lia
    ·rw[tk2]at hx
     rcases zO.mp hx with h | h
     ·obtain⟨r,hr,le⟩:=lo x h l hl
      exact⟨r,zV _ hr,le⟩
     ·rw[zD.mp h]at hl
      exact⟨_,zM _ (zD.mpr rfl),(low _ _ hl).2⟩
   ·rw[if_neg bK]at q1
    refine⟨_,rfl,_,rfl,d,_,rfl,q1,_,rfl,iteF ?_⟩
    refine⟨cs,rs,_,_,_,_,rfl,s22,gf2,pc2,by lia,fun r hr=>⟨(fdU r hr).1.same s12' (by lia),(fdU r hr).2⟩,nd,fun⟨x,hx,rx⟩=>?_,fun x hx l hl=>?_⟩
    ·rw[tk2]at hx
     rcases zO.mp hx with h | h
     ·exact ne ⟨x,h,rx⟩
     ·rw[zD.mp h]at rx
      exact absurd (all _ rx) bK
    ·rw[tk2]at hx
     rcases zO.mp hx with h | h
     ·exact lo x h l hl
     ·rw[zD.mp h]at hl
      exact absurd (low _ _ hl).1 bK
  ·rintro σ G ⟨cs,rs,v6,v7,v8,v9,rfl,sG,gf,pc,cl,fd,nd,ne,lo⟩
   rw[zA,zAM (by lia)]at ne lo
   refine⟨_,rfl,fl,cs,rs,rfl,gf,pc,ne hang,nd,fun a z ga hz hle=>?_⟩
   obtain⟨⟨lt,l,x,y,way,e,g,m,c,p,wl,hl⟩,_⟩:=fd z hz
   refine⟨1,rfl,a,_,rfl,ga,fun r G2 sr gr=>?_⟩
   rw[e]at gr
   exact fin r l z.2.1 x y way G2 gr (sr _ _ g) ⟨lt.1,m⟩ (fun u hu l' hl'=>by obtain⟨r',hr',le⟩:=lo u hu l' hl';have:=hle r' hr';rw[<- c];lia) p wl hl (s2.trans (sG.trans sr))
end
open PySem L2 PyProof.Rows
noncomputable def prOf(x:Tie):Int×Int:=(x.1,x.2.1)
theorem pair_inj{ties:List Tie}(h:ties.Pairwise tieLt){x y:Tie}(hx:x∈ties)(hy:y∈ties)(e:pairOf x=pairOf y):x=y:=by
 have ir:∀ z w:Tie,pairOf z=pairOf w->¬ tieLt z w:=fun z w e l=>by
  have l:Srt.lexlt (pairOf z) (pairOf w)=true:=l
  rw[e,Srt.lexlt_irrefl]at l
  cases l
 induction h with
 |nil=>cases hx
 |cons r _ ih =>
  rcases zT.mp hx with a | a <;> rcases zT.mp hy with b | b
  ·rw[a,b]
  ·subst a
   exact absurd (r y b) (ir _ _ e)
  ·subst b
   exact absurd (r x a) (ir _ _ e.symm)
  ·exact ih a b
theorem pr_pair{x y:Tie}(e:prOf x=prOf y):pairOf x=pairOf y:=by
 have e1:x.1=y.1:=(Prod.ext_iff.mp e).1
 have e2:x.2.1=y.2.1:=(Prod.ext_iff.mp e).2
 show [x.1,x.2.1]=[y.1,y.2.1]
 rw[e1,e2]
noncomputable def wt(l:List Tie):Int:=(l.map fun x=>x.2.2).sum
theorem wt_nn{l:List Tie}(h:∀ x∈l,0<=x.2.2):0<=wt l:=by
 induction l with
 |nil=>exact zAZ _
 |cons a l ih =>
  have:=ih fun x hx=>h x (zQ _ hx)
  have:=h a zS
  show 0<=((a :: l).map fun x=>x.2.2).sum
  rw[zAB,List.sum_cons]
  show 0<=a.2.2+wt l
  lia
theorem wt_perm{l m:List Tie}(h:l.Perm m):wt l=wt m:=by
 induction h with
 |nil=>rfl
 |cons x _ ih=>show x.2.2+wt _=x.2.2+wt _;rw[ih]
 |swap x y l =>
  show y.2.2+(x.2.2+wt l)=x.2.2+(y.2.2+wt l)
  lia
 |trans _ _ a b=>rw[a,b]
theorem wt_le{l m:List Tie}(nd:l.Nodup)(sub:∀ x∈l,x∈m)(h:∀ x∈m,0<=x.2.2):wt l<=wt m:=by
 induction l generalizing m with
 |nil=>exact wt_nn h
 |cons a l ih =>
  have nd:=zBN.mp nd
  have ha:=sub a zS
  rw[wt_perm (List.perm_cons_erase ha)]
  show a.2.2+wt l<=a.2.2+wt (m.erase a)
  have:=ih (m:=m.erase a) nd.2 (fun g hg=>(List.mem_erase_of_ne (fun(e:g=a)=>nd.1 (by rw[<- e];exact hg))).mpr (sub g (zQ _ hg))) fun x hx=>h x (List.mem_of_mem_erase hx)
  lia
noncomputable def lft(ties:List Tie)(X:Tie->Bool):List Tie:=ties.filter fun x=>!X x
noncomputable def wX(ties:List Tie)(X:Tie->Bool):Int:=wt (ties.filter X)
noncomputable def Prt(ties:List Tie)(prs:List (Int×Int))(X:Tie->Bool):Prop:=∀ p∈prs,¬ Rch (lft ties X) p.1 p.2
structure Cov(ties cts:List Tie)(kp:List (Int×Int))(X:Tie->Bool):Prop where
 on:∀ c∈cts,X c=true
 off:∀ x∈ties,prOf x∈kp->X x=false
structure Cts(ties cts:List Tie):Prop where
 nd:cts.Nodup
 sub:∀ x∈cts,x∈ties
theorem Cov.le{ties cts:List Tie}{kp:List (Int×Int)}{X:Tie->Bool}(c:Cov ties cts kp X)(C:Cts ties cts)(nn:∀ x∈ties,0<=x.2.2):wt cts<=wX ties X :=
 wt_le C.nd (fun x hx=>zAL.mpr ⟨C.sub x hx,c.on x hx⟩) fun x hx=>nn x (zAL.mp hx).1
theorem Cov.add{ties cts:List Tie}{kp lo:List (Int×Int)}{X:Tie->Bool}(c:Cov ties cts kp X){t:Tie}(ht:X t=true)(hl:∀ x∈ties,prOf x∈lo->X x=false):Cov ties (cts++[t]) (kp++lo) X:=by
 refine⟨fun x hx=>?_,fun x hx h=>?_⟩
 ·rcases zO.mp hx with h | h
  ·exact c.on x h
  ·rw[zD.mp h];exact ht
 ·rcases zO.mp h with h | h
  ·exact c.off x hx h
  ·exact hl x hx h
theorem Cts.add{ties cts:List Tie}(c:Cts ties cts){t:Tie}(ht:t∈ties)(hn:t∉cts):Cts ties (cts++[t]):=by
 refine⟨zAV.mpr ⟨c.nd,zAK _ _,fun a ha b hb e=>?_⟩,fun x hx=>?_⟩
 ·rw[zD.mp hb]at e
  exact hn (e▸ha)
 ·rcases zO.mp hx with h | h
  ·exact c.sub x h
  ·rw[zD.mp h];exact ht
theorem prT_lt{a b:Int}(h:a<b):prT a b=(a,b)/\prT b a=(a,b):=by
 unfold prT
 rw[if_neg (by lia),if_pos (by omega),if_pos (by omega),if_neg (by lia)]
 exact⟨rfl,rfl⟩
theorem Pth.cut{T T':List Tie}{n:Nat}(ok:∀ x∈T,TieOk n x){s u:Int}{l:List Int}(h:Pth T s u l):(∀ t∈T,prOf t∈alg l->t∈T')->Rch T' s u:=by
 induction h with
 |one=>exact fun _=>.refl _
 | @more u v w l hp hb ih =>
  intro hT
  obtain⟨l',rfl⟩:=hp.last
  rw[alg_snoc]at hT
  have r:=ih fun t ht hm=>hT t ht (zV _ hm)
  rcases(mem_beside ok).mp hb with m | m
  ·have lt:u<v:=(ok _ m).2.1
   exact r.trans (.up (hT _ m (zM _ (by rw[(prT_lt lt).1];exact zD.mpr rfl))) (.refl _))
  ·have lt:v<u:=(ok _ m).2.1
   exact r.trans (.dn (hT _ m (zM _ (by rw[(prT_lt lt).2];exact zD.mpr rfl))) (.refl _))
theorem Pth.tie{T:List Tie}{n:Nat}(ok:∀ x∈T,TieOk n x){s u:Int}{l:List Int}(h:Pth T s u l):∀ p∈alg l,∃ t∈T,prOf t=p:=by
 induction h with
 |one=>exact fun p hp=>nomatch hp
 | @more u v w l hp hb ih =>
  intro p hm
  obtain⟨l',rfl⟩:=hp.last
  rw[alg_snoc]at hm
  rcases zO.mp hm with h | h
  ·exact ih p h
  ·rw[zD.mp h]
   rcases(mem_beside ok).mp hb with m | m
   ·exact⟨_,m,((prT_lt (ok _ m).2.1).1).symm⟩
   ·exact⟨_,m,((prT_lt (ok _ m).2.1).2).symm⟩
theorem Pth.hit{ties cts:List Tie}{kp prs:List (Int×Int)}{X:Tie->Bool}{n:Nat}(ok:∀ x∈ties,TieOk n x)(c:Cov ties cts kp X)(pr:Prt ties prs X){x y:Int}{way:List Int}(hxy:(x,y)∈prs)(h:Pth (rest ties (cts.map pairOf)) x y way) :
  ∃ t∈ties,X t=true/\prOf t∈(alg way).filter fun p=>!decide (p∈kp):=by
 refine Classical.byContradiction fun z=>pr _ hxy (h.cut (T':=lft ties X) (fun x hx=>ok x (mem_rest.mp hx).1) fun t ht ha=>?_)
 have tm:=(mem_rest.mp ht).1
 refine zAL.mpr ⟨tm,?_⟩
 cases e:X t with
 |false=>rfl
 |true =>
  refine absurd ⟨t,tm,e,zAL.mpr ⟨ha,?_⟩⟩ z
  have:prOf t∉kp:=fun k=>by have:=c.off t tm k;rw[e]at this;cases this
  rw[decide_eq_false this];rfl
theorem perm_map_inv{α β:Type}{f:α->β}{l r:List β}(h:l.Perm r):∀ m:List α,m.map f=r->∃ m':List α,m'.Perm m/\m'.map f=l:=by
 induction h with
 |nil=>intro m e;cases m with
  |nil=>exact⟨[],.nil,rfl⟩
  |cons _ _=>cases e
 |cons x _ ih=>intro m e;cases m with
  |nil=>cases e
  |cons a m =>
   injection e with e1 e2
   obtain⟨m',p,q⟩:=ih m e2
   exact⟨a :: m',.cons _ p,by rw[zAB,q,e1]⟩
 |swap x y l=>intro m e;cases m with
  |nil=>cases e
  |cons a m=>cases m with
   |nil=>injection e with _ e;cases e
   |cons b m =>
    injection e with e1 e2
    injection e2 with e2 e3
    exact⟨b :: a :: m,.swap _ _ _,by rw[zAB,zAB,e1,e2,e3]⟩
 |trans _ _ i j =>
  intro m e
  obtain⟨m1,p1,q1⟩:=j m e
  obtain⟨m2,p2,q2⟩:=i m1 q1
  exact⟨m2,p2.trans p1,q2⟩
theorem rest_perm{ties a b:List Tie}(h:a.Perm b):rest ties (a.map pairOf)=rest ties (b.map pairOf):=by
 unfold rest
 refine List.filter_congr fun x _=>?_
 rw[decide_eq_decide.mpr (h.map pairOf).mem_iff]
theorem heads_rch{n:Nat}{T:List Tie}{hs:List Int}(ih:IsHeads n T hs){a b:Int}(a0:0<=a)(a1:a<n)(b0:0<=b)(b1:b<n):hAt hs a=hAt hs b↔Rch T a b:=by
 have ra:=ih.rch a a0 a1
 have rb:=ih.rch b b0 b1
 refine⟨fun e=>ra.trans (e▸rb.symm),fun r=>Int.le_antisymm (ih.least a a0 a1 _ (r.trans rb)) (ih.least b b0 b1 _ (r.symm.trans ra))⟩
noncomputable def Parted(ties:List Tie)(prs:List (Int×Int))(bts:List Tie):Prop:=∀ p∈prs,¬ Rch (rest ties (bts.map pairOf)) p.1 p.2
theorem parted_heads{n:Nat}{ties cts:List Tie}{prs:List (Int×Int)}{hs:List Int}(po:∀ x∈prs,0<=x.1/\x.1<x.2/\x.2<n)(ih:IsHeads n (rest ties (cts.map pairOf)) hs) :
  ((apart hs prs).all id=true->Parted ties prs cts)/\((apart hs prs).all id=false->∃ x∈prs,Rch (rest ties (cts.map pairOf)) x.1 x.2):=by
 unfold apart
 refine⟨fun h p hp r=>?_,fun h=>?_⟩
 ·have h:=zBI.mp h _ (zAA.mpr ⟨p,hp,rfl⟩)
  obtain⟨o1,o2,o3⟩:=po p hp
  have:=(heads_rch ih (by omega) (by lia) (by lia) (by omega)).mpr r
  rw[decide_eq_true this]at h
  cases h
 ·obtain⟨b,hb,e⟩:=List.all_eq_false.mp h
  obtain⟨p,hp,rfl⟩:=zAA.mp hb
  obtain⟨o1,o2,o3⟩:=po p hp
  refine⟨p,hp,(heads_rch ih (by omega) (by lia) (by lia) (by omega)).mp ?_⟩
  refine Decidable.byContradiction fun z=>e ?_
  rw[decide_eq_false z];rfl
open PySem L2 PyProof.Rows
noncomputable def loo(way:List Int)(kp:List (Int×Int)):List (Int×Int):=(alg way).filter fun p=>!decide (p∈kp)
theorem mem_loo{way:List Int}{kp:List (Int×Int)}{p:Int×Int}:p∈loo way kp↔p∈alg way/\p∉kp:=by
 unfold loo
 rw[zAL]
 simp
theorem mem_prs{p:Int×Int}{l:List (Int×Int)}:([p.1,p.2]:List Int)∈l.map (fun t=>[t.1,t.2])↔p∈l:=by
 rw[zAA]
 refine⟨fun⟨x,hx,e⟩=>?_,fun h=>⟨p,h,rfl⟩⟩
 injection e with e1 e2
 injection e2 with e2 _
 have:x=p:=Prod.ext e1 e2
 rw[<- this];exact hx
theorem lc_loo(kp:List (Int×Int))(l:List Int):lc (kp.map fun p=>[p.1,p.2]) l=(((loo l kp).length:Nat):Int):=by
 unfold lc loo
 generalize alg l=L
 induction L with
 |nil=>rfl
 |cons p L ih =>
  rw[zAB,List.sum_cons,ih,zAP]
  unfold cst
  by_cases h:p∈kp
  ·rw[if_pos (mem_prs.mpr h),decide_eq_true h,Int.zero_add]
   rfl
  ·rw[if_neg fun z=>h (mem_prs.mp z),decide_eq_false h]
   show 1+_=(((p :: _).length:Nat):Int)
   rw[zAN]
   lia
theorem alg_mem:∀ {l:List Int}{p:Int×Int},p∈alg l->∃ u∈l,∃ v∈l,p=prT u v
 |[],_,h=>nomatch h
 |[_],_,h=>nomatch h
 |a :: b :: l,p,h=>by
  have h:p∈prT a b :: alg (b :: l):=h
  rcases zT.mp h with e | e
  ·exact⟨a,zS,b,zQ _ zS,e⟩
  ·obtain⟨u,hu,v,hv,e⟩:=alg_mem e
   exact⟨u,zQ _ hu,v,zQ _ hv,e⟩
theorem prT_in{a b u v:Int}(h:prT a b=prT u v):a=u\/a=v:=by
 unfold prT at h
 injection h with h1 h2
 split at h1 <;> split at h1 <;> split at h2 <;> split at h2 <;> lia
theorem alg_nd:∀ {l:List Int},l.Nodup->(alg l).Nodup
 |[],_=>zAS
 |[_],_=>zAS
 |a :: b :: l,h=>by
  obtain⟨h1,h2⟩:=zBN.mp h
  refine zBN.mpr ⟨fun z=>?_,alg_nd h2⟩
  obtain⟨u,hu,v,hv,e⟩:=alg_mem (l:=b :: l) z
  rcases prT_in e with e | e
  ·exact h1 (e▸hu)
  ·exact h1 (e▸hv)
theorem Pth.mono{T T':List Tie}{n:Nat}(ok:∀ x∈T',TieOk n x)(sub:∀ x∈T,x∈T'){s v:Int}{l:List Int}(h:Pth T s v l):Pth T' s v l:=by
 induction h with
 |one=>exact .one
 |more _ hb ih=>exact .more ih ((mem_beside ok).mpr (((mem_beside fun x hx=>ok x (sub x hx)).mp hb).imp (sub _) (sub _)))
noncomputable def Few(ties cts:List Tie)(prs kp:List (Int×Int)):Prop:=∀ z∈prs,∀ l:List Int,l.Nodup->Pth (rest ties (cts.map pairOf)) z.1 z.2 l->loo l kp≠[]
theorem few_zero{ties:List Tie}{prs:List (Int×Int)}(po:∀ x∈prs,x.1<x.2):Few ties [] prs []:=fun z hz l _ h e=>by
 have lt:=po z hz
 generalize hx:z.1=x at *
 generalize hy:z.2=y at *
 cases h with
 |one=>lia
 | @more u v w l' hp hb =>
  obtain⟨l2,rfl⟩:=hp.last
  have:prT u y∈loo ((l2++[u])++[y]) []:=mem_loo.mpr ⟨by rw[alg_snoc];exact zM _ (zD.mpr rfl),fun z=>nomatch z⟩
  rw[e]at this
  cases this
theorem few_step{ties cts:List Tie}{n:Nat}(ok:∀ x∈ties,TieOk n x){prs kp:List (Int×Int)}{way:List Int}(F:∀ z∈prs,∀ l,Pth (rest ties (cts.map pairOf)) z.1 z.2 l->(loo way kp).length<=(loo l kp).length){i:Nat}(hi:i <(loo way kp).length)(ti:Tie):Few ties (cts++[ti]) prs (kp++(loo way kp).take i):=fun z hz l nd h e=>by
 have h1:=F z hz l (h.mono (fun x hx=>ok x (mem_rest.mp hx).1) fun x hx=>by
  obtain⟨a,b⟩:=mem_rest.mp hx
  exact mem_rest.mpr ⟨a,fun y=>b (by rw[zJ];exact zV _ y)⟩)
 have h2:=nodup_le (l:=loo l kp) (m:=(loo way kp).take i) ((alg_nd nd).filter _) fun p hp=>Classical.byContradiction fun y=>by
  obtain⟨a,b⟩:=mem_loo.mp hp
  have:p∈loo l (kp++(loo way kp).take i):=mem_loo.mpr ⟨a,fun z=>(zO.mp z).elim b y⟩
  rw[e]at this
  cases this
 rw[zAH]at h2
 lia
noncomputable def nw(H G:Hp):Hp:=fun a=>match H a with
 |none=>G a
 |some _=>none
theorem nw_of{H G:Hp}{a:Addr}{o:HO}(h:H a=none)(g:G a=some o):nw H G a=some o:=by unfold nw;rw[h];exact g
theorem nw_to{H G:Hp}{a:Addr}{o:HO}(h:nw H G a=some o):H a=none/\G a=some o:=by
 unfold nw at h
 cases e:H a with
 |none=>rw[e]at h;exact⟨rfl,h⟩
 |some _=>rw[e]at h;cases h
noncomputable def nwo(H:Hp)(c:Addr)(G:Hp):Hp:=fun a=>if a=c then none else nw H G a
theorem nwo_of{H G:Hp}{a c:Addr}{o:HO}(h:H a=none)(n:a≠c)(g:G a=some o):nwo H c G a=some o:=by unfold nwo;rw[if_neg n];exact nw_of h g
theorem nwo_to{H G:Hp}{a c:Addr}{o:HO}(h:nwo H c G a=some o):H a=none/\a≠c/\G a=some o:=by
 unfold nwo at h
 by_cases e:a=c
 ·rw[if_pos e]at h;cases h
 ·rw[if_neg e]at h;exact⟨(nw_to h).1,e,(nw_to h).2⟩
noncomputable def End(E:Hp)(ties:List Tie)(prs:List (Int×Int))(v:Int):Nat->List Tie->List (Int×Int)->V->Prop
 | 0=>fun _ _ _=>False
 |d+1=>fun cts kp tr=>(∃ a,tr = .ref a/\E a=some (.tup [.str "dear"])/\v<=wt cts)\/Ex8 fun(a l ta:Addr) (num x y:Int) (way:List Int) (trs:List V)=>tr = .ref a/\E a=some (.tup [.str "way",.int num,.ref l,.ref ta])/\E l=some (.lst (way.map V.int))/\E ta=some (.tup trs)/\(0<=num/\prs[num.toNat]?=some (x,y))/\Pth (rest ties (cts.map pairOf)) x y way/\(way.length<=100/\way.Nodup)/\loo way kp≠[]/\trs.length=(loo way kp).length/\∀ (i:Nat) (t:Tie) (r:V),t∈ties->(loo way kp)[i]?=some (prOf t)->trs[i]?=some r->End E ties prs v d (cts++[t]) (kp++(loo way kp).take i) r
theorem End.to{E E':Hp}{ties:List Tie}{prs:List (Int×Int)}{v v':Int}(k:∀ a o,E a=some o->E' a=some o)(le:v'<=v):∀ {d:Nat}{cts:List Tie}{kp:List (Int×Int)}{tr:V},End E ties prs v d cts kp tr->End E' ties prs v' d cts kp tr
 | 0,_,_,_,h=>h
 |d+1,_,_,_,.inl ⟨a,e,g,w⟩=>.inl ⟨a,e,k _ _ g,Int.le_trans le w⟩
 |d+1,_,_,_,.inr ⟨a,l,ta,num,x,y,way,trs,e,g,gl,gt,nm,p,wl,ne,tl,h⟩=>.inr ⟨a,l,ta,num,x,y,way,trs,e,k _ _ g,k _ _ gl,k _ _ gt,nm,p,wl,ne,tl,fun i t r ht hl hr=>(h i t r ht hl hr).to k le⟩
structure Bst(H:Hp)(ties:List Tie)(prs:List (Int×Int))(b bl:Addr)(bw:Int)(bts:List Tie):Prop where
 gb:H b=some (.tup [.int bw,.ref bl])
 gl:∃ bas:List Addr,H bl=some (.lst (bas.map V.ref))/\PairT H bas bts
 w:bw=wt bts
 c:Cts ties bts
 sr:(bts.map pairOf).Pairwise (fun x y=>Srt.lexlt y x=false)
 pt:Parted ties prs bts
theorem Bst.same{H H':Hp}{ties:List Tie}{prs:List (Int×Int)}{b bl:Addr}{bw:Int}{bts:List Tie}(h:Bst H ties prs b bl bw bts)(s:Same H H'):Bst H' ties prs b bl bw bts:=by
 obtain⟨gb,⟨bas,gl,pb⟩,w,c,sr,pt⟩:=h
 exact⟨s _ _ gb,⟨bas,s _ _ gl,pb.same s⟩,w,c,sr,pt⟩
structure Web(H:Hp)(K:PySem.W.Frag)(t q:Addr)(n:Nat)(ties:List Tie)(z:Bool)(as:List Addr)(prs:List (Int×Int)):Prop where
 W:WebAt H t n ties
 ok:∀ x∈ties,TieOk n x
 srt:ties.Pairwise tieLt
 l12:ties.length<=12
 n8:n<=8
 sq:SqB z K H q (as.map V.ref)
 pp:Paired (PrAt H) as prs
 pl:prs.length<=100
 po:∀ x∈prs,0<=x.1/\x.1<x.2/\x.2<n
theorem Web.same{H H':Hp}{K:PySem.W.Frag}{t q:Addr}{n:Nat}{ties:List Tie}{z:Bool}{as:List Addr}{prs:List (Int×Int)}(h:Web H K t q n ties z as prs)(s:Same H H'):Web H' K t q n ties z as prs :=
 ⟨h.W.same s,h.ok,h.srt,h.l12,h.n8,s.seqB h.sq,Paired.mapP h.pp fun _ _ e=>s _ _ e,h.pl,h.po⟩
theorem pair_tups{H:Hp}{as:List Addr}{ts:List Tie}(h:PairT H as ts):TupsAt H as (ts.map pairOf):=by
 induction h with
 |nil=>exact .nil
 |cons r _ ih=>exact .cons r ih
theorem tups_pair{H:Hp}:∀ {as:List Addr}{ts:List Tie},TupsAt H as (ts.map pairOf)->PairT H as ts
 |[],[],_=>.nil
 | _ :: _,_ :: _,.cons r t=>.cons r (tups_pair t)
theorem prs_tup{H:Hp}{as:List Addr}{ps:List (Int×Int)}(h:Paired (PrAt H) as ps):TupsAt H as (ps.map fun p=>[p.1,p.2]):=by
 induction h with
 |nil=>exact .nil
 |cons r _ ih=>exact .cons r ih
structure LgI(H H5:Hp)(d:Nat)(ties cts:List Tie)(prs kp los:List (Int×Int))(tl bl0:Addr)(bw0:Int)(i:Nat)(b bl:Addr)(bw:Int)(bts:List Tie)(trs:List V)(G:Hp):Prop where
 s:Same H5 G
 gt:G tl=some (.lst trs)
 tn:trs.length=i
 en:∀ (j:Nat) (t:Tie) (r:V),t∈ties->los[j]?=some (prOf t)->trs[j]?=some r->End (nwo H tl G) ties prs bw d (cts++[t]) (kp++los.take j) r
 B:Bst G ties prs b bl bw bts
 bh:bl=bl0\/H bl=none
 bt:bl≠tl
 le:bw<=bw0
 cov:∀ X,Cov ties cts kp X->Prt ties prs X->(∃ p∈los.take i,∃ t∈ties,prOf t=p/\X t=true)->bw<=wX ties X
theorem LgI.step{H H5 G G1 G2:Hp}{d:Nat}{ties cts:List Tie}{prs kp los:List (Int×Int)}{tl bl0:Addr}{bw0:Int}{i:Nat}{b bl b' bl':Addr}{bw bw':Int}{bts bts':List Tie}{trs:List V}{tr:V}(I:LgI H H5 d ties cts prs kp los tl bl0 bw0 i b bl bw bts trs G)
  (s1:Same G G1) (s2:Same G1 G2) (B':Bst G2 ties prs b' bl' bw' bts') (le':bw'<=bw) (nb:bl'=bl\/G1 bl'=none) {ti:Tie} (cv:∀ X,Cov ties (cts++[ti]) (kp++los.take i) X->Prt ties prs X->bw'<=wX ties X) (en':End (nw G1 G2) ties prs bw' d (cts++[ti]) (kp++los.take i) tr) (hi:i<los.length) (eti:prOf ti=los[i]) (tim:ti∈ties) (srt:ties.Pairwise tieLt) (H5tl:H5 tl=none) (Hs:Same H H5) :
  LgI H H5 d ties cts prs kp los tl bl0 bw0 (i+1) b' bl' bw' bts' (trs++[tr]) (upd G2 tl (.lst (trs++[tr]))):=by
 have g1:=s1 _ _ I.gt
 have g2:=s2 _ _ g1
 have s5:=I.s.trans s1
 have bt:bl'≠tl:=by
  rcases nb with e | e
  ·rw[e];exact I.bt
  ·intro z;rw[z,g1]at e;cases e
 refine⟨same_put (s5.trans s2) H5tl,upd_same,by rw[zK,I.tn];rfl,fun j t r ht hl hr=>?_,?_,?_,bt,Int.le_trans le' I.le,fun X cx px h=>?_⟩
 ·by_cases z:j<trs.length
  ·rw[zBF z]at hr
   refine(I.en j t r ht hl hr).to (fun a o ga=>?_) le'
   obtain⟨n1,n2,n3⟩:=nwo_to ga
   exact nwo_of n1 n2 (by rw[upd_ne n2];exact s2 _ _ (s1 _ _ n3))
  ·have ej:j=i:=by
    have:=(zE.mp hr).1
    rw[zK,zX]at this
    have:=I.tn
    lia
   subst ej
   rw[zAX (by lia),I.tn,Nat.sub_self]at hr
   injection hr with hr
   rw[zF hi]at hl
   injection hl with hl
   have e:t=ti:=pair_inj srt ht tim (pr_pair (by rw[eti,hl]))
   subst e
   rw[<- hr]
   refine en'.to (fun a o ga=>?_) (zAZ _)
   obtain⟨n1,n2⟩:=nw_to ga
   have nt:a≠tl:=fun z=>by rw[z,g1]at n1;cases n1
   exact nwo_of ((Hs.trans s5).free n1) nt (by rw[upd_ne nt];exact n2)
 ·obtain⟨gb,⟨bas,gl,pb⟩,w,c,sr,pt⟩:=B'
  have nt:∀ {a:Addr}{vs:List V},G2 a=some (.tup vs)->a≠tl:=fun {a vs} h e=>by rw[e,g2]at h;cases h
  exact⟨by rw[upd_ne (nt gb)];exact gb,⟨bas,by rw[upd_ne bt];exact gl,Paired.mapP pb fun a x h=>by rw[upd_ne (nt h)];exact h⟩,w,c,sr,pt⟩
 ·rcases nb with e | e
  ·rw[e];exact I.bh
  ·exact .inr ((Hs.trans s5).free e)
 ·by_cases hx:∃ p∈los.take i,∃ t∈ties,prOf t=p/\X t=true
  ·exact Int.le_trans le' (I.cov X cx px hx)
  ·obtain⟨p,hp,t,ht,et,xt⟩:=h
   rw[zL hi]at hp
   rcases zO.mp hp with h | h
   ·exact absurd ⟨p,h,t,ht,et,xt⟩ hx
   ·have h:=zD.mp h
    have e:t=ti:=pair_inj srt ht tim (pr_pair (by rw[et,h,eti]))
    refine cv X (cx.add (e▸xt) fun x hx' hm=>?_) px
    cases ex:X x with
    |false=>rfl
    |true=>exact absurd ⟨prOf x,hm,x,hx',rfl,ex⟩ hx
theorem cut_to(xs:List V)(i:Nat):cutV xs none (some (i:Int))=xs.take i:=by
 unfold cutV
 rw[HT.sIx_nat,HT.sIx_none,List.drop_zero,Nat.sub_zero]
 by_cases h:i<=xs.length
 ·rw[Nat.min_eq_left h]
 ·rw[Nat.min_eq_right (by lia),zAF,zAM (by lia)]
theorem pd_app{α β:Type}{F:α->β->Prop}:∀ {l₁ m₁:List α}{l₂ m₂:List β},Paired F l₁ l₂->Paired F m₁ m₂->Paired F (l₁++m₁) (l₂++m₂)
 |[],_,[],_,_,h=>h
 | _ :: _,_,_ :: _,_,.cons r t,h=>.cons r (pd_app t h)
theorem pd_take{α β:Type}{F:α->β->Prop}:∀ {l₁:List α}{l₂:List β} (k:Nat),Paired F l₁ l₂->Paired F (l₁.take k) (l₂.take k)
 |[],[],k,_=>by rw[List.take_nil,List.take_nil];exact .nil
 | _ :: _,_ :: _,0,_=>.nil
 | _ :: _,_ :: _,k+1,.cons r t=>.cons r (pd_take k t)
theorem iteTd{c:Bool}{p q:Prop}(hc:c=true)(h:p):if c=true then p else q:=by rw[if_pos hc];exact h
theorem iteFd{c:Bool}{p q:Prop}(hc:c=false)(h:q):if c=true then p else q:=by rw[if_neg (by rw[hc];exact zN)];exact h
inductive spLgI(K:PySem.W.Frag)(d:Nat)(vs:List V)(H:Hp)(Q:VK):Prop where
 |mk (t q c k b bl:Addr) (n:Nat) (ties:List Tie) (z:Bool) (as cas kas:List Addr) (prs kp:List (Int×Int)) (cts bts:List Tie) (bw:Int) (h1:vs=[.ref t,.ref q,.ref c,.ref k,.ref b]) (h2:Web H K t q n ties z as prs) (h3:H c=some (.lst (cas.map V.ref))) (h4:PairT H cas cts) (h5:Cts ties cts) (h6:ties.length<cts.length+d) (h7:H k=some (.lst (kas.map V.ref))) (h8:Paired (PrAt H) kas kp) (h9:kp.length<=100 * cts.length) (h10:Bst H ties prs b bl bw bts) (h11:bw<=wt ties) (h12:Few ties cts prs kp) (h13:∀ (r b' bl':Addr) (bw':Int) (bts':List Tie) (tr:V) (H':Hp),H' r=some (.tup [.ref b',tr])->Bst H' ties prs b' bl' bw' bts'->bw'<=bw->(bl'=bl\/H bl'=none)->(∀ X,Cov ties cts kp X->Prt ties prs X->bw'<=wX ties X)->End (nw H H') ties prs bw' d cts kp tr->Same H H'->Q (.ref r) H')
noncomputable def spLg(K:PySem.W.Frag)(d:Nat):Sp:=fun vs H Q _=>spLgI K d vs H Q
section
variable{P:Program}{w:World}{K:PySem.W.Frag}{mg:Str->Option Value}{base:Heap}
noncomputable abbrev nLg:List Str:=["web","pairs","cut","kept","best","weight","number","way","loose","trees","at","pair","tree"]
theorem scLg:FnScope nLg ["web","pairs","cut","kept","best"] (defScope sLightest):=⟨rfl,rfl,rfl,by decide +kernel,rfl,by decide +kernel,by decide +kernel⟩
theorem csLg1:CompScope ["pair","kept"] [none,some 3] nLg (defScope sLightest) (scO [(".0",.local),("pair",.local),("kept",.free)]):=⟨rfl,by decide +kernel,by decide +kernel,by decide +kernel,rfl,capB_ok (by decide +kernel)⟩
theorem ndLg1:(["pair","kept"]:List Str).Nodup:=by decide +kernel
theorem step_lg{f g1 g2 g3 g4:Addr}{fd d1 d2 d3 d4:FuncData}{d:Nat}(F:Fun K "lightest" "lightest" sLightest f fd)(T:Txt mg)(T2:Txt2 mg)(GG:CalF P w K mg base 2 "weight_of" ["web","cut"] spWg g1 d1)(GP:CalF P w K mg base 3 "parts_pairs" ["web","pairs","cut"] (spPP K) g2 d2)(GW:CalF P w K mg base 2 "loosest_way" ["web","pairs","cut","kept"] (spLw K) g3 d3)(GA:CalF P w K mg base 1 "ties_along" ["way"] spAl g4 d4)(GL:CalF P w K mg base (3+d) "lightest" ["web","pairs","cut","kept","best"] (spLg K d) f fd):FnOk P w K mg base CX0 (3+d+1) f fd ["web","pairs","cut","kept","best"] (spLg K (d+1)):=by
 refine F.ok scLg (fun vs H Q E h=>?_) (fun cdv A outer s H vs Q E hr h=>?_)
 ·obtain⟨t,q,c,k,b,bl,n,ties,z,as,cas,kas,prs,kp,cts,bts,bw,rfl,_⟩:=h
  rfl
 ·obtain⟨t,q,c,k,b,bl,n,ties,z,as,cas,kas,prs,kp,cts,bts,bw,rfl,W,gc,pc,C,cl,gk,pk,kl,B,bt,few,fin⟩:=h
  have hr1:Room 1 _:=hr.mono (by lia)
  have hr2:Room 2 _:=hr.mono (by lia)
  have hr3:Room 3 _:=hr.mono (by lia)
  have hu:=hu_of hr
  have nn:∀ x∈ties,0<=x.2.2:=fun x hx=>by have:=(W.ok x hx).2.2.2;lia
  have c12:=nodup_le C.nd C.sub
  have l12:=W.l12
  have cll:=pc.length
  refine⟨_,(pss_cons (ps_set (i:=5) scLg.nd rfl (Or.inl rfl) (pe_call GG.ok hr2 rfl GG.mg GG.kp GG.bd .nil pass0 (@pa_nam _ _ _ _ _ _ (pvQ 0) (@pa_nam _ _ _ _ _ _ (pvQ 2) pa_nil))))
   (pss_cons (ps_if (PW.pt (pw_and (pt_cmpR op_lt (pvQ 5) (@pe_ix _ _ _ _ _ _ _ ix_tupH (pvQ 4) pe_int (fun _ _=>rfl)) (nomark _)) (pw_and1 (pt_val (pe_call GP.ok hr3 rfl GP.mg GP.kp GP.bd .nil pass0 (@pa_nam _ _ _ _ _ _ (pvQ 0) (@pa_nam _ _ _ _ _ _ (pvQ 1) (@pa_nam _ _ _ _ _ _ (pvQ 2) pa_nil)))))))) (pss_one (ps_set (i:=4) scLg.nd rfl (Or.inl rfl) (@pe_tup _ _ _ _ _ (@pa_nam _ _ _ _ _ _ (pvQ 5) (@pa_call _ _ _ _ _ _ _ _ (pe_callB call_sortedTZ (by rfl) T.sorted boot_sorted (@pa_nam _ _ _ _ _ _ (pvQ 2) pa_nil)) pa_nil))))) pss_nil)
   (pss_cons (ps_if (pt_cmpR op_ge (pvQ 5) (@pe_ix _ _ _ _ _ _ _ ix_tupH (pvQ 4) pe_int (fun _ _=>rfl)) (nomark _)) (pss_one (ps_ret (@pe_tup _ _ _ _ _ (@pa_nam _ _ _ _ _ _ (pvQ 4) (@pa_tup _ _ _ _ _ _ _ (@pe_tup _ _ _ _ _ (@pa_cst _ _ _ _ _ _ _ pe_str pa_nil)) pa_nil))))) pss_nil)
   (pss_cons (ps_asg (pe_call GW.ok hr2 rfl GW.mg GW.kp GW.bd .nil pass0 (@pa_nam _ _ _ _ _ _ (pvQ 0) (@pa_nam _ _ _ _ _ _ (pvQ 1) (@pa_nam _ _ _ _ _ _ (pvQ 2) (@pa_nam _ _ _ _ _ _ (pvQ 3) pa_nil))))) (pg_tup (n:=2) rfl (pgs_cons (pg_name (i:=6) scLg.nd rfl (Or.inl rfl)) (pgs_cons (pg_name (i:=7) scLg.nd rfl (Or.inl rfl)) pgs_nil))))
   (pss_cons (ps_comp (i:=8) scLg.nd rfl (Or.inl rfl) rfl csLg1 (pi_list (pe_call GA.ok hr1 rfl GA.mg GA.kp GA.bd .nil pass0 (@pa_nam _ _ _ _ _ _ (pvQ 7) pa_nil))) (fun C s H fp=>(pg_name (i:=0) ndLg1 rfl (Or.inl rfl))) (fun C s H fp=>(pf_one (pt_cmpR (op_notInT hu) (pvQ 0) (pvQ 1) rfl))) (fun C s H fp=>(pvQ 0)))
   (pss_cons (ps_set (i:=9) scLg.nd rfl (Or.inl rfl) (@pe_lst _ _ _ _ pa_nil))
   (pss_cons (ps_for PassesOwn.never rfl (pi_enumB false rfl T2.enum (@pa_nam _ _ _ _ _ _ (pvQ 8) pa_nil)) (pg_tup (n:=2) rfl (pgs_cons (pg_name (i:=10) scLg.nd rfl (Or.inl rfl)) (pgs_cons (pg_name (i:=11) scLg.nd rfl (Or.inl rfl)) pgs_nil)))
   (pss_cons (ps_asg (pe_call GL.ok hr rfl GL.mg GL.kp GL.bd .nil pass0 (@pa_nam _ _ _ _ _ _ (pvQ 0) (@pa_nam _ _ _ _ _ _ (pvQ 1) (@pa_bin _ _ _ _ _ _ _ _ (pe_op op_cat (pvQ 2) (@pe_lst _ _ _ _ (@pa_nam _ _ _ _ _ _ (pvQ 11) pa_nil))) (@pa_bin _ _ _ _ _ _ _ _ (pe_op op_cat (pvQ 3) (pe_slice sl_list (pvQ 8) po_none (po_some (pvQ 10)))) (@pa_nam _ _ _ _ _ _ (pvQ 4) pa_nil)))))) (pg_tup (n:=2) rfl (pgs_cons (pg_name (i:=4) scLg.nd rfl (Or.inl rfl)) (pgs_cons (pg_name (i:=12) scLg.nd rfl (Or.inl rfl)) pgs_nil))))
   (pss_one (ps_expr (pe_bmH PySem.F.slot_list_append PySem.F.type_list_append mt_append (pvQ 9) (@pa_nam _ _ _ _ _ _ (pvQ 12) pa_nil))))))
   (pss_one (ps_ret (@pe_tup _ _ _ _ _ (@pa_nam _ _ _ _ _ _ (pvQ 4) (@pa_tup _ _ _ _ _ _ _ (@pe_tup _ _ _ _ _ (@pa_cst _ _ _ _ _ _ _ pe_str (@pa_nam _ _ _ _ _ _ (pvQ 6) (@pa_nam _ _ _ _ _ _ (pvQ 7) (@pa_call _ _ _ _ _ _ _ _ (pe_callTy call_tupleH (by rfl) T.tuple boot_tuple (@pa_nam _ _ _ _ _ _ (pvQ 9) pa_nil)) pa_nil))))) pa_nil)))))))))))),?_⟩
  refine⟨t,c,n,ties,cts,cas,rfl,W.W,W.srt,gc,pc,by lia,C.sub,fun H1 s1=>?_⟩
  have ew:(cts.map (·.2.2)).sum=wt cts:=rfl
  rw[ew]
  have W1:=W.same s1
  have B1:=B.same s1
  have dear:∀ (b' bl':Addr) (bw':Int) (bts':List Tie) (G:Hp),Same H G->Bst G ties prs b' bl' bw' bts'->bw'<=bw->(bl'=bl\/H bl'=none)->bw'<=wt cts->∀ (e r:Addr) ,G e=none->(upd G e (.tup [.str "dear"])) r=none->Q (.ref r) (upd (upd G e (.tup [.str "dear"])) r (.tup [.ref b',.ref e])):=fun b' bl' bw' bts' G sG B' le nw lt e r he hr'=>by
   have s2:=Same.new (o:=.tup [.str "dear"]) he
   have s3:=Same.new (o:=.tup [.ref b',.ref e]) hr'
   exact fin r b' bl' bw' bts' (.ref e) _ upd_same (B'.same (s2.trans s3)) le nw (fun X cx px=>Int.le_trans lt (cx.le C nn)) (.inl ⟨e,rfl,nw_of (sG.free he) (s3 _ _ upd_same),lt⟩) (sG.trans (s2.trans s3))
  by_cases lw:wt cts<bw
  ·refine⟨b,_,_,_,rfl,rfl,B1.gb,at0,_,_,rfl,rfl,?_⟩
   refine⟨_,rfl,iteTd (decide_eq_true lw) ?_⟩
   refine⟨t,q,c,n,ties,z,as,prs,cts.map pairOf,rfl,W1.W,W1.ok,by have:=W1.n8;lia,W1.sq,W1.pp,by have:=W1.pl;lia,W1.po,⟨false,cas,SqL.of (s1 _ _ gc),pair_tups (pc.same s1),by rw[zA];lia⟩,fun hs H2 IH s12=>?_⟩
   obtain⟨h1,h2⟩:=parted_heads W.po IH
   have s2:=s1.trans s12
   have B2:=B.same s2
   have W2:=W.same s2
   cases hb:(apart hs prs).all id with
   |true =>
    refine⟨_,rfl,iteT ?_⟩
    refine⟨c,cas,cts.map pairOf,rfl,SqL.of (s2 _ _ gc),pair_tups (pc.same s2),(fun x hx e=>by obtain⟨y,_,rfl⟩:=zAA.mp hx;cases e),by lia,fun l' bs ns hl' pm sr tb=>?_⟩
    obtain⟨bts',pm',rfl⟩:=perm_map_inv pm cts rfl
    refine⟨(by show 2<=sizeLine;decide),fun tp htp=>?_⟩
    have s3:=Same.new (o:=.lst (bs.map V.ref)) hl'
    have s4:=Same.new (o:=.tup [.int (wt cts),.ref l']) htp
    have B':Bst (upd (upd H2 l' (.lst (bs.map V.ref))) tp (.tup [.int (wt cts),.ref l'])) ties prs tp l' (wt cts) bts':=by
     refine⟨upd_same,⟨bs,s4 _ _ upd_same,?_⟩,(wt_perm pm').symm,⟨pm'.nodup_iff.mpr C.nd,fun x hx=>C.sub x (pm'.mem_iff.mp hx)⟩,sr,fun p hp r=>?_⟩
     ·exact tups_pair (Paired.mapP tb fun _ _ e=>s4 _ _ (s3 _ _ e))
     ·rw[rest_perm pm']at r
      exact h1 hb p hp r
    have s5:=s2.trans (s3.trans s4)
    have fr:H l'=none:=s2.free hl'
    generalize (upd (upd H2 l' (.lst (bs.map V.ref))) tp (.tup [.int (wt cts),.ref l']))=H3 at B' s5
    refine⟨tp,_,_,_,rfl,rfl,B'.gb,at0,_,_,rfl,rfl,?_⟩
    refine⟨_,rfl,iteTd (decide_eq_true (zAZ (wt cts))) ?_⟩
    exact⟨(by show 1<=sizeLine;decide),fun e he=>⟨(by show 2<=sizeLine;decide),fun r hr'=>dear tp l' _ bts' H3 s5 B' (Int.le_of_lt lw) (.inr fr) (zAZ _) e r he hr'⟩⟩
   |false =>
    refine⟨_,rfl,iteF ?_⟩
    obtain⟨y,hy,ry⟩:=h2 hb
    refine⟨b,_,_,_,rfl,rfl,B2.gb,at0,_,_,rfl,rfl,?_⟩
    refine⟨_,rfl,iteFd (decide_eq_false (show ¬ bw<=wt cts by lia)) ?_⟩
    refine⟨t,q,c,k,n,ties,z,as,kas,prs,cts.map pairOf,kp.map (fun p=>[p.1,p.2]),rfl,W2.W,W2.ok,W2.n8,W2.sq,W2.pp,W2.pl,W2.po,⟨false,cas,SqL.of (s2 _ _ gc),pair_tups (pc.same s2),by rw[zA];lia⟩,s2 _ _ gk,prs_tup (Paired.mapP pk fun _ _ e=>s2 _ _ e),⟨y,hy,ry⟩,fun r l num x0 y0 way H3 gr gl hxy low pth wl hl s23=>?_⟩
    have hmem:(x0,y0)∈prs:=List.mem_of_getElem? hxy.2
    have low:∀ z∈prs,∀ l',Pth (rest ties (cts.map pairOf)) z.1 z.2 l'->(loo way kp).length<=(loo l' kp).length:=fun z hz l' hp=>by
     have:=low z hz l' hp
     rw[lc_loo,lc_loo]at this
     lia
    have wl1:=wl.1
    refine⟨r,_,rfl,SqT.of gr,rfl,_,_,rfl,_,_,rfl,rfl,?_⟩
    refine⟨false,l,way,rfl,gl,by lia,fun al aas H4 ga pa s34=>⟨al,rfl,⟨_,SqL.of ga⟩,?_⟩⟩
    have s4:=s2.trans (s23.trans s34)
    have pk4:=prs_tup (Paired.mapP pk fun _ _ e=>s4 _ _ e)
    have pal:=pa.length
    have algl:(alg way).length<=100:=by
     show(List.zipWith prT way (way.drop 1)).length<=100
     rw[zAR]
     lia
    refine comp_list (K:=K) (a:=al) (xs:=aas.map V.ref) (fun j ys G=>G=H4/\∃ las:List Addr,ys=las.map V.ref/\Paired (PrAt H4) las (((alg way).take j).filter fun p=>!decide (p∈kp))) (by rw[zA,sizeLine_eq];lia) ⟨rfl,[],rfl,.nil⟩ (fun j ys G _ z=>by rw[z.1];exact SqL.of ga) ?_ ?_
    ·rintro j x ys G hx ⟨rfl,las,rfl,pl⟩
     obtain⟨il,e⟩:=zE.mp hx
     rw[zA]at il
     rw[zR]at e
     subst e
     have ia:j <(alg way).length:=by lia
     have gx:=Paired.at pa j il ia
     refine⟨⟨rfl,trivial⟩,aas[j],k,kas,kp.map (fun p=>[p.1,p.2]),[(alg way)[j].1,(alg way)[j].2],rfl,rfl,gx,s4 _ _ gk,pk4,_,rfl,?_⟩
     rw[zL ia,zBJ]
     have ed:decide ([(alg way)[j].1,(alg way)[j].2]∈kp.map (fun p=>[p.1,p.2]))=decide ((alg way)[j]∈kp):=decide_eq_decide.mpr mem_prs
     refine ite2 (fun h=>?_) (fun h=>?_)
     ·have h:(!decide ([(alg way)[j].1,(alg way)[j].2]∈kp.map (fun p=>[p.1,p.2])))=true:=h
      rw[ed]at h
      refine⟨rfl,las++[aas[j]],by rw[zJ];rfl,?_⟩
      rw[zAP,if_pos h]
      exact Paired.snoc pl gx
     ·have h:¬(!decide ([(alg way)[j].1,(alg way)[j].2]∈kp.map (fun p=>[p.1,p.2])))=true:=h
      rw[ed]at h
      refine⟨rfl,las,rfl,?_⟩
      rw[zAP,if_neg h,List.filter_nil,zAU]
      exact pl
    rintro ys G _ ⟨rfl,las,rfl,pl⟩ lo hlo
    rw[zA,pal,zAF]at pl
    have elo':((alg way).filter fun p=>!decide (p∈kp))=loo way kp:=rfl
    generalize elo:((alg way).filter fun p=>!decide (p∈kp))=los at pl
    rw[elo]at elo'
    have losm:∀ p∈los,p∈alg way:=by rw[<- elo];exact fun p hp=>(zAL.mp hp).1
    have losl:los.length<=100:=by rw[<- elo];exact zAC (zBG _ _) algl
    have pll:=pl.length
    have s5':=Same.new (o:=.lst (las.map V.ref)) hlo
    have s5:=s4.trans s5'
    have glo:(upd G lo (.lst (las.map V.ref))) lo=some (.lst (las.map V.ref)):=upd_same
    have pl5:Paired (PrAt (upd G lo (.lst (las.map V.ref)))) las los:=Paired.mapP pl fun _ _ e=>s5' _ _ e
    have gl5:=s5' _ _ (s34 _ _ gl)
    generalize (upd G lo (.lst (las.map V.ref)))=H5 at s5 glo pl5 gl5
    refine⟨(by show 0<=sizeLine;decide),fun tl htl=>?_⟩
    have stl:=Same.new (o:=.lst []) htl
    have gtl:(upd H5 tl (.lst [])) tl=some (.lst []):=upd_same
    generalize (upd H5 tl (.lst []))=H6 at stl gtl
    refine⟨lo,rfl,⟨_,SqL.of (stl _ _ glo)⟩,?_⟩
    refine for_enumB (b:=false) (K:=K) (l:=lo) (xs:=las.map V.ref) (fun i σ G=>Ex8 fun(b' bl':Addr) (bw':Int) (bts':List Tie) (trs:List V) (v10 v11 v12:Option V)=>σ=[some (.ref t),some (.ref q),some (.ref c),some (.ref k),some (.ref b'),some (.int (wt cts)),some (.int num),some (.ref l),some (.ref lo),some (.ref tl),v10,v11,v12]/\LgI H H5 d ties cts prs kp los tl bl bw i b' bl' bw' bts' trs G) ⟨b,bl,bw,bts,[],_,_,_,rfl,⟨stl,gtl,rfl,(fun j t r _ _ h=>by rw[List.getElem?_nil]at h;cases h),B.same (s5.trans stl),.inl rfl,?_,zAZ _,fun X _ _ ⟨p,hp,_⟩=>nomatch hp⟩⟩ (fun i σ G _ z=>by obtain⟨_,_,_,_,_,_,_,_,_,I⟩:=z;exact SqL.of (I.s _ _ glo)) ?_ ?_
    ·intro e
     obtain⟨bas,g,_⟩:=B.gl
     have g:=s5 _ _ g
     rw[e,htl]at g
     cases g
    ·rintro i x σ G U hx ⟨b',bl',bw',bts',trs,v10,v11,v12,rfl,I⟩ hU
     obtain⟨il,e⟩:=zE.mp hx
     rw[zA]at il
     rw[zR]at e
     subst e
     have ip:i<los.length:=by lia
     have sU:=Same.new (o:=.tup [V.int i,.ref las[i]]) hU
     refine⟨U,_,rfl,SqT.of upd_same,rfl,_,_,rfl,_,_,rfl,rfl,?_⟩
     generalize (upd G U (.tup [V.int i,.ref las[i]]))=G1 at sU
     have s51:=s5.trans (I.s.trans sU)
     refine⟨(by show 1<=sizeLine;decide),fun p1 hp1=>?_⟩
     have sp1:=Same.new (o:=.lst [V.ref las[i]]) hp1
     refine⟨c,p1,_,_,rfl,rfl,sp1 _ _ (s51 _ _ gc),upd_same,by rw[zA,zX,sizeLine_eq];lia,fun c2 hc2=>?_⟩
     have sc2:=Same.new (o:=.lst (cas.map V.ref++[V.ref las[i]])) hc2
     have ec:cas.map V.ref++[V.ref las[i]]=(cas++[las[i]]).map V.ref:=by rw[zJ];rfl
     have gc2:(upd (upd G1 p1 (.lst [V.ref las[i]])) c2 (.lst (cas.map V.ref++[V.ref las[i]]))) c2=some (.lst ((cas++[las[i]]).map V.ref)):=by rw[upd_same,ec]
     have sG2:=sU.trans (sp1.trans sc2)
     clear sp1 sc2
     generalize (upd (upd G1 p1 (.lst [V.ref las[i]])) c2 (.lst (cas.map V.ref++[V.ref las[i]])))=G2 at sG2 gc2
     have s52:=I.s.trans sG2
     refine⟨_,rfl,lo,_,rfl,SqL.of (s52 _ _ glo),fun p2 hp2=>?_⟩
     rw[cut_to,<- List.map_take]
     have sp2:=Same.new (o:=.lst ((las.take i).map V.ref)) hp2
     refine⟨k,p2,_,_,rfl,rfl,sp2 _ _ (s52 _ _ (s5 _ _ gk)),upd_same,by rw[zA,zA,zAH,sizeLine_eq,pk.length];lia,fun k2 hk2=>?_⟩
     have sk2:=Same.new (o:=.lst (kas.map V.ref++(las.take i).map V.ref)) hk2
     have gk2:(upd (upd G2 p2 (.lst ((las.take i).map V.ref))) k2 (.lst (kas.map V.ref++(las.take i).map V.ref))) k2=some (.lst ((kas++las.take i).map V.ref)):=by rw[upd_same,zJ]
     have gc3:=sk2 _ _ (sp2 _ _ gc2)
     have sG3:=sG2.trans (sp2.trans sk2)
     clear sp2 sk2 gc2
     generalize (upd (upd G2 p2 (.lst ((las.take i).map V.ref))) k2 (.lst (kas.map V.ref++(las.take i).map V.ref)))=G3 at sG3 gc3 gk2
     have s53:=I.s.trans sG3
     have sH3:=s5.trans s53
     obtain⟨ti,tm,eti⟩:=pth.tie (fun x hx=>W.ok x (mem_rest.mp hx).1) los[i] (losm _ (zU ip))
     obtain⟨tim,tn⟩:=mem_rest.mp tm
     refine⟨t,q,c2,k2,b',bl',n,ties,z,as,cas++[las[i]],kas++las.take i,prs,kp++los.take i,cts++[ti],bts',bw',rfl,W.same sH3,gc3,Paired.snoc (pc.same sH3) ?_,C.add tim (fun h=>tn (zAA.mpr ⟨ti,h,rfl⟩)),by rw[zK,zX];lia,gk2,pd_app (Paired.mapP pk fun _ _ e=>sH3 _ _ e) (pd_take i (Paired.mapP pl5 fun _ _ e=>s53 _ _ e)),by rw[zK,zK,zAH,zX];lia,I.B.same sG3,Int.le_trans I.le bt,by rw[elo'];exact few_step W.ok low (by rw[<- elo'];exact ip) ti,fun r' b2 bl2 bw2 bts2 tr G4 gr4 B4 le4 nb4 cv4 en4 s34'=>?_⟩
     ·have:=s53 _ _ (Paired.at pl5 i il ip)
      rw[<- eti]at this
      exact this
     refine⟨r',_,rfl,SqT.of gr4,rfl,_,_,rfl,_,_,rfl,rfl,?_⟩
     refine⟨⟨tl,_,rfl,s34' _ _ (sG3 _ _ I.gt)⟩,tl,_,_,rfl,rfl,s34' _ _ (sG3 _ _ I.gt),by have:=I.tn;rw[sizeLine_eq];lia,?_⟩
     exact⟨b2,bl2,bw2,bts2,_,_,_,_,rfl,I.step sG3 s34' B4 le4 nb4 cv4 en4 ip eti tim W.srt htl s5⟩
    ·rintro σ G ⟨b',bl',bw',bts',trs,v10,v11,v12,rfl,I⟩
     have tn:=I.tn
     rw[zA]at tn
     refine⟨tl,trs,rfl,I.gt,fun tt htt=>⟨(by show 4<=sizeLine;decide),fun nd hnd=>⟨(by show 2<=sizeLine;decide),fun r' hr'=>?_⟩⟩⟩
     have sA:=Same.new (o:=.tup trs) htt
     have sB:=Same.new (o:=.tup [.str "way",.int num,.ref l,.ref tt]) hnd
     have sC:=Same.new (o:=.tup [.ref b',.ref nd]) hr'
     have gtt:=sC _ _ (sB _ _ (upd_same (H:=G) (a:=tt) (o:=.tup trs)))
     have gnd:=sC _ _ (upd_same (H:=upd G tt (.tup trs)) (a:=nd) (o:=.tup [.str "way",.int num,.ref l,.ref tt]))
     have sE:=sA.trans (sB.trans sC)
     have l0:H l=none:=s2.free hl
     refine fin r' b' bl' bw' bts' (.ref nd) _ upd_same (I.B.same sE) I.le I.bh (fun X cx px=>I.cov X cx px ?_) (.inr ⟨nd,l,tt,num,x0,y0,way,trs,rfl,nw_of ((s5.trans (I.s.trans sA)).free hnd) gnd,nw_of l0 (sE _ _ (I.s _ _ gl5)),nw_of ((s5.trans I.s).free htt) gtt,hxy,pth,wl,few _ hmem way wl.2 pth,by rw[<- elo',tn];exact pll,fun j t r ht hl hr=>?_⟩) (s5.trans (I.s.trans sE))
     ·obtain⟨u,um,xu,hu'⟩:=pth.hit W.ok cx px hmem
      refine⟨prOf u,?_,u,um,rfl,xu⟩
      rw[elo]at hu'
      rw[zA,zAM (by lia)]
      exact hu'
     ·rw[<- elo']at hl ⊢
      refine(I.en j t r ht hl hr).to (fun a o ga=>?_) (zAZ _)
      obtain⟨n1,_,n3⟩:=nwo_to ga
      exact nw_of n1 (sE _ _ n3)
  ·refine⟨b,_,_,_,rfl,rfl,B1.gb,at0,_,_,rfl,rfl,?_⟩
   refine⟨_,rfl,iteFd (decide_eq_false lw) ?_⟩
   refine⟨b,_,_,_,rfl,rfl,B1.gb,at0,_,_,rfl,rfl,?_⟩
   refine⟨_,rfl,iteTd (decide_eq_true (show bw<=wt cts by lia)) ?_⟩
   exact⟨(by show 1<=sizeLine;decide),fun e he=>⟨(by show 2<=sizeLine;decide),fun r hr'=>dear b bl bw bts H1 s1 B1 (zAZ _) (.inl rfl) (by lia) e r he hr'⟩⟩
theorem all_lg{f g1 g2 g3 g4:Addr}{fd d1 d2 d3 d4:FuncData}(F:Fun K "lightest" "lightest" sLightest f fd)(T:Txt mg)(T2:Txt2 mg)(GG:CalF P w K mg base 2 "weight_of" ["web","cut"] spWg g1 d1)(GP:CalF P w K mg base 3 "parts_pairs" ["web","pairs","cut"] (spPP K) g2 d2)(GW:CalF P w K mg base 2 "loosest_way" ["web","pairs","cut","kept"] (spLw K) g3 d3)(GA:CalF P w K mg base 1 "ties_along" ["way"] spAl g4 d4)(mG:mg "lightest" = some (.ref f))(kG:PySem.W.keepIn K (.ref f)=true)(bG:Binds K fd ["web","pairs","cut","kept","best"] []):∀ d:Nat,FnOk P w K mg base CX0 (3+d) f fd ["web","pairs","cut","kept","best"] (spLg K d)
 | 0=>by
  refine⟨fun vs H Q E h=>?_,fun A outer s H args us vs Q E hr he hb hv h=>?_⟩
  ·obtain⟨t,q,c,k,b,bl,n,ties,z,as,cas,kas,prs,kp,cts,bts,bw,rfl,_⟩:=h
   rfl
  ·obtain⟨t,q,c,k,b,bl,n,ties,z,as,cas,kas,prs,kp,cts,bts,bw,rfl,W,gc,pc,C,cl,_⟩:=h
   have:=nodup_le C.nd C.sub
   lia
 |d+1=>step_lg F T T2 GG GP GW GA ⟨all_lg F T T2 GG GP GW GA mG kG bG d,mG,kG,bG⟩
theorem ok_lg{f g1 g2 g3 g4:Addr}{fd d1 d2 d3 d4:FuncData}(F:Fun K "lightest" "lightest" sLightest f fd)(T:Txt mg)(T2:Txt2 mg)(GG:CalF P w K mg base 2 "weight_of" ["web","cut"] spWg g1 d1)(GP:CalF P w K mg base 3 "parts_pairs" ["web","pairs","cut"] (spPP K) g2 d2)(GW:CalF P w K mg base 2 "loosest_way" ["web","pairs","cut","kept"] (spLw K) g3 d3)(GA:CalF P w K mg base 1 "ties_along" ["way"] spAl g4 d4)(mG:mg "lightest" = some (.ref f))(kG:PySem.W.keepIn K (.ref f)=true)(bG:Binds K fd ["web","pairs","cut","kept","best"] []):FnOk P w K mg base CX0 16 f fd ["web","pairs","cut","kept","best"] (spLg K 13):=by
 exact all_lg F T T2 GG GP GW GA mG kG bG 13
end
open PySem L2 PyProof.Rows
theorem rch_nil{a b:Int}(h:Rch [] a b):a=b:=by
 cases h with
 |refl=>rfl
 |up m _=>cases m
 |dn m _=>cases m
theorem rest_all(ties:List Tie):rest ties (ties.map pairOf)=[]:=by
 unfold rest
 refine List.filter_eq_nil_iff.mpr fun x hx=>?_
 rw[decide_eq_true (zAA.mpr ⟨x,hx,rfl⟩)]
 exact zN
theorem srt_nd{ties:List Tie}(h:ties.Pairwise tieLt):ties.Nodup:=h.imp fun {x y} l e=>by
 have l:Srt.lexlt (pairOf x) (pairOf y)=true:=l
 rw[e,Srt.lexlt_irrefl]at l
 cases l
theorem srt_ks{ties:List Tie}(h:ties.Pairwise tieLt):(ties.map pairOf).Pairwise (fun x y=>Srt.lexlt y x=false):=by
 refine List.pairwise_map.mpr (h.imp fun {x y} l=>?_)
 have l:Srt.lexlt (pairOf x) (pairOf y)=true:=l
 cases e:Srt.lexlt (pairOf y) (pairOf x)with
 |false=>rfl
 |true =>
  have:=Srt.lexlt_trans _ _ _ l e
  rw[Srt.lexlt_irrefl]at this
  cases this
inductive spLfI(K:PySem.W.Frag)(vs:List V)(H:Hp)(Q:VK):Prop where
 |mk (t q:Addr) (n:Nat) (ties:List Tie) (z:Bool) (as:List Addr) (prs:List (Int×Int)) (h1:vs=[.ref t,.ref q]) (h2:Web H K t q n ties z as prs) (h3:∀ (r bl:Addr) (bw:Int) (bts:List Tie) (bas:List Addr) (tr:V) (H':Hp),H' r=some (.tup [.int bw,.ref bl,tr])->H' bl=some (.lst (bas.map V.ref))->PairT H' bas bts->bw=wt bts->Cts ties bts->(bts.map pairOf).Pairwise (fun x y=>Srt.lexlt y x=false)->Parted ties prs bts->(∀ X,Prt ties prs X->bw<=wX ties X)->End (nw H H') ties prs bw 13 [] [] tr->Same H H'->Q (.ref r) H')
noncomputable def spLf(K:PySem.W.Frag):Sp:=fun vs H Q _=>spLfI K vs H Q
section
variable{P:Program}{w:World}{K:PySem.W.Frag}{mg:Str->Option Value}{base:Heap}
noncomputable abbrev nLf:List Str:=["web","pairs","every","best","tree"]
theorem scLf:FnScope nLf ["web","pairs"] (defScope sLeastForPairs):=⟨rfl,rfl,rfl,by decide +kernel,rfl,by decide +kernel,by decide +kernel⟩
theorem csLf1:CompScope ["tie"] [none] nLf (defScope sLeastForPairs) (scO [(".0",.local),("tie",.local)]):=⟨rfl,by decide +kernel,by decide +kernel,by decide +kernel,rfl,capB_ok (by decide +kernel)⟩
theorem ndLf1:(["tie"]:List Str).Nodup:=by decide +kernel
theorem ok_lf{f g1 g2:Addr}{fd d1 d2:FuncData}(F:Fun K "least_for_pairs" "least_for_pairs" sLeastForPairs f fd)(GG:CalF P w K mg base 2 "weight_of" ["web","cut"] spWg g1 d1)(GL:CalF P w K mg base 16 "lightest" ["web","pairs","cut","kept","best"] (spLg K 13) g2 d2):FnOk P w K mg base CX0 17 f fd ["web","pairs"] (spLf K):=by
 refine F.ok scLf (fun vs H Q E h=>?_) (fun cdv A outer s H vs Q E hr h=>?_)
 ·obtain⟨t,q,n,ties,z,as,prs,rfl,_⟩:=h
  rfl
 ·obtain⟨t,q,n,ties,z,as,prs,rfl,W,fin⟩:=h
  have hr2:Room 2 _:=hr.mono (by lia)
  have hu:=hu_of hr
  have l12:=W.l12
  obtain⟨⟨ts,bs,h1,h2,h3⟩,len⟩:=id W.W
  have h3l:bs.length=ties.length:=h3.length
  refine⟨_,(pss_cons (ps_comp (i:=2) scLf.nd rfl (Or.inl rfl) rfl csLf1 (pi_tup (@pe_ix _ _ _ _ _ _ _ ix_tupH (pvQ 0) pe_int (fun _ _=>rfl))) (fun C s H fp=>(pg_name (i:=0) ndLf1 rfl (Or.inl rfl))) (fun C s H fp=>pf_nil) (fun C s H fp=>(pe_slice sl_tupA (pvQ 0) po_none (po_some pe_int))))
   (pss_cons (ps_asg (pe_call GL.ok hr rfl GL.mg GL.kp GL.bd .nil pass0 (@pa_nam _ _ _ _ _ _ (pvQ 0) (@pa_nam _ _ _ _ _ _ (pvQ 1) (@pa_lst _ _ _ _ _ _ (@pe_lst _ _ _ _ pa_nil) (@pa_lst _ _ _ _ _ _ (@pe_lst _ _ _ _ pa_nil) (@pa_tup _ _ _ _ _ _ _ (@pe_tup _ _ _ _ _ (@pa_call _ _ _ _ _ _ _ _ (pe_call GG.ok hr2 rfl GG.mg GG.kp GG.bd .nil pass0 (@pa_nam _ _ _ _ _ _ (pvQ 0) (@pa_nam _ _ _ _ _ _ (pvQ 2) pa_nil))) (@pa_nam _ _ _ _ _ _ (pvQ 2) pa_nil))) pa_nil)))))) (pg_tup (n:=2) rfl (pgs_cons (pg_name (i:=3) scLf.nd rfl (Or.inl rfl)) (pgs_cons (pg_name (i:=4) scLf.nd rfl (Or.inl rfl)) pgs_nil))))
   (pss_one (ps_ret (pe_op op_catT (pvQ 3) (@pe_tup _ _ _ _ _ (@pa_nam _ _ _ _ _ _ (pvQ 4) pa_nil))))))),?_⟩
  refine⟨t,_,_,_,rfl,rfl,h1,at1,ts,rfl,⟨_,SqT.of h2⟩,?_⟩
  refine comp_tup (K:=K) (a:=ts) (xs:=bs.map V.ref) (fun j ys G'=>Same H G'/\∃ cs:List Addr,ys=cs.map V.ref/\PairT G' cs (ties.take j)) (by rw[zA,sizeLine_eq];lia) ⟨Same.refl _,[],rfl,.nil⟩ (fun j ys G _ z=>SqT.of (z.1 _ _ h2)) ?_ ?_
  ·rintro j x ys G' hx ⟨sG,cs,rfl,pcs⟩
   obtain⟨jl,e⟩:=zE.mp hx
   rw[zA]at jl
   rw[zR]at e
   subst e
   have jt:j<ties.length:=by lia
   have gx:=sG _ _ (Paired.at h3 j jl jt)
   refine⟨trivial,tTru_if ⟨2,rfl,bs[j],_,rfl,gx,fun pp G2 sG2 gp=>?_⟩⟩
   refine⟨sG.trans sG2,cs++[pp],by rw[zJ];rfl,?_⟩
   rw[zL jt]
   exact Paired.snoc (pcs.same sG2) gp
  rintro ys G3 yl ⟨s3,cs,rfl,pcs⟩ D hD
  rw[zA,h3l,zAF]at pcs
  have sD:=Same.new (o:=.lst (cs.map V.ref)) hD
  have fD:H D=none:=s3.free hD
  have s4:=s3.trans sD
  have gD:(upd G3 D (.lst (cs.map V.ref))) D=some (.lst (cs.map V.ref)):=upd_same
  have pD:=pcs.same sD
  clear sD hD pcs s3
  generalize (upd G3 D (.lst (cs.map V.ref)))=H4 at s4 gD pD
  refine⟨(by show 0<=sizeLine;decide),fun c hc=>?_⟩
  have sc:=Same.new (o:=.lst []) hc
  refine⟨(by show 0<=sizeLine;decide),fun k hk=>?_⟩
  have sk:=Same.new (o:=.lst []) hk
  have s5:=s4.trans (sc.trans sk)
  have gc:=sk _ _ (upd_same (H:=H4) (a:=c) (o:=.lst []))
  have gk:(upd (upd H4 c (.lst [])) k (.lst [])) k=some (.lst []):=upd_same
  have s45:=sc.trans sk
  clear sc sk
  generalize (upd (upd H4 c (.lst [])) k (.lst []))=H5 at s5 gc gk s45
  refine⟨t,D,n,ties,ties,cs,rfl,W.W.same s5,W.srt,s45 _ _ gD,pD.same s45,by omega,fun x hx=>hx,fun H6 s56=>?_⟩
  refine⟨(by show 2<=sizeLine;decide),fun b hb=>?_⟩
  have ew:(ties.map (·.2.2)).sum=wt ties:=rfl
  rw[ew]
  have sb:=Same.new (o:=.tup [.int (wt ties),.ref D]) hb
  have s57:=s56.trans sb
  have s7:=s5.trans s57
  refine⟨t,q,c,k,b,D,n,ties,z,as,[],[],prs,[],[],ties,wt ties,rfl,W.same s7,s57 _ _ gc,.nil,⟨zAS,fun x hx=>nomatch hx⟩,by show ties.length<0+13;lia,s57 _ _ gk,.nil,zAQ _,⟨upd_same,⟨cs,s57 _ _ (s45 _ _ gD),(pD.same s45).same s57⟩,rfl,⟨srt_nd W.srt,fun x hx=>hx⟩,srt_ks W.srt,fun p hp r=>?_⟩,zAZ _,few_zero fun x hx=>(W.po x hx).2.1,fun r b' bl' bw' bts' tr H' gr B' le nb cv en s'=>?_⟩
  ·rw[rest_all]at r
   have:=rch_nil r
   have:=W.po p hp
   lia
  refine⟨r,_,rfl,SqT.of gr,rfl,_,_,rfl,_,_,rfl,rfl,?_⟩
  obtain⟨gb,⟨bas,gl,pb⟩,ew',cc,sr,pt⟩:=B'
  refine⟨(by show 1<=sizeLine;decide),fun tp htp=>?_⟩
  have stp:=Same.new (o:=.tup [tr]) htp
  refine⟨b',tp,_,_,rfl,rfl,SqT.of (stp _ _ gb),SqT.of upd_same,(fun z=>nomatch z),(by show 3<=sizeLine;decide),(fun z=>nomatch z),fun _ p hp=>?_⟩
  have sp:=Same.new (o:=.tup [.int bw',.ref bl',tr]) hp
  have s8:=stp.trans sp
  have s07:=s7.trans s'
  exact fin p bl' bw' bts' bas tr _ upd_same (s8 _ _ gl) (pb.same s8) ew' cc sr pt (fun X px=>cv X ⟨(fun c hc=>nomatch hc),(fun x _ h=>nomatch h)⟩ px) (en.to (fun a o h=>nw_of (s7.free (nw_to h).1) (s8 _ _ (nw_to h).2)) (zAZ _)) (s07.trans s8)
end
open PySem L2 PyProof.Rows
theorem op_ltTK{X:Cx}(K:PySem.W.Frag)(e:X.K=K)(hu:X.A.units<cLine):OpR X (compareOp .Lt) (rLtT K):=e▸op_ltT hu
theorem rep_t(i:Nat):(List.replicate i true).map V.bl++[V.bl true]=(List.replicate (i+1) true).map V.bl:=by rw[List.replicate_succ',zJ];rfl
theorem rep_f(i:Nat):(List.replicate i false).map V.bl++[V.bl false]=(List.replicate (i+1) false).map V.bl:=by rw[List.replicate_succ',zJ];rfl
theorem all_rep(i:Nat):(List.replicate i true).all id=true:=by simp
theorem any_rep(i:Nat):(List.replicate i false).any id=false:=by simp
inductive spNuI(vs:List V)(H:Hp)(Q:VK):Prop where
 |mk (z:Int) (h1:vs=[.int z]) (h2:Q (.bl true) H)
noncomputable def spNu:Sp:=fun vs H Q _=>spNuI vs H Q
inductive spAnI(K:PySem.W.Frag)(vs:List V)(H:Hp)(Q:VK):Prop where
 |mk (b:Bool) (a:Addr) (ns:List Int) (h1:vs=[.ref a]) (h2:SqB b K H a (ns.map V.int)) (h3:ns.length<=1000) (h4:∀ H',Same H H'->Q (.bl true) H')
noncomputable def spAn(K:PySem.W.Frag):Sp:=fun vs H Q _=>spAnI K vs H Q
inductive spIlI(vs:List V)(H:Hp)(Q:VK):Prop where
 |mk (b:Bool) (a:Addr) (xs:List V) (h1:vs=[.ref a]) (h2:SIs b H a xs) (h3:∀ H',Same H H'->Q (.bl true) H')
noncomputable def spIl:Sp:=fun vs H Q _=>spIlI vs H Q
inductive spItI(vs:List V)(H:Hp)(Q:VK):Prop where
 |mk (a:Addr) (xs:List V) (m:Int) (h1:vs=[.ref a,.int m]) (h2:H a=some (.tup xs)) (h3:Q (.bl (decide ((xs.length:Int)=m))) H)
noncomputable def spIt:Sp:=fun vs H Q _=>spItI vs H Q
inductive spRsI(vs:List V)(H:Hp)(Q:VK):Prop where
 |mk (l:Addr) (as:List Addr) (ks:List (List Int)) (h1:vs=[.ref l]) (h2:H l=some (.lst (as.map V.ref))) (h3:as.length<=1000) (h4:TupsAt H as ks) (h5:(∀ (i:Nat) (h:1+i<ks.length),Srt.lexlt ks[i] ks[1+i]=true)) (h6:∀ H',Same H H'->Q (.bl true) H')
noncomputable def spRs:Sp:=fun vs H Q _=>spRsI vs H Q
section
variable{P:Program}{w:World}{K:PySem.W.Frag}{mg:Str->Option Value}{base:Heap}
noncomputable abbrev nNu:List Str:=["thing"]
theorem scNu:FnScope nNu ["thing"] (defScope sIsNumber):=⟨rfl,rfl,rfl,by decide +kernel,rfl,by decide +kernel,by decide +kernel⟩
theorem ok_nu{f:Addr}{fd:FuncData}(F:Fun K "is_number" "is_number" sIsNumber f fd)(T:Txt mg):FnOk P w K mg base CX0 1 f fd ["thing"] spNu:=by
 refine F.ok scNu (fun vs H Q E h=>?_) (fun cdv A outer s H vs Q E hr h=>?_)
 ·obtain⟨z,rfl,_⟩:=h
  rfl
 ·obtain⟨z,rfl,fin⟩:=h
  refine⟨_,(pss_one (ps_ret (pe_and (pe_callB call_isinst (by rfl) T.isinst boot_isinstance (@pa_nam _ _ _ _ _ _ (pvQ 0) (@pa_nam _ _ _ _ _ _ (pe_bltn (v:=.ty "int") (by rfl) T.int boot_int rfl) pa_nil))) (pe_one (pe_not (pe_callB call_isinst (by rfl) T.isinst boot_isinstance (@pa_nam _ _ _ _ _ _ (pvQ 0) (@pa_nam _ _ _ _ _ _ (pe_bltn (v:=.ty "bool") (by rfl) T.bool boot_bool rfl) pa_nil)))))))),?_⟩
  refine⟨_,_,"int",true,rfl,TyOf.int _,rfl,_,rfl,iteT ?_⟩
  exact⟨_,_,"bool",false,rfl,TyOf.int _,rfl,_,rfl,fin⟩
noncomputable abbrev nAn:List Str:=["things"]
theorem scAn:FnScope nAn ["things"] (defScope sAreNumbers):=⟨rfl,rfl,rfl,by decide +kernel,rfl,by decide +kernel,by decide +kernel⟩
theorem csAn1:CompScope ["thing"] [none] nAn (defScope sAreNumbers) (scO [(".0",.local),("thing",.local),("is_number",.globalImplicit)]):=⟨rfl,by decide +kernel,by decide +kernel,by decide +kernel,rfl,capB_ok (by decide +kernel)⟩
theorem ndAn1:(["thing"]:List Str).Nodup:=by decide +kernel
theorem ok_an{f g:Addr}{fd gd:FuncData}(F:Fun K "are_numbers" "are_numbers" sAreNumbers f fd)(T2:Txt2 mg)(GN:CalF P w K mg base 1 "is_number" ["thing"] spNu g gd):FnOk P w K mg base CX0 2 f fd ["things"] (spAn K):=by
 refine F.ok scAn (fun vs H Q E h=>?_) (fun cdv A outer s H vs Q E hr h=>?_)
 ·obtain⟨b,a,ns,rfl,_⟩:=h
  rfl
 ·obtain⟨b,a,ns,rfl,ga,l,fin⟩:=h
  refine⟨_,(pss_one (ps_ret (pe_callB (call_allH rfl) (by rfl) T2.all boot_all (@pa_comp _ _ _ _ _ _ _ _ (pe_comp rfl csAn1 (pi_seq b (pvQ 0)) (fun C s H fp=>(pg_name (i:=0) ndAn1 rfl (Or.inl rfl))) (fun C s H fp=>pf_nil) (fun C s H fp=>(pe_call GN.ok hr rfl GN.mg GN.kp GN.bd .nil pass0 (@pa_nam _ _ _ _ _ _ (pvQ 0) pa_nil)))) pa_nil)))),?_⟩
  refine⟨a,rfl,⟨_,ga⟩,?_⟩
  refine comp_seq (K:=K) (b:=b) (a:=a) (xs:=ns.map V.int) (fun i ys G=>G=H/\ys=(List.replicate i true).map V.bl) (by rw[zA,sizeLine_eq];lia) ⟨rfl,rfl⟩ (fun i ys G _ z=>by rw[z.1];exact ga) ?_ ?_
  ·rintro i x ys G hx ⟨rfl,rfl⟩
   obtain⟨il,e⟩:=zE.mp hx
   rw[zR]at e
   subst e
   exact⟨trivial,tTru_if ⟨_,rfl,rfl,rep_t i⟩⟩
  ·rintro ys G _ ⟨rfl,rfl⟩ D hD
   refine⟨D,_,rfl,upd_same,?_⟩
   rw[all_rep]
   exact fin _ (Same.new hD)
noncomputable abbrev nIl:List Str:=["thing"]
theorem scIl:FnScope nIl ["thing"] (defScope sIsList):=⟨rfl,rfl,rfl,by decide +kernel,rfl,by decide +kernel,by decide +kernel⟩
theorem ok_il{f:Addr}{fd:FuncData}(F:Fun K "is_list" "is_list" sIsList f fd)(T:Txt mg):FnOk P w K mg base CX0 1 f fd ["thing"] spIl:=by
 refine F.ok scIl (fun vs H Q E h=>?_) (fun cdv A outer s H vs Q E hr h=>?_)
 ·obtain⟨b,a,xs,rfl,_⟩:=h
  rfl
 ·obtain⟨b,a,xs,rfl,ga,fin⟩:=h
  refine⟨_,(pss_one (ps_ret (pe_callB call_isinst2 (by rfl) T.isinst boot_isinstance (@pa_nam _ _ _ _ _ _ (pvQ 0) (@pa_tup _ _ _ _ _ _ _ (pe_tup (@pa_nam _ _ _ _ _ _ (pe_bltn (v:=.ty "list") (by rfl) T.list boot_list rfl) (@pa_nam _ _ _ _ _ _ (pe_bltn (v:=.ty "tuple") (by rfl) T.tuple boot_tuple rfl) pa_nil))) pa_nil))))),?_⟩
  refine⟨(by show 2<=sizeLine;decide),fun tp htp=>?_⟩
  have s1:=Same.new (o:=.tup [.ty "list",.ty "tuple"]) htp
  cases b with
  |false=>exact⟨_,_,tp,true,rfl,TyF.lst (s1 _ _ ga),upd_same,rfl,fin _ s1⟩
  |true=>exact⟨_,_,tp,true,rfl,TyF.tup (s1 _ _ ga),upd_same,rfl,fin _ s1⟩
noncomputable abbrev nIt:List Str:=["thing","many"]
theorem scIt:FnScope nIt ["thing","many"] (defScope sIsTupleOf):=⟨rfl,rfl,rfl,by decide +kernel,rfl,by decide +kernel,by decide +kernel⟩
theorem ok_it{f:Addr}{fd:FuncData}(F:Fun K "is_tuple_of" "is_tuple_of" sIsTupleOf f fd)(T:Txt mg):FnOk P w K mg base CX0 1 f fd ["thing","many"] spIt:=by
 refine F.ok scIt (fun vs H Q E h=>?_) (fun cdv A outer s H vs Q E hr h=>?_)
 ·obtain⟨a,xs,m,rfl,_⟩:=h
  rfl
 ·obtain⟨a,xs,m,rfl,ga,fin⟩:=h
  refine⟨_,(pss_one (ps_ret (pe_and (pe_callB call_isinst (by rfl) T.isinst boot_isinstance (@pa_nam _ _ _ _ _ _ (pvQ 0) (@pa_nam _ _ _ _ _ _ (pe_bltn (v:=.ty "tuple") (by rfl) T.tuple boot_tuple rfl) pa_nil))) (pe_one (pe_cmpR op_eq (pe_callB call_lenTH (by rfl) T.len PySem.boot_len (@pa_nam _ _ _ _ _ _ (pvQ 0) pa_nil)) (pvQ 1) (nomark _)))))),?_⟩
  refine⟨_,_,"tuple",true,rfl,TyOf.tup ga,rfl,_,rfl,iteT ?_⟩
  refine⟨a,_,rfl,ga,rfl,?_⟩
  rw[show decide (V.int (xs.length:Int)=V.int m)=decide ((xs.length:Int)=m)from decide_eq_decide.mpr ⟨fun z=>by injection z,fun z=>by rw[z]⟩]
  exact fin
noncomputable abbrev nRs:List Str:=["things"]
theorem scRs:FnScope nRs ["things"] (defScope sRises):=⟨rfl,rfl,rfl,by decide +kernel,rfl,by decide +kernel,by decide +kernel⟩
theorem csRs1:CompScope ["one","other"] [none,none] nRs (defScope sRises) (scO [(".0",.local),("one",.local),("other",.local)]):=⟨rfl,by decide +kernel,by decide +kernel,by decide +kernel,rfl,capB_ok (by decide +kernel)⟩
theorem ndRs1:(["one","other"]:List Str).Nodup:=by decide +kernel
theorem ok_rs{f:Addr}{fd:FuncData}(F:Fun K "rises" "rises" sRises f fd)(T2:Txt2 mg):FnOk P w K mg base CX0 1 f fd ["things"] spRs:=by
 refine F.ok scRs (fun vs H Q E h=>?_) (fun cdv A outer s H vs Q E hr h=>?_)
 ·obtain⟨l,as,ks,rfl,_⟩:=h
  rfl
 ·obtain⟨l,as,ks,rfl,hl,len,ht,ri,q⟩:=h
  have hu0:_<cLine:=hr.units0
  have lk:=tups_len ht
  refine⟨_,(pss_one (ps_ret (pe_callB (call_allH rfl) (by rfl) T2.all boot_all (@pa_comp _ _ _ _ _ _ _ _ (pe_comp rfl csRs1 (pi_zip false false (by rfl) T2.zip (@pa_nam _ _ _ _ _ _ (pvQ 0) (@pa_sub _ _ _ _ _ _ _ (pe_slice sl_list (pvQ 0) (po_some pe_int) po_none) pa_nil))) (fun C s H fp=>(pg_tupK K rfl (n:=2) rfl (pgs_cons (pg_name (i:=0) ndRs1 rfl (Or.inl rfl)) (pgs_cons (pg_name (i:=1) ndRs1 rfl (Or.inl rfl)) pgs_nil)) rfl rfl)) (fun C s H fp=>pf_nil) (fun C s H fp=>(pe_cmpR (op_ltTK K rfl hu0) (pvQ 0) (pvQ 1) (nomark _)))) pa_nil)))),?_⟩
  refine⟨_,rfl,l,_,rfl,SqL.of hl,fun l2 hl2=>?_⟩
  refine⟨l,l2,rfl,⟨_,(Same.new hl2).seq (SqL.of hl)⟩,⟨_,SqL.of upd_same⟩,?_⟩
  have s2:Same H (upd H l2 (.lst (cutV (as.map V.ref) (some 1) none))):=Same.new hl2
  have hl2':(upd H l2 (.lst (cutV (as.map V.ref) (some 1) none))) l2=some (.lst ((as.drop 1).map V.ref)):=by rw[upd_same,cutV_tail,<- List.map_drop]
  generalize (upd H l2 (.lst (cutV (as.map V.ref) (some 1) none)))=H2 at s2 hl2'
  refine comp_zip (K:=K) (b1:=false) (b2:=false) (l1:=l) (l2:=l2) (xs:=as.map V.ref) (ys:=(as.drop 1).map V.ref) (fun i ys G=>Same H2 G/\ys=(List.replicate i true).map V.bl) (by rw[zA,sizeLine_eq];lia) ⟨Same.refl _,rfl⟩ (fun i ys G _ z=>⟨(s2.trans z.1).seq (SqL.of hl),z.1.seq (SqL.of hl2')⟩) ?_ ?_
  ·rintro i x y zs G U hx hy ⟨sm,rfl⟩ hU
   obtain⟨il,e⟩:=zE.mp hx
   obtain⟨jl,e'⟩:=zE.mp hy
   rw[zA]at il jl
   rw[List.length_drop]at jl
   rw[zR]at e
   rw[zR,List.getElem_drop]at e'
   subst e e'
   have hk:i<ks.length:=by lia
   have hk1:1+i<ks.length:=by lia
   have a1:=tups_at ht i il hk
   have a2:=tups_at ht (1+i) (by lia) hk1
   have sU:Same H (upd G U (.tup [V.ref as[i],V.ref as[1+i]])):=s2.trans (sm.trans (Same.new hU))
   refine⟨U,_,rfl,SqT.of upd_same,rfl,_,_,rfl,_,_,rfl,rfl,trivial,tTru_if ⟨as[i],as[1+i],ks[i],ks[1+i],rfl,rfl,SqT.of (sU _ _ a1),SqT.of (sU _ _ a2),sm.trans (Same.new hU),?_⟩⟩
   rw[lexLt_eq,ri i hk1]
   exact rep_t i
  ·rintro ys G yl ⟨sm,rfl⟩ D hD
   refine⟨D,_,rfl,upd_same,?_⟩
   rw[all_rep]
   exact q _ (s2.trans (sm.trans (Same.new hD)))
end
end K63
namespace L2
open PySem PySem.W PyProof.Rows
theorem map_eraseR:∀ (l:List Addr) (k:Nat),(l.map V.ref).eraseIdx k=(l.eraseIdx k).map V.ref
 |[],k=>by cases k <;> rfl
 |x :: r,0=>rfl
 |x :: r,k+1=>by
  show V.ref x :: (r.map V.ref).eraseIdx k=V.ref x :: (r.eraseIdx k).map V.ref
  rw[map_eraseR r k]
theorem Paired.erase{α β:Type}{F:α->β->Prop}:∀ {l₁:List α}{l₂:List β} (k:Nat),Paired F l₁ l₂->Paired F (l₁.eraseIdx k) (l₂.eraseIdx k)
 | _,_,k,.nil=>by cases k <;> exact .nil
 | _,_,0,.cons _ t=>t
 | _,_,k+1,.cons h t=>.cons h (Paired.erase k t)
theorem Paired.app{α β:Type}{F:α->β->Prop}:∀ {l₁ m₁:List α}{l₂ m₂:List β},Paired F l₁ l₂->Paired F m₁ m₂->Paired F (l₁++m₁) (l₂++m₂)
 | _,_,_,_,.nil,r=>r
 | _,_,_,_,.cons h t,r=>.cons h (Paired.app t r)
end L2
namespace K63
open PySem L2 PyProof.Rows
noncomputable abbrev PrA(H:Hp)(as:List Addr)(prs:List (Int×Int)):Prop:=Paired (PrAt H) as prs
theorem PrA.same{H H':Hp}{as:List Addr}{prs:List (Int×Int)}(h:PrA H as prs)(s:Same H H'):PrA H' as prs:=Paired.mapP h fun c x z=>s _ _ z
noncomputable abbrev PrOk(n:Nat)(prs:List (Int×Int)):Prop:=∀ x∈prs,0<=x.1/\x.1<x.2/\x.2<n
theorem PrA.kept{H H':Hp}{p:Addr}{N:Nat}{as:List Addr}{prs:List (Int×Int)}(h:PrA H as prs)(B:BoxAt H p N)(k:Kept p H H'):PrA H' as prs:=by
 obtain⟨a,b,c,e,_⟩:=B
 exact Paired.mapP h fun c x z=>k _ _ (ne_of z e (by intro z;cases z)) z
inductive spPrI(vs:List V)(H:Hp)(Q:VK):Prop where
 |mk (p:Addr) (n N:Nat) (mo:Int) (h1:vs=[.ref p,.int n,.int mo]) (h2:BoxAt H p N) (h3:N+100<2 ^ 40) (h4:1<=n) (h5:n<=30) (h6:0<=mo) (h7:mo<=12) (h8:∀ (l:Addr) (as:List Addr) (prs:List (Int×Int)) (H':Hp),H l=none->H' l=some (.lst (as.map V.ref))->PrA H' as prs->PrOk n prs->prs.length<=13->BoxAt H' p (N+20)->Kept p H H'->Q (.ref l) H')
noncomputable def spPr:Sp:=fun vs H Q _=>spPrI vs H Q
section
variable{P:Program}{w:World}{K:PySem.W.Frag}{mg:Str->Option Value}{base:Heap}
noncomputable abbrev nPr:List Str:=["_law_box_here","_law_many","_law_most","_law_some","_law_b"]
theorem scPr:FnScope nPr ["_law_box_here","_law_many","_law_most"] (defScope sPairs):=⟨rfl,rfl,rfl,by decide +kernel,rfl,by decide +kernel,by decide +kernel⟩
theorem csPr1:CompScope ["_law_a","_law_b"] [none,some 4] nPr (defScope sPairs) (scO [(".0",.local),("_law_a",.local),("_law_b",.free)]):=⟨rfl,by decide +kernel,by decide +kernel,by decide +kernel,rfl,capB_ok (by decide +kernel)⟩
theorem ndPr1:(["_law_a","_law_b"]:List Str).Nodup:=by decide +kernel
theorem csPr2:CompScope ["_law_turn","_law_box_here","_law_some"] [none,some 0,some 3] nPr (defScope sPairs) (scO [(".0",.local),("_law_turn",.local),("_law_take",.globalImplicit),("len",.globalImplicit),("_law_box_here",.free),("_law_some",.free)]):=⟨rfl,by decide +kernel,by decide +kernel,by decide +kernel,rfl,capB_ok (by decide +kernel)⟩
theorem ndPr2:(["_law_turn","_law_box_here","_law_some"]:List Str).Nodup:=by decide +kernel
theorem ok_pr{f g:Addr}{fd gd:FuncData}(F:Fun K "_law_pairs" "_law_pairs" sPairs f fd)(T:Txt mg)(G:TakeF P w K mg base g gd):FnOk P w K mg base CX0 2 f fd ["_law_box_here","_law_many","_law_most"] spPr:=by
 refine F.ok scPr (fun vs H Q E h=>?_) (fun cdv A outer s H vs Q E hr h=>?_)
 ·obtain⟨p,n,N,mo,rfl,_⟩:=h
  rfl
 ·obtain⟨p,n,N,mo,rfl,B,hN,n1,n30,mo0,mo12,q⟩:=h
  refine⟨_,pss_cons (ps_set (i:=3) scPr.nd rfl (Or.inr rfl) (@pe_lst _ _ _ _ pa_nil))
   (pss_cons (ps_for PassesOwn.never rfl (pi_range1 rfl T.range (@pa_nam _ _ _ _ _ _ (pvQ 1) pa_nil)) (pg_name (i:=4) scPr.nd rfl (Or.inr rfl))
    (pss_one (ps_expr (pe_bm PySem.F.plainAttrs_list PySem.F.slot_list_extend PySem.F.type_list_extend mt_extend (pvQ 3) (@pa_comp _ _ _ _ _ _ _ _ (pe_comp rfl csPr1 (pi_range1 rfl T.range (@pa_nam _ _ _ _ _ _ (pvQ 4) pa_nil)) (fun C s H fp=>pg_name (i:=0) ndPr1 rfl (Or.inl rfl)) (fun C s H fp=>pf_nil)
     (fun C s H fp=>@pe_tup _ _ _ _ _ (@pa_nam _ _ _ _ _ _ (pvQ 0) (@pa_nam _ _ _ _ _ _ (pvQ 1) pa_nil)))) pa_nil)))))
   (pss_one (ps_ret (pe_comp rfl csPr2 (pi_range1 rfl T.range (@pa_call _ _ _ _ _ _ _ _ (pe_callB (call_min2 rfl) (by rfl) T.min boot_min (@pa_call _ _ _ _ _ _ _ _ (pe_callB call_len_seq (by rfl) T.len PySem.boot_len (@pa_nam _ _ _ _ _ _ (pvQ 3) pa_nil)) (@pa_call _ _ _ _ _ _ _ _ (pe_call G.ok hr rfl G.mg G.kp G.bd .nil pass0 (@pa_nam _ _ _ _ _ _ (pvQ 0) (@pa_bin _ _ _ _ _ _ _ _ (pe_op op_add (pvQ 2) pe_int) pa_nil))) pa_nil))) pa_nil))
    (fun C s H fp=>pg_name (i:=0) ndPr2 rfl (Or.inl rfl)) (fun C s H fp=>pf_nil)
    (fun C s H fp=>pe_bmK K rfl PySem.F.plainAttrs_list PySem.F.slot_list_pop PySem.F.type_list_pop mt_popAt (pvQ 2) (@pa_call _ _ _ _ _ _ _ _ (pe_call G.ok hr rfl G.mg G.kp G.bd .nil pass0 (@pa_nam _ _ _ _ _ _ (pvQ 1) (@pa_call _ _ _ _ _ _ _ _ (pe_callB (call_len_seqK K rfl) (by rfl) T.len PySem.boot_len (@pa_nam _ _ _ _ _ _ (pvQ 2) pa_nil)) pa_nil))) pa_nil)))))),?_⟩
  refine⟨(by show 0<=sizeLine;decide),fun so hso=>?_⟩
  have sop:so≠p:=B.ne hso
  refine⟨_,rfl,by lia,by lia,?_⟩
  rw[show((n:Int)).toNat=n by lia]
  refine for_range (lo:=0) (n:=n) (fun i σ G=>∃ (as:List Addr) (prs:List (Int×Int)) (v4:Option V),σ=[some (.ref p),some (.int n),some (.int mo),some (.ref so),v4]/\Same H G/\G so=some (.lst (as.map V.ref))/\PrA G as prs/\PrOk n prs/\as.length<=30 * i) ⟨[],[],none,rfl,Same.new hso,upd_same,.nil,fun _ h=>(nomatch h),zI _⟩ ?_ ?_
  ·rintro i σ G hi ⟨as,prs,v4,rfl,sG,gs,pr,po,al⟩
   rw[show(0:Int)+(i:Int)=(i:Int) by lia]
   refine⟨.inl ⟨rfl,_,SqL.of gs⟩,_,rfl,by lia,by lia,?_⟩
   rw[show((i:Int)).toNat=i by lia]
   refine comp_range (lo:=0) (n:=i) (fun j ys G2=>Same G G2/\∃ (bs:List Addr) (ps:List (Int×Int)),ys=bs.map V.ref/\bs.length=j/\PrA G2 bs ps/\PrOk n ps) (by rw[sizeLine_eq];lia) ⟨Same.refl _,[],[],rfl,rfl,.nil,fun _ h=>nomatch h⟩ ?_ ?_
   ·rintro j ys G2 hj ⟨s2,bs,ps,rfl,bl,pb,ob⟩
    refine⟨⟨rfl,trivial⟩,tTru_if ⟨(by show 2<=sizeLine;decide),fun t ht=>⟨s2.trans (Same.new ht),bs++[t],ps++[(0+(j:Int),(i:Int))],by rw[zJ];rfl,by rw[zK,bl];rfl,Paired.snoc (pb.same (Same.new ht)) upd_same,fun x hx=>?_⟩⟩⟩
    rcases zO.mp hx with hx | hx
    ·exact ob x hx
    ·rw[zD.mp hx]
     refine⟨?_,?_,?_⟩
     ·show(0:Int)<=0+(j:Int);lia
     ·show 0+(j:Int) <(i:Int);lia
     ·show(i:Int) <(n:Int);lia
   ·rintro ys G2 yl ⟨s2,bs,ps,rfl,bl,pb,ob⟩ D hD
    have sD:=Same.new (o:=.lst (bs.map V.ref)) hD
    refine⟨so,D,_,_,rfl,rfl,sD _ _ (s2 _ _ gs),upd_same,by rw[zA,zA,sizeLine_eq];lia,?_⟩
    have st:∀ (a:Addr) (xs:List V),(upd G2 D (.lst (bs.map V.ref))) a=some (.tup xs)->(upd (upd G2 D (.lst (bs.map V.ref))) so (.lst (as.map V.ref++bs.map V.ref))) a=some (.tup xs):=fun a xs e=>by
     rw[upd_ne (ne_of e (sD _ _ (s2 _ _ gs)) (by intro z;cases z))]
     exact e
    refine⟨as++bs,prs++ps,_,rfl,fun u o e=>by rw[upd_ne (ne_of_none e hso)];exact sD _ _ (s2 _ _ (sG _ _ e)),by rw[upd_same,zJ],Paired.app (Paired.mapP pr fun c x z=>st _ _ (sD _ _ (s2 _ _ z))) (Paired.mapP pb fun c x z=>st _ _ (sD _ _ z)),fun x hx=>?_,by rw[zK];lia⟩
    rcases zO.mp hx with hx | hx
    ·exact po x hx
    ·exact ob x hx
  ·rintro σ G ⟨as,prs,v4,rfl,sG,gs,pr,po,al⟩
   refine⟨so,_,rfl,.inl (SqL.of gs),_,_,rfl,rfl,p,_,N,rfl,B.same sG,by lia,by lia,by lia,fun z G1 z0 z1 B1 k1=>?_⟩
   rw[zA]
   refine⟨_,_,rfl,_,rfl,by split <;> lia,by split <;> lia,?_⟩
   obtain⟨ct,ec,c1,c2⟩:∃ ct:Nat,(if z <(as.length:Int)then z else(as.length:Int)).toNat=ct/\ct<=as.length/\ct<=12:=⟨_,rfl,by split <;> lia,by split <;> lia⟩
   rw[ec]
   have kG:Kept p H G:=fun b o _ e=>sG b o e
   have BG:=B.same sG
   refine comp_range (lo:=0) (n:=ct) (fun j ys G2=>BoxAt G2 p (N+1+j)/\Kept p H G2/\∃ (rs qs:List Addr) (pr pq:List (Int×Int)),G2 so=some (.lst (rs.map V.ref))/\PrA G2 rs pr/\PrOk n pr/\rs.length+j=as.length/\ys=qs.map V.ref/\PrA G2 qs pq/\PrOk n pq/\qs.length=j) (by rw[sizeLine_eq];omega)
    ⟨B1,kG.trans k1,as,[],prs,[],k1 _ _ sop gs,pr.kept BG k1,po,rfl,rfl,.nil,fun _ h=>(nomatch h),rfl⟩ ?_ ?_
   ·clear pr po B1 k1 BG kG
    rintro j ys G2 hj ⟨B2,k2,rs,qs,pr,pq,gs2,p2,o2,rl,rfl,p3,o3,ql⟩
    refine⟨⟨rfl,rfl,trivial⟩,tTru_if ⟨.inl ⟨rfl,_,SqL.of gs2⟩,so,_,rfl,.inl (SqL.of gs2),p,_,_,rfl,B2,by lia,by rw[zA];lia,by rw[zA];lia,fun y G3 y0 y1 B3 k3=>?_⟩⟩
    rw[zA]at y1
    obtain⟨k,rfl⟩:∃ k:Nat,y=(k:Int):=⟨y.toNat,by lia⟩
    have kl:k<rs.length:=by omega
    have lp:=p2.length
    have kp:k<pr.length:=by lia
    have gs3:=k3 _ _ sop gs2
    refine⟨so,rs.map V.ref,(k:Int),k,V.ref rs[k],rfl,rfl,gs3,by lia,by lia,?_,by rw[zAD,zF kl];rfl,?_⟩
    ·unfold seqIndex?
     rw[zA]
     simp
     lia
    rw[map_eraseR]
    have st:∀ (a:Addr) (xs:List V),G3 a=some (.tup xs)->(upd G3 so (.lst ((rs.eraseIdx k).map V.ref))) a=some (.tup xs):=fun a xs e=>by
     rw[upd_ne (ne_of e gs3 (by intro z;cases z))]
     exact e
    have p2':=p2.kept B2 k3
    have p3':=p3.kept B2 k3
    refine⟨(B3.put sop).mono (by lia),(k2.trans k3).put hso,rs.eraseIdx k,qs++[rs[k]],pr.eraseIdx k,pq++[pr[k]],upd_same,Paired.mapP (Paired.erase k p2') fun c x z=>st _ _ z,fun x hx=>o2 x (List.mem_of_mem_eraseIdx hx),by rw[List.length_eraseIdx,if_pos kl];lia,by rw[zJ];rfl,Paired.snoc (Paired.mapP p3' fun c x z=>st _ _ z) (st _ _ (Paired.at p2' k kl kp)),fun x hx=>?_,by rw[zK,ql];rfl⟩
    rcases zO.mp hx with hx | hx
    ·exact o3 x hx
    ·rw[zD.mp hx]
     exact o2 _ (zU kp)
   ·rintro ys G2 yl ⟨B2,k2,rs,qs,pr,pq,gs2,p2,o2,rl,rfl,p3,o3,ql⟩ D hD
    have sD:=Same.new (o:=.lst (qs.map V.ref)) hD
    have:=p3.length
    exact q D qs pq _ (k2.free B2 hD) upd_same (p3.same sD) o3 (by lia) ((B2.same sD).mono (by lia)) (k2.trans (Kept.new hD))
end
open PySem L2 PyProof.Rows
noncomputable abbrev TieA(H:Hp)(a:Addr)(x:Tie):Prop:=H a=some (.tup [.int x.1,.int x.2.1,.int x.2.2])
inductive spSwI(vs:List V)(H:Hp)(Q:VK):Prop where
 |mk (p:Addr) (n N:Nat) (h1:vs=[.ref p,.int n]) (h2:BoxAt H p N) (h3:N+2000<2 ^ 40) (h4:1<=n) (h5:n<=8) (h6:∀ (t:Addr) (ties:List Tie) (H':Hp),H t=none->WebAt H' t n ties->(∀ x∈ties,TieOk n x)->ties.Pairwise tieLt->ties.length<=12->BoxAt H' p (N+2000)->Kept p H H'->Q (.ref t) H')
noncomputable def spSw:Sp:=fun vs H Q _=>spSwI vs H Q
section
variable{P:Program}{w:World}{K:PySem.W.Frag}{mg:Str->Option Value}{base:Heap}
noncomputable abbrev nSw:List Str:=["_law_box_here","_law_many","_law_web_here","_law_ties_here"]
theorem scSw:FnScope nSw ["_law_box_here","_law_many"] (defScope sSmallWeb):=⟨rfl,rfl,rfl,by decide +kernel,rfl,by decide +kernel,by decide +kernel⟩
theorem ok_sw{f g g2:Addr}{fd gd gd2:FuncData}(F:Fun K "_law_small_web" "_law_small_web" sSmallWeb f fd)(T:Txt mg)(GT:TakeF P w K mg base g gd)(GW:CalF P w K mg base 3 "_law_web" ["_law_box_here","_law_many"] spWeb g2 gd2):FnOk P w K mg base CX0 4 f fd ["_law_box_here","_law_many"] spSw:=by
 refine F.ok scSw (fun vs H Q E h=>?_) (fun cdv A outer s H vs Q E hr h=>?_)
 ·obtain⟨p,n,N,rfl,_⟩:=h
  rfl
 ·obtain⟨p,n,N,rfl,B,hN,n1,n30,fin⟩:=h
  have hr1:Room 1 _:=hr.mono (by lia)
  have hr3:Room 3 _:=hr
  refine⟨_,(pss_cons (ps_set (i:=2) scSw.nd rfl (Or.inl rfl) (pe_call GW.ok hr3 rfl GW.mg GW.kp GW.bd .nil pass0 (@pa_nam _ _ _ _ _ _ (pvQ 0) (@pa_nam _ _ _ _ _ _ (pvQ 1) pa_nil))))
   (pss_cons (ps_set (i:=3) scSw.nd rfl (Or.inl rfl) (pe_callTy (call_listH true) (by rfl) T.list boot_list (@pa_sub _ _ _ _ _ _ _ (@pe_ix _ _ _ _ _ _ _ ix_tupH (pvQ 2) pe_int (fun _ _=>rfl)) pa_nil)))
   (pss_cons (ps_while PassesOwn.never (pt_cmpR op_gt (pe_callB call_lenH (by rfl) T.len PySem.boot_len (@pa_nam _ _ _ _ _ _ (pvQ 3) pa_nil)) pe_int (nomark _)) (pss_one (ps_expr (pe_bmH PySem.F.slot_list_pop PySem.F.type_list_pop mt_popAt (pvQ 3) (@pa_call _ _ _ _ _ _ _ _ (pe_call GT.ok hr1 rfl GT.mg GT.kp GT.bd .nil pass0 (@pa_nam _ _ _ _ _ _ (pvQ 0) (@pa_call _ _ _ _ _ _ _ _ (pe_callB call_lenH (by rfl) T.len PySem.boot_len (@pa_nam _ _ _ _ _ _ (pvQ 3) pa_nil)) pa_nil))) pa_nil)))))
   (pss_one (ps_ret (@pe_tup _ _ _ _ _ (@pa_nam _ _ _ _ _ _ (pvQ 1) (@pa_call _ _ _ _ _ _ _ _ (pe_callTy call_tupleH (by rfl) T.tuple boot_tuple (@pa_nam _ _ _ _ _ _ (pvQ 3) pa_nil)) pa_nil)))))))),?_⟩
  refine⟨p,n,N,rfl,B,by lia,n1,n30,fun t ties0 H1 ht W0 ok0 srt0 B1 k1=>?_⟩
  obtain⟨⟨ts,bs0,h1,h2,h3⟩,len0⟩:=W0
  have h3l:=h3.length
  refine⟨t,_,_,_,rfl,rfl,h1,at1,?_⟩
  refine⟨ts,_,rfl,h2,fun tl htl=>?_⟩
  have stl:=Same.new (o:=.lst (bs0.map V.ref)) htl
  have Htl:H tl=none:=k1.free B1 htl
  have tlp:tl≠p:=B1.ne htl
  have gtl:(upd H1 tl (.lst (bs0.map V.ref))) tl=some (.lst (bs0.map V.ref)):=upd_same
  have h3t:Paired (TieA (upd H1 tl (.lst (bs0.map V.ref)))) bs0 ties0:=Paired.mapP h3 fun _ _ e=>stl _ _ e
  have B2:BoxAt (upd H1 tl (.lst (bs0.map V.ref))) p (N+1000):=B1.put tlp
  have k2:Kept p H (upd H1 tl (.lst (bs0.map V.ref))):=k1.trans (Kept.new htl)
  clear stl
  generalize (upd H1 tl (.lst (bs0.map V.ref)))=H2 at gtl h3t B2 k2
  refine⟨fun m σ G=>∃ (bs:List Addr) (ties:List Tie),σ=[some (.ref p),some (.int n),some (.ref t),some (.ref tl)]/\m=bs.length/\bs.length<=bs0.length/\G tl=some (.lst (bs.map V.ref))/\Paired (TieA G) bs ties/\(∀ x∈ties,TieOk n x)/\ties.Pairwise tieLt/\BoxAt G p (N+1000+(bs0.length-bs.length))/\Kept p H G,⟨_,bs0,ties0,rfl,rfl,zI _,gtl,h3t,ok0,srt0,by rw[Nat.sub_self];exact B2,k2⟩,?_⟩
  clear gtl h3t B2 k2 ok0 srt0
  rintro m σ G ⟨bs,ties,rfl,rfl,bl,gt,pt,ok,srt,B,k⟩
  have ptl:=pt.length
  refine⟨tl,_,rfl,gt,_,_,rfl,rfl,_,rfl,ite2 (fun hm=>?_) (fun hm=>?_)⟩
  ·have hm:decide ((12:Int) <((bs.map V.ref).length:Int))=true:=hm
   have hm:=of_decide_eq_true hm
   rw[zA]at hm
   refine⟨fun σ' G'=>∃ m',m'<bs.length/\∃ (bs:List Addr) (ties:List Tie),σ'=[some (.ref p),some (.int n),some (.ref t),some (.ref tl)]/\m'=bs.length/\bs.length<=bs0.length/\G' tl=some (.lst (bs.map V.ref))/\Paired (TieA G') bs ties/\(∀ x∈ties,TieOk n x)/\ties.Pairwise tieLt/\BoxAt G' p (N+1000+(bs0.length-bs.length))/\Kept p H G',fun σ' G' z=>z,?_⟩
   refine⟨⟨tl,_,rfl,gt⟩,tl,_,rfl,gt,p,_,_,rfl,B,by lia,by rw[zA];lia,by rw[zA];lia,fun y G3 y0 y1 B3 k3=>?_⟩
   rw[zA]at y1
   obtain⟨i,rfl⟩:∃ i:Nat,y=(i:Int):=⟨y.toNat,by lia⟩
   have il:i<bs.length:=by lia
   have it:i<ties.length:=by lia
   have gt3:=k3 _ _ tlp gt
   refine⟨tl,bs.map V.ref,(i:Int),i,V.ref bs[i],rfl,rfl,gt3,by lia,by lia,?_,by rw[zAD,zF il];rfl,?_⟩
   ·unfold seqIndex?
    rw[zA]
    simp
    lia
   rw[map_eraseR]
   have st:∀ (a:Addr) (xs:List V),G3 a=some (.tup xs)->(upd G3 tl (.lst ((bs.eraseIdx i).map V.ref))) a=some (.tup xs):=fun a xs e=>by
    rw[upd_ne (ne_of e gt3 (by intro z;cases z))]
    exact e
   have p3:Paired (TieA G3) bs ties:=by
    obtain⟨a,b,c,e,_⟩:=B
    exact Paired.mapP pt fun c x z=>k3 _ _ (ne_of z e (by intro z;cases z)) z
   have el:(bs.eraseIdx i).length=bs.length-1:=by rw[List.length_eraseIdx,if_pos il]
   exact⟨_,by show(bs.eraseIdx i).length<bs.length;lia,bs.eraseIdx i,ties.eraseIdx i,rfl,rfl,by lia,upd_same,Paired.mapP (Paired.erase i p3) fun c x z=>st _ _ z,fun x hx=>ok x (List.mem_of_mem_eraseIdx hx),srt.sublist (List.eraseIdx_sublist _ _),(B3.put tlp).mono (by lia),(k.trans k3).put Htl⟩
  ·have hm:¬ decide ((12:Int) <((bs.map V.ref).length:Int))=true:=hm
   have hm:¬((12:Int) <((bs.map V.ref).length:Int)):=fun z=>hm (decide_eq_true z)
   rw[zA]at hm
   refine⟨tl,_,rfl,gt,fun tt htt=>⟨(by show 2<=sizeLine;decide),fun t' ht'=>?_⟩⟩
   have s1:=Same.new (o:=.tup (bs.map V.ref)) htt
   have s2:=Same.new (o:=.tup [.int n,.ref tt]) ht'
   have s12:=s1.trans s2
   refine fin t' ties _ (k.free B (s1.free ht')) ⟨⟨tt,bs,upd_same,s2 _ _ upd_same,Paired.mapP pt fun _ _ e=>s12 _ _ e⟩,by lia⟩ ok srt (by lia) ((B.same s12).mono (by lia)) (k.trans fun b o _ e=>s12 b o e)
end
open PySem L2 PyProof.Rows
noncomputable def mx:List Int->Int
 |[]=>-1
 |a :: l=>if mx l<a then a else mx l
theorem mx_ge:∀ {l:List Int},(-1<=mx l)/\∀ a∈l,a<=mx l
 |[]=>⟨zAZ _,fun a h=>nomatch h⟩
 |b :: l=>by
  obtain⟨h1,h2⟩:=mx_ge (l:=l)
  unfold mx
  refine⟨by split <;> omega,fun a ha=>?_⟩
  rcases zT.mp ha with e | e
  ·subst e;split <;> lia
  ·have:=h2 a e
   split <;> omega
theorem mx_mem:∀ {l:List Int},mx l∈l++[-1]
 |[]=>zD.mpr rfl
 |b :: l=>by
  unfold mx
  split
  ·exact zS
  ·exact zQ _ mx_mem
theorem mx_eq{l:List Int}{m:Int}(h:m∈l++[-1])(g:∀ a∈l++[-1],a<=m):m=mx l:=by
 refine Int.le_antisymm ?_ (g _ mx_mem)
 rcases zO.mp h with e | e
 ·exact mx_ge.2 m e
 ·rw[zD.mp e];exact mx_ge.1
theorem mx_lt{l:List Int}{k:Int}(h1:-1<k)(h:∀ a∈l,a<k):mx l<k:=by
 rcases zO.mp (mx_mem (l:=l))with e | e
 ·exact h _ e
 ·rw[zD.mp e];exact h1
noncomputable def kids(row:List Int):List (List Int):=(List.range (mx row+2).toNat).map fun(j:Nat)=>row++[(j:Int)]
noncomputable def RG:Nat->List (List Int)
 | 0=>[[]]
 |k+1=>(RG k).flatMap kids
structure RgOk(k:Nat)(row:List Int):Prop where
 len:row.length=k
 low:∀ x∈row,0<=x
 hi:∀ x∈row,x<k
theorem rg_ok:∀ {k:Nat}{row:List Int},row∈RG k->RgOk k row
 | 0,row,h=>by
  have h:=zD.mp h
  subst h
  exact⟨rfl,(fun x hx=>nomatch hx),(fun x hx=>nomatch hx)⟩
 |k+1,row,h=>by
  obtain⟨r,hr,h⟩:=List.mem_flatMap.mp h
  obtain⟨j,hj,rfl⟩:=zAA.mp h
  have hj:=zAW.mp hj
  obtain⟨l,lo,hi⟩:=rg_ok hr
  have m:=mx_lt (k:=(k:Int)) (by lia) hi
  refine⟨by rw[zK,l];rfl,fun x hx=>?_,fun x hx=>?_⟩
  ·rcases zO.mp hx with e | e
   ·exact lo x e
   ·rw[zD.mp e];lia
  ·rcases zO.mp hx with e | e
   ·have:=hi x e;lia
   ·rw[zD.mp e];lia
theorem kids_len{k:Nat}{row:List Int}(h:RgOk k row):(kids row).length<=k+1:=by
 unfold kids
 rw[zA,zBM]
 have:=mx_lt (l:=row) (k:=(k:Int)) (by lia) h.hi
 lia
theorem flat_le{c:Nat}:∀ {l:List (List Int)},(∀ r∈l,(kids r).length<=c)->(l.flatMap kids).length<=l.length * c
 |[],_=>by rw[List.flatMap_nil];exact zAQ _
 |r :: l,h=>by
  rw[List.flatMap_cons,zK,zAN,Nat.succ_mul]
  have:=flat_le (l:=l) fun r hr=>h r (zQ _ hr)
  have:=h r zS
  lia
theorem rg_len:∀ {k:Nat},k<=7->(RG k).length<=8 ^ k
 | 0,_=>zI _
 |k+1,h=>by
  refine zAC (flat_le (c:=8) fun r hr=>zAC (kids_len (rg_ok hr)) (by lia)) ?_
  rw[Nat.pow_succ]
  exact Nat.mul_le_mul_right _ (rg_len (by lia))
theorem hAt_app{row:List Int}{x:Int}{i:Nat}:(i<row.length->hAt (row++[x]) i=hAt row i)/\(i=row.length->hAt (row++[x]) i=x):=by
 unfold hAt
 rw[zAO]
 refine⟨fun h=>?_,fun h=>?_⟩
 ·rw[zAG,zAG,zBF h]
 ·subst h
  rw[zAG,zAX (zI _),Nat.sub_self]
  rfl
theorem hAt_mem{row:List Int}{i:Nat}(h:i<row.length):hAt row i∈row:=by
 rw[hAt_nat h]
 exact zU h
theorem rg_ex(h:Nat->Int):∀ k:Nat,∃ row∈RG k,∀ i j:Nat,i<k->j<k->(hAt row i=hAt row j↔h i=h j)
 | 0=>⟨[],zD.mpr rfl,fun i j hi=>absurd hi (Nat.not_lt_zero _)⟩
 |k+1=>by
  obtain⟨row,hr,eq⟩:=rg_ex h k
  obtain⟨l,lo,hi⟩:=rg_ok hr
  have mem:∀ v:Int,0<=v->v<=mx row+1->row++[v]∈RG (k+1):=fun v v0 v1 =>
   List.mem_flatMap.mpr ⟨row,hr,zAA.mpr ⟨v.toNat,zAW.mpr (by lia),by rw[Int.toNat_of_nonneg v0]⟩⟩
  have go:∀ v:Int,0<=v->v<=mx row+1->(∀ i:Nat,i<k->(hAt row i=v↔h i=h k))->∃ row∈RG (k+1),∀ i j:Nat,i<k+1->j<k+1->(hAt row i=hAt row j↔h i=h j):=fun v v0 v1 ev=>by
   refine⟨row++[v],mem v v0 v1,fun i j hi hj=>?_⟩
   rcases Nat.lt_succ_iff_lt_or_eq.mp hi with a | a <;> rcases Nat.lt_succ_iff_lt_or_eq.mp hj with b | b
   ·rw[hAt_app.1 (by lia),hAt_app.1 (by lia)];exact eq i j a b
   ·rw[hAt_app.1 (by lia),hAt_app.2 (by lia),b];exact ev i a
   ·rw[hAt_app.2 (by lia),hAt_app.1 (by lia),a]
    exact⟨fun z=>((ev j b).mp z.symm).symm,fun z=>((ev j b).mpr z.symm).symm⟩
   ·rw[a,b];exact⟨fun _=>rfl,fun _=>rfl⟩
  by_cases z:∃ j,j<k/\h j=h k
  ·obtain⟨j,jk,e⟩:=z
   have m:=hAt_mem (row:=row) (i:=j) (by lia)
   have:=mx_ge.2 _ m
   refine go (hAt row j) (lo _ m) (by lia) fun i ik=>?_
   rw[eq i j ik jk,e]
  ·have:=mx_ge (l:=row)
   refine go (mx row+1) (by lia) (zAZ _) fun i ik=>⟨fun e=>?_,fun e=>absurd ⟨i,ik,e⟩ z⟩
   have:=mx_ge.2 _ (hAt_mem (row:=row) (i:=i) (by lia))
   lia
theorem least_ex{p:Nat->Prop}:∀ {m:Nat},p m->∃ j,p j/\∀ i,p i->j<=i:=by
 intro m
 induction m using Nat.strongRecOn with
 |ind m ih =>
  intro pm
  by_cases z:∃ i,i<m/\p i
  ·obtain⟨i,im,pi⟩:=z
   exact ih i im pi
  ·exact⟨m,pm,fun i pi=>Nat.le_of_not_lt fun h=>z ⟨i,h,pi⟩⟩
theorem names_ex(T:List Tie):∃ h:Nat->Int,∀ i j:Nat,h i=h j↔Rch T i j:=by
 have ex:∀ i:Nat,∃ j:Nat,Rch T i j/\∀ k:Nat,Rch T i k->j<=k:=fun i=>least_ex (p:=fun j:Nat=>Rch T i j) (m:=i) (.refl _)
 refine⟨fun i=>((Classical.choose (ex i):Nat):Int),fun i j=>?_⟩
 obtain⟨a1,a2⟩:=Classical.choose_spec (ex i)
 obtain⟨b1,b2⟩:=Classical.choose_spec (ex j)
 refine⟨fun e=>?_,fun r=>?_⟩
 ·have e:((Classical.choose (ex i):Nat):Int)=((Classical.choose (ex j):Nat):Int):=e
  rw[e]at a1
  exact a1.trans b1.symm
 ·have x:=a2 _ (r.trans b1)
  have y:=b2 _ (r.symm.trans a1)
  show((Classical.choose (ex i):Nat):Int)=((Classical.choose (ex j):Nat):Int)
  lia
noncomputable def Xr(row:List Int)(x:Tie):Bool:=!decide (hAt row x.1=hAt row x.2.1)
noncomputable def Ap(prs:List (Int×Int))(row:List Int):Prop:=∀ p∈prs,hAt row p.1≠hAt row p.2
structure LeastP(n:Nat)(ties:List Tie)(prs:List (Int×Int))(m:Int):Prop where
 ex:∃ row∈RG n,Ap prs row/\m=wX ties (Xr row)
 le:∀ row∈RG n,Ap prs row->m<=wX ties (Xr row)
theorem ap_prt{ties:List Tie}{prs:List (Int×Int)}{row:List Int}(h:Ap prs row):Prt ties prs (Xr row):=by
 intro p hp r
 refine h p hp (Rch.inv (f:=hAt row) (fun a b w m=>?_) r)
 have:=(zAL.mp m).2
 unfold Xr at this
 simpa using this
theorem rg_any{n:Nat}{prs:List (Int×Int)}(po:∀ x∈prs,0<=x.1/\x.1<x.2/\x.2<n):∃ row∈RG n,Ap prs row:=by
 obtain⟨row,hr,e⟩:=rg_ex (fun i=>(i:Int)) n
 refine⟨row,hr,fun p hp z=>?_⟩
 obtain⟨p1,p2,p3⟩:=po p hp
 have:=(e p.1.toNat p.2.toNat (by lia) (by omega)).mp (by rw[Int.toNat_of_nonneg p1,Int.toNat_of_nonneg (by lia)];exact z)
 lia
theorem LeastP.eq{n:Nat}{ties bts:List Tie}{prs:List (Int×Int)}{m bw:Int}(L:LeastP n ties prs m)(ok:∀ x∈ties,TieOk n x)(srt:ties.Pairwise tieLt)(po:∀ x∈prs,0<=x.1/\x.1<x.2/\x.2<n)(ew:bw=wt bts)(C:Cts ties bts)(pt:Parted ties prs bts)(le:∀ X,Prt ties prs X->bw<=wX ties X):bw=m:=by
 obtain⟨row,hr,ap,e⟩:=L.ex
 refine Int.le_antisymm (e▸le _ (ap_prt ap)) ?_
 obtain⟨h,eh⟩:=names_ex (rest ties (bts.map pairOf))
 obtain⟨r2,hr2,e2⟩:=rg_ex h n
 have key:∀ a b:Int,0<=a->a<n->0<=b->b<n->(hAt r2 a=hAt r2 b↔Rch (rest ties (bts.map pairOf)) a b):=fun a b a0 a1 b0 b1=>by
  have:=e2 a.toNat b.toNat (by lia) (by lia)
  rw[eh,Int.toNat_of_nonneg a0,Int.toNat_of_nonneg b0]at this
  exact this
 have ap2:Ap prs r2:=fun p hp z=>by
  obtain⟨p1,p2,p3⟩:=po p hp
  exact pt p hp ((key _ _ p1 (by lia) (by lia) p3).mp z)
 refine Int.le_trans (L.le r2 hr2 ap2) ?_
 rw[ew]
 have nd:ties.Nodup:=srt_nd srt
 refine wt_le (nd.filter _) (fun x hx=>?_) (fun x hx=>by have:=(ok x (C.sub x hx)).2.2.2;lia)
 obtain⟨hm,hx⟩:=zAL.mp hx
 obtain⟨o1,o2,o3,_⟩:=ok x hm
 refine Decidable.byContradiction fun nb=>?_
 have xr:x∈rest ties (bts.map pairOf):=mem_rest.mpr ⟨hm,fun z=>by
  obtain⟨y,hy,e⟩:=zAA.mp z
  exact nb (pair_inj srt (C.sub y hy) hm e▸hy)⟩
 have:=(key x.1 x.2.1 o1 (by lia) (by lia) o3).mpr (.up (w:=x.2.2) xr (.refl _))
 unfold Xr at hx
 rw[decide_eq_true this]at hx
 cases hx
open PySem L2 PyProof.Rows
noncomputable abbrev LR(H:Hp)(as:List Addr)(rows:List (List Int)):Prop:=Paired (fun a (r:List Int)=>H a=some (.lst (r.map V.int))) as rows
theorem LR.same{H H':Hp}{as:List Addr}{rows:List (List Int)}(h:LR H as rows)(s:Same H H'):LR H' as rows:=Paired.mapP h fun _ _ e=>s _ _ e
theorem flat_take'{l:List (List Int)}{i:Nat}(h:i<l.length):(l.take (i+1)).flatMap kids=(l.take i).flatMap kids++kids l[i]:=by
 rw[zL h,List.flatMap_append];simp
theorem paired_fst{α β:Type}{R S:α->β->Prop}{l:List α}{m:List β}(h:Paired R l m)(f:∀ a b,a∈l->R a b->S a b):Paired S l m:=by
 induction h with
 |nil=>exact .nil
 |cons r _ ih=>exact .cons (f _ _ zS r) (ih fun a b hb=>f a b (zQ _ hb))
inductive spLpI(vs:List V)(H:Hp)(Q:VK):Prop where
 |mk (t q:Addr) (n:Nat) (ties:List Tie) (as:List Addr) (prs:List (Int×Int)) (h1:vs=[.ref t,.ref q]) (h2:WebAt H t n ties) (h3:(∀ x∈ties,TieOk n x)) (h4:n<=7) (h5:H q=some (.lst (as.map V.ref))) (h6:Paired (PrAt H) as prs) (h7:prs.length<=1000) (h8:(∀ x∈prs,0<=x.1/\x.1<x.2/\x.2<n)) (h9:∀ (m:Int) (H':Hp),LeastP n ties prs m->Same H H'->Q (.int m) H')
noncomputable def spLp:Sp:=fun vs H Q _=>spLpI vs H Q
section
variable{P:Program}{w:World}{K:PySem.W.Frag}{mg:Str->Option Value}{base:Heap}
noncomputable abbrev nLp:List Str:=["_law_web_here","_law_pairs_here","_law_rows","_law_place","_law_longer","_law_row"]
theorem scLp:FnScope nLp ["_law_web_here","_law_pairs_here"] (defScope sLeastPairs):=⟨rfl,rfl,rfl,by decide +kernel,rfl,by decide +kernel,by decide +kernel⟩
theorem csLp1:CompScope ["_law_name","_law_row"] [none,some 5] nLp (defScope sLeastPairs) (scO [(".0",.local),("_law_name",.local),("_law_row",.free)]):=⟨rfl,by decide +kernel,by decide +kernel,by decide +kernel,rfl,capB_ok (by decide +kernel)⟩
theorem ndLp1:(["_law_name","_law_row"]:List Str).Nodup:=by decide +kernel
theorem csLp2:CellScope "_law_row" ["_law_row","_law_pairs_here"] [none,some 1] nLp (defScope sLeastPairs) (scO [(".0",.local),("_law_row",.cell),("all",.globalImplicit),("_law_pairs_here",.free)]):=⟨rfl,fun _ _=>rfl,fun _=>rfl,by decide +kernel,by decide +kernel,by decide +kernel,by decide +kernel,rfl,capB_ok (by decide +kernel)⟩
theorem ndLp2:(["_law_row","_law_pairs_here"]:List Str).Nodup:=by decide +kernel
theorem csLp3:CompScope ["_law_a","_law_b","_law_row"] [none,none,some 0] ["_law_row","_law_pairs_here"] (scO [(".0",.local),("_law_row",.cell),("all",.globalImplicit),("_law_pairs_here",.cell)]) (scO [(".0",.local),("_law_a",.local),("_law_b",.local),("_law_row",.free)]):=⟨rfl,by decide +kernel,by decide +kernel,by decide +kernel,rfl,capB_ok (by decide +kernel)⟩
theorem ndLp3:(["_law_a","_law_b","_law_row"]:List Str).Nodup:=by decide +kernel
noncomputable abbrev teLp3(K:PySem.W.Frag):TE:=tComp [none,none,some 0] (iList K (tVar 1)) (gTup K 2 (gCons (gName 0) (gCons (gName 1) gNil))) tTru (tOp rNe (tOp rIxLh (tVar 2) (tVar 0)) (tOp rIxLh (tVar 2) (tVar 1)))
theorem csLp4:CellScope "_law_row" ["_law_row","_law_web_here"] [none,some 0] nLp (defScope sLeastPairs) (scO [(".0",.local),("_law_row",.cell),("sum",.globalImplicit),("_law_web_here",.free)]):=⟨rfl,fun _ _=>rfl,fun _=>rfl,by decide +kernel,by decide +kernel,by decide +kernel,by decide +kernel,rfl,capB_ok (by decide +kernel)⟩
theorem ndLp4:(["_law_row","_law_web_here"]:List Str).Nodup:=by decide +kernel
theorem csLp5:CompScope ["_law_a","_law_b","_law_weight_here","_law_row"] [none,none,none,some 0] ["_law_row","_law_web_here"] (scO [(".0",.local),("_law_row",.cell),("sum",.globalImplicit),("_law_web_here",.cell)]) (scO [(".0",.local),("_law_a",.local),("_law_b",.local),("_law_weight_here",.local),("_law_row",.free)]):=⟨rfl,by decide +kernel,by decide +kernel,by decide +kernel,rfl,capB_ok (by decide +kernel)⟩
theorem ndLp5:(["_law_a","_law_b","_law_weight_here","_law_row"]:List Str).Nodup:=by decide +kernel
noncomputable abbrev teLp5(K:PySem.W.Frag):TE:=tComp [none,none,none,some 0] (iTup K (tOp rIxTh (tVar 1) (tC (.int 1)))) (gTup K 3 (gCons (gName 0) (gCons (gName 1) (gCons (gName 2) gNil)))) (tTest (tOp rNe (tOp rIxLh (tVar 3) (tVar 0)) (tOp rIxLh (tVar 3) (tVar 1)))) (tVar 2)
theorem ok_lp{f:Addr}{fd:FuncData}(F:Fun K "_law_least_pairs" "_law_least_pairs" sLeastPairs f fd)(T:Txt mg)(T2:Txt2 mg):FnOk P w K mg base CX0 1 f fd ["_law_web_here","_law_pairs_here"] spLp:=by
 refine F.ok scLp (fun vs H Q E h=>?_) (fun cdv A outer s H vs Q E hr h=>?_)
 ·obtain⟨t,q,n,ties,as,prs,rfl,_⟩:=h
  rfl
 ·obtain⟨t,q,n,ties,pas,prs,rfl,W,ok,n7,gq,pr,pl,po,fin⟩:=h
  obtain⟨⟨ts,bs0,h1,h2,h3⟩,len⟩:=id W
  have h3l:bs0.length=ties.length:=h3.length
  have ppl:=pr.length
  have p8:∀ k,k<=7->(8:Nat) ^ k<=2097152:=fun k hk=>zAC (Nat.pow_le_pow_right (by decide) hk) (by decide)
  refine⟨_,(pss_cons (ps_set (i:=2) scLp.nd rfl (Or.inl rfl) (@pe_lst _ _ _ _ (@pa_lst _ _ _ _ _ _ (@pe_lst _ _ _ _ pa_nil) pa_nil)))
   (pss_cons (ps_for PassesOwn.never rfl (pi_range1 rfl T.range (@pa_sub _ _ _ _ _ _ _ (@pe_ix _ _ _ _ _ _ _ ix_tupH (pv 0) pe_int (fun _ _=>rfl)) pa_nil)) (pg_name (i:=3) scLp.nd rfl (Or.inl rfl))
   (pss_cons (ps_set (i:=4) scLp.nd rfl (Or.inl rfl) (@pe_lst _ _ _ _ pa_nil))
   (pss_cons (ps_for PassesOwn.never rfl (pi_list (pv 2)) (pg_name (i:=5) scLp.nd rfl (Or.inr rfl))
   (pss_one (ps_expr (pe_bmH PySem.F.slot_list_extend PySem.F.type_list_extend mt_extend (pv 4) (@pa_comp _ _ _ _ _ _ _ _ (pe_comp rfl csLp1 (pi_range1 rfl T.range (@pa_bin _ _ _ _ _ _ _ _ (pe_op op_add (pe_callB (call_maxLH rfl) (by rfl) T.max boot_max (@pa_bin _ _ _ _ _ _ _ _ (pe_op op_cat (pv 5) (@pe_lst _ _ _ _ (@pa_un _ _ _ _ _ _ _ (pe_un un_neg pe_int) pa_nil))) pa_nil)) pe_int) pa_nil)) (fun C s H fp=>(pg_name (i:=0) ndLp1 rfl (Or.inl rfl))) (fun C s H fp=>pf_nil) (fun C s H fp=>(pe_op op_cat (pv 1) (@pe_lst _ _ _ _ (@pa_nam _ _ _ _ _ _ (pv 0) pa_nil))))) pa_nil)))))
   (pss_one (ps_set (i:=2) scLp.nd rfl (Or.inl rfl) (pv 4))))))
   (pss_cons (ps_compC (i:=2) scLp.nd rfl (Or.inl rfl) rfl csLp2 (pi_list (pv 2)) (fun C s H fp=>(pg_name (i:=0) ndLp2 rfl (Or.inr rfl) (Or.inl (by rfl)))) (fun C s H fp=>(pf_one (pt_val (pe_callB (call_allH rfl) (by rfl) T2.all boot_all (@pa_comp _ _ _ _ _ _ _ _ (show PE _ _ (teLp3 K)from pe_comp rfl csLp3 (pi_list (pv 1)) (fun C s H fp=>(pg_tupK K rfl (n:=2) rfl (pgs_cons (pg_name (i:=0) ndLp3 rfl (Or.inl rfl)) (pgs_cons (pg_name (i:=1) ndLp3 rfl (Or.inl rfl)) pgs_nil)) rfl rfl)) (fun C s H fp=>pf_nil) (fun C s H fp=>(pe_cmpR op_ne (@pe_ix _ _ _ _ _ _ _ ix_listH (pv 2) (pv 0) (fun _ _=>rfl)) (@pe_ix _ _ _ _ _ _ _ ix_listH (pv 2) (pv 1) (fun _ _=>rfl)) (nomark _)))) pa_nil))))) (fun C s H fp=>(pv 0)))
   (pss_one (ps_ret (pe_callB (call_minLH rfl) (by rfl) T.min boot_min (@pa_comp _ _ _ _ _ _ _ _ (pe_compC rfl csLp4 (pi_list (pv 2)) (fun C s H fp=>(pg_name (i:=0) ndLp4 rfl (Or.inr rfl) (Or.inl (by rfl)))) (fun C s H fp=>pf_nil) (fun C s H fp=>(pe_callB (call_sumH rfl) (by rfl) T.sum boot_sum (@pa_comp _ _ _ _ _ _ _ _ (show PE _ _ (teLp5 K)from pe_comp rfl csLp5 (pi_tup (@pe_ix _ _ _ _ _ _ _ ix_tupH (pv 1) pe_int (fun _ _=>rfl))) (fun C s H fp=>(pg_tupK K rfl (n:=3) rfl (pgs_cons (pg_name (i:=0) ndLp5 rfl (Or.inl rfl)) (pgs_cons (pg_name (i:=1) ndLp5 rfl (Or.inl rfl)) (pgs_cons (pg_name (i:=2) ndLp5 rfl (Or.inl rfl)) pgs_nil))) rfl rfl)) (fun C s H fp=>(pf_one (pt_cmpR op_ne (@pe_ix _ _ _ _ _ _ _ ix_listH (pv 3) (pv 0) (fun _ _=>rfl)) (@pe_ix _ _ _ _ _ _ _ ix_listH (pv 3) (pv 1) (fun _ _=>rfl)) (nomark _)))) (fun C s H fp=>(pv 2))) pa_nil)))) pa_nil))))))),?_⟩
  refine⟨(by show 0<=sizeLine;decide),fun r0 hr0=>⟨(by show 1<=sizeLine;decide),fun rl0 hrl0=>?_⟩⟩
  have s1:=Same.new (o:=.lst []) hr0
  have s2:=Same.new (o:=.lst [.ref r0]) hrl0
  have s12:=s1.trans s2
  have g1:=s2 _ _ (upd_same (H:=H) (a:=r0) (o:=.lst []))
  have g2:(upd (upd H r0 (.lst [])) rl0 (.lst [.ref r0])) rl0=some (.lst ([r0].map V.ref)):=upd_same
  clear s1 s2
  generalize (upd (upd H r0 (.lst [])) rl0 (.lst [.ref r0]))=H1 at s12 g1 g2
  refine⟨_,rfl,t,_,_,_,rfl,rfl,s12 _ _ h1,at0,_,rfl,by lia,by lia,?_⟩
  rw[show((n:Int)).toNat=n by lia]
  refine for_range (lo:=0) (n:=n) (fun k σ G=>Ex5 fun(rl:Addr) (as:List Addr) (v3 v4 v5:Option V)=>σ=[some (.ref t),some (.ref q),some (.ref rl),v3,v4,v5]/\Same H G/\G rl=some (.lst (as.map V.ref))/\LR G as (RG k)) ⟨rl0,[r0],_,_,_,rfl,s12,g2,.cons g1 .nil⟩ ?_ ?_
  ·clear s12 g1 g2
   rintro k σ G kn ⟨rl,as,v3,v4,v5,rfl,sG,gr,pa⟩
   have pal:=pa.length
   have rgl:=zAC (rg_len (k:=k) (by lia)) (p8 k (by lia))
   have rgl1:=zAC (rg_len (k:=k+1) (by lia)) (p8 (k+1) (by lia))
   refine⟨(by show 0<=sizeLine;decide),fun lg hlg=>?_⟩
   have slg:=Same.new (o:=.lst []) hlg
   have glg:(upd G lg (.lst [])) lg=some (.lst ([].map V.ref)):=upd_same
   generalize (upd G lg (.lst []))=G1 at slg glg
   refine⟨_,rfl,rl,rfl,⟨_,SqL.of (slg _ _ gr)⟩,?_⟩
   refine for_list (K:=K) (a:=rl) (xs:=as.map V.ref) (fun j σ G'=>∃ (bs:List Addr) (v5:Option V),σ=[some (.ref t),some (.ref q),some (.ref rl),some (.int (0+(k:Int))),some (.ref lg),v5]/\Same G G'/\G' lg=some (.lst (bs.map V.ref))/\LR G' bs (((RG k).take j).flatMap kids)/\∀ a∈bs,a≠lg) ⟨[],_,rfl,slg,glg,.nil,fun a ha=>nomatch ha⟩ (fun j σ G' _ z=>by obtain⟨_,_,_,s,_⟩:=z;exact SqL.of (s _ _ gr)) ?_ ?_
   ·clear slg glg
    rintro j x σ G1 hx ⟨bs,v5,rfl,s1,glg,pb,nb⟩
    obtain⟨jl,e⟩:=zE.mp hx
    rw[zA]at jl
    rw[zR]at e
    subst e
    have jr:j <(RG k).length:=by lia
    have R:=rg_ok (zU jr)
    have kl:=kids_len R
    have gx:=s1 _ _ (Paired.at pa j jl jr)
    rw[flat_take' jr]
    generalize (RG k)[j]=row at *
    have rowl:=R.len
    refine⟨_,rfl,⟨lg,_,rfl,glg⟩,?_⟩
    refine⟨_,rfl,_,rfl,(by show 1<=sizeLine;decide),fun p1 hp1=>?_⟩
    have sp1:=Same.new (o:=.lst [V.int (-1)]) hp1
    refine⟨as[j],p1,_,_,rfl,rfl,sp1 _ _ gx,upd_same,by rw[zA,zX,sizeLine_eq];lia,fun p2 hp2=>?_⟩
    have e1:row.map V.int++[V.int (-1)]=(row++[-1]).map V.int:=by rw[zJ];rfl
    rw[e1]
    have sp2:=Same.new (o:=.lst ((row++[-1]).map V.int)) hp2
    have s12:=sp1.trans sp2
    refine⟨p2,row++[-1],rfl,upd_same,(by simp),fun m hm hg=>?_⟩
    obtain rfl:=mx_eq hm hg
    have mlt:=mx_lt (l:=row) (k:=(k:Int)) (by lia) R.hi
    have mge:=(mx_ge (l:=row)).1
    clear hm hg sp1 sp2
    generalize (upd (upd G1 p1 (.lst [V.int (-1)])) p2 (.lst ((row++[-1]).map V.int)))=G2 at s12
    refine⟨_,_,rfl,rfl,_,rfl,by lia,by lia,?_⟩
    have gl2:=s12 _ _ glg
    refine comp_range (lo:=0) (n:=(mx row+2).toNat) (fun i ys G3=>Same G2 G3/\∃ cs:List Addr,ys=cs.map V.ref/\LR G3 cs ((List.range i).map fun(j:Nat)=>row++[(j:Int)])/\∀ a∈cs,a≠lg) (by rw[sizeLine_eq];lia) ⟨Same.refl _,[],rfl,.nil,fun a ha=>nomatch ha⟩ ?_ ?_
    ·rintro i ys G3 hi ⟨s3,cs,rfl,pc,nc⟩
     refine⟨⟨rfl,trivial⟩,tTru_if ⟨_,rfl,_,rfl,(by show 1<=sizeLine;decide),fun p3 hp3=>?_⟩⟩
     have sp3:=Same.new (o:=.lst [V.int (0+(i:Int))]) hp3
     refine⟨as[j],p3,_,_,rfl,rfl,sp3 _ _ (s3 _ _ (s12 _ _ gx)),upd_same,by rw[zA,zX,sizeLine_eq];lia,fun p4 hp4=>?_⟩
     have e2:row.map V.int++[V.int (0+(i:Int))]=(row++[(i:Int)]).map V.int:=by rw[zJ,Int.zero_add];rfl
     rw[e2]
     have sp4:=Same.new (o:=.lst ((row++[(i:Int)]).map V.int)) hp4
     have s34:=sp3.trans sp4
     refine⟨s3.trans s34,cs++[p4],by rw[zJ];rfl,?_,fun a ha=>?_⟩
     ·have e4:(List.range (i+1)).map (fun(j:Nat)=>row++[(j:Int)])=(List.range i).map (fun(j:Nat)=>row++[(j:Int)])++[row++[(i:Int)]]:=by rw[List.range_succ,zJ];rfl
      rw[e4]
      exact Paired.snoc (LR.same pc s34) upd_same
     ·rcases zO.mp ha with h | h
      ·exact nc a h
      ·intro z
       rw[zD.mp h]at z
       rw[z,sp3 _ _ (s3 _ _ gl2)]at hp4
       cases hp4
    ·rintro ys G3 _ ⟨s3,cs,rfl,pc,nc⟩ D hD
     have sD:=Same.new (o:=.lst (cs.map V.ref)) hD
     have gl3:=sD _ _ (s3 _ _ gl2)
     have pcl:=pc.length
     have pbl:=pb.length
     rw[zA,zBM]at pcl
     have fl:(((RG k).take j).flatMap kids).length<=2097152:=by
      refine zAC (flat_le (c:=8) fun r hr=>zAC (kids_len (rg_ok (List.mem_of_mem_take hr))) (by lia)) ?_
      rw[zAH]
      have:=rg_len (k:=k) (by lia)
      have:=Nat.pow_le_pow_right (n:=8) (by decide) (show k<=6 by lia)
      have e:(8:Nat) ^ 6=262144:=by decide
      lia
     refine⟨lg,D,_,_,rfl,rfl,gl3,upd_same,by rw[zA,zA,sizeLine_eq];lia,?_⟩
     have sA:=(s12.trans s3).trans sD
     have e3:bs.map V.ref++cs.map V.ref=(bs++cs).map V.ref:=by rw[zJ]
     rw[e3]
     refine⟨bs++cs,_,rfl,same_put (s1.trans sA) hlg,upd_same,pd_app (paired_fst pb fun a r ha g=>?_) (paired_fst pc fun a r ha g=>?_),fun a ha=>?_⟩
     ·rw[upd_ne (nb a ha)]
      exact sA _ _ g
     ·rw[upd_ne (nc a ha)]
      exact sD _ _ g
     ·rcases zO.mp ha with h | h
      ·exact nb a h
      ·exact nc a h
   ·rintro σ G1 ⟨bs,v5,rfl,s1,glg,pb,nb⟩
    rw[zA,pal,zAF]at pb
    exact⟨_,rfl,lg,bs,_,_,_,rfl,sG.trans s1,glg,pb⟩
  ·clear s12 g1 g2
   rintro σ G ⟨rl,as,v3,v4,v5,rfl,sG,gr,pa⟩
   have pal:=pa.length
   have rgl:=zAC (rg_len (k:=n) (by omega)) (p8 n (by omega))
   have gi:∀ {row:List Int}{j:Int},RgOk n row->0<=j->j<n->atI (row.map V.int) j=some (V.int (hAt row j)):=fun {row j} R j0 j1=>by
    obtain⟨j,rfl⟩:∃ j':Nat,j=(j':Int):=⟨j.toNat,by lia⟩
    have jl:j<row.length:=by rw[R.len];lia
    exact atI_nat (by rw[zAD,zF jl,hAt_nat jl];rfl)
   refine⟨_,rfl,rl,rfl,⟨_,SqL.of gr⟩,?_⟩
   refine comp_list (K:=K) (a:=rl) (xs:=as.map V.ref) (fun j ys G'=>Same G G'/\∃ cs:List Addr,ys=cs.map V.ref/\LR G' cs (((RG n).take j).filter fun row=>(apart row prs).all id)) (by rw[zA,sizeLine_eq];lia) ⟨Same.refl _,[],rfl,.nil⟩ (fun j ys G' _ z=>SqL.of (z.1 _ _ gr)) ?_ ?_
   ·rintro j x ys G1 hx ⟨s1,cs,rfl,pc⟩
    obtain⟨jl,e⟩:=zE.mp hx
    rw[zA]at jl
    rw[zR]at e
    subst e
    have jr:j <(RG n).length:=by lia
    have R:=rg_ok (zU jr)
    have gx:=s1 _ _ (Paired.at pa j jl jr)
    have gq1:=s1 _ _ (sG _ _ gq)
    rw[zL jr,zBJ]
    generalize (RG n)[j]=row at *
    refine⟨⟨rfl,trivial⟩,_,rfl,q,rfl,⟨_,SqL.of gq1⟩,?_⟩
    refine comp_list (K:=K) (a:=q) (xs:=pas.map V.ref) (fun i ys G2=>G2=G1/\ys=(apart row (prs.take i)).map V.bl) (by rw[zA,sizeLine_eq];lia) ⟨rfl,rfl⟩ (fun i ys G _ z=>by rw[z.1];exact SqL.of gq1) ?_ ?_
    ·rintro i x ys G2 hx ⟨rfl,rfl⟩
     obtain⟨il,e⟩:=zE.mp hx
     rw[zA]at il
     rw[zR]at e
     subst e
     have ip:i<prs.length:=by lia
     have ha:=s1 _ _ (sG _ _ (Paired.at pr i il ip))
     obtain⟨o1,o2,o3⟩:=po _ (zU ip)
     refine⟨pas[i],_,rfl,SqT.of ha,rfl,_,_,rfl,_,_,rfl,rfl,⟨rfl,trivial⟩,tTru_if ?_⟩
     refine⟨_,rfl,_,rfl,as[j],_,_,_,rfl,rfl,gx,gi R o1 (by lia),_,rfl,_,rfl,as[j],_,_,_,rfl,rfl,gx,gi R (by lia) o3,rfl,?_⟩
     rw[zL ip]
     unfold apart
     rw[zJ,zJ]
     congr 1
     simp
    ·rintro ys G2 _ ⟨rfl,rfl⟩ D hD
     rw[zAM (by rw[zA];lia)]
     have sD:=Same.new (o:=.lst ((apart row prs).map V.bl)) hD
     refine⟨D,_,rfl,upd_same,_,rfl,ite2 (fun h=>?_) (fun h=>?_)⟩
     ·have h:(apart row prs).all id=true:=h
      refine⟨_,rfl,s1.trans sD,cs++[as[j]],by rw[zJ];rfl,?_⟩
      rw[zAP,if_pos h]
      exact Paired.snoc (LR.same pc sD) (sD _ _ gx)
     ·have h:¬(apart row prs).all id=true:=h
      refine⟨s1.trans sD,cs,rfl,?_⟩
      rw[zAP,if_neg h,List.filter_nil,zAU]
      exact LR.same pc sD
   rintro ys G1 _ ⟨s1,cs,rfl,pc⟩ D hD
   rw[zA,pal,zAF]at pc
   have sD:=Same.new (o:=.lst (cs.map V.ref)) hD
   have s2:=(sG.trans s1).trans sD
   have gD:(upd G1 D (.lst (cs.map V.ref))) D=some (.lst (cs.map V.ref)):=upd_same
   have pc2:=LR.same pc sD
   have pcl:=pc.length
   have cl:cs.length<=2097152:=by rw[pcl];exact zAC (zBG _ _) rgl
   have mem:∀ row,row∈((RG n).filter fun row=>(apart row prs).all id)↔row∈RG n/\Ap prs row:=fun row=>by
    rw[zAL]
    refine and_congr Iff.rfl ⟨fun h p hp z=>?_,fun h=>?_⟩
    ·have:=zBI.mp h _ (zAA.mpr ⟨p,hp,rfl⟩)
     rw[decide_eq_true z]at this
     cases this
    ·refine zBI.mpr fun b hb=>?_
     obtain⟨p,hp,rfl⟩:=zAA.mp hb
     rw[decide_eq_false (h p hp)]
     rfl
   clear pc sD s1 hD
   generalize (upd G1 D (.lst (cs.map V.ref)))=G2 at s2 gD pc2
   generalize ((RG n).filter fun row=>(apart row prs).all id)=rows at mem pc2 pcl
   refine⟨_,rfl,D,rfl,⟨_,SqL.of gD⟩,?_⟩
   refine comp_list (K:=K) (a:=D) (xs:=cs.map V.ref) (fun j ys G'=>Same G2 G'/\ys=((rows.take j).map fun row=>wX ties (Xr row)).map V.int) (by rw[zA,sizeLine_eq];lia) ⟨Same.refl _,rfl⟩ (fun j ys G' _ z=>SqL.of (z.1 _ _ gD)) ?_ ?_
   ·rintro j x ys G3 hx ⟨s3,rfl⟩
    obtain⟨jl,e⟩:=zE.mp hx
    rw[zA]at jl
    rw[zR]at e
    subst e
    have jr:j<rows.length:=by lia
    have R:=rg_ok ((mem _).mp (zU jr)).1
    have gx:=s3 _ _ (Paired.at pc2 j jl jr)
    have s23:=s2.trans s3
    rw[zL jr,zJ,zJ]
    generalize rows[j]=row at *
    refine⟨⟨rfl,trivial⟩,tTru_if ⟨_,rfl,t,_,_,_,rfl,rfl,s23 _ _ h1,at1,ts,rfl,⟨_,SqT.of (s23 _ _ h2)⟩,?_⟩⟩
    refine comp_tup (K:=K) (a:=ts) (xs:=bs0.map V.ref) (fun i ys G4=>G4=G3/\ys=(((ties.take i).filter (Xr row)).map fun x=>x.2.2).map V.int) (by rw[zA,sizeLine_eq];lia) ⟨rfl,rfl⟩ (fun i ys G4 _ z=>by rw[z.1];exact SqT.of (s23 _ _ h2)) ?_ ?_
    ·rintro i x ys G4 hx ⟨rfl,rfl⟩
     obtain⟨il,e⟩:=zE.mp hx
     rw[zA]at il
     rw[zR]at e
     subst e
     have it:i<ties.length:=by lia
     have hx:=s23 _ _ (Paired.at h3 i il it)
     obtain⟨o1,o2,o3,_⟩:=ok _ (zU it)
     refine⟨bs0[i],_,rfl,SqT.of hx,rfl,_,_,rfl,_,_,rfl,_,_,rfl,rfl,⟨rfl,trivial⟩,?_⟩
     refine⟨_,rfl,_,rfl,cs[j],_,_,_,rfl,rfl,gx,gi R o1 (by lia),_,rfl,_,rfl,cs[j],_,_,_,rfl,rfl,gx,gi R (by lia) o3,rfl,_,rfl,?_⟩
     rw[zL it,zBJ,zJ,zJ]
     have eX:(!decide (V.int (hAt row ties[i].1)=V.int (hAt row ties[i].2.1)))=Xr row ties[i]:=by
      unfold Xr
      simp
     refine ite2 (fun h=>?_) (fun h=>?_)
     ·have h:(!decide (V.int (hAt row ties[i].1)=V.int (hAt row ties[i].2.1)))=true:=h
      rw[eX]at h
      refine⟨_,rfl,rfl,?_⟩
      rw[zAP,if_pos h]
      rfl
     ·have h:¬(!decide (V.int (hAt row ties[i].1)=V.int (hAt row ties[i].2.1)))=true:=h
      rw[eX]at h
      refine⟨rfl,?_⟩
      rw[zAP,if_neg h,List.filter_nil,List.map_nil,List.map_nil,zAU]
    ·rintro ys G4 _ ⟨rfl,rfl⟩ D2 hD2
     have et:ties.take (bs0.map V.ref).length=ties:=by rw[zA,h3l,zAF]
     rw[et]
     refine⟨D2,_,rfl,upd_same,s3.trans (Same.new hD2),rfl⟩
   rintro ys G3 _ ⟨s3,rfl⟩ D2 hD2
   rw[zA,pcl,zAF]
   obtain⟨r0,hr0,ap0⟩:=rg_any (n:=n) po
   refine⟨D2,_,rfl,upd_same,fun z=>?_,fun m hm hg=>fin m _ ⟨?_,fun row hr ap=>hg _ (zAA.mpr ⟨row,(mem row).mpr ⟨hr,ap⟩,rfl⟩)⟩ (s2.trans (s3.trans (Same.new hD2)))⟩
   ·have:=(mem r0).mpr ⟨hr0,ap0⟩
    rw[List.map_eq_nil_iff.mp z]at this
    cases this
   ·obtain⟨row,hr,e⟩:=zAA.mp hm
    obtain⟨h1,h2⟩:=(mem row).mp hr
    exact⟨row,h1,h2,e.symm⟩
end
end K63
namespace L2
open PySem PySem.W PyProof.Rows Srt
noncomputable abbrev newS(led:Bool):Obj:={ cls:=.type "set",dict:=none,data:=.set #[] 0 (.fresh 0 0 led) }
section
variable{prog:Program}{w:World}{A:Around}{E:Value->Shared->Prop}{s:Shared}
theorem set_tup{l:Addr}{items:Array Value}{ns:List Int}{Q:Value->Shared->Prop}(hh:A.handled=none)(hl:s.heap.IsTuple l items)(hi:IntsAre items.toList ns)(hb:items.size+1<scanBound)
  (h:∀ (h':Heap) (tk:Nat),h'.SetOf (intKind prog w) s.heap.objs.size (fun z=>(firstMet (fun i=>ns.getD i 0) items.size).any (· == z)) (firstMet (fun i=>ns.getD i 0) items.size).length->(∀ b o,b<s.heap.objs.size->s.heap.get? b=some o->h'.get? b=some o)->Q (.ref s.heap.objs.size) { s with heap:=h',toks:=tk }) :
  wpAny (model prog w) A (call (.type "set") [.ref l]) Q E s:=by
 obtain⟨c,tl,hmro⟩:=F.called_set.mro;have hmade:=F.called_set.made;have hsub:=F.called_set.sub
 refine wpAny_call (codeAny_of_tree ?_);show wpAny _ _ (callAny (.type "set") _) _ _ _
 refine zH ⟨Code.quiet_builtin _ (by decide +kernel),codeAny_builtin F.entry_type_call ?_⟩;rw[Around.under_plain (weight_type_call_type "set" [.ref l] []) rfl]
 have h1:=F.called_set.notType;have h2:=F.called_set.canCreate;have hct:=F.typeCall_set_1 (.ref l)
 repeat (any_goals (first | assumption | wp_step))
 refine codeAny_mono (code_set_new_1 (.ref l) (E:=E) (Q₁:=fun ob sn=>∃ led:Bool,ob = .ref s.heap.objs.size/\sn = { s with heap:=s.heap.push (newS led) }) fun led=>⟨led,rfl,rfl⟩) fun r sn hr=>?_
 cases r with
 |error e=>exact hr
 |ok fl =>
  cases fl with
  |ret ob =>
   obtain⟨led,rfl,rfl⟩:=hr
   have gS:(s.heap.push (newS led)).get? s.heap.objs.size=some (newS led):=zW _ rfl
   have hT:Shared.TypeIs { s with heap:=s.heap.push (newS led) } (.ref s.heap.objs.size) "set":=⟨_,gS,rfl⟩
   have hli:=F.called_set.init.lookup;have hbi:=F.called_set.init.bind (.ref s.heap.objs.size)
   repeat (any_goals (first | assumption | wp_step))
   refine codeAny_mono (codeAny_call_builtin (R:=wants (fun r sm=>r = .none/\∃ h' tk,sm = { s with heap:=h',toks:=tk }/\h'.SetOf (intKind prog w) s.heap.objs.size (fun z=>(firstMet (fun i=>ns.getD i 0) items.size).any (· == z)) (firstMet (fun i=>ns.getD i 0) items.size).length /\
     (∀ b o,b<s.heap.objs.size->s.heap.get? b=some o->h'.get? b=some o)) E) F.called_set.init.plain F.entry_set_init (check_set_init_1 hT ?_)) fun r2 sm hr2=>?_
   ·obtain⟨ol,gol,hcl,nl,hdl⟩:=hl;obtain⟨ocls,odict,odata,oslots⟩:=ol;simp only at hcl hdl;subst hcl;subst hdl
    have gol':(s.heap.push (newS led)).get? l=some { cls:=.type "tuple",dict:=odict,data:=.seq items nl,slots:=oslots }:=zC _ gol
    have x1:=F.sub_tuple_set;have x2:=F.sub_tuple_frozenset;have x3:(Value.type "tuple" == Value.type "dict")=false:=by decide
    have hl1:(s.heap.push (newS led)).IsTuple l items:=⟨_,gol',rfl,nl,rfl⟩
    unfold Builtin.«set.__init__» noKeywords Builtin.Frozenset.updateFrom;generalize hPI:pyIter=PI
    wp_walk
    subst hPI;refine wpAny_pyIter_tuple hl1 ?_;refine zB (wpAny_runValue ?_)
    have lS:l<s.heap.objs.size:=zP gol
    have hh3:A.in1.in1.in1.handled=none:=by simp[hh]
    have lI:l≠(s.heap.push (newS led)).objs.size:=by rw[Heap.size_push];exact zZ (Nat.lt_succ_of_lt lS)
    have Sf:s.heap.objs.size∉[(s.heap.push (newS led)).objs.size,l]:=by
     rw[Heap.size_push];simp only[zT,zAT,or_false,not_or];exact⟨zZ (zBH _),Nat.ne_of_gt lS⟩
    have gS2:((s.heap.push (newS led)).push { cls:=.type "tuple_iterator",data:=.fields #[.ref l,.int 0 0] }).get? s.heap.objs.size=some (newS led):=zC _ gS
    refine codeAny_set_update_loopS ((Walks.tuple hh3 _ l lI items).toS) s.heap.objs.size Sf (fun i=>ns.getD i 0) (fun i v hv=>IntsAre.int_at hi i v (by rw[Array.getElem?_toList];exact hv)) hb (items.size-0) 0 _ (by lia) (zAQ _) ⟨⟨_,zW _ rfl,rfl,rfl⟩,(hl1.push _)⟩ ?_ ?_
    ·exact SetOf_congr ((setObjOf_fresh (knd:=intKind prog w) led).setOf gS2 (by unfold scanBound;lia)) (fun _=>rfl) rfl
    ·intro s' mv C3
     obtain⟨h',g',d',tk',os'⟩:=s'
     have eg:g'=s.gens:=mv.gens;have ed:d'=s.drawn:=mv.drawn;have eo:os'=s.os:=mv.os
     subst eg;subst ed;subst eo
     show wpAny _ _ _ _ _ _;refine zH ?_;show wpAny _ _ (ret Value.none) _ _ _
     refine zH ⟨rfl,h',tk',rfl,C3,fun b ob hb' e=>?_⟩
     have b1:b≠s.heap.objs.size:=zZ hb'
     have b2:b≠(s.heap.push (newS led)).objs.size:=by rw[Heap.size_push];exact zZ (Nat.lt_succ_of_lt hb')
     exact mv.heap b ob (by simp only[zT,zAT,or_false,not_or];exact⟨b1,b2⟩) (zC _ (zC _ e))
   ·cases r2 with
    |error e=>exact hr2
    |ok fl2 =>
     cases fl2 with
     |ret r =>
      obtain⟨rfl,h',tk,rfl,C3,k3⟩:=hr2
      repeat (any_goals (first | assumption | wp_step))
      exact h _ _ C3 k3
     | _=>exact hr2.elim
  | _=>exact hr.elim
end
section
variable{X:Cx}
theorem call_setIQ(b:Bool):CallR X (.type "set") (fun xs H Q=>∃ (l:Addr) (ns:List Int),xs=[V.ref l]/\H l=some (sqO b (ns.map V.int))/\X.A.handled=none/\ns.length+1<scanBound/\∀ S:Addr,H S=none->Q (.ref S) (upd H S (setI ns))):=by
 cases b with
 |false=>exact call_setIH
 |true =>
  intro pins s σ H xs us Q I r h
  obtain⟨l,ns,rfl,hq,hh,hl,q⟩:=h
  obtain⟨u,rfl,rx⟩:=vals1 r
  cases rx
  obtain⟨its,r',pl,hz⟩:=I.tuple (SqT.of (K:=X.K) hq)
  have li:=r'.length
  rw[zA]at li
  refine set_tup hh pl (intsAre_of r') (by rw[zG];lia) fun h' tk hS kp=>?_
  have kp':∀ b u,s.heap.get? b=some u->h'.get? b=some u:=fun b u e=>kp b u (zP e) e
  have en:firstMet (fun i=>ns.getD i 0) its.toArray.size=nub ns:=by
   unfold firstMet nub nubF
   congr 1
   rw[zG,<- li]
   apply List.ext_getElem
   ·simp
   ·intro i h1 h2
    simp[zAG,zF h2]
  rw[en]at hS
  have eS:(fun k'=>(nub ns).any (· == k'))=fun k=>decide (k∈nub ns):=by
   funext k
   rw[zBB,List.any_eq_true,decide_eq_true_eq]
   exact⟨fun⟨x,hx,e⟩=>by rw[<- beq_iff_eq.mp e];exact hx,fun h=>⟨k,h,by simp⟩⟩
  rw[eS]at hS
  exact⟨.ref s.heap.objs.size,_,I.laid (t':=tk) (a:=s.heap.objs.size) (o:=setI ns) kp' (zI _) hS,rfl,q _ (I.hok.fresh (zI _))⟩
end
end L2
namespace K63
open PySem L2 PyProof.Rows
theorem lex_tri{a b c d:Int}(h:Srt.lexlt [c,d] [a,b]=false)(ne:¬(a=c/\b=d)):Srt.lexlt [a,b] [c,d]=true:=by
 simp[Srt.lexlt]at h ⊢
 lia
theorem strict_at{ties bts:List Tie}(srt:ties.Pairwise tieLt)(C:Cts ties bts)(sr:(bts.map pairOf).Pairwise (fun x y=>Srt.lexlt y x=false))(i:Nat)(h:1+i <(bts.map pairOf).length):Srt.lexlt (bts.map pairOf)[i] (bts.map pairOf)[1+i]=true:=by
 have h1:=List.pairwise_iff_getElem.mp sr i (1+i) (by lia) h (by lia)
 rw[zA]at h
 rw[zR,zR]at h1 ⊢
 refine lex_tri h1 fun e=>?_
 have e2:pairOf bts[i]=pairOf bts[1+i]:=by
  show [bts[i].1,bts[i].2.1]=[bts[1+i].1,bts[1+i].2.1]
  rw[e.1,e.2]
 have:=(List.getElem_inj C.nd).mp (pair_inj srt (C.sub _ (zU _)) (C.sub _ (zU _)) e2)
 lia
inductive spIcI(vs:List V)(H:Hp)(Q:VK):Prop where
 |mk (t c:Addr) (n:Nat) (ties bts:List Tie) (as:List Addr) (h1:vs=[.ref t,.ref c]) (h2:WebAt H t n ties) (h3:ties.Pairwise tieLt) (h4:H c=some (.lst (as.map V.ref))) (h5:PairT H as bts) (h6:bts.length<=60) (h7:Cts ties bts) (h8:(bts.map pairOf).Pairwise (fun x y=>Srt.lexlt y x=false)) (h9:∀ H',Same H H'->Q (.bl true) H')
noncomputable def spIc:Sp:=fun vs H Q _=>spIcI vs H Q
inductive spIwI(vs:List V)(H:Hp)(Q:VK):Prop where
 |mk (b:Bool) (t c:Addr) (n:Nat) (ties:List Tie) (way:List Int) (h1:vs=[.ref t,.ref c]) (h2:WebAt H t n ties) (h3:ties.Pairwise tieLt) (h4:SIs b H c (way.map V.int)) (h5:1<=way.length) (h6:way.length<=100) (h7:way.Nodup) (h8:(∀ p∈alg way,∃ x∈ties,prOf x=p)) (h9:∀ H',Same H H'->Q (.bl true) H')
noncomputable def spIw:Sp:=fun vs H Q _=>spIwI vs H Q
inductive spIoI(vs:List V)(H:Hp)(Q:VK):Prop where
 |mk (z b:Bool) (t q c:Addr) (n:Nat) (ties:List Tie) (as:List Addr) (prs:List (Int×Int)) (num x y:Int) (way:List Int) (h1:vs=[.ref t,.ref q,.int num,.ref c]) (h2:WebAt H t n ties) (h3:ties.Pairwise tieLt) (h4:SIs z H q (as.map V.ref)) (h5:Paired (PrAt H) as prs) (h6:prs.length<=100) (h7:0<=num) (h8:prs[num.toNat]?=some (x,y)) (h9:SIs b H c (way.map V.int)) (h10:way.length<=100) (h11:way.Nodup) (h12:way.head?=some x) (h13:way.getLast?=some y) (h14:(∀ p∈alg way,∃ x∈ties,prOf x=p)) (h15:∀ H',Same H H'->Q (.bl true) H')
noncomputable def spIo:Sp:=fun vs H Q _=>spIoI vs H Q
inductive rIxQhI(b:Bool)(x:V)(y:V)(H:Hp)(Q:VK):Prop where
 |mk (p:_) (xs:_) (i:_) (z:_) (h1:x = .ref p) (h2:y = .int i) (h3:H p=some (sqO b xs)) (h4:atI xs i=some z) (h5:Q z H)
noncomputable def rIxQh(b:Bool):R2:=fun x y H Q=>rIxQhI b x y H Q
theorem ix_seqH{X:Cx}(b:Bool):IxR X (rIxQh b):=by
 cases b with
 |true =>
  intro value slice pins s σ H x y v u Q I hx hy h hs
  obtain⟨p,xs,i,z,h1,h2,h3,h4,h5⟩:=h
  exact ix_tupH value slice pins s σ H x y v u Q I hx hy ⟨p,xs,i,z,h1,h2,h3,h4,h5⟩ hs
 |false =>
  intro value slice pins s σ H x y v u Q I hx hy h hs
  obtain⟨p,xs,i,z,h1,h2,h3,h4,h5⟩:=h
  exact ix_listH value slice pins s σ H x y v u Q I hx hy ⟨p,xs,i,z,h1,h2,h3,h4,h5⟩ hs
theorem SIs_o{b:Bool}{H:Hp}{a:Addr}{xs:List V}(h:SIs b H a xs):H a=some (sqO b xs):=by
 cases b <;> exact h
section
variable{P:Program}{w:World}{K:PySem.W.Frag}{mg:Str->Option Value}{base:Heap}
noncomputable abbrev nIc:List Str:=["web","thing","weights"]
theorem scIc:FnScope nIc ["web","thing"] (defScope sIsCut):=⟨rfl,rfl,rfl,by decide +kernel,rfl,by decide +kernel,by decide +kernel⟩
theorem csIc1:CompScope ["pair"] [none] nIc (defScope sIsCut) (scO [(".0",.local),("pair",.local),("is_tuple_of",.globalImplicit),("are_numbers",.globalImplicit)]):=⟨rfl,by decide +kernel,by decide +kernel,by decide +kernel,rfl,capB_ok (by decide +kernel)⟩
theorem ndIc1:(["pair"]:List Str).Nodup:=by decide +kernel
theorem csIc2:CompScope ["pair","weights"] [none,some 2] nIc (defScope sIsCut) (scO [(".0",.local),("pair",.local),("weights",.free)]):=⟨rfl,by decide +kernel,by decide +kernel,by decide +kernel,rfl,capB_ok (by decide +kernel)⟩
theorem ndIc2:(["pair","weights"]:List Str).Nodup:=by decide +kernel
theorem ok_ic{f g1 g2 g3 g4 g5:Addr}{fd d1 d2 d3 d4 d5:FuncData}(F:Fun K "is_cut" "is_cut" sIsCut f fd)(T2:Txt2 mg)(GL:CalF P w K mg base 1 "is_list" ["thing"] spIl g1 d1)(GT:CalF P w K mg base 1 "is_tuple_of" ["thing","many"] spIt g2 d2)(GA:CalF P w K mg base 2 "are_numbers" ["things"] (spAn K) g3 d3)(GW:CalF P w K mg base 1 "tie_weights" ["web"] spTw g4 d4)(GR:CalF P w K mg base 1 "rises" ["things"] spRs g5 d5):FnOk P w K mg base CX0 3 f fd ["web","thing"] spIc:=by
 refine F.ok scIc (fun vs H Q E h=>?_) (fun cdv A outer s H vs Q E hr h=>?_)
 ·obtain⟨t,c,n,ties,bts,as,rfl,_⟩:=h
  rfl
 ·obtain⟨t,c,n,ties,bts,as,rfl,W,srt,gc,pc,bl,C,sr,fin⟩:=h
  have hr1:Room 1 _:=hr.mono (by decide)
  have hr2:Room 2 _:=hr
  have hu:=hu_of hr
  have al:=pc.length
  refine⟨_,(pss_cons (ps_if (PW.pt (pw_or (pt_not (pt_val (pe_call GL.ok hr1 rfl GL.mg GL.kp GL.bd .nil pass0 (@pa_nam _ _ _ _ _ _ (pvQ 1) pa_nil)))) (pw_or1 (pt_not (pt_val (pe_callB (call_allH rfl) (by rfl) T2.all boot_all (@pa_comp _ _ _ _ _ _ _ _ (pe_comp rfl csIc1 (pi_list (pvQ 1)) (fun C s H fp=>(pg_name (i:=0) ndIc1 rfl (Or.inl rfl))) (fun C s H fp=>pf_nil) (fun C s H fp=>(pe_and (pe_call GT.ok hr1 rfl GT.mg GT.kp GT.bd .nil pass0 (@pa_nam _ _ _ _ _ _ (pvQ 0) (@pa_cst _ _ _ _ _ _ _ pe_int pa_nil))) (pe_one (pe_call GA.ok hr2 rfl GA.mg GA.kp GA.bd .nil pass0 (@pa_nam _ _ _ _ _ _ (pvQ 0) pa_nil)))))) pa_nil))))))) pss_never pss_nil)
   (pss_cons (ps_set (i:=2) scIc.nd rfl (Or.inr rfl) (pe_call GW.ok hr1 rfl GW.mg GW.kp GW.bd .nil pass0 (@pa_nam _ _ _ _ _ _ (pvQ 0) pa_nil)))
   (pss_one (ps_ret (pe_and (pe_callB (call_allH rfl) (by rfl) T2.all boot_all (@pa_comp _ _ _ _ _ _ _ _ (pe_comp rfl csIc2 (pi_list (pvQ 1)) (fun C s H fp=>(pg_name (i:=0) ndIc2 rfl (Or.inl rfl))) (fun C s H fp=>pf_nil) (fun C s H fp=>(pe_cmp (pc_din hu (pvQ 0) (pvQ 1))))) pa_nil)) (pe_one (pe_call GR.ok hr1 rfl GR.mg GR.kp GR.bd .nil pass0 (@pa_nam _ _ _ _ _ _ (pvQ 1) pa_nil)))))))),?_⟩
  refine⟨false,c,_,rfl,gc,fun H1 s1=>⟨_,rfl,iteF ?_⟩⟩
  refine⟨c,rfl,⟨_,SqL.of (s1 _ _ gc)⟩,?_⟩
  refine comp_list (K:=K) (a:=c) (xs:=as.map V.ref) (fun i ys G=>Same H1 G/\ys=(List.replicate i true).map V.bl) (by rw[zA,sizeLine_eq];lia) ⟨Same.refl _,rfl⟩ (fun i ys G _ z=>SqL.of (z.1 _ _ (s1 _ _ gc))) ?_ ?_
  ·rintro i x ys G hx ⟨sG,rfl⟩
   obtain⟨il,e⟩:=zE.mp hx
   rw[zA]at il
   rw[zR]at e
   subst e
   have ib:i<bts.length:=by lia
   have gx:=(s1.trans sG) _ _ (Paired.at pc i il ib)
   refine⟨trivial,tTru_if ⟨as[i],_,2,rfl,gx,_,rfl,iteTd (decide_eq_true rfl) ?_⟩⟩
   exact⟨true,as[i],[bts[i].1,bts[i].2.1],rfl,SqT.of gx,by show 2<=1000;decide,fun G2 s2=>⟨sG.trans s2,rep_t i⟩⟩
  rintro ys G _ ⟨sG,rfl⟩ D hD
  refine⟨D,_,rfl,upd_same,_,rfl,?_⟩
  rw[all_rep]
  refine iteF ?_
  have s2:=s1.trans (sG.trans (Same.new (o:=.lst ((List.replicate (as.map V.ref).length true).map V.bl)) hD))
  generalize (upd G D (.lst ((List.replicate (as.map V.ref).length true).map V.bl)))=H2 at s2
  clear sG hD s1
  refine⟨t,n,ties,rfl,W.same s2,srt,fun d kvs H3 _ _ gd kv s23=>?_⟩
  have s3:=s2.trans s23
  refine⟨c,rfl,⟨_,SqL.of (s3 _ _ gc)⟩,?_⟩
  refine comp_list (K:=K) (a:=c) (xs:=as.map V.ref) (fun i ys G=>Same H3 G/\ys=(List.replicate i true).map V.bl) (by rw[zA,sizeLine_eq];lia) ⟨Same.refl _,rfl⟩ (fun i ys G _ z=>SqL.of (z.1 _ _ (s3 _ _ gc))) ?_ ?_
  ·rintro i x ys G hx ⟨sG,rfl⟩
   obtain⟨il,e⟩:=zE.mp hx
   rw[zA]at il
   rw[zR]at e
   subst e
   have ib:i<bts.length:=by lia
   have gx:=(s3.trans sG) _ _ (Paired.at pc i il ib)
   have g0:DGet G d (V.ref as[i]) (valV kvs (keyT bts[i])):=DGet.t (sG _ _ gd) gx
   rw[kv _ (C.sub _ (zU ib))]at g0
   exact⟨⟨rfl,trivial⟩,tTru_if ⟨d,_,rfl,g0,sG,rep_t i⟩⟩
  rintro ys G _ ⟨sG,rfl⟩ D hD
  refine⟨D,_,rfl,upd_same,_,rfl,?_⟩
  rw[all_rep]
  refine iteT ?_
  have s4:=s3.trans (sG.trans (Same.new (o:=.lst ((List.replicate (as.map V.ref).length true).map V.bl)) hD))
  exact⟨c,as,bts.map pairOf,rfl,s4 _ _ gc,by lia,pair_tups (pc.same s4),strict_at srt C sr,fun H5 s5=>fin _ (s4.trans s5)⟩
noncomputable abbrev nIw:List Str:=["web","thing","weights"]
theorem scIw:FnScope nIw ["web","thing"] (defScope sIsWay):=⟨rfl,rfl,rfl,by decide +kernel,rfl,by decide +kernel,by decide +kernel⟩
theorem csIw1:CompScope ["pair","weights"] [none,some 2] nIw (defScope sIsWay) (scO [(".0",.local),("pair",.local),("weights",.free)]):=⟨rfl,by decide +kernel,by decide +kernel,by decide +kernel,rfl,capB_ok (by decide +kernel)⟩
theorem ndIw1:(["pair","weights"]:List Str).Nodup:=by decide +kernel
theorem ok_iw{f g1 g2 g3 g4:Addr}{fd d1 d2 d3 d4:FuncData}(F:Fun K "is_way" "is_way" sIsWay f fd)(T:Txt mg)(T2:Txt2 mg)(TS:mg "set" = none)(GL:CalF P w K mg base 1 "is_list" ["thing"] spIl g1 d1)(GA:CalF P w K mg base 2 "are_numbers" ["things"] (spAn K) g2 d2)(GW:CalF P w K mg base 1 "tie_weights" ["web"] spTw g3 d3)(GT:CalF P w K mg base 1 "ties_along" ["way"] spAl g4 d4):FnOk P w K mg base CX0 3 f fd ["web","thing"] spIw:=by
 refine F.ok scIw (fun vs H Q E h=>?_) (fun cdv A outer s H vs Q E hr h=>?_)
 ·obtain⟨b,t,c,n,ties,way,rfl,_⟩:=h
  rfl
 ·obtain⟨b,t,c,n,ties,way,rfl,W,srt,gc,l1,l100,nd,tie,fin⟩:=h
  have hr1:Room 1 _:=hr.mono (by decide)
  have hr2:Room 2 _:=hr
  have hu:=hu_of hr
  refine⟨_,(pss_cons (ps_if (PW.pt (pw_or (pt_not (pt_val (pe_call GL.ok hr1 rfl GL.mg GL.kp GL.bd .nil pass0 (@pa_nam _ _ _ _ _ _ (pvQ 1) pa_nil)))) (pw_or (pt_not (pt_val (pe_call GA.ok hr2 rfl GA.mg GA.kp GA.bd .nil pass0 (@pa_nam _ _ _ _ _ _ (pvQ 1) pa_nil)))) (pw_or1 (pt_not ((pt_chain op_le op_eq pe_int (pe_callB (call_lenQ b) (by rfl) T.len PySem.boot_len (@pa_nam _ _ _ _ _ _ (pvQ 1) pa_nil)) (pe_callB call_lenS (by rfl) T.len PySem.boot_len (@pa_call _ _ _ _ _ _ _ _ (pe_callTy (call_setIQ b) (by rfl) TS PyProof.Rows.boot_set (@pa_nam _ _ _ _ _ _ (pvQ 1) pa_nil)) pa_nil))))))))) pss_never pss_nil)
   (pss_cons (ps_set (i:=2) scIw.nd rfl (Or.inr rfl) (pe_call GW.ok hr1 rfl GW.mg GW.kp GW.bd .nil pass0 (@pa_nam _ _ _ _ _ _ (pvQ 0) pa_nil)))
   (pss_one (ps_ret (pe_callB (call_allH rfl) (by rfl) T2.all boot_all (@pa_comp _ _ _ _ _ _ _ _ (pe_comp rfl csIw1 (pi_list (pe_call GT.ok hr1 rfl GT.mg GT.kp GT.bd .nil pass0 (@pa_nam _ _ _ _ _ _ (pvQ 1) pa_nil))) (fun C s H fp=>(pg_name (i:=0) ndIw1 rfl (Or.inl rfl))) (fun C s H fp=>pf_nil) (fun C s H fp=>(pe_cmp (pc_din hu (pvQ 0) (pvQ 1))))) pa_nil)))))),?_⟩
  refine⟨b,c,_,rfl,gc,fun H1 s1=>⟨_,rfl,iteF ?_⟩⟩
  refine⟨b,c,way,rfl,(gc.same s1).sqB,by lia,fun H2 s12=>⟨_,rfl,iteF ?_⟩⟩
  have s2:=s1.trans s12
  refine⟨c,_,rfl,(SIs_o (gc.same s2)),_,_,rfl,rfl,_,rfl,iteTd (decide_eq_true (by rw[zA];lia)) ?_⟩
  refine⟨c,way,rfl,(SIs_o (gc.same s2)),hr.hd,(by unfold scanBound;lia),fun S hS=>⟨S,way,rfl,upd_same,rfl,?_⟩⟩
  rw[(nub_len way).mpr nd,zA,decide_eq_true rfl]
  refine⟨_,rfl,iteF ?_⟩
  have s3:=s2.trans (Same.new (o:=setI way) hS)
  generalize (upd H2 S (setI way))=H3 at s3
  refine⟨t,n,ties,rfl,W.same s3,srt,fun d kvs H4 _ _ gd kv s34=>?_⟩
  have s4:=s3.trans s34
  refine⟨b,c,way,rfl,gc.same s4,by lia,fun l as H5 gl pl s45=>⟨l,rfl,⟨_,SqL.of gl⟩,?_⟩⟩
  have s5:=s4.trans s45
  have pll:=pl.length
  have all_:(alg way).length<=100:=by
   show(List.zipWith prT way (way.drop 1)).length<=100
   rw[zAR]
   lia
  refine comp_list (K:=K) (a:=l) (xs:=as.map V.ref) (fun i ys G=>Same H5 G/\ys=(List.replicate i true).map V.bl) (by rw[zA,sizeLine_eq];lia) ⟨Same.refl _,rfl⟩ (fun i ys G _ z=>SqL.of (z.1 _ _ gl)) ?_ ?_
  ·rintro i x ys G hx ⟨sG,rfl⟩
   obtain⟨il,e⟩:=zE.mp hx
   rw[zA]at il
   rw[zR]at e
   subst e
   have ib:i <(alg way).length:=by lia
   have gx:=sG _ _ (Paired.at pl i il ib)
   obtain⟨y,hy,ey⟩:=tie _ (zU ib)
   rw[<- ey]at gx
   have g0:DGet G d (V.ref as[i]) (valV kvs (keyT y)):=DGet.t (sG _ _ (s45 _ _ gd)) gx
   rw[kv _ hy]at g0
   exact⟨⟨rfl,trivial⟩,tTru_if ⟨d,_,rfl,g0,sG,rep_t i⟩⟩
  rintro ys G _ ⟨sG,rfl⟩ D hD
  refine⟨D,_,rfl,upd_same,?_⟩
  rw[all_rep]
  exact fin _ (s5.trans (sG.trans (Same.new hD)))
noncomputable abbrev nIo:List Str:=["web","pairs","number","thing"]
theorem scIo:FnScope nIo ["web","pairs","number","thing"] (defScope sIsWayOf):=⟨rfl,rfl,rfl,by decide +kernel,rfl,by decide +kernel,by decide +kernel⟩
theorem ok_io{f g1 g2:Addr}{fd d1 d2:FuncData}(F:Fun K "is_way_of" "is_way_of" sIsWayOf f fd)(T:Txt mg)(GN:CalF P w K mg base 1 "is_number" ["thing"] spNu g1 d1)(GW:CalF P w K mg base 3 "is_way" ["web","thing"] spIw g2 d2):FnOk P w K mg base CX0 4 f fd ["web","pairs","number","thing"] spIo:=by
 refine F.ok scIo (fun vs H Q E h=>?_) (fun cdv A outer s H vs Q E hr h=>?_)
 ·obtain⟨z,b,t,q,c,n,ties,as,prs,num,x,y,way,rfl,_⟩:=h
  rfl
 ·obtain⟨z,b,t,q,c,n,ties,as,prs,num,x,y,way,rfl,W,srt,gq,pp,pl,num0,nump,gc,l100,nd,hd,lt,tie,fin⟩:=h
  have hr1:Room 1 _:=hr.mono (by decide)
  have hr3:Room 3 _:=hr
  have hu64:=L2.hu64 hr
  have lpp:=pp.length
  obtain⟨np,npe⟩:=zE.mp nump
  have l1:1<=way.length:=by
   cases way with
   |nil=>cases hd
   |cons a r=>show 1<=r.length+1;lia
  refine⟨_,(pss_cons (ps_if (PW.pt (pw_or (pt_not (pt_val (pe_call GN.ok hr1 rfl GN.mg GN.kp GN.bd .nil pass0 (@pa_nam _ _ _ _ _ _ (pvQ 2) pa_nil)))) (pw_or (pt_not ((pt_chain op_le op_lt pe_int (pvQ 2) (pe_callB (call_lenQ z) (by rfl) T.len PySem.boot_len (@pa_nam _ _ _ _ _ _ (pvQ 1) pa_nil))))) (pw_or1 (pt_not (pt_val (pe_call GW.ok hr3 rfl GW.mg GW.kp GW.bd .nil pass0 (@pa_nam _ _ _ _ _ _ (pvQ 0) (@pa_nam _ _ _ _ _ _ (pvQ 3) pa_nil))))))))) pss_never pss_nil)
   (pss_one (ps_ret (pe_cmpR (op_eqS hu64) (@pe_tup _ _ _ _ _ (@pa_sub _ _ _ _ _ _ _ (@pe_ix _ _ _ _ _ _ _ (ix_seqH b) (pvQ 3) pe_int (fun _ _=>rfl)) (@pa_sub _ _ _ _ _ _ _ (@pe_ix _ _ _ _ _ _ _ (ix_seqH b) (pvQ 3) (pe_un un_neg pe_int) (fun _ _=>rfl)) pa_nil))) (@pe_ix _ _ _ _ _ _ _ (ix_seqH z) (pvQ 1) (pvQ 2) (fun _ _=>rfl)) (nomark _))))),?_⟩
  refine⟨num,rfl,_,rfl,iteF ?_⟩
  refine⟨_,_,rfl,rfl,_,rfl,iteTd (decide_eq_true num0) ?_⟩
  refine⟨q,_,rfl,(SIs_o gq),_,_,rfl,rfl,?_⟩
  refine⟨true,congrArg V.bl (decide_eq_true (show num <(((as.map V.ref).length:Nat):Int) by rw[zA];lia)),iteF ?_⟩
  refine⟨b,t,c,n,ties,way,rfl,W,srt,gc,l1,l100,nd,tie,fun H1 s1=>⟨_,rfl,iteF ?_⟩⟩
  have a0:atI (way.map V.int) 0=some (V.int x):=by
   cases way with
   |nil=>cases hd
   |cons a r=>injection hd with hd;rw[hd];exact at0
  have a1:atI (way.map V.int) (-1)=some (V.int y):=by
   obtain⟨l',el⟩:=List.getLast?_eq_some_iff.mp lt
   rw[el,zJ]
   exact atI_last _ _
  refine⟨c,_,_,_,rfl,rfl,(SIs_o (gc.same s1)),a0,_,rfl,c,_,_,_,rfl,rfl,(SIs_o (gc.same s1)),a1,(by show 2<=sizeLine;decide),fun tp htp=>?_⟩
  have s2:=s1.trans (Same.new (o:=.tup [.int x,.int y]) htp)
  have ga:=s2 _ _ (Paired.at pp num.toNat (by lia) np)
  rw[npe]at ga
  have av:atI (as.map V.ref) num=some (V.ref (as[num.toNat]'(by lia))):=by
   have:=atI_nat (xs:=as.map V.ref) (j:=num.toNat) (v:=V.ref (as[num.toNat]'(by lia))) (by rw[zAD,zF (by lia)];rfl)
   rw[show((num.toNat:Nat):Int)=num by lia]at this
   exact this
  refine⟨q,_,_,_,rfl,rfl,(SIs_o (gq.same s2)),av,0,.tup [.int x,.int y],⟨tp,_,rfl,by show 2<=1000;decide,upd_same,.cons rfl (.cons rfl .nil)⟩,⟨_,_,rfl,by show 2<=1000;decide,ga,.cons rfl (.cons rfl .nil)⟩,rfl,by decide,fin _ s2⟩
end
open PySem L2 PyProof.Rows
theorem Pth.ends{T:List Tie}{s v:Int}{l:List Int}(h:Pth T s v l):l.head?=some s/\l.getLast?=some v:=by
 induction h with
 |one=>exact⟨rfl,rfl⟩
 | @more u v w l hp hb ih =>
  refine⟨?_,List.getLast?_concat⟩
  cases l with
  |nil=>cases ih.1
  |cons a l=>exact ih.1
theorem alg_len(way:List Int):(alg way).length<=way.length:=by
 show(List.zipWith prT way (way.drop 1)).length<=_
 rw[zAR]
 lia
theorem tie_in{T:List Tie}{n:Nat}{cts:List Tie}(ok:∀ x∈T,TieOk n x){s v:Int}{way:List Int}(h:Pth (rest T (cts.map pairOf)) s v way):∀ p∈alg way,∃ x∈T,prOf x=p/\pairOf x∉cts.map pairOf:=fun p hp=>by
 obtain⟨t,ht,e⟩:=h.tie (fun x hx=>ok x (mem_rest.mp hx).1) p hp
 exact⟨t,(mem_rest.mp ht).1,e,(mem_rest.mp ht).2⟩
structure Hnd(z:Bool)(H:Hp)(t q c k:Addr)(n:Nat)(ties cts:List Tie)(as cas kas:List Addr)(prs kp:List (Int×Int)):Prop where
 W:WebAt H t n ties
 ok:∀ x∈ties,TieOk n x
 srt:ties.Pairwise tieLt
 l12:ties.length<=12
 gq:SIs z H q (as.map V.ref)
 pp:Paired (PrAt H) as prs
 pl:prs.length<=100
 gc:H c=some (.lst (cas.map V.ref))
 pc:PairT H cas cts
 C:Cts ties cts
 gk:H k=some (.lst (kas.map V.ref))
 pk:Paired (PrAt H) kas kp
 kl:kp.length<=100 * cts.length
theorem Hnd.same{z:Bool}{H H':Hp}{t q c k:Addr}{n:Nat}{ties cts:List Tie}{as cas kas:List Addr}{prs kp:List (Int×Int)}(h:Hnd z H t q c k n ties cts as cas kas prs kp)(s:Same H H'):Hnd z H' t q c k n ties cts as cas kas prs kp :=
 ⟨h.W.same s,h.ok,h.srt,h.l12,h.gq.same s,Paired.mapP h.pp fun _ _ e=>s _ _ e,h.pl,s _ _ h.gc,h.pc.same s,h.C,s _ _ h.gk,Paired.mapP h.pk fun _ _ e=>s _ _ e,h.kl⟩
inductive EvD(E:Hp)(cts:List Tie)(tr:V)(f:Int->Bool):Prop where
 |mk (a:Addr) (h1:tr = .ref a) (h2:E a=some (.tup [.str "dear"])) (h3:f=fun v=>decide (v<=wt cts))
inductive EvN(E:Hp)(tr:V)(f:Int->Bool):Prop where
 |mk (a:Addr) (h1:tr = .ref a) (h2:E a=some (.tup [.str "none"])) (h3:f=fun _=>false)
inductive EvK(E:Hp)(ties:List Tie)(prs:List (Int×Int))(cts:List Tie)(kp:List (Int×Int))(tr:V)(f:Int->Bool):Prop where
 |mk (a l:Addr) (b:Bool) (num x y:Int) (way:List Int) (h1:tr = .ref a) (h2:E a=some (.tup [.str "kept",.int num,.ref l])) (h3:SIs b E l (way.map V.int)) (h4:0<=num/\prs[num.toNat]?=some (x,y)) (h5:Pth (rest ties (cts.map pairOf)) x y way) (h6:way.length<=100/\way.Nodup) (h7:loo way kp=[]) (h8:f=fun _=>true)
inductive EvW(E:Hp)(ties:List Tie)(prs:List (Int×Int))(R:List Tie->List (Int×Int)->V->(Int->Bool)->Prop)(cts:List Tie)(kp:List (Int×Int))(tr:V)(f:Int->Bool):Prop where
 |mk (a l ta:Addr) (b:Bool) (num x y:Int) (way:List Int) (trs:List V) (fs:List (Int->Bool)) (h1:tr = .ref a) (h2:E a=some (.tup [.str "way",.int num,.ref l,.ref ta])) (h3:SIs b E l (way.map V.int)) (h4:E ta=some (.tup trs)) (h5:0<=num/\prs[num.toNat]?=some (x,y)) (h6:Pth (rest ties (cts.map pairOf)) x y way) (h7:way.length<=100/\way.Nodup) (h8:loo way kp≠[]) (h9:trs.length=(loo way kp).length) (h10:fs.length=trs.length)
   (h11:∀ (i:Nat) (t:Tie) (r:V) (g:Int->Bool),t∈ties->(loo way kp)[i]?=some (prOf t)->trs[i]?=some r->fs[i]?=some g->R (cts++[t]) (kp++(loo way kp).take i) r g) (h12:f=fun v=>fs.all fun g=>g v)
noncomputable def Ev(E:Hp)(ties:List Tie)(prs:List (Int×Int)):Nat->List Tie->List (Int×Int)->V->(Int->Bool)->Prop
 | 0=>fun _ _ _ _=>False
 |d+1=>fun cts kp tr f=>EvD E cts tr f\/EvN E tr f\/EvK E ties prs cts kp tr f\/EvW E ties prs (Ev E ties prs d) cts kp tr f
theorem SIs_to{b:Bool}{E E':Hp}{a:Addr}{xs:List V}(k:∀ a o,E a=some o->E' a=some o)(h:SIs b E a xs):SIs b E' a xs:=by
 cases b
 ·exact k _ _ h
 ·exact k _ _ h
theorem Ev.to{E E':Hp}{ties:List Tie}{prs:List (Int×Int)}(k:∀ a o,E a=some o->E' a=some o):∀ {d:Nat}{cts:List Tie}{kp:List (Int×Int)}{tr:V}{f:Int->Bool},Ev E ties prs d cts kp tr f->Ev E' ties prs d cts kp tr f:=by
 intro d
 induction d with
 |zero=>exact fun h=>h
 |succ d ih =>
  intro cts kp tr f h
  rcases h with h | h | h | h
  ·cases h with | mk a e g w=>exact .inl ⟨a,e,k _ _ g,w⟩
  ·cases h with | mk a e g w=>exact .inr (.inl ⟨a,e,k _ _ g,w⟩)
  ·cases h with | mk a l b num x y way e g gl nm p wl le w=>exact .inr (.inr (.inl ⟨a,l,b,num,x,y,way,e,k _ _ g,SIs_to k gl,nm,p,wl,le,w⟩))
  ·cases h with | mk a l ta b num x y way trs fs e g gl gt nm p wl ne tl fl h w=>exact .inr (.inr (.inr ⟨a,l,ta,b,num,x,y,way,trs,fs,e,k _ _ g,SIs_to k gl,k _ _ gt,nm,p,wl,ne,tl,fl,fun i t r g ht hl hr hg=>ih (h i t r g ht hl hr hg),w⟩))
theorem Ev.same{H H':Hp}{ties:List Tie}{prs:List (Int×Int)}{d:Nat}{cts:List Tie}{kp:List (Int×Int)}{tr:V}{f:Int->Bool}(h:Ev H ties prs d cts kp tr f)(s:Same H H'):Ev H' ties prs d cts kp tr f:=h.to fun a o g=>s a o g
inductive spIeI(d:Nat)(vs:List V)(H:Hp)(Q:VK):Prop where
 |mk (z:Bool) (t q c k:Addr) (n:Nat) (ties cts:List Tie) (as cas kas:List Addr) (prs kp:List (Int×Int)) (v:Int) (tr:V) (f:Int->Bool) (h1:vs=[.ref t,.ref q,.int v,.ref c,.ref k,tr]) (h2:Hnd z H t q c k n ties cts as cas kas prs kp) (h3:Ev H ties prs d cts kp tr f) (h4:∀ H',Same H H'->Q (.bl (f v)) H')
noncomputable def spIe(d:Nat):Sp:=fun vs H Q _=>spIeI d vs H Q
inductive spAeI(d:Nat)(vs:List V)(H:Hp)(Q:VK):Prop where
 |mk (z:Bool) (t q c k al ta:Addr) (n:Nat) (ties cts:List Tie) (as cas kas aas:List Addr) (prs kp:List (Int×Int)) (v x y:Int) (way:List Int) (trs:List V) (fs:List (Int->Bool)) (h1:vs=[.ref t,.ref q,.int v,.ref c,.ref k,.ref al,.ref ta]) (h2:Hnd z H t q c k n ties cts as cas kas prs kp) (h3:H al=some (.lst (aas.map V.ref))) (h4:Paired (PrAt H) aas (alg way)) (h5:Pth (rest ties (cts.map pairOf)) x y way) (h6:way.length<=100) (h7:H ta=some (.tup trs)) (h8:loo way kp≠[]) (h9:trs.length=(loo way kp).length) (h10:fs.length=trs.length) (h11:(∀ (i:Nat) (t:Tie) (r:V) (g:Int->Bool),t∈ties->(loo way kp)[i]?=some (prOf t)->trs[i]?=some r->fs[i]?=some g->Ev H ties prs d (cts++[t]) (kp++(loo way kp).take i) r g)) (h12:∀ H',Same H H'->Q (.bl (fs.all fun g=>g v)) H')
noncomputable def spAe(d:Nat):Sp:=fun vs H Q _=>spAeI d vs H Q
theorem at2{x y z:V}{r:List V}:atI (x :: y :: z :: r) 2=some z:=atI_nat (j:=2) rfl
theorem tag_ne{a b:String}(h:(Str.ofString a)≠(Str.ofString b)):decide (V.str a=V.str b)=false:=decide_eq_false fun z=>by injection z with z;exact h z
section
variable{P:Program}{w:World}{K:PySem.W.Frag}{mg:Str->Option Value}{base:Heap}
noncomputable abbrev nIe:List Str:=["web","pairs","weight","cut","kept","thing","number","way","trees"]
theorem scIe:FnScope nIe ["web","pairs","weight","cut","kept","thing"] (defScope sIsEnd):=⟨rfl,rfl,rfl,by decide +kernel,rfl,by decide +kernel,by decide +kernel⟩
theorem csIe1:CompScope ["pair","kept"] [none,some 4] nIe (defScope sIsEnd) (scO [(".0",.local),("pair",.local),("kept",.free)]):=⟨rfl,by decide +kernel,by decide +kernel,by decide +kernel,rfl,capB_ok (by decide +kernel)⟩
theorem ndIe1:(["pair","kept"]:List Str).Nodup:=by decide +kernel
theorem step_ie{f g1 g2 g3 g4 g5:Addr}{fd d1 d2 d3 d4 d5:FuncData}{d:Nat}(F:Fun K "is_end" "is_end" sIsEnd f fd)(T:Txt mg)(T2:Txt2 mg)(GT:CalF P w K mg base 1 "is_tuple_of" ["thing","many"] spIt g1 d1)(GG:CalF P w K mg base 2 "weight_of" ["web","cut"] spWg g2 d2)(GO:CalF P w K mg base 4 "is_way_of" ["web","pairs","number","thing"] spIo g3 d3)(GA:CalF P w K mg base 1 "ties_along" ["way"] spAl g4 d4)(GE:CalF P w K mg base (2 * d+6) "are_ends" ["web","pairs","weight","cut","kept","along","thing"] (spAe d) g5 d5):FnOk P w K mg base CX0 (2 * d+7) f fd ["web","pairs","weight","cut","kept","thing"] (spIe (d+1)):=by
 refine F.ok scIe (fun vs H Q E h=>?_) (fun cdv A outer s H vs Q E hr h=>?_)
 ·obtain⟨z,t,q,c,k,n,ties,cts,as,cas,kas,prs,kp,v,tr,f,rfl,_⟩:=h
  rfl
 ·obtain⟨z,t,q,c,k,n,ties,cts,as,cas,kas,prs,kp,v,tr,f,rfl,N,en,fin⟩:=h
  have hr1:Room 1 _:=hr.mono (by lia)
  have hr2:Room 2 _:=hr.mono (by lia)
  have hr4:Room 4 _:=hr.mono (by lia)
  have c12:=nodup_le N.C.nd N.C.sub
  have l12:=N.l12
  have hu:=hu_of hr
  refine⟨_,(pss_cons (ps_if (PW.pt (pw_and (pt_val (pe_call GT.ok hr1 rfl GT.mg GT.kp GT.bd .nil pass0 (@pa_nam _ _ _ _ _ _ (pv 5) (@pa_cst _ _ _ _ _ _ _ pe_int pa_nil)))) (pw_and1 (pt_cmpR op_eq (@pe_ix _ _ _ _ _ _ _ ix_tupH (pv 5) pe_int (fun _ _=>rfl)) pe_str (nomark _))))) (pss_one (ps_ret (pe_cmpR op_ge (pe_call GG.ok hr2 rfl GG.mg GG.kp GG.bd .nil pass0 (@pa_nam _ _ _ _ _ _ (pv 0) (@pa_nam _ _ _ _ _ _ (pv 3) pa_nil))) (pv 2) (nomark _)))) pss_nil)
   (pss_cons (ps_if (PW.pt (pw_and (pt_val (pe_call GT.ok hr1 rfl GT.mg GT.kp GT.bd .nil pass0 (@pa_nam _ _ _ _ _ _ (pv 5) (@pa_cst _ _ _ _ _ _ _ pe_int pa_nil)))) (pw_and1 (pt_cmpR op_eq (@pe_ix _ _ _ _ _ _ _ ix_tupH (pv 5) pe_int (fun _ _=>rfl)) pe_str (nomark _))))) (pss_one (ps_ret (pe_and (pe_call GO.ok hr4 rfl GO.mg GO.kp GO.bd .nil pass0 (@pa_nam _ _ _ _ _ _ (pv 0) (@pa_nam _ _ _ _ _ _ (pv 1) (@pa_sub _ _ _ _ _ _ _ (@pe_ix _ _ _ _ _ _ _ ix_tupH (pv 5) pe_int (fun _ _=>rfl)) (@pa_sub _ _ _ _ _ _ _ (@pe_ix _ _ _ _ _ _ _ ix_tupH (pv 5) pe_int (fun _ _=>rfl)) pa_nil))))) (pe_one (pe_callB (call_allH rfl) (by rfl) T2.all boot_all (@pa_comp _ _ _ _ _ _ _ _ (pe_comp rfl csIe1 (pi_list (pe_call GA.ok hr1 rfl GA.mg GA.kp GA.bd .nil pass0 (@pa_sub _ _ _ _ _ _ _ (@pe_ix _ _ _ _ _ _ _ ix_tupH (pv 5) pe_int (fun _ _=>rfl)) pa_nil))) (fun C s H fp=>(pg_name (i:=0) ndIe1 rfl (Or.inl rfl))) (fun C s H fp=>pf_nil) (fun C s H fp=>(pe_cmpR (op_inT hu) (pv 0) (pv 1) rfl))) pa_nil)))))) pss_nil)
   (pss_cons (ps_if (PW.pt (pw_and (pt_val (pe_call GT.ok hr1 rfl GT.mg GT.kp GT.bd .nil pass0 (@pa_nam _ _ _ _ _ _ (pv 5) (@pa_cst _ _ _ _ _ _ _ pe_int pa_nil)))) (pw_and1 (pt_cmpR op_eq (@pe_ix _ _ _ _ _ _ _ ix_tupH (pv 5) pe_int (fun _ _=>rfl)) pe_str (nomark _))))) (pss_cons (ps_asg (pe_slice sl_tupA (pv 5) (po_some pe_int) po_none) (pg_tup (n:=3) rfl (pgs_cons (pg_name (i:=6) scIe.nd rfl (Or.inl rfl)) (pgs_cons (pg_name (i:=7) scIe.nd rfl (Or.inl rfl)) (pgs_cons (pg_name (i:=8) scIe.nd rfl (Or.inl rfl)) pgs_nil)))))
   (pss_one (ps_ret (pe_and (pe_call GO.ok hr4 rfl GO.mg GO.kp GO.bd .nil pass0 (@pa_nam _ _ _ _ _ _ (pv 0) (@pa_nam _ _ _ _ _ _ (pv 1) (@pa_nam _ _ _ _ _ _ (pv 6) (@pa_nam _ _ _ _ _ _ (pv 7) pa_nil))))) (pe_one (pe_call GE.ok hr rfl GE.mg GE.kp GE.bd .nil pass0 (@pa_nam _ _ _ _ _ _ (pv 0) (@pa_nam _ _ _ _ _ _ (pv 1) (@pa_nam _ _ _ _ _ _ (pv 2) (@pa_nam _ _ _ _ _ _ (pv 3) (@pa_nam _ _ _ _ _ _ (pv 4) (@pa_call _ _ _ _ _ _ _ _ (pe_call GA.ok hr1 rfl GA.mg GA.kp GA.bd .nil pass0 (@pa_nam _ _ _ _ _ _ (pv 7) pa_nil)) (@pa_nam _ _ _ _ _ _ (pv 8) pa_nil))))))))))))) pss_nil)
   (pss_one (ps_ret pe_bl))))),?_⟩
  rcases en with⟨a,rfl,ga,rfl⟩ |⟨a,rfl,ga,rfl⟩ |⟨a,l,b,num,x,y,way,rfl,ga,gl,nm,pth,wl,le,rfl⟩ |⟨a,l,ta,b,num,x,y,way,trs,fs,rfl,ga,gl,gt,nm,pth,wl,ne,tl,fl,hen,rfl⟩
  ·refine⟨_,rfl,a,_,1,rfl,ga,_,rfl,iteTd rfl ?_⟩
   refine⟨_,rfl,a,_,_,_,rfl,rfl,ga,at0,rfl,_,rfl,iteTd (decide_eq_true rfl) ?_⟩
   refine⟨_,rfl,_,rfl,t,c,n,ties,cts,cas,rfl,N.W,N.srt,N.gc,N.pc,by lia,N.C.sub,fun H1 s1=>⟨_,rfl,_,_,rfl,rfl,?_⟩⟩
   exact fin _ s1
  ·refine⟨_,rfl,a,_,1,rfl,ga,_,rfl,iteTd rfl ?_⟩
   refine⟨_,rfl,a,_,_,_,rfl,rfl,ga,at0,rfl,_,rfl,iteFd (tag_ne (by decide +kernel)) ?_⟩
   refine⟨_,rfl,a,_,3,rfl,ga,_,rfl,iteFd rfl (iteF ?_)⟩
   refine⟨_,rfl,a,_,4,rfl,ga,_,rfl,iteFd rfl (iteF ?_)⟩
   exact fin _ (Same.refl _)
  ·have tn:=tie_in N.ok pth
   have wal:=alg_len way
   refine⟨_,rfl,a,_,1,rfl,ga,_,rfl,iteFd rfl (iteF ?_)⟩
   refine⟨_,rfl,a,_,3,rfl,ga,_,rfl,iteTd rfl ?_⟩
   refine⟨_,rfl,a,_,_,_,rfl,rfl,ga,at0,rfl,_,rfl,iteTd (decide_eq_true rfl) ?_⟩
   refine⟨_,rfl,_,rfl,_,rfl,a,_,_,_,rfl,rfl,ga,at1,_,rfl,a,_,_,_,rfl,rfl,ga,at2,z,b,t,q,l,n,ties,as,prs,num,x,y,way,rfl,N.W,N.srt,N.gq,N.pp,N.pl,nm.1,nm.2,gl,wl.1,wl.2,pth.ends.1,pth.ends.2,(fun p hp=>by obtain⟨x,hx,e,_⟩:=tn p hp;exact⟨x,hx,e⟩),fun H1 s1=>⟨_,rfl,iteT ?_⟩⟩
   refine⟨_,rfl,a,_,_,_,rfl,rfl,s1 _ _ ga,at2,b,l,way,rfl,gl.same s1,by lia,fun al aas H2 gal pal s2=>⟨al,rfl,⟨_,SqL.of gal⟩,?_⟩⟩
   have s12:=s1.trans s2
   have N2:=N.same s12
   have pk0:=prs_tup N2.pk
   have pall:=pal.length
   refine comp_list (K:=K) (a:=al) (xs:=aas.map V.ref) (fun j ys G=>G=H2/\ys=(List.replicate j true).map V.bl) (by rw[zA,sizeLine_eq];lia) ⟨rfl,rfl⟩ (fun j ys G _ z=>by rw[z.1];exact SqL.of gal) ?_ ?_
   ·rintro j x ys G hx ⟨rfl,rfl⟩
    obtain⟨il,e⟩:=zE.mp hx
    rw[zA]at il
    rw[zR]at e
    subst e
    have ia:j <(alg way).length:=by lia
    have gx:=Paired.at pal j il ia
    have mem:(alg way)[j]∈kp:=Classical.byContradiction fun h=>by
     have:(alg way)[j]∈loo way kp:=mem_loo.mpr ⟨zU ia,h⟩
     rw[le]at this
     cases this
    refine⟨⟨rfl,trivial⟩,tTru_if ⟨_,rfl,_,rfl,aas[j],k,kas,kp.map (fun p=>[p.1,p.2]),[(alg way)[j].1,(alg way)[j].2],rfl,rfl,gx,N2.gk,pk0,?_⟩⟩
    refine⟨rfl,?_⟩
    show _++[V.bl (decide ([(alg way)[j].1,(alg way)[j].2]∈kp.map (fun p=>[p.1,p.2])))]=_
    rw[decide_eq_true (mem_prs.mpr mem)]
    exact rep_t j
   ·rintro ys G _ ⟨rfl,rfl⟩ D hD
    refine⟨D,_,rfl,upd_same,?_⟩
    rw[all_rep]
    exact fin _ (s12.trans (Same.new hD))
  ·refine⟨_,rfl,a,_,1,rfl,ga,_,rfl,iteFd rfl (iteF ?_)⟩
   refine⟨_,rfl,a,_,3,rfl,ga,_,rfl,iteFd rfl (iteF ?_)⟩
   refine⟨_,rfl,a,_,4,rfl,ga,_,rfl,iteTd rfl ?_⟩
   refine⟨_,rfl,a,_,_,_,rfl,rfl,ga,at0,rfl,_,rfl,iteTd (decide_eq_true rfl) ?_⟩
   refine⟨_,rfl,1,rfl,a,_,rfl,ga,fun p' H1 s1 gp=>?_⟩
   have gp:H1 p'=some (.tup [.int num,.ref l,.ref ta]):=gp
   refine⟨p',_,rfl,SqT.of gp,rfl,_,_,rfl,_,_,rfl,_,_,rfl,rfl,?_⟩
   have N1:=N.same s1
   have gl1:=gl.same s1
   have tn:=tie_in N.ok pth
   refine⟨_,rfl,_,rfl,_,rfl,_,rfl,z,b,t,q,l,n,ties,as,prs,num,x,y,way,rfl,N1.W,N1.srt,N1.gq,N1.pp,N1.pl,nm.1,nm.2,gl1,wl.1,wl.2,pth.ends.1,pth.ends.2,(fun p hp=>by obtain⟨x,hx,e,_⟩:=tn p hp;exact⟨x,hx,e⟩),fun H2 s2=>⟨_,rfl,iteT ?_⟩⟩
   refine⟨_,rfl,_,rfl,_,rfl,_,rfl,_,rfl,_,rfl,b,l,way,rfl,gl1.same s2,by lia,fun al aas H3 gal pal s3=>?_⟩
   have s13:=s1.trans (s2.trans s3)
   exact⟨_,rfl,z,t,q,c,k,al,ta,n,ties,cts,as,cas,kas,aas,prs,kp,v,x,y,way,trs,fs,rfl,N.same s13,gal,pal,pth,wl.1,s13 _ _ gt,ne,tl,fl,fun i t r g ht hl hr hg=>(hen i t r g ht hl hr hg).same s13,fun H4 s4=>fin _ (s13.trans s4)⟩
noncomputable abbrev nAe:List Str:=["web","pairs","weight","cut","kept","along","thing","loose","at","tree"]
theorem scAe:FnScope nAe ["web","pairs","weight","cut","kept","along","thing"] (defScope sAreEnds):=⟨rfl,rfl,rfl,by decide +kernel,rfl,by decide +kernel,by decide +kernel⟩
theorem csAe1:CompScope ["pair","kept"] [none,some 4] nAe (defScope sAreEnds) (scO [(".0",.local),("pair",.local),("kept",.free)]):=⟨rfl,by decide +kernel,by decide +kernel,by decide +kernel,rfl,capB_ok (by decide +kernel)⟩
theorem ndAe1:(["pair","kept"]:List Str).Nodup:=by decide +kernel
theorem csAe2:CompScope ["pair","cut"] [none,some 3] nAe (defScope sAreEnds) (scO [(".0",.local),("pair",.local),("cut",.free)]):=⟨rfl,by decide +kernel,by decide +kernel,by decide +kernel,rfl,capB_ok (by decide +kernel)⟩
theorem ndAe2:(["pair","cut"]:List Str).Nodup:=by decide +kernel
theorem step_ae{f g1 g2:Addr}{fd d1 d2:FuncData}{d:Nat}(F:Fun K "are_ends" "are_ends" sAreEnds f fd)(T:Txt mg)(T2:Txt2 mg)(TA:mg "any" = none)(GT:CalF P w K mg base 1 "is_tuple_of" ["thing","many"] spIt g1 d1)(GE:CalF P w K mg base (2 * d+5) "is_end" ["web","pairs","weight","cut","kept","thing"] (spIe d) g2 d2):FnOk P w K mg base CX0 (2 * d+6) f fd ["web","pairs","weight","cut","kept","along","thing"] (spAe d):=by
 refine F.ok scAe (fun vs H Q E h=>?_) (fun cdv A outer s H vs Q E hr h=>?_)
 ·obtain⟨z,t,q,c,k,al,ta,n,ties,cts,as,cas,kas,aas,prs,kp,v,x,y,way,trs,fs,rfl,_⟩:=h
  rfl
 ·obtain⟨z,t,q,c,k,al,ta,n,ties,cts,as,cas,kas,aas,prs,kp,v,x,y,way,trs,fs,rfl,N,gal,pal,pth,w100,gta,ne,tln,fln,hen,fin⟩:=h
  have hr1:Room 1 _:=hr.mono (by lia)
  have hu:=hu_of hr
  have c12:=nodup_le N.C.nd N.C.sub
  have l12:=N.l12
  have kl:=N.kl
  have pkl:=N.pk.length
  have pcl:=N.pc.length
  have pall:=pal.length
  have algl:=alg_len way
  have tn:=tie_in N.ok pth
  refine⟨_,(pss_cons (ps_comp (i:=7) scAe.nd rfl (Or.inl rfl) rfl csAe1 (pi_list (pvQ 5)) (fun C s H fp=>(pg_name (i:=0) ndAe1 rfl (Or.inl rfl))) (fun C s H fp=>(pf_one (pt_cmpR (op_notInT hu) (pvQ 0) (pvQ 1) rfl))) (fun C s H fp=>(pvQ 0)))
   (pss_cons (ps_if (PW.pt (pw_or (pt_not (pt_truth (pvQ 7) (fun _=>rfl))) (pw_or (pt_val (pe_callB (call_anyH rfl) (by rfl) TA boot_any (@pa_comp _ _ _ _ _ _ _ _ (pe_comp rfl csAe2 (pi_list (pvQ 7)) (fun C s H fp=>(pg_name (i:=0) ndAe2 rfl (Or.inl rfl))) (fun C s H fp=>pf_nil) (fun C s H fp=>(pe_cmpR (op_inT hu) (pvQ 0) (pvQ 1) rfl))) pa_nil))) (pw_or1 (pt_not (pt_val (pe_call GT.ok hr1 rfl GT.mg GT.kp GT.bd .nil pass0 (@pa_nam _ _ _ _ _ _ (pvQ 6) (@pa_call _ _ _ _ _ _ _ _ (pe_callB call_lenH (by rfl) T.len PySem.boot_len (@pa_nam _ _ _ _ _ _ (pvQ 7) pa_nil)) pa_nil))))))))) (pss_one (ps_ret pe_bl)) pss_nil)
   (pss_cons (ps_for PassesOwn.never rfl (pi_enumB true rfl T2.enum (@pa_nam _ _ _ _ _ _ (pvQ 6) pa_nil)) (pg_tup (n:=2) rfl (pgs_cons (pg_name (i:=8) scAe.nd rfl (Or.inl rfl)) (pgs_cons (pg_name (i:=9) scAe.nd rfl (Or.inl rfl)) pgs_nil)))
   (pss_one (ps_if (pt_not (pt_val (pe_call GE.ok hr rfl GE.mg GE.kp GE.bd .nil pass0 (@pa_nam _ _ _ _ _ _ (pvQ 0) (@pa_nam _ _ _ _ _ _ (pvQ 1) (@pa_nam _ _ _ _ _ _ (pvQ 2) (@pa_bin _ _ _ _ _ _ _ _ (pe_op op_cat (pvQ 3) (@pe_lst _ _ _ _ (@pa_sub _ _ _ _ _ _ _ (@pe_ix _ _ _ _ _ _ _ ix_listH (pvQ 7) (pvQ 8) (fun _ _=>rfl)) pa_nil))) (@pa_bin _ _ _ _ _ _ _ _ (pe_op op_cat (pvQ 4) (pe_slice sl_list (pvQ 7) po_none (po_some (pvQ 8)))) (@pa_nam _ _ _ _ _ _ (pvQ 9) pa_nil))))))))) (pss_one (ps_ret pe_bl)) pss_nil)))
   (pss_one (ps_ret pe_bl))))),?_⟩
  refine⟨al,rfl,⟨_,SqL.of gal⟩,?_⟩
  have pk0:=prs_tup N.pk
  refine comp_list (K:=K) (a:=al) (xs:=aas.map V.ref) (fun j ys G=>G=H/\∃ las:List Addr,ys=las.map V.ref/\Paired (PrAt H) las (((alg way).take j).filter fun p=>!decide (p∈kp))) (by rw[zA,sizeLine_eq];lia) ⟨rfl,[],rfl,.nil⟩ (fun j ys G _ z=>by rw[z.1];exact SqL.of gal) ?_ ?_
  ·rintro j x ys G hx ⟨rfl,las,rfl,pl⟩
   obtain⟨il,e⟩:=zE.mp hx
   rw[zA]at il
   rw[zR]at e
   subst e
   have ia:j <(alg way).length:=by lia
   have gx:=Paired.at pal j il ia
   refine⟨⟨rfl,trivial⟩,aas[j],k,kas,kp.map (fun p=>[p.1,p.2]),[(alg way)[j].1,(alg way)[j].2],rfl,rfl,gx,N.gk,pk0,_,rfl,?_⟩
   rw[zL ia,zBJ]
   have ed:decide ([(alg way)[j].1,(alg way)[j].2]∈kp.map (fun p=>[p.1,p.2]))=decide ((alg way)[j]∈kp):=decide_eq_decide.mpr mem_prs
   refine ite2 (fun h=>?_) (fun h=>?_)
   ·have h:(!decide ([(alg way)[j].1,(alg way)[j].2]∈kp.map (fun p=>[p.1,p.2])))=true:=h
    rw[ed]at h
    refine⟨rfl,las++[aas[j]],by rw[zJ];rfl,?_⟩
    rw[zAP,if_pos h]
    exact Paired.snoc pl gx
   ·have h:¬(!decide ([(alg way)[j].1,(alg way)[j].2]∈kp.map (fun p=>[p.1,p.2])))=true:=h
    rw[ed]at h
    refine⟨rfl,las,rfl,?_⟩
    rw[zAP,if_neg h,List.filter_nil,zAU]
    exact pl
  rintro ys G _ ⟨rfl,las,rfl,pl⟩ lo hlo
  rw[zA,pall,zAF]at pl
  have pl:Paired (PrAt G) las (loo way kp):=pl
  have losm:∀ p∈loo way kp,p∈alg way:=fun p hp=>(mem_loo.mp hp).1
  have losl:(loo way kp).length<=100:=zAC (zBG _ _) (by lia)
  generalize loo way kp=los at *
  have pll:=pl.length
  have s1:=Same.new (o:=.lst (las.map V.ref)) hlo
  have glo:(upd G lo (.lst (las.map V.ref))) lo=some (.lst (las.map V.ref)):=upd_same
  have pl1:Paired (PrAt (upd G lo (.lst (las.map V.ref)))) las los:=Paired.mapP pl fun _ _ e=>s1 _ _ e
  generalize (upd G lo (.lst (las.map V.ref)))=H1 at s1 glo pl1
  have las0:las≠[]:=fun z=>ne (List.length_eq_zero_iff.mp (by rw[<- pll,z];rfl))
  refine⟨_,.inl ⟨_,SqL.of glo,rfl⟩,?_⟩
  rw[show(!(las.map V.ref).isEmpty)=true by cases las with | nil=>exact absurd rfl las0 | cons _ _=>rfl]
  refine iteF ?_
  have pc1:=pair_tups (N.pc.same s1)
  refine⟨lo,rfl,⟨_,SqL.of glo⟩,?_⟩
  refine comp_list (K:=K) (a:=lo) (xs:=las.map V.ref) (fun j ys G=>G=H1/\ys=(List.replicate j false).map V.bl) (by rw[zA,sizeLine_eq];lia) ⟨rfl,rfl⟩ (fun j ys G _ z=>by rw[z.1];exact SqL.of glo) ?_ ?_
  ·rintro j x ys G' hx ⟨rfl,rfl⟩
   obtain⟨il,e⟩:=zE.mp hx
   rw[zA]at il
   rw[zR]at e
   subst e
   have ia:j<los.length:=by lia
   have gx:=Paired.at pl1 j il ia
   obtain⟨y',hy,ey,ny⟩:=tn _ (losm _ (zU ia))
   have nin:[los[j].1,los[j].2]∉cts.map pairOf:=by rw[<- ey];exact ny
   refine⟨⟨rfl,trivial⟩,tTru_if ⟨las[j],c,cas,cts.map pairOf,[los[j].1,los[j].2],rfl,rfl,gx,s1 _ _ N.gc,pc1,?_⟩⟩
   show G'=G'/\(List.replicate j false).map V.bl++[V.bl (decide ([los[j].1,los[j].2]∈cts.map pairOf))]=_
   rw[decide_eq_false nin]
   exact⟨rfl,rep_f j⟩
  rintro ys G' _ ⟨rfl,rfl⟩ D hD
  refine⟨D,_,rfl,upd_same,_,rfl,?_⟩
  rw[any_rep]
  refine iteF ?_
  have s2:=s1.trans (Same.new (o:=.lst ((List.replicate (las.map V.ref).length false).map V.bl)) hD)
  have glo2:=Same.new (o:=.lst ((List.replicate (las.map V.ref).length false).map V.bl)) hD _ _ glo
  have pl2:Paired (PrAt (upd G' D (.lst ((List.replicate (las.map V.ref).length false).map V.bl)))) las los:=Paired.mapP pl1 fun _ _ e=>Same.new hD _ _ e
  generalize (upd G' D (.lst ((List.replicate (las.map V.ref).length false).map V.bl)))=H2 at s2 glo2 pl2
  refine⟨lo,_,rfl,glo2,ta,trs,_,rfl,s2 _ _ gta,?_⟩
  rw[zA,decide_eq_true (show(trs.length:Int)=(las.length:Int) by lia)]
  refine⟨_,rfl,iteF ?_⟩
  refine⟨ta,rfl,⟨_,SqT.of (s2 _ _ gta)⟩,?_⟩
  refine for_enumB (b:=true) (K:=K) (l:=ta) (xs:=trs) (fun i σ G=>∃ (v8 v9:Option V),σ=[some (.ref t),some (.ref q),some (.int v),some (.ref c),some (.ref k),some (.ref al),some (.ref ta),some (.ref lo),v8,v9]/\Same H2 G/\(fs.take i).all (fun g=>g v)=true) ⟨_,_,rfl,Same.refl _,rfl⟩ (fun i σ G _ z=>by obtain⟨_,_,_,s,_⟩:=z;exact SqT.of (s _ _ (s2 _ _ gta))) ?_ ?_
  ·rintro i x σ G3 U hx ⟨v8,v9,rfl,sG,fa⟩ hU
   obtain⟨il,e⟩:=zE.mp hx
   have ip:i<los.length:=by lia
   have ila:i<las.length:=by lia
   have sU:=Same.new (o:=.tup [V.int i,x]) hU
   refine⟨U,_,rfl,SqT.of upd_same,rfl,_,_,rfl,_,_,rfl,rfl,?_⟩
   have s3:=s2.trans (sG.trans sU)
   have glo3:=(sG.trans sU) _ _ glo2
   have pl3:Paired (PrAt (upd G3 U (.tup [V.int i,x]))) las los:=Paired.mapP pl2 fun _ _ e=>(sG.trans sU) _ _ e
   have s23:=sG.trans sU
   generalize (upd G3 U (.tup [V.int i,x]))=H3 at s3 glo3 pl3 s23
   have ail:atI (las.map V.ref) (i:Int)=some (V.ref las[i]):=atI_nat (by rw[zAD,zF ila];rfl)
   refine⟨lo,_,_,_,rfl,rfl,glo3,ail,(by show 1<=sizeLine;decide),fun p1 hp1=>?_⟩
   have sp1:=Same.new (o:=.lst [V.ref las[i]]) hp1
   refine⟨c,p1,_,_,rfl,rfl,sp1 _ _ (s3 _ _ N.gc),upd_same,by rw[zA,zX,sizeLine_eq];lia,fun c2 hc2=>?_⟩
   have sc2:=Same.new (o:=.lst (cas.map V.ref++[V.ref las[i]])) hc2
   have gc2:(upd (upd H3 p1 (.lst [V.ref las[i]])) c2 (.lst (cas.map V.ref++[V.ref las[i]]))) c2=some (.lst ((cas++[las[i]]).map V.ref)):=by rw[upd_same,zJ];rfl
   have s4:=sp1.trans sc2
   clear sp1 sc2
   generalize (upd (upd H3 p1 (.lst [V.ref las[i]])) c2 (.lst (cas.map V.ref++[V.ref las[i]])))=H4 at s4 gc2
   have s34:=s3.trans s4
   refine⟨_,rfl,lo,_,rfl,SqL.of (s4 _ _ glo3),fun p2 hp2=>?_⟩
   rw[cut_to,<- List.map_take]
   have sp2:=Same.new (o:=.lst ((las.take i).map V.ref)) hp2
   refine⟨k,p2,_,_,rfl,rfl,sp2 _ _ (s34 _ _ N.gk),upd_same,by rw[zA,zA,zAH,sizeLine_eq];lia,fun k2 hk2=>?_⟩
   have sk2:=Same.new (o:=.lst (kas.map V.ref++(las.take i).map V.ref)) hk2
   have gk2:(upd (upd H4 p2 (.lst ((las.take i).map V.ref))) k2 (.lst (kas.map V.ref++(las.take i).map V.ref))) k2=some (.lst ((kas++las.take i).map V.ref)):=by rw[upd_same,zJ]
   have gc3:=sk2 _ _ (sp2 _ _ gc2)
   have s45:=sp2.trans sk2
   clear sp2 sk2
   generalize (upd (upd H4 p2 (.lst ((las.take i).map V.ref))) k2 (.lst (kas.map V.ref++(las.take i).map V.ref)))=H5 at s45 gk2 gc3
   have s05:=s34.trans s45
   have s35:=s4.trans s45
   obtain⟨ti,tim,eti,nti⟩:=tn _ (losm _ (zU ip))
   have N5:=N.same s05
   have ifs:i<fs.length:=by lia
   refine⟨z,t,q,c2,k2,n,ties,cts++[ti],as,cas++[las[i]],kas++las.take i,prs,kp++los.take i,v,x,fs[i],rfl,⟨N5.W,N5.ok,N5.srt,N5.l12,N5.gq,N5.pp,N5.pl,gc3,Paired.snoc N5.pc ?_,N.C.add tim (fun h=>nti (zAA.mpr ⟨ti,h,rfl⟩)),gk2,pd_app N5.pk (pd_take i (Paired.mapP pl3 fun _ _ e=>s35 _ _ e)),by rw[zK,zK,zAH,zX];lia⟩,(hen i ti x fs[i] tim (by rw[zF ip,eti]) hx (zF ifs)).same s05,fun H6 s6=>⟨_,rfl,?_⟩⟩
   ·have:=s35 _ _ (Paired.at pl3 i ila ip)
    rw[<- eti]at this
    exact this
   ·have ta1:(fs.take (i+1)).all (fun g=>g v)=fs[i] v:=by
     rw[zL ifs,List.all_append,fa,Bool.true_and,List.all_cons,List.all_nil,Bool.and_true]
    cases ef:fs[i] v with
    |true =>
     rw[ef]at ta1
     exact iteF ⟨_,_,rfl,s23.trans (s35.trans s6),ta1⟩
    |false =>
     refine iteT ?_
     have e:(fs.all fun g=>g v)=false:=by
      cases e:fs.all fun g=>g v with
      |false=>rfl
      |true=>exact absurd (zBI.mp e _ (zU ifs)) (by rw[ef];exact zN)
     have fin:=fin _ (s05.trans s6)
     rw[e]at fin
     exact fin
  ·rintro σ G3 ⟨v8,v9,rfl,sG,fa⟩
   rw[show trs.length=fs.length from fln.symm,zAF]at fa
   have fin:=fin _ (s2.trans sG)
   rw[fa]at fin
   exact fin
theorem all_ie{f g1 g2 g3 g4 g5:Addr}{fd d1 d2 d3 d4 d5:FuncData}(F:Fun K "is_end" "is_end" sIsEnd f fd)(FA:Fun K "are_ends" "are_ends" sAreEnds g5 d5)(T:Txt mg)(T2:Txt2 mg)(TA:mg "any" = none)(GT:CalF P w K mg base 1 "is_tuple_of" ["thing","many"] spIt g1 d1)(GG:CalF P w K mg base 2 "weight_of" ["web","cut"] spWg g2 d2)(GO:CalF P w K mg base 4 "is_way_of" ["web","pairs","number","thing"] spIo g3 d3)(GA:CalF P w K mg base 1 "ties_along" ["way"] spAl g4 d4)(mG:mg "is_end" = some (.ref f))(kG:PySem.W.keepIn K (.ref f)=true)(bG:Binds K fd ["web","pairs","weight","cut","kept","thing"] [])(mA:mg "are_ends" = some (.ref g5))(kA:PySem.W.keepIn K (.ref g5)=true)(bA:Binds K d5 ["web","pairs","weight","cut","kept","along","thing"] []):∀ d:Nat,FnOk P w K mg base CX0 (2 * d+5) f fd ["web","pairs","weight","cut","kept","thing"] (spIe d)
 | 0=>by
  refine⟨fun vs H Q E h=>?_,fun A outer s H args us vs Q E hr he hb hv h=>?_⟩
  ·obtain⟨z,t,q,c,k,n,ties,cts,as,cas,kas,prs,kp,v,tr,f,rfl,_,en,_⟩:=h
   exact en.elim
  ·obtain⟨z,t,q,c,k,n,ties,cts,as,cas,kas,prs,kp,v,tr,f,rfl,_,en,_⟩:=h
   exact en.elim
 |d+1=>step_ie F T T2 GT GG GO GA ⟨step_ae FA T T2 TA GT ⟨all_ie F FA T T2 TA GT GG GO GA mG kG bG mA kA bA d,mG,kG,bG⟩,mA,kA,bA⟩
theorem ok_ie{f g1 g2 g3 g4 g5:Addr}{fd d1 d2 d3 d4 d5:FuncData}(F:Fun K "is_end" "is_end" sIsEnd f fd)(FA:Fun K "are_ends" "are_ends" sAreEnds g5 d5)(T:Txt mg)(T2:Txt2 mg)(TA:mg "any" = none)(GT:CalF P w K mg base 1 "is_tuple_of" ["thing","many"] spIt g1 d1)(GG:CalF P w K mg base 2 "weight_of" ["web","cut"] spWg g2 d2)(GO:CalF P w K mg base 4 "is_way_of" ["web","pairs","number","thing"] spIo g3 d3)(GA:CalF P w K mg base 1 "ties_along" ["way"] spAl g4 d4)(mG:mg "is_end" = some (.ref f))(kG:PySem.W.keepIn K (.ref f)=true)(bG:Binds K fd ["web","pairs","weight","cut","kept","thing"] [])(mA:mg "are_ends" = some (.ref g5))(kA:PySem.W.keepIn K (.ref g5)=true)(bA:Binds K d5 ["web","pairs","weight","cut","kept","along","thing"] []):FnOk P w K mg base CX0 31 f fd ["web","pairs","weight","cut","kept","thing"] (spIe 13):=by
 exact all_ie F FA T T2 TA GT GG GO GA mG kG bG mA kA bA 13
end
open PySem L2 PyProof.Rows
inductive spShI(K:PySem.W.Frag)(vs:List V)(H:Hp)(Q:VK):Prop where
 |mk (z:Bool) (t q r bl:Addr) (n:Nat) (ties bts:List Tie) (as bas:List Addr) (prs:List (Int×Int)) (bw:Int) (tr:V) (f:Int->Bool) (h1:vs=[.ref t,.ref q,.ref r]) (h2:Web H K t q n ties z as prs) (h3:SIs z H q (as.map V.ref)) (h4:H r=some (.tup [.int bw,.ref bl,tr])) (h5:H bl=some (.lst (bas.map V.ref))) (h6:PairT H bas bts) (h7:bw=wt bts) (h8:Cts ties bts) (h9:(bts.map pairOf).Pairwise (fun x y=>Srt.lexlt y x=false)) (h10:Parted ties prs bts) (h11:Ev H ties prs 13 [] [] tr f) (h12:∀ H',Same H H'->Q (.bl (f bw)) H')
noncomputable def spSh(K:PySem.W.Frag):Sp:=fun vs H Q _=>spShI K vs H Q
section
variable{P:Program}{w:World}{K:PySem.W.Frag}{mg:Str->Option Value}{base:Heap}
noncomputable abbrev nSh:List Str:=["web","pairs","told","weight","cut","tree"]
theorem scSh:FnScope nSh ["web","pairs","told"] (defScope sShowsForPairs):=⟨rfl,rfl,rfl,by decide +kernel,rfl,by decide +kernel,by decide +kernel⟩
theorem ok_sh{f g1 g2 g3 g4 g5 g6:Addr}{fd d1 d2 d3 d4 d5 d6:FuncData}(F:Fun K "shows_for_pairs" "shows_for_pairs" sShowsForPairs f fd)(GT:CalF P w K mg base 1 "is_tuple_of" ["thing","many"] spIt g1 d1)(GN:CalF P w K mg base 1 "is_number" ["thing"] spNu g2 d2)(GC:CalF P w K mg base 3 "is_cut" ["web","thing"] spIc g3 d3)(GG:CalF P w K mg base 2 "weight_of" ["web","cut"] spWg g4 d4)(GP:CalF P w K mg base 3 "parts_pairs" ["web","pairs","cut"] (spPP K) g5 d5)(GE:CalF P w K mg base 31 "is_end" ["web","pairs","weight","cut","kept","thing"] (spIe 13) g6 d6):FnOk P w K mg base CX0 32 f fd ["web","pairs","told"] (spSh K):=by
 refine F.ok scSh (fun vs H Q E h=>?_) (fun cdv A outer s H vs Q E hr h=>?_)
 ·obtain⟨z,t,q,r,bl,n,ties,bts,as,bas,prs,bw,tr,f,rfl,_⟩:=h
  rfl
 ·obtain⟨z,t,q,r,bl,n,ties,bts,as,bas,prs,bw,tr,f,rfl,W,gq,gr,gb,pb,ew,C,sr,pt,en,fin⟩:=h
  have hr1:Room 1 _:=hr.mono (by decide)
  have hr2:Room 2 _:=hr.mono (by decide)
  have hr3:Room 3 _:=hr.mono (by decide)
  have l12:=W.l12
  have c12:=nodup_le C.nd C.sub
  have pbl:=pb.length
  refine⟨_,(pss_cons (ps_if (pt_not (pt_val (pe_call GT.ok hr1 rfl GT.mg GT.kp GT.bd .nil pass0 (@pa_nam _ _ _ _ _ _ (pvQ 2) (@pa_cst _ _ _ _ _ _ _ pe_int pa_nil))))) pss_never pss_nil)
   (pss_cons (ps_asg (pvQ 2) (pg_tup (n:=3) rfl (pgs_cons (pg_name (i:=3) scSh.nd rfl (Or.inl rfl)) (pgs_cons (pg_name (i:=4) scSh.nd rfl (Or.inl rfl)) (pgs_cons (pg_name (i:=5) scSh.nd rfl (Or.inl rfl)) pgs_nil)))))
   (pss_cons (ps_if (PW.pt (pw_or (pt_not (pt_val (pe_call GN.ok hr1 rfl GN.mg GN.kp GN.bd .nil pass0 (@pa_nam _ _ _ _ _ _ (pvQ 3) pa_nil)))) (pw_or1 (pt_not (pt_val (pe_call GC.ok hr3 rfl GC.mg GC.kp GC.bd .nil pass0 (@pa_nam _ _ _ _ _ _ (pvQ 0) (@pa_nam _ _ _ _ _ _ (pvQ 4) pa_nil)))))))) pss_never pss_nil)
   (pss_cons (ps_if (PW.pt (pw_or (pt_cmpR op_ne (pe_call GG.ok hr2 rfl GG.mg GG.kp GG.bd .nil pass0 (@pa_nam _ _ _ _ _ _ (pvQ 0) (@pa_nam _ _ _ _ _ _ (pvQ 4) pa_nil))) (pvQ 3) (nomark _)) (pw_or1 (pt_not (pt_val (pe_call GP.ok hr3 rfl GP.mg GP.kp GP.bd .nil pass0 (@pa_nam _ _ _ _ _ _ (pvQ 0) (@pa_nam _ _ _ _ _ _ (pvQ 1) (@pa_nam _ _ _ _ _ _ (pvQ 4) pa_nil))))))))) pss_never pss_nil)
   (pss_one (ps_ret (pe_call GE.ok hr rfl GE.mg GE.kp GE.bd .nil pass0 (@pa_nam _ _ _ _ _ _ (pvQ 0) (@pa_nam _ _ _ _ _ _ (pvQ 1) (@pa_nam _ _ _ _ _ _ (pvQ 3) (@pa_lst _ _ _ _ _ _ (@pe_lst _ _ _ _ pa_nil) (@pa_lst _ _ _ _ _ _ (@pe_lst _ _ _ _ pa_nil) (@pa_nam _ _ _ _ _ _ (pvQ 5) pa_nil))))))))))))),?_⟩
  refine⟨r,_,3,rfl,gr,_,rfl,iteFd rfl ?_⟩
  refine⟨r,_,rfl,SqT.of gr,rfl,_,_,rfl,_,_,rfl,_,_,rfl,rfl,?_⟩
  refine⟨bw,rfl,_,rfl,iteF ?_⟩
  refine⟨t,bl,n,ties,bts,bas,rfl,W.W,W.srt,gb,pb,by lia,C,sr,fun H1 s1=>⟨_,rfl,iteF ?_⟩⟩
  have W1:=W.same s1
  refine⟨t,bl,n,ties,bts,bas,rfl,W1.W,W1.srt,s1 _ _ gb,pb.same s1,by lia,C.sub,fun H2 s12=>⟨rfl,_,rfl,?_⟩⟩
  refine iteNS (congrArg V.int (show wt bts=bw from ew.symm)) ?_
  have s2:=s1.trans s12
  have W2:=W.same s2
  refine⟨t,q,bl,n,ties,z,as,prs,bts.map pairOf,rfl,W2.W,W2.ok,by have:=W2.n8;lia,W2.sq,W2.pp,by have:=W2.pl;lia,W2.po,⟨false,bas,SqL.of (s2 _ _ gb),pair_tups (pb.same s2),by rw[zA];lia⟩,fun hs H3 IH s23=>?_⟩
  obtain⟨h1,h2⟩:=parted_heads W.po IH
  have hb:(apart hs prs).all id=true:=by
   cases hb:(apart hs prs).all id with
   |true=>rfl
   |false =>
    obtain⟨x,hx,rx⟩:=h2 hb
    exact absurd rx (pt x hx)
  rw[hb]
  refine⟨_,rfl,iteF ?_⟩
  have s3:=s2.trans s23
  refine⟨(by show 0<=sizeLine;decide),fun c hc=>⟨(by show 0<=sizeLine;decide),fun k hk=>?_⟩⟩
  have sc:=Same.new (o:=.lst []) hc
  have sk:=Same.new (o:=.lst []) hk
  have s4:=s3.trans (sc.trans sk)
  have W4:=W.same s4
  exact⟨z,t,q,c,k,n,ties,[],as,[],[],prs,[],bw,tr,f,rfl,⟨W4.W,W4.ok,W4.srt,W4.l12,gq.same s4,W4.pp,W4.pl,sk _ _ upd_same,.nil,⟨zAS,fun x hx=>nomatch hx⟩,upd_same,.nil,zAQ _⟩,en.same s4,fun H5 s5=>fin _ (s4.trans s5)⟩
end
open PySem L2 PyProof.Rows
theorem first_ex{α:Type}{p:α->Prop}:∀ {l:List α},(∃ x∈l,p x)->∃ (i:Nat) (h:i<l.length),p l[i]/\∀ y∈l.take i,¬ p y
 |[],⟨_,h,_⟩=>nomatch h
 |a :: l,⟨x,hx,px⟩=>by
  by_cases pa:p a
  ·exact⟨0,Nat.zero_lt_succ _,pa,fun y hy=>nomatch hy⟩
  ·have hx:=(zT.mp hx).resolve_left fun e=>pa (e▸px)
   obtain⟨i,hi,h1,h2⟩:=first_ex ⟨x,hx,px⟩
   refine⟨i+1,Nat.succ_lt_succ hi,h1,fun y hy=>?_⟩
   have hy:y∈a :: l.take i:=hy
   rcases zT.mp hy with e | e
   ·rw[e];exact pa
   ·exact h2 y e
theorem Ev.sound{E:Hp}{ties:List Tie}{prs:List (Int×Int)}{n:Nat}{v:Int}(ok:∀ x∈ties,TieOk n x)(nn:∀ x∈ties,0<=x.2.2){X:Tie->Bool}(pr:Prt ties prs X):∀ {d:Nat}{cts:List Tie}{kp:List (Int×Int)}{tr:V}{f:Int->Bool},Ev E ties prs d cts kp tr f->f v=true->Cts ties cts->Cov ties cts kp X->v<=wX ties X:=by
 intro d
 induction d with
 |zero=>exact fun h=>h.elim
 |succ d ih =>
  intro cts kp tr f h hf C c
  rcases h with h | h | h | h
  ·cases h with
   |mk a e g w =>
    rw[w]at hf
    exact Int.le_trans (of_decide_eq_true hf) (c.le C nn)
  ·cases h with
   |mk a e g w=>rw[w]at hf;cases hf
  ·cases h with
   |mk a l b num x y way e g gl nm pth wl le w =>
    obtain⟨t,_,_,h⟩:=pth.hit ok c pr (List.mem_of_getElem? nm.2)
    have h:prOf t∈loo way kp:=h
    rw[le]at h
    cases h
  ·cases h with
   |mk a l ta b num x y way trs fs e g gl gt nm pth wl ne tl fl hen w =>
    rw[w]at hf
    obtain⟨t,tm,xt,h⟩:=pth.hit ok c pr (List.mem_of_getElem? nm.2)
    obtain⟨i,hi,⟨u,um,xu,eu⟩,no⟩:=first_ex (p:=fun q=>∃ u∈ties,X u=true/\prOf u=q) (l:=loo way kp) ⟨prOf t,h,t,tm,xt,rfl⟩
    obtain⟨_,_,_,nc⟩:=tie_in ok pth _ (mem_loo.mp (zU hi)).1
    rename_i u2 _ eu2
    have nu:u∉cts:=fun z=>nc (by rw[pr_pair (eu2.trans eu.symm)];exact zAA.mpr ⟨u,z,rfl⟩)
    have ev:=hen i u (trs[i]'(by lia)) (fs[i]'(by lia)) um (by rw[zF hi,eu]) (zF (by lia)) (zF (by lia))
    refine ih ev (zBI.mp hf _ (zU _)) (C.add um nu) (c.add xu fun w hw hl=>?_)
    cases ew:X w with
    |false=>rfl
    |true=>exact absurd ⟨w,hw,ew,rfl⟩ (no _ hl)
theorem pick{α:Type}{p:Nat->α->Prop}:∀ {n:Nat},(∀ i,i<n->∃ g,p i g)->∃ fs:List α,fs.length=n/\∀ i g,fs[i]?=some g->p i g
 | 0,_=>⟨[],rfl,fun i g h=>by cases h⟩
 |n+1,h=>by
  obtain⟨fs,l,hp⟩:=pick fun i hi=>h i (Nat.lt_succ_of_lt hi)
  obtain⟨g,hg⟩:=h n (zBH n)
  refine⟨fs++[g],by rw[zK,l];rfl,fun i g' e=>?_⟩
  by_cases z:i<n
  ·rw[zBF (by lia)]at e
   exact hp i g' e
  ·rw[zAX (by lia),l]at e
   have zi:i=n:=by
    have:=(zE.mp e).1
    rw[zX]at this
    lia
   subst zi
   rw[Nat.sub_self]at e
   injection e with e
   exact e▸hg
theorem End.ev{E:Hp}{ties:List Tie}{prs:List (Int×Int)}{n:Nat}{v:Int}(ok:∀ x∈ties,TieOk n x)(srt:ties.Pairwise tieLt):∀ {d:Nat}{cts:List Tie}{kp:List (Int×Int)}{tr:V},End E ties prs v d cts kp tr->∃ f,Ev E ties prs d cts kp tr f:=by
 intro d
 induction d with
 |zero=>exact fun h=>h.elim
 |succ d ih =>
  intro cts kp tr h
  rcases h with⟨a,e,g,_⟩ |⟨a,l,ta,num,x,y,way,trs,e,g,gl,gt,nm,pth,wl,ne,tl,h⟩
  ·exact⟨_,.inl ⟨a,e,g,rfl⟩⟩
  obtain⟨fs,fl,hp⟩:=pick (n:=trs.length) (p:=fun i g=>∀ (t:Tie) (r:V),t∈ties->(loo way kp)[i]?=some (prOf t)->trs[i]?=some r->Ev E ties prs d (cts++[t]) (kp++(loo way kp).take i) r g) fun i hi=>by
   have hl:i <(loo way kp).length:=by lia
   obtain⟨t,tm,et,_⟩:=tie_in ok pth _ (mem_loo.mp (zU hl)).1
   have e1:(loo way kp)[i]?=some (prOf t):=by rw[zF hl,et]
   obtain⟨g,hg⟩:=ih (h i t trs[i] tm e1 (zF hi))
   refine⟨g,fun t' r tm' e2 er=>?_⟩
   rw[e1]at e2
   injection e2 with e2
   rw[zF hi]at er
   injection er with er
   rw[<- pair_inj srt tm tm' (pr_pair e2),<- er]
   exact hg
  exact⟨_,.inr (.inr (.inr ⟨a,l,ta,false,num,x,y,way,trs,fs,e,g,gl,gt,nm,pth,wl,ne,tl,fl,fun i t r g' ht hl hr hg=>hp i g' hg t r ht hl hr,rfl⟩))⟩
end K63
namespace L2
open PySem PySem.W PyProof.Rows Srt
inductive rEqEI(x:V)(y:V)(H:Hp)(Q:VK):Prop where
 |mk (p q:Addr) (xs:List V) (h1:x = .ref p) (h2:y = .ref q) (h3:H p=some (.lst xs)) (h4:H q=some (.lst [])) (h5:Q (.bl xs.isEmpty) H)
noncomputable def rEqE:R2:=fun x y H Q=>rEqEI x y H Q
theorem op_eqE{X:Cx}(hu:X.A.units<cLine):OpR X (compareOp .Eq) rEqE:=by
 intro pins s σ H x y v u Q I rx ry h
 obtain⟨p,q',xs,rfl,rfl,h1,h2,q⟩:=h
 cases rx
 cases ry
 obtain⟨its,r,pl,hz⟩:=I.list (SqL.of (K:=X.K) h1)
 obtain⟨its',r',pl',hz'⟩:=I.list (SqL.of (K:=X.K) h2)
 have l1:=r.length
 have l2:=r'.length
 rw[zBP]at l2
 by_cases e:xs=[]
 ·subst e
  rw[zBP]at l1
  refine SeqAt.RcAt.lists pl.isList pl'.isList (by simp only[zG];lia) hu (e:=fun _=>true) (fun j h1 h2=>by simp only[zG]at h1;lia) _ _ _ _ ?_
  rw[zG,<- l1]
  exact⟨.bl _,H,I,rfl,q⟩
 ·have l0:0<xs.length:=zBA.mpr e
  refine SeqAt.RcAt.lists_lengths pl.isList pl'.isList (by simp only[zG,bne_iff_ne];lia) hu _ _ _ _ ?_
  rw[show xs.isEmpty=false by cases xs with | nil=>exact absurd rfl e | cons _ _=>rfl]at q
  exact⟨.bl _,H,I,rfl,q⟩
inductive rNeEI(x:V)(y:V)(H:Hp)(Q:VK):Prop where
 |mk (p q:Addr) (xs:List V) (h1:x = .ref p) (h2:y = .ref q) (h3:H p=some (.lst xs)) (h4:H q=some (.lst [])) (h5:Q (.bl (!xs.isEmpty)) H)
noncomputable def rNeE:R2:=fun x y H Q=>rNeEI x y H Q
theorem op_neE{X:Cx}(hu:X.A.units<cLine):OpR X (compareOp .NotEq) rNeE:=by
 intro pins s σ H x y v u Q I rx ry h
 obtain⟨p,q',xs,rfl,rfl,h1,h2,q⟩:=h
 cases rx
 cases ry
 obtain⟨its,r,pl,hz⟩:=I.list (SqL.of (K:=X.K) h1)
 obtain⟨its',r',pl',hz'⟩:=I.list (SqL.of (K:=X.K) h2)
 have l1:=r.length
 have l2:=r'.length
 rw[zBP]at l2
 by_cases e:xs=[]
 ·subst e
  rw[zBP]at l1
  refine SeqAt.RcNeAt.lists pl.isList pl'.isList (by simp only[zG];lia) hu (e:=fun _=>true) (fun j h1 h2=>by simp only[zG]at h1;lia) _ _ _ _ ?_
  rw[zG,<- l1]
  exact⟨.bl _,H,I,rfl,q⟩
 ·have l0:0<xs.length:=zBA.mpr e
  refine SeqAt.RcNeAt.lists_lengths pl.isList pl'.isList (by simp only[zG,bne_iff_ne];lia) hu _ _ _ _ ?_
  rw[show xs.isEmpty=false by cases xs with | nil=>exact absurd rfl e | cons _ _=>rfl]at q
  exact⟨.bl _,H,I,rfl,q⟩
end L2
namespace K63
open PySem L2 PyProof.Rows
noncomputable abbrev Pr:=Int×Int
noncomputable def ksOf(c:List Pr):List (List Int):=c.map fun t=>[t.1,t.2]
noncomputable def PrsAt(H:Hp)(a:Addr)(ts:List Pr):Prop:=∃ bs:List Addr,H a=some (.lst (bs.map V.ref))/\Paired (PrAt H) bs ts
theorem prs_tups{H:Hp}{as:List Addr}{ts:List Pr}(h:Paired (PrAt H) as ts):TupsAt H as (ksOf ts):=prs_tup h
theorem dec_ks{p:Pr}{C:List Pr}:decide ([p.1,p.2]∈ksOf C)=decide (p∈C):=decide_eq_decide.mpr mem_prs
noncomputable def wgh(ties:List Tie)(C:List Pr):Int:=((ties.filter fun x=>decide ((x.1,x.2.1)∈C)).map fun x=>x.2.2).sum
theorem pair_prs{H:Hp}{as:List Addr}{ts:List Tie}(h:PairT H as ts):Paired (PrAt H) as (ts.map prOf):=by
 induction h with
 |nil=>exact .nil
 |cons r _ ih=>exact .cons r ih
theorem wgh_eq{ties bts:List Tie}(srt:ties.Pairwise tieLt)(C:Cts ties bts):wgh ties (bts.map prOf)=wt bts:=by
 have nd:=srt_nd srt
 have e:(ties.filter fun x=>decide ((x.1,x.2.1)∈bts.map prOf)).Perm bts:=by
  refine(List.perm_ext_iff_of_nodup (nd.filter _) C.nd).mpr fun x=>?_
  rw[zAL]
  refine⟨fun⟨hx,h⟩=>?_,fun hx=>⟨C.sub x hx,decide_eq_true (zAA.mpr ⟨x,hx,rfl⟩)⟩⟩
  obtain⟨y,hy,e⟩:=zAA.mp (of_decide_eq_true h)
  exact pair_inj srt (C.sub y hy) hx (pr_pair e)▸hy
 exact wt_perm e
inductive spWeI(vs:List V)(H:Hp)(Q:VK):Prop where
 |mk (t c:Addr) (n:Nat) (ties:List Tie) (C:List Pr) (h1:vs=[.ref t,.ref c]) (h2:WebAt H t n ties) (h3:PrsAt H c C) (h4:∀ (H':Hp),Same H H'->Q (.int (wgh ties C)) H')
noncomputable def spWe:Sp:=fun vs H Q _=>spWeI vs H Q
inductive spLtI(vs:List V)(H:Hp)(Q:VK):Prop where
 |mk (w_:Addr) (way:List Int) (h1:vs=[.ref w_]) (h2:H w_=some (.lst (way.map V.int))) (h3:way.length<=1000) (h4:∀ (l:Addr) (as:List Addr) (H':Hp),H' l=some (.lst (as.map V.ref))->Paired (PrAt H') as (alg way)->Same H H'->Q (.ref l) H')
noncomputable def spLt:Sp:=fun vs H Q _=>spLtI vs H Q
section
variable{P:Program}{w:World}{K:PySem.W.Frag}{mg:Str->Option Value}{base:Heap}
noncomputable abbrev nWe:List Str:=["_law_web_here","_law_cut"]
theorem scWe:FnScope nWe ["_law_web_here","_law_cut"] (defScope sWeigh):=⟨rfl,rfl,rfl,by decide +kernel,rfl,by decide +kernel,by decide +kernel⟩
theorem csWe1:CompScope ["_law_a","_law_b","_law_weight_here","_law_cut"] [none,none,none,some 1] nWe (defScope sWeigh) (scO [(".0",.local),("_law_a",.local),("_law_b",.local),("_law_weight_here",.local),("_law_cut",.free)]):=⟨rfl,by decide +kernel,by decide +kernel,by decide +kernel,rfl,capB_ok (by decide +kernel)⟩
theorem ndWe1:(["_law_a","_law_b","_law_weight_here","_law_cut"]:List Str).Nodup:=by decide +kernel
theorem ok_we{f:Addr}{fd:FuncData}(F:Fun K "_law_weigh" "_law_weigh" sWeigh f fd)(T:Txt mg):FnOk P w K mg base CX0 1 f fd ["_law_web_here","_law_cut"] spWe:=by
 refine F.ok scWe (fun vs H Q E h=>?_) (fun cdv A outer s H vs Q E hr h=>?_)
 ·obtain⟨t,c,n,ties,C,rfl,_⟩:=h
  rfl
 ·obtain⟨t,c,n,ties,C,rfl,W,⟨as,gc,pc⟩,fin⟩:=h
  obtain⟨⟨ts,bs,h1,h2,h3⟩,len⟩:=id W
  have h3l:bs.length=ties.length:=h3.length
  have hu:=hu_of hr
  have TC:=prs_tups pc
  refine⟨_,(pss_one (ps_ret (pe_callB (call_sumH rfl) (by rfl) T.sum boot_sum (@pa_comp _ _ _ _ _ _ _ _ (pe_comp rfl csWe1 (pi_tup (@pe_ix _ _ _ _ _ _ _ ix_tupH (pv 0) pe_int (fun _ _=>rfl))) (fun C s H fp=>(pg_tupK K rfl (n:=3) rfl (pgs_cons (pg_name (i:=0) ndWe1 rfl (Or.inl rfl)) (pgs_cons (pg_name (i:=1) ndWe1 rfl (Or.inl rfl)) (pgs_cons (pg_name (i:=2) ndWe1 rfl (Or.inl rfl)) pgs_nil))) rfl rfl)) (fun C s H fp=>(pf_one (pt_cmpR (op_inT hu) (@pe_tup _ _ _ _ _ (@pa_nam _ _ _ _ _ _ (pv 0) (@pa_nam _ _ _ _ _ _ (pv 1) pa_nil))) (pv 3) rfl))) (fun C s H fp=>(pv 2))) pa_nil)))),?_⟩
  refine⟨_,rfl,t,_,_,_,rfl,rfl,h1,rfl,ts,rfl,⟨_,SqT.of h2⟩,?_⟩
  refine comp_tup (K:=K) (a:=ts) (xs:=bs.map V.ref) (fun j ys G=>Same H G/\ys=(((ties.take j).filter fun x=>decide ((x.1,x.2.1)∈C)).map fun x=>x.2.2).map V.int) (by rw[zA,sizeLine_eq];lia) ⟨Same.refl _,rfl⟩ (fun j ys G _ z=>SqT.of (z.1 _ _ h2)) ?_ ?_
  ·rintro j x ys G hx ⟨sG,rfl⟩
   obtain⟨il,e⟩:=zE.mp hx
   rw[zA]at il
   rw[zR]at e
   subst e
   have it:j<ties.length:=by lia
   have hx:=sG _ _ (Paired.at h3 j il it)
   refine⟨bs[j],_,rfl,SqT.of hx,rfl,_,_,rfl,_,_,rfl,_,_,rfl,rfl,⟨rfl,trivial⟩,?_⟩
   refine⟨_,rfl,_,rfl,(by show 2<=sizeLine;decide),fun tp htp=>?_⟩
   have sT:=Same.new (o:=.tup [.int ties[j].1,.int ties[j].2.1]) htp
   have sGT:=sG.trans sT
   refine⟨_,rfl,tp,c,as,ksOf C,[ties[j].1,ties[j].2.1],rfl,rfl,upd_same,sGT _ _ gc,Paired.mapP TC (fun _ _ e=>sGT _ _ e),_,rfl,?_⟩
   rw[zL it,zBJ,zJ,zJ]
   have ed:decide ([ties[j].1,ties[j].2.1]∈ksOf C)=decide ((ties[j].1,ties[j].2.1)∈C):=dec_ks (p:=(ties[j].1,ties[j].2.1))
   rw[ed]
   refine ite2 (fun h=>?_) (fun h=>?_)
   ·have h:decide ((ties[j].1,ties[j].2.1)∈C)=true:=h
    refine⟨_,rfl,sGT,?_⟩
    rw[zAP,if_pos h]
    rfl
   ·have h:¬ decide ((ties[j].1,ties[j].2.1)∈C)=true:=h
    refine⟨sGT,?_⟩
    rw[zAP,if_neg h,List.filter_nil,List.map_nil,List.map_nil,zAU]
  rintro ys G yl ⟨sG,rfl⟩ D hD
  rw[zA,h3l,zAF]
  exact⟨D,_,rfl,upd_same,fin _ (sG.trans (Same.new hD))⟩
noncomputable abbrev nLt:List Str:=["_law_way"]
theorem scLt:FnScope nLt ["_law_way"] (defScope sTies):=⟨rfl,rfl,rfl,by decide +kernel,rfl,by decide +kernel,by decide +kernel⟩
theorem csLt1:CompScope ["_law_a","_law_b"] [none,none] nLt (defScope sTies) (scO [(".0",.local),("_law_a",.local),("_law_b",.local),("min",.globalImplicit),("max",.globalImplicit)]):=⟨rfl,by decide +kernel,by decide +kernel,by decide +kernel,rfl,capB_ok (by decide +kernel)⟩
theorem ndLt1:(["_law_a","_law_b"]:List Str).Nodup:=by decide +kernel
theorem ok_lt{f:Addr}{fd:FuncData}(F:Fun K "_law_ties" "_law_ties" sTies f fd)(T:Txt mg)(T2:Txt2 mg):FnOk P w K mg base CX0 1 f fd ["_law_way"] spLt:=by
 refine F.ok scLt (fun vs H Q E h=>?_) (fun cdv A outer s H vs Q E hr h=>?_)
 ·obtain⟨w_,way,rfl,_⟩:=h
  rfl
 ·obtain⟨w_,way,rfl,gw,wl,fin⟩:=h
  refine⟨_,(pss_one (ps_ret (pe_comp rfl csLt1 (pi_zip false false (by rfl) T2.zip (@pa_nam _ _ _ _ _ _ (pv 0) (@pa_sub _ _ _ _ _ _ _ (pe_slice sl_list (pv 0) (po_some pe_int) po_none) pa_nil))) (fun C s H fp=>(pg_tupK K rfl (n:=2) rfl (pgs_cons (pg_name (i:=0) ndLt1 rfl (Or.inl rfl)) (pgs_cons (pg_name (i:=1) ndLt1 rfl (Or.inl rfl)) pgs_nil)) rfl rfl)) (fun C s H fp=>pf_nil) (fun C s H fp=>(@pe_tup _ _ _ _ _ (@pa_call _ _ _ _ _ _ _ _ (pe_callB (call_min2 rfl) (by rfl) T.min boot_min (@pa_nam _ _ _ _ _ _ (pv 0) (@pa_nam _ _ _ _ _ _ (pv 1) pa_nil))) (@pa_call _ _ _ _ _ _ _ _ (pe_callB (call_max2 rfl) (by rfl) T.max boot_max (@pa_nam _ _ _ _ _ _ (pv 0) (@pa_nam _ _ _ _ _ _ (pv 1) pa_nil))) pa_nil))))))),?_⟩
  refine⟨_,rfl,_,rfl,_,rfl,w_,_,rfl,SqL.of gw,fun c hc=>?_⟩
  rw[cut1,<- List.map_drop]
  have sc:=Same.new (o:=.lst ((way.drop 1).map V.int)) hc
  have s2:SIs false (upd H c (.lst ((way.drop 1).map V.int))) c ((way.drop 1).map V.int):=upd_same
  have gw:SIs false H w_ (way.map V.int):=gw
  have s1:=gw.same sc
  generalize (upd H c (.lst ((way.drop 1).map V.int)))=H1 at sc s1 s2
  have mnl:min (way.map V.int).length ((way.drop 1).map V.int).length=(alg way).length:=by
   unfold alg
   rw[zA,zA,zAR]
  have all:(alg way).length<=1000:=by unfold alg;rw[zAR];lia
  refine⟨w_,c,rfl,⟨_,s1.sqB⟩,⟨_,s2.sqB⟩,?_⟩
  refine comp_zip (K:=K) (b1:=false) (b2:=false) (l1:=w_) (l2:=c) (xs:=way.map V.int) (ys:=(way.drop 1).map V.int) (fun i zs G=>Same H1 G/\∃ cs:List Addr,zs=cs.map V.ref/\Paired (PrAt G) cs ((alg way).take i)) (by rw[mnl,sizeLine_eq];lia) ⟨Same.refl _,[],rfl,.nil⟩ (fun i zs G _ z=>⟨(s1.same z.1).sqB,(s2.same z.1).sqB⟩) ?_ ?_
  ·rintro i x y zs G T' hx hy ⟨sG,cs,rfl,pc⟩ hT
   obtain⟨il,ex⟩:=zE.mp hx
   obtain⟨il',ey⟩:=zE.mp hy
   rw[zA]at il il'
   rw[zR]at ex ey
   subst ex ey
   have ia:i <(alg way).length:=by unfold alg;rw[zAR];lia
   have ea:(alg way)[i]=prT way[i] (way.drop 1)[i]:=List.getElem_zipWith (f:=prT) (l:=way) (l':=way.drop 1) (i:=i) (h:=ia)
   rw[zL ia,ea]
   generalize way[i]=u at *
   generalize (way.drop 1)[i]=v at *
   have sT:=Same.new (o:=.tup [.int u,.int v]) hT
   refine⟨T',_,rfl,SqT.of upd_same,rfl,_,_,rfl,_,_,rfl,rfl,trivial,tTru_if ?_⟩
   refine⟨_,rfl,_,rfl,_,_,rfl,_,rfl,_,rfl,_,_,rfl,(by show 2<=sizeLine;decide),fun a ha=>?_⟩
   have sa:=Same.new (o:=.tup [.int (prT u v).1,.int (prT u v).2]) ha
   exact⟨sG.trans (sT.trans sa),cs++[a],by rw[zJ];rfl,Paired.snoc (Paired.mapP pc fun _ _ h=>sa _ _ (sT _ _ h)) upd_same⟩
  ·rintro zs G _ ⟨sG,cs,rfl,pc⟩ D hD
   rw[mnl,zAF]at pc
   have sD:=Same.new (o:=.lst (cs.map V.ref)) hD
   exact fin D cs _ upd_same (Paired.mapP pc fun _ _ h=>sD _ _ h) (sc.trans (sG.trans sD))
end
open PySem L2 PyProof.Rows
noncomputable def gkv(D:List Int)(F:Int->V):List (Key×V):=D.map fun v=>(Sum.inl v,F v)
theorem gkv_val{D:List Int}{F:Int->V}{v:Int}:valV (gkv D F) (Sum.inl v)=if v∈D then some (F v)else none:=by
 induction D with
 |nil=>rfl
 |cons a D ih =>
  unfold valV gkv at *
  rw[zAB,zBO]
  by_cases e:a=v
  ·have:decide ((Sum.inl a:Key)=Sum.inl v)=true:=decide_eq_true (by rw[e])
   rw[this,if_pos (by rw[e];exact zS ..),e]
   rfl
  ·have:decide ((Sum.inl a:Key)=Sum.inl v)=false:=decide_eq_false (fun z=>e (by injection z))
   rw[this]
   show Option.map _ _=_
   rw[ih]
   by_cases z:v∈D
   ·rw[if_pos z,if_pos (zQ _ z)]
   ·rw[if_neg z,if_neg (fun y=>by
     rcases zT.mp y with y | y
     ·exact e y.symm
     ·exact z y)]
noncomputable def bk(s:Int)(par:Int->Int)(u:Int):V:=if u=s then .non else .int (par u)
noncomputable def pt1(par:Int->Int)(v h:Int)(u:Int):Int:=if u=v then h else par u
theorem bk_put{D:List Int}{s v h:Int}{par:Int->Int}(hv:v∉D)(hs:s∈D):putK (gkv D (bk s par)) (Sum.inl v) (.int h)=gkv (D++[v]) (bk s (pt1 par v h)):=by
 have e:((gkv D (bk s par)).any fun x=>decide (x.1=(Sum.inl v:Key)))=false:=by
  rw[List.any_eq_false]
  intro x hx z
  obtain⟨u,hu,rfl⟩:=zAA.mp hx
  have:=of_decide_eq_true z
  injection this with this
  exact hv (this▸hu)
 unfold putK
 rw[e,if_neg zN]
 unfold gkv
 rw[zJ]
 congr 1
 ·refine zBS fun u hu=>?_
  have ne:u≠v:=fun z=>hv (z▸hu)
  unfold bk pt1
  rw[if_neg ne]
 ·have ne:v≠s:=fun z=>hv (z▸hs)
  show _=[(Sum.inl v,bk s (pt1 par v h) v)]
  unfold bk pt1
  rw[if_neg ne,if_pos rfl]
structure Wk(n:Nat)(T:List Tie)(s:Int)(Ks Wt:List Int)(par:Int->Int)(f:Int->List Int):Prop where
 nd:Ks.Nodup
 rg:∀ v∈Ks,0<=v/\v<n
 st:s∈Ks
 fs:f s=[s]
 pth:∀ v∈Ks,Pth T s v (f v)
 sim:∀ v∈Ks,(f v).Nodup/\∀ u∈f v,u∈Ks
 up:∀ v∈Ks,v≠s->par v∈Ks/\f v=f (par v)++[v]
 wt:∀ v∈Wt,v∈Ks
 few:Wt.length<=Ks.length
theorem up_mem{n:Nat}{x:Int}:x∈upto n↔0<=x/\x<n:=by
 unfold upto
 rw[zAA]
 constructor
 ·rintro⟨i,h,rfl⟩
  have:=zAW.mp h
  lia
 ·intro⟨h0,h1⟩
  exact⟨x.toNat,zAW.mpr (by omega),by lia⟩
section
variable{n:Nat}{T:List Tie}{s:Int}{Ks Wt:List Int}{par:Int->Int}{f:Int->List Int}
theorem Wk.le(w:Wk n T s Ks Wt par f):Ks.length<=n:=by
 have:=nodup_le (m:=upto n) w.nd fun x hx=>up_mem.mpr (w.rg x hx)
 rwa [upto_length]at this
theorem Wk.len(w:Wk n T s Ks Wt par f){v:Int}(hv:v∈Ks):(f v).length<=n:=by
 have:=nodup_le (m:=upto n) (w.sim v hv).1 fun x hx=>up_mem.mpr (w.rg x ((w.sim v hv).2 x hx))
 rwa [upto_length]at this
theorem Wk.start(s0:0<=s)(s1:s<n):Wk n T s [s] [s] (fun _=>s) (fun _=>[s]) :=
 ⟨zAK _ _,fun v hv=>by rw[zD.mp hv];exact⟨s0,s1⟩,zD.mpr rfl,rfl,fun v hv=>by rw[zD.mp hv];exact .one,fun v hv=>⟨zAK _ _,fun u hu=>hu⟩,fun v hv ne=>absurd (zD.mp hv) ne,fun v hv=>hv,zI _⟩
theorem Wk.pop(w:Wk n T s Ks Wt par f){i:Nat}(hi:i<Wt.length):Wk n T s Ks (Wt.eraseIdx i) par f :=
 ⟨w.nd,w.rg,w.st,w.fs,w.pth,w.sim,w.up,fun v hv=>w.wt v (List.mem_of_mem_eraseIdx hv),by have:=w.few;rw[List.length_eraseIdx];split <;> lia⟩
theorem Wk.put(w:Wk n T s Ks Wt par f){h v wg:Int}(hh:h∈Ks)(hv:v∉Ks)(v0:0<=v/\v<n)(hb:(v,wg)∈besideOf T h):Wk n T s (Ks++[v]) (Wt++[v]) (pt1 par v h) (fun u=>if u=v then f h++[v]else f u):=by
 have old:∀ u∈Ks,(if u=v then f h++[v]else f u)=f u:=fun u hu=>if_neg fun(z:u=v)=>hv (z▸hu)
 have new:(if v=v then f h++[v]else f v)=f h++[v]:=if_pos rfl
 have cs:∀ {p:Int->Prop},(∀ u∈Ks,p u)->p v->∀ u∈Ks++[v],p u:=fun h1 h2 u hu=>(zO.mp hu).elim (h1 u) fun z=>by rw[zD.mp z];exact h2
 refine⟨zAV.mpr ⟨w.nd,zAK _ _,fun a ha b hb z=>hv (by rw[<- zD.mp hb,<- z];exact ha)⟩,cs w.rg v0,zV _ w.st,?_,cs (fun u hu=>?_) ?_,cs (fun u hu=>?_) ?_,cs (fun u hu ne=>?_) (fun _=>?_),fun u hu=>?_,?_⟩
 ·show(if s=v then _ else f s)=_
  rw[old s w.st];exact w.fs
 ·show Pth T s u (if u=v then _ else f u)
  rw[old u hu];exact w.pth u hu
 ·show Pth T s v (if v=v then _ else f v)
  rw[new];exact .more (w.pth h hh) hb
 ·show(if u=v then _ else f u).Nodup/\∀ x∈(if u=v then _ else f u),_
  rw[old u hu]
  exact⟨(w.sim u hu).1,fun x hx=>zV _ ((w.sim u hu).2 x hx)⟩
 ·show(if v=v then _ else f v).Nodup/\∀ x∈(if v=v then _ else f v),_
  rw[new]
  refine⟨zAV.mpr ⟨(w.sim h hh).1,zAK _ _,fun a ha b hb z=>hv (by rw[<- zD.mp hb,<- z];exact(w.sim h hh).2 a ha)⟩,fun x hx=>?_⟩
  rcases zO.mp hx with z | z
  ·exact zV _ ((w.sim h hh).2 x z)
  ·exact zM _ z
 ·obtain⟨h1,h2⟩:=w.up u hu ne
  have e:pt1 par v h u=par u:=if_neg fun(z:u=v)=>hv (z▸hu)
  show pt1 par v h u∈_/\(if u=v then _ else f u)=(if pt1 par v h u=v then _ else f (pt1 par v h u))++[u]
  rw[e,old u hu,old _ h1]
  exact⟨zV _ h1,h2⟩
 ·have e:pt1 par v h v=h:=if_pos rfl
  show pt1 par v h v∈_/\(if v=v then _ else f v)=(if pt1 par v h v=v then _ else f (pt1 par v h v))++[v]
  rw[e,new,old _ hh]
  exact⟨zV _ hh,rfl⟩
 ·rcases zO.mp hu with z | z
  ·exact zV _ (w.wt u z)
  ·exact zM _ z
 ·have:=w.few
  rw[zK,zK]
  lia
theorem Wk.all(w:Wk n T s Ks [] par f)(ok:∀ x∈T,TieOk n x)(cl:∀ u∈Ks,∀ x∈T,(x.1=u->x.2.1∈Ks)/\(x.2.1=u->x.1∈Ks)){v:Int}(r:Rch T s v):v∈Ks:=by
 have key:∀ a b:Int,Rch T a b->a∈Ks->b∈Ks:=fun a b r=>by
  induction r with
  |refl=>exact id
  | @up a b c wg m _ ih=>exact fun h=>ih ((cl a h (a,b,wg) m).1 rfl)
  | @dn a b c wg m _ ih=>exact fun h=>ih ((cl b h (a,b,wg) m).2 rfl)
 exact key s v r w.st
end
inductive spSoI(vs:List V)(H:Hp)(Q:VK):Prop where
 |mk (p t c pa:Addr) (n N:Nat) (ties cts:List Tie) (cas:List Addr) (x y:Int) (h1:vs=[.ref p,.ref t,.ref c,.ref pa]) (h2:BoxAt H p N) (h3:N+100<2 ^ 40) (h4:WebAt H t n ties) (h5:(∀ x∈ties,TieOk n x)) (h6:n<=8) (h7:H c=some (.lst (cas.map V.ref))) (h8:PairT H cas cts) (h9:cts.length<=100) (h10:H pa=some (.tup [.int x,.int y])) (h11:(0<=x/\x<n)) (h12:(0<=y/\y<n)) (h13:(¬ Rch (rest ties (cts.map pairOf)) x y->∀ H',BoxAt H' p (N+8)->Kept p H H'->Q .non H')) (h14:∀ (l:Addr) (way:List Int) (H':Hp),H l=none->H' l=some (.lst (way.map V.int))->Pth (rest ties (cts.map pairOf)) x y way->way.length<=n->way.Nodup->BoxAt H' p (N+8)->Kept p H H'->Q (.ref l) H')
noncomputable def spSo:Sp:=fun vs H Q _=>spSoI vs H Q
theorem map_eraseI:∀ (l:List Int) (k:Nat),(l.map V.int).eraseIdx k=(l.eraseIdx k).map V.int
 |[],k=>by cases k <;> rfl
 |x :: r,0=>rfl
 |x :: r,k+1=>by
  show V.int x :: (r.map V.int).eraseIdx k=V.int x :: (r.eraseIdx k).map V.int
  rw[map_eraseI r k]
theorem mem_er:∀ {l:List Int}{i:Nat}{u:Int} (h:i<l.length),u∈l->u=l[i]\/u∈l.eraseIdx i
 |x :: r,0,u,_,hu=>(zT.mp hu).imp id id
 |x :: r,i+1,u,h,hu=>by
  rcases zT.mp hu with e | e
  ·exact .inr (e▸zS)
  ·rcases mem_er (i:=i) (Nat.lt_of_succ_lt_succ h) e with z | z
   ·exact .inl z
   ·exact .inr (zQ _ z)
theorem ref_ne{H:Hp}{p c:Addr}{N:Nat}{cas:List Addr}(B:BoxAt H p N)(h:H c=some (.lst (cas.map V.ref))):c≠p:=fun z=>by
 obtain⟨a,b,e,g,_⟩:=B
 rw[z,g]at h
 injection h with h
 injection h with h
 cases cas with
 |nil=>cases h
 |cons x r=>injection h with h _;cases h
theorem tup_ne{H:Hp}{p c:Addr}{N:Nat}{xs:List V}(B:BoxAt H p N)(h:H c=some (.tup xs)):c≠p:=fun z=>by
 obtain⟨a,b,e,g,_⟩:=B
 rw[z,g]at h
 cases h
structure SoW(H:Hp)(p d wl:Addr)(n N e:Nat)(T:List Tie)(x:Int)(Ks Wt:List Int)(par:Int->Int)(f:Int->List Int)(G:Hp):Prop where
 k:Kept p H G
 b:BoxAt G p (N+e)
 gd:G d=some (.dK (gkv Ks (bk x par)))
 gw:G wl=some (.lst (Wt.map V.int))
 w:Wk n T x Ks Wt par f
 e:Ks.length=Wt.length+e
noncomputable def Cls(T:List Tie)(Ks:List Int)(u:Int):Prop:=∀ z∈T,(z.1=u->z.2.1∈Ks)/\(z.2.1=u->z.1∈Ks)
theorem Cls.more{T:List Tie}{Ks:List Int}{u v:Int}(c:Cls T Ks u):Cls T (Ks++[v]) u:=fun z hz=>⟨fun e=>zV _ ((c z hz).1 e),fun e=>zV _ ((c z hz).2 e)⟩
noncomputable def SoI(H:Hp)(p t c pa d wl:Addr)(n N:Nat)(T:List Tie)(x:Int)(m:Nat)(σ:L2.St)(G:Hp):Prop:=Ex9 fun(Ks Wt:List Int) (par:Int->Int) (f:Int->List Int) (e:Nat) (v6 v7 v8 v9:Option V)=>m=2 * (n-Ks.length)+Wt.length/\σ=[some (.ref p),some (.ref t),some (.ref c),some (.ref pa),some (.ref d),some (.ref wl),v6,v7,v8,v9,none]/\SoW H p d wl n N e T x Ks Wt par f G/\∀ u∈Ks,u∉Wt->Cls T Ks u
theorem SoW.grow{H G G':Hp}{p d wl:Addr}{n N e:Nat}{T:List Tie}{x:Int}{Ks Wt:List Int}{par:Int->Int}{f:Int->List Int}(S:SoW H p d wl n N e T x Ks Wt par f G)(s:Same G G'):SoW H p d wl n N e T x Ks Wt par f G':=⟨S.k.trans fun b o _ h=>s b o h,S.b.same s,s _ _ S.gd,s _ _ S.gw,S.w,S.e⟩
section
variable{P:Program}{w:World}{K:PySem.W.Frag}{mg:Str->Option Value}{base:Heap}
noncomputable abbrev nSo:List Str:=["_law_box_here","_law_web_here","_law_cut","_law_pair","_law_back","_law_waiting","_law_here","_law_a","_law_b","_law_weight_here","_law_way"]
theorem scSo:FnScope nSo ["_law_box_here","_law_web_here","_law_cut","_law_pair"] (defScope sSomeWay):=⟨rfl,rfl,rfl,by decide +kernel,rfl,by decide +kernel,by decide +kernel⟩
theorem ok_so{f g:Addr}{fd gd:FuncData}(F:Fun K "_law_some_way" "_law_some_way" sSomeWay f fd)(T:Txt mg)(TK:TakeF P w K mg base g gd):FnOk P w K mg base CX0 2 f fd ["_law_box_here","_law_web_here","_law_cut","_law_pair"] spSo:=by
 refine F.ok scSo (fun vs H Q E h=>?_) (fun cdv A outer s H vs Q E hr h=>?_)
 ·obtain⟨p,t,c,pa,n,N,ties,cts,cas,x,y,rfl,_⟩:=h
  rfl
 ·obtain⟨p,t,c,pa,n,N,ties,cts,cas,x,y,rfl,B,hN,W,ok,n8,gc,pc,c100,gp,x0,y0,q0,q1⟩:=h
  have hu:=hu_of hr
  have hu0:_<cLine:=hr.units0
  refine⟨_,(pss_cons (ps_set (i:=4) scSo.nd rfl (Or.inl rfl) (@pe_dispK _ _ _ _ _ _ hu0 (@pe_ix _ _ _ _ _ _ _ ix_tupH (pv 3) pe_int (fun _ _=>rfl)) pe_non))
   (pss_cons (ps_set (i:=5) scSo.nd rfl (Or.inl rfl) (@pe_lst _ _ _ _ (@pa_sub _ _ _ _ _ _ _ (@pe_ix _ _ _ _ _ _ _ ix_tupH (pv 3) pe_int (fun _ _=>rfl)) pa_nil)))
   (pss_cons (ps_while PassesOwn.never (pt_cmpR (op_neE hu0) (pv 5) (@pe_lst _ _ _ _ pa_nil) (nomark _)) (pss_cons (ps_set (i:=6) scSo.nd rfl (Or.inl rfl) (pe_bmH PySem.F.slot_list_pop PySem.F.type_list_pop mt_popAt (pv 5) (@pa_call _ _ _ _ _ _ _ _ (pe_call TK.ok hr rfl TK.mg TK.kp TK.bd .nil pass0 (@pa_nam _ _ _ _ _ _ (pv 0) (@pa_call _ _ _ _ _ _ _ _ (pe_callB call_lenH (by rfl) T.len PySem.boot_len (@pa_nam _ _ _ _ _ _ (pv 5) pa_nil)) pa_nil))) pa_nil)))
   (pss_one (ps_for PassesOwn.never rfl (pi_tup (@pe_ix _ _ _ _ _ _ _ ix_tupH (pv 1) pe_int (fun _ _=>rfl))) (pg_tup (n:=3) rfl (pgs_cons (pg_name (i:=7) scSo.nd rfl (Or.inl rfl)) (pgs_cons (pg_name (i:=8) scSo.nd rfl (Or.inl rfl)) (pgs_cons (pg_name (i:=9) scSo.nd rfl (Or.inl rfl)) pgs_nil))))
   (pss_one (ps_if (PW.pt (pw_and (pt_cmpR (op_inQ true) (pv 6) (@pe_tup _ _ _ _ _ (@pa_nam _ _ _ _ _ _ (pv 7) (@pa_nam _ _ _ _ _ _ (pv 8) pa_nil))) rfl) (pw_and (pt_cmpR (op_notInT hu) (@pe_tup _ _ _ _ _ (@pa_nam _ _ _ _ _ _ (pv 7) (@pa_nam _ _ _ _ _ _ (pv 8) pa_nil))) (pv 2) rfl) (pw_and1 (pt_cmp (pc_dnotin hu (pe_op op_sub (pe_op op_add (pv 7) (pv 8)) (pv 6)) (pv 4))))))) (pss_cons (ps_dput hu (pv 4) (pe_op op_sub (pe_op op_add (pv 7) (pv 8)) (pv 6)) (pv 6) rfl)
   (pss_one (ps_expr (pe_bmH PySem.F.slot_list_append PySem.F.type_list_append mt_append (pv 5) (@pa_bin _ _ _ _ _ _ _ _ (pe_op op_sub (pe_op op_add (pv 7) (pv 8)) (pv 6)) pa_nil))))) pss_nil))))))
   (pss_cons (ps_if (pt_cmp (pc_dnotin hu (@pe_ix _ _ _ _ _ _ _ ix_tupH (pv 3) pe_int (fun _ _=>rfl)) (pv 4))) (pss_one (ps_ret pe_non)) pss_nil)
   (pss_cons (ps_set (i:=10) scSo.nd rfl (Or.inl rfl) (@pe_lst _ _ _ _ (@pa_sub _ _ _ _ _ _ _ (@pe_ix _ _ _ _ _ _ _ ix_tupH (pv 3) pe_int (fun _ _=>rfl)) pa_nil)))
   (pss_cons (ps_while PassesOwn.never (pt_cmp (pc_notN (pe_dget hu (pv 4) (@pe_ix _ _ _ _ _ _ _ ix_listH (pv 10) (pe_un un_neg pe_int) (fun _ _=>rfl)) (fun _ _=>rfl)))) (pss_one (ps_expr (pe_bmH PySem.F.slot_list_append PySem.F.type_list_append mt_append (pv 10) (@pa_sub _ _ _ _ _ _ _ (pe_dget hu (pv 4) (@pe_ix _ _ _ _ _ _ _ ix_listH (pv 10) (pe_un un_neg pe_int) (fun _ _=>rfl)) (fun _ _=>rfl)) pa_nil)))))
   (pss_one (ps_ret (pe_rev (pv 10) (pe_un un_neg pe_int)))))))))),?_⟩
  obtain⟨⟨ts,bs,h1,h2,h3⟩,len⟩:=id W
  have h3l:bs.length=ties.length:=h3.length
  generalize eT:rest ties (cts.map pairOf)=T at *
  have okT:∀ x∈T,TieOk n x:=fun x hx=>ok x (mem_rest.mp (eT▸hx)).1
  have cp:=ref_ne B gc
  have pp:=tup_ne B gp
  have tp:=tup_ne B h1
  have tsp:=tup_ne B h2
  refine fun d hd=>⟨_,rfl,pa,_,_,_,rfl,rfl,Same.new hd _ _ gp,at0,_,DPut.k (k:=Sum.inl x) upd_same (by rw[sizeLine_eq];decide),?_⟩
  have sd:Same H (upd (upd H d (.dK [])) d (.dK (putK [] (Sum.inl x) .non))):=same_put (Same.new hd) hd
  have gd:(upd (upd H d (.dK [])) d (.dK (putK [] (Sum.inl x) .non))) d=some (.dK (gkv [x] (bk x fun _=>x))):=by
   rw[upd_same]
   show some (HO.dK [(Sum.inl x,V.non)])=some (HO.dK [(Sum.inl x,bk x (fun _=>x) x)])
   unfold bk
   rw[if_pos rfl]
  generalize (upd (upd H d (.dK [])) d (.dK (putK [] (Sum.inl x) .non)))=H1 at sd gd
  refine⟨_,rfl,pa,_,_,_,rfl,rfl,sd _ _ gp,at0,(by show 1<=sizeLine;decide),fun wl hwl=>?_⟩
  have sw:=Same.new (o:=.lst [.int x]) hwl
  have wl0:H wl=none:=sd.free hwl
  have dwl:d≠wl:=fun e=>by rw[e,hwl]at gd;cases gd
  have dp:=B.ne hd
  have wp:=B.ne wl0
  have gw:(upd H1 wl (.lst [.int x])) wl=some (.lst (([x]:List Int).map V.int)):=upd_same
  have gd2:=sw _ _ gd
  have s2:=sd.trans sw
  generalize (upd H1 wl (.lst [.int x]))=H2 at sw gw gd2 s2
  clear sd gd hwl sw
  refine⟨SoI H p t c pa d wl n N T x,⟨_,[x],[x],fun _=>x,fun _=>[x],0,none,none,none,none,rfl,rfl,⟨fun b o _ e=>s2 b o e,B.same s2,gd2,gw,Wk.start x0.1 x0.2,rfl⟩,fun u hu hn=>absurd hu hn⟩,?_⟩
  clear s2 gd2 gw
  rintro m σ G ⟨Ks,Wt,par,f,e,v6,v7,v8,v9,rfl,rfl,S,cl⟩
  have kle:=S.w.le
  have few:=S.w.few
  have ee:=S.e
  refine⟨_,rfl,(by show 0<=sizeLine;decide),fun e0 he0=>?_⟩
  have se:=Same.new (o:=.lst []) he0
  have ge:(upd G e0 (.lst [])) e0=some (.lst []):=upd_same
  have S:=S.grow se
  generalize (upd G e0 (.lst []))=G at S se ge
  refine⟨wl,e0,Wt.map V.int,rfl,rfl,S.gw,ge,_,rfl,?_⟩
  clear se he0 ge
  by_cases we:Wt=[]
  ·subst we
   refine iteF ?_
   have sn:Same H H:=Same.refl _
   have gp1:=S.k _ _ pp gp
   have q:=DGet.k (k:=Sum.inl y) S.gd
   rw[gkv_val]at q
   by_cases hy:y∈Ks
   ·rw[if_pos hy]at q
    refine⟨_,rfl,pa,_,_,_,rfl,rfl,gp1,at1,_,rfl,d,_,rfl,q,_,rfl,iteF ?_⟩
    refine⟨_,rfl,pa,_,_,_,rfl,rfl,gp1,at1,(by show 1<=sizeLine;decide),fun yl hyl=>?_⟩
    have sy:=Same.new (o:=.lst [.int y]) hyl
    have gy:(upd G yl (.lst [.int y])) yl=some (.lst ((([]:List Int)++[y]).map V.int)):=upd_same
    have yl0:H yl=none:=S.k.free S.b hyl
    have yp:=S.b.ne hyl
    have dy:d≠yl:=fun e=>by have:=S.gd;rw[e,hyl]at this;cases this
    have S1:=S.grow sy
    generalize (upd G yl (.lst [.int y]))=G1 at sy gy S1
    have yn:=S.w.len hy
    refine⟨fun m σ G2=>∃ (r:List Int) (z:Int),m=(f z).length/\σ=[some (.ref p),some (.ref t),some (.ref c),some (.ref pa),some (.ref d),some (.ref wl),v6,v7,v8,v9,some (.ref yl)]/\Kept p H G2/\BoxAt G2 p (N+e)/\G2 d=some (.dK (gkv Ks (bk x par)))/\G2 yl=some (.lst ((r++[z]).map V.int))/\z∈Ks/\f z++r.reverse=f y,⟨_,[],y,rfl,rfl,S1.k,S1.b,S1.gd,gy,hy,zAU _⟩,?_⟩
    rintro m σ G2 ⟨r,z,rfl,rfl,k2,B2,gd2,gy2,hz,ez⟩
    have el:atI ((r++[z]).map V.int) (-1)=some (V.int z):=by
     rw[zJ]
     exact atI_last _ _
    have q2:=DGet.k (k:=Sum.inl z) gd2
    rw[gkv_val,if_pos hz]at q2
    have rl:r.length<=8:=by
     have:=congrArg List.length ez
     rw[zK,List.length_reverse]at this
     lia
    refine⟨_,rfl,_,rfl,_,rfl,yl,_,_,_,rfl,rfl,gy2,el,d,_,rfl,q2,_,rfl,?_⟩
    by_cases zx:z=x
    ·have e0:bk x par z = .non:=if_pos zx
     rw[e0]
     refine iteF ?_
     refine⟨_,rfl,_,rfl,yl,_,rfl,rfl,SqL.of gy2,fun o ho=>?_⟩
     rw[<- List.map_reverse]
     have er:(r++[z]).reverse=f y:=by
      rw[List.reverse_append,<- ez,zx,S.w.fs]
      rfl
     rw[er]
     exact q1 o (f y) _ (k2.free B2 ho) upd_same (S.w.pth y hy) yn (S.w.sim y hy).1 ((B2.put (B2.ne ho)).mono (by lia)) (k2.put (k2.free B2 ho))
    ·have e0:bk x par z = .int (par z):=if_neg zx
     rw[e0]at q2 ⊢
     refine iteT ?_
     obtain⟨u1,u2⟩:=S.w.up z hz zx
     refine⟨fun σ' G'=>∃ m',m' <(f z).length/\∃ (r:List Int) (z:Int),m'=(f z).length/\σ'=[some (.ref p),some (.ref t),some (.ref c),some (.ref pa),some (.ref d),some (.ref wl),v6,v7,v8,v9,some (.ref yl)]/\Kept p H G'/\BoxAt G' p (N+e)/\G' d=some (.dK (gkv Ks (bk x par)))/\G' yl=some (.lst ((r++[z]).map V.int))/\z∈Ks/\f z++r.reverse=f y,fun _ _ h=>h,?_⟩
     refine⟨_,rfl,⟨yl,_,rfl,gy2⟩,_,rfl,_,rfl,_,rfl,yl,_,_,_,rfl,rfl,gy2,el,d,_,rfl,q2,yl,_,_,rfl,rfl,gy2,(by rw[zA,zK,sizeLine_eq];show r.length+1+1<=_;lia),?_⟩
     refine⟨(f (par z)).length,by rw[u2,zK];exact zBH _,r++[z],par z,rfl,rfl,k2.put yl0,B2.put yp,by rw[upd_ne dy];exact gd2,by rw[upd_same,zJ (l₁:=r++[z])];rfl,u1,?_⟩
     rw[List.reverse_append,<- ez,u2]
     simp
   ·rw[if_neg hy]at q
    refine⟨_,rfl,pa,_,_,_,rfl,rfl,gp1,at1,_,rfl,d,_,rfl,q,_,rfl,iteT ?_⟩
    exact q0 (fun r=>hy (S.w.all okT (fun u hu=>cl u hu fun z=>nomatch z) r)) G (S.b.mono (by lia)) S.k
  ·have wpos:=zBA.mpr we
   have em:(!(Wt.map V.int).isEmpty)=true:=by cases Wt with | nil=>exact absurd rfl we | cons a b=>rfl
   rw[em]
   refine iteT ?_
   refine⟨fun σ' G'=>∃ m',m'<2 * (n-Ks.length)+Wt.length/\SoI H p t c pa d wl n N T x m' σ' G',fun _ _ h=>h,?_⟩
   refine⟨_,rfl,⟨wl,_,rfl,S.gw⟩,_,rfl,_,rfl,wl,_,rfl,S.gw,p,_,_,rfl,S.b,by lia,by rw[zA];lia,by rw[zA];lia,fun z G3 z0 z1 B3 k3=>?_⟩
   rw[zA]at z1
   obtain⟨i,rfl⟩:∃ i:Nat,z=(i:Int):=⟨z.toNat,by lia⟩
   have il:i<Wt.length:=by lia
   have gw3:=k3 _ _ wp S.gw
   have gd3:=k3 _ _ dp S.gd
   refine⟨wl,Wt.map V.int,(i:Int),i,V.int Wt[i],rfl,rfl,gw3,by lia,by lia,?_,by rw[zAD,zF il];rfl,?_⟩
   ·unfold seqIndex?
    rw[zA]
    simp
    lia
   rw[map_eraseI]
   have hK:=S.w.wt _ (zU il)
   have pmE:∀ u∈Wt,u=Wt[i]\/u∈Wt.eraseIdx i:=fun u hu=>mem_er il hu
   have elen:(Wt.eraseIdx i).length=Wt.length-1:=by rw[List.length_eraseIdx,if_pos il]
   have S3:SoW H p d wl n N (e+1) T x Ks (Wt.eraseIdx i) par f (upd G3 wl (.lst ((Wt.eraseIdx i).map V.int))):=⟨(S.k.trans k3).put wl0,B3.put wp,by rw[upd_ne dwl];exact gd3,upd_same,S.w.pop il,by lia⟩
   generalize (upd G3 wl (.lst ((Wt.eraseIdx i).map V.int)))=G4 at S3
   have cl3:∀ u∈Ks,u∉Wt.eraseIdx i->u≠Wt[i]->Cls T Ks u:=fun u hu hn ne=>cl u hu fun hz=>by
    rcases pmE u hz with e | e
    ·exact ne e
    ·exact hn e
   generalize Wt[i]=h at hK cl3
   generalize eW:Wt.eraseIdx i=W' at S3 cl3 elen
   clear cl S pmE gw3 gd3 k3 B3 z0 z1
   obtain⟨hh0,hh1⟩:=S3.w.rg h hK
   have hM:2 * (n-Ks.length)+W'.length<2 * (n-Ks.length)+Wt.length:=by lia
   generalize 2 * (n-Ks.length)+Wt.length=M at hM
   refine⟨_,rfl,t,_,_,_,rfl,rfl,S3.k _ _ tp h1,at1,ts,rfl,⟨_,SqT.of (S3.k _ _ tsp h2)⟩,?_⟩
   refine for_tup (K:=K) (a:=ts) (xs:=bs.map V.ref) (fun j σ G=>Ex7 fun(Ks Wt:List Int) (par:Int->Int) (f:Int->List Int) (v7 v8 v9:Option V)=>2 * (n-Ks.length)+Wt.length<M/\σ=[some (.ref p),some (.ref t),some (.ref c),some (.ref pa),some (.ref d),some (.ref wl),some (.int h),v7,v8,v9,none]/\SoW H p d wl n N (e+1) T x Ks Wt par f G/\(∀ u∈Ks,u∉Wt->u≠h->Cls T Ks u)/\h∈Ks/\∀ z∈ties.take j,pairOf z∉cts.map pairOf->(z.1=h->z.2.1∈Ks)/\(z.2.1=h->z.1∈Ks))
    ⟨Ks,W',par,f,v7,v8,v9,hM,rfl,S3,cl3,hK,fun z hz=>nomatch hz⟩ (fun j σ G _ z=>by obtain⟨_,_,_,_,_,_,_,_,_,S,_⟩:=z;exact SqT.of (S.k _ _ tsp h2)) ?_ ?_
   ·clear S3 cl3 hK hM
    rintro j xv σ G hx ⟨Ks,Wt,par,f,v7,v8,v9,hM,rfl,S,cl,hK,cj⟩
    obtain⟨jl,ex⟩:=zE.mp hx
    rw[zA]at jl
    rw[zR]at ex
    subst ex
    have jt:j<ties.length:=by lia
    have gx:=S.k _ _ (tup_ne B (Paired.at h3 j jl jt)) (Paired.at h3 j jl jt)
    have om:=zU jt
    obtain⟨o1,o2,o3,_⟩:=ok _ om
    have tk1:∀ z,z∈ties.take (j+1)->z∈ties.take j\/z=ties[j]:=fun z hz=>by
     rw[zL jt]at hz
     exact(zO.mp hz).imp id zD.mp
    have inT:pairOf ties[j]∉cts.map pairOf->ties[j]∈T:=fun h=>eT▸mem_rest.mpr ⟨om,h⟩
    generalize ties[j]=tj at *
    obtain⟨a,b,wg⟩:=tj
    have o1:0<=a:=o1
    have o2:a<b:=o2
    have o3:b<n:=o3
    have gx:G bs[j]=some (.tup [.int a,.int b,.int wg]):=gx
    refine⟨bs[j],_,rfl,SqT.of gx,rfl,_,_,rfl,_,_,rfl,_,_,rfl,rfl,?_⟩
    refine⟨_,rfl,_,rfl,_,rfl,(by show 2<=sizeLine;decide),fun t1 ht1=>⟨t1,[.int a,.int b],rfl,upd_same,rfl,rfl,_,rfl,?_⟩⟩
    have st1:=Same.new (o:=.tup [.int a,.int b]) ht1
    have S1:=S.grow st1
    generalize (upd G t1 (.tup [.int a,.int b]))=G1 at S1
    have mi:inV (.int h) [.int a,.int b]=true↔h∈[a,b]:=by rw[show [V.int a,V.int b]=[a,b].map V.int from rfl,inV_ints,List.contains_iff_mem]
    refine ite2 (fun hin=>?_) (fun hin=>?_)
    ·have hin:=mi.mp hin
     refine⟨_,rfl,_,rfl,(by show 2<=sizeLine;decide),fun t2 ht2=>?_⟩
     have st2:=Same.new (o:=.tup [.int a,.int b]) ht2
     have S2:=S1.grow st2
     refine⟨_,rfl,t2,c,cas,cts.map pairOf,[a,b],rfl,rfl,upd_same,S2.k _ _ cp gc,Paired.mapP (pair_tups pc) (fun _ _ e=>S2.k _ _ (tup_ne B e) e),_,rfl,?_⟩
     generalize (upd G1 t2 (.tup [.int a,.int b]))=G2 at S2
     refine ite2 (fun hc=>?_) (fun hc=>?_)
     ·have hc:(!decide ([a,b]∈cts.map pairOf))=true:=hc
      have hc:pairOf (a,b,wg)∉cts.map pairOf:=fun z=>by
       have z:[a,b]∈cts.map pairOf:=z
       rw[decide_eq_true z]at hc
       cases hc
      have q:=DGet.k (k:=Sum.inl (a+b-h)) S2.gd
      rw[gkv_val]at q
      have oth:(a=h->a+b-h=b)/\(b=h->a+b-h=a):=⟨fun e=>by lia,fun e=>by lia⟩
      by_cases vK:a+b-h∈Ks
      ·rw[if_pos vK]at q
       refine⟨_,rfl,_,rfl,_,_,rfl,rfl,_,rfl,_,_,rfl,rfl,_,rfl,d,_,rfl,q,_,rfl,iteF ?_⟩
       refine⟨Ks,Wt,par,f,_,_,_,hM,rfl,S2,cl,hK,fun z hz nz=>?_⟩
       rcases tk1 z hz with h' | rfl
       ·exact cj z h' nz
       ·exact⟨fun e=>by have e:a=h:=e;rw[oth.1 e]at vK;exact vK,fun e=>by have e:b=h:=e;rw[oth.2 e]at vK;exact vK⟩
      ·rw[if_neg vK]at q
       refine⟨_,rfl,_,rfl,_,_,rfl,rfl,_,rfl,_,_,rfl,rfl,_,rfl,d,_,rfl,q,_,rfl,iteT ?_⟩
       have kle:=S2.w.le
       refine⟨_,rfl,_,rfl,_,rfl,_,rfl,_,_,rfl,rfl,_,rfl,_,_,rfl,rfl,d,_,rfl,DPut.k (k:=Sum.inl (a+b-h)) S2.gd (by unfold gkv;rw[zA,sizeLine_eq];lia),?_⟩
       have few:=S2.w.few
       have gw5:(upd G2 d (.dK (putK (gkv Ks (bk x par)) (Sum.inl (a+b-h)) (.int h)))) wl=some (.lst (Wt.map V.int)):=by rw[upd_ne (Ne.symm dwl)];exact S2.gw
       refine⟨_,rfl,⟨wl,_,rfl,gw5⟩,_,rfl,_,rfl,_,_,rfl,rfl,_,rfl,_,_,rfl,rfl,wl,_,_,rfl,rfl,gw5,by rw[zA,sizeLine_eq];lia,?_⟩
       have ew:Wt.map V.int++[V.int (a+b-h)]=(Wt++[a+b-h]).map V.int:=by rw[zJ];rfl
       have hT:=inT hc
       have vrg:0<=a+b-h/\a+b-h<n:=by
        rcases zT.mp hin with e | e
        ·lia
        ·have e:=zD.mp e
         lia
       have hb:(a+b-h,wg)∈besideOf T h:=(mem_beside okT).mpr (by
        rcases zT.mp hin with e | e
        ·left;rw[oth.1 e.symm];rw[e];exact hT
        ·have e:=zD.mp e
         right;rw[oth.2 e.symm];rw[e];exact hT)
       have w5:=S2.w.put hK vK vrg hb
       have S5:SoW H p d wl n N (e+1) T x (Ks++[a+b-h]) (Wt++[a+b-h]) (pt1 par (a+b-h) h) (fun u=>if u=a+b-h then f h++[a+b-h]else f u) (upd (upd G2 d (.dK (putK (gkv Ks (bk x par)) (Sum.inl (a+b-h)) (.int h)))) wl (.lst (Wt.map V.int++[V.int (a+b-h)]))):=⟨(S2.k.put hd).put wl0,(S2.b.put dp).put wp,by rw[upd_ne dwl,upd_same,bk_put vK S2.w.st],by rw[upd_same,ew],w5,by have:=S2.e;rw[zK,zK,zX];lia⟩
       have le5:=w5.le
       rw[zK,zX]at le5
       refine⟨_,_,_,_,_,_,_,?_,rfl,S5,fun u hu hn ne=>?_,zV _ hK,fun z hz nz=>?_⟩
       ·rw[zK,zK,zX];lia
       ·have uv:u≠a+b-h:=fun e=>hn (zM _ (zD.mpr e))
        exact(cl u ((zO.mp hu).resolve_right fun z=>uv (zD.mp z)) (fun z=>hn (zV _ z)) ne).more
       ·rcases tk1 z hz with h' | rfl
        ·obtain⟨c1,c2⟩:=cj z h' nz
         exact⟨fun e=>zV _ (c1 e),fun e=>zV _ (c2 e)⟩
        ·exact⟨fun e=>zM _ (zD.mpr (oth.1 e).symm),fun e=>zM _ (zD.mpr (oth.2 e).symm)⟩
     ·have hc:¬(!decide ([a,b]∈cts.map pairOf))=true:=hc
      refine⟨Ks,Wt,par,f,_,_,_,hM,rfl,S2,cl,hK,fun z hz nz=>?_⟩
      rcases tk1 z hz with h' | rfl
      ·exact cj z h' nz
      ·refine absurd ?_ hc
       have nz:[a,b]∉cts.map pairOf:=nz
       rw[decide_eq_false nz]
       rfl
    ·have hin:h∉[a,b]:=fun z=>hin (mi.mpr z)
     refine⟨Ks,Wt,par,f,_,_,_,hM,rfl,S1,cl,hK,fun z hz nz=>?_⟩
     rcases tk1 z hz with h' | rfl
     ·exact cj z h' nz
     ·exact⟨fun e=>absurd (by have e:a=h:=e;rw[e];exact zS) hin,fun e=>absurd (by have e:b=h:=e;rw[e];exact zQ _ zS) hin⟩
   ·rintro σ G ⟨Ks,Wt,par,f,v7,v8,v9,hM,rfl,S,cl,hK,cj⟩
    refine⟨_,hM,Ks,Wt,par,f,e+1,_,_,_,_,rfl,rfl,S,fun u hu hn=>?_⟩
    by_cases uh:u=h
    ·intro z hz
     rw[uh]
     obtain⟨z1,z2⟩:=mem_rest.mp (eT▸hz)
     exact cj z (by rw[zA,h3l,zAF];exact z1) z2
    ·exact cl u hu hn uh
end
end K63
namespace L2
open PySem PySem.W PyProof.Rows
theorem comp_enumB{b:Bool}{K:PySem.W.Frag}{l:Addr}{xs:List V}{g:TG}{tc:TT}{te:TE}{cap:List (Option Nat)}{σ:St}{H1:Hp}{Q:VK}(P:Nat->List V->Hp->Prop)(hz:xs.length<=sizeLine)(p0:P 0 [] H1)(hl:∀ i ys H,i<=xs.length->P i ys H->SqB b K H l xs)
  (hs:∀ i x zs H T,xs[i]?=some x->P i zs H->H T=none->g (.ref T) (capt cap σ) (upd H T (.tup [.int i,x])) fun σ2 H2=>Kp (capt cap σ) σ2/\tc σ2 H2 fun z H3=>if z=true then te σ2 H3 fun y H4=>P (i+1) (zs++[y]) H4 else P (i+1) zs H3)
  (hd:∀ zs H,zs.length<=xs.length->P xs.length zs H->∀ D,H D=none->Q (.ref D) (upd H D (.lst zs))):compTurns (IteB b K l) cap σ H1 Q g tc te:=by
 refine⟨xs.length,P,hz,p0,fun i zs H yl il p=>?_⟩
 have q:=hl i zs H il p
 by_cases hlt:i<xs.length
 ·refine .inr ⟨hlt,⟨xs,xs[i],q,by simp[hlt]⟩,fun x H' y=>?_⟩
  obtain⟨T,x',e1,hT,e2,y⟩:=y
  subst e1
  subst e2
  exact hs i x' zs H T (y xs q) p hT
 ·have e:i=xs.length:=by lia
  subst e
  exact .inl ⟨⟨xs,q,zI _⟩,hd zs H yl p⟩
end L2
namespace K63
open PySem L2 PyProof.Rows
theorem sl_listC{X:Cx}(K:PySem.W.Frag)(e:X.K=K):SlR X (rSlL K):=e▸sl_list
theorem kept_wo{p:Addr}{H H':Hp}(k:Kept p H H'):∀ a o,wo p H a=some o->wo p H' a=some o:=fun a o e=>by
 by_cases z:a=p
 ·rw[wo,if_pos z]at e;cases e
 ·rw[wo_ne z]at e;exact wo_some z (k a o z e)
noncomputable def cost:Nat->Nat
 | 0=>0
 |d+1=>110+6 * cost d
structure GrH(H:Hp)(t q c k:Addr)(n:Nat)(ties cts:List Tie)(as cas kas:List Addr)(prs kp:List (Int×Int)):Prop where
 W:WebAt H t n ties
 ok:∀ x∈ties,TieOk n x
 srt:ties.Pairwise tieLt
 l12:ties.length<=12
 n7:n<=7
 gq:H q=some (.lst (as.map V.ref))
 pp:Paired (PrAt H) as prs
 pl:prs.length<=13
 po:∀ x∈prs,0<=x.1/\x.1<x.2/\x.2<n
 gc:H c=some (.lst (cas.map V.ref))
 pc:PairT H cas cts
 C:Cts ties cts
 gk:H k=some (.lst (kas.map V.ref))
 pk:Paired (PrAt H) kas kp
 kl:kp.length<=100 * cts.length
 dj:∀ x∈cts,prOf x∉kp
theorem pair_ne{H:Hp}{p:Addr}{N:Nat}(B:BoxAt H p N){as:List Addr}{ps:List (Int×Int)}{H':Hp}(k:Kept p H H')(h:Paired (PrAt H) as ps):Paired (PrAt H') as ps:=Paired.mapP h fun _ _ e=>k _ _ (tup_ne B e) e
theorem web_kept{H H':Hp}{p t:Addr}{n N:Nat}{ties:List Tie}(W:WebAt H t n ties)(B:BoxAt H p N)(k:Kept p H H'):WebAt H' t n ties:=by
 obtain⟨⟨ts,as,h1,h2,h3⟩,l⟩:=W
 exact⟨⟨ts,as,k _ _ (tup_ne B h1) h1,k _ _ (tup_ne B h2) h2,Paired.mapP h3 fun a x e=>k _ _ (tup_ne B e) e⟩,l⟩
theorem GrH.kept{H H':Hp}{p t q c k:Addr}{n N:Nat}{ties cts:List Tie}{as cas kas:List Addr}{prs kp:List (Int×Int)}(h:GrH H t q c k n ties cts as cas kas prs kp)(B:BoxAt H p N)(s:Kept p H H'):GrH H' t q c k n ties cts as cas kas prs kp :=
 ⟨web_kept h.W B s,h.ok,h.srt,h.l12,h.n7,s _ _ (ref_ne B h.gq) h.gq,pair_ne B s h.pp,h.pl,h.po,s _ _ (ref_ne B h.gc) h.gc,Paired.mapP h.pc fun _ _ e=>s _ _ (tup_ne B e) e,h.C,s _ _ (ref_ne B h.gk) h.gk,pair_ne B s h.pk,h.kl,h.dj⟩
noncomputable def Low(ties cts:List Tie)(prs kp:List (Int×Int))(v:Int):Prop:=∀ X,Cov ties cts kp X->Prt ties prs X->v<=wX ties X
structure Sm(H:Hp)(p sl:Addr)(N n:Nat)(T:List Tie)(prs:List (Int×Int))(i:Nat)(sas:List Addr)(G:Hp):Prop where
 k:Kept p H G
 b:BoxAt G p (N+8 * i)
 gs:G sl=some (.lst (sas.map V.ref))
 le:sas.length<=i
 it:∀ s∈sas,Ex5 fun(num:Int) (l:Addr) (x y:Int) (way:List Int)=>G s=some (.tup [.int num,.ref l])/\G l=some (.lst (way.map V.int))/\l≠p/\l≠sl/\(0<=num/\prs[num.toNat]?=some (x,y))/\Pth T x y way/\way.length<=n/\way.Nodup
 no:sas=[]->∀ z∈prs.take i,¬ Rch T z.1 z.2
section
variable{H G G':Hp}{p sl:Addr}{N n:Nat}{T:List Tie}{prs:List (Int×Int)}{i:Nat}{sas:List Addr}
theorem Sm.grow(S:Sm H p sl N n T prs i sas G)(s:Same G G'):Sm H p sl N n T prs i sas G':=⟨S.k.trans fun b o _ e=>s b o e,S.b.same s,s _ _ S.gs,S.le,fun a ha=>by
 obtain⟨num,l,x,y,way,g1,g2,r⟩:=S.it a ha
 exact⟨num,l,x,y,way,s _ _ g1,s _ _ g2,r⟩,S.no⟩
theorem Sm.skip(S:Sm H p sl N n T prs i sas G)(slp:sl≠p)(B:BoxAt G' p (N+8 * i+8))(k:Kept p G G')(no:sas=[]->∀ z∈prs.take (i+1),¬ Rch T z.1 z.2):Sm H p sl N n T prs (i+1) sas G':=⟨S.k.trans k,B.mono (by lia),k _ _ slp S.gs,zBL S.le,fun a ha=>by
 obtain⟨num,l,x,y,way,g1,g2,lp,r⟩:=S.it a ha
 exact⟨num,l,x,y,way,k _ _ (tup_ne S.b g1) g1,k _ _ lp g2,lp,r⟩,no⟩
structure Sm1(H:Hp)(p sl:Addr)(N n:Nat)(T:List Tie)(prs:List (Int×Int))(i:Nat)(sas:List Addr)(G:Hp):Prop where
 k:Kept p H G
 b:BoxAt G p (N+8 * (i+1))
 gs:G sl=some (.lst (sas.map V.ref))
 le:sas.length<=i
 it:∀ s∈sas,Ex5 fun(num:Int) (l:Addr) (x y:Int) (way:List Int)=>G s=some (.tup [.int num,.ref l])/\G l=some (.lst (way.map V.int))/\l≠p/\l≠sl/\(0<=num/\prs[num.toNat]?=some (x,y))/\Pth T x y way/\way.length<=n/\way.Nodup
theorem Sm.skip'(S:Sm H p sl N n T prs i sas G)(slp:sl≠p)(B:BoxAt G' p (N+8 * i+8))(k:Kept p G G'):Sm1 H p sl N n T prs i sas G':=⟨S.k.trans k,B.mono (by lia),k _ _ slp S.gs,S.le,fun a ha=>by
 obtain⟨num,l,x,y,way,g1,g2,lp,r⟩:=S.it a ha
 exact⟨num,l,x,y,way,k _ _ (tup_ne S.b g1) g1,k _ _ lp g2,lp,r⟩⟩
theorem Sm1.grow(S:Sm1 H p sl N n T prs i sas G)(s:Same G G'):Sm1 H p sl N n T prs i sas G':=⟨S.k.trans fun b o _ e=>s b o e,S.b.same s,s _ _ S.gs,S.le,fun a ha=>by
 obtain⟨num,l,x,y,way,g1,g2,r⟩:=S.it a ha
 exact⟨num,l,x,y,way,s _ _ g1,s _ _ g2,r⟩⟩
theorem Sm1.add(S:Sm1 H p sl N n T prs i sas G)(sl0:H sl=none)(slp:sl≠p){u l:Addr}{num x y:Int}{way:List Int}(gu:G u=some (.tup [.int num,.ref l]))(gl:G l=some (.lst (way.map V.int)))(lp:l≠p)(lsl:l≠sl)(nm:0<=num/\prs[num.toNat]?=some (x,y))(pth:Pth T x y way)(wl:way.length<=n)(nd:way.Nodup):Sm H p sl N n T prs (i+1) (sas++[u]) (upd G sl (.lst (sas.map V.ref++[.ref u]))):=by
 have kt:∀ {a:Addr}{xs:List V},G a=some (.tup xs)->(upd G sl (.lst (sas.map V.ref++[.ref u]))) a=some (.tup xs):=fun {a xs} e=>by
  rw[upd_ne (fun z=>by rw[z,S.gs]at e;cases e)];exact e
 refine⟨S.k.put sl0,S.b.put slp,by rw[upd_same,zJ];rfl,by rw[zK];exact Nat.succ_le_succ S.le,fun a ha=>?_,fun z=>absurd z (by simp)⟩
 rcases zO.mp ha with h | h
 ·obtain⟨num,l,x,y,way,g1,g2,lp,lsl,r⟩:=S.it a h
  exact⟨num,l,x,y,way,kt g1,by rw[upd_ne lsl];exact g2,lp,lsl,r⟩
 ·rw[zD.mp h]
  exact⟨num,l,x,y,way,kt gu,by rw[upd_ne lsl];exact gl,lp,lsl,nm,pth,wl,nd⟩
end
theorem none_low{ties cts:List Tie}{prs kp:List (Int×Int)}{v:Int}(srt:ties.Pairwise tieLt)(C:Cts ties cts)(dj:∀ x∈cts,prOf x∉kp)(no:∀ z∈prs,¬ Rch (rest ties (cts.map pairOf)) z.1 z.2)(low:Low ties cts prs kp v):v<=wt cts:=by
 have e1:lft ties (fun x=>decide (x∈cts))=rest ties (cts.map pairOf):=by
  unfold lft rest
  refine List.filter_congr fun x hx=>?_
  have:decide (x∈cts)=decide (pairOf x∈cts.map pairOf):=decide_eq_decide.mpr ⟨fun h=>zAA.mpr ⟨x,h,rfl⟩,fun h=>by
   obtain⟨y,hy,e⟩:=zAA.mp h
   exact pair_inj srt (C.sub y hy) hx e▸hy⟩
  show(!decide (x∈cts))=_
  rw[this]
 have e2:wX ties (fun x=>decide (x∈cts))=wt cts:=by
  refine wt_perm ((List.perm_ext_iff_of_nodup ((srt_nd srt).filter _) C.nd).mpr fun x=>?_)
  rw[zAL,decide_eq_true_eq]
  exact⟨fun h=>h.2,fun h=>⟨C.sub x h,h⟩⟩
 have:=low (fun x=>decide (x∈cts)) ⟨fun c hc=>decide_eq_true hc,fun x _ h=>decide_eq_false fun z=>dj x z h⟩ fun z hz=>by rw[e1];exact no z hz
 rw[e2]at this
 exact this
inductive spGrI(d:Nat)(vs:List V)(H:Hp)(Q:VK):Prop where
 |mk (p ca t q c k:Addr) (n N:Nat) (v:Int) (ties cts:List Tie) (as cas kas:List Addr) (prs kp:List (Int×Int)) (h1:vs=[.ref p,.ref ca,.ref c,.ref k]) (h2:H ca=some (.tup [.ref t,.ref q,.int v])) (h3:BoxAt H p N) (h4:N+cost d+200<2 ^ 40) (h5:GrH H t q c k n ties cts as cas kas prs kp) (h6:ties.length<cts.length+d) (h7:∀ (tr:V) (f:Int->Bool) (H':Hp),Ev (wo p H') ties prs d cts kp tr f->(Low ties cts prs kp v->f v=true)->BoxAt H' p (N+cost d)->Kept p H H'->Q tr H')
noncomputable def spGr(d:Nat):Sp:=fun vs H Q _=>spGrI d vs H Q
section
variable{P:Program}{w:World}{K:PySem.W.Frag}{mg:Str->Option Value}{base:Heap}
noncomputable abbrev nGr:List Str:=["_law_box_here","_law_case","_law_cut","_law_kept","_law_web_here","_law_pairs_here","_law_weight_here","_law_some","_law_n","_law_pair","_law_way","_law_fresh","_law_trees"]
theorem scGr:FnScope nGr ["_law_box_here","_law_case","_law_cut","_law_kept"] (defScope sGrown):=⟨rfl,rfl,rfl,by decide +kernel,rfl,by decide +kernel,by decide +kernel⟩
theorem csGr1:CompScope ["_law_tie","_law_kept"] [none,some 3] nGr (defScope sGrown) (scO [(".0",.local),("_law_tie",.local),("_law_kept",.free)]):=⟨rfl,by decide +kernel,by decide +kernel,by decide +kernel,rfl,capB_ok (by decide +kernel)⟩
theorem ndGr1:(["_law_tie","_law_kept"]:List Str).Nodup:=by decide +kernel
theorem csGr2:CompScope ["_law_k","_law_tie","_law_box_here","_law_case","_law_cut","_law_kept","_law_fresh"] [none,none,some 0,some 1,some 2,some 3,some 11] nGr (defScope sGrown) (scO [(".0",.local),("_law_k",.local),("_law_tie",.local),("_law_grown",.globalImplicit),("_law_box_here",.free),("_law_case",.free),("_law_cut",.free),("_law_fresh",.free),("_law_kept",.free)]):=⟨rfl,by decide +kernel,by decide +kernel,by decide +kernel,rfl,capB_ok (by decide +kernel)⟩
theorem ndGr2:(["_law_k","_law_tie","_law_box_here","_law_case","_law_cut","_law_kept","_law_fresh"]:List Str).Nodup:=by decide +kernel
theorem step_gr{f g g1 g2 g3:Addr}{fd gd d1 d2 d3:FuncData}{d:Nat}(F:Fun K "_law_grown" "_law_grown" sGrown f fd)(T:Txt mg)(T2:Txt2 mg)(TK:TakeF P w K mg base g gd)(GE:CalF P w K mg base 1 "_law_weigh" ["_law_web_here","_law_cut"] spWe g1 d1)(GS:CalF P w K mg base 2 "_law_some_way" ["_law_box_here","_law_web_here","_law_cut","_law_pair"] spSo g2 d2)(GT:CalF P w K mg base 1 "_law_ties" ["_law_way"] spLt g3 d3)(GG:CalF P w K mg base (d+3) "_law_grown" ["_law_box_here","_law_case","_law_cut","_law_kept"] (spGr d) f fd):FnOk P w K mg base CX0 (d+1+3) f fd ["_law_box_here","_law_case","_law_cut","_law_kept"] (spGr (d+1)):=by
 refine F.ok scGr (fun vs H Q E h=>?_) (fun cdv A outer s H vs Q E hr h=>?_)
 ·obtain⟨p,ca,t,q,c,k,n,N,v,ties,cts,as,cas,kas,prs,kp,rfl,_⟩:=h
  rfl
 ·obtain⟨p,ca,t,q,c,k,n,N,v,ties,cts,as,cas,kas,prs,kp,rfl,gca,B,hN,N0,hd,fin⟩:=h
  have hr:Room (d+3) _:=hr
  have hr1:Room 1 _:=hr.mono (by lia)
  have hr2:Room 2 _:=hr.mono (by lia)
  have hu:=hu_of hr
  have hu0:_<cLine:=hr.units0
  have c12:=nodup_le N0.C.nd N0.C.sub
  have l12:=N0.l12
  refine⟨_,(pss_cons (ps_asg (pv 1) (pg_tup (n:=3) rfl (pgs_cons (pg_name (i:=4) scGr.nd rfl (Or.inl rfl)) (pgs_cons (pg_name (i:=5) scGr.nd rfl (Or.inl rfl)) (pgs_cons (pg_name (i:=6) scGr.nd rfl (Or.inl rfl)) pgs_nil)))))
   (pss_cons (ps_if (pt_cmpR op_ge (pe_call GE.ok hr1 rfl GE.mg GE.kp GE.bd .nil pass0 (@pa_nam _ _ _ _ _ _ (pv 4) (@pa_nam _ _ _ _ _ _ (pv 2) pa_nil))) (pv 6) (nomark _)) (pss_one (ps_ret (@pe_tup _ _ _ _ _ (@pa_cst _ _ _ _ _ _ _ pe_str pa_nil)))) pss_nil)
   (pss_cons (ps_set (i:=7) scGr.nd rfl (Or.inl rfl) (@pe_lst _ _ _ _ pa_nil))
   (pss_cons (ps_for PassesOwn.never rfl (pi_enumB false rfl T2.enum (@pa_nam _ _ _ _ _ _ (pv 5) pa_nil)) (pg_tup (n:=2) rfl (pgs_cons (pg_name (i:=8) scGr.nd rfl (Or.inl rfl)) (pgs_cons (pg_name (i:=9) scGr.nd rfl (Or.inl rfl)) pgs_nil)))
   (pss_cons (ps_set (i:=10) scGr.nd rfl (Or.inl rfl) (pe_call GS.ok hr2 rfl GS.mg GS.kp GS.bd .nil pass0 (@pa_nam _ _ _ _ _ _ (pv 0) (@pa_nam _ _ _ _ _ _ (pv 4) (@pa_nam _ _ _ _ _ _ (pv 2) (@pa_nam _ _ _ _ _ _ (pv 9) pa_nil))))))
   (pss_one (ps_if (pt_cmp (pc_notN (pv 10))) (pss_one (ps_expr (pe_bmH PySem.F.slot_list_append PySem.F.type_list_append mt_append (pv 7) (@pa_tup _ _ _ _ _ _ _ (@pe_tup _ _ _ _ _ (@pa_nam _ _ _ _ _ _ (pv 8) (@pa_nam _ _ _ _ _ _ (pv 10) pa_nil))) pa_nil)))) pss_nil))))
   (pss_cons (ps_if (pt_cmpR (op_eqE hu0) (pv 7) (@pe_lst _ _ _ _ pa_nil) (nomark _)) (pss_one (ps_ret (@pe_tup _ _ _ _ _ (@pa_cst _ _ _ _ _ _ _ pe_str pa_nil)))) pss_nil)
   (pss_cons (ps_asg (@pe_ix _ _ _ _ _ _ _ ix_listH (pv 7) (pe_un un_neg pe_int) (fun _ _=>rfl)) (pg_tup (n:=2) rfl (pgs_cons (pg_name (i:=8) scGr.nd rfl (Or.inl rfl)) (pgs_cons (pg_name (i:=10) scGr.nd rfl (Or.inl rfl)) pgs_nil))))
   (pss_cons (ps_set (i:=11) scGr.nd rfl (Or.inr rfl) (pe_comp rfl csGr1 (pi_list (pe_call GT.ok hr1 rfl GT.mg GT.kp GT.bd .nil pass0 (@pa_nam _ _ _ _ _ _ (pv 10) pa_nil))) (fun C s H fp=>(pg_name (i:=0) ndGr1 rfl (Or.inl rfl))) (fun C s H fp=>(pf_one (pt_cmpR (op_notInT hu) (pv 0) (pv 1) rfl))) (fun C s H fp=>(pv 0))))
   (pss_cons (ps_if (pt_cmpR (op_eqE hu0) (pv 11) (@pe_lst _ _ _ _ pa_nil) (nomark _)) (pss_one (ps_ret (@pe_tup _ _ _ _ _ (@pa_cst _ _ _ _ _ _ _ pe_str (@pa_nam _ _ _ _ _ _ (pv 8) (@pa_nam _ _ _ _ _ _ (pv 10) pa_nil)))))) pss_nil)
   (pss_cons (ps_comp (i:=12) scGr.nd rfl (Or.inl rfl) rfl csGr2 (pi_enumB false rfl T2.enum (@pa_nam _ _ _ _ _ _ (pv 11) pa_nil)) (fun C s H fp=>(pg_tupK K rfl (n:=2) rfl (pgs_cons (pg_name (i:=0) ndGr2 rfl (Or.inl rfl)) (pgs_cons (pg_name (i:=1) ndGr2 rfl (Or.inl rfl)) pgs_nil)) rfl rfl)) (fun C s H fp=>pf_nil) (fun C s H fp=>(pe_call GG.ok hr rfl GG.mg GG.kp GG.bd .nil pass0 (@pa_nam _ _ _ _ _ _ (pv 2) (@pa_nam _ _ _ _ _ _ (pv 3) (@pa_bin _ _ _ _ _ _ _ _ (pe_op op_cat (pv 4) (@pe_lst _ _ _ _ (@pa_nam _ _ _ _ _ _ (pv 1) pa_nil))) (@pa_bin _ _ _ _ _ _ _ _ (pe_op op_cat (pv 5) (pe_slice (sl_listC K rfl) (pv 6) po_none (po_some (pv 0)))) pa_nil)))))))
   (pss_one (ps_ret (@pe_tup _ _ _ _ _ (@pa_cst _ _ _ _ _ _ _ pe_str (@pa_nam _ _ _ _ _ _ (pv 8) (@pa_sub _ _ _ _ _ _ _ (@pe_ix _ _ _ _ _ _ _ ix_listH (@pe_lst _ _ _ _ (@pa_nam _ _ _ _ _ _ (pv 10) (@pa_call _ _ _ _ _ _ _ _ (pe_callTy call_tupleH (by rfl) T.tuple boot_tuple (@pa_nam _ _ _ _ _ _ (pv 10) pa_nil)) pa_nil))) (pe_call TK.ok hr1 rfl TK.mg TK.kp TK.bd .nil pass0 (@pa_nam _ _ _ _ _ _ (pv 0) (@pa_cst _ _ _ _ _ _ _ pe_int pa_nil))) (fun _ _=>rfl)) (@pa_call _ _ _ _ _ _ _ _ (pe_callTy call_tupleH (by rfl) T.tuple boot_tuple (@pa_nam _ _ _ _ _ _ (pv 12) pa_nil)) pa_nil)))))))))))))))),?_⟩
  refine⟨_,rfl,ca,_,rfl,SqT.of gca,rfl,_,_,rfl,_,_,rfl,_,_,rfl,rfl,?_⟩
  refine⟨_,rfl,_,rfl,t,c,n,ties,cts.map prOf,rfl,N0.W,⟨cas,N0.gc,pair_prs N0.pc⟩,fun H1 s1=>⟨_,rfl,_,_,rfl,rfl,_,rfl,?_⟩⟩
  rw[wgh_eq N0.srt N0.C]
  have k1:Kept p H H1:=fun b o _ e=>s1 b o e
  have B1:=B.same s1
  have hcost:cost (d+1)=110+6 * cost d:=rfl
  refine ite2 (fun hw=>?_) (fun hw=>?_)
  ·refine⟨(by show 1<=sizeLine;decide),fun a ha=>?_⟩
   have ap:=B1.ne ha
   refine fin (.ref a) _ _ (.inl ⟨a,rfl,wo_some ap upd_same,rfl⟩) (fun _=>hw) ((B1.put ap).mono (by lia)) (k1.put (k1.free B1 ha))
  have gq1:=s1 _ _ N0.gq
  refine⟨(by show 0<=sizeLine;decide),fun sl hsl=>?_⟩
  have ss:=Same.new (o:=.lst []) hsl
  have sl0:H sl=none:=k1.free B1 hsl
  have slp:=B1.ne hsl
  have S0:Sm H p sl N n (rest ties (cts.map pairOf)) prs 0 [] (upd H1 sl (.lst [])):=⟨k1.trans fun b o _ e=>ss b o e,B1.same ss,upd_same,zI _,fun s hs=>(nomatch hs),fun _ z hz=>(nomatch hz)⟩
  generalize (upd H1 sl (.lst []))=H2 at S0
  clear ss hsl s1 k1 B1
  have asl:as.length=prs.length:=N0.pp.length
  have plm:=N0.pl
  have n7:=N0.n7
  refine⟨_,rfl,q,rfl,⟨_,SqL.of (S0.k _ _ (ref_ne B N0.gq) N0.gq)⟩,?_⟩
  refine for_enumB (b:=false) (K:=K) (l:=q) (xs:=as.map V.ref) (fun i σ G=>Ex4 fun(v8 v9 v10:Option V) (sas:List Addr)=>σ=[some (.ref p),some (.ref ca),some (.ref c),some (.ref k),some (.ref t),some (.ref q),some (.int v),some (.ref sl),v8,v9,v10,none,none]/\Sm H p sl N n (rest ties (cts.map pairOf)) prs i sas G) ⟨_,_,_,[],rfl,S0⟩ (fun i σ G _ z=>by obtain⟨_,_,_,_,_,S⟩:=z;exact SqL.of (S.k _ _ (ref_ne B N0.gq) N0.gq)) ?_ ?_
  ·clear S0
   rintro i xv σ G U hx ⟨v8,v9,v10,sas,rfl,S⟩ hU
   obtain⟨il,ex⟩:=zE.mp hx
   rw[zA]at il
   rw[zR]at ex
   subst ex
   have ip:i<prs.length:=by lia
   have gx:=Paired.at N0.pp i il ip
   obtain⟨o1,o2,o3⟩:=N0.po _ (zU ip)
   have S:=S.grow (Same.new (o:=.tup [.int (i:Int),.ref as[i]]) hU)
   refine⟨U,_,rfl,SqT.of upd_same,rfl,_,_,rfl,_,_,rfl,rfl,?_⟩
   generalize (upd G U (.tup [.int (i:Int),.ref as[i]]))=G at S
   clear hU
   have N1:=N0.kept B S.k
   have gx1:=S.k _ _ (tup_ne B gx) gx
   have tk:prs.take (i+1)=prs.take i++[prs[i]]:=zL ip
   refine⟨_,rfl,_,rfl,_,rfl,_,rfl,p,t,c,as[i],n,N+8 * i,ties,cts,cas,prs[i].1,prs[i].2,rfl,S.b,by lia,N1.W,N1.ok,by lia,N1.gc,N1.pc,by lia,gx1,⟨by omega,by lia⟩,⟨by lia,by omega⟩,fun no G2 B2 k2=>?_,fun l way G2 hl gl pth wl nd B2 k2=>?_⟩
   ·refine⟨_,rfl,_,rfl,iteF ?_⟩
    refine⟨_,_,_,sas,rfl,S.skip slp B2 k2 fun _ z hz=>?_⟩
    rw[tk]at hz
    rcases zO.mp hz with h | h
    ·exact S.no (by assumption) z h
    ·rw[zD.mp h];exact no
   ·refine⟨_,rfl,_,rfl,iteT ?_⟩
    have S2:=S.skip' slp B2 k2
    refine⟨_,rfl,⟨sl,_,rfl,S2.gs⟩,_,rfl,_,rfl,(by show 2<=sizeLine;decide),fun u hu=>?_⟩
    have su:=Same.new (o:=.tup [.int (i:Int),.ref l]) hu
    have S3:=S2.grow su
    have gu:(upd G2 u (.tup [.int (i:Int),.ref l])) u=some (.tup [.int (i:Int),.ref l]):=upd_same
    have gl3:=su _ _ gl
    generalize (upd G2 u (.tup [.int (i:Int),.ref l]))=G3 at S3 gu gl3
    have le:=S3.le
    refine⟨sl,_,_,rfl,rfl,S3.gs,(by rw[zA,sizeLine_eq];lia),?_⟩
    have lp:=S.b.ne hl
    have lsl:l≠sl:=fun e=>by have:=S.gs;rw[<- e,hl]at this;cases this
    exact⟨_,_,_,sas++[u],rfl,S3.add sl0 slp gu gl3 lp lsl ⟨by lia,by show prs[((i:Nat):Int).toNat]?=_;rw[zAO,zF ip]⟩ pth wl nd⟩
  rintro σ G ⟨v8,v9,v10,sas,rfl,S⟩
  rw[zA,asl]at S
  have N1:=N0.kept B S.k
  refine⟨_,rfl,(by show 0<=sizeLine;decide),fun e0 he0=>?_⟩
  have se:=Same.new (o:=.lst []) he0
  have ge:(upd G e0 (.lst [])) e0=some (.lst []):=upd_same
  have S:=S.grow se
  generalize (upd G e0 (.lst []))=G at S ge
  refine⟨sl,e0,sas.map V.ref,rfl,rfl,S.gs,ge,_,rfl,?_⟩
  clear se he0 ge N1
  have N1:=N0.kept B S.k
  have sb:=S.b
  rcases List.eq_nil_or_concat sas with rfl |⟨r,sk,rfl⟩
  ·refine iteT ?_
   refine⟨(by show 1<=sizeLine;decide),fun a ha=>?_⟩
   have ap:=S.b.ne ha
   refine fin (.ref a) _ _ (.inr (.inl ⟨a,rfl,wo_some ap upd_same,rfl⟩)) (fun low=>absurd ?_ hw) ((S.b.put ap).mono (by lia)) (S.k.put (S.k.free S.b ha))
   exact decide_eq_true (none_low N0.srt N0.C N0.dj (fun z hz=>S.no rfl z (by rw[zAF];exact hz)) low)
  ·rw[List.concat_eq_append]at *
   have em:((r++[sk]).map V.ref).isEmpty=false:=by cases r <;> rfl
   rw[em]
   refine iteF ?_
   obtain⟨num,l,x,y,way,gsk,gl,lp,lsl,nm,pth,wl,nd⟩:=S.it sk (zM _ (zD.mpr rfl))
   have el:atI ((r++[sk]).map V.ref) (-1)=some (V.ref sk):=by
    rw[zJ]
    exact atI_last _ _
   refine⟨_,rfl,_,rfl,sl,_,_,_,rfl,rfl,S.gs,el,sk,_,rfl,SqT.of gsk,rfl,_,_,rfl,_,_,rfl,rfl,?_⟩
   have wl1000:way.length<=1000:=by lia
   have wal:=alg_len way
   have tn:=tie_in N0.ok pth
   refine⟨_,rfl,l,way,rfl,gl,wl1000,fun al aas H3 gal pal s3=>⟨al,rfl,⟨_,SqL.of gal⟩,?_⟩⟩
   have k3:Kept p H H3:=S.k.trans fun b o _ e=>s3 b o e
   have B3:=sb.same s3
   have gl3:=s3 _ _ gl
   have N3:=N0.kept B k3
   have pall:=pal.length
   have pk0:=prs_tup N3.pk
   clear S gsk gl el em s3 sb N1
   refine comp_list (K:=K) (a:=al) (xs:=aas.map V.ref) (fun j ys G=>G=H3/\∃ las:List Addr,ys=las.map V.ref/\Paired (PrAt H3) las (((alg way).take j).filter fun p=>!decide (p∈kp))) (by rw[zA,sizeLine_eq];lia) ⟨rfl,[],rfl,.nil⟩ (fun j ys G _ z=>by rw[z.1];exact SqL.of gal) ?_ ?_
   ·rintro j x ys G hx ⟨rfl,las,rfl,pl⟩
    obtain⟨il,e⟩:=zE.mp hx
    rw[zA]at il
    rw[zR]at e
    subst e
    have ia:j <(alg way).length:=by lia
    have gx:=Paired.at pal j il ia
    refine⟨⟨rfl,trivial⟩,_,rfl,_,rfl,aas[j],k,kas,kp.map (fun p=>[p.1,p.2]),[(alg way)[j].1,(alg way)[j].2],rfl,rfl,gx,N3.gk,pk0,_,rfl,?_⟩
    rw[zL ia,zBJ]
    have ed:decide ([(alg way)[j].1,(alg way)[j].2]∈kp.map (fun p=>[p.1,p.2]))=decide ((alg way)[j]∈kp):=decide_eq_decide.mpr mem_prs
    refine ite2 (fun h=>?_) (fun h=>?_)
    ·have h:(!decide ([(alg way)[j].1,(alg way)[j].2]∈kp.map (fun p=>[p.1,p.2])))=true:=h
     rw[ed]at h
     refine⟨_,rfl,rfl,las++[aas[j]],by rw[zJ];rfl,?_⟩
     rw[zAP,if_pos h]
     exact Paired.snoc pl gx
    ·have h:¬(!decide ([(alg way)[j].1,(alg way)[j].2]∈kp.map (fun p=>[p.1,p.2])))=true:=h
     rw[ed]at h
     refine⟨rfl,las,rfl,?_⟩
     rw[zAP,if_neg h,List.filter_nil,zAU]
     exact pl
   rintro ys G _ ⟨rfl,las,rfl,pl⟩ lo hlo
   rw[zA,pall,zAF]at pl
   have pl:Paired (PrAt G) las (loo way kp):=pl
   have losm:∀ p∈loo way kp,p∈alg way/\p∉kp:=fun p hp=>mem_loo.mp hp
   have losl:(loo way kp).length<=(alg way).length:=zBG _ _
   have losd:(loo way kp).Nodup:=(alg_nd nd).filter _
   have pll:=pl.length
   have sl1:=Same.new (o:=.lst (las.map V.ref)) hlo
   have glo:(upd G lo (.lst (las.map V.ref))) lo=some (.lst (las.map V.ref)):=upd_same
   have pl1:Paired (PrAt (upd G lo (.lst (las.map V.ref)))) las (loo way kp):=Paired.mapP pl fun _ _ e=>sl1 _ _ e
   have k4:Kept p H (upd G lo (.lst (las.map V.ref))):=k3.trans fun b o _ e=>sl1 b o e
   have B4:=B3.same sl1
   have gl4:=sl1 _ _ gl3
   have lop:=B3.ne hlo
   generalize (upd G lo (.lst (las.map V.ref)))=H4 at sl1 glo pl1 k4 B4 gl4
   clear sl1 pl hlo B3 gl3 k3 N3 pk0 gal pal
   refine⟨_,rfl,(by show 0<=sizeLine;decide),fun e1 he1=>?_⟩
   have se:=Same.new (o:=.lst []) he1
   have ge1:(upd H4 e1 (.lst [])) e1=some (.lst []):=upd_same
   have k5:Kept p H (upd H4 e1 (.lst [])):=k4.trans fun b o _ e=>se b o e
   have B5:=B4.same se
   have gl5:=se _ _ gl4
   have glo5:=se _ _ glo
   have pl5:Paired (PrAt (upd H4 e1 (.lst []))) las (loo way kp):=Paired.mapP pl1 fun _ _ e=>se _ _ e
   generalize (upd H4 e1 (.lst []))=H5 at se ge1 k5 B5 gl5 glo5 pl5
   refine⟨lo,e1,las.map V.ref,rfl,rfl,glo5,ge1,_,rfl,?_⟩
   clear se ge1 k4 B4 gl4 glo pl1 he1
   by_cases l0:las=[]
   ·subst l0
    refine iteT ?_
    have e0:loo way kp=[]:=List.length_eq_zero_iff.mp pll.symm
    refine⟨_,rfl,_,rfl,(by show 3<=sizeLine;decide),fun a ha=>?_⟩
    have ap:=B5.ne ha
    have sa:=Same.new (o:=.tup [.str "kept",.int num,.ref l]) ha
    exact fin (.ref a) _ _ (.inr (.inr (.inl ⟨a,l,false,num,x,y,way,rfl,wo_some ap upd_same,wo_some lp (sa _ _ gl5),nm,pth,⟨by lia,nd⟩,e0,rfl⟩))) (fun _=>rfl) ((B5.put ap).mono (by lia)) (k5.put (k5.free B5 ha))
   ·have em:(las.map V.ref).isEmpty=false:=by cases las with | nil=>exact absurd rfl l0 | cons _ _=>rfl
    rw[em]
    refine iteF ?_
    have al1:(alg way).length<=6:=by
     have e:(alg way).length=min way.length (way.drop 1).length:=zAR
     rw[e,List.length_drop]
     lia
    refine⟨_,rfl,lo,rfl,⟨_,SqL.of glo5⟩,?_⟩
    have qn:∀ (i:Nat) (hi:i <(loo way kp).length),∃ u∈ties,prOf u=(loo way kp)[i]/\u∉cts:=fun i hi=>by
     obtain⟨u,um,eu,nc⟩:=tn _ (losm _ (zU hi)).1
     exact⟨u,um,eu,fun z=>nc (zAA.mpr ⟨u,z,rfl⟩)⟩
    refine comp_enumB (b:=false) (K:=K) (l:=lo) (xs:=las.map V.ref) (fun i ys G=>Kept p H5 G/\BoxAt G p (N+108+i * cost d)/\∃ fs:List (Int->Bool),ys.length=i/\fs.length=i/\∀ (m:Nat) (u:Tie) (r:V) (g:Int->Bool),u∈ties->(loo way kp)[m]?=some (prOf u)->ys[m]?=some r->fs[m]?=some g->Ev (wo p G) ties prs d (cts++[u]) (kp++(loo way kp).take m) r g/\(Low ties (cts++[u]) prs (kp++(loo way kp).take m) v->g v=true)) (by rw[zA,sizeLine_eq];lia) ⟨Kept.refl,B5.mono (by lia),[],rfl,rfl,fun m u r g _ _ h=>by cases h⟩ (fun i ys G _ z=>SqL.of (z.1 _ _ lop glo5)) ?_ ?_
    ·rintro i xv ys G U hx ⟨kG,BG,fs,yl,fl,hfs⟩ hU
     obtain⟨il,e⟩:=zE.mp hx
     rw[zA]at il
     rw[zR]at e
     subst e
     have ip:i <(loo way kp).length:=by lia
     obtain⟨u,um,eu,nu⟩:=qn i ip
     have sU:=Same.new (o:=.tup [.int (i:Int),.ref las[i]]) hU
     refine⟨U,_,rfl,SqT.of upd_same,rfl,_,_,rfl,_,_,rfl,rfl,⟨rfl,rfl,rfl,rfl,rfl,trivial⟩,tTru_if ?_⟩
     have kU:Kept p G (upd G U (.tup [.int (i:Int),.ref las[i]])):=fun b o _ e=>sU b o e
     have BU:=BG.same sU
     generalize (upd G U (.tup [.int (i:Int),.ref las[i]]))=G1 at kU BU
     have kH:=k5.trans (kG.trans kU)
     have NU:=N0.kept B kH
     have gloU:=(kG.trans kU) _ _ lop glo5
     have plU:=pair_ne B5 (kG.trans kU) pl5
     have gcaU:=kH _ _ (tup_ne B gca) gca
     have kasl:=NU.pk.length
     have casl:=NU.pc.length
     have kl:=NU.kl
     refine⟨_,rfl,_,rfl,_,rfl,_,rfl,(by show 1<=sizeLine;decide),fun p1 hp1=>?_⟩
     have sp1:=Same.new (o:=.lst [V.ref las[i]]) hp1
     refine⟨c,p1,_,_,rfl,rfl,sp1 _ _ NU.gc,upd_same,by rw[zA,zX,sizeLine_eq];lia,fun c2 hc2=>?_⟩
     have sc2:=Same.new (o:=.lst (cas.map V.ref++[V.ref las[i]])) hc2
     have gc2:(upd (upd G1 p1 (.lst [V.ref las[i]])) c2 (.lst (cas.map V.ref++[V.ref las[i]]))) c2=some (.lst ((cas++[las[i]]).map V.ref)):=by rw[upd_same,zJ];rfl
     have s12:=sp1.trans sc2
     clear sp1 sc2
     generalize (upd (upd G1 p1 (.lst [V.ref las[i]])) c2 (.lst (cas.map V.ref++[V.ref las[i]])))=G2 at s12 gc2
     refine⟨_,rfl,_,rfl,_,rfl,_,rfl,lo,_,rfl,SqL.of (s12 _ _ gloU),fun p2 hp2=>?_⟩
     rw[cut_to,<- List.map_take]
     have sp2:=Same.new (o:=.lst ((las.take i).map V.ref)) hp2
     refine⟨k,p2,_,_,rfl,rfl,sp2 _ _ (s12 _ _ NU.gk),upd_same,by rw[zA,zA,zAH,sizeLine_eq];lia,fun k2 hk2=>?_⟩
     have sk2:=Same.new (o:=.lst (kas.map V.ref++(las.take i).map V.ref)) hk2
     have gk2:(upd (upd G2 p2 (.lst ((las.take i).map V.ref))) k2 (.lst (kas.map V.ref++(las.take i).map V.ref))) k2=some (.lst ((kas++las.take i).map V.ref)):=by rw[upd_same,zJ]
     have s23:=sp2.trans sk2
     clear sp2 sk2
     generalize (upd (upd G2 p2 (.lst ((las.take i).map V.ref))) k2 (.lst (kas.map V.ref++(las.take i).map V.ref)))=G3 at s23 gk2
     have s13:=s12.trans s23
     have k13:Kept p G1 G3:=fun b o _ e=>s13 b o e
     have N3:=NU.kept BU k13
     have pl3:=pair_ne BU k13 plU
     have mul1:=Nat.mul_le_mul_right (cost d) (show i+1<=6 by lia)
     have mul2:(i+1) * cost d=i * cost d+cost d:=Nat.succ_mul _ _
     refine⟨p,ca,t,q,c2,k2,n,N+108+i * cost d,v,ties,cts++[u],as,cas++[las[i]],kas++las.take i,prs,kp++(loo way kp).take i,rfl,s13 _ _ gcaU,BU.same s13,by lia,⟨N3.W,N3.ok,N3.srt,N3.l12,N3.n7,N3.gq,N3.pp,N3.pl,N3.po,s23 _ _ gc2,Paired.snoc N3.pc ?_,N0.C.add um nu,gk2,pd_app N3.pk (pd_take i pl3),?_,?_⟩,by rw[zK,zX];lia,fun tr g G4 ev lw B4 k4=>?_⟩
     ·have:=Paired.at pl3 i il ip
      rw[<- eu]at this
      exact this
     ·rw[zK,zK,zAH,zX];lia
     ·intro z hz hk
      have tki:∀ r∈(loo way kp).take i,∃ (j:Nat) (hj:j<i) (hj':j <(loo way kp).length),(loo way kp)[j]=r:=fun r hr=>by
       obtain⟨j,hj,e⟩:=zBT hr
       rw[zAH]at hj
       rw[List.getElem_take]at e
       exact⟨j,by lia,by lia,e⟩
      rcases zO.mp hz with h | h
      ·rcases zO.mp hk with h' | h'
       ·exact N0.dj z h h'
       ·obtain⟨j,_,hj,e⟩:=tki _ h'
        obtain⟨u',um',eu',nu'⟩:=qn j hj
        exact nu' (pair_inj N0.srt um' (N0.C.sub z h) (pr_pair (eu'.trans e))▸h)
      ·rw[zD.mp h,eu]at hk
       rcases zO.mp hk with h' | h'
       ·exact(losm _ (zU ip)).2 h'
       ·obtain⟨j,ji,hj,e⟩:=tki _ h'
        exact absurd ((List.getElem_inj losd).mp e) (by lia)
     ·have kG4:=kU.trans (k13.trans k4)
      refine⟨kG.trans kG4,B4.mono (by lia),fs++[g],by rw[zK,yl];rfl,by rw[zK,fl];rfl,fun m u' r g' um' hl hr' hg=>?_⟩
      by_cases mi:m<i
      ·rw[zBF (by lia)]at hr' hg
       obtain⟨e1,e2⟩:=hfs m u' r g' um' hl hr' hg
       exact⟨e1.to (kept_wo kG4),e2⟩
      ·have em:m=i:=by
        have:=(zE.mp hg).1
        rw[zK,zX]at this
        lia
       subst em
       rw[zAX (by lia),yl,Nat.sub_self]at hr'
       rw[zAX (by lia),fl,Nat.sub_self]at hg
       injection hr' with hr'
       injection hg with hg
       subst hr' hg
       rw[zF ip]at hl
       injection hl with hl
       have:u'=u:=pair_inj N0.srt um' um (pr_pair (hl.symm.trans eu.symm))
       subst this
       exact⟨ev,lw⟩
    ·rintro zs H6 _ ⟨k6,B6,fs,yl,fl,hfs⟩ D hD
     rw[zA]at yl fl B6
     have mul1:=Nat.mul_le_mul_right (cost d) (show las.length<=6 by lia)
     have sD:=Same.new (o:=.lst zs) hD
     have Dp:=B6.ne hD
     have gD:(upd H6 D (.lst zs)) D=some (.lst zs):=upd_same
     have kD:Kept p H6 (upd H6 D (.lst zs)):=fun b o _ e=>sD b o e
     have BD:=B6.same sD
     generalize (upd H6 D (.lst zs))=H7 at gD kD BD
     have gl7:=(k6.trans kD) _ _ lp gl5
     refine⟨_,rfl,_,rfl,_,rfl,l,_,rfl,gl7,fun tw htw=>⟨(by show 2<=sizeLine;decide),fun pp hpp=>?_⟩⟩
     have s1:=Same.new (o:=.tup (way.map V.int)) htw
     have s2:=Same.new (o:=.lst [.ref l,.ref tw]) hpp
     have s12:=s1.trans s2
     have gtw:(upd (upd H7 tw (.tup (way.map V.int))) pp (.lst [.ref l,.ref tw])) tw=some (.tup (way.map V.int)):=s2 _ _ upd_same
     have gpp:(upd (upd H7 tw (.tup (way.map V.int))) pp (.lst [.ref l,.ref tw])) pp=some (.lst [.ref l,.ref tw]):=upd_same
     have twp:=BD.ne htw
     have ppp:=(BD.same s1).ne hpp
     have B8:=BD.same s12
     have k8:Kept p H6 (upd (upd H7 tw (.tup (way.map V.int))) pp (.lst [.ref l,.ref tw])):=kD.trans fun b o _ e=>s12 b o e
     have gl8:=s12 _ _ gl7
     have gD8:=s12 _ _ gD
     generalize (upd (upd H7 tw (.tup (way.map V.int))) pp (.lst [.ref l,.ref tw]))=H8 at gtw gpp B8 k8 gl8 gD8
     clear s1 s2 s12 htw hpp gl7 gD kD BD sD hD
     refine⟨_,rfl,p,2,_,rfl,B8,by lia,by decide,by decide,fun z H9 z0 z1 B9 k9=>?_⟩
     obtain⟨b,lw,atz,gz,lwp⟩:∃ (b:Bool) (lw:Addr),atI [V.ref l,V.ref tw] z=some (V.ref lw)/\SIs b H9 lw (way.map V.int)/\lw≠p:=by
      obtain rfl | rfl:z=0\/z=1:=by lia
      ·exact⟨false,l,at0,k9 _ _ lp gl8,lp⟩
      ·exact⟨true,tw,at1,k9 _ _ twp gtw,twp⟩
     refine⟨pp,_,z,_,rfl,rfl,k9 _ _ ppp gpp,atz,_,rfl,D,_,rfl,k9 _ _ Dp gD8,fun ta hta=>⟨(by show 4<=sizeLine;decide),fun a ha=>?_⟩⟩
     have st:=Same.new (o:=.tup zs) hta
     have gta:(upd H9 ta (.tup zs)) ta=some (.tup zs):=upd_same
     have tap:=B9.ne hta
     have B10:=B9.same st
     have k10:Kept p H6 (upd H9 ta (.tup zs)):=k8.trans (k9.trans fun b o _ e=>st b o e)
     have gz10:=gz.same st
     generalize (upd H9 ta (.tup zs))=H10 at gta B10 k10 gz10 ha
     clear st hta
     have sa:=Same.new (o:=.tup [.str "way",.int num,.ref lw,.ref ta]) ha
     have ap:=B10.ne ha
     have k11:Kept p H6 (upd H10 a (.tup [.str "way",.int num,.ref lw,.ref ta])):=k10.trans fun b o _ e=>sa b o e
     have gz11:=gz10.same sa
     have gta11:=sa _ _ gta
     have kE:=kept_wo k11
     refine fin (.ref a) _ _ (.inr (.inr (.inr ⟨a,lw,ta,b,num,x,y,way,zs,fs,rfl,wo_some ap upd_same,by cases b <;> exact wo_some lwp gz11,wo_some tap gta11,nm,pth,⟨by lia,nd⟩,fun e=>l0 (List.length_eq_zero_iff.mp (by rw[pll,e];rfl)),by lia,by lia,fun i u r g um hl hr' hg=>((hfs i u r g um hl hr' hg).1).to kE,rfl⟩))) (fun low=>?_) ((B10.same sa).mono (by lia)) (k5.trans (k6.trans k11))
     refine zBI.mpr fun g hg=>?_
     obtain⟨i,hi,rfl⟩:=zBT hg
     obtain⟨u,um,eu,_⟩:=qn i (by lia)
     refine(hfs i u (zs[i]'(by lia)) fs[i] um (by rw[zF (by lia),eu]) (zF (by lia)) (zF hi)).2 fun X cv pr=>low X ⟨fun c hc=>cv.on c (zV _ hc),fun x hx h=>cv.off x hx (zV _ h)⟩ pr
theorem all_gr{f g g1 g2 g3:Addr}{fd gd d1 d2 d3:FuncData}(F:Fun K "_law_grown" "_law_grown" sGrown f fd)(T:Txt mg)(T2:Txt2 mg)(TK:TakeF P w K mg base g gd)(GE:CalF P w K mg base 1 "_law_weigh" ["_law_web_here","_law_cut"] spWe g1 d1)(GS:CalF P w K mg base 2 "_law_some_way" ["_law_box_here","_law_web_here","_law_cut","_law_pair"] spSo g2 d2)(GT:CalF P w K mg base 1 "_law_ties" ["_law_way"] spLt g3 d3)(mG:mg "_law_grown" = some (.ref f))(kG:PySem.W.keepIn K (.ref f)=true)(bG:Binds K fd ["_law_box_here","_law_case","_law_cut","_law_kept"] []):∀ d:Nat,FnOk P w K mg base CX0 (d+3) f fd ["_law_box_here","_law_case","_law_cut","_law_kept"] (spGr d)
 | 0=>by
  refine⟨fun vs H Q E h=>?_,fun A outer s H args us vs Q E hr he hb hv h=>?_⟩
  ·obtain⟨p,ca,t,q,c,k,n,N,v,ties,cts,as,cas,kas,prs,kp,rfl,_,_,_,N0,hd,_⟩:=h
   have:=nodup_le N0.C.nd N0.C.sub
   lia
  ·obtain⟨p,ca,t,q,c,k,n,N,v,ties,cts,as,cas,kas,prs,kp,rfl,_,_,_,N0,hd,_⟩:=h
   have:=nodup_le N0.C.nd N0.C.sub
   lia
 |d+1=>step_gr F T T2 TK GE GS GT ⟨all_gr F T T2 TK GE GS GT mG kG bG d,mG,kG,bG⟩
theorem ok_gr{f g g1 g2 g3:Addr}{fd gd d1 d2 d3:FuncData}(F:Fun K "_law_grown" "_law_grown" sGrown f fd)(T:Txt mg)(T2:Txt2 mg)(TK:TakeF P w K mg base g gd)(GE:CalF P w K mg base 1 "_law_weigh" ["_law_web_here","_law_cut"] spWe g1 d1)(GS:CalF P w K mg base 2 "_law_some_way" ["_law_box_here","_law_web_here","_law_cut","_law_pair"] spSo g2 d2)(GT:CalF P w K mg base 1 "_law_ties" ["_law_way"] spLt g3 d3)(mG:mg "_law_grown" = some (.ref f))(kG:PySem.W.keepIn K (.ref f)=true)(bG:Binds K fd ["_law_box_here","_law_case","_law_cut","_law_kept"] []):FnOk P w K mg base CX0 16 f fd ["_law_box_here","_law_case","_law_cut","_law_kept"] (spGr 13):=by
 exact all_gr F T T2 TK GE GS GT mG kG bG 13
end
open PySem L2 PyProof.Rows
structure Txt3(mg:Str->Option Value):Prop where
 any:mg "any" = none
 set:mg "set" = none
inductive spLawI(K:PySem.W.Frag)(vs:List V)(H:Hp)(Q:VK):Prop where
 |mk (a:Addr) (ns:List Int) (h1:vs=[.ref a]) (h2:SqL K H a (ns.map V.int)) (h3:ns.length<=63) (h4:∀ H',Q (.bl true) H')
noncomputable def spLaw(K:PySem.W.Frag):Sp:=fun vs H Q _=>spLawI K vs H Q
structure Fs(P:Program)(w:World)(K:PySem.W.Frag)(mg:Str->Option Value)(base:Heap)(g1 g2 g3 g4 g5 g6 g7 g8:Addr)(d1 d2 d3 d4 d5 d6 d7 d8:FuncData):Prop where
 box:CalF P w K mg base 2 "_law_box" ["_law_script","_law_k"] (spBox K) g1 d1
 sw:CalF P w K mg base 4 "_law_small_web" ["_law_box_here","_law_many"] spSw g2 d2
 prs:CalF P w K mg base 2 "_law_pairs" ["_law_box_here","_law_many","_law_most"] spPr g3 d3
 lp:CalF P w K mg base 1 "_law_least_pairs" ["_law_web_here","_law_pairs_here"] spLp g4 d4
 lf:CalF P w K mg base 17 "least_for_pairs" ["web","pairs"] (spLf K) g5 d5
 sh:CalF P w K mg base 32 "shows_for_pairs" ["web","pairs","told"] (spSh K) g6 d6
 gr:CalF P w K mg base 16 "_law_grown" ["_law_box_here","_law_case","_law_cut","_law_kept"] (spGr 13) g7 d7
 we:CalF P w K mg base 1 "_law_weigh" ["_law_web_here","_law_cut"] spWe g8 d8
theorem cost13:cost 13=287335268330:=by decide +kernel
structure Sit(t q:Addr)(n:Nat)(ties:List Tie)(as:List Addr)(prs:List (Int×Int))(bl:Addr)(bas:List Addr)(bts:List Tie)(G:Hp):Prop where
 W:WebAt G t n ties
 gq:G q=some (.lst (as.map V.ref))
 pp:Paired (PrAt G) as prs
 gb:G bl=some (.lst (bas.map V.ref))
 pb:PairT G bas bts
theorem Sit.kept{t q bl p:Addr}{n N:Nat}{ties bts:List Tie}{as bas:List Addr}{prs:List (Int×Int)}{G G':Hp}(h:Sit t q n ties as prs bl bas bts G)(B:BoxAt G p N)(k:Kept p G G'):Sit t q n ties as prs bl bas bts G' :=
 ⟨web_kept h.W B k,k _ _ (ref_ne B h.gq) h.gq,pair_ne B k h.pp,k _ _ (ref_ne B h.gb) h.gb,Paired.mapP h.pb fun _ _ e=>k _ _ (tup_ne B e) e⟩
theorem Sit.same{t q bl:Addr}{n:Nat}{ties bts:List Tie}{as bas:List Addr}{prs:List (Int×Int)}{G G':Hp}(h:Sit t q n ties as prs bl bas bts G)(s:Same G G'):Sit t q n ties as prs bl bas bts G' :=
 ⟨h.W.same s,s _ _ h.gq,Paired.mapP h.pp fun _ _ e=>s _ _ e,s _ _ h.gb,h.pb.same s⟩
theorem rch_mono{T T':List Tie}(h:∀ x∈T,x∈T'){a b:Int}(r:Rch T a b):Rch T' a b:=by
 induction r with
 |refl=>exact .refl _
 |up m _ ih=>exact .up (h _ m) ih
 |dn m _ ih=>exact .dn (h _ m) ih
theorem bts_X{ties bts:List Tie}{prs:List (Int×Int)}(srt:ties.Pairwise tieLt)(C:Cts ties bts)(pt:Parted ties prs bts):∃ X,Prt ties prs X/\wX ties X=wt bts:=by
 refine⟨fun x=>decide (x∈bts),fun z hz r=>pt z hz (rch_mono (fun x hx=>?_) r),wt_perm ((List.perm_ext_iff_of_nodup ((srt_nd srt).filter _) C.nd).mpr fun x=>?_)⟩
 ·obtain⟨h1,h2⟩:=zAL.mp hx
  refine mem_rest.mpr ⟨h1,fun h=>?_⟩
  obtain⟨y,hy,e⟩:=zAA.mp h
  have:x∈bts:=pair_inj srt (C.sub y hy) h1 e▸hy
  have h2:(!decide (x∈bts))=true:=h2
  rw[decide_eq_true this]at h2
  cases h2
 ·rw[zAL,decide_eq_true_eq]
  exact⟨fun h=>h.2,fun h=>⟨C.sub x h,h⟩⟩
theorem wo_to{p:Addr}{H:Hp}:∀ a o,wo p H a=some o->H a=some o:=fun a o e=>wo_same a o e
section
variable{P:Program}{w:World}{K:PySem.W.Frag}{mg:Str->Option Value}{base:Heap}
noncomputable abbrev nLaw:List Str:=["_law_script","_law_k","_law_box_here","_law_web_here","_law_pairs_here","_law_least","_law_told","_law_tree","_law_pair","_law_cut","_law_weight_here","_law_some"]
theorem scLaw:FnScope nLaw ["_law_script"] (defScope sLaw):=⟨rfl,rfl,rfl,by decide +kernel,rfl,by decide +kernel,by decide +kernel⟩
theorem csLaw1:CompScope ["_law_tie","_law_told"] [none,some 6] nLaw (defScope sLaw) (scO [(".0",.local),("_law_tie",.local),("_law_told",.free)]):=⟨rfl,by decide +kernel,by decide +kernel,by decide +kernel,rfl,capB_ok (by decide +kernel)⟩
theorem ndLaw1:(["_law_tie","_law_told"]:List Str).Nodup:=by decide +kernel
theorem ok_law{f g g1 g2 g3 g4 g5 g6 g7 g8:Addr}{fd gd d1 d2 d3 d4 d5 d6 d7 d8:FuncData}(F:Fun K "law" "law" sLaw f fd)(T:Txt mg)(TK:TakeF P w K mg base g gd)(S:Fs P w K mg base g1 g2 g3 g4 g5 g6 g7 g8 d1 d2 d3 d4 d5 d6 d7 d8):FnOk P w K mg base CX0 33 f fd ["_law_script"] (spLaw K):=by
 refine F.ok scLaw (fun vs H Q E h=>?_) (fun cdv A outer s H vs Q E hr h=>?_)
 ·obtain⟨a,ns,rfl,_⟩:=h
  rfl
 ·obtain⟨a,ns,rfl,hS,hlen,q⟩:=h
  have hr32:Room 32 _:=hr
  have hr17:Room 17 _:=hr.mono (by decide)
  have hr16:Room 16 _:=hr.mono (by decide)
  have hr4:Room 4 _:=hr.mono (by decide)
  have hr2:Room 2 _:=hr.mono (by decide)
  have hr1:Room 1 _:=hr.mono (by decide)
  have hu:=hu_of hr
  refine⟨_,(pss_cons (ps_for PassesOwn.never rfl (pi_range1 rfl T.range (@pa_call _ _ _ _ _ _ _ _ (pe_callB (call_max2 rfl) (by rfl) T.max boot_max (@pa_cst _ _ _ _ _ _ _ pe_int (@pa_call _ _ _ _ _ _ _ _ (pe_callB (call_min2 rfl) (by rfl) T.min boot_min (@pa_call _ _ _ _ _ _ _ _ (pe_callB call_len_seq (by rfl) T.len PySem.boot_len (@pa_nam _ _ _ _ _ _ (pvQ 0) pa_nil)) (@pa_cst _ _ _ _ _ _ _ pe_int pa_nil))) pa_nil))) pa_nil)) (pg_name (i:=1) scLaw.nd rfl (Or.inl rfl))
   (pss_cons (ps_set (i:=2) scLaw.nd rfl (Or.inl rfl) (pe_call S.box.ok hr2 rfl S.box.mg S.box.kp S.box.bd .nil pass0 (@pa_nam _ _ _ _ _ _ (pvQ 0) (@pa_nam _ _ _ _ _ _ (pvQ 1) pa_nil))))
   (pss_cons (ps_set (i:=3) scLaw.nd rfl (Or.inl rfl) (pe_call S.sw.ok hr4 rfl S.sw.mg S.sw.kp S.sw.bd .nil pass0 (@pa_nam _ _ _ _ _ _ (pvQ 2) (@pa_bin _ _ _ _ _ _ _ _ (pe_op op_add pe_int (pe_call TK.ok hr1 rfl TK.mg TK.kp TK.bd .nil pass0 (@pa_nam _ _ _ _ _ _ (pvQ 2) (@pa_cst _ _ _ _ _ _ _ pe_int pa_nil)))) pa_nil))))
   (pss_cons (ps_set (i:=4) scLaw.nd rfl (Or.inl rfl) (pe_call S.prs.ok hr2 rfl S.prs.mg S.prs.kp S.prs.bd .nil pass0 (@pa_nam _ _ _ _ _ _ (pvQ 2) (@pa_sub _ _ _ _ _ _ _ (@pe_ix _ _ _ _ _ _ _ ix_tupH (pvQ 3) pe_int (fun _ _=>rfl)) (@pa_cst _ _ _ _ _ _ _ pe_int pa_nil)))))
   (pss_cons (ps_set (i:=5) scLaw.nd rfl (Or.inl rfl) (pe_call S.lp.ok hr1 rfl S.lp.mg S.lp.kp S.lp.bd .nil pass0 (@pa_nam _ _ _ _ _ _ (pvQ 3) (@pa_nam _ _ _ _ _ _ (pvQ 4) pa_nil))))
   (pss_cons (ps_set (i:=6) scLaw.nd rfl (Or.inr rfl) (pe_call S.lf.ok hr17 rfl S.lf.mg S.lf.kp S.lf.bd .nil pass0 (@pa_nam _ _ _ _ _ _ (pvQ 3) (@pa_nam _ _ _ _ _ _ (pvQ 4) pa_nil))))
   (pss_cons (ps_set (i:=7) scLaw.nd rfl (Or.inl rfl) (pe_call S.gr.ok hr16 rfl S.gr.mg S.gr.kp S.gr.bd .nil pass0 (@pa_nam _ _ _ _ _ _ (pvQ 2) (@pa_tup _ _ _ _ _ _ _ (@pe_tup _ _ _ _ _ (@pa_nam _ _ _ _ _ _ (pvQ 3) (@pa_nam _ _ _ _ _ _ (pvQ 4) (@pa_nam _ _ _ _ _ _ (pvQ 5) pa_nil)))) (@pa_lst _ _ _ _ _ _ (@pe_lst _ _ _ _ pa_nil) (@pa_lst _ _ _ _ _ _ (@pe_lst _ _ _ _ pa_nil) pa_nil))))))
   (pss_cons (ps_if (pt_cmpR op_isnotB (pe_call S.sh.ok hr32 rfl S.sh.mg S.sh.kp S.sh.bd .nil pass0 (@pa_nam _ _ _ _ _ _ (pvQ 3) (@pa_sub _ _ _ _ _ _ _ (@pe_ix _ _ _ _ _ _ _ ix_listH (@pe_lst _ _ _ _ (@pa_nam _ _ _ _ _ _ (pvQ 4) (@pa_call _ _ _ _ _ _ _ _ (pe_callTy call_tupleH (by rfl) T.tuple boot_tuple (@pa_nam _ _ _ _ _ _ (pvQ 4) pa_nil)) pa_nil))) (pe_call TK.ok hr1 rfl TK.mg TK.kp TK.bd .nil pass0 (@pa_nam _ _ _ _ _ _ (pvQ 2) (@pa_cst _ _ _ _ _ _ _ pe_int pa_nil))) (fun _ _=>rfl)) (@pa_tup _ _ _ _ _ _ _ (@pe_tup _ _ _ _ _ (@pa_nam _ _ _ _ _ _ (pvQ 5) (@pa_sub _ _ _ _ _ _ _ (@pe_ix _ _ _ _ _ _ _ ix_tupH (pvQ 6) pe_int (fun _ _=>rfl)) (@pa_nam _ _ _ _ _ _ (pvQ 7) pa_nil)))) pa_nil)))) pe_bl (nomark _)) pss_never pss_nil)
   (pss_one (ps_for PassesOwn.never rfl (pi_list (pe_slice sl_list (pe_comp rfl csLaw1 (pi_tup (@pe_ix _ _ _ _ _ _ _ ix_tupH (pvQ 3) pe_int (fun _ _=>rfl))) (fun C s H fp=>(pg_name (i:=0) ndLaw1 rfl (Or.inl rfl))) (fun C s H fp=>(pf_one (pt_cmpR (op_notInT hu) (pe_slice sl_tupA (pvQ 0) po_none (po_some pe_int)) (@pe_ix _ _ _ _ _ _ _ ix_tupH (pvQ 1) pe_int (fun _ _=>rfl)) rfl))) (fun C s H fp=>(pe_slice sl_tupA (pvQ 0) po_none (po_some pe_int)))) po_none (po_some pe_int))) (pg_name (i:=8) scLaw.nd rfl (Or.inl rfl))
   (pss_cons (ps_set (i:=9) scLaw.nd rfl (Or.inl rfl) (pe_callB call_sortedTZ (by rfl) T.sorted boot_sorted (@pa_bin _ _ _ _ _ _ _ _ (pe_op op_cat (@pe_ix _ _ _ _ _ _ _ ix_tupH (pvQ 6) pe_int (fun _ _=>rfl)) (@pe_lst _ _ _ _ (@pa_nam _ _ _ _ _ _ (pvQ 8) pa_nil))) pa_nil)))
   (pss_cons (ps_set (i:=10) scLaw.nd rfl (Or.inl rfl) (pe_call S.we.ok hr1 rfl S.we.mg S.we.kp S.we.bd .nil pass0 (@pa_nam _ _ _ _ _ _ (pvQ 3) (@pa_nam _ _ _ _ _ _ (pvQ 9) pa_nil))))
   (pss_one (ps_for PassesOwn.never rfl (pi_tup (@pe_tup _ _ _ _ _ (@pa_nam _ _ _ _ _ _ (pvQ 7) (@pa_sub _ _ _ _ _ _ _ (@pe_ix _ _ _ _ _ _ _ ix_tupH (pvQ 6) pe_int (fun _ _=>rfl)) (@pa_call _ _ _ _ _ _ _ _ (pe_call S.gr.ok hr16 rfl S.gr.mg S.gr.kp S.gr.bd .nil pass0 (@pa_nam _ _ _ _ _ _ (pvQ 2) (@pa_tup _ _ _ _ _ _ _ (@pe_tup _ _ _ _ _ (@pa_nam _ _ _ _ _ _ (pvQ 3) (@pa_nam _ _ _ _ _ _ (pvQ 4) (@pa_nam _ _ _ _ _ _ (pvQ 10) pa_nil)))) (@pa_lst _ _ _ _ _ _ (@pe_lst _ _ _ _ pa_nil) (@pa_lst _ _ _ _ _ _ (@pe_lst _ _ _ _ pa_nil) pa_nil))))) pa_nil))))) (pg_name (i:=11) scLaw.nd rfl (Or.inl rfl))
   (pss_one (ps_if (pt_cmpR op_isnotB (pe_call S.sh.ok hr32 rfl S.sh.mg S.sh.kp S.sh.bd .nil pass0 (@pa_nam _ _ _ _ _ _ (pvQ 3) (@pa_nam _ _ _ _ _ _ (pvQ 4) (@pa_tup _ _ _ _ _ _ _ (@pe_tup _ _ _ _ _ (@pa_nam _ _ _ _ _ _ (pvQ 10) (@pa_nam _ _ _ _ _ _ (pvQ 9) (@pa_nam _ _ _ _ _ _ (pvQ 11) pa_nil)))) pa_nil)))) pe_bl (nomark _)) pss_never pss_nil))))))))))))))))
   (pss_one (ps_ret pe_bl))),?_⟩
  refine⟨a,_,rfl,.inl hS,_,_,rfl,_,_,rfl,_,rfl,?_,?_,?_⟩
  ·split <;> split <;> lia
  ·split <;> split <;> lia
  generalize (if(if(4:Int) <((ns.map V.int).length:Int)then(4:Int)else((ns.map V.int).length:Int)) > 2 then(if(4:Int) <((ns.map V.int).length:Int)then(4:Int)else((ns.map V.int).length:Int))else 2).toNat=turns
  refine for_range (lo:=0) (n:=turns) (fun i σ H'=>Ex11 fun(v1 v2 v3 v4 v5 v6 v7 v8 v9 v10 v11:Option V)=>σ=[some (.ref a),v1,v2,v3,v4,v5,v6,v7,v8,v9,v10,v11]/\Same H H') ⟨_,_,_,_,_,_,_,_,_,_,_,rfl,Same.refl _⟩ ?_ ?_
  ·rintro i σ H0 hi ⟨v1,v2,v3,v4,v5,v6,v7,v8,v9,v10,v11,rfl,s0⟩
   refine⟨a,ns,0+i,by rw[Int.zero_add,Nat.zero_add];rfl,s0.seq hS,fun p H1 hp B1 k1=>?_⟩
   refine⟨p,6,0,rfl,B1,by decide,by decide,by decide,fun z H2 z0 z1 B2 k2=>⟨_,_,rfl,rfl,?_⟩⟩
   obtain⟨n,en⟩:∃ n:Nat,2+z=(n:Int):=⟨(2+z).toNat,by lia⟩
   have n7:n<=7:=by lia
   have n1:1<=n:=by lia
   refine⟨p,n,_,by rw[<- en];rfl,B2,by lia,n1,by lia,fun t ties H3 ht W3 ok srt l12 B3 k3=>?_⟩
   obtain⟨⟨ts,tas,h1,h2,h3⟩,len⟩:=id W3
   refine⟨t,_,_,_,rfl,rfl,h1,at0,?_⟩
   refine⟨p,n,_,5,rfl,B3,by lia,n1,by lia,by decide,by decide,fun pl as prs H4 hpl gpl pr po prl B4 k4=>?_⟩
   have W4:=W3.kept B3 k4
   have k04:=k1.trans (k2.trans (k3.trans k4))
   have s4:Same H H4:=s0.trans (Kept.same hp k04)
   have asl:as.length=prs.length:=Paired.length pr
   refine⟨t,pl,n,ties,as,prs,rfl,W4,ok,n7,gpl,pr,by lia,po,fun due H5 LP s45=>?_⟩
   have pr5:Paired (PrAt H5) as prs:=Paired.mapP pr fun _ _ h=>s45 _ _ h
   refine⟨t,pl,n,ties,false,as,prs,rfl,⟨W4.same s45,ok,srt,l12,by lia,SqL.of (s45 _ _ gpl),pr5,by lia,po⟩,fun r bl bw bts bas tr H6 gr gb pb ew C sr pt le en s56=>?_⟩
   have edue:bw=due:=LP.eq ok srt po ew C pt le
   subst edue
   have s46:=s45.trans s56
   have B5:=B4.same s45
   have B6:=B5.same s56
   have k06:Kept p H0 H6:=k04.trans fun b o _ e=>s46 b o e
   have St:Sit t pl n ties as prs bl bas bts H6:=⟨W4.same s46,s46 _ _ gpl,Paired.mapP pr fun _ _ h=>s46 _ _ h,gb,pb⟩
   have rp:=tup_ne B6 gr
   obtain⟨f0,ev0⟩:=(en.to (E':=wo p H6) (fun a o h=>by
    obtain⟨h1,h2⟩:=nw_to h
    refine wo_some (fun e=>?_) h2
    obtain⟨x1,x2,x3,x4,_⟩:=B5
    rw[e,x4]at h1
    cases h1) (zAZ _)).ev ok srt
   have c12:=nodup_le C.nd C.sub
   have nn:∀ x∈ties,0<=x.2.2:=fun x hx=>by have:=(ok x hx).2.2.2;lia
   clear k04 k1 k2 k3 k4 W3 W4 h1 h2 h3 B1 B2 B3 B4 B5 s4 s45 s56 s46 gpl pr pr5 hpl gb pb en LP
   refine⟨(by show 3<=sizeLine;decide),fun ca hca=>⟨(by show 0<=sizeLine;decide),fun c hc=>⟨(by show 0<=sizeLine;decide),fun k hk=>?_⟩⟩⟩
   have sca:=Same.new (o:=.tup [.ref t,.ref pl,.int bw]) hca
   have scc:=Same.new (o:=.lst []) hc
   have sck:=Same.new (o:=.lst []) hk
   have gca:(upd (upd (upd H6 ca (.tup [.ref t,.ref pl,.int bw])) c (.lst [])) k (.lst [])) ca=some (.tup [.ref t,.ref pl,.int bw]):=sck _ _ (scc _ _ upd_same)
   have gc:(upd (upd (upd H6 ca (.tup [.ref t,.ref pl,.int bw])) c (.lst [])) k (.lst [])) c=some (.lst (([]:List Addr).map V.ref)):=sck _ _ upd_same
   have gk:(upd (upd (upd H6 ca (.tup [.ref t,.ref pl,.int bw])) c (.lst [])) k (.lst [])) k=some (.lst (([]:List Addr).map V.ref)):=upd_same
   have s3:=sca.trans (scc.trans sck)
   generalize (upd (upd (upd H6 ca (.tup [.ref t,.ref pl,.int bw])) c (.lst [])) k (.lst []))=H6' at s3 gca gc gk
   clear sca scc sck hca hc hk
   have k6:Kept p H6 H6':=fun b o _ e=>s3 b o e
   have B6':=B6.same s3
   have St':=St.same s3
   have big:=cost13
   refine⟨p,ca,t,pl,c,k,n,_,bw,ties,[],as,[],[],prs,[],rfl,gca,B6',by rw[big];decide,⟨St'.W,ok,srt,l12,n7,St'.gq,St'.pp,prl,po,gc,.nil,⟨zAS,fun x hx=>nomatch hx⟩,gk,.nil,zAQ _,fun x hx=>nomatch hx⟩,by show ties.length<0+13;lia,fun tr1 f1 H7 ev1 lw B7 k7=>?_⟩
   have hf1:f1 bw=true:=lw fun X _ px=>le X px
   have k67:=k6.trans k7
   have St7:=St.kept B6 k67
   have gr7:=k67 _ _ rp gr
   have ev07:=ev0.to (kept_wo k67)
   have k07:=k06.trans k67
   clear St' gca gc gk s3 k6 B6' k7 lw
   refine⟨pl,_,rfl,St7.gq,fun tq htq=>⟨(by show 2<=sizeLine;decide),fun pp hpp=>?_⟩⟩
   have s1:=Same.new (o:=.tup (as.map V.ref)) htq
   have s2:=Same.new (o:=.lst [.ref pl,.ref tq]) hpp
   have s12:=s1.trans s2
   have gtq:(upd (upd H7 tq (.tup (as.map V.ref))) pp (.lst [.ref pl,.ref tq])) tq=some (.tup (as.map V.ref)):=s2 _ _ upd_same
   have gpp:(upd (upd H7 tq (.tup (as.map V.ref))) pp (.lst [.ref pl,.ref tq])) pp=some (.lst [.ref pl,.ref tq]):=upd_same
   have tqp:=B7.ne htq
   have ppp:=(B7.same s1).ne hpp
   have B8:=B7.same s12
   have k78:Kept p H7 (upd (upd H7 tq (.tup (as.map V.ref))) pp (.lst [.ref pl,.ref tq])):=fun b o _ e=>s12 b o e
   generalize (upd (upd H7 tq (.tup (as.map V.ref))) pp (.lst [.ref pl,.ref tq]))=H8 at gtq gpp B8 k78
   clear s1 s2 s12 htq hpp
   refine⟨p,2,_,rfl,B8,by rw[big];decide,by decide,by decide,fun z' H9 z0' z1' B9 k89=>?_⟩
   have k79:=k78.trans k89
   have St9:=St7.kept B7 k79
   have gr9:=k79 _ _ rp gr7
   obtain⟨zb,lw,atz,gz⟩:∃ (zb:Bool) (lw:Addr),atI [V.ref pl,V.ref tq] z'=some (V.ref lw)/\SIs zb H9 lw (as.map V.ref):=by
    obtain rfl | rfl:z'=0\/z'=1:=by lia
    ·exact⟨false,pl,at0,St9.gq⟩
    ·exact⟨true,tq,at1,k89 _ _ tqp gtq⟩
   have ev19:=ev1.to (kept_wo k79)
   have ev09:=ev07.to (kept_wo k79)
   have k09:=k07.trans k79
   refine⟨pp,_,z',_,rfl,rfl,k89 _ _ ppp gpp,atz,r,_,_,_,rfl,rfl,gr9,at1,(by show 3<=sizeLine;decide),fun tt htt=>?_⟩
   have st:=Same.new (o:=.tup [.int bw,.ref bl,tr1]) htt
   have Stt:=St9.same st
   refine⟨zb,t,lw,tt,bl,n,ties,bts,as,bas,prs,bw,tr1,f1,rfl,⟨Stt.W,ok,srt,l12,by lia,(gz.same st).sqB,Stt.pp,by lia,po⟩,gz.same st,upd_same,Stt.gb,Stt.pb,ew,C,sr,pt,ev19.to fun a o h=>st _ _ (wo_to a o h),fun H10 s10=>?_⟩
   rw[hf1]
   refine⟨_,_,rfl,rfl,_,rfl,iteNS rfl ?_⟩
   have s9:=st.trans s10
   have k910:Kept p H9 H10:=fun b o _ e=>s9 b o e
   have St10:=St9.same s9
   have gr10:=s9 _ _ gr9
   have ev110:=ev19.to (kept_wo k910)
   have ev010:=ev09.to (kept_wo k910)
   have B10:=B9.same s9
   have k10:=k09.trans k910
   clear St7 St9 gr7 gr9 ev07 ev09 ev19 k07 k09 k67 k78 k79 k89 k910 s9 st Stt htt gz atz gpp gtq B7 B8 B9 ev1 ev0 St gr B6 k06 s10
   obtain⟨⟨ts,tas,h1,h2,h3⟩,len⟩:=id St10.W
   have h3l:tas.length=ties.length:=h3.length
   refine⟨t,_,_,_,rfl,rfl,h1,at1,ts,rfl,⟨_,SqT.of h2⟩,?_⟩
   refine comp_tup (K:=K) (a:=ts) (xs:=tas.map V.ref) (fun j zs G=>Same H10 G/\∃ us:List Addr,zs=us.map V.ref/\us.length<=j/\∀ u∈us,∃ x∈ties,G u=some (pairO x)/\pairOf x∉bts.map pairOf) (by rw[zA,sizeLine_eq];lia) ⟨Same.refl _,[],rfl,zI _,(fun _ h=>nomatch h)⟩ (fun j zs G _ z=>SqT.of (z.1 _ _ h2)) ?_ ?_
   ·rintro j xv zs G hx ⟨sG,us,rfl,ul,hus⟩
    obtain⟨il,e⟩:=zE.mp hx
    rw[zA]at il
    rw[zR]at e
    subst e
    have it:j<ties.length:=by lia
    have gx:=sG _ _ (Paired.at h3 j il it)
    refine⟨⟨rfl,trivial⟩,?_⟩
    refine⟨2,rfl,tas[j],_,rfl,gx,fun u1 G1 sm1 gu1=>?_⟩
    have gu1:G1 u1=some (.tup [.int ties[j].1,.int ties[j].2.1]):=gu1
    have s1:=sG.trans sm1
    refine⟨r,_,_,_,rfl,rfl,s1 _ _ gr10,at1,u1,bl,bas,bts.map pairOf,[ties[j].1,ties[j].2.1],rfl,rfl,gu1,s1 _ _ St10.gb,pair_tups (St10.pb.same s1),_,rfl,?_⟩
    refine ite2 (fun hc=>?_) (fun hc=>?_)
    ·have hc:(!decide ([ties[j].1,ties[j].2.1]∈bts.map pairOf))=true:=hc
     refine⟨2,rfl,tas[j],_,rfl,sm1 _ _ gx,fun u2 G2 sm2 gu2=>?_⟩
     have gu2:G2 u2=some (pairO ties[j]):=gu2
     have s12:=sm1.trans sm2
     refine⟨sG.trans s12,us++[u2],by rw[zJ];rfl,by rw[zK,zX];lia,fun u hu=>?_⟩
     rcases zO.mp hu with h | h
     ·obtain⟨x,hx,gx,nx⟩:=hus u h
      exact⟨x,hx,s12 _ _ gx,nx⟩
     ·rw[zD.mp h]
      refine⟨ties[j],zU it,gu2,fun z=>?_⟩
      have z:[ties[j].1,ties[j].2.1]∈bts.map pairOf:=z
      rw[decide_eq_true z]at hc
      cases hc
    ·refine⟨s1,us,rfl,by lia,fun u hu=>?_⟩
     obtain⟨x,hx,gx,nx⟩:=hus u hu
     exact⟨x,hx,sm1 _ _ gx,nx⟩
   rintro zs G _ ⟨sG,us,rfl,ul,hus⟩ D hD
   have sD:=Same.new (o:=.lst (us.map V.ref)) hD
   refine⟨2,rfl,D,_,rfl,SqL.of upd_same,fun D2 hD2=>?_⟩
   rw[show(2:Int)=((2:Nat):Int)from rfl,cut_to,<- List.map_take]
   have sD2:=Same.new (o:=.lst ((us.take 2).map V.ref)) hD2
   have gD2:(upd (upd G D (.lst (us.map V.ref))) D2 (.lst ((us.take 2).map V.ref))) D2=some (.lst ((us.take 2).map V.ref)):=upd_same
   have D2p:=((B10.same sG).same sD).ne hD2
   have sE:=sG.trans (sD.trans sD2)
   have hus2:∀ u∈us.take 2,∃ x∈ties,(upd (upd G D (.lst (us.map V.ref))) D2 (.lst ((us.take 2).map V.ref))) u=some (pairO x)/\pairOf x∉bts.map pairOf:=fun u hu=>by
    obtain⟨x,hx,gx,nx⟩:=hus u (List.mem_of_mem_take hu)
    exact⟨x,hx,sD2 _ _ (sD _ _ gx),nx⟩
   have k11:Kept p H10 (upd (upd G D (.lst (us.map V.ref))) D2 (.lst ((us.take 2).map V.ref))):=fun b o _ e=>sE b o e
   have B11:=B10.same sE
   have St11:=St10.same sE
   have gr11:=sE _ _ gr10
   generalize (upd (upd G D (.lst (us.map V.ref))) D2 (.lst ((us.take 2).map V.ref)))=H11 at gD2 hus2 k11 B11 St11 gr11
   have ev111:=ev110.to (kept_wo k11)
   have ev011:=ev010.to (kept_wo k11)
   have k011:=k10.trans k11
   have ul2:(us.take 2).length<=2:=by rw[zAH];lia
   generalize us.take 2=us2 at gD2 hus2 ul2
   clear St10 gr10 ev110 ev010 k10 k11 sD sD2 sE sG hus hD hD2 h1 h2 h3 B10
   refine⟨D2,rfl,⟨_,SqL.of gD2⟩,?_⟩
   refine for_list (K:=K) (a:=D2) (xs:=us2.map V.ref) (fun j σ G=>Ex4 fun(v8 v9 v10 v11:Option V)=>σ=[some (.ref a),some (.int (0+(i:Int))),some (.ref p),some (.ref t),some (.ref pl),some (.int bw),some (.ref r),some tr1,v8,v9,v10,v11]/\Kept p H11 G/\BoxAt G p (3000+cost 13+j * cost 13)) ⟨_,_,_,_,rfl,Kept.refl,B11.mono (by rw[big];decide)⟩ (fun j σ G _ z=>by obtain⟨_,_,_,_,_,kz,_⟩:=z;exact SqL.of (kz _ _ D2p gD2)) ?_ ?_
   ·rintro j xv σ G hx ⟨v8,v9,v10,v11,rfl,kG,BG⟩
    obtain⟨il,e⟩:=zE.mp hx
    rw[zA]at il
    rw[zR]at e
    subst e
    obtain⟨x,xm,gx,nx⟩:=hus2 _ (zU il)
    have gx:=kG _ _ (tup_ne B11 gx) gx
    generalize us2[j]=u at gx
    have StG:=St11.kept B11 kG
    have grG:=kG _ _ rp gr11
    have ev1G:=ev111.to (kept_wo kG)
    have ev0G:=ev011.to (kept_wo kG)
    have j2:j<2:=by lia
    have mulj:=Nat.mul_le_mul_right (cost 13) (show j<=1 by lia)
    have nxb:x∉bts:=fun h=>nx (zAA.mpr ⟨x,h,rfl⟩)
    have C1:=C.add xm nxb
    have pbl:=StG.pb.length
    refine⟨r,_,_,_,rfl,rfl,grG,at1,(by show 1<=sizeLine;decide),fun p1 hp1=>?_⟩
    have sp1:=Same.new (o:=.lst [V.ref u]) hp1
    refine⟨bl,p1,_,_,rfl,rfl,sp1 _ _ StG.gb,upd_same,by rw[zA,zX,sizeLine_eq];lia,fun c1 hc1=>?_⟩
    have sc1:=Same.new (o:=.lst (bas.map V.ref++[V.ref u])) hc1
    have s2:=sp1.trans sc1
    have gc1:(upd (upd G p1 (.lst [V.ref u])) c1 (.lst (bas.map V.ref++[V.ref u]))) c1=some (.lst ((bas++[u]).map V.ref)):=by rw[upd_same,zJ];rfl
    generalize (upd (upd G p1 (.lst [V.ref u])) c1 (.lst (bas.map V.ref++[V.ref u])))=G2 at s2 gc1
    clear sp1 sc1 hp1 hc1
    have pb1:PairT G2 (bas++[u]) (bts++[x]):=Paired.snoc (StG.pb.same s2) (s2 _ _ gx)
    refine⟨c1,bas++[u],(bts++[x]).map pairOf,rfl,SqL.of gc1,pair_tups pb1,(fun z hz e=>by obtain⟨y,_,rfl⟩:=zAA.mp hz;cases e),by rw[zK,zX];lia,fun l' bs nss hl' pm sr2 tb=>?_⟩
    obtain⟨bts2,pm2,rfl⟩:=perm_map_inv pm (bts++[x]) rfl
    have sl':=Same.new (o:=.lst (bs.map V.ref)) hl'
    have s3:=s2.trans sl'
    have gl':(upd G2 l' (.lst (bs.map V.ref))) l'=some (.lst (bs.map V.ref)):=upd_same
    have pb2:PairT (upd G2 l' (.lst (bs.map V.ref))) bs bts2:=tups_pair (Paired.mapP tb fun _ _ e=>sl' _ _ e)
    generalize (upd G2 l' (.lst (bs.map V.ref)))=G3 at s3 gl' pb2
    clear sl' hl' gc1 pb1 tb s2 pm
    have C2:Cts ties bts2:=⟨pm2.nodup_iff.mpr C1.nd,fun y hy=>C1.sub y (pm2.mem_iff.mp hy)⟩
    have w2:wt bts2=wt bts+x.2.2:=by
     rw[wt_perm pm2]
     unfold wt
     rw[zJ,List.sum_append]
     show _+(x.2.2+0)=_
     lia
    have x1:=(ok x xm).2.2.2
    have pt2:Parted ties prs bts2:=fun z hz rz=>pt z hz (rch_mono (fun y hy=>by
     obtain⟨y1,y2⟩:=mem_rest.mp hy
     refine mem_rest.mpr ⟨y1,fun h=>y2 ?_⟩
     obtain⟨b,hb,eb⟩:=zAA.mp h
     exact zAA.mpr ⟨b,pm2.mem_iff.mpr (zV _ hb),eb⟩) rz)
    have St3:=StG.same s3
    refine⟨t,l',n,ties,bts2.map prOf,rfl,St3.W,⟨bs,gl',pair_prs pb2⟩,fun G4 s34=>?_⟩
    rw[wgh_eq srt C2]
    have s4:=s3.trans s34
    have St4:=StG.same s4
    have gl4:=s34 _ _ gl'
    have pb4:=pb2.same s34
    have B4:=BG.same s4
    have gr4:=s4 _ _ grG
    have k4:Kept p G G4:=fun b o _ e=>s4 b o e
    have ev14:=ev1G.to (kept_wo k4)
    have ev04:=ev0G.to (kept_wo k4)
    clear St3 s3 s34 gl' pb2 StG grG ev1G ev0G gx
    refine⟨r,_,_,_,rfl,rfl,gr4,at2,(by show 3<=sizeLine;decide),fun ca hca=>⟨(by show 0<=sizeLine;decide),fun c hc=>⟨(by show 0<=sizeLine;decide),fun k hk=>?_⟩⟩⟩
    have sca:=Same.new (o:=.tup [.ref t,.ref pl,.int (wt bts2)]) hca
    have scc:=Same.new (o:=.lst []) hc
    have sck:=Same.new (o:=.lst []) hk
    have gca:(upd (upd (upd G4 ca (.tup [.ref t,.ref pl,.int (wt bts2)])) c (.lst [])) k (.lst [])) ca=some (.tup [.ref t,.ref pl,.int (wt bts2)]):=sck _ _ (scc _ _ upd_same)
    have gc:(upd (upd (upd G4 ca (.tup [.ref t,.ref pl,.int (wt bts2)])) c (.lst [])) k (.lst [])) c=some (.lst (([]:List Addr).map V.ref)):=sck _ _ upd_same
    have gk:(upd (upd (upd G4 ca (.tup [.ref t,.ref pl,.int (wt bts2)])) c (.lst [])) k (.lst [])) k=some (.lst (([]:List Addr).map V.ref)):=upd_same
    have s5:=sca.trans (scc.trans sck)
    generalize (upd (upd (upd G4 ca (.tup [.ref t,.ref pl,.int (wt bts2)])) c (.lst [])) k (.lst []))=G5 at s5 gca gc gk
    clear sca scc sck hca hc hk
    have k5:Kept p G4 G5:=fun b o _ e=>s5 b o e
    have B5:=B4.same s5
    have St5:=St4.same s5
    refine⟨p,ca,t,pl,c,k,n,_,wt bts2,ties,[],as,[],[],prs,[],rfl,gca,B5,by rw[big]at mulj ⊢;lia,⟨St5.W,ok,srt,l12,n7,St5.gq,St5.pp,prl,po,gc,.nil,⟨zAS,fun x hx=>nomatch hx⟩,gk,.nil,zAQ _,fun x hx=>nomatch hx⟩,by show ties.length<0+13;lia,fun tr3 f3 G6 ev3 _ B6 k6=>?_⟩
    have k46:=k5.trans k6
    have ev16:=ev14.to (kept_wo k46)
    have ev06:=ev04.to (kept_wo k46)
    have St6:=St4.kept B4 k46
    have gl6:=k46 _ _ (ref_ne B4 gl4) gl4
    have pb6:PairT G6 bs bts2:=Paired.mapP pb4 fun _ _ e=>k46 _ _ (tup_ne B4 e) e
    have kG6:Kept p G G6:=k4.trans k46
    clear St5 gca gc gk s5 k5 B5 k6 k46 ev14 ev04 St4 gl4 pb4 gr4 k4 B4 s4
    refine⟨(by show 3<=sizeLine;decide),fun tt htt=>⟨tt,rfl,⟨_,SqT.of upd_same⟩,?_⟩⟩
    have st:=Same.new (o:=.tup [tr1,tr,tr3]) htt
    have gtt:(upd G6 tt (.tup [tr1,tr,tr3])) tt=some (.tup [tr1,tr,tr3]):=upd_same
    have St7:=St6.same st
    have gl7:=st _ _ gl6
    have pb7:=pb6.same st
    have B7:=B6.same st
    have k67:Kept p G6 (upd G6 tt (.tup [tr1,tr,tr3])):=fun b o _ e=>st b o e
    have evs:∀ xv∈[tr1,tr,tr3],∃ f,Ev (upd G6 tt (.tup [tr1,tr,tr3])) ties prs 13 [] [] xv f:=fun xv hx=>by
     have go:∀ {f:Int->Bool}{y:V},Ev (wo p G6) ties prs 13 [] [] y f->Ev (upd G6 tt (.tup [tr1,tr,tr3])) ties prs 13 [] [] y f:=fun e=>e.to fun a o h=>st _ _ (wo_to a o h)
     rcases zT.mp hx with e | e
     ·rw[e];exact⟨_,go ev16⟩
     ·rcases zT.mp e with e | e
      ·rw[e];exact⟨_,go ev06⟩
      ·rw[zD.mp e];exact⟨_,go ev3⟩
    have kG7:=kG6.trans k67
    generalize (upd G6 tt (.tup [tr1,tr,tr3]))=G7 at gtt St7 gl7 pb7 B7 evs kG7
    clear st htt k67 St6 gl6 pb6 B6 kG6 ev16 ev06 ev3
    refine for_tup (K:=K) (a:=tt) (xs:=[tr1,tr,tr3]) (fun m σ G'=>∃ v11:Option V,σ=[some (.ref a),some (.int (0+(i:Int))),some (.ref p),some (.ref t),some (.ref pl),some (.int bw),some (.ref r),some tr1,some (.ref u),some (.ref l'),some (.int (wt bts2)),v11]/\Same G7 G') ⟨_,rfl,Same.refl _⟩ (fun m σ G' _ z=>by obtain⟨_,_,s⟩:=z;exact SqT.of (s _ _ gtt)) ?_ ?_
    ·rintro m xv σ G' hxm ⟨v11,rfl,sG'⟩
     obtain⟨fj,evj⟩:=evs xv (List.mem_of_getElem? hxm)
     refine⟨(by show 3<=sizeLine;decide),fun tz htz=>?_⟩
     have sz:=Same.new (o:=.tup [.int (wt bts2),.ref l',xv]) htz
     have s8:=sG'.trans sz
     have St8:=St7.same s8
     refine⟨false,t,pl,tz,l',n,ties,bts2,as,bs,prs,wt bts2,xv,fj,rfl,⟨St8.W,ok,srt,l12,by lia,SqL.of St8.gq,St8.pp,by lia,po⟩,St8.gq,upd_same,s8 _ _ gl7,pb7.same s8,rfl,C2,sr2,pt2,evj.same s8,fun G9 s9=>?_⟩
     have hfj:fj (wt bts2)=false:=by
      cases e:fj (wt bts2)with
      |false=>rfl
      |true =>
       obtain⟨X,px,ex⟩:=bts_X srt C pt
       have:=evj.sound ok nn px e ⟨zAS,(fun x hx=>nomatch hx)⟩ ⟨(fun x hx=>nomatch hx),(fun x _ h=>nomatch h)⟩
       lia
     rw[hfj]
     exact⟨_,_,rfl,rfl,_,rfl,iteNS rfl ⟨_,rfl,s8.trans s9⟩⟩
    ·rintro σ G' ⟨v11,rfl,sG'⟩
     refine⟨_,_,_,_,rfl,kG.trans (kG7.trans fun b o _ e=>sG' b o e),(B7.same sG').mono ?_⟩
     rw[Nat.succ_mul]
     lia
   ·rintro σ G ⟨v8,v9,v10,v11,rfl,kG,BG⟩
    exact⟨_,_,_,_,_,_,_,_,_,_,_,rfl,s0.trans (Kept.same hp (k011.trans kG))⟩
  ·rintro σ G ⟨v1,v2,v3,v4,v5,v6,v7,v8,v9,v10,v11,rfl,s0⟩
   exact q _
end
open PySem L2 PyProof.Rows
theorem leS{k:Nat}{motive:List Value->Prop}(us:List Value)(hl:us.length=k+1)(h:∀ a t,t.length=k->motive (a :: t)):motive us:=by
 cases us with
 |nil=>cases hl
 |cons a t=>exact h a t (Nat.succ.inj hl)
theorem leZ{motive:List Value->Prop}(us:List Value)(hl:us.length=0)(h:motive []):motive us:=by
 cases us with
 |nil=>exact h
 |cons a t=>cases hl
@[elab_as_elim] theorem le1{motive:List Value->Prop}(us:List Value)(hl:us.length=1)(k:∀ a0,motive [a0]):motive us:=leS (motive:=fun u=>motive (u)) us hl fun a0 t0 h0=>leZ (motive:=fun u=>motive (a0 :: u)) t0 h0 (k a0)
@[elab_as_elim] theorem le2{motive:List Value->Prop}(us:List Value)(hl:us.length=2)(k:∀ a0 a1,motive [a0,a1]):motive us:=leS (motive:=fun u=>motive (u)) us hl fun a0 t0 h0=>leS (motive:=fun u=>motive (a0 :: u)) t0 h0 fun a1 t1 h1=>leZ (motive:=fun u=>motive (a0 :: a1 :: u)) t1 h1 (k a0 a1)
@[elab_as_elim] theorem le3{motive:List Value->Prop}(us:List Value)(hl:us.length=3)(k:∀ a0 a1 a2,motive [a0,a1,a2]):motive us:=leS (motive:=fun u=>motive (u)) us hl fun a0 t0 h0=>leS (motive:=fun u=>motive (a0 :: u)) t0 h0 fun a1 t1 h1=>leS (motive:=fun u=>motive (a0 :: a1 :: u)) t1 h1 fun a2 t2 h2=>leZ (motive:=fun u=>motive (a0 :: a1 :: a2 :: u)) t2 h2 (k a0 a1 a2)
@[elab_as_elim] theorem le4{motive:List Value->Prop}(us:List Value)(hl:us.length=4)(k:∀ a0 a1 a2 a3,motive [a0,a1,a2,a3]):motive us:=leS (motive:=fun u=>motive (u)) us hl fun a0 t0 h0=>leS (motive:=fun u=>motive (a0 :: u)) t0 h0 fun a1 t1 h1=>leS (motive:=fun u=>motive (a0 :: a1 :: u)) t1 h1 fun a2 t2 h2=>leS (motive:=fun u=>motive (a0 :: a1 :: a2 :: u)) t2 h2 fun a3 t3 h3=>leZ (motive:=fun u=>motive (a0 :: a1 :: a2 :: a3 :: u)) t3 h3 (k a0 a1 a2 a3)
@[elab_as_elim] theorem le5{motive:List Value->Prop}(us:List Value)(hl:us.length=5)(k:∀ a0 a1 a2 a3 a4,motive [a0,a1,a2,a3,a4]):motive us:=leS (motive:=fun u=>motive (u)) us hl fun a0 t0 h0=>leS (motive:=fun u=>motive (a0 :: u)) t0 h0 fun a1 t1 h1=>leS (motive:=fun u=>motive (a0 :: a1 :: u)) t1 h1 fun a2 t2 h2=>leS (motive:=fun u=>motive (a0 :: a1 :: a2 :: u)) t2 h2 fun a3 t3 h3=>leS (motive:=fun u=>motive (a0 :: a1 :: a2 :: a3 :: u)) t3 h3 fun a4 t4 h4=>leZ (motive:=fun u=>motive (a0 :: a1 :: a2 :: a3 :: a4 :: u)) t4 h4 (k a0 a1 a2 a3 a4)
@[elab_as_elim] theorem le6{motive:List Value->Prop}(us:List Value)(hl:us.length=6)(k:∀ a0 a1 a2 a3 a4 a5,motive [a0,a1,a2,a3,a4,a5]):motive us:=leS (motive:=fun u=>motive (u)) us hl fun a0 t0 h0=>leS (motive:=fun u=>motive (a0 :: u)) t0 h0 fun a1 t1 h1=>leS (motive:=fun u=>motive (a0 :: a1 :: u)) t1 h1 fun a2 t2 h2=>leS (motive:=fun u=>motive (a0 :: a1 :: a2 :: u)) t2 h2 fun a3 t3 h3=>leS (motive:=fun u=>motive (a0 :: a1 :: a2 :: a3 :: u)) t3 h3 fun a4 t4 h4=>leS (motive:=fun u=>motive (a0 :: a1 :: a2 :: a3 :: a4 :: u)) t4 h4 fun a5 t5 h5=>leZ (motive:=fun u=>motive (a0 :: a1 :: a2 :: a3 :: a4 :: a5 :: u)) t5 h5 (k a0 a1 a2 a3 a4 a5)
@[elab_as_elim] theorem le7{motive:List Value->Prop}(us:List Value)(hl:us.length=7)(k:∀ a0 a1 a2 a3 a4 a5 a6,motive [a0,a1,a2,a3,a4,a5,a6]):motive us:=leS (motive:=fun u=>motive (u)) us hl fun a0 t0 h0=>leS (motive:=fun u=>motive (a0 :: u)) t0 h0 fun a1 t1 h1=>leS (motive:=fun u=>motive (a0 :: a1 :: u)) t1 h1 fun a2 t2 h2=>leS (motive:=fun u=>motive (a0 :: a1 :: a2 :: u)) t2 h2 fun a3 t3 h3=>leS (motive:=fun u=>motive (a0 :: a1 :: a2 :: a3 :: u)) t3 h3 fun a4 t4 h4=>leS (motive:=fun u=>motive (a0 :: a1 :: a2 :: a3 :: a4 :: u)) t4 h4 fun a5 t5 h5=>leS (motive:=fun u=>motive (a0 :: a1 :: a2 :: a3 :: a4 :: a5 :: u)) t5 h5 fun a6 t6 h6=>leZ (motive:=fun u=>motive (a0 :: a1 :: a2 :: a3 :: a4 :: a5 :: a6 :: u)) t6 h6 (k a0 a1 a2 a3 a4 a5 a6)
theorem all_mk{l:PySem.W.OpenLaw}{w:World}{K:PySem.W.Frag}{h:Heap}{mg:Str->Option Value}{fa f1 f2 f3 f4 f5 f6 f7 f8 f9 f10 f11 f12 f13 f14 f15 f16 f17 f18 f19 f20 f21 f22 f23 f24 f25 f26 f27 f28 f29 f30 f31 f32 f33 f34 f35 f36:Addr}(X:K.In h)(G:h.Ns mainGlobals mg)(hfa:mg "law" = some (.ref fa))
  {od1 an1 od2 an2 od3 an3 od4 an4 od5 an5 od6 an6 od7 an7 od8 an8 od9 an9 od10 an10 od11 an11 od12 an12 od13 an13 od14 an14 od15 an15 od16 an16 od17 an17 od18 an18 od19 an19 od20 an20 od21 an21 od22 an22 od23 an23 od24 an24 od25 an25 od26 an26 od27 an27 od28 an28 od29 an29 od30 an30 od31 an31 od32 an32 od33 an33 od34 an34 od35 an35 od36 an36:Option Addr}{sl1 sl2 sl3 sl4 sl5 sl6 sl7 sl8 sl9 sl10 sl11 sl12 sl13 sl14 sl15 sl16 sl17 sl18 sl19 sl20 sl21 sl22 sl23 sl24 sl25 sl26 sl27 sl28 sl29 sl30 sl31 sl32 sl33 sl34 sl35 sl36:Array (Option Value)}{oc1 kV1 dc1 pm1 cd1 ct1 oc2 kV2 dc2 pm2 cd2 ct2 oc3 kV3 dc3 pm3 cd3 ct3 oc4 kV4 dc4 pm4 cd4 ct4 oc5 kV5 dc5 pm5 cd5 ct5 oc6 kV6 dc6 pm6 cd6 ct6 oc7 kV7 dc7 pm7 cd7 ct7 oc8 kV8 dc8 pm8 cd8 ct8 oc9 kV9 dc9 pm9 cd9 ct9 oc10 kV10 dc10 pm10 cd10 ct10 oc11 kV11 dc11 pm11 cd11 ct11 oc12 kV12 dc12 pm12 cd12 ct12 oc13 kV13 dc13 pm13 cd13 ct13 oc14 kV14 dc14 pm14 cd14 ct14 oc15 kV15 dc15 pm15 cd15 ct15 oc16 kV16 dc16 pm16 cd16 ct16 oc17 kV17 dc17 pm17 cd17 ct17 oc18 kV18 dc18 pm18 cd18 ct18 oc19 kV19 dc19 pm19 cd19 ct19 oc20 kV20 dc20 pm20 cd20 ct20 oc21 kV21 dc21 pm21 cd21 ct21 oc22 kV22 dc22 pm22 cd22 ct22 oc23 kV23 dc23 pm23 cd23 ct23 oc24 kV24 dc24 pm24 cd24 ct24 oc25 kV25 dc25 pm25 cd25 ct25 oc26 kV26 dc26 pm26 cd26 ct26 oc27 kV27 dc27 pm27 cd27 ct27 oc28 kV28 dc28 pm28 cd28 ct28 oc29 kV29 dc29 pm29 cd29 ct29 oc30 kV30 dc30 pm30 cd30 ct30 oc31 kV31 dc31 pm31 cd31 ct31 oc32 kV32 dc32 pm32 cd32 ct32 oc33 kV33 dc33 pm33 cd33 ct33 oc34 kV34 dc34 pm34 cd34 ct34 oc35 kV35 dc35 pm35 cd35 ct35 oc36 kV36 dc36 pm36 cd36 ct36:Value}
  (a1:PySem.W.nsIn K mainGlobals "is_number" = some (some (.ref f1))) (l1:K.lookup f1=some ⟨oc1,od1,.func (PySem.W.fnOf "is_number" "is_number" (defArgs sIsNumber) (defBody sIsNumber) (defScope sIsNumber) .none kV1 dc1 pm1 an1 cd1 ct1),sl1⟩) (c1:PySem.W.codeIn K cd1 "is_number" = true) (k1:PySem.W.keepIn K (.ref f1)=true)
  (a2:PySem.W.nsIn K mainGlobals "are_numbers" = some (some (.ref f2))) (l2:K.lookup f2=some ⟨oc2,od2,.func (PySem.W.fnOf "are_numbers" "are_numbers" (defArgs sAreNumbers) (defBody sAreNumbers) (defScope sAreNumbers) .none kV2 dc2 pm2 an2 cd2 ct2),sl2⟩) (c2:PySem.W.codeIn K cd2 "are_numbers" = true) (k2:PySem.W.keepIn K (.ref f2)=true)
  (a3:PySem.W.nsIn K mainGlobals "is_list" = some (some (.ref f3))) (l3:K.lookup f3=some ⟨oc3,od3,.func (PySem.W.fnOf "is_list" "is_list" (defArgs sIsList) (defBody sIsList) (defScope sIsList) .none kV3 dc3 pm3 an3 cd3 ct3),sl3⟩) (c3:PySem.W.codeIn K cd3 "is_list" = true) (k3:PySem.W.keepIn K (.ref f3)=true)
  (a4:PySem.W.nsIn K mainGlobals "is_tuple_of" = some (some (.ref f4))) (l4:K.lookup f4=some ⟨oc4,od4,.func (PySem.W.fnOf "is_tuple_of" "is_tuple_of" (defArgs sIsTupleOf) (defBody sIsTupleOf) (defScope sIsTupleOf) .none kV4 dc4 pm4 an4 cd4 ct4),sl4⟩) (c4:PySem.W.codeIn K cd4 "is_tuple_of" = true) (k4:PySem.W.keepIn K (.ref f4)=true)
  (a5:PySem.W.nsIn K mainGlobals "rises" = some (some (.ref f5))) (l5:K.lookup f5=some ⟨oc5,od5,.func (PySem.W.fnOf "rises" "rises" (defArgs sRises) (defBody sRises) (defScope sRises) .none kV5 dc5 pm5 an5 cd5 ct5),sl5⟩) (c5:PySem.W.codeIn K cd5 "rises" = true) (k5:PySem.W.keepIn K (.ref f5)=true)
  (a6:PySem.W.nsIn K mainGlobals "is_cut" = some (some (.ref f6))) (l6:K.lookup f6=some ⟨oc6,od6,.func (PySem.W.fnOf "is_cut" "is_cut" (defArgs sIsCut) (defBody sIsCut) (defScope sIsCut) .none kV6 dc6 pm6 an6 cd6 ct6),sl6⟩) (c6:PySem.W.codeIn K cd6 "is_cut" = true) (k6:PySem.W.keepIn K (.ref f6)=true)
  (a7:PySem.W.nsIn K mainGlobals "tie_weights" = some (some (.ref f7))) (l7:K.lookup f7=some ⟨oc7,od7,.func (PySem.W.fnOf "tie_weights" "tie_weights" (defArgs sTieWeights) (defBody sTieWeights) (defScope sTieWeights) .none kV7 dc7 pm7 an7 cd7 ct7),sl7⟩) (c7:PySem.W.codeIn K cd7 "tie_weights" = true) (k7:PySem.W.keepIn K (.ref f7)=true)
  (a8:PySem.W.nsIn K mainGlobals "weight_of" = some (some (.ref f8))) (l8:K.lookup f8=some ⟨oc8,od8,.func (PySem.W.fnOf "weight_of" "weight_of" (defArgs sWeightOf) (defBody sWeightOf) (defScope sWeightOf) .none kV8 dc8 pm8 an8 cd8 ct8),sl8⟩) (c8:PySem.W.codeIn K cd8 "weight_of" = true) (k8:PySem.W.keepIn K (.ref f8)=true)
  (a9:PySem.W.nsIn K mainGlobals "without" = some (some (.ref f9))) (l9:K.lookup f9=some ⟨oc9,od9,.func (PySem.W.fnOf "without" "without" (defArgs sWithout) (defBody sWithout) (defScope sWithout) .none kV9 dc9 pm9 an9 cd9 ct9),sl9⟩) (c9:PySem.W.codeIn K cd9 "without" = true) (k9:PySem.W.keepIn K (.ref f9)=true)
  (a10:PySem.W.nsIn K mainGlobals "beside_each" = some (some (.ref f10))) (l10:K.lookup f10=some ⟨oc10,od10,.func (PySem.W.fnOf "beside_each" "beside_each" (defArgs sBesideEach) (defBody sBesideEach) (defScope sBesideEach) .none kV10 dc10 pm10 an10 cd10 ct10),sl10⟩) (c10:PySem.W.codeIn K cd10 "beside_each" = true) (k10:PySem.W.keepIn K (.ref f10)=true)
  (a11:PySem.W.nsIn K mainGlobals "heads_of" = some (some (.ref f11))) (l11:K.lookup f11=some ⟨oc11,od11,.func (PySem.W.fnOf "heads_of" "heads_of" (defArgs sHeadsOf) (defBody sHeadsOf) (defScope sHeadsOf) .none kV11 dc11 pm11 an11 cd11 ct11),sl11⟩) (c11:PySem.W.codeIn K cd11 "heads_of" = true) (k11:PySem.W.keepIn K (.ref f11)=true)
  (a12:PySem.W.nsIn K mainGlobals "spread" = some (some (.ref f12))) (l12:K.lookup f12=some ⟨oc12,od12,.func (PySem.W.fnOf "spread" "spread" (defArgs sSpread) (defBody sSpread) (defScope sSpread) .none kV12 dc12 pm12 an12 cd12 ct12),sl12⟩) (c12:PySem.W.codeIn K cd12 "spread" = true) (k12:PySem.W.keepIn K (.ref f12)=true)
  (a13:PySem.W.nsIn K mainGlobals "ties_along" = some (some (.ref f13))) (l13:K.lookup f13=some ⟨oc13,od13,.func (PySem.W.fnOf "ties_along" "ties_along" (defArgs sTiesAlong) (defBody sTiesAlong) (defScope sTiesAlong) .none kV13 dc13 pm13 an13 cd13 ct13),sl13⟩) (c13:PySem.W.codeIn K cd13 "ties_along" = true) (k13:PySem.W.keepIn K (.ref f13)=true)
  (a14:PySem.W.nsIn K mainGlobals "parts_pairs" = some (some (.ref f14))) (l14:K.lookup f14=some ⟨oc14,od14,.func (PySem.W.fnOf "parts_pairs" "parts_pairs" (defArgs sPartsPairs) (defBody sPartsPairs) (defScope sPartsPairs) .none kV14 dc14 pm14 an14 cd14 ct14),sl14⟩) (c14:PySem.W.codeIn K cd14 "parts_pairs" = true) (k14:PySem.W.keepIn K (.ref f14)=true)
  (a15:PySem.W.nsIn K mainGlobals "least_for_pairs" = some (some (.ref f15))) (l15:K.lookup f15=some ⟨oc15,od15,.func (PySem.W.fnOf "least_for_pairs" "least_for_pairs" (defArgs sLeastForPairs) (defBody sLeastForPairs) (defScope sLeastForPairs) .none kV15 dc15 pm15 an15 cd15 ct15),sl15⟩) (c15:PySem.W.codeIn K cd15 "least_for_pairs" = true) (k15:PySem.W.keepIn K (.ref f15)=true)
  (a16:PySem.W.nsIn K mainGlobals "lightest" = some (some (.ref f16))) (l16:K.lookup f16=some ⟨oc16,od16,.func (PySem.W.fnOf "lightest" "lightest" (defArgs sLightest) (defBody sLightest) (defScope sLightest) .none kV16 dc16 pm16 an16 cd16 ct16),sl16⟩) (c16:PySem.W.codeIn K cd16 "lightest" = true) (k16:PySem.W.keepIn K (.ref f16)=true)
  (a17:PySem.W.nsIn K mainGlobals "loosest_way" = some (some (.ref f17))) (l17:K.lookup f17=some ⟨oc17,od17,.func (PySem.W.fnOf "loosest_way" "loosest_way" (defArgs sLoosestWay) (defBody sLoosestWay) (defScope sLoosestWay) .none kV17 dc17 pm17 an17 cd17 ct17),sl17⟩) (c17:PySem.W.codeIn K cd17 "loosest_way" = true) (k17:PySem.W.keepIn K (.ref f17)=true)
  (a18:PySem.W.nsIn K mainGlobals "ways_from" = some (some (.ref f18))) (l18:K.lookup f18=some ⟨oc18,od18,.func (PySem.W.fnOf "ways_from" "ways_from" (defArgs sWaysFrom) (defBody sWaysFrom) (defScope sWaysFrom) .none kV18 dc18 pm18 an18 cd18 ct18),sl18⟩) (c18:PySem.W.codeIn K cd18 "ways_from" = true) (k18:PySem.W.keepIn K (.ref f18)=true)
  (a19:PySem.W.nsIn K mainGlobals "shows_for_pairs" = some (some (.ref f19))) (l19:K.lookup f19=some ⟨oc19,od19,.func (PySem.W.fnOf "shows_for_pairs" "shows_for_pairs" (defArgs sShowsForPairs) (defBody sShowsForPairs) (defScope sShowsForPairs) .none kV19 dc19 pm19 an19 cd19 ct19),sl19⟩) (c19:PySem.W.codeIn K cd19 "shows_for_pairs" = true) (k19:PySem.W.keepIn K (.ref f19)=true)
  (a20:PySem.W.nsIn K mainGlobals "is_end" = some (some (.ref f20))) (l20:K.lookup f20=some ⟨oc20,od20,.func (PySem.W.fnOf "is_end" "is_end" (defArgs sIsEnd) (defBody sIsEnd) (defScope sIsEnd) .none kV20 dc20 pm20 an20 cd20 ct20),sl20⟩) (c20:PySem.W.codeIn K cd20 "is_end" = true) (k20:PySem.W.keepIn K (.ref f20)=true)
  (a21:PySem.W.nsIn K mainGlobals "is_way_of" = some (some (.ref f21))) (l21:K.lookup f21=some ⟨oc21,od21,.func (PySem.W.fnOf "is_way_of" "is_way_of" (defArgs sIsWayOf) (defBody sIsWayOf) (defScope sIsWayOf) .none kV21 dc21 pm21 an21 cd21 ct21),sl21⟩) (c21:PySem.W.codeIn K cd21 "is_way_of" = true) (k21:PySem.W.keepIn K (.ref f21)=true)
  (a22:PySem.W.nsIn K mainGlobals "is_way" = some (some (.ref f22))) (l22:K.lookup f22=some ⟨oc22,od22,.func (PySem.W.fnOf "is_way" "is_way" (defArgs sIsWay) (defBody sIsWay) (defScope sIsWay) .none kV22 dc22 pm22 an22 cd22 ct22),sl22⟩) (c22:PySem.W.codeIn K cd22 "is_way" = true) (k22:PySem.W.keepIn K (.ref f22)=true)
  (a23:PySem.W.nsIn K mainGlobals "are_ends" = some (some (.ref f23))) (l23:K.lookup f23=some ⟨oc23,od23,.func (PySem.W.fnOf "are_ends" "are_ends" (defArgs sAreEnds) (defBody sAreEnds) (defScope sAreEnds) .none kV23 dc23 pm23 an23 cd23 ct23),sl23⟩) (c23:PySem.W.codeIn K cd23 "are_ends" = true) (k23:PySem.W.keepIn K (.ref f23)=true)
  (a24:PySem.W.nsIn K mainGlobals "_law_cell_at" = some (some (.ref f24))) (l24:K.lookup f24=some ⟨oc24,od24,.func (PySem.W.fnOf "_law_cell_at" "_law_cell_at" (defArgs sCell) (defBody sCell) (defScope sCell) .none kV24 dc24 pm24 an24 cd24 ct24),sl24⟩) (c24:PySem.W.codeIn K cd24 "_law_cell_at" = true) (k24:PySem.W.keepIn K (.ref f24)=true)
  (a25:PySem.W.nsIn K mainGlobals "_law_box" = some (some (.ref f25))) (l25:K.lookup f25=some ⟨oc25,od25,.func (PySem.W.fnOf "_law_box" "_law_box" (defArgs sBox) (defBody sBox) (defScope sBox) .none kV25 dc25 pm25 an25 cd25 ct25),sl25⟩) (c25:PySem.W.codeIn K cd25 "_law_box" = true) (k25:PySem.W.keepIn K (.ref f25)=true)
  (a26:PySem.W.nsIn K mainGlobals "_law_take" = some (some (.ref f26))) (l26:K.lookup f26=some ⟨oc26,od26,.func (PySem.W.fnOf "_law_take" "_law_take" (defArgs sTake) (defBody sTake) (defScope sTake) .none kV26 dc26 pm26 an26 cd26 ct26),sl26⟩) (c26:PySem.W.codeIn K cd26 "_law_take" = true) (k26:PySem.W.keepIn K (.ref f26)=true)
  (a27:PySem.W.nsIn K mainGlobals "_law_weight" = some (some (.ref f27))) (l27:K.lookup f27=some ⟨oc27,od27,.func (PySem.W.fnOf "_law_weight" "_law_weight" (defArgs sWeight) (defBody sWeight) (defScope sWeight) .none kV27 dc27 pm27 an27 cd27 ct27),sl27⟩) (c27:PySem.W.codeIn K cd27 "_law_weight" = true) (k27:PySem.W.keepIn K (.ref f27)=true)
  (a28:PySem.W.nsIn K mainGlobals "_law_web" = some (some (.ref f28))) (l28:K.lookup f28=some ⟨oc28,od28,.func (PySem.W.fnOf "_law_web" "_law_web" (defArgs sWeb) (defBody sWeb) (defScope sWeb) .none kV28 dc28 pm28 an28 cd28 ct28),sl28⟩) (c28:PySem.W.codeIn K cd28 "_law_web" = true) (k28:PySem.W.keepIn K (.ref f28)=true)
  (a29:PySem.W.nsIn K mainGlobals "_law_weigh" = some (some (.ref f29))) (l29:K.lookup f29=some ⟨oc29,od29,.func (PySem.W.fnOf "_law_weigh" "_law_weigh" (defArgs sWeigh) (defBody sWeigh) (defScope sWeigh) .none kV29 dc29 pm29 an29 cd29 ct29),sl29⟩) (c29:PySem.W.codeIn K cd29 "_law_weigh" = true) (k29:PySem.W.keepIn K (.ref f29)=true)
  (a30:PySem.W.nsIn K mainGlobals "_law_pairs" = some (some (.ref f30))) (l30:K.lookup f30=some ⟨oc30,od30,.func (PySem.W.fnOf "_law_pairs" "_law_pairs" (defArgs sPairs) (defBody sPairs) (defScope sPairs) .none kV30 dc30 pm30 an30 cd30 ct30),sl30⟩) (c30:PySem.W.codeIn K cd30 "_law_pairs" = true) (k30:PySem.W.keepIn K (.ref f30)=true)
  (a31:PySem.W.nsIn K mainGlobals "_law_small_web" = some (some (.ref f31))) (l31:K.lookup f31=some ⟨oc31,od31,.func (PySem.W.fnOf "_law_small_web" "_law_small_web" (defArgs sSmallWeb) (defBody sSmallWeb) (defScope sSmallWeb) .none kV31 dc31 pm31 an31 cd31 ct31),sl31⟩) (c31:PySem.W.codeIn K cd31 "_law_small_web" = true) (k31:PySem.W.keepIn K (.ref f31)=true)
  (a32:PySem.W.nsIn K mainGlobals "_law_least_pairs" = some (some (.ref f32))) (l32:K.lookup f32=some ⟨oc32,od32,.func (PySem.W.fnOf "_law_least_pairs" "_law_least_pairs" (defArgs sLeastPairs) (defBody sLeastPairs) (defScope sLeastPairs) .none kV32 dc32 pm32 an32 cd32 ct32),sl32⟩) (c32:PySem.W.codeIn K cd32 "_law_least_pairs" = true) (k32:PySem.W.keepIn K (.ref f32)=true)
  (a33:PySem.W.nsIn K mainGlobals "_law_ties" = some (some (.ref f33))) (l33:K.lookup f33=some ⟨oc33,od33,.func (PySem.W.fnOf "_law_ties" "_law_ties" (defArgs sTies) (defBody sTies) (defScope sTies) .none kV33 dc33 pm33 an33 cd33 ct33),sl33⟩) (c33:PySem.W.codeIn K cd33 "_law_ties" = true) (k33:PySem.W.keepIn K (.ref f33)=true)
  (a34:PySem.W.nsIn K mainGlobals "_law_some_way" = some (some (.ref f34))) (l34:K.lookup f34=some ⟨oc34,od34,.func (PySem.W.fnOf "_law_some_way" "_law_some_way" (defArgs sSomeWay) (defBody sSomeWay) (defScope sSomeWay) .none kV34 dc34 pm34 an34 cd34 ct34),sl34⟩) (c34:PySem.W.codeIn K cd34 "_law_some_way" = true) (k34:PySem.W.keepIn K (.ref f34)=true)
  (a35:PySem.W.nsIn K mainGlobals "_law_grown" = some (some (.ref f35))) (l35:K.lookup f35=some ⟨oc35,od35,.func (PySem.W.fnOf "_law_grown" "_law_grown" (defArgs sGrown) (defBody sGrown) (defScope sGrown) .none kV35 dc35 pm35 an35 cd35 ct35),sl35⟩) (c35:PySem.W.codeIn K cd35 "_law_grown" = true) (k35:PySem.W.keepIn K (.ref f35)=true)
  (a36:PySem.W.nsIn K mainGlobals "law" = some (some (.ref f36))) (l36:K.lookup f36=some ⟨oc36,od36,.func (PySem.W.fnOf "law" "law" (defArgs sLaw) (defBody sLaw) (defScope sLaw) .none kV36 dc36 pm36 an36 cd36 ct36),sl36⟩) (c36:PySem.W.codeIn K cd36 "law" = true) (k36:PySem.W.keepIn K (.ref f36)=true)
  (z1:PySem.W.nsIn K mainGlobals "abs" = some none) (z2:PySem.W.nsIn K mainGlobals "int" = some none) (z3:PySem.W.nsIn K mainGlobals "len" = some none) (z4:PySem.W.nsIn K mainGlobals "range" = some none) (z5:PySem.W.nsIn K mainGlobals "min" = some none) (z6:PySem.W.nsIn K mainGlobals "max" = some none) (z7:PySem.W.nsIn K mainGlobals "tuple" = some none) (z8:PySem.W.nsIn K mainGlobals "sorted" = some none) (z9:PySem.W.nsIn K mainGlobals "isinstance" = some none) (z10:PySem.W.nsIn K mainGlobals "list" = some none) (z11:PySem.W.nsIn K mainGlobals "str" = some none) (z12:PySem.W.nsIn K mainGlobals "bool" = some none) (z13:PySem.W.nsIn K mainGlobals "sum" = some none) (z14:PySem.W.nsIn K mainGlobals "all" = some none) (z15:PySem.W.nsIn K mainGlobals "zip" = some none) (z16:PySem.W.nsIn K mainGlobals "enumerate" = some none) (z17:PySem.W.nsIn K mainGlobals "dict" = some none) (z18:PySem.W.nsIn K mainGlobals "any" = some none) (z19:PySem.W.nsIn K mainGlobals "set" = some none) :
  ∃ fd:FuncData,(∀ (s:Shared) (v:Value),BindsTo s fd ⟨[v],[]⟩ [("_law_script",v)])/\∀ base:Heap,K.In base->base.Ns mainGlobals mg->FnOk l.prog w K mg base CX0 33 fa fd ["_law_script"] (spLaw K):=by
 have e:=hfa.symm.trans (PySem.W.mg_of X G a36)
 cases e
 have T:Txt mg:=⟨PySem.W.mg_none_of X G z1,PySem.W.mg_none_of X G z2,PySem.W.mg_none_of X G z3,PySem.W.mg_none_of X G z4,PySem.W.mg_none_of X G z5,PySem.W.mg_none_of X G z6,PySem.W.mg_none_of X G z7,PySem.W.mg_none_of X G z8,PySem.W.mg_none_of X G z9,PySem.W.mg_none_of X G z10,PySem.W.mg_none_of X G z11,PySem.W.mg_none_of X G z12,PySem.W.mg_none_of X G z13⟩
 have T2:Txt2 mg:=⟨PySem.W.mg_none_of X G z14,PySem.W.mg_none_of X G z15,PySem.W.mg_none_of X G z16,PySem.W.mg_none_of X G z17⟩
 have T3:Txt3 mg:=⟨PySem.W.mg_none_of X G z18,PySem.W.mg_none_of X G z19⟩
 have F1:=fun_mk (st:=sIsNumber) l1 c1 k1
 have F2:=fun_mk (st:=sAreNumbers) l2 c2 k2
 have F3:=fun_mk (st:=sIsList) l3 c3 k3
 have F4:=fun_mk (st:=sIsTupleOf) l4 c4 k4
 have F5:=fun_mk (st:=sRises) l5 c5 k5
 have F6:=fun_mk (st:=sIsCut) l6 c6 k6
 have F7:=fun_mk (st:=sTieWeights) l7 c7 k7
 have F8:=fun_mk (st:=sWeightOf) l8 c8 k8
 have F9:=fun_mk (st:=sWithout) l9 c9 k9
 have F10:=fun_mk (st:=sBesideEach) l10 c10 k10
 have F11:=fun_mk (st:=sHeadsOf) l11 c11 k11
 have F12:=fun_mk (st:=sSpread) l12 c12 k12
 have F13:=fun_mk (st:=sTiesAlong) l13 c13 k13
 have F14:=fun_mk (st:=sPartsPairs) l14 c14 k14
 have F15:=fun_mk (st:=sLeastForPairs) l15 c15 k15
 have F16:=fun_mk (st:=sLightest) l16 c16 k16
 have F17:=fun_mk (st:=sLoosestWay) l17 c17 k17
 have F18:=fun_mk (st:=sWaysFrom) l18 c18 k18
 have F19:=fun_mk (st:=sShowsForPairs) l19 c19 k19
 have F20:=fun_mk (st:=sIsEnd) l20 c20 k20
 have F21:=fun_mk (st:=sIsWayOf) l21 c21 k21
 have F22:=fun_mk (st:=sIsWay) l22 c22 k22
 have F23:=fun_mk (st:=sAreEnds) l23 c23 k23
 have F24:=fun_mk (st:=sCell) l24 c24 k24
 have F25:=fun_mk (st:=sBox) l25 c25 k25
 have F26:=fun_mk (st:=sTake) l26 c26 k26
 have F27:=fun_mk (st:=sWeight) l27 c27 k27
 have F28:=fun_mk (st:=sWeb) l28 c28 k28
 have F29:=fun_mk (st:=sWeigh) l29 c29 k29
 have F30:=fun_mk (st:=sPairs) l30 c30 k30
 have F31:=fun_mk (st:=sSmallWeb) l31 c31 k31
 have F32:=fun_mk (st:=sLeastPairs) l32 c32 k32
 have F33:=fun_mk (st:=sTies) l33 c33 k33
 have F34:=fun_mk (st:=sSomeWay) l34 c34 k34
 have F35:=fun_mk (st:=sGrown) l35 c35 k35
 have F36:=fun_mk (st:=sLaw) l36 c36 k36
 have b1:=F1.binds (ps:=["thing"]) fun _ _ _ _ _ _ us hl=>le1 us hl fun _=>rfl
 have b2:=F2.binds (ps:=["things"]) fun _ _ _ _ _ _ us hl=>le1 us hl fun _=>rfl
 have b3:=F3.binds (ps:=["thing"]) fun _ _ _ _ _ _ us hl=>le1 us hl fun _=>rfl
 have b4:=F4.binds (ps:=["thing","many"]) fun _ _ _ _ _ _ us hl=>le2 us hl fun _ _=>rfl
 have b5:=F5.binds (ps:=["things"]) fun _ _ _ _ _ _ us hl=>le1 us hl fun _=>rfl
 have b6:=F6.binds (ps:=["web","thing"]) fun _ _ _ _ _ _ us hl=>le2 us hl fun _ _=>rfl
 have b7:=F7.binds (ps:=["web"]) fun _ _ _ _ _ _ us hl=>le1 us hl fun _=>rfl
 have b8:=F8.binds (ps:=["web","cut"]) fun _ _ _ _ _ _ us hl=>le2 us hl fun _ _=>rfl
 have b9:=F9.binds (ps:=["web","cut"]) fun _ _ _ _ _ _ us hl=>le2 us hl fun _ _=>rfl
 have b10:=F10.binds (ps:=["web"]) fun _ _ _ _ _ _ us hl=>le1 us hl fun _=>rfl
 have b11:=F11.binds (ps:=["web"]) fun _ _ _ _ _ _ us hl=>le1 us hl fun _=>rfl
 have b12:=F12.binds (ps:=["beside","heads","head"]) fun _ _ _ _ _ _ us hl=>le3 us hl fun _ _ _=>rfl
 have b13:=F13.binds (ps:=["way"]) fun _ _ _ _ _ _ us hl=>le1 us hl fun _=>rfl
 have b14:=F14.binds (ps:=["web","pairs","cut"]) fun _ _ _ _ _ _ us hl=>le3 us hl fun _ _ _=>rfl
 have b15:=F15.binds (ps:=["web","pairs"]) fun _ _ _ _ _ _ us hl=>le2 us hl fun _ _=>rfl
 have b16:=F16.binds (ps:=["web","pairs","cut","kept","best"]) fun _ _ _ _ _ _ us hl=>le5 us hl fun _ _ _ _ _=>rfl
 have b17:=F17.binds (ps:=["web","pairs","cut","kept"]) fun _ _ _ _ _ _ us hl=>le4 us hl fun _ _ _ _=>rfl
 have b18:=F18.binds (ps:=["beside","kept","start"]) fun _ _ _ _ _ _ us hl=>le3 us hl fun _ _ _=>rfl
 have b19:=F19.binds (ps:=["web","pairs","told"]) fun _ _ _ _ _ _ us hl=>le3 us hl fun _ _ _=>rfl
 have b20:=F20.binds (ps:=["web","pairs","weight","cut","kept","thing"]) fun _ _ _ _ _ _ us hl=>le6 us hl fun _ _ _ _ _ _=>rfl
 have b21:=F21.binds (ps:=["web","pairs","number","thing"]) fun _ _ _ _ _ _ us hl=>le4 us hl fun _ _ _ _=>rfl
 have b22:=F22.binds (ps:=["web","thing"]) fun _ _ _ _ _ _ us hl=>le2 us hl fun _ _=>rfl
 have b23:=F23.binds (ps:=["web","pairs","weight","cut","kept","along","thing"]) fun _ _ _ _ _ _ us hl=>le7 us hl fun _ _ _ _ _ _ _=>rfl
 have b24:=F24.binds (ps:=["_law_script","_law_k"]) fun _ _ _ _ _ _ us hl=>le2 us hl fun _ _=>rfl
 have b25:=F25.binds (ps:=["_law_script","_law_k"]) fun _ _ _ _ _ _ us hl=>le2 us hl fun _ _=>rfl
 have b26:=F26.binds (ps:=["_law_box_here","_law_many"]) fun _ _ _ _ _ _ us hl=>le2 us hl fun _ _=>rfl
 have b27:=F27.binds (ps:=["_law_box_here","_law_heavy"]) fun _ _ _ _ _ _ us hl=>le2 us hl fun _ _=>rfl
 have b28:=F28.binds (ps:=["_law_box_here","_law_many"]) fun _ _ _ _ _ _ us hl=>le2 us hl fun _ _=>rfl
 have b29:=F29.binds (ps:=["_law_web_here","_law_cut"]) fun _ _ _ _ _ _ us hl=>le2 us hl fun _ _=>rfl
 have b30:=F30.binds (ps:=["_law_box_here","_law_many","_law_most"]) fun _ _ _ _ _ _ us hl=>le3 us hl fun _ _ _=>rfl
 have b31:=F31.binds (ps:=["_law_box_here","_law_many"]) fun _ _ _ _ _ _ us hl=>le2 us hl fun _ _=>rfl
 have b32:=F32.binds (ps:=["_law_web_here","_law_pairs_here"]) fun _ _ _ _ _ _ us hl=>le2 us hl fun _ _=>rfl
 have b33:=F33.binds (ps:=["_law_way"]) fun _ _ _ _ _ _ us hl=>le1 us hl fun _=>rfl
 have b34:=F34.binds (ps:=["_law_box_here","_law_web_here","_law_cut","_law_pair"]) fun _ _ _ _ _ _ us hl=>le4 us hl fun _ _ _ _=>rfl
 have b35:=F35.binds (ps:=["_law_box_here","_law_case","_law_cut","_law_kept"]) fun _ _ _ _ _ _ us hl=>le4 us hl fun _ _ _ _=>rfl
 have m1:=PySem.W.mg_of X G a1
 have m2:=PySem.W.mg_of X G a2
 have m3:=PySem.W.mg_of X G a3
 have m4:=PySem.W.mg_of X G a4
 have m5:=PySem.W.mg_of X G a5
 have m6:=PySem.W.mg_of X G a6
 have m7:=PySem.W.mg_of X G a7
 have m8:=PySem.W.mg_of X G a8
 have m9:=PySem.W.mg_of X G a9
 have m10:=PySem.W.mg_of X G a10
 have m11:=PySem.W.mg_of X G a11
 have m12:=PySem.W.mg_of X G a12
 have m13:=PySem.W.mg_of X G a13
 have m14:=PySem.W.mg_of X G a14
 have m15:=PySem.W.mg_of X G a15
 have m16:=PySem.W.mg_of X G a16
 have m17:=PySem.W.mg_of X G a17
 have m18:=PySem.W.mg_of X G a18
 have m19:=PySem.W.mg_of X G a19
 have m20:=PySem.W.mg_of X G a20
 have m21:=PySem.W.mg_of X G a21
 have m22:=PySem.W.mg_of X G a22
 have m23:=PySem.W.mg_of X G a23
 have m24:=PySem.W.mg_of X G a24
 have m25:=PySem.W.mg_of X G a25
 have m26:=PySem.W.mg_of X G a26
 have m27:=PySem.W.mg_of X G a27
 have m28:=PySem.W.mg_of X G a28
 have m29:=PySem.W.mg_of X G a29
 have m30:=PySem.W.mg_of X G a30
 have m31:=PySem.W.mg_of X G a31
 have m32:=PySem.W.mg_of X G a32
 have m33:=PySem.W.mg_of X G a33
 have m34:=PySem.W.mg_of X G a34
 have m35:=PySem.W.mg_of X G a35
 have m36:=PySem.W.mg_of X G a36
 refine⟨PySem.W.fnOf "law" "law" (defArgs sLaw) (defBody sLaw) (defScope sLaw) .none kV36 dc36 pm36 an36 cd36 ct36,fun s v=>.of_eq rfl,fun base _ _=>?_⟩
 have TK:TakeF l.prog w K mg base f26 _:=⟨ok_take F26,m26,k26,b26⟩
 have C__law_box:CalF l.prog w K mg base 2 "_law_box" ["_law_script","_law_k"] (spBox K) f25 _:=⟨ok_box F25 T F24 m24 b24,m25,k25,b25⟩
 have TW:WeightF l.prog w K mg base f27 _:=⟨ok_weight F27 TK,m27,k27,b27⟩
 have C__law_web:CalF l.prog w K mg base 3 "_law_web" ["_law_box_here","_law_many"] spWeb f28 _:=⟨ok_web F28 T TK TW,m28,k28,b28⟩
 have C__law_small_web:CalF l.prog w K mg base 4 "_law_small_web" ["_law_box_here","_law_many"] spSw f31 _:=⟨ok_sw F31 T TK C__law_web,m31,k31,b31⟩
 have C__law_pairs:CalF l.prog w K mg base 2 "_law_pairs" ["_law_box_here","_law_many","_law_most"] spPr f30 _:=⟨ok_pr F30 T TK,m30,k30,b30⟩
 have C__law_least_pairs:CalF l.prog w K mg base 1 "_law_least_pairs" ["_law_web_here","_law_pairs_here"] spLp f32 _:=⟨ok_lp F32 T T2,m32,k32,b32⟩
 have C_tie_weights:CalF l.prog w K mg base 1 "tie_weights" ["web"] spTw f7 _:=⟨ok_tw F7,m7,k7,b7⟩
 have C_weight_of:CalF l.prog w K mg base 2 "weight_of" ["web","cut"] spWg f8 _:=⟨ok_wg F8 T C_tie_weights,m8,k8,b8⟩
 have C_without:CalF l.prog w K mg base 1 "without" ["web","cut"] (spWout K) f9 _:=⟨ok_wout F9 T,m9,k9,b9⟩
 have C_beside_each:CalF l.prog w K mg base 1 "beside_each" ["web"] spBes f10 _:=⟨ok_bes F10 T,m10,k10,b10⟩
 have C_spread:CalF l.prog w K mg base 1 "spread" ["beside","heads","head"] spSpr f12 _:=⟨ok_spr F12,m12,k12,b12⟩
 have C_heads_of:CalF l.prog w K mg base 2 "heads_of" ["web"] spHds f11 _:=⟨ok_hds F11 T C_beside_each C_spread,m11,k11,b11⟩
 have C_parts_pairs:CalF l.prog w K mg base 3 "parts_pairs" ["web","pairs","cut"] (spPP K) f14 _:=⟨ok_pp F14 T2 C_without C_heads_of,m14,k14,b14⟩
 have C_ways_from:CalF l.prog w K mg base 1 "ways_from" ["beside","kept","start"] spWf f18 _:=⟨ok_wf F18 T,m18,k18,b18⟩
 have C_loosest_way:CalF l.prog w K mg base 2 "loosest_way" ["web","pairs","cut","kept"] (spLw K) f17 _:=⟨ok_lw F17 T T2 C_beside_each C_without C_ways_from,m17,k17,b17⟩
 have C_ties_along:CalF l.prog w K mg base 1 "ties_along" ["way"] spAl f13 _:=⟨ok_al F13 T T2,m13,k13,b13⟩
 have C_lightest:CalF l.prog w K mg base 16 "lightest" ["web","pairs","cut","kept","best"] (spLg K 13) f16 _:=⟨ok_lg F16 T T2 C_weight_of C_parts_pairs C_loosest_way C_ties_along m16 k16 b16,m16,k16,b16⟩
 have C_least_for_pairs:CalF l.prog w K mg base 17 "least_for_pairs" ["web","pairs"] (spLf K) f15 _:=⟨ok_lf F15 C_weight_of C_lightest,m15,k15,b15⟩
 have C_is_tuple_of:CalF l.prog w K mg base 1 "is_tuple_of" ["thing","many"] spIt f4 _:=⟨ok_it F4 T,m4,k4,b4⟩
 have C_is_number:CalF l.prog w K mg base 1 "is_number" ["thing"] spNu f1 _:=⟨ok_nu F1 T,m1,k1,b1⟩
 have C_is_list:CalF l.prog w K mg base 1 "is_list" ["thing"] spIl f3 _:=⟨ok_il F3 T,m3,k3,b3⟩
 have C_are_numbers:CalF l.prog w K mg base 2 "are_numbers" ["things"] (spAn K) f2 _:=⟨ok_an F2 T2 C_is_number,m2,k2,b2⟩
 have C_rises:CalF l.prog w K mg base 1 "rises" ["things"] spRs f5 _:=⟨ok_rs F5 T2,m5,k5,b5⟩
 have C_is_cut:CalF l.prog w K mg base 3 "is_cut" ["web","thing"] spIc f6 _:=⟨ok_ic F6 T2 C_is_list C_is_tuple_of C_are_numbers C_tie_weights C_rises,m6,k6,b6⟩
 have C_is_way:CalF l.prog w K mg base 3 "is_way" ["web","thing"] spIw f22 _:=⟨ok_iw F22 T T2 T3.set C_is_list C_are_numbers C_tie_weights C_ties_along,m22,k22,b22⟩
 have C_is_way_of:CalF l.prog w K mg base 4 "is_way_of" ["web","pairs","number","thing"] spIo f21 _:=⟨ok_io F21 T C_is_number C_is_way,m21,k21,b21⟩
 have C_is_end:CalF l.prog w K mg base 31 "is_end" ["web","pairs","weight","cut","kept","thing"] (spIe 13) f20 _:=⟨ok_ie F20 F23 T T2 T3.any C_is_tuple_of C_weight_of C_is_way_of C_ties_along m20 k20 b20 m23 k23 b23,m20,k20,b20⟩
 have C_shows_for_pairs:CalF l.prog w K mg base 32 "shows_for_pairs" ["web","pairs","told"] (spSh K) f19 _:=⟨ok_sh F19 C_is_tuple_of C_is_number C_is_cut C_weight_of C_parts_pairs C_is_end,m19,k19,b19⟩
 have C__law_weigh:CalF l.prog w K mg base 1 "_law_weigh" ["_law_web_here","_law_cut"] spWe f29 _:=⟨ok_we F29 T,m29,k29,b29⟩
 have C__law_some_way:CalF l.prog w K mg base 2 "_law_some_way" ["_law_box_here","_law_web_here","_law_cut","_law_pair"] spSo f34 _:=⟨ok_so F34 T TK,m34,k34,b34⟩
 have C__law_ties:CalF l.prog w K mg base 1 "_law_ties" ["_law_way"] spLt f33 _:=⟨ok_lt F33 T T2,m33,k33,b33⟩
 have C__law_grown:CalF l.prog w K mg base 16 "_law_grown" ["_law_box_here","_law_case","_law_cut","_law_kept"] (spGr 13) f35 _:=⟨ok_gr F35 T T2 TK C__law_weigh C__law_some_way C__law_ties m35 k35 b35,m35,k35,b35⟩
 exact ok_law F36 T TK ⟨C__law_box,C__law_small_web,C__law_pairs,C__law_least_pairs,C_least_for_pairs,C_shows_for_pairs,C__law_grown,C__law_weigh⟩
theorem walk{l:PySem.W.OpenLaw}{q:Program}{loose:List Str}{XP:(Str->Option Value)->Heap->Prop}{YP:World->Heap->Prop}{d:DefRec}{K:Params->PySem.W.Frag}(hn:l.most=some 63)(hdf:d.params.defaults=[])(hY:∀ (w:World) (h:Heap),YP w h->(K w.params).In h)
  (F:∀ (w:World) (mg:Str->Option Value) (fa:Addr) (h:Heap),(K w.params).In h->h.Ns mainGlobals mg->mg d.name=some (.ref fa)->∃ fd:FuncData,(∀ (s:Shared) (u:Value),BindsTo s fd ⟨[u],[]⟩ [("_law_script",u)])/\∀ base:Heap,(K w.params).In base->base.Ns mainGlobals mg->FnOk l.prog w (K w.params) mg base CX0 33 fa fd ["_law_script"] (spLaw (K w.params))) :
  PySem.W.WalkO q loose XP YP l.row.toRowW d [] (fun f vs=>PySem.call f vs) :=
 L2.walk_of (n:=63) (k:=33) (x:="_law_script") (CX:=fun _=>CX0) (sp:=fun w=>spLaw (K w.params)) hn (by decide) hdf ⟨rfl,by decide,by decide,rfl⟩ hY F (fun _ _ a ns hl _ hS=>⟨a,ns,rfl,hS,hl,fun _=>rfl⟩) fun _ _ _ _ _ z=>z
end K63
open PySem PySem.W PyProof.Rows
set_option maxRecDepth 100000 in
set_option maxHeartbeats 0 in
def PySem.W.Fast.tw11769712219267866489 : PySem.Program := PySem.Challenge.pw_partedweb_k63_trees_by_others
theorem PySem.W.Fast.te11769712219267866489 : PySem.Challenge.pw_partedweb_k63_trees_by_others = PySem.W.Fast.tw11769712219267866489 := rfl
theorem PySem.Challenge.cw_partedweb_k63_trees_by_others_holds : PySem.Challenge.rw_partedweb_k63_trees_by_others.Holds := by
  w_on; o_law; k_head; (case hw => w_witness2)
  k_fill
  refine K63.walk (l := PySem.Challenge.rw_partedweb_k63_trees_by_others) rfl rfl (fun w h Y => PySem.W.kIn_of Y) ?F
  case F =>
    intro w mg fa h KX G hmg
    refine' K63.all_mk KX G hmg ?a1 ?l1 ?c1 ?k1 ?a2 ?l2 ?c2 ?k2 ?a3 ?l3 ?c3 ?k3 ?a4 ?l4 ?c4 ?k4 ?a5 ?l5 ?c5 ?k5 ?a6 ?l6 ?c6 ?k6 ?a7 ?l7 ?c7 ?k7 ?a8 ?l8 ?c8 ?k8 ?a9 ?l9 ?c9 ?k9 ?a10 ?l10 ?c10 ?k10 ?a11 ?l11 ?c11 ?k11 ?a12 ?l12 ?c12 ?k12 ?a13 ?l13 ?c13 ?k13 ?a14 ?l14 ?c14 ?k14 ?a15 ?l15 ?c15 ?k15 ?a16 ?l16 ?c16 ?k16 ?a17 ?l17 ?c17 ?k17 ?a18 ?l18 ?c18 ?k18 ?a19 ?l19 ?c19 ?k19 ?a20 ?l20 ?c20 ?k20 ?a21 ?l21 ?c21 ?k21 ?a22 ?l22 ?c22 ?k22 ?a23 ?l23 ?c23 ?k23 ?a24 ?l24 ?c24 ?k24 ?a25 ?l25 ?c25 ?k25 ?a26 ?l26 ?c26 ?k26 ?a27 ?l27 ?c27 ?k27 ?a28 ?l28 ?c28 ?k28 ?a29 ?l29 ?c29 ?k29 ?a30 ?l30 ?c30 ?k30 ?a31 ?l31 ?c31 ?k31 ?a32 ?l32 ?c32 ?k32 ?a33 ?l33 ?c33 ?k33 ?a34 ?l34 ?c34 ?k34 ?a35 ?l35 ?c35 ?k35 ?a36 ?l36 ?c36 ?k36 ?z1 ?z2 ?z3 ?z4 ?z5 ?z6 ?z7 ?z8 ?z9 ?z10 ?z11 ?z12 ?z13 ?z14 ?z15 ?z16 ?z17 ?z18 ?z19
    (case a1 => k_is); (case l1 => k_is); (case c1 => k_is); (case k1 => k_is); (case a2 => k_is); (case l2 => k_is)
    (case c2 => k_is); (case k2 => k_is); (case a3 => k_is); (case l3 => k_is); (case c3 => k_is); (case k3 => k_is)
    (case a4 => k_is); (case l4 => k_is); (case c4 => k_is); (case k4 => k_is); (case a5 => k_is); (case l5 => k_is)
    (case c5 => k_is); (case k5 => k_is); (case a6 => k_is); (case l6 => k_is); (case c6 => k_is); (case k6 => k_is)
    (case a7 => k_is); (case l7 => k_is); (case c7 => k_is); (case k7 => k_is); (case a8 => k_is); (case l8 => k_is)
    (case c8 => k_is); (case k8 => k_is); (case a9 => k_is); (case l9 => k_is); (case c9 => k_is); (case k9 => k_is)
    (case a10 => k_is); (case l10 => k_is); (case c10 => k_is); (case k10 => k_is); (case a11 => k_is); (case l11 => k_is)
    (case c11 => k_is); (case k11 => k_is); (case a12 => k_is); (case l12 => k_is); (case c12 => k_is); (case k12 => k_is)
    (case a13 => k_is); (case l13 => k_is); (case c13 => k_is); (case k13 => k_is); (case a14 => k_is); (case l14 => k_is)
    (case c14 => k_is); (case k14 => k_is); (case a15 => k_is); (case l15 => k_is); (case c15 => k_is); (case k15 => k_is)
    (case a16 => k_is); (case l16 => k_is); (case c16 => k_is); (case k16 => k_is); (case a17 => k_is); (case l17 => k_is)
    (case c17 => k_is); (case k17 => k_is); (case a18 => k_is); (case l18 => k_is); (case c18 => k_is); (case k18 => k_is)
    (case a19 => k_is); (case l19 => k_is); (case c19 => k_is); (case k19 => k_is); (case a20 => k_is); (case l20 => k_is)
    (case c20 => k_is); (case k20 => k_is); (case a21 => k_is); (case l21 => k_is); (case c21 => k_is); (case k21 => k_is)
    (case a22 => k_is); (case l22 => k_is); (case c22 => k_is); (case k22 => k_is); (case a23 => k_is); (case l23 => k_is)
    (case c23 => k_is); (case k23 => k_is); (case a24 => k_is); (case l24 => k_is); (case c24 => k_is); (case k24 => k_is)
    (case a25 => k_is); (case l25 => k_is); (case c25 => k_is); (case k25 => k_is); (case a26 => k_is); (case l26 => k_is)
    (case c26 => k_is); (case k26 => k_is); (case a27 => k_is); (case l27 => k_is); (case c27 => k_is); (case k27 => k_is)
    (case a28 => k_is); (case l28 => k_is); (case c28 => k_is); (case k28 => k_is); (case a29 => k_is); (case l29 => k_is)
    (case c29 => k_is); (case k29 => k_is); (case a30 => k_is); (case l30 => k_is); (case c30 => k_is); (case k30 => k_is)
    (case a31 => k_is); (case l31 => k_is); (case c31 => k_is); (case k31 => k_is); (case a32 => k_is); (case l32 => k_is)
    (case c32 => k_is); (case k32 => k_is); (case a33 => k_is); (case l33 => k_is); (case c33 => k_is); (case k33 => k_is)
    (case a34 => k_is); (case l34 => k_is); (case c34 => k_is); (case k34 => k_is); (case a35 => k_is); (case l35 => k_is)
    (case c35 => k_is); (case k35 => k_is); (case a36 => k_is); (case l36 => k_is); (case c36 => k_is); (case k36 => k_is)
    (case z1 => k_is); (case z2 => k_is); (case z3 => k_is); (case z4 => k_is); (case z5 => k_is); (case z6 => k_is)
    (case z7 => k_is); (case z8 => k_is); (case z9 => k_is); (case z10 => k_is); (case z11 => k_is); (case z12 => k_is)
    (case z13 => k_is); (case z14 => k_is); (case z15 => k_is); (case z16 => k_is); (case z17 => k_is); (case z18 => k_is)
    (case z19 => k_is)
#print axioms PySem.Challenge.cw_partedweb_k63_trees_by_others_holds
