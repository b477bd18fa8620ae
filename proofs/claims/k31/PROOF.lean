import PyProof.Rows.All
import Wide.All
import OpenK.AllK
import Wide.FinOn
import Lean
import PyProof.EqAt
import PyProof.EqKinds
import PyProof.TupleCall
import PySem.Challenge.RW_partedweb_k31_rounded_within_the_factor
set_option Elab.async false
set_option linter.all false
set_option genInjectivity false
set_option genSizeOf false
set_option maxRecDepth 100000
abbrev zA:=@List.length_map
abbrev zB:=@PySem.wpAny_bind
abbrev zC:=@PySem.Heap.get?_push_of_some
abbrev zD:=@List.mem_cons_of_mem
abbrev zE:=@List.getElem?_eq_getElem
abbrev zF:=@List.mem_cons_self
abbrev zG:=@PySem.wpAny_pure
abbrev zH:=@List.mem_singleton
abbrev zI:=@List.getElem?_eq_some_iff
abbrev zJ:=@Nat.le_refl
abbrev zK:=@List.take_succ_eq_append_getElem
abbrev zL:=@List.mem_append_right
abbrev zN:=@List.map_cons
abbrev zO:=@List.length_append
abbrev zP:=@List.map_append
abbrev zQ:=@PySem.Heap.lt_size
abbrev zS:=@List.getElem_mem
abbrev zT:=@Bool.false_ne_true
abbrev zU:=@List.getElem_map
abbrev zV:=@PySem.Heap.get?_push_size
abbrev zW:=@List.mem_cons
abbrev zX:=@List.mem_append
abbrev zY:=@List.size_toArray
abbrev zZ:=@Nat.lt_of_lt_of_le
abbrev zAA:=@Nat.le_add_right
abbrev zAB:=@List.getElem?_map
abbrev zAC:=@Int.toNat_natCast
abbrev zAD:=@Int.mul_assoc
abbrev zAE:=@Nat.le_trans
abbrev zAF:=@List.sum_cons
abbrev zAG:=@Nat.ne_of_lt
abbrev zAH:=@List.mem_map
abbrev zAI:=@List.append_assoc
abbrev zAJ:=@List.pairwise_append
abbrev zAK:=@Array.getElem?_eq_getElem
abbrev zAL:=@List.getD_eq_getElem?_getD
abbrev zAM:=@Nat.lt_irrefl
abbrev zAN:=@List.take_length
abbrev zAO:=@List.length_cons
abbrev zAP:=@List.map_congr_left
abbrev zAQ:=@List.mem_append_left
abbrev zAR:=@Nat.lt_of_le_of_lt
abbrev zAS:=@List.length_take
abbrev zAT:=@Nat.zero_le
abbrev zAU:=@Int.mul_le_mul_of_nonneg_left
abbrev zAV:=@Nat.lt_of_succ_le
abbrev zAW:=@List.map_map
abbrev zAX:=@Int.mul_comm
abbrev zAY:=@Int.natCast_nonneg
abbrev zAZ:=@List.take_of_length_le
abbrev zBA:=@List.mem_filter
abbrev zBB:=@Nat.le_of_lt
abbrev zBC:=@Array.getElem?_toList
abbrev zBD:=@List.take_append_drop
abbrev zBE:=@List.getElem_of_mem
abbrev zBF:=@List.drop_eq_getElem_cons
abbrev zBG:=@List.mem_range
abbrev zBH:=@Nat.sub_succ_lt_self
abbrev zBI:=@Int.le_refl
abbrev zBJ:=@Int.mul_lt_mul_of_pos_right
abbrev zBK:=@Array.length_toList
abbrev zBL:=@Nat.ne_of_gt
abbrev zBM:=@List.replicate_succ
abbrev zBN:=@Int.le_of_lt
abbrev zBO:=@List.mem_map_of_mem
abbrev zBP:=@List.append_nil
abbrev zBQ:=@List.length_range
abbrev zBR:=@List.pairwise_iff_getElem
abbrev zBS:=@Nat.lt_of_succ_lt_succ
abbrev zBT:=@List.lookup_cons
abbrev zBU:=@Bool.eq_false_iff
abbrev zBV:=@List.filter_cons_of_pos
abbrev zBW:=@Bool.false_eq_true
abbrev zBX:=@Nat.le_of_eq
abbrev zBY:=@Array.toList_append
abbrev zBZ:=@Nat.le_of_ble_eq_true
abbrev zCA:=@List.length_filter_le
abbrev zCB:=@List.length_drop
abbrev zCC:=@Bool.and_eq_true
abbrev zCD:=@List.mem_flatten
abbrev zCE:=@List.filter_cons_of_neg
abbrev zCF:=@List.flatten_cons
abbrev zCG:=@Nat.lt_succ_of_lt
abbrev zCH:=@List.nodup_append
abbrev zCI:=@Int.ediv_mul_cancel
abbrev zCJ:=@List.getElem?_eq_none
abbrev zCK:=@Int.gcd_dvd_left
abbrev zCL:=@Int.mul_right_comm
abbrev zCM:=@Int.mul_ediv_cancel_left
abbrev zCN:=@List.nodup_nil
abbrev zCO:=@Bool.eq_iff_iff
abbrev zCP:=@List.nodup_cons
abbrev zCQ:=@Nat.add_lt_add_left
theorem zh1{n:Nat}:-2^62<=(n:Int):=by omega
theorem zh2{n:Nat}:-2^63<=(n:Int):=by omega
theorem zh3{y:Int}(h:0<=y):y=↑y.toNat:=by omega
theorem zh4{n:Nat}(h:0<n):n-1<n:=by omega
theorem zh5{n:Nat}(h:0<n):n=n-1+1:=by omega
theorem zh6{n:Nat}(h:0<n):n-1+1=n:=by omega
theorem zh7{i j:Nat}(h:i<j)(e:j=k):i<k:=by omega
theorem zh8{i j:Nat}(h:i<j)(e:k=j):i<k:=by omega
theorem zh9{i j k:Nat}(h:j<=k)(e:i=j):i<=k:=by omega
theorem zi1{k:Nat}{L:Nat}(h:(k:Int)<L):((0<=if(k:Int)<0 then(k:Int)+(L:Int)else(k:Int))/\(if(k:Int)<0 then(k:Int)+(L:Int)else(k:Int))<L)/\(if(k:Int)<0 then(k:Int)+(L:Int)else(k:Int)).toNat=k:=by omega
theorem zi2{k L:Nat}(h:k<L):(k:Int)<(L:Int):=by omega
theorem zi3{k L:Nat}(h:(k:Int)<(L:Int)):k<L:=by omega
theorem zi4{x:Int}{i n:Nat}(h:i<n)(e:(i:Int)=x):0<=x/\x<(n:Int):=by omega
theorem zi5{i n:Nat}(h:i<n):0<=(i:Int)/\(i:Int)<(n:Int):=by omega
theorem zi6{i n:Nat}(h:i<n+1):i<=n:=by omega
theorem zi7{i n:Nat}(h:i<n)(g:¬i+1=n):i+1<n:=by omega
theorem zi8{n:Nat}(h:0<n)(g:¬n=1):1<n:=by omega
theorem zi9{i j n:Nat}(h:i<j)(g:j<=n):i<n:=by omega
theorem zj1{i n:Nat}(h:i+1<n):i<n:=by omega
theorem zj2{i n:Nat}(h:i+1<=n):i<=n:=by omega
theorem zj3{i n:Nat}(h:¬i<n):n<=i:=by omega
theorem zj4{i n:Nat}(h:¬n<=i):i<n:=by omega
theorem zj5{i n:Nat}(h:¬i=n)(g:i<=n):i<n:=by omega
theorem zj7{i n:Nat}(h:i<=n)(g:¬i<n):i=n:=by omega
theorem zj8{i:Nat}(h:i≠0):0<i:=by omega
theorem zj9{i n:Nat}(h:i<n):0<n:=by omega
theorem zl1{a k c:Nat}(h:a<=k)(d:Nat.ble k c=true):a<=c:=zAE h (zBZ d)
theorem zl2{a k c:Nat}(h:a<=k)(d:Nat.ble (k+1) c=true):a<c:=zAR h (zBZ d)
theorem zl3{a k c:Nat}(h:a<k)(d:Nat.ble k c=true):a<c:=zZ h (zBZ d)
theorem zl4{a k c:Nat}(h:a<k)(d:Nat.ble k c=true):a<=c:=zAE (zBB h) (zBZ d)
theorem zm1{n m k:Nat}(h:n<=m)(g:m=k):n<=k:=by omega
theorem zm2{n:Nat}{k:Nat}(h:n<=k)(d:Nat.ble k 4611686018427387903=true):(n:Int)<2^62:=by have:=zBZ d;omega
theorem zm3{n k:Nat}(h:n<=k)(d:Nat.ble k 1000000=true):(n:Int)<=1000000:=by have:=zBZ d;omega
theorem zm5{k m n:Nat}(h:(k:Int)<(m:Int))(e:n=m):k<n:=by omega
theorem zn1{n:Nat}{x y:Int}(e:x=(n:Int))(h:x<y):(n:Int)<y:=by omega
theorem zn2{n:Nat}{k:Nat}(h:n<=k)(d:Nat.ble k 255=true):((n:Int)).natAbs<2^8:=by have:=zBZ d;omega
theorem zn3{x:Int}(h:0<x):0<2*x:=by omega
theorem zn4{a b:Nat}:a+b+1<=a+(b+1):=zJ _
theorem zn5{a b:Nat}(h:a<b):a+1<=b:=h
theorem zn6{a b:Nat}(h:a+1<b+1):a<b:=by omega
theorem zn7{n:Nat}:(-1+(n:Int)).toNat=n-1:=by omega
theorem zn8{n:Nat}:min (n-1) n=n-1:=by omega
namespace L2
open PySem PySem.Spec PyProof.Rows
noncomputable abbrev Key:=Sum Int Str
noncomputable def keyIs:Key->Value->Bool
 | .inl k,v=>Value.isInt k v
 | .inr x,v=>Value.isStrOf x v
noncomputable def keyH(w:World):Key->Int
 | .inl k=>hashInt k
 | .inr x=>hashStr w x
theorem keyIs_shape:∀ {k:Key}{v:Value},keyIs k v=true->(∃ i t,k=Sum.inl i/\v=Value.int i t)\/(∃ x t,k=Sum.inr x/\v=Value.str x t)
 | .inl i,v,h=>by
  obtain⟨t,e⟩:=Value.isInt_shape (k:=i) (v:=v) h
  exact .inl ⟨i,t,rfl,e⟩
 | .inr x,v,h=>by
  obtain⟨t,e⟩:=Value.isStrOf_shape (x:=x) (v:=v) h
  exact .inr ⟨x,t,rfl,e⟩
theorem keyIs_int(i:Int)(t:Tok):keyIs (.inl i) (.int i t)=true:=by simp[keyIs,Value.isInt]
theorem keyIs_str(x:Str)(t:Tok):keyIs (.inr x) (.str x t)=true:=by simp[keyIs,Value.isStrOf]
theorem key_ll(a b:Int):decide ((Sum.inl a:Key)=Sum.inl b)=(a == b):=by
 by_cases e:a=b
 ·subst e;simp
 ·have h:¬(Sum.inl a:Key)=Sum.inl b:=fun q=>e (Sum.inl.inj q)
  rw[decide_eq_false h]
  exact(beq_eq_false_iff_ne.mpr e).symm
theorem key_rr(a b:Str):decide ((Sum.inr a:Key)=Sum.inr b)=decide (a=b):=by
 by_cases e:a=b
 ·subst e;simp
 ·have h:¬(Sum.inr a:Key)=Sum.inr b:=fun q=>e (Sum.inr.inj q)
  rw[decide_eq_false h,decide_eq_false e]
theorem key_lr(a:Int)(b:Str):decide ((Sum.inl a:Key)=Sum.inr b)=false:=decide_eq_false (fun q=>nomatch q)
theorem key_rl(a:Str)(b:Int):decide ((Sum.inr a:Key)=Sum.inl b)=false:=decide_eq_false (fun q=>nomatch q)
noncomputable def mixKind(prog:Program)(w:World):PySem.KeyKind prog w Key where
 is:=keyIs
 hash:=keyH w
 inj:=fun v a b ha hb=>by
  rcases keyIs_shape ha with⟨i,t,rfl,rfl⟩ |⟨x,t,rfl,rfl⟩
  ·rcases keyIs_shape hb with⟨j,u,rfl,e⟩ |⟨y,u,rfl,e⟩
   ·injection e with e1 _;rw[e1]
   ·exact nomatch e
  ·rcases keyIs_shape hb with⟨j,u,rfl,e⟩ |⟨y,u,rfl,e⟩
   ·exact nomatch e
   ·injection e with e1 _;rw[e1]
 byValue:=fun k v h=>by
  rcases keyIs_shape h with⟨i,t,rfl,rfl⟩ |⟨x,t,rfl,rfl⟩ <;> rfl
 pyHash:=fun hv h=>by
  rcases keyIs_shape hv with⟨i,t,rfl,rfl⟩ |⟨x,t,rfl,rfl⟩
  ·exact wpAny_pyHash_int h
  ·exact wpAny_pyHash_str h
 eqBool:=fun hu hv h=>by
  rcases keyIs_shape hu with⟨i,t,rfl,rfl⟩ |⟨x,t,rfl,rfl⟩
  ·rcases keyIs_shape hv with⟨j,u,rfl,rfl⟩ |⟨y,u,rfl,rfl⟩
   ·rw[key_ll]at h;exact wpAny_eqBool_int h
   ·rw[key_lr]at h;exact SeqAt.EqAt.int_str i t y u _ _ _ _ h
  ·rcases keyIs_shape hv with⟨j,u,rfl,rfl⟩ |⟨y,u,rfl,rfl⟩
   ·rw[key_rl]at h;exact SeqAt.EqAt.str_int x t j u _ _ _ _ h
   ·rw[key_rr]at h;exact wpAny_eqBool_str h
 «strs»:=fun k x t v h=>by
  rcases keyIs_shape h with⟨i,u,rfl,e⟩ |⟨y,u,rfl,e⟩
  ·exact nomatch e
  ·injection e with e1 _
   subst e1
   cases v <;> rfl
theorem mixKind_int(prog:Program)(w:World)(i:Int)(t:Tok):(mixKind prog w).is (.inl i) (.int i t)=true:=keyIs_int i t
theorem mixKind_str(prog:Program)(w:World)(x:Str)(t:Tok):(mixKind prog w).is (.inr x) (.str x t)=true:=keyIs_str x t
open PySem PySem.Spec PyProof.Rows
set_option genInjectivity true in
inductive V where
 |non | bl (b:Bool) | int (i:Int) | str (x:Str) | byt (b:Array UInt8) | flt (b:UInt64) | ref (a:Addr) | ty (n:String)
 deriving DecidableEq
noncomputable def RelV:V->Value->Prop
 | .non,u=>u=Value.none
 | .bl b,u=>u=Value.bool b
 | .int i,u=>∃ t,u=Value.int i t
 | .str x,u=>∃ t,u=Value.str x t
 | .byt b,u=>∃ t,u=Value.bytes b t
 | .flt b,u=>∃ t,u=Value.float b t
 | .ref a,u=>u=Value.ref a
 | .ty n,u=>u=Value.type n
noncomputable abbrev Vals:List V->List Value->Prop:=Paired RelV
theorem Vals.length{xs:List V}{us:List Value}(r:Vals xs us):xs.length=us.length:=Paired.length r
theorem Vals.get:∀ {xs:List V}{us:List Value}{i:Nat}{x:V},Vals xs us->xs[i]?=some x->∃ u,us[i]?=some u/\RelV x u
 | _,_,_,_,.nil,e=>by simp at e
 | _,_,0,_,.cons r _,e=>by simp at e;subst e;exact⟨_,rfl,r⟩
 | _,_,i+1,x,.cons _ t,e=>by
  obtain⟨u,h1,h2⟩:=Vals.get (i:=i) (x:=x) t (by simpa using e)
  exact⟨u,by simpa using h1,h2⟩
theorem Vals.set{x:V}{u:Value}(r:RelV x u):∀ {xs:List V}{us:List Value} (i:Nat),Vals xs us->Vals (xs.set i x) (us.set i u)
 | _,_,_,.nil=>.nil
 | _,_,0,.cons _ t=>.cons r t
 | _,_,i+1,.cons q t=>.cons q (Vals.set r i t)
theorem Vals.append:∀ {xs ys:List V}{us ws:List Value},Vals xs us->Vals ys ws->Vals (xs++ys) (us++ws)
 | _,_,_,_,.nil,s=>s
 | _,_,_,_,.cons r t,s=>.cons r (Vals.append t s)
theorem Vals.take:∀ {xs:List V}{us:List Value} (n:Nat),Vals xs us->Vals (xs.take n) (us.take n)
 | _,_,0,_=>.nil
 | _,_,_+1,.nil=>.nil
 | _,_,n+1,.cons r t=>.cons r (Vals.take n t)
theorem Vals.drop:∀ {xs:List V}{us:List Value} (n:Nat),Vals xs us->Vals (xs.drop n) (us.drop n)
 | _,_,0,r=>r
 | _,_,_+1,.nil=>.nil
 | _,_,n+1,.cons _ t=>Vals.drop n t
noncomputable def RelO:Option V->Option Value->Prop
 |some v,some u=>RelV v u
 |none,none=>True
 | _,_=>False
noncomputable def KV{κ:Type}:List (κ×V)->List (κ×Value)->Prop:=Paired fun(p:κ×V) (q:κ×Value)=>p.1=q.1/\RelV p.2 q.2
noncomputable def kV:Key->V
 | .inl i=>.int i
 | .inr x=>.str x
inductive HO where
 /-- a list -/
 |lst (xs:List V)
 /-- a tuple (never changes) -/
 |tup (xs:List V)
 /-- a dict whose keys are ints and texts;one whose keys are tuples of ints and texts (the empty one is both) -/
 |dK (kvs:List (Key×V)) | dT (kvs:List (List Key×V))
 /-- a set of ints: its members,its size -/
 |set (S:Int->Bool) (n:Nat)
 /-- an instance of the class at C,its dict at dx,its attributes -/
 |ins (C dx:Addr) (fs:List (Str×V))
 /-- the dict of the instance at x -/
 |own (x:Addr)
 /-- the dict of an exception -/
 |xd (fs:List (Str×V))
 /-- a bound method,f of x -/
 |met (f x:Addr)
 /-- a range object lo,lo+1,.. below hi -/
 |rng (lo hi:Int)
 /-- a thing that is known to the object (the script;a dict while a loop walks it): read,never written while it is so -/
 |frz (o:Obj) (u:HO)
 /-- a code object's table -/
 |tbl (ps:Array Value)
 /-- any other thing,by what is true of its one object (a def of one's own: SetO a S n:=HO.ext fun h=>..) -/
 |ext (φ:Heap->Prop)
noncomputable abbrev Hp:=Addr->Option HO
noncomputable def upd(H:Hp)(a:Addr)(o:HO):Hp:=fun b=>if b=a then some o else H b
theorem yaa{H:Hp}{a:Addr}{o:HO}:upd H a o a=some o:=by unfold upd;rw[if_pos rfl]
theorem upd_ne{H:Hp}{a b:Addr}{o:HO}(h:b≠a):upd H a o b=H b:=by unfold upd;rw[if_neg h]
theorem ne_of{H:Hp}{a b:Addr}{o u:HO}(h:H a=some o)(h':H b=some u)(d:o≠u):a≠b:=by
 intro e;subst e;rw[h]at h';exact d (Option.some.inj h')
theorem ne_of_none{H:Hp}{a b:Addr}{o:HO}(h:H a=some o)(h':H b=none):a≠b:=by
 intro e;subst e;rw[h]at h';cases h'
section
variable(P:Program)(w:World)
noncomputable def ObjOk(H:Hp)(h:Heap)(a:Addr):HO->Prop
 | .lst xs=>xs.length<=sizeLine/\∃ (its:List Value) (n:Nat),Vals xs its/\h.get? a=some { cls:=.type "list",data:=.seq its.toArray n }
 | .tup xs=>xs.length<=sizeLine/\∃ its:List Value,Vals xs its/\IsTup h a its.toArray
 | .dK kvs=>kvs.length<=sizeLine/\(a == sysModules)=false/\∃ vs,KV kvs vs/\h.DictOf (mixKind P w) a vs
 | .dT kvs=>kvs.length<=sizeLine/\(a == sysModules)=false/\∃ xs:List (List Key×Addr×Value),
   Paired (fun(p:List Key×V) (q:List Key×Addr×Value)=>p.1=q.1/\H q.2.1=some (.tup (p.1.map kV))/\RelV p.2 q.2.2) kvs xs /\
   ∃ o es ep,h.get? a=some o/\o.ExactDict/\o.data = .dict es ep/\es.toList=xs.map (entryOfKey (tupleKind (mixKind P w)))/\(xs.map (·.1)).Nodup
 | .set S n=>h.SetOf (intKind P w) a S n
 | .ins C dx fs=>H dx=some (.own a)/\fs.length<=1000/\dx≠a/\h.get? a=some (PySem.W.instObj C dx) /\
   ∃ mA,h.Ns1 dx mA/\(∀ f,RelO (fs.lookup f) (mA f))/\PySem.Within mA (fs.map (·.1))
 | .own _=>∃ o,h.get? a=some o
 | .xd fs=>∃ mA,h.Ns1 a mA/\∀ f,RelO (fs.lookup f) (mA f)
 | .rng lo hi=>∃ t u v,h.get? a=some { cls:=.type "range",data:=.fields #[.int lo t,.int hi u,.int 1 v] }
 | .frz o u=>h.get? a=some o/\ObjOk H h a u
 | .tbl ps=>h.get? a=some { cls:=.none,data:=.fields ps }
 | .met f x=>h.get? a=some (PySem.W.methodObj (.ref f) (.ref x))
 | .ext φ=>φ h/\(∃ o,h.get? a=some o)/\∀ h1 h2:Heap,φ h1->(∀ o,h1.get? a=some o->h2.get? a=some o)->φ h2
noncomputable def HOk(H:Hp)(h:Heap):Prop:=∀ a o,H a=some o->ObjOk P w H h a o
end
section
variable{P:Program}{w:World}{H H':Hp}{h h':Heap}{a:Addr}{o:HO}
theorem ObjOk.lt(x:ObjOk P w H h a o):a<h.objs.size:=by
 cases o with
 |lst xs=>obtain⟨_,_,_,_,e⟩:=x;exact zQ e
 |tup xs=>obtain⟨_,_,_,p⟩:=x;exact p.lt
 |dK kvs=>obtain⟨_,_,_,_,o,_,_,e,_⟩:=x;exact zQ e
 |dT kvs=>obtain⟨_,_,_,_,o,_,_,e,_⟩:=x;exact zQ e
 |set S n=>obtain⟨o,_,_,_,e,_⟩:=x;exact zQ e
 |ins C dx fs=>obtain⟨_,_,_,e,_⟩:=x;exact zQ e
 |own y=>obtain⟨_,e⟩:=x;exact zQ e
 |xd fs=>obtain⟨_,⟨_,_,_,e,_⟩,_⟩:=x;exact zQ e
 |rng lo hi=>obtain⟨_,_,_,e⟩:=x;exact zQ e
 |frz ob u=>obtain⟨e,_⟩:=x;exact zQ e
 |tbl ps=>exact zQ (show h.get? a=some _ from x)
 |met f y=>exact zQ (show h.get? a=some _ from x)
 |ext φ=>obtain⟨_,⟨_,e⟩,_⟩:=x;exact zQ e
theorem Paired.mapP{α β:Type}{F G:α->β->Prop}:∀ {l₁:List α}{l₂:List β},Paired F l₁ l₂->(∀ a b,F a b->G a b)->Paired G l₁ l₂
 | _,_,.nil,_=>.nil
 | _,_,.cons r t,f=>.cons (f _ _ r) (Paired.mapP t f)
theorem ObjOk.stay(x:ObjOk P w H h a o)(k:∀ b u,(b=a\/H b=some (.own a))->h.get? b=some u->h'.get? b=some u)
  (ho:∀ b,H b=some (.own a)->H' b=some (.own a)) (ht:∀ b xs,H b=some (.tup xs)->H' b=some (.tup xs)):ObjOk P w H' h' a o:=by
 induction o with
 |lst xs=>obtain⟨z,its,n,r,e⟩:=x;exact⟨z,its,n,r,k _ _ (.inl rfl) e⟩
 |tup xs=>obtain⟨z,its,r,ob,e,c⟩:=x;exact⟨z,its,r,ob,k _ _ (.inl rfl) e,c⟩
 |dK kvs=>obtain⟨z,y,vs,r,ob,es,ep,e,c⟩:=x;exact⟨z,y,vs,r,ob,es,ep,k _ _ (.inl rfl) e,c⟩
 |dT kvs =>
  obtain⟨z,y,xs,r,ob,es,ep,e,c⟩:=x
  exact⟨z,y,xs,Paired.mapP r fun p q z=>⟨z.1,ht _ _ z.2.1,z.2.2⟩,ob,es,ep,k _ _ (.inl rfl) e,c⟩
 |set S n=>obtain⟨ob,es,ep,t,e,c⟩:=x;exact⟨ob,es,ep,t,k _ _ (.inl rfl) e,c⟩
 |ins C dx fs =>
  obtain⟨d,z,ne,e,mA,⟨od,es,ep,e2,c⟩,r⟩:=x
  exact⟨ho _ d,z,ne,k _ _ (.inl rfl) e,mA,⟨od,es,ep,k _ _ (.inr d) e2,c⟩,r⟩
 |own y=>obtain⟨ob,e⟩:=x;exact⟨ob,k _ _ (.inl rfl) e⟩
 |xd fs=>obtain⟨mA,⟨od,es,ep,e,c⟩,r⟩:=x;exact⟨mA,⟨od,es,ep,k _ _ (.inl rfl) e,c⟩,r⟩
 |rng lo hi=>obtain⟨t,u,v,e⟩:=x;exact⟨t,u,v,k _ _ (.inl rfl) e⟩
 |frz ob u ih=>obtain⟨e,q⟩:=x;exact⟨k _ _ (.inl rfl) e,ih q⟩
 |tbl ps =>
  have e:h.get? a=some { cls:=.none,data:=.fields ps }:=x
  show h'.get? a=some { cls:=.none,data:=.fields ps }
  exact k a _ (.inl rfl) e
 |met f y =>
  have e:h.get? a=some (PySem.W.methodObj (.ref f) (.ref y)):=x
  show h'.get? a=some (PySem.W.methodObj (.ref f) (.ref y))
  exact k a _ (.inl rfl) e
 |ext φ=>obtain⟨p,⟨o,e⟩,st⟩:=x;exact⟨st _ _ p fun o q=>k _ _ (.inl rfl) q,⟨o,k _ _ (.inl rfl) e⟩,st⟩
theorem HOk.lt(x:HOk P w H h)(e:H a=some o):a<h.objs.size:=(x a o e).lt
theorem HOk.fresh(x:HOk P w H h)(e:h.objs.size<=a):H a=none:=by
 cases q:H a with
 |none=>rfl
 |some u=>exact absurd (zZ (x.lt q) e) (zAM _)
theorem HOk.kept(x:HOk P w H h)(k:∀ b u,h.get? b=some u->h'.get? b=some u):HOk P w H h':=fun a o e =>
 (x a o e).stay (fun b u _ q=>k b u q) (fun _ q=>q) fun _ _ q=>q
theorem HOk.laid(x:HOk P w H h)(k:∀ b u,h.get? b=some u->h'.get? b=some u)(hp:h.objs.size<=a)(new:ObjOk P w (upd H a o) h' a o):HOk P w (upd H a o) h':=fun b u e=>by
 have hn:=x.fresh hp
 by_cases hb:b=a
 ·subst hb;rw[yaa]at e;cases e;exact new
 ·rw[upd_ne hb]at e
  exact(x b u e).stay (fun c v _ q=>k c v q) (fun c q=>by rw[upd_ne (ne_of_none q hn)];exact q) fun c xs q=>by rw[upd_ne (ne_of_none q hn)];exact q
end
noncomputable def Rd(H:Hp)(a:Addr)(u:HO):Prop:=H a=some u\/∃ o,H a=some (.frz o u)
theorem Rd.ok{P:Program}{w:World}{H:Hp}{h:Heap}{a:Addr}{u:HO}(r:Rd H a u)(x:HOk P w H h):ObjOk P w H h a u:=by
 rcases r with r |⟨o,r⟩
 ·exact x a u r
 ·obtain⟨_,q⟩:=x a _ r
  exact q
noncomputable def Mut:Option HO->Prop
 |some (.lst _)=>True
 |some (.dK _)=>True
 |some (.dT _)=>True
 |some (.set _ _)=>True
 |some (.ins _ _ _)=>True
 |some (.ext _)=>True
 | _=>False
section
variable{P:Program}{w:World}{H:Hp}{h h':Heap}{x e:Addr}{o':HO}
theorem HOk.write(ok:HOk P w H h)(mu:Mut (H x))(he:e=x\/H e=some (.own x))(k:∀ b u,b≠e->h.get? b=some u->h'.get? b=some u)(heo:∃ u,h'.get? e=some u)
  (new:ObjOk P w (upd H x o') h' x o'):HOk P w (upd H x o') h':=fun b u q=>by
 have nown:∀ c y,H c=some (.own y)->c≠x:=fun c y r z=>by subst z;rw[r]at mu;exact mu
 have ntup:∀ c xs,H c=some (.tup xs)->c≠x:=fun c xs r z=>by subst z;rw[r]at mu;exact mu
 by_cases hb:b=x
 ·subst hb;rw[yaa]at q;cases q;exact new
 ·rw[upd_ne hb]at q
  by_cases hbe:b=e
  ·have q':H b=some (.own x):=by
    rcases he with z | z
    ·exact absurd (hbe.trans z) hb
    ·rw[hbe];exact z
   rw[q]at q';cases q'
   obtain⟨v,hv⟩:=heo
   exact⟨v,by rw[hbe];exact hv⟩
  ·refine(ok b u q).stay (fun c v hc r=>k c v ?_ r) (fun c r=>by rw[upd_ne (nown c b r)];exact r) fun c xs r=>by rw[upd_ne (ntup c xs r)];exact r
   rcases hc with rfl | hc
   ·exact hbe
   ·rintro rfl
    rcases he with z | z
    ·exact nown c b hc z
    ·rw[hc]at z;cases z;exact hb rfl
end
structure Un(fs ex:List Addr)(H H':Hp)(h h':Heap):Prop where
 keep:∀ b o,h.get? b=some o->H b=none->b∉fs->b∉ex->h'.get? b=some o
 slot:∀ b o,h.get? b=some o->H b=none->b∈fs->b∉ex->∃ sl,h'.get? b=some { o with slots:=sl }
 free:∀ b o,h.get? b=some o->H b=none->b∉ex->H' b=none
 there:∀ b o,h.get? b=some o->b∉ex->∃ o',h'.get? b=some o'
 tups:∀ b xs,H b=some (.tup xs)->H' b=some (.tup xs)
 frzs:∀ b o u,H b=some (.frz o u)->H' b=some (.frz o u)
 tbls:∀ b ps,H b=some (.tbl ps)->∃ more,H' b=some (.tbl (ps++more))
section
variable{fs fs' ex ex':List Addr}{H H1 H2:Hp}{h h1 h2 h':Heap}{a x e:Addr}{o:HO}
theorem Un.any(u:Un fs ex H H1 h h1){b:Addr}{ob:Obj}(q:h.get? b=some ob)(n:H b=none)(hx:b∉ex):∃ sl,h1.get? b=some { ob with slots:=sl }:=by
 by_cases hb:b∈fs
 ·exact u.slot b ob q n hb hx
 ·exact⟨ob.slots,u.keep b ob q n hb hx⟩
theorem Un.kept(k:∀ b u,h.get? b=some u->h'.get? b=some u):Un fs ex H H h h' :=
 ⟨fun b ob q _ _ _=>k b ob q,fun b ob q _ _ _=>⟨ob.slots,k b ob q⟩,fun _ _ _ n _=>n,fun b ob q _=>⟨ob,k b ob q⟩,fun _ _ q=>q,fun _ _ _ q=>q,fun _ ps q=>⟨#[],by rw[q];simp⟩⟩
theorem Un.refl:Un fs ex H H h h:=Un.kept fun _ _ q=>q
theorem Un.laid(k:∀ b u,h.get? b=some u->h'.get? b=some u)(hp:h.objs.size<=a)(hn:H a=none):Un fs ex H (upd H a o) h h' where
 keep:=fun b u q _ _ _=>k b u q
 slot:=fun b u q _ _ _=>⟨u.slots,k b u q⟩
 free:=fun b u q n _=>by rw[upd_ne (zAG (zZ (zQ q) hp))];exact n
 there:=fun b u q _=>⟨u,k b u q⟩
 tups:=fun b xs q=>by rw[upd_ne (ne_of_none q hn)];exact q
 frzs:=fun b u xs q=>by rw[upd_ne (ne_of_none q hn)];exact q
 tbls:=fun b ps q=>⟨#[],by rw[upd_ne (ne_of_none q hn),q];simp⟩
theorem Un.write(mu:Mut (H x))(he:e=x\/H e=some (.own x))(k:∀ b u,b≠e->h.get? b=some u->h'.get? b=some u)(heo:∃ u,h'.get? e=some u):Un fs ex H (upd H x o) h h':=by
 have hx:∀ b,H b=none->b≠x:=fun b n z=>by subst z;rw[n]at mu;exact mu
 have hb:∀ b,H b=none->b≠e:=fun b n z=>by
  subst z
  rcases he with r | r
  ·exact hx b n r
  ·rw[n]at r;cases r
 have hm:∀ b u,H b=some u->¬ Mut (some u)->b≠x:=fun b u q nm z=>by subst z;rw[q]at mu;exact nm mu
 refine⟨fun b u q n _ _=>k b u (hb b n) q,fun b u q n _ _=>⟨u.slots,k b u (hb b n) q⟩,fun b u q n _=>by rw[upd_ne (hx b n)];exact n,fun b u q _=>?_,
  fun b xs q=>by rw[upd_ne (hm b _ q fun z=>z)];exact q,fun b u xs q=>by rw[upd_ne (hm b _ q fun z=>z)];exact q,fun b ps q=>⟨#[],by rw[upd_ne (hm b _ q fun z=>z),q];simp⟩⟩
 by_cases hbe:b=e
 ·subst hbe;exact heo
 ·exact⟨u,k b u hbe q⟩
end
noncomputable def trk(h:Heap)(H:Hp):List Addr:=(List.range h.objs.size).filter fun a=>(H a).isSome
noncomputable def hidT(h:Heap)(H:Hp):Heap:=PySem.W.hideAll h (trk h H)
theorem hidT_size(h:Heap)(H:Hp):(hidT h H).objs.size=h.objs.size:=PySem.W.hideAll_size _ _
theorem hidT_get{h:Heap}{H:Hp}{b:Addr}{o:Obj}(e:h.get? b=some o)(n:H b=none):(hidT h H).get? b=some o :=
 PySem.W.hideAll_get _ e fun hm=>by
  have q:(H b).isSome=true:=(zBA.mp hm).2
  rw[n]at q;simp at q
theorem of_hidT{h:Heap}{H:Hp}{b:Addr}{o:Obj}(e:(hidT h H).get? b=some o):h.get? b=some o/\H b=none:=by
 have e':h.get? b=some o:=PySem.W.of_hideAll (trk h H) e
 refine⟨e',?_⟩
 cases q:H b with
 |none=>rfl
 |some x =>
  have hm:b∈trk h H:=zBA.mpr ⟨zBG.mpr (zQ e'),by simp[q]⟩
  have z:(hidT h H).get? b=none:=PySem.W.hideAll_none (trk h H) hm
  rw[z]at e;cases e
open PySem PySem.Spec PyProof.Rows
structure Mod(K:PySem.W.Frag)(mg:Str->Option Value)(base:Heap):Prop where
 kin:K.In base
 glob:base.Ns mainGlobals mg
 blt:∃ mb,base.Ns builtinsNs mb/\∀ x:Str,x≠"__name__"->mb x=bootBuiltins x
 nolimit:base.NoLimit
structure Cx where
 prog:Program
 w:World
 K:PySem.W.Frag
 mg:Str->Option Value
 base:Heap
 A:Around
 N:List Str
 s₀:Shared
 H₀:Hp
 env:Env
 outer:List Env
 stack:List Env
 ex:List Addr
 fn:Str->Bool
 calm:Bool
 pn:List (Addr×Obj)
 xe:Value->Shared->Prop
noncomputable def frs(l:List Env):List Addr:=l.filterMap (·.frame)
noncomputable abbrev Cx.fs(X:Cx):List Addr:=frs X.outer
noncomputable def Vis(sc:Scope)(x:Str):Prop:=sc.names.lookup x=some .local\/sc.names.lookup x=some .cell\/sc.names.lookup x=some .free
noncomputable def Loc(sc:Scope)(x:Str):Prop:=sc.names.lookup x=some .local\/sc.names.lookup x=some .cell
noncomputable def Look(env:Env)(h:Heap)(m:Str->Option Value)(x:Str)(u:Value):Prop :=
 (env.kindOf x=some .local/\m x=some u)\/((env.kindOf x=some .cell\/env.kindOf x=some .free)/\∃ c,env.cells.lookup x=some c/\h.IsCell c (some u))
structure Cx.Ok(X:Cx):Prop where
 mod:Mod X.K X.mg X.base
 kind:X.env.scope.kind = .function
 glob:X.env.globals=mainGlobals
 blt:X.env.builtins=builtinsNs
 above:X.s₀.heap.objs.size<=X.env.locals
 inj:∀ x y c,X.env.cells.lookup x=some c->X.env.cells.lookup y=some c->x=y
 has:∀ x,(X.env.kindOf x=some .cell\/X.env.kindOf x=some .free)->∃ c,X.env.cells.lookup x=some c
 cab:∀ x c,X.fn x=true->X.env.cells.lookup x=some c->X.s₀.heap.objs.size<=c
 hd:X.calm=true->X.A.handled=none
 frames:X.A.frames=some X.stack
 stk:X.stack=X.outer\/(X.stack=X.env :: X.outer/\X.env.frame=some X.env.locals)
 exf:∀ b∈X.ex,b≠X.env.locals/\∀ x c,X.env.cells.lookup x=some c->c≠b
 bs:∀ b o,X.base.get? b=some o->X.s₀.heap.get? b=some o/\X.H₀ b=none
 bsz:X.base.objs.size<=X.s₀.heap.objs.size
 noex:∀ b o,X.base.get? b=some o->b∉X.ex
 exfs:∀ b∈X.ex,b∉X.fs
 funs:X.s₀.heap.FunFrames X.base X.outer
 frf:∀ b∈X.fs,X.H₀ b=none
structure Inv(X:Cx)(pins:List (Addr×Obj))(σ:List (Option V))(H:Hp)(s:Shared):Prop where
 ok:X.Ok
 os:s.os=X.s₀.os
 bare:AllBare s.gens
 base:Un X.fs X.ex X.H₀ H X.s₀.heap s.heap
 loc:∃ m,s.heap.Ns X.env.locals m/\∀ (i:Nat) (x:Str) (v:V),X.N[i]?=some x->σ[i]?=some (some v)->Vis X.env.scope x->∃ u,RelV v u/\Look X.env s.heap m x u
 cell:∀ x c,X.env.cells.lookup x=some c->∃ v,s.heap.IsCell c v
 free:H X.env.locals=none
 freeC:∀ x c,X.env.cells.lookup x=some c->H c=none
 pin:∀ p∈X.pn++pins,s.heap.get? p.1=some p.2/\H p.1=none/\p.1≠X.env.locals/\p.1∉X.fs/\∀ v,p.2.data≠.cell v
 hok:HOk X.prog X.w H s.heap
 len:σ.length=X.N.length
section
variable{X:Cx}{pins:List (Addr×Obj)}{σ:List (Option V)}{H H':Hp}{s:Shared}{h':Heap}
theorem Cx.Ok.nofr(ok:X.Ok){b:Addr}{o:Obj}(e:X.base.get? b=some o):b∉X.fs:=fun hb=>by
 have:=(ok.funs.mem hb).1
 rw[e]at this;cases this
theorem Inv.bs(I:Inv X pins σ H s):∀ b o,X.base.get? b=some o->s.heap.get? b=some o/\H b=none:=fun b o e =>
 ⟨I.base.keep b o (I.ok.bs b o e).1 (I.ok.bs b o e).2 (I.ok.nofr e) (I.ok.noex b o e),I.base.free b o (I.ok.bs b o e).1 (I.ok.bs b o e).2 (I.ok.noex b o e)⟩
theorem Inv.bk(I:Inv X pins σ H s):∀ b o,X.base.get? b=some o->s.heap.get? b=some o:=fun b o e=>(I.bs b o e).1
theorem Inv.mod(I:Inv X pins σ H s):Mod X.K X.mg X.base:=I.ok.mod
theorem Inv.kIn(I:Inv X pins σ H s):X.K.In s.heap:=I.ok.mod.kin.keeps I.bk
theorem Inv.lt(I:Inv X pins σ H s):X.env.locals<s.heap.objs.size:=let ⟨_,hn,_⟩:=I.loc;hn.lt
theorem Inv.sz(I:Inv X pins σ H s):X.s₀.heap.objs.size<=s.heap.objs.size:=zAE I.ok.above (zBB I.lt)
theorem Inv.nofs(I:Inv X pins σ H s){a:Addr}(h:s.heap.objs.size<=a):a∉X.fs:=fun hb=>by
 obtain⟨_,o,ho,_⟩:=I.ok.funs.mem hb
 exact absurd (zZ (zQ ho) (zAE I.sz h)) (zAM _)
theorem Inv.cne(I:Inv X pins σ H s):∀ x c,X.env.cells.lookup x=some c->c≠X.env.locals:=fun x c e z=>by
 obtain⟨v,o,ho,hd⟩:=I.cell x c e
 obtain⟨m,⟨o',es,ep,ho',hd',_⟩,_⟩:=I.loc
 rw[z,ho']at ho;cases ho;rw[hd']at hd;cases hd
theorem Inv.funs(I:Inv X pins σ H s):s.heap.FunFrames X.base X.outer:=by
 have all:∀ (l:List Env),(∀ b∈frs l,b∈X.fs)->X.s₀.heap.FunFrames X.base l->s.heap.FunFrames X.base l:=by
  intro l
  induction l with
  |nil=>intro _ _;trivial
  |cons env r ih =>
   intro hs hl
   obtain⟨hk,⟨L,o,hf,hn,ho,hd⟩,hr⟩:=hl
   have hL:L∈X.fs:=hs L (by unfold frs;rw[List.filterMap_cons,hf];exact zF)
   obtain⟨sl,e⟩:=I.base.slot L o ho (I.ok.frf L hL) hL fun z=>I.ok.exfs L z hL
   exact⟨hk,⟨L,_,hf,hn,e,hd⟩,ih (fun b hb=>hs b (by unfold frs;rw[List.filterMap_cons,hf];exact zD _ hb)) hr⟩
 exact all X.outer (fun _ hb=>hb) I.ok.funs
theorem Inv.stack(I:Inv X pins σ H s):s.heap.FunFrames X.base X.stack:=by
 rcases I.ok.stk with e |⟨e,hf⟩
 ·rw[e];exact I.funs
 ·rw[e]
  obtain⟨m,hn,_⟩:=I.loc
  refine .cons (by rw[I.ok.kind];decide) hf hn ?_ I.funs
  exact Heap.get?_none_of_le (zAE I.ok.bsz I.ok.above)
theorem Inv.stkSub(I:Inv X pins σ H s):∀ b∈frs X.stack,b∈X.env.locals :: X.fs:=fun b hb=>by
 rcases I.ok.stk with e |⟨e,hf⟩
 ·rw[e]at hb;exact zD _ hb
 ·rw[e]at hb
  unfold frs at hb
  rw[List.filterMap_cons,hf]at hb
  exact hb
theorem Inv.stkFree(I:Inv X pins σ H s):∀ b∈frs X.stack,H b=none:=fun b hb=>by
 rcases zW.mp (I.stkSub b hb)with e | hb
 ·rw[e];exact I.free
 ·obtain⟨_,o,ho,_⟩:=I.ok.funs.mem hb
  exact I.base.free b o ho (I.ok.frf b hb) fun z=>I.ok.exfs b z hb
theorem Inv.step{g':Array GenState}{t':Nat}{d':Drawn}{ch:List Addr}(I:Inv X pins σ H s)
  (hch:∀ b∈ch,(b∈X.ex\/X.s₀.heap.objs.size<=b)/\b≠X.env.locals/\(∀ x c,X.env.cells.lookup x=some c->c≠b)/\∀ p∈X.pn++pins,p.1≠b)
  (keep:∀ b o,b≠X.env.locals->b∉X.fs->b∉ch->s.heap.get? b=some o->H b=none->h'.get? b=some o)
  (slot:∀ b o,b≠X.env.locals->b∈X.fs->b∉ch->s.heap.get? b=some o->H b=none->∃ sl,h'.get? b=some { o with slots:=sl }) (free:∀ b o,b∉ch->s.heap.get? b=some o->H b=none->H' b=none)
  (there:∀ b o,b∉ch->s.heap.get? b=some o->∃ o',h'.get? b=some o')
  (tups:∀ b xs,H b=some (.tup xs)->H' b=some (.tup xs)) (frzs:∀ b o u,H b=some (.frz o u)->H' b=some (.frz o u)) (tbls:∀ b ps,H b=some (.tbl ps)->∃ more,H' b=some (.tbl (ps++more)))
  (ns:∀ m,s.heap.Ns X.env.locals m->h'.Ns X.env.locals m) (hok:HOk X.prog X.w H' h') (hg:AllBare g') :
  Inv X pins σ H' { s with heap:=h',gens:=g',drawn:=d',toks:=t' }:=by
 have neL:∀ b o,X.s₀.heap.get? b=some o->b≠X.env.locals:=fun b o e=>zAG (zZ (zQ e) I.ok.above)
 have neC:∀ b o,X.s₀.heap.get? b=some o->b∉X.ex->b∉ch:=fun b o e hx hb=>by
  rcases(hch b hb).1 with z | z
  ·exact hx z
  ·exact absurd (zZ (zQ e) z) (zAM _)
 have cellK:∀ x c,X.env.cells.lookup x=some c->∀ v,s.heap.IsCell c v->h'.IsCell c v:=fun x c e v ⟨o,ho,hd⟩=>by
  have nch:c∉ch:=fun z=>(hch c z).2.2.1 x c e rfl
  by_cases hc:c∈X.fs
  ·obtain⟨sl,q⟩:=slot c o (I.cne x c e) hc nch ho (I.freeC x c e)
   exact⟨_,q,hd⟩
  ·exact⟨o,keep c o (I.cne x c e) hc nch ho (I.freeC x c e),hd⟩
 refine⟨I.ok,I.os,hg,⟨fun b o e n hb hx=>?_,fun b o e n hb hx=>?_,fun b o e n hx=>?_,fun b o e hx=>?_,fun b xs e=>tups b xs (I.base.tups b xs e),fun b o xs e=>frzs b o xs (I.base.frzs b o xs e),fun b ps e=>?_⟩,?_,fun x c e=>?_,?_,fun x c e=>?_,fun p hp=>?_,hok,I.len⟩
 ·exact keep b o (neL b o e) hb (neC b o e hx) (I.base.keep b o e n hb hx) (I.base.free b o e n hx)
 ·obtain⟨sl,e1⟩:=I.base.slot b o e n hb hx
  obtain⟨sl',e2⟩:=slot b _ (neL b o e) hb (neC b o e hx) e1 (I.base.free b o e n hx)
  exact⟨sl',e2⟩
 ·obtain⟨o',e1⟩:=I.base.there b o e hx
  exact free b o' (neC b o e hx) e1 (I.base.free b o e n hx)
 ·obtain⟨o',e1⟩:=I.base.there b o e hx
  exact there b o' (neC b o e hx) e1
 ·obtain⟨m1,e1⟩:=I.base.tbls b ps e
  obtain⟨m2,e2⟩:=tbls b _ e1
  exact⟨m1++m2,by rw[e2,Array.append_assoc]⟩
 ·obtain⟨m,hn,hl⟩:=I.loc
  refine⟨m,ns m hn,fun i x v e1 e2 e3=>?_⟩
  obtain⟨u,r,l⟩:=hl i x v e1 e2 e3
  refine⟨u,r,?_⟩
  rcases l with l |⟨k,c,e,z⟩
  ·exact .inl l
  ·exact .inr ⟨k,c,e,cellK x c e _ z⟩
 ·obtain⟨v,z⟩:=I.cell x c e
  exact⟨v,cellK x c e v z⟩
 ·obtain⟨m,⟨o,_,_,ho,_⟩,_⟩:=I.loc
  exact free _ o (fun z=>(hch _ z).2.1 rfl) ho I.free
 ·obtain⟨v,o,ho,hd⟩:=I.cell x c e
  exact free c o (fun z=>(hch c z).2.2.1 x c e rfl) ho (I.freeC x c e)
 ·obtain⟨e,n,ne,nf,d⟩:=I.pin p hp
  have nch:p.1∉ch:=fun z=>(hch p.1 z).2.2.2 p hp rfl
  exact⟨keep p.1 p.2 ne nf nch e n,free p.1 p.2 nch e n,ne,nf,d⟩
theorem Inv.un{t':Nat}(I:Inv X pins σ H s)(u:Un X.fs [] H H' s.heap h')(hok:HOk X.prog X.w H' h'):Inv X pins σ H' { s with heap:=h',toks:=t' }:=by
 obtain⟨m,⟨o,es,ep,ho,r⟩,_⟩:=id I.loc
 obtain⟨sl,hL⟩:=u.any ho I.free (by simp)
 exact I.step (g':=s.gens) (d':=s.drawn) (ch:=[]) (fun _ z=>nomatch z) (fun b o _ hb _ e n=>u.keep b o e n hb (by simp)) (fun b o _ hb _ e n=>u.slot b o e n hb (by simp)) (fun b o _ e n=>u.free b o e n (by simp)) (fun b o _ e=>u.there b o e (by simp)) u.tups u.frzs u.tbls (fun m' hm=>by
  obtain⟨o',es',ep',ho',r'⟩:=hm
  rw[ho]at ho';cases ho'
  exact⟨_,es',ep',hL,r'⟩) hok I.bare
theorem Inv.call{g':Array GenState}{t':Nat}{d':Drawn}{ch:List Addr}(I:Inv X pins σ H s)(u:Un (frs X.stack) ch H H' s.heap h')(hok:HOk X.prog X.w H' h')(hg:AllBare g')
  (hch:∀ b∈ch,(b∈X.ex\/X.s₀.heap.objs.size<=b)/\b≠X.env.locals/\(∀ x c,X.env.cells.lookup x=some c->c≠b)/\∀ p∈X.pn++pins,p.1≠b) :
  Inv X pins σ H' { s with heap:=h',gens:=g',drawn:=d',toks:=t' }:=by
 obtain⟨m,⟨o,es,ep,ho,r⟩,_⟩:=id I.loc
 obtain⟨sl,hL⟩:=u.any ho I.free fun z=>(hch _ z).2.1 rfl
 exact I.step (ch:=ch) hch (fun b o hL hb hc e n=>u.keep b o e n (fun z=>(zW.mp (I.stkSub b z)).elim hL hb) hc) (fun b o _ _ hc e n=>u.any e n hc) (fun b o hc e n=>u.free b o e n hc) (fun b o hc e=>u.there b o e hc) u.tups u.frzs u.tbls (fun m' hm=>by
  obtain⟨o',es',ep',ho',r'⟩:=hm
  rw[ho]at ho';cases ho'
  exact⟨_,es',ep',hL,r'⟩) hok hg
theorem Inv.turned{t':Nat}{it:Addr}(I:Inv X pins σ H s)(k:∀ b o,b≠it->s.heap.get? b=some o->h'.get? b=some o)(hn:H it=none)(hL:it≠X.env.locals)
  (h1:it∈X.ex\/X.s₀.heap.objs.size<=it) (h2:∀ x c,X.env.cells.lookup x=some c->c≠it) (h3:∀ p∈X.pn++pins,p.1≠it):Inv X pins σ H { s with heap:=h',toks:=t' }:=by
 have nit:∀ b u,H b=some u->b≠it:=fun b u e z=>by rw[z,hn]at e;cases e
 refine I.step (g':=s.gens) (d':=s.drawn) (ch:=[it]) (fun b hb=>?_) (fun b o _ _ hc e _=>k b o (fun z=>hc (by simp[z])) e) (fun b o _ _ hc e _=>⟨o.slots,k b o (fun z=>hc (by simp[z])) e⟩) (fun _ _ _ _ n=>n)
  (fun b o hc e=>⟨o,k b o (fun z=>hc (by simp[z])) e⟩) (fun _ _ e=>e) (fun _ _ _ e=>e) (fun b ps e=>⟨#[],by rw[e];simp⟩) (fun m hm=>?_) (fun b u e=>?_) I.bare
 ·have e:b=it:=by simpa using hb
  subst e
  exact⟨h1,hL,h2,h3⟩
 ·obtain⟨o,es,ep,ho,r⟩:=hm
  exact⟨o,es,ep,k _ o (Ne.symm hL) ho,r⟩
 ·refine(I.hok b u e).stay (fun c v hc q=>k c v ?_ q) (fun _ q=>q) fun _ _ q=>q
  rcases hc with z | z
  ·rw[z];exact nit b u e
  ·exact nit c _ z
theorem Inv.tok(I:Inv X pins σ H s)(t:Nat):Inv X pins σ H { s with toks:=t }:=I.un (h':=s.heap) (t':=t) Un.refl I.hok
theorem Inv.kept{t':Nat}(I:Inv X pins σ H s)(k:∀ b u,s.heap.get? b=some u->h'.get? b=some u):Inv X pins σ H { s with heap:=h',toks:=t' }:=I.un (Un.kept k) (I.hok.kept k)
theorem Inv.laid{a:Addr}{o:HO}{t':Nat}(I:Inv X pins σ H s)(k:∀ b u,s.heap.get? b=some u->h'.get? b=some u)(hp:s.heap.objs.size<=a)(new:ObjOk X.prog X.w (upd H a o) h' a o) :
  Inv X pins σ (upd H a o) { s with heap:=h',toks:=t' }:=I.un (Un.laid k hp (I.hok.fresh hp)) (I.hok.laid k hp new)
theorem Inv.write{x e:Addr}{o:HO}{t':Nat}(I:Inv X pins σ H s)(mu:Mut (H x))(he:e=x\/H e=some (.own x))(k:∀ b u,b≠e->s.heap.get? b=some u->h'.get? b=some u)(heo:∃ u,h'.get? e=some u)
  (new:ObjOk X.prog X.w (upd H x o) h' x o):Inv X pins σ (upd H x o) { s with heap:=h',toks:=t' }:=I.un (Un.write mu he k heo) (I.hok.write mu he k heo new)
theorem Inv.weak{σ':List (Option V)}(I:Inv X pins σ H s)(hl:σ'.length=σ.length)(w:∀ (i:Nat) v,σ'[i]?=some (some v)->σ[i]?=some (some v)):Inv X pins σ' H s :=
 ⟨I.ok,I.os,I.bare,I.base,let ⟨m,hn,hl'⟩:=I.loc;⟨m,hn,fun i x v e1 e2 e3=>hl' i x v e1 (w i v e2) e3⟩,I.cell,I.free,I.freeC,I.pin,I.hok,hl.trans I.len⟩
theorem Inv.pins_of{pins':List (Addr×Obj)}(I:Inv X pins σ H s)(h:∀ p∈pins',s.heap.get? p.1=some p.2/\H p.1=none/\p.1≠X.env.locals/\p.1∉X.fs/\∀ v,p.2.data≠.cell v):Inv X pins' σ H s :=
 ⟨I.ok,I.os,I.bare,I.base,I.loc,I.cell,I.free,I.freeC,fun p hp=>(zX.mp hp).elim (fun z=>I.pin p (zAQ _ z)) (h p),I.hok,I.len⟩
theorem nodup_ix{N:List Str}(hN:N.Nodup){i j:Nat}{x:Str}(a:N[i]?=some x)(b:N[j]?=some x):i=j:=by
 obtain⟨h1,e1⟩:=zI.mp a
 obtain⟨h2,e2⟩:=zI.mp b
 exact(List.getElem_inj hN).mp (e1.trans e2.symm)
theorem store_ok2{M:Model}{A:Around}{E:Value->Shared->Prop}{i:Nat}{x:Str}{v:V}{u:Value}{Q:Unit->Shared->Prop}(I:Inv X pins σ H s)(hN:X.N.Nodup)(hi:X.N[i]?=some x)(hx:Loc X.env.scope x)(r:RelV v u)
  (h:∀ s',Inv X pins (σ.set i (some v)) H s'->(∃ a,Heap.SameBut a s.heap s'.heap/\(a=X.env.locals\/X.env.cells.lookup x=some a))->Q () s') (hf:X.fn x=true\/X.env.scope.names.lookup x=some .local:=by first | exact .inl rfl | exact .inr rfl | assumption):wpAny M A (storeName X.env x u) Q E s:=by
 obtain⟨m,hn,hl⟩:=id I.loc
 have hcls:(X.env.scope.kind == .class ||(X.env.scope.kind == .module && X.env.locals != X.env.globals))=false:=by rw[I.ok.kind];rfl
 have hiσ:i<σ.length:=by rw[I.len];exact(zI.mp hi).1
 have cne:=I.cne
 have tracked:∀ {a:Addr}{h':Heap},(∃ o,s.heap.get? a=some o/\H a=none)->Heap.SameBut a s.heap h'->HOk X.prog X.w H h':=fun {a h'} ha hs b ob e=>by
  obtain⟨_,_,hfree⟩:=ha
  refine(I.hok b ob e).stay (fun c w' hc q=>(hs.2 c ?_).trans q) (fun _ q=>q) fun _ _ q=>q
  rintro rfl
  rcases hc with rfl | hc
  ·rw[hfree]at e;cases e
  ·rw[hfree]at hc;cases hc
 rcases hx with hk | hk
 ·refine wpAny_storeName_local hk hn (fun h' hn' hs=>?_) hcls
  obtain⟨oL,_,_,hoL,_⟩:=id hn
  refine h _ ⟨I.ok,I.os,I.bare,⟨fun b o e n hb hx=>?_,fun b o e n hb hx=>?_,I.base.free,fun b o e hx=>?_,I.base.tups,I.base.frzs,I.base.tbls⟩,⟨_,hn',fun j y v' e1 e2 e3=>?_⟩,fun y c e=>?_,I.free,I.freeC,fun p hp=>?_,tracked ⟨oL,hoL,I.free⟩ hs,by simpa using I.len⟩ ⟨_,hs,.inl rfl⟩
  ·exact(hs.2 b (zAG (zZ (zQ e) I.ok.above))).trans (I.base.keep b o e n hb hx)
  ·obtain⟨sl,e1⟩:=I.base.slot b o e n hb hx
   exact⟨sl,(hs.2 b (zAG (zZ (zQ e) I.ok.above))).trans e1⟩
  ·obtain⟨o',e1⟩:=I.base.there b o e hx
   exact⟨o',(hs.2 b (zAG (zZ (zQ e) I.ok.above))).trans e1⟩
  ·by_cases hj:j=i
   ·subst hj
    rw[hi]at e1;cases e1
    rw[List.getElem?_set_self hiσ]at e2
    cases e2
    exact⟨u,r,.inl ⟨hk,by simp⟩⟩
   ·rw[List.getElem?_set_ne (Ne.symm hj)]at e2
    obtain⟨u',r',q⟩:=hl j y v' e1 e2 e3
    refine⟨u',r',?_⟩
    rcases q with⟨k,e⟩ |⟨k,c,e,z⟩
    ·refine .inl ⟨k,?_⟩
     have:y≠x:=fun e=>hj (nodup_ix hN e1 (e▸hi))
     simp[this,e]
    ·exact .inr ⟨k,c,e,z.sameBut hs (cne y c e)⟩
  ·obtain⟨w',z⟩:=I.cell y c e
   exact⟨w',z.sameBut hs (cne y c e)⟩
  ·obtain⟨e,n,ne,nf,d⟩:=I.pin p hp
   exact⟨(hs.2 p.1 ne).trans e,n,ne,nf,d⟩
 ·have hfn:X.fn x=true:=by
   rcases hf with z | z
   ·exact z
   ·rw[z]at hk;cases hk
  obtain⟨c,hc⟩:=I.ok.has x (.inl hk)
  obtain⟨w',z⟩:=I.cell x c hc
  refine wpAny_storeName_cell I.ok.kind hk hc z (fun h' hc' hs=>?_)
  obtain⟨oc,hoc,hocd⟩:=id z
  refine h { s with heap:=h' } ⟨I.ok,I.os,I.bare,⟨fun b o e n hb hx=>?_,fun b o e n hb hx=>?_,I.base.free,fun b o e hx=>?_,I.base.tups,I.base.frzs,I.base.tbls⟩,⟨m,hn.sameBut hs (Ne.symm (cne x c hc)),fun j y v' e1 e2 e3=>?_⟩,fun y c' e=>?_,I.free,I.freeC,fun p hp=>?_,tracked ⟨oc,hoc,I.freeC x c hc⟩ hs,by simpa using I.len⟩ ⟨c,hs,.inr hc⟩
  ·exact(hs.2 b (zAG (zZ (zQ e) (I.ok.cab x c hfn hc)))).trans (I.base.keep b o e n hb hx)
  ·obtain⟨sl,e1⟩:=I.base.slot b o e n hb hx
   exact⟨sl,(hs.2 b (zAG (zZ (zQ e) (I.ok.cab x c hfn hc)))).trans e1⟩
  ·obtain⟨o',e1⟩:=I.base.there b o e hx
   exact⟨o',(hs.2 b (zAG (zZ (zQ e) (I.ok.cab x c hfn hc)))).trans e1⟩
  ·by_cases hj:j=i
   ·subst hj
    rw[hi]at e1;cases e1
    rw[List.getElem?_set_self hiσ]at e2
    cases e2
    exact⟨u,r,.inr ⟨.inl hk,c,hc,hc'⟩⟩
   ·rw[List.getElem?_set_ne (Ne.symm hj)]at e2
    obtain⟨u',r',q⟩:=hl j y v' e1 e2 e3
    refine⟨u',r',?_⟩
    rcases q with q |⟨k,c',e,z'⟩
    ·exact .inl q
    ·refine .inr ⟨k,c',e,z'.sameBut hs ?_⟩
     rintro rfl
     exact hj (nodup_ix hN e1 (I.ok.inj _ _ _ e hc▸hi))
  ·by_cases hcc:c'=c
   ·subst hcc;exact⟨_,hc'⟩
   ·obtain⟨w2,z2⟩:=I.cell y c' e
    exact⟨w2,z2.sameBut hs hcc⟩
  ·obtain⟨e,n,ne,nf,d⟩:=I.pin p hp
   refine⟨(hs.2 p.1 ?_).trans e,n,ne,nf,d⟩
   intro q
   rw[q,hoc]at e
   have q':oc=p.2:=Option.some.inj e
   exact d w' (by rw[<- q'];exact hocd)
theorem store_ok{M:Model}{A:Around}{E:Value->Shared->Prop}{i:Nat}{x:Str}{v:V}{u:Value}{Q:Unit->Shared->Prop}(I:Inv X pins σ H s)(hN:X.N.Nodup)(hi:X.N[i]?=some x)(hx:Loc X.env.scope x)(r:RelV v u)
  (h:∀ s',Inv X pins (σ.set i (some v)) H s'->Q () s') (hf:X.fn x=true\/X.env.scope.names.lookup x=some .local:=by first | exact .inl rfl | exact .inr rfl | assumption):wpAny M A (storeName X.env x u) Q E s :=
 store_ok2 I hN hi hx r (fun s' I' _=>h s' I') hf
theorem Inv.call'{s':Shared}{ch:List Addr}(I:Inv X pins σ H s)(ho:s'.os=s.os)(u:Un (frs X.stack) ch H H' s.heap s'.heap)(hok:HOk X.prog X.w H' s'.heap)(hg:AllBare s'.gens)
  (hch:∀ b∈ch,(b∈X.ex\/X.s₀.heap.objs.size<=b)/\b≠X.env.locals/\(∀ x c,X.env.cells.lookup x=some c->c≠b)/\∀ p∈X.pn++pins,p.1≠b):Inv X pins σ H' s':=by
 obtain⟨h',g',d',t',o'⟩:=s'
 have e:o'=s.os:=ho
 subst e
 exact I.call (g':=g') (t':=t') (d':=d') u hok hg hch
end
noncomputable abbrev XK:=Value->Option Addr->Hp->Prop
noncomputable abbrev St:=List (Option V)
noncomputable abbrev VK:=V->Hp->Prop
noncomputable abbrev TE:=St->Hp->VK->Prop
noncomputable abbrev TT:=St->Hp->(Bool->Hp->Prop)->Prop
noncomputable abbrev TA:=St->Hp->(List V->Hp->Prop)->Prop
structure Ends where
 nx:St->Hp->Prop
 rt:VK
 bk:St->Hp->Prop:=fun _ _=>False
 ct:St->Hp->Prop:=fun _ _=>False
noncomputable abbrev TS:=Ends->St->Hp->Prop
noncomputable def EP(X:Cx)(pins:List (Addr×Obj))(σ:St)(Q:VK)(u:Value)(s':Shared):Prop:=∃ v H',Inv X pins σ H' s'/\RelV v u/\Q v H'
noncomputable def TP(X:Cx)(pins:List (Addr×Obj))(σ:St)(Q:Bool->Hp->Prop)(b:Bool)(s':Shared):Prop:=∃ H',Inv X pins σ H' s'/\Q b H'
noncomputable def AP(X:Cx)(pins:List (Addr×Obj))(σ:St)(Q:List V->Hp->Prop)(us:List Value)(s':Shared):Prop:=∃ vs H',Inv X pins σ H' s'/\Vals vs us/\Q vs H'
noncomputable def SP(X:Cx)(pins:List (Addr×Obj))(D:Ends)(f:Flow)(s':Shared):Prop :=
 match f with
 | .next=>∃ σ' H',Inv X pins σ' H' s'/\D.nx σ' H'
 | .brk=>∃ σ' H',Inv X pins σ' H' s'/\D.bk σ' H'
 | .cont=>∃ σ' H',Inv X pins σ' H' s'/\D.ct σ' H'
 | .ret u=>∃ v σ' H',Inv X pins σ' H' s'/\RelV v u/\D.rt v H'
noncomputable def PE(X:Cx)(e:Expr)(t:TE):Prop :=
 ∀ (pins:List (Addr×Obj)) (s:Shared) (σ:St) (H:Hp) (Q:VK),Inv X pins σ H s->t σ H Q->wpAny (model X.prog X.w) X.A (eval e X.env) (EP X pins σ Q) X.xe s
noncomputable def PT(X:Cx)(e:Expr)(t:TT):Prop :=
 ∀ (pins:List (Addr×Obj)) (s:Shared) (σ:St) (H:Hp) (Q:Bool->Hp->Prop),Inv X pins σ H s->t σ H Q->wpAny (model X.prog X.w) X.A (isTrue e X.env (eval e X.env)) (TP X pins σ Q) X.xe s
noncomputable def PW(X:Cx)(e:Expr)(t:TT):Prop :=
 ∀ (whole:Sem Value) (pins:List (Addr×Obj)) (s:Shared) (σ:St) (H:Hp) (Q:Bool->Hp->Prop),Inv X pins σ H s->t σ H Q->wpAny (model X.prog X.w) X.A (isTrue e X.env whole) (TP X pins σ Q) X.xe s
theorem PW.pt{X:Cx}{e:Expr}{t:TT}(h:PW X e t):PT X e t:=h _
noncomputable def PA(X:Cx)(es:List Expr)(t:TA):Prop :=
 ∀ (pos:Pos) (pins:List (Addr×Obj)) (s:Shared) (σ:St) (H:Hp) (Q:List V->Hp->Prop),Inv X pins σ H s->t σ H Q->wpAny (model X.prog X.w) X.A (spliced (backTo pos (starEach es X.env))) (AP X pins σ Q) X.xe s
noncomputable def PS(X:Cx)(st:Stmt)(t:TS):Prop :=
 ∀ (pins:List (Addr×Obj)) (s:Shared) (σ:St) (H:Hp) (D:Ends),Inv X pins σ H s->t D σ H->wpAny (model X.prog X.w) X.A (exec st X.env) (SP X pins D) X.xe s
noncomputable def PSs(X:Cx)(st:List Stmt)(t:TS):Prop :=
 ∀ (pins:List (Addr×Obj)) (s:Shared) (σ:St) (H:Hp) (D:Ends),Inv X pins σ H s->t D σ H->wpAny (model X.prog X.w) X.A (execs st X.env) (SP X pins D) X.xe s
theorem thn{α:Type}{t:Sem α}{Q Q':α->Shared->Prop}{M:Model}{A:Around}{E:Value->Shared->Prop}{s:Shared}(h:wpAny M A t Q E s)(hQ:∀ a s,Q a s->Q' a s):wpAny M A t Q' E s:=wpAny_mono h hQ fun _ _ x=>x
open PySem PySem.Spec PyProof.Rows
section
variable{X:Cx}
inductive Ex4{t0 t1 t2 t3:Type}(P:t0->t1->t2->t3->Prop):Prop where
 |mk (a0:t0) (a1:t1) (a2:t2) (a3:t3) (h:P a0 a1 a2 a3)
inductive Ex5{t0 t1 t2 t3 t4:Type}(P:t0->t1->t2->t3->t4->Prop):Prop where
 |mk (a0:t0) (a1:t1) (a2:t2) (a3:t3) (a4:t4) (h:P a0 a1 a2 a3 a4)
inductive Ex7{t0 t1 t2 t3 t4 t5 t6:Type}(P:t0->t1->t2->t3->t4->t5->t6->Prop):Prop where
 |mk (a0:t0) (a1:t1) (a2:t2) (a3:t3) (a4:t4) (a5:t5) (a6:t6) (h:P a0 a1 a2 a3 a4 a5 a6)
inductive Ex8{t0 t1 t2 t3 t4 t5 t6 t7:Type}(P:t0->t1->t2->t3->t4->t5->t6->t7->Prop):Prop where
 |mk (a0:t0) (a1:t1) (a2:t2) (a3:t3) (a4:t4) (a5:t5) (a6:t6) (a7:t7) (h:P a0 a1 a2 a3 a4 a5 a6 a7)
inductive Ex14{t0 t1 t2 t3 t4 t5 t6 t7 t8 t9 t10 t11 t12 t13:Type}(P:t0->t1->t2->t3->t4->t5->t6->t7->t8->t9->t10->t11->t12->t13->Prop):Prop where
 |mk (a0:t0) (a1:t1) (a2:t2) (a3:t3) (a4:t4) (a5:t5) (a6:t6) (a7:t7) (a8:t8) (a9:t9) (a10:t10) (a11:t11) (a12:t12) (a13:t13) (h:P a0 a1 a2 a3 a4 a5 a6 a7 a8 a9 a10 a11 a12 a13)
inductive tVarI(i:Nat)(σ:St)(H:Hp)(Q:VK):Prop where
 |mk (v:_) (h1:σ[i]?=some (some v)) (h2:Q v H)
noncomputable def tVar(i:Nat):TE:=fun σ H Q=>tVarI i σ H Q
noncomputable def tC(v:V):TE:=fun _ H Q=>Q v H
theorem pe_var{i:Nat}{x:Str}{pos:Pos}(hN:X.N[i]?=some x)(hv:Vis X.env.scope x)(hd:(x ==("__debug__":Str))=false:=by decide)(hcd:(x ==("__classdict__":Str))=false:=by decide):PE X (.Name x pos) (tVar i):=by
 intro pins s σ H Q I h
 obtain⟨v,e,h⟩:=h
 obtain⟨m,hn,hl⟩:=I.loc
 obtain⟨u,r,l⟩:=hl i x v hN e hv
 have fin:EP X pins σ Q u s:=⟨v,H,I,r,h⟩
 rcases l with⟨hk,hm⟩ |⟨hk,c,hc,hcell⟩
 ·exact wpAny_Name (wpAny_loadName_local I.ok.kind hk hn hm fin) hd
 ·rcases hk with hk | hk
  ·exact wpAny_Name (wpAny_loadName_cell I.ok.kind hk hc hcell fin) hd
  ·exact wpAny_Name (wpAny_loadName_free I.ok.kind hk hc hcell fin hcd) hd
theorem yae{i j pos}:PE X (.Constant (.int i) j pos) (tC (.int i)):=fun _ _ _ H _ I h=>wpAny_Constant_int ⟨.int i,H,I.tok _,⟨_,rfl⟩,h⟩
theorem pe_bl{b j pos}:PE X (.Constant (.bool b) j pos) (tC (.bl b)):=fun _ _ _ H _ I h=>Constant_bool ⟨.bl b,H,I,rfl,h⟩
theorem pe_non{j pos}:PE X (.Constant .none j pos) (tC .non):=fun _ _ _ H _ I h=>Constant_none ⟨.non,H,I,rfl,h⟩
noncomputable def Gl(X:Cx)(x:Str):Prop:=X.env.kindOf x=some .globalImplicit
theorem ld_glob{E:Value->Shared->Prop}{pins:List (Addr×Obj)}{s:Shared}{σ:St}{H:Hp}{x:Str}{u:Value}{pos:Pos}{Q:Value->Shared->Prop}(I:Inv X pins σ H s)(hg:Gl X x)(hm:X.mg x=some u)(h:Q u s)
  (hd:(x ==("__debug__":Str))=false:=by decide):wpAny (model X.prog X.w) X.A (eval (.Name x pos) X.env) Q E s :=
 Calls.Name_function_global I.ok.kind hg (Calls.loadGlobal_global (by rw[I.ok.glob];exact I.mod.glob.keeps I.bk) hm h) hd
theorem ld_blt{E:Value->Shared->Prop}{pins:List (Addr×Obj)}{s:Shared}{σ:St}{H:Hp}{x:Str}{u:Value}{pos:Pos}{Q:Value->Shared->Prop}(I:Inv X pins σ H s)(hg:Gl X x)(hm:X.mg x=none)(hv:bootBuiltins x=some u)(h:Q u s)
  (hn:x≠"__name__":=by decide) (hd:(x ==("__debug__":Str))=false:=by decide):wpAny (model X.prog X.w) X.A (eval (.Name x pos) X.env) Q E s:=by
 obtain⟨mb,h1,h2⟩:=I.mod.blt
 exact Calls.Name_function_global I.ok.kind hg (Calls.loadGlobal_builtin (by rw[I.ok.glob];exact I.mod.glob.keeps I.bk) hm (by rw[I.ok.blt];exact h1.keeps I.bk) ((h2 x hn).trans hv) h) hd
variable{a b:Expr}{ta tb:TE}{pos:Pos}
noncomputable def PC(X:Cx)(op:CmpOp)(a b:Expr)(t:TE):Prop :=
 ∀ (pins:List (Addr×Obj)) (s:Shared) (σ:St) (H:Hp) (Q:VK),Inv X pins σ H s->t σ H Q ->
  wpAny (model X.prog X.w) X.A (eval a X.env) (fun v s₁=>wpAny (model X.prog X.w) X.A (eval b X.env) (fun u s₂=>wpAny (model X.prog X.w) X.A (compareOp op v u) (EP X pins σ Q) X.xe s₂) X.xe s₁) X.xe s
theorem nobehind(b:Expr){op:CmpOp}(h:op≠.In)(h2:op≠.NotIn):behindInMarks op b=false:=by
 have e1:(op == CmpOp.In)=false:=by cases op <;> first | rfl | exact absurd rfl h
 have e2:(op == CmpOp.NotIn)=false:=by cases op <;> first | rfl | exact absurd rfl h2
 cases b <;> simp[behindInMarks,e1,e2]
noncomputable def tIsN(ta:TE):TE:=fun σ H Q=>ta σ H fun x H1=>Q (.bl (decide (x = .non))) H1
theorem RelV.none_iff{x:V}{v:Value}(r:RelV x v):(v == Value.none)=decide (x = .non):=by
 cases x with
 |non=>cases r;rfl
 |bl _=>cases r;rfl
 |int _=>obtain⟨t,rfl⟩:=r;rfl
 |str _=>obtain⟨t,rfl⟩:=r;rfl
 |byt _=>obtain⟨t,rfl⟩:=r;rfl
 |flt _=>obtain⟨t,rfl⟩:=r;rfl
 |ref _=>cases r;rfl
 |ty _=>cases r;rfl
theorem pc_isN{j pos'}(ha:PE X a ta):PC X .Is a (.Constant .none j pos') (tIsN ta):=by
 intro pins s σ H Q I h
 refine thn (ha pins s σ H _ I h) fun v s1 ⟨x,H1,I1,r1,q1⟩=>?_
 exact Constant_none (is_none_gen ⟨.bl _,H1,I1,by rw[r1.none_iff];rfl,q1⟩)
inductive ExB(x:V)(Q:Bool->Prop):Prop where
 |mk (c:Bool) (e:x = .bl c) (h:Q c)
noncomputable def tB(t:TE):TT:=fun σ H Q=>t σ H fun x H1=>ExB x fun c=>Q c H1
theorem pt_cmp{op:CmpOp}{t:TE}(h:PC X op a b t)(h1:behindInMarks op b=false:=by first | exact nobehind _ (by decide) (by decide) | rfl):PT X (.Compare a [op] [b] pos) (tB t):=by
 intro pins s σ H Q I hw
 refine wpAny_isTrue_Compare1 (thn (h pins s σ H _ I hw) fun v s1 h1=>thn h1 fun u s2 h2=>thn h2 fun c s3 ⟨x,H1,I1,r1,q1⟩=>?_) h1
 obtain⟨d,rfl,q⟩:=q1
 cases r1
 exact wpAny_truthy_bool ⟨H1,I1,q⟩
theorem pt_val{e:Expr}{t:TE}(h:PE X e t)(he:∀ whole,isTrue e X.env whole=(do let v <- whole;standAt e.pos;holding [v] (truthy v)):=by intro _;rfl):PT X e (tB t):=by
 intro pins s σ H Q I hw
 refine isTrue_plain (thn (h pins s σ H _ I hw) fun v s1 ⟨x,H1,I1,r1,q1⟩=>?_) (he _)
 obtain⟨d,rfl,q⟩:=q1
 cases r1
 exact wpAny_truthy_bool ⟨H1,I1,q⟩
variable{tA tB':TT}{rest:List Expr}
noncomputable def tAnd(t u:TT):TT:=fun σ H Q=>t σ H fun c H1=>if c=true then u σ H1 Q else Q false H1
noncomputable def tOr(t u:TT):TT:=fun σ H Q=>t σ H fun c H1=>if c=true then Q true H1 else u σ H1 Q
noncomputable def tNot(t:TT):TT:=fun σ H Q=>t σ H fun c H1=>Q (!c) H1
theorem pw_and1(ha:PT X a tA):PW X (.BoolOp .And [a] pos) tA:=by
 intro wh pins s σ H Q I h
 refine isTrue_and (thn (ha pins s σ H Q I h) fun c s1 e=>?_)
 cases c with
 |true=>exact isTrue_and_nil e
 |false=>exact e
theorem pw_or1(ha:PT X a tA):PW X (.BoolOp .Or [a] pos) tA:=by
 intro wh pins s σ H Q I h
 refine isTrue_or (thn (ha pins s σ H Q I h) fun c s1 e=>?_)
 cases c with
 |false=>exact isTrue_or_nil e
 |true=>exact e
theorem pw_and(ha:PT X a tA)(hb:PW X (.BoolOp .And (b :: rest) pos) tB'):PW X (.BoolOp .And (a :: b :: rest) pos) (tAnd tA tB'):=by
 intro wh pins s σ H Q I h
 refine isTrue_and (thn (ha pins s σ H _ I h) fun c s1 ⟨H1,I1,q1⟩=>?_)
 cases c with
 |true=>exact hb wh pins s1 σ H1 Q I1 q1
 |false=>exact⟨H1,I1,q1⟩
theorem pw_or(ha:PT X a tA)(hb:PW X (.BoolOp .Or (b :: rest) pos) tB'):PW X (.BoolOp .Or (a :: b :: rest) pos) (tOr tA tB'):=by
 intro wh pins s σ H Q I h
 refine isTrue_or (thn (ha pins s σ H _ I h) fun c s1 ⟨H1,I1,q1⟩=>?_)
 cases c with
 |true=>exact⟨H1,I1,q1⟩
 |false=>exact hb wh pins s1 σ H1 Q I1 q1
theorem pt_not(ha:PT X a tA):PT X (.UnaryOp .Not a pos) (tNot tA):=by
 intro pins s σ H Q I h
 exact isTrue_not (ha pins s σ H (fun c H1=>Q (!c) H1) I h)
noncomputable def tNotV(ta:TE):TE:=fun σ H Q=>ta σ H fun x H1=>ExB x fun c=>Q (.bl (!c)) H1
theorem pe_not(ha:PE X a ta):PE X (.UnaryOp .Not a pos) (tNotV ta):=by
 intro pins s σ H Q I h
 refine UnaryOp_ (thn (ha pins s σ H _ I h) fun v s1 ⟨x,H1,I1,r1,q1⟩=>?_)
 obtain⟨c,rfl,q1⟩:=q1
 cases r1
 exact not_of (wpAny_truthy_bool ⟨.bl (!c),H1,I1,rfl,q1⟩)
end
open PySem PySem.Spec PyProof.Rows
noncomputable def SqL(K:PySem.W.Frag)(H:Hp)(a:Addr)(xs:List V):Prop :=
 Rd H a (.lst xs) \/
  ∃ (o:Obj) (its:Array Value) (n:Nat),K.lookup a=some o/\o.cls = .type "list"/\o.dict=none/\o.data = .seq its n/\its.size<=sizeLine/\Vals xs its.toList
noncomputable def SqT(K:PySem.W.Frag)(H:Hp)(a:Addr)(xs:List V):Prop :=
 Rd H a (.tup xs) \/
  ∃ (o:Obj) (its:Array Value) (n:Nat),K.lookup a=some o/\o.cls = .type "tuple"/\o.data = .seq its n/\its.size<=sizeLine/\Vals xs its.toList
noncomputable def absV:Value->Option V
 | .none=>some .non
 | .bool b=>some (.bl b)
 | .int i _=>some (.int i)
 | .str x _=>some (.str x)
 | .bytes b _=>some (.byt b)
 | .float b _=>some (.flt b)
 | .ref a=>some (.ref a)
 | .type n=>some (.ty n)
 | _=>none
theorem RelV.abs{x:V}{u:Value}(r:RelV x u):absV u=some x:=by
 cases x with
 |non=>cases r;rfl
 |bl _=>cases r;rfl
 |int _=>obtain⟨t,rfl⟩:=r;rfl
 |str _=>obtain⟨t,rfl⟩:=r;rfl
 |byt _=>obtain⟨t,rfl⟩:=r;rfl
 |flt _=>obtain⟨t,rfl⟩:=r;rfl
 |ref _=>cases r;rfl
 |ty _=>cases r;rfl
theorem RelV.inj{x y:V}{u:Value}(r:RelV x u)(q:RelV y u):x=y:=Option.some.inj (r.abs.symm.trans q.abs)
theorem Vals.inj:∀ {xs ys:List V}{us:List Value},Vals xs us->Vals ys us->xs=ys:=by
 intro xs ys us h
 induction h generalizing ys with
 |nil=>intro h';cases h';rfl
 |cons r t ih =>
  intro h'
  cases h' with
  |cons r' t'=>rw[r.inj r',ih t']
section
variable{X:Cx}{pins:List (Addr×Obj)}{σ:St}{H:Hp}{s:Shared}{a:Addr}{xs ys:List V}
theorem SqL.of{K:PySem.W.Frag}(h:H a=some (.lst xs)):SqL K H a xs:=.inl (.inl h)
theorem SqT.of{K:PySem.W.Frag}(h:H a=some (.tup xs)):SqT K H a xs:=.inl (.inl h)
theorem Inv.list(I:Inv X pins σ H s)(h:SqL X.K H a xs):∃ its:List Value,Vals xs its/\PlainL s.heap a its.toArray/\xs.length<=sizeLine:=by
 rcases h with h |⟨o,its,n,hk,hc,hd,hs,hz,r⟩
 ·obtain⟨z,its,n,r,e⟩:=h.ok I.hok
  exact⟨its,r,⟨_,n,e,rfl,rfl,rfl⟩,z⟩
 ·refine⟨its.toList,r,⟨o,n,I.kIn a o hk,hc,hd,by simpa using hs⟩,?_⟩
  have e:=r.length
  simp only[zBK]at e
  exact zh9 hz e
theorem Inv.tuple(I:Inv X pins σ H s)(h:SqT X.K H a xs):∃ its:List Value,Vals xs its/\IsTup s.heap a its.toArray/\xs.length<=sizeLine:=by
 rcases h with h |⟨o,its,n,hk,hc,hs,hz,r⟩
 ·obtain⟨z,its,r,p⟩:=h.ok I.hok
  exact⟨its,r,p,z⟩
 ·refine⟨its.toList,r,⟨o,I.kIn a o hk,hc,n,by simpa using hs⟩,?_⟩
  have e:=r.length
  simp only[zBK]at e
  exact zh9 hz e
theorem Inv.list_inj(I:Inv X pins σ H s)(h:SqL X.K H a xs)(h':SqL X.K H a ys):xs=ys:=by
 obtain⟨its,r,⟨o,n,e,_,_,d⟩,_⟩:=I.list h
 obtain⟨its',r',⟨o',n',e',_,_,d'⟩,_⟩:=I.list h'
 rw[e]at e';cases e'
 rw[d]at d'
 injection d' with d1 _
 have:its=its':=by simpa using congrArg Array.toList d1
 subst this
 exact r.inj r'
theorem Inv.tuple_inj(I:Inv X pins σ H s)(h:SqT X.K H a xs)(h':SqT X.K H a ys):xs=ys:=by
 obtain⟨its,r,⟨o,e,_,n,d⟩,_⟩:=I.tuple h
 obtain⟨its',r',⟨o',e',_,n',d'⟩,_⟩:=I.tuple h'
 rw[e]at e';cases e'
 rw[d]at d'
 injection d' with d1 _
 have:its=its':=by simpa using congrArg Array.toList d1
 subst this
 exact r.inj r'
end
noncomputable abbrev Cx.wish(X:Cx)(E:Value->Shared->Prop):Cx:={ X with xe:=E }
noncomputable abbrev Cx.nox(X:Cx):Cx:=X.wish fun _ _=>False
theorem Cx.Ok.wish{X:Cx}(ok:X.Ok)(E:Value->Shared->Prop):(X.wish E).Ok :=
 ⟨ok.mod,ok.kind,ok.glob,ok.blt,ok.above,ok.inj,ok.has,ok.cab,ok.hd,ok.frames,ok.stk,ok.exf,ok.bs,ok.bsz,ok.noex,ok.exfs,ok.funs,ok.frf⟩
theorem Cx.Ok.unwish{X:Cx}{E:Value->Shared->Prop}(ok:(X.wish E).Ok):X.Ok :=
 ⟨ok.mod,ok.kind,ok.glob,ok.blt,ok.above,ok.inj,ok.has,ok.cab,ok.hd,ok.frames,ok.stk,ok.exf,ok.bs,ok.bsz,ok.noex,ok.exfs,ok.funs,ok.frf⟩
section
variable{X:Cx}{pins:List (Addr×Obj)}{σ:St}{H:Hp}{s:Shared}{E:Value->Shared->Prop}
theorem Inv.wish(I:Inv X pins σ H s)(E:Value->Shared->Prop):Inv (X.wish E) pins σ H s:=⟨I.ok.wish E,I.os,I.bare,I.base,I.loc,I.cell,I.free,I.freeC,I.pin,I.hok,I.len⟩
theorem Inv.unwish(I:Inv (X.wish E) pins σ H s):Inv X pins σ H s:=⟨I.ok.unwish,I.os,I.bare,I.base,I.loc,I.cell,I.free,I.freeC,I.pin,I.hok,I.len⟩
theorem SP.unwish{D:Ends}{f:Flow}{s':Shared}(h:SP (X.wish E) pins D f s'):SP X pins D f s':=by
 cases f with
 |next=>obtain⟨σ',H',I,q⟩:=h;exact⟨σ',H',I.unwish,q⟩
 |brk=>obtain⟨σ',H',I,q⟩:=h;exact⟨σ',H',I.unwish,q⟩
 |cont=>obtain⟨σ',H',I,q⟩:=h;exact⟨σ',H',I.unwish,q⟩
 |ret u=>obtain⟨v,σ',H',I,r,q⟩:=h;exact⟨v,σ',H',I.unwish,r,q⟩
theorem PSs.nox{st:List Stmt}{t:TS}(h:PSs X.nox st t):PSs X st t:=fun pins s σ H D I hw =>
 wpAny_mono (h pins s σ H D (I.wish _) hw) (fun _ _ q=>q.unwish) fun _ _ z=>False.elim z
end
section
variable{X:Cx}{st:Stmt}{rest:List Stmt}{t u:TS}{e:Expr}{te:TE}{pos:Pos}
noncomputable def tNext:TS:=fun D σ H=>D.nx σ H
noncomputable def tSeq(t u:TS):TS:=fun D σ H=>t { D with nx:=u D } σ H
theorem pss_nil:PSs X [] tNext:=fun _ _ σ H _ I h=>wpAny_execs_nil ⟨σ,H,I,h⟩
theorem yad(h1:PS X st t)(h2:PSs X rest u):PSs X (st :: rest) (tSeq t u):=by
 intro pins s σ H D I h
 refine wpAny_execs_cons (thn (h1 pins s σ H { D with nx:=u D } I h) fun f s1 q=>?_)
 cases f with
 |next =>
  obtain⟨σ',H',I',q⟩:=q
  exact h2 pins s1 σ' H' D I' q
 |ret v=>exact q
 |brk=>exact q
 |cont=>exact q
theorem pss_one(h1:PS X st t):PSs X [st] t:=by
 intro pins s σ H D I h
 refine wpAny_execs_cons (thn (h1 pins s σ H D I h) fun f s1 q=>?_)
 cases f with
 |next=>exact wpAny_execs_nil q
 |ret v=>exact q
 |brk=>exact q
 |cont=>exact q
theorem Inv.quiet{pins:List (Addr×Obj)}{σ:St}{H:Hp}{s:Shared}(I:Inv X pins σ H s):interactive X.env=false:=by simp[interactive,I.ok.kind]
noncomputable def tDrop(te:TE):TS:=fun D σ H=>te σ H fun _ H1=>D.nx σ H1
theorem ps_expr(he:PE X e te)(hs:swapsWith e none pos.line X.env=pure false:=by rfl):PS X (.Expr e pos) (tDrop te):=by
 intro pins s σ H D I h
 exact wpAny_Expr_any (thn (he pins s σ H _ I h) fun v s1 ⟨x,H1,I1,r1,q1⟩=>⟨σ,H1,I1,q1⟩) I.quiet hs
noncomputable def tRet(te:TE):TS:=fun D σ H=>te σ H D.rt
theorem ps_ret(he:PE X e te):PS X (.Return (some e) pos) (tRet te):=by
 intro pins s σ H D I h
 exact wpAny_Return_some (thn (he pins s σ H _ I h) fun v s1 ⟨x,H1,I1,r1,q1⟩=>⟨x,σ,H1,I1,r1,q1⟩)
noncomputable def tIfS(c:TT)(t u:TS):TS:=fun D σ H=>c σ H fun b H1=>if b=true then t D σ H1 else u D σ H1
theorem ps_if{c:Expr}{a b:List Stmt}{tc:TT}(hc:PT X c tc)(ha:PSs X a t)(hb:PSs X b u):PS X (.If c a b pos) (tIfS tc t u):=by
 intro pins s σ H D I h
 refine wpAny_If (thn (hc pins s σ H _ I h) fun d s1 ⟨H1,I1,q1⟩=>?_)
 cases d with
 |true=>exact ha pins s1 σ H1 D I1 q1
 |false=>exact hb pins s1 σ H1 D I1 q1
noncomputable def tNever:TS:=fun _ _ _=>False
theorem pss_never{sts:List Stmt}:PSs X sts tNever:=fun _ _ _ _ _ _ h=>h.elim
end
noncomputable abbrev TG:=V->St->Hp->(St->Hp->Prop)->Prop
noncomputable abbrev TGs:=List V->St->Hp->(St->Hp->Prop)->Prop
noncomputable def PG(X:Cx)(target:Expr)(t:TG):Prop :=
 ∀ (pins:List (Addr×Obj)) (s:Shared) (σ:St) (H:Hp) (v:V) (u:Value) (Q:St->Hp->Prop),Inv X pins σ H s->RelV v u->t v σ H Q ->
  wpAny (model X.prog X.w) X.A (assign target X.env u) (fun _ s'=>∃ σ' H',Inv X pins σ' H' s'/\Q σ' H') X.xe s
noncomputable def PGs(X:Cx)(ts:List Expr)(t:TGs):Prop :=
 ∀ (pins:List (Addr×Obj)) (s:Shared) (σ:St) (H:Hp) (vs:List V) (us:List Value) (Q:St->Hp->Prop),Inv X pins σ H s->Vals vs us->t vs σ H Q ->
  wpAny (model X.prog X.w) X.A (assignInOrder ((assignEach ts X.env).map (·.2)) us) (fun _ s'=>∃ σ' H',Inv X pins σ' H' s'/\Q σ' H') X.xe s
noncomputable abbrev TSet:=V->V->V->Hp->(Hp->Prop)->Prop
noncomputable def PSet(X:Cx)(t:TSet):Prop :=
 ∀ (pins:List (Addr×Obj)) (s:Shared) (σ:St) (H:Hp) (o i v:V) (ov iv u:Value) (Q:Hp->Prop),Inv X pins σ H s->RelV o ov->RelV i iv->RelV v u->t o i v H Q ->
  wpAny (model X.prog X.w) X.A (setItem ov iv u) (fun _ s'=>∃ H',Inv X pins σ H' s'/\Q H') X.xe s
section
variable{X:Cx}{pos:Pos}
noncomputable def gName(i:Nat):TG:=fun v σ H Q=>Q (σ.set i (some v)) H
theorem pg_name{i:Nat}{x:Str}(hN:X.N.Nodup)(hi:X.N[i]?=some x)(hx:Loc X.env.scope x)(hf:X.fn x=true\/X.env.scope.names.lookup x=some .local:=by first | exact .inl rfl | exact .inr rfl | assumption):PG X (.Name x pos) (gName i):=by
 intro pins s σ H v u Q I r h
 exact wpAny_assign_Name (store_ok I hN hi hx r (fun s' I'=>⟨_,H,I',h⟩) hf)
noncomputable def gNil:TGs:=fun vs σ H Q=>vs=[]/\Q σ H
inductive gConsI(t:TG)(u:TGs)(vs:List V)(σ:St)(H:Hp)(Q:St->Hp->Prop):Prop where
 |mk (v:_) (r:_) (h1:vs=v :: r) (h2:t v σ H fun σ' H'=>u r σ' H' Q)
noncomputable def gCons(t:TG)(u:TGs):TGs:=fun vs σ H Q=>gConsI t u vs σ H Q
theorem pgs_nil:PGs X [] gNil:=by
 intro pins s σ H vs us Q I r h
 obtain⟨e,h⟩:=h
 subst e
 cases r
 exact assignInOrder_nil ⟨σ,H,I,h⟩
theorem pgs_cons{e:Expr}{es:List Expr}{t:TG}{u:TGs}(h1:PG X e t)(h2:PGs X es u)
  (hs:(assignEach (e :: es) X.env).map (·.2)=assign e X.env :: (assignEach es X.env).map (·.2):=by rfl):PGs X (e :: es) (gCons t u):=by
 intro pins s σ H vs us Q I r h
 obtain⟨v,vr,e1,h⟩:=h
 subst e1
 cases r with
 |cons r rr =>
  rw[hs]
  refine assignInOrder_cons (thn (h1 pins s σ H _ _ _ I r h) fun _ s1 ⟨σ1,H1,I1,q1⟩=>?_)
  exact h2 pins s1 σ1 H1 _ _ Q I1 rr q1
inductive gTupI(K:PySem.W.Frag)(n:Nat)(t:TGs)(v:V)(σ:St)(H:Hp)(Q:St->Hp->Prop):Prop where
 |mk (a:_) (xs:_) (h1:v = .ref a) (h2:SqT K H a xs) (h3:xs.length=n) (h4:t xs σ H Q)
noncomputable def gTup(K:PySem.W.Frag)(n:Nat)(t:TGs):TG:=fun v σ H Q=>gTupI K n t v σ H Q
theorem pg_tup{es:List Expr}{k:Nat}{t:TGs}{n:Nat}(hc:X.calm=true)(h:PGs X es t)
  (hn:(assignEach es X.env).length=n:=by rfl) (hst:(assignEach es X.env).findIdx? (·.1)=none:=by rfl):PG X (.Tuple es k pos) (gTup X.K n t):=by
 intro pins s σ H v u Q I r hw
 obtain⟨a,xs,e1,hq,hl,hw⟩:=hw
 subst e1
 cases r
 obtain⟨its,rv,ht,hz⟩:=I.tuple hq
 refine assign_Tuple_tuple (I.ok.hd hc) ht (by simp[hn,<- hl,rv.length]) hst fun h' hx=>?_
 have I1:Inv X pins σ H { s with heap:=h' }:=I.kept (t':=s.toks) fun b o e=>hx b o (zAG (zQ e)) e
 exact h pins _ σ H xs _ Q I1 (by simpa using rv) hw
noncomputable def gSub(to ti:TE)(t:TSet):TG:=fun v σ H Q=>to σ H fun o H1=>ti σ H1 fun i H2=>t o i v H2 fun H3=>Q σ H3
theorem pg_sub{o i:Expr}{to ti:TE}{t:TSet}(ho:PE X o to)(hi:PE X i ti)(hs:PSet X t)
  (ha:∀ v,assign (.Subscript o i pos) X.env v=(do
   let ov <- holding [v] (eval o X.env)
   let iv <- holding [v,ov] (eval i X.env)
   standAt pos
   holding [v,ov,iv] (setItem ov iv v)
   release [v,ov,iv] []):=by intro _;rfl):PG X (.Subscript o i pos) (gSub to ti t):=by
 intro pins s σ H v u Q I r h
 rw[ha]
 refine zB (wpAny_holding (thn (ho pins s σ H _ I h) fun ov s1 ⟨x,H1,I1,r1,q1⟩=>?_))
 refine zB (wpAny_holding (thn (hi pins s1 σ H1 _ I1 q1) fun iv s2 ⟨y,H2,I2,r2,q2⟩=>?_))
 refine zB (wpAny_standAt (zB (wpAny_holding (thn (hs pins s2 σ H2 x y v ov iv u _ I2 r1 r2 r q2) fun _ s3 ⟨H3,I3,q3⟩=>?_))))
 exact wpAny_release ⟨σ,H3,I3,q3⟩
noncomputable def tAsg(te:TE)(g:TG):TS:=fun D σ H=>te σ H fun x H1=>g x σ H1 D.nx
theorem ps_asg{tg e:Expr}{te:TE}{g:TG}(he:PE X e te)(hg:PG X tg g)(hs:swapsWithSole [tg] e pos.line X.env=pure false:=by rfl)(hw:swappedStores [tg] e X.env=pure none:=by rfl)
  (h1:(assignEach [tg] X.env).map (·.2)=[assign tg X.env]:=by rfl):PS X (.Assign [tg] e pos) (tAsg te g):=by
 intro pins s σ H D I h
 refine wpAny_Assign_stores (thn (he pins s σ H _ I h) fun v s1 ⟨x,H1,I1,r1,q1⟩=>?_) hs hw
 rw[h1]
 exact thn (hg pins s1 σ H1 x v _ I1 r1 q1) fun _ s2 q=>q
theorem ps_set{i:Nat}{x:Str}{e:Expr}{te:TE}{pos':Pos}(hN:X.N.Nodup)(hi:X.N[i]?=some x)(hx:Loc X.env.scope x)(he:PE X e te)(hs:swapsWith e (some (.Name x pos')) pos.line X.env=pure false:=by rfl)(hf:X.fn x=true\/X.env.scope.names.lookup x=some .local:=by first | exact .inl rfl | exact .inr rfl | assumption) :
  PS X (.Assign [.Name x pos'] e pos) (tAsg te (gName i)):=by
 intro pins s σ H D I h
 refine wpAny_Assign_Name (thn (he pins s σ H _ I h) fun v s1 ⟨y,H1,I1,r1,q1⟩=>?_) hs
 exact store_ok I1 hN hi hx r1 (fun s2 I2=>⟨_,H1,I2,q1⟩) hf
noncomputable def tPar(i j:Nat)(ta:TA):TS:=fun D σ H=>ta σ H fun vs H1=>∃ v w,vs=[v,w]/\D.nx ((σ.set i (some v)).set j (some w)) H1
theorem ps_par{i j:Nat}{x y:Str}{a b:Expr}{ta:TA}{px py pt:Pos}{kt k2 pt2}(hc:X.calm=true)(hN:X.N.Nodup)(hi:X.N[i]?=some x)(hj:X.N[j]?=some y)(hij:i≠j)
  (hx:X.env.scope.names.lookup x=some .local) (hy:X.env.scope.names.lookup y=some .local) (ha:PA X [a,b] ta)
  (hw:swappedStores [.Tuple [.Name x px,.Name y py] kt pt] (.Tuple [a,b] k2 pt2) X.env=pure (some [x,y]))
  (hs:swapsWithSole [.Tuple [.Name x px,.Name y py] kt pt] (.Tuple [a,b] k2 pt2) pos.line X.env=pure false:=by rfl) :
  PS X (.Assign [.Tuple [.Name x px,.Name y py] kt pt] (.Tuple [a,b] k2 pt2) pos) (tPar i j ta):=by
 intro pins s σ H D I h
 rw[exec_Assign_arm]
 refine zB (wpAny_standAt ?_)
 rw[hs]
 refine zB (zG ?_)
 rw[if_neg (by decide)]
 refine zB (Tuple_ (thn (ha _ pins s σ H _ I h) fun us s1 ⟨vs,H1,I1,r1,q1⟩=>?_))
 obtain⟨v,w,e1,q1⟩:=q1
 subst e1
 obtain⟨u1,u2,rfl,rv,rw'⟩:∃ u1 u2,us=[u1,u2]/\RelV v u1/\RelV w u2:=by
  cases r1 with
  |cons p q =>
   cases q with
   |cons p' q' =>
    cases q'
    exact⟨_,_,rfl,p,p'⟩
 refine wpAny_newObj_type ?_ (by show 2<=sizeLine;decide)
 have I2:Inv X pins σ H1 { s1 with heap:=s1.heap.push { cls:=.type "tuple",data:=.seq [u1,u2].toArray } }:=I1.kept (t':=s1.toks) fun b o e=>zC _ e
 rw[hw]
 refine zB (zG ?_)
 show wpAny (model X.prog X.w) X.A (do rule "assign.swapped-stores";let items <- unpackItems (.ref s1.heap.objs.size) 2 none;assignInOrder [fun v=>bindName X.env y v,fun v=>bindName X.env x v] items.reverse;pure Flow.next) _ _ _
 refine zB (wpAny_rule (zB (unpackItems_tuple (items:=#[u1,u2]) (I.ok.hd hc) (IsTup.new s1.heap _) fun h' hx'=>?_)))
 have I3:=I2.kept (h':=h') (t':=s1.toks) fun b o e=>hx' b o (zAG (zQ e)) e
 show wpAny _ _ (assignInOrder [fun v=>bindName X.env y v,fun v=>bindName X.env x v] [u2,u1] >>= fun _=>pure Flow.next) _ _ _
 refine zB (assignInOrder_cons (wpAny_bindName (store_ok I3 hN hj (.inl hy) rw' (fun s2 I4=>?_) (.inr hy))))
 refine assignInOrder_cons (wpAny_bindName (store_ok I4 hN hi (.inl hx) rv (fun s3 I5=>assignInOrder_nil (zG ?_)) (.inr hx)))
 rw[List.set_comm _ _ (Ne.symm hij)]at I5
 exact⟨_,H1,I5,q1⟩
end
section
variable{X:Cx}{pos:Pos}
noncomputable def tWhile(c:TT)(tb:TS):TS:=fun D σ H=>∃ W:Nat->St->Hp->Prop,(∃ m,W m σ H)/\∀ m σ H,W m σ H ->
 c σ H fun b H1=>if b=true then ∃ N:St->Hp->Prop,(∀ σ' H',N σ' H'->∃ m',m'<m/\W m' σ' H')/\tb { D with nx:=N,ct:=N,bk:=D.nx } σ H1 else D.nx σ H1
theorem ps_while{c:Expr}{body:List Stmt}{tc:TT}{tb:TS}(hp:PassesOwn (model X.prog X.w) X.A X.env X.xe)(hc:PT X c tc)(hb:PSs X body tb):PS X (.While c body [] pos) (tWhile tc tb):=by
 intro pins s σ H D I h
 obtain⟨W,⟨m0,w0⟩,turn⟩:=h
 refine wpAny_While (codeAny_whileLoop (fun n s'=>∃ σ' H',Inv X pins σ' H' s'/\W n σ' H') ?_ m0 ⟨σ,H,I,w0⟩)
 rintro n s1 ⟨σ1,H1,I1,w1⟩
 refine wpAny_passesOwn hp (thn (hc pins s1 σ1 H1 _ I1 (turn n σ1 H1 w1)) fun b s2 ⟨H2,I2,q2⟩=>?_)
 cases b with
 |true =>
  obtain⟨N,hN,q2⟩:=q2
  rw[if_pos rfl]
  refine wpAny_passesOwn hp (thn (hb pins s2 σ1 H2 _ I2 q2) fun f s3 q3=>?_)
  cases f with
  |next =>
   obtain⟨σ3,H3,I3,n3⟩:=q3
   obtain⟨m',hm,w3⟩:=hN σ3 H3 n3
   exact⟨m',hm,σ3,H3,I3,w3⟩
  |cont =>
   obtain⟨σ3,H3,I3,n3⟩:=q3
   obtain⟨m',hm,w3⟩:=hN σ3 H3 n3
   exact⟨m',hm,σ3,H3,I3,w3⟩
  |brk=>exact q3
  |ret v=>exact q3
 |false =>
  rw[if_neg zT]
  exact wpAny_execs_nil ⟨σ1,H2,I2,q2⟩
end
structure It where
 go:Nat->Hp->Prop
 yld:Nat->Hp->V->Hp->Prop
 stop:Nat->Hp->Prop
noncomputable def FpOk(X:Cx)(pins:List (Addr×Obj))(H:Hp)(b:Addr):Prop :=
 H b=none/\b≠X.env.locals/\b∉X.fs/\(b∈X.ex\/X.s₀.heap.objs.size<=b)/\(∀ x c,X.env.cells.lookup x=some c->c≠b)/\∀ p∈X.pn++pins,p.1≠b
theorem Inv.fpOk{X:Cx}{pins:List (Addr×Obj)}{σ:St}{H H':Hp}{s:Shared}{b:Addr}(I:Inv X pins σ H s)(hb:s.heap.objs.size<=b)(hn:H' b=none):FpOk X pins H' b:=by
 refine⟨hn,zBL (zZ I.lt hb),I.nofs hb,.inr (zAE I.sz hb),fun x c e z=>?_,fun p hp z=>?_⟩
 ·obtain⟨v,q⟩:=I.cell x c e
  exact absurd (zZ q.lt (by rw[z];exact hb)) (zAM _)
 ·exact absurd (zZ (zQ (I.pin p hp).1) (by rw[z];exact hb)) (zAM _)
structure Turn(P:Program)(w:World)(K:PySem.W.Frag)(tg:Expr)(J:It)(fp:List Addr)(it:Addr)(tn:Nat->Heap->Prop):Prop where
 mem:it∈fp
 obj:∀ i h,tn i h->∀ b∈fp,∃ o,h.get? b=some o/\∀ v,o.data≠.cell v
 keep:∀ i h h',tn i h->(∀ b∈fp,∀ o,h.get? b=some o->h'.get? b=some o)->tn i h'
 item:∀ (X:Cx),X.prog=P->X.w=w->X.K=K->X.calm=true->∀ (i:Nat) (pins:List (Addr×Obj)) (s:Shared) (σ:St) (H:Hp) (E:Value->Shared->Prop),Inv X pins σ H s->(∀ b∈fp,FpOk X pins H b)->tn i s.heap->J.go i H ->
  wpAny (model P w) X.A (pyNext (.ref it)) (fun r s1=>∃ u,r=some u /\
   wpAny (model P w) X.A (letOwnedTupleGo tg (.ref it) u) (fun _ s2=>∃ x H',Inv X pins σ H' s2/\RelV x u/\J.yld i H x H'/\tn (i+1) s2.heap/\∀ b∈fp,H' b=none) E s1) E s
 done:∀ (X:Cx),X.prog=P->X.w=w->X.K=K->X.calm=true->∀ (i:Nat) (pins:List (Addr×Obj)) (s:Shared) (σ:St) (H:Hp) (E:Value->Shared->Prop),Inv X pins σ H s->(∀ b∈fp,FpOk X pins H b)->tn i s.heap->J.stop i H ->
  wpAny (model P w) X.A (pyNext (.ref it)) (fun r s1=>r=none/\Inv X pins σ H s1) E s
 self:∀ (A:Around) (i:Nat) (s:Shared) (Q:Value->Shared->Prop) (E:Value->Shared->Prop),tn i s.heap->Q (.ref it) s->wpAny (model P w) A (pyIter (.ref it)) Q E s
noncomputable abbrev TI:=St->Hp->(It->Hp->Prop)->Prop
noncomputable def PIE(X:Cx)(pins:List (Addr×Obj))(σ:St)(tg:Expr)(R:It->Hp->Prop)(itv:Value)(s2:Shared):Prop :=
 ∃ (it:Addr) (fp:List Addr) (tn:Nat->Heap->Prop) (J:It) (H':Hp),itv = .ref it/\Inv X pins σ H' s2/\Turn X.prog X.w X.K tg J fp it tn/\tn 0 s2.heap/\(∀ b∈fp,FpOk X pins H' b)/\R J H'
noncomputable def PI(X:Cx)(tg iter:Expr)(wi:TI):Prop :=
 ∀ (pins:List (Addr×Obj)) (s:Shared) (σ:St) (H:Hp) (R:It->Hp->Prop),Inv X pins σ H s->wi σ H R ->
  wpAny (model X.prog X.w) X.A (eval iter X.env) (fun v s1=>wpAny (model X.prog X.w) X.A (pyIter v) (PIE X pins σ tg R) X.xe s1) X.xe s
theorem go_of {M : Model} {A : Around} {E : Value → Shared → Prop} {s : Shared} {tg : Expr} {it : Addr} {u : Value} {o : Obj} {n : String} {vs : Array Value} {Q : Unit → Shared → Prop} (ho : s.heap.get? it = some o) (hc : o.cls = .type n) (hd : o.data = .fields vs)
    (hn : ["enumerate", "zip", "dict_itemiterator", "dict_reverseitemiterator", "odict_iterator", "itertools.zip_longest", "itertools.pairwise"].contains n = false) (hQ : Q () s) : wpAny M A (letOwnedTupleGo tg (.ref it) u) Q E s := by
  unfold letOwnedTupleGo
  cases tg <;> first
    | exact zG hQ
    | (cases u <;> first
        | exact zG hQ
        | (refine zB (wpAny_load ho ?_)
           rw [hc, hd]
           show wpAny M A (if (["enumerate", "zip", "dict_itemiterator", "dict_reverseitemiterator", "odict_iterator", "itertools.zip_longest", "itertools.pairwise"].contains n && vs[0]? == some (rawInt _)) = true then _ else _) Q E s
           rw [if_neg (by intro h; rw [hn, Bool.false_and] at h; cases h)]
           exact zG hQ))
noncomputable def Itl(K:PySem.W.Frag)(a:Addr):It :=
 ⟨fun i H=>∃ xs x,SqL K H a xs/\xs[i]?=some x,fun i H x H'=>H'=H/\∀ xs,SqL K H a xs->xs[i]?=some x,fun i H=>∃ xs,SqL K H a xs/\xs.length<=i⟩
noncomputable def Itt(K:PySem.W.Frag)(a:Addr):It :=
 ⟨fun i H=>∃ xs x,SqT K H a xs/\xs[i]?=some x,fun i H x H'=>H'=H/\∀ xs,SqT K H a xs->xs[i]?=some x,fun i H=>∃ xs,SqT K H a xs/\xs.length<=i⟩
noncomputable def Itr(lo:Int)(n:Nat):It:=⟨fun i _=>i<n,fun i H x H'=>H'=H/\x = .int (lo+i),fun i _=>n<=i⟩
theorem turn_list{P:Program}{w:World}{K:PySem.W.Frag}{tg:Expr}(a it:Addr):Turn P w K tg (Itl K a) [it] it (fun i h=>h.IsListIter it a i)where
 mem:=by simp
 obj:=fun i h st b hb=>by
  have e:b=it:=by simpa using hb
  subst e
  obtain⟨o,e,c,d⟩:=st
  exact⟨o,e,fun v z=>by rw[d]at z;cases z⟩
 keep:=fun i h h' st k=>st.at fun o e=>k it (by simp) o e
 item:=by
  intro X hP hw hK hc i pins s σ H E I hf st hg
  subst hP hw hK
  obtain⟨xs,x,hq,hx⟩:=hg
  obtain⟨its,rv,p,hz⟩:=I.list hq
  obtain⟨u,hu,ru⟩:=rv.get hx
  obtain⟨f0,f1,f2,f3,f4,f5⟩:=hf it (by simp)
  refine wpAny_pyNext_list_item st p.isList (x:=u) (by simpa using hu) fun h' st' sb=>?_
  have I1:Inv X pins σ H { s with heap:=h' }:=I.turned (t':=s.toks) (fun b o hb e=>(sb.2 b hb).trans e) f0 f1 f3 f4 f5
  obtain⟨o,e,c,d⟩:=id st'
  exact⟨u,rfl,go_of (s:={ s with heap:=h' }) e c d (by decide) ⟨x,H,I1,ru,⟨rfl,fun ys hy=>by rw[I.list_inj hy hq];exact hx⟩,st',fun b hb=>(hf b hb).1⟩⟩
 done:=by
  intro X hP hw hK hc i pins s σ H E I hf st hg
  subst hP hw hK
  obtain⟨xs,hq,hx⟩:=hg
  obtain⟨its,rv,p,hz⟩:=I.list hq
  obtain⟨f0,f1,f2,f3,f4,f5⟩:=hf it (by simp)
  have hl:=rv.length
  exact wpAny_pyNext_list_end (I.ok.hd hc) st p.isList (by simp;exact zh9 hx (Eq.symm hl)) fun h' eb=>⟨rfl,I.turned (t':=s.toks) (fun b o hb e=>eb b o hb e) f0 f1 f3 f4 f5⟩
 self:=fun _ _ _ _ _ st h=>wpAny_pyIter_listiter st h
theorem turn_tuple{P:Program}{w:World}{K:PySem.W.Frag}{tg:Expr}(a it:Addr):Turn P w K tg (Itt K a) [it] it (fun i h=>h.IsTupleIter it a i)where
 mem:=by simp
 obj:=fun i h st b hb=>by
  have e:b=it:=by simpa using hb
  subst e
  obtain⟨o,e,c,d⟩:=st
  exact⟨o,e,fun v z=>by rw[d]at z;cases z⟩
 keep:=fun i h h' st k=>st.at fun o e=>k it (by simp) o e
 item:=by
  intro X hP hw hK hc i pins s σ H E I hf st hg
  subst hP hw hK
  obtain⟨xs,x,hq,hx⟩:=hg
  obtain⟨its,rv,p,hz⟩:=I.tuple hq
  obtain⟨u,hu,ru⟩:=rv.get hx
  obtain⟨f0,f1,f2,f3,f4,f5⟩:=hf it (by simp)
  refine wpAny_pyNext_tuple_item st (show s.heap.IsTuple a its.toArray from p) (x:=u) (by simpa using hu) fun h' st' sb=>?_
  have I1:Inv X pins σ H { s with heap:=h' }:=I.turned (t':=s.toks) (fun b o hb e=>(sb.2 b hb).trans e) f0 f1 f3 f4 f5
  obtain⟨o,e,c,d⟩:=id st'
  exact⟨u,rfl,go_of (s:={ s with heap:=h' }) e c d (by decide) ⟨x,H,I1,ru,⟨rfl,fun ys hy=>by rw[I.tuple_inj hy hq];exact hx⟩,st',fun b hb=>(hf b hb).1⟩⟩
 done:=by
  intro X hP hw hK hc i pins s σ H E I hf st hg
  subst hP hw hK
  obtain⟨xs,hq,hx⟩:=hg
  obtain⟨its,rv,p,hz⟩:=I.tuple hq
  obtain⟨f0,f1,f2,f3,f4,f5⟩:=hf it (by simp)
  have hl:=rv.length
  exact wpAny_pyNext_tuple_end (I.ok.hd hc) st (show s.heap.IsTuple a its.toArray from p) (by simp;exact zh9 hx (Eq.symm hl)) fun h' eb=>⟨rfl,I.turned (t':=s.toks) (fun b o hb e=>eb b o hb e) f0 f1 f3 f4 f5⟩
 self:=fun _ _ _ _ _ st h=>wpAny_pyIter_tupleiter st h
theorem turn_range{P:Program}{w:World}{K:PySem.W.Frag}{tg:Expr}(it:Addr)(lo:Int)(n:Nat):Turn P w K tg (Itr lo n) [it] it (fun i h=>IsRangeIter h it (lo+(i:Nat) * 1) ((n:Int)-(i:Nat)) 1)where
 mem:=by simp
 obj:=fun i h st b hb=>by
  have e:b=it:=by simpa using hb
  subst e
  exact⟨_,st,fun v z=>by
   have z':Data.fields _=Data.cell v:=z
   cases z'⟩
 keep:=fun i h h' st k=>k it (by simp) _ st
 item:=by
  intro X hP hw hK hc i pins s σ H E I hf st hg
  subst hP hw hK
  obtain⟨f0,f1,f2,f3,f4,f5⟩:=hf it (by simp)
  have W:=Walks.range (prog:=X.prog) (w:=X.w) (I.ok.hd hc) it lo 1 n
  refine W.item i s _ _ hg st fun v h' tk hv st' kk=>?_
  obtain⟨t,rfl⟩:=hv
  have I1:Inv X pins σ H { s with heap:=h',toks:=tk }:=I.turned (fun b o hb e=>kk b o (by simpa using hb) e) f0 f1 f3 f4 f5
  refine⟨_,rfl,go_of (s:={ s with heap:=h',toks:=tk }) (n:="range_iterator") st' rfl rfl (by decide) ⟨.int (lo+i),H,I1,⟨t,?_⟩,⟨rfl,rfl⟩,st',fun b hb=>(hf b hb).1⟩⟩
  rw[Int.mul_one]
 done:=by
  intro X hP hw hK hc i pins s σ H E I hf st hg
  subst hP hw hK
  obtain⟨f0,f1,f2,f3,f4,f5⟩:=hf it (by simp)
  exact wpAny_pyNext_range_end (I.ok.hd hc) st (by have:n<=i:=hg;lia) fun h' eb=>⟨rfl,I.turned (t':=s.toks) (fun b o hb e=>eb b o hb e) f0 f1 f3 f4 f5⟩
 self:=fun _ _ _ _ _ st h=>wpAny_pyIter_rangeiter st h
open PySem PySem.Spec PyProof.Rows
section
variable{X:Cx}{tg:Expr}
inductive ExS(x:V)(S Q:Addr->Prop):Prop where
 |mk (a:Addr) (e:x = .ref a) (s:S a) (h:Q a)
noncomputable def iList(K:PySem.W.Frag)(tl:TE):TI:=fun σ H R=>tl σ H fun x H1=>ExS x (fun a=>∃ xs,SqL K H1 a xs) fun a=>R (Itl K a) H1
noncomputable def iTup(K:PySem.W.Frag)(tl:TE):TI:=fun σ H R=>tl σ H fun x H1=>ExS x (fun a=>∃ xs,SqT K H1 a xs) fun a=>R (Itt K a) H1
theorem pi_list{l:Expr}{tl:TE}(hl:PE X l tl):PI X tg l (iList X.K tl):=by
 intro pins s σ H R I h
 refine thn (hl pins s σ H _ I h) fun v s1 ⟨x,H1,I1,r1,q1⟩=>?_
 obtain⟨a,e,⟨xs,hq⟩,q⟩:=q1
 subst e
 cases r1
 obtain⟨its,rv,p,hz⟩:=I1.list hq
 refine wpAny_pyIter_list p.isList ?_
 refine⟨s1.heap.objs.size,[s1.heap.objs.size],_,_,H1,rfl,I1.kept (t':=s1.toks) fun b o e=>zC _ e,turn_list a _,⟨_,zV _ rfl,rfl,rfl⟩,fun b hb=>?_,q⟩
 have e:b=s1.heap.objs.size:=by simpa using hb
 subst e
 exact I1.fpOk (zJ _) (I1.hok.fresh (zJ _))
theorem pi_tup{l:Expr}{tl:TE}(hl:PE X l tl):PI X tg l (iTup X.K tl):=by
 intro pins s σ H R I h
 refine thn (hl pins s σ H _ I h) fun v s1 ⟨x,H1,I1,r1,q1⟩=>?_
 obtain⟨a,e,⟨xs,hq⟩,q⟩:=q1
 subst e
 cases r1
 obtain⟨its,rv,p,hz⟩:=I1.tuple hq
 refine wpAny_pyIter_tuple (show s1.heap.IsTuple a its.toArray from p) ?_
 refine⟨s1.heap.objs.size,[s1.heap.objs.size],_,_,H1,rfl,I1.kept (t':=s1.toks) fun b o e=>zC _ e,turn_tuple a _,⟨_,zV _ rfl,rfl,rfl⟩,fun b hb=>?_,q⟩
 have e:b=s1.heap.objs.size:=by simpa using hb
 subst e
 exact I1.fpOk (zJ _) (I1.hok.fresh (zJ _))
theorem range_it{pins:List (Addr×Obj)}{σ:St}{H:Hp}{s:Shared}{R:It->Hp->Prop}{E:Value->Shared->Prop}{lo hi:Int}{t u v:Tok}{tk:Nat}(I:Inv X pins σ H s)(h1:-(2 ^ 62)<=lo)(h2:lo<2 ^ 62)(h3:-(2 ^ 62)<=hi)(h4:hi<2 ^ 62)
  (q:R (Itr lo (hi-lo).toNat) H):wpAny (model X.prog X.w) X.A (pyIter (.ref s.heap.objs.size)) (PIE X pins σ tg R) E { s with heap:=s.heap.push { cls:=.type "range",data:=.fields #[.int lo t,.int hi u,.int 1 v] },toks:=tk }:=by
 refine wpAny_pyIter_range (IsRange.new ..) (small_one h1 h2 h3 h4) ?_
 have I1:Inv X pins σ H { s with heap:=s.heap.push { cls:=.type "range",data:=.fields #[.int lo t,.int hi u,.int 1 v] },toks:=tk }:=I.kept fun b o e=>zC _ e
 refine⟨(s.heap.push { cls:=.type "range",data:=.fields #[.int lo t,.int hi u,.int 1 v] }).objs.size,[(s.heap.push { cls:=.type "range",data:=.fields #[.int lo t,.int hi u,.int 1 v] }).objs.size],_,_,H,rfl,
  I1.kept (t':=tk) fun b o e=>zC _ e,turn_range _ lo (hi-lo).toNat,?_,fun b hb=>?_,q⟩
 ·have e1:lo+((0:Nat):Int) * 1=lo:=by simp
  have e2:(((hi-lo).toNat:Nat):Int)-((0:Nat):Int)=Builtin.Range.rangeSize lo hi 1:=by rw[rangeSize_one];split <;> lia
  show IsRangeIter _ _ (lo+((0:Nat):Int) * 1) ((((hi-lo).toNat:Nat):Int)-((0:Nat):Int)) 1
  rw[e1,e2]
  exact zV _ rfl
 ·have e:b=(s.heap.push { cls:=.type "range",data:=.fields #[.int lo t,.int hi u,.int 1 v] }).objs.size:=by simpa using hb
  subst e
  exact I1.fpOk (zJ _) (I1.hok.fresh (zJ _))
noncomputable def iRng1(ta:TA):TI:=fun σ H R=>ta σ H fun vs H1=>∃ j:Int,vs=[.int j]/\-(2 ^ 62)<=j/\j<2 ^ 62/\R (Itr 0 j.toNat) H1
noncomputable def iRng2(ta:TA):TI:=fun σ H R=>ta σ H fun vs H1=>∃ i j:Int,vs=[.int i,.int j]/\(-(2 ^ 62)<=i/\i<2 ^ 62/\-(2 ^ 62)<=j/\j<2 ^ 62)/\R (Itr i (j-i).toNat) H1
theorem pi_range1{a:Expr}{ta:TA}{p pos:Pos}(hg:Gl X "range")(hm:X.mg "range" = none)(ha:PA X [a] ta)(hs:starEach [a] X.env=[(false,eval a X.env)]:=by rfl):PI X tg (.Call (.Name "range" p) [a] [] pos) (iRng1 ta):=by
 intro pins s σ H R I h
 refine Call_ (ld_blt I hg hm boot_range (PyProof.Rows.callWith_type1 (thn (ha pos pins s σ H _ I h) fun us s1 ⟨vs,H1,I1,r1,q1⟩=>?_) hs rfl))
 obtain⟨j,e,q1,q2,q⟩:=q1
 subst e
 cases r1 with
 |cons r rr =>
  cases rr
  obtain⟨t,rfl⟩:=r
  exact call_range_1 (range_it I1 (by lia) (by lia) q1 q2 (by simpa using q))
theorem pi_range2{a b:Expr}{ta:TA}{p pos:Pos}(hg:Gl X "range")(hm:X.mg "range" = none)(ha:PA X [a,b] ta)(hs:starEach [a,b] X.env=[(false,eval a X.env),(false,eval b X.env)]:=by rfl)(hs2:starEach [b] X.env=[(false,eval b X.env)]:=by rfl) :
  PI X tg (.Call (.Name "range" p) [a,b] [] pos) (iRng2 ta):=by
 intro pins s σ H R I h
 refine Call_ (ld_blt I hg hm boot_range (PyProof.Rows.callWith_type1 (thn (ha pos pins s σ H _ I h) fun us s1 ⟨vs,H1,I1,r1,q1⟩=>?_) (by rw[hs,hs2]) (by rw[hs2];rfl)))
 obtain⟨i,j,e,⟨q1,q2,q3,q4⟩,q⟩:=q1
 subst e
 cases r1 with
 |cons r rr =>
  cases rr with
  |cons r' rr =>
   cases rr
   obtain⟨t,rfl⟩:=r
   obtain⟨t',rfl⟩:=r'
   exact call_range_2 (range_it I1 q1 q2 q3 q4 q)
noncomputable def tFor(wi:TI)(g:TG)(tb:TS):TS:=fun D σ H=>wi σ H fun J H1=>∃ W:Nat->Nat->St->Hp->Prop,(∃ m,W 0 m σ H1)/\∀ i m σ H,W i m σ H ->
 (J.stop i H/\D.nx σ H)\/(J.go i H/\∃ N:St->Hp->Prop,(∀ σ' H',N σ' H'->∃ m',m'<m/\W (i+1) m' σ' H')/\∀ x H',J.yld i H x H'->g x σ H' fun σ2 H2=>tb { D with nx:=N,ct:=N,bk:=D.nx } σ2 H2)
noncomputable def pinsAt(fp:List Addr)(h:Heap):List (Addr×Obj):=fp.filterMap fun b=>(h.get? b).map fun o=>(b,o)
theorem mem_pinsAt{fp:List Addr}{h:Heap}{b:Addr}{o:Obj}(hb:b∈fp)(e:h.get? b=some o):(b,o)∈pinsAt fp h:=List.mem_filterMap.mpr ⟨b,hb,by rw[e];rfl⟩
theorem of_pinsAt{fp:List Addr}{h:Heap}{p:Addr×Obj}(hp:p∈pinsAt fp h):p.1∈fp/\h.get? p.1=some p.2:=by
 obtain⟨b,hb,e⟩:=List.mem_filterMap.mp hp
 cases q:h.get? b with
 |none=>rw[q]at e;cases e
 |some o =>
  rw[q]at e
  have e':(b,o)=p:=Option.some.inj e
  subst e'
  exact⟨hb,q⟩
theorem Inv.pinned{pins:List (Addr×Obj)}{σ:St}{H:Hp}{s:Shared}{fp:List Addr}(I:Inv X pins σ H s)(hf:∀ b∈fp,FpOk X pins H b)(ho:∀ b∈fp,∃ o,s.heap.get? b=some o/\∀ v,o.data≠.cell v):Inv X (pins++pinsAt fp s.heap) σ H s :=
 I.pins_of fun p hp=>(zX.mp hp).elim (fun z=>I.pin p (zL _ z)) fun z=>by
  obtain⟨hb,e⟩:=of_pinsAt z
  obtain⟨f0,f1,f2,_⟩:=hf p.1 hb
  obtain⟨o,e',d⟩:=ho p.1 hb
  rw[e]at e';cases e'
  exact⟨e,f0,f1,f2,d⟩
theorem Inv.unpinned{pins pl:List (Addr×Obj)}{σ:St}{H:Hp}{s:Shared}(I:Inv X (pins++pl) σ H s):Inv X pins σ H s:=I.pins_of fun p hp=>I.pin p (zL _ (zAQ _ hp))
theorem ps_for{iter:Expr}{body:List Stmt}{wi:TI}{g:TG}{tb:TS}{pos:Pos}(hp:PassesOwn (model X.prog X.w) X.A X.env X.xe)(hc:X.calm=true)(hi:PI X tg iter wi)(hg:PG X tg g)(hb:PSs X body tb)
  (hs:∀ x,foldedSetIterable iter X.env x=pure x:=by intro _;rfl):PS X (.For tg iter body [] pos) (tFor wi g tb):=by
 intro pins s σ H D I h
 refine wpAny_For (thn (hi pins s σ H _ I h) fun v s1 h1=>thn h1 fun itv s2 h2=>?_) hs
 obtain⟨it,fp,tn,J,H2,e,I2,T,st2,f2,W,⟨m0,w0⟩,turn⟩:=h2
 subst e
 -- what stays true of the iterator's objects through the loop
 have stat:∀ {H':Hp},(∀ b∈fp,H' b=none)->∀ b∈fp,FpOk X pins H' b:=fun hn b hb=>⟨hn b hb,(f2 b hb).2⟩
 refine codeAny_forLoop_any (fun n s'=>∃ i σ' H',Inv X pins σ' H' s'/\tn i s'.heap/\(∀ b∈fp,H' b=none)/\W i n σ' H') ?_ m0 ⟨0,σ,H2,I2,st2,fun b hb=>(f2 b hb).1,w0⟩
 rintro n s3 ⟨i,σ3,H3,I3,st3,fr3,w3⟩
 rcases turn i n σ3 H3 w3 with⟨stop,qn⟩ |⟨go,N,hN,step⟩
 ·refine wpAny_passesOwn hp (thn (T.done X rfl rfl rfl hc i pins s3 σ3 H3 X.xe I3 (stat fr3) st3 stop) fun r s4 ⟨hr,I4⟩=>?_)
  subst hr
  exact wpAny_execs_nil ⟨σ3,H3,I4,qn⟩
 ·refine wpAny_passesOwn hp (thn (T.item X rfl rfl rfl hc i pins s3 σ3 H3 X.xe I3 (stat fr3) st3 go) fun r s4 ⟨u,hr,h4⟩=>?_)
  subst hr
  refine wpAny_passesOwn hp (thn h4 fun _ s5 ⟨x,H5,I5,r5,y5,st5,fr5⟩=>?_)
  have I5':=I5.pinned (stat fr5) (T.obj _ _ st5)
  refine wpAny_passesOwn hp (thn (hg _ s5 σ3 H5 x u _ I5' r5 (step x H5 y5)) fun _ s6 ⟨σ6,H6,I6,q6⟩=>?_)
  refine wpAny_passesOwn hp (thn (hb _ s6 σ6 H6 _ I6 q6) fun f s7 q7=>?_)
  have again:∀ {σ7:St}{H7:Hp},Inv X (pins++pinsAt fp s5.heap) σ7 H7 s7->N σ7 H7->∃ m,m<n/\∃ i σ' H',Inv X pins σ' H' s7/\tn i s7.heap/\(∀ b∈fp,H' b=none)/\W i m σ' H':=fun {σ7 H7} I7 n7=>by
   obtain⟨m',hm,w7⟩:=hN σ7 H7 n7
   refine⟨m',hm,i+1,σ7,H7,I7.unpinned,T.keep _ _ _ st5 fun b hb o e=>(I7.pin (b,o) (zL _ (zL _ (mem_pinsAt hb e)))).1,fun b hb=>?_,w7⟩
   obtain⟨o,e,d⟩:=T.obj _ _ st5 b hb
   exact(I7.pin (b,o) (zL _ (zL _ (mem_pinsAt hb e)))).2.1
  cases f with
  |next=>obtain⟨σ7,H7,I7,n7⟩:=q7;exact again I7 n7
  |cont=>obtain⟨σ7,H7,I7,n7⟩:=q7;exact again I7 n7
  |brk=>obtain⟨σ7,H7,I7,q7⟩:=q7;exact⟨σ7,H7,I7.unpinned,q7⟩
  |ret v=>obtain⟨x7,σ7,H7,I7,r7,q7⟩:=q7;exact⟨x7,σ7,H7,I7.unpinned,r7,q7⟩
end
theorem for_list{K:PySem.W.Frag}{a:Addr}{xs:List V}{g:TG}{tb:TS}{D:Ends}{σ:St}{H:Hp}(Pv:Nat->St->Hp->Prop)(h0:Pv 0 σ H)(hl:∀ i σ H,i<=xs.length->Pv i σ H->SqL K H a xs)
  (hs:∀ i x σ H,xs[i]?=some x->Pv i σ H->g x σ H fun σ2 H2=>tb { D with nx:=Pv (i+1),ct:=Pv (i+1),bk:=D.nx } σ2 H2) (hd:∀ σ H,Pv xs.length σ H->D.nx σ H) :
  ∃ W:Nat->Nat->St->Hp->Prop,(∃ m,W 0 m σ H)/\∀ i m σ H,W i m σ H ->
   ((Itl K a).stop i H/\D.nx σ H)\/((Itl K a).go i H/\∃ N:St->Hp->Prop,(∀ σ' H',N σ' H'->∃ m',m'<m/\W (i+1) m' σ' H')/\∀ x H',(Itl K a).yld i H x H'->g x σ H' fun σ2 H2=>tb { D with nx:=N,ct:=N,bk:=D.nx } σ2 H2):=by
 refine⟨fun i m σ H=>m=xs.length-i/\i<=xs.length/\Pv i σ H,⟨xs.length,by simp,zAT _,h0⟩,?_⟩
 rintro i m σ H ⟨rfl,hi,p⟩
 have q:=hl i σ H hi p
 by_cases hlt:i<xs.length
 ·refine .inr ⟨⟨xs,xs[i],q,by simp[hlt]⟩,Pv (i+1),fun σ' H' p'=>⟨xs.length-(i+1),by omega,rfl,hlt,p'⟩,fun x H' y=>?_⟩
  obtain⟨e,y⟩:=y
  subst e
  exact hs i x σ _ (y xs q) p
 ·have e:i=xs.length:=by exact zj7 hi hlt
  subst e
  exact .inl ⟨⟨xs,q,zJ _⟩,hd σ H p⟩
theorem for_tup{K:PySem.W.Frag}{a:Addr}{xs:List V}{g:TG}{tb:TS}{D:Ends}{σ:St}{H:Hp}(Pv:Nat->St->Hp->Prop)(h0:Pv 0 σ H)(hl:∀ i σ H,i<=xs.length->Pv i σ H->SqT K H a xs)
  (hs:∀ i x σ H,xs[i]?=some x->Pv i σ H->g x σ H fun σ2 H2=>tb { D with nx:=Pv (i+1),ct:=Pv (i+1),bk:=D.nx } σ2 H2) (hd:∀ σ H,Pv xs.length σ H->D.nx σ H) :
  ∃ W:Nat->Nat->St->Hp->Prop,(∃ m,W 0 m σ H)/\∀ i m σ H,W i m σ H ->
   ((Itt K a).stop i H/\D.nx σ H)\/((Itt K a).go i H/\∃ N:St->Hp->Prop,(∀ σ' H',N σ' H'->∃ m',m'<m/\W (i+1) m' σ' H')/\∀ x H',(Itt K a).yld i H x H'->g x σ H' fun σ2 H2=>tb { D with nx:=N,ct:=N,bk:=D.nx } σ2 H2):=by
 refine⟨fun i m σ H=>m=xs.length-i/\i<=xs.length/\Pv i σ H,⟨xs.length,by simp,zAT _,h0⟩,?_⟩
 rintro i m σ H ⟨rfl,hi,p⟩
 have q:=hl i σ H hi p
 by_cases hlt:i<xs.length
 ·refine .inr ⟨⟨xs,xs[i],q,by simp[hlt]⟩,Pv (i+1),fun σ' H' p'=>⟨xs.length-(i+1),by omega,rfl,hlt,p'⟩,fun x H' y=>?_⟩
  obtain⟨e,y⟩:=y
  subst e
  exact hs i x σ _ (y xs q) p
 ·have e:i=xs.length:=by exact zj7 hi hlt
  subst e
  exact .inl ⟨⟨xs,q,zJ _⟩,hd σ H p⟩
theorem for_range{lo:Int}{n:Nat}{g:TG}{tb:TS}{D:Ends}{σ:St}{H:Hp}(Pv:Nat->St->Hp->Prop)(h0:Pv 0 σ H)
  (hs:∀ i σ H,i<n->Pv i σ H->g (.int (lo+i)) σ H fun σ2 H2=>tb { D with nx:=Pv (i+1),ct:=Pv (i+1),bk:=D.nx } σ2 H2) (hd:∀ σ H,Pv n σ H->D.nx σ H) :
  ∃ W:Nat->Nat->St->Hp->Prop,(∃ m,W 0 m σ H)/\∀ i m σ H,W i m σ H ->
   ((Itr lo n).stop i H/\D.nx σ H)\/((Itr lo n).go i H/\∃ N:St->Hp->Prop,(∀ σ' H',N σ' H'->∃ m',m'<m/\W (i+1) m' σ' H')/\∀ x H',(Itr lo n).yld i H x H'->g x σ H' fun σ2 H2=>tb { D with nx:=N,ct:=N,bk:=D.nx } σ2 H2):=by
 refine⟨fun i m σ H=>m=n-i/\i<=n/\Pv i σ H,⟨n,by simp,zAT _,h0⟩,?_⟩
 rintro i m σ H ⟨rfl,hi,p⟩
 by_cases hlt:i<n
 ·refine .inr ⟨hlt,Pv (i+1),fun σ' H' p'=>⟨n-(i+1),by omega,rfl,hlt,p'⟩,fun x H' y=>?_⟩
  obtain⟨e,y⟩:=y
  subst e y
  exact hs i σ _ hlt p
 ·have e:i=n:=by lia
  subst e
  exact .inl ⟨zJ _,hd σ H p⟩
open PySem PySem.Spec PyProof.Rows
noncomputable abbrev R2:=V->V->Hp->VK->Prop
noncomputable def OpR(X:Cx)(f:Value->Value->Sem Value)(r:R2):Prop :=
 ∀ (pins:List (Addr×Obj)) (s:Shared) (σ:St) (H:Hp) (x y:V) (v u:Value) (Q:VK),Inv X pins σ H s->RelV x v->RelV y u->r x y H Q ->
  wpAny (model X.prog X.w) X.A (f v u) (EP X pins σ Q) X.xe s
noncomputable def UnR(X:Cx)(f:Value->Sem Value)(r:V->Hp->VK->Prop):Prop :=
 ∀ (pins:List (Addr×Obj)) (s:Shared) (σ:St) (H:Hp) (x:V) (v:Value) (Q:VK),Inv X pins σ H s->RelV x v->r x H Q ->
  wpAny (model X.prog X.w) X.A (f v) (EP X pins σ Q) X.xe s
noncomputable def CallR(X:Cx)(f:Value)(r:List V->Hp->VK->Prop):Prop :=
 ∀ (pins:List (Addr×Obj)) (s:Shared) (σ:St) (H:Hp) (xs:List V) (us:List Value) (Q:VK),Inv X pins σ H s->Vals xs us->r xs H Q ->
  wpAny (model X.prog X.w) X.A (call f us) (EP X pins σ Q) X.xe s
noncomputable def TruR(X:Cx)(r:V->Hp->(Bool->Hp->Prop)->Prop):Prop :=
 ∀ (pins:List (Addr×Obj)) (s:Shared) (σ:St) (H:Hp) (x:V) (v:Value) (Q:Bool->Hp->Prop),Inv X pins σ H s->RelV x v->r x H Q ->
  wpAny (model X.prog X.w) X.A (truthy v) (TP X pins σ Q) X.xe s
noncomputable def tOp(r:R2)(ta tb:TE):TE:=fun σ H Q=>ta σ H fun x H1=>tb σ H1 fun y H2=>r x y H2 Q
noncomputable def tUn(r:V->Hp->VK->Prop)(ta:TE):TE:=fun σ H Q=>ta σ H fun x H1=>r x H1 Q
inductive rII(C:Int->Int->Prop)(g:Int->Int->V)(x:V)(y:V)(H:Hp)(Q:VK):Prop where
 |mk (i:_) (j:_) (h1:x = .int i) (h2:y = .int j) (h3:C i j) (h4:Q (g i j) H)
noncomputable def rI(C:Int->Int->Prop)(g:Int->Int->V):R2:=fun x y H Q=>rII C g x y H Q
inductive rI0I(g:Int->Int->V)(x:V)(y:V)(H:Hp)(Q:VK):Prop where
 |mk (i:_) (j:_) (h1:x = .int i) (h2:y = .int j) (h3:Q (g i j) H)
noncomputable def rI0(g:Int->Int->V):R2:=fun x y H Q=>rI0I g x y H Q
inductive rUI(g:Int->V)(x:V)(H:Hp)(Q:VK):Prop where
 |mk (i:_) (h1:x = .int i) (h2:Q (g i) H)
noncomputable def rU(g:Int->V):V->Hp->VK->Prop:=fun x H Q=>rUI g x H Q
section
variable{X:Cx}{a b c:Expr}{ta tb tc:TE}{pos:Pos}
theorem binT(ha:PE X a ta)(hb:PE X b tb){pins:List (Addr×Obj)}{s:Shared}{σ:St}{H:Hp}{R:V->V->Hp->Prop}(I:Inv X pins σ H s)
  (h:ta σ H fun x H1=>tb σ H1 fun y H2=>R x y H2) {Q:Value->Shared->Prop}{f:Value->Value->Sem Value}
  (hf:∀ v u s2 x y H2,Inv X pins σ H2 s2->RelV x v->RelV y u->R x y H2->wpAny (model X.prog X.w) X.A (f v u) Q X.xe s2) :
  wpAny (model X.prog X.w) X.A (eval a X.env) (fun v s₁=>wpAny (model X.prog X.w) X.A (eval b X.env) (fun u s₂=>wpAny (model X.prog X.w) X.A (f v u) Q X.xe s₂) X.xe s₁) X.xe s:=by
 refine thn (ha pins s σ H _ I h) fun v s1 ⟨x,H1,I1,r1,q1⟩=>?_
 refine thn (hb pins s1 σ H1 _ I1 q1) fun u s2 ⟨y,H2,I2,r2,q2⟩=>?_
 exact hf v u s2 x y H2 I2 r1 r2 q2
theorem pe_op{op:Operator}{r:R2}(ho:OpR X (binaryOp op) r)(ha:PE X a ta)(hb:PE X b tb):PE X (.BinOp a op b pos) (tOp r ta tb):=by
 intro pins s σ H Q I h
 exact wpAny_BinOp (binT ha hb I h fun v u s2 x y H2 I2 rx ry q=>ho pins s2 σ H2 x y v u Q I2 rx ry q)
theorem pe_un{op:UnaryOp}{r:V->Hp->VK->Prop}(ho:UnR X (unaryOp op) r)(ha:PE X a ta):PE X (.UnaryOp op a pos) (tUn r ta):=by
 intro pins s σ H Q I h
 exact UnaryOp_ (thn (ha pins s σ H _ I h) fun v s1 ⟨x,H1,I1,r1,q1⟩=>ho pins s1 σ H1 x v Q I1 r1 q1)
theorem opI{f:Value->Value->Sem Value}{C:Int->Int->Prop}{g:Int->Int->Int}
  (rule:∀ (i j:Int) (t u:Tok) (s:Shared) (Q:Value->Shared->Prop) (E:Value->Shared->Prop),C i j->Q (.int (g i j) s.toks) { s with toks:=s.toks+1 }->wpAny (model X.prog X.w) X.A (f (.int i t) (.int j u)) Q E s) :
  OpR X f (rI C fun i j=>.int (g i j)):=by
 intro pins s σ H x y v u Q I rx ry h
 obtain⟨i,j,rfl,rfl,hc,q⟩:=h
 obtain⟨t,rfl⟩:=rx
 obtain⟨t',rfl⟩:=ry
 exact rule i j t t' s _ _ hc ⟨.int (g i j),H,I.tok _,⟨_,rfl⟩,q⟩
theorem opI0{f:Value->Value->Sem Value}{g:Int->Int->Int}
  (rule:∀ (i j:Int) (t u:Tok) (s:Shared) (Q:Value->Shared->Prop) (E:Value->Shared->Prop),Q (.int (g i j) s.toks) { s with toks:=s.toks+1 }->wpAny (model X.prog X.w) X.A (f (.int i t) (.int j u)) Q E s) :
  OpR X f (rI0 fun i j=>.int (g i j)):=by
 intro pins s σ H x y v u Q I rx ry h
 obtain⟨i,j,rfl,rfl,q⟩:=h
 obtain⟨t,rfl⟩:=rx
 obtain⟨t',rfl⟩:=ry
 exact rule i j t t' s _ _ ⟨.int (g i j),H,I.tok _,⟨_,rfl⟩,q⟩
theorem opB0{f:Value->Value->Sem Value}{g:Int->Int->Bool}
  (rule:∀ (i j:Int) (t u:Tok) (s:Shared) (Q:Value->Shared->Prop) (E:Value->Shared->Prop),Q (.bool (g i j)) s->wpAny (model X.prog X.w) X.A (f (.int i t) (.int j u)) Q E s) :
  OpR X f (rI0 fun i j=>.bl (g i j)):=by
 intro pins s σ H x y v u Q I rx ry h
 obtain⟨i,j,rfl,rfl,q⟩:=h
 obtain⟨t,rfl⟩:=rx
 obtain⟨t',rfl⟩:=ry
 exact rule i j t t' s _ _ ⟨.bl (g i j),H,I,rfl,q⟩
noncomputable def CDiv(i j:Int):Prop:=0<j/\j<1073741824
noncomputable def CPow(i j:Int):Prop:=0<=j/\j<=1000000/\i.natAbs<2 ^ 64
noncomputable def CMul(i j:Int):Prop:=(-(2 ^ 64)<i/\i<2 ^ 64)\/(-(2 ^ 64)<j/\j<2 ^ 64)
theorem CMul.ok{i j:Int}(h:CMul i j):IntMulOk i j:=by
 rcases h with⟨h1,h2⟩ |⟨h1,h2⟩
 ·exact .of_left (intBits_le_64 h1 h2)
 ·exact .of_right (intBits_le_64 h1 h2)
theorem op_add:OpR X (binaryOp .Add) (rI0 fun i j=>.int (i+j)):=opI0 fun _ _ _ _ _ _ _ q=>add_int q
theorem op_sub:OpR X (binaryOp .Sub) (rI0 fun i j=>.int (i-j)):=opI0 fun _ _ _ _ _ _ _ q=>sub_int q
theorem op_mul:OpR X (binaryOp .Mult) (rI CMul fun i j=>.int (i * j)):=opI fun _ _ _ _ _ _ _ hc q=>mul_int q hc.ok
theorem op_fdiv:OpR X (binaryOp .FloorDiv) (rI CDiv fun i j=>.int (i / j)):=opI fun i j _ _ _ _ _ hc q=>by
 have h1:(0:Int)<j:=hc.1
 have h2:j<1073741824:=hc.2
 exact floordiv_int (by lia) (by rw[Int.fdiv_eq_ediv_of_nonneg i (by lia)];exact q) (.inl (PyProof.noPylong_small (by omega)))
theorem op_mod:OpR X (binaryOp .Mod) (rI (fun _ j=>0<j) fun i j=>.int (i % j)):=opI fun i j _ _ _ _ _ hc q=>by
 have h1:(0:Int)<j:=hc
 exact mod_int' (by lia) (by rw[Int.fmod_eq_emod_of_nonneg i (by lia)];exact q)
theorem op_pow:OpR X (binaryOp .Pow) (rI CPow fun i j=>.int (i ^ j.toNat)):=opI fun _ _ _ _ _ _ _ hc q=>pow_int_small hc.1 hc.2.1 hc.2.2 q
theorem unI{f:Value->Sem Value}{g:Int->Int}
  (rule:∀ (i:Int) (t:Tok) (s:Shared) (Q:Value->Shared->Prop) (E:Value->Shared->Prop),Q (.int (g i) s.toks) { s with toks:=s.toks+1 }->wpAny (model X.prog X.w) X.A (f (.int i t)) Q E s) :
  UnR X f (rU fun i=>.int (g i)):=by
 intro pins s σ H x v Q I rx h
 obtain⟨i,rfl,q⟩:=h
 obtain⟨t,rfl⟩:=rx
 exact rule i t s _ _ ⟨.int (g i),H,I.tok _,⟨_,rfl⟩,q⟩
theorem un_neg:UnR X (unaryOp .USub) (rU fun i=>.int (-i)):=unI fun _ _ _ _ _ q=>neg_int q
end
noncomputable def scal:V->V->Bool
 | .non,.non=>true | .non,.int _=>true | .int _,.non=>true | .non,.bl _=>true | .bl _,.non=>true | .non,.str _=>true | .str _,.non=>true
 | .int _,.int _=>true | .bl _,.bl _=>true | .str _,.str _=>true | .byt _,.byt _=>true
 | .int _,.str _=>true | .str _,.int _=>true | .bl _,.str _=>true | .str _,.bl _=>true
 | _,_=>false
noncomputable def rEq:R2:=fun x y H Q=>scal x y=true/\Q (.bl (decide (x=y))) H
noncomputable def rNe:R2:=fun x y H Q=>scal x y=true/\Q (.bl (!decide (x=y))) H
theorem dec_int{i j:Int}:decide (V.int i=V.int j)=(i == j):=by
 rw[zCO]
 simp
theorem dec_bl{i j:Bool}:decide (V.bl i=V.bl j)=(i == j):=by
 rw[zCO]
 simp
theorem dec_str{i j:Str}:decide (V.str i=V.str j)=(i == j):=by
 rw[zCO]
 simp
theorem dec_byt{i j:Array UInt8}:decide (V.byt i=V.byt j)=(i.toList == j.toList):=by
 rw[zCO]
 cases i
 cases j
 simp
section
variable{X:Cx}{a b c:Expr}{ta tb tc:TE}{pos:Pos}
theorem fin_bl{pins:List (Addr×Obj)}{σ:St}{H:Hp}{s:Shared}{Q:VK}{k k':Bool}(I:Inv X pins σ H s)(q:Q (.bl k) H)(e:k=k'):EP X pins σ Q (.bool k') s:=by
 subst e
 exact⟨.bl k,H,I,rfl,q⟩
theorem op_eq:OpR X (compareOp .Eq) rEq:=by
 intro pins s σ H x y v u Q I rx ry h
 obtain⟨hs,q⟩:=h
 cases x with
 |non =>
  cases rx
  cases y with
  |non=>cases ry;exact PySem.EqNone.eq_none_none (fin_bl I q (by simp))
  |bl j=>cases ry;exact PySem.EqNone.eq_none_bool (fin_bl I q (by simp))
  |int j=>obtain⟨t',rfl⟩:=ry;exact PySem.EqNone.eq_none_int (fin_bl I q (by simp))
  |str j=>obtain⟨t',rfl⟩:=ry;exact PySem.EqNone.eq_none_str (fin_bl I q (by simp))
  | _=>exact absurd (show false=true from hs) zT
 |bl i =>
  cases rx
  cases y with
  |non=>cases ry;exact PySem.EqNone.eq_bool_none (fin_bl I q (by simp))
  |bl j=>cases ry;exact eq_bool (fin_bl I q dec_bl)
  |str j=>obtain⟨t',rfl⟩:=ry;exact PySem.EqMixed.eq_bool_str (fin_bl I q (by simp))
  | _=>exact absurd (show false=true from hs) zT
 |int i =>
  obtain⟨t,rfl⟩:=rx
  cases y with
  |non=>cases ry;exact PySem.EqNone.eq_int_none (fin_bl I q (by simp))
  |int j=>obtain⟨t',rfl⟩:=ry;exact eq_int (fin_bl I q dec_int)
  |str j=>obtain⟨t',rfl⟩:=ry;exact PySem.EqMixed.eq_int_str (fin_bl I q (by simp))
  | _=>exact absurd (show false=true from hs) zT
 |str i =>
  obtain⟨t,rfl⟩:=rx
  cases y with
  |non=>cases ry;exact PySem.EqNone.eq_str_none (fin_bl I q (by simp))
  |bl j=>cases ry;exact PySem.EqMixed.eq_str_bool (fin_bl I q (by simp))
  |int j=>obtain⟨t',rfl⟩:=ry;exact PySem.EqMixed.eq_str_int (fin_bl I q (by simp))
  |str j=>obtain⟨t',rfl⟩:=ry;exact eq_str (fin_bl I q dec_str)
  | _=>exact absurd (show false=true from hs) zT
 |byt i =>
  obtain⟨t,rfl⟩:=rx
  cases y with
  |byt j=>obtain⟨t',rfl⟩:=ry;exact PySem.W.eq_bytes (fin_bl I q dec_byt)
  | _=>exact absurd (show false=true from hs) zT
 | _=>cases y <;> exact absurd (show false=true from hs) zT
theorem op_ne:OpR X (compareOp .NotEq) rNe:=by
 intro pins s σ H x y v u Q I rx ry h
 obtain⟨hs,q⟩:=h
 cases x with
 |non =>
  cases rx
  cases y with
  |non=>cases ry;exact PySem.EqNone.ne_none_none (fin_bl I q (by simp))
  |bl j=>cases ry;exact PySem.EqNone.ne_none_bool (fin_bl I q (by simp))
  |int j=>obtain⟨t',rfl⟩:=ry;exact PySem.EqNone.ne_none_int (fin_bl I q (by simp))
  |str j=>obtain⟨t',rfl⟩:=ry;exact PySem.EqNone.ne_none_str (fin_bl I q (by simp))
  | _=>exact absurd (show false=true from hs) zT
 |bl i =>
  cases rx
  cases y with
  |non=>cases ry;exact PySem.EqNone.ne_bool_none (fin_bl I q (by simp))
  |bl j=>cases ry;exact ne_bool (fin_bl I q (congrArg not dec_bl))
  |str j=>obtain⟨t',rfl⟩:=ry;exact PySem.EqMixed.ne_bool_str (fin_bl I q (by simp))
  | _=>exact absurd (show false=true from hs) zT
 |int i =>
  obtain⟨t,rfl⟩:=rx
  cases y with
  |non=>cases ry;exact PySem.EqNone.ne_int_none (fin_bl I q (by simp))
  |int j=>obtain⟨t',rfl⟩:=ry;exact ne_int (fin_bl I q (congrArg not dec_int))
  |str j=>obtain⟨t',rfl⟩:=ry;exact PySem.EqMixed.ne_int_str (fin_bl I q (by simp))
  | _=>exact absurd (show false=true from hs) zT
 |str i =>
  obtain⟨t,rfl⟩:=rx
  cases y with
  |non=>cases ry;exact PySem.EqNone.ne_str_none (fin_bl I q (by simp))
  |bl j=>cases ry;exact PySem.EqMixed.ne_str_bool (fin_bl I q (by simp))
  |int j=>obtain⟨t',rfl⟩:=ry;exact PySem.EqMixed.ne_str_int (fin_bl I q (by simp))
  |str j=>obtain⟨t',rfl⟩:=ry;exact ne_str (fin_bl I q (congrArg not dec_str))
  | _=>exact absurd (show false=true from hs) zT
 |byt i =>
  obtain⟨t,rfl⟩:=rx
  cases y with
  |byt j=>obtain⟨t',rfl⟩:=ry;exact PySem.W.ne_bytes (fin_bl I q (congrArg not dec_byt))
  | _=>exact absurd (show false=true from hs) zT
 | _=>cases y <;> exact absurd (show false=true from hs) zT
theorem op_lt:OpR X (compareOp .Lt) (rI0 fun i j=>.bl (decide (i<j))):=opB0 fun _ _ _ _ _ _ _ q=>lt_int q
theorem op_gt:OpR X (compareOp .Gt) (rI0 fun i j=>.bl (decide (j<i))):=opB0 fun _ _ _ _ _ _ _ q=>gt_int q
theorem op_ge:OpR X (compareOp .GtE) (rI0 fun i j=>.bl (decide (j<=i))):=opB0 fun _ _ _ _ _ _ _ q=>ge_int q
theorem nomark(b:Expr){op:CmpOp}(h:op≠.In:=by decide)(h2:op≠.NotIn:=by decide):behindInMarks op b=false:=by
 have e1:(op == CmpOp.In)=false:=by cases op <;> first | rfl | exact absurd rfl h
 have e2:(op == CmpOp.NotIn)=false:=by cases op <;> first | rfl | exact absurd rfl h2
 cases b <;> simp[behindInMarks,e1,e2]
theorem pe_cmpR{op:CmpOp}{r:R2}(ho:OpR X (compareOp op) r)(ha:PE X a ta)(hb:PE X b tb)(hm:behindInMarks op b=false):PE X (.Compare a [op] [b] pos) (tOp r ta tb):=by
 intro pins s σ H Q I h
 exact wpAny_Compare1 (binT ha hb I h fun v u s2 x y H2 I2 rx ry q=>ho pins s2 σ H2 x y v u Q I2 rx ry q) hm
noncomputable def tTest(t:TE):TT:=fun σ H Q=>t σ H fun x H'=>ExB x fun k=>Q k H'
theorem pt_cmpR{op:CmpOp}{r:R2}(ho:OpR X (compareOp op) r)(ha:PE X a ta)(hb:PE X b tb)(hm:behindInMarks op b=false):PT X (.Compare a [op] [b] pos) (tTest (tOp r ta tb)):=by
 intro pins s σ H Q I h
 refine wpAny_isTrue_Compare1 (thn (ha pins s σ H _ I h) fun v s1 ⟨x,H1,I1,r1,q1⟩=>thn (hb pins s1 σ H1 _ I1 q1) fun u s2 ⟨y,H2,I2,r2,q2⟩ =>
  thn (ho pins s2 σ H2 x y v u _ I2 r1 r2 q2) fun c s3 ⟨z,H3,I3,r3,k,e,q3⟩=>?_) hm
 subst e
 cases r3
 exact wpAny_truthy_bool ⟨H3,I3,q3⟩
noncomputable def TruV(K:PySem.W.Frag)(x:V)(H:Hp)(k:Bool):Prop :=
 match x with
 | .non=>k=false
 | .bl b=>k=b
 | .int i=>k=(i != 0)
 | .str y=>y.length<=sizeLine/\k=((y.length:Int) != 0)
 | .byt y=>y.size<=sizeLine/\k=((y.size:Int) != 0)
 | .ref p=>(∃ xs,SqL K H p xs/\k = !xs.isEmpty)\/(∃ xs,SqT K H p xs/\k = !xs.isEmpty)\/∃ kvs,H p=some (.dK kvs)/\k = !kvs.isEmpty
 | _=>False
theorem isEmpty_kv{κ:Type}{kvs:List (κ×V)}{vs:List (κ×Value)}(r:KV kvs vs):(!vs.isEmpty) = !kvs.isEmpty:=by
 cases r <;> rfl
theorem isEmpty_of{xs:List V}{its:List Value}(r:Vals xs its):(!its.toArray.isEmpty) = !xs.isEmpty:=by
 cases r <;> simp
theorem line63:(sizeLine:Nat)<2 ^ 63:=by rw[sizeLine_eq];decide
theorem tru_ok:TruR X (fun x H Q=>∃ k,TruV X.K x H k/\Q k H):=by
 intro pins s σ H x v Q I rx h
 obtain⟨k,e,q⟩:=h
 have hl:=line63
 have hs:sizeLine=16777216:=sizeLine_eq
 cases x with
 |non =>
  cases rx
  have e':k=false:=e
  subst e'
  exact truthy_none ⟨H,I,q⟩
 |bl b =>
  cases rx
  have e':k=b:=e
  subst e'
  exact wpAny_truthy_bool ⟨H,I,q⟩
 |int i =>
  obtain⟨t,rfl⟩:=rx
  have e':k=(i != 0):=e
  subst e'
  exact PySem.P.truthy_int ⟨H,I,q⟩
 |str y =>
  obtain⟨t,rfl⟩:=rx
  obtain⟨hy,e'⟩:y.length<=sizeLine/\k=((y.length:Int) != 0):=e
  subst e'
  exact PySem.P.truthy_str (by lia) ⟨H,I.tok _,q⟩
 |byt y =>
  obtain⟨t,rfl⟩:=rx
  obtain⟨hy,e'⟩:y.size<=sizeLine/\k=((y.size:Int) != 0):=e
  subst e'
  exact PySem.W.truthy_bytes (by lia) ⟨H,I.tok _,q⟩
 |ref p =>
  cases rx
  have e':(∃ xs,SqL X.K H p xs/\k = !xs.isEmpty)\/(∃ xs,SqT X.K H p xs/\k = !xs.isEmpty)\/∃ kvs,H p=some (.dK kvs)/\k = !kvs.isEmpty:=e
  rcases e' with⟨xs,hx,e'⟩ |⟨xs,hx,e'⟩ |⟨kvs,hx,e'⟩
  ·subst e'
   obtain⟨its,r,pl,hz⟩:=I.list hx
   have hlen:=r.length
   exact wpAny_truthy_list pl.isList (by simp only[zY];lia) ⟨H,I.tok _,by rw[isEmpty_of r];exact q⟩
  ·subst e'
   obtain⟨its,r,pl,hz⟩:=I.tuple hx
   have hlen:=r.length
   exact truthy_tuple pl (by simp only[zY];lia) ⟨H,I.tok _,by rw[isEmpty_of r];exact q⟩
  ·subst e'
   obtain⟨hz,hS,vs,r,m⟩:kvs.length<=sizeLine/\(p == sysModules)=false/\∃ vs,KV kvs vs/\s.heap.DictOf (mixKind X.prog X.w) p vs:=I.hok p _ hx
   have hlen:kvs.length=vs.length:=Paired.length r
   exact wpAny_truthy_dict hS m (by lia) ⟨H,I.tok _,by rw[isEmpty_kv r];exact q⟩
 | _=>exact(show False from e).elim
theorem pt_truth(ha:PE X a ta)(he:∀ whole,isTrue a X.env whole=(do let v <- whole;standAt a.pos;holding [v] (truthy v))) :
  PT X a (fun σ H Q=>ta σ H fun x H'=>∃ k,TruV X.K x H' k/\Q k H'):=by
 intro pins s σ H Q I h
 exact isTrue_plain (thn (ha pins s σ H _ I h) fun v s1 ⟨x,H1,I1,r1,q1⟩=>tru_ok pins s1 σ H1 x v Q I1 r1 q1) (he _)
theorem vals1{x:V}{us:List Value}(r:Vals [x] us):∃ u,us=[u]/\RelV x u:=by
 cases r with
 |cons r1 r2=>cases r2;exact⟨_,rfl,r1⟩
theorem vals2{x y:V}{us:List Value}(r:Vals [x,y] us):∃ u w',us=[u,w']/\RelV x u/\RelV y w':=by
 cases r with
 |cons r1 r2 =>
  cases r2 with
  |cons r3 r4=>cases r4;exact⟨_,_,rfl,r1,r3⟩
theorem call_abs:CallR X (.builtin "abs") (fun xs H Q=>∃ i,xs=[.int i]/\Q (.int (if i<0 then -i else i)) H):=by
 intro pins s σ H xs us Q I r h
 obtain⟨i,rfl,q⟩:=h
 obtain⟨u,rfl,t,rfl⟩:=vals1 r
 exact call_abs_int fun u tk=>⟨.int (if i<0 then -i else i),H,I.tok _,⟨_,rfl⟩,q⟩
theorem call_max2(hc:X.calm=true):CallR X (.builtin "max") (fun xs H Q=>∃ i j,xs=[.int i,.int j]/\Q (.int (if j > i then j else i)) H):=by
 intro pins s σ H xs us Q I r h
 obtain⟨i,j,rfl,q⟩:=h
 obtain⟨u,w',rfl,⟨t,rfl⟩,⟨t',rfl⟩⟩:=vals2 r
 refine max_two_ints (I.ok.hd hc) fun h' tk k=>⟨_,H,I.kept k,?_,q⟩
 by_cases hj:j > i
 ·rw[if_pos hj,if_pos hj];exact⟨_,rfl⟩
 ·rw[if_neg hj,if_neg hj];exact⟨_,rfl⟩
theorem call_min2(hc:X.calm=true):CallR X (.builtin "min") (fun xs H Q=>∃ i j,xs=[.int i,.int j]/\Q (.int (if j<i then j else i)) H):=by
 intro pins s σ H xs us Q I r h
 obtain⟨i,j,rfl,q⟩:=h
 obtain⟨u,w',rfl,⟨t,rfl⟩,⟨t',rfl⟩⟩:=vals2 r
 refine min_two_ints (I.ok.hd hc) fun h' tk k=>⟨_,H,I.kept k,?_,q⟩
 by_cases hj:j<i
 ·rw[if_pos hj,if_pos hj];exact⟨_,rfl⟩
 ·rw[if_neg hj,if_neg hj];exact⟨_,rfl⟩
theorem call_int1:CallR X (.type "int") (fun xs H Q=>(∃ i,xs=[.int i]/\Q (.int i) H)\/∃ k,xs=[.bl k]/\Q (.int (if k then 1 else 0)) H):=by
 intro pins s σ H xs us Q I r h
 rcases h with⟨i,rfl,q⟩ |⟨k,rfl,q⟩
 ·obtain⟨u,rfl,t,rfl⟩:=vals1 r
  exact call_int_int ⟨.int i,H,I,⟨_,rfl⟩,q⟩
 ·obtain⟨u,rfl,r1⟩:=vals1 r
  cases r1
  exact call_int_bool ⟨.int (if k then 1 else 0),H,I.tok _,⟨_,rfl⟩,q⟩
end
open PySem PySem.Spec PyProof.Rows
theorem RelO.some_of{v:V}{o:Option Value}(r:RelO (some v) o):∃ u,o=some u/\RelV v u:=by
 cases o with
 |none=>exact(show False from r).elim
 |some u=>exact⟨u,rfl,r⟩
open PySem PySem.Spec PyProof.Rows
theorem deep_gd{A:Around}{env:Env}(h:A.guards=some []):(A.deeper env).guards=some []:=by
 first | exact h | simp[Around.deeper,h]
structure Room(k:Nat)(A:Around):Prop where
 hd:A.handled=none
 dp:A.depth+3 * k+5<recursionLimit
 un:A.units+16 * k+200<cLine
 gd:A.guards=some []
theorem Room.mono{j k:Nat}{A:Around}(r:Room k A)(h:j<=k):Room j A:=⟨r.hd,by have:=r.dp;lia,by have:=r.un;lia,r.gd⟩
theorem Room.deeper{k:Nat}{A:Around}(r:Room (k+1) A)(env:Env):Room k (A.deeper env) :=
 ⟨r.hd,by have:=r.dp;show A.depth+1+3 * k+5<_;lia,by have:=r.un;show A.units+3+16 * k+200<_;lia,deep_gd r.gd⟩
theorem Room.depth{k:Nat}{A:Around}(r:Room k A):A.depth<recursionLimit:=by have:=r.dp;lia
theorem Room.units{k:Nat}{A:Around}(r:Room k A):A.units+64<cLine:=by have:=r.un;lia
theorem Room.units0{k:Nat}{A:Around}(r:Room k A):A.units<cLine:=by have:=r.un;lia
noncomputable def tNil:TA:=fun _ H Q=>Q [] H
noncomputable def tCons(ta:TE)(tr:TA):TA:=fun σ H Q=>ta σ H fun x H1=>tr σ H1 fun xs H2=>Q (x :: xs) H2
section
variable{X:Cx}{e:Expr}{es:List Expr}{te:TE}{t:TA}{pos:Pos}
theorem yab:PA X [] tNil:=fun _ _ _ _ H Q I h=>Calls.spliced_nil ⟨[],H,I,.nil,h⟩
theorem pa_cons(ha:PE X e te)(hr:PA X es t)(hs:starEach (e :: es) X.env=(false,eval e X.env) :: starEach es X.env:=by rfl):PA X (e :: es) (tCons te t):=by
 intro pos pins s σ H Q I h
 rw[hs]
 show wpAny _ _ (spliced ((false,eval e X.env) :: backTo pos (starEach es X.env))) _ _ s
 refine Calls.spliced_cons (thn (ha pins s σ H _ I h) fun u s1 ⟨x,H1,I1,r1,q1⟩=>?_)
 exact thn (hr pos pins s1 σ H1 _ I1 q1) fun us s2 ⟨xs,H2,I2,r2,q2⟩=>⟨x :: xs,H2,I2,.cons r1 r2,q2⟩
noncomputable def tTup(t:TA):TE:=fun σ H Q=>t σ H fun xs H1=>xs.length<=sizeLine/\∀ p,H1 p=none->Q (.ref p) (upd H1 p (.tup xs))
noncomputable def tLst(t:TA):TE:=fun σ H Q=>t σ H fun xs H1=>xs.length<=sizeLine/\∀ p,H1 p=none->Q (.ref p) (upd H1 p (.lst xs))
theorem pe_tup{x1}(h:PA X es t):PE X (.Tuple es x1 pos) (tTup t):=by
 intro pins s σ H Q I hq
 refine wpAny_Tuple_spliced (thn (h pos pins s σ H _ I hq) fun us s1 ⟨xs,H1,I1,r,z,q⟩=>⟨by rw[<- r.length];exact z,?_⟩)
 have hf:H1 s1.heap.objs.size=none:=I1.hok.fresh (zJ _)
 refine⟨.ref s1.heap.objs.size,upd H1 s1.heap.objs.size (.tup xs),I1.laid (t':=s1.toks) (fun b u e=>zC _ e) (zJ _) ?_,rfl,q _ hf⟩
 exact⟨z,us,r,⟨_,zV _ rfl,rfl,_,rfl⟩⟩
theorem pe_lst(h:PA X es t):PE X (.List es pos) (tLst t):=by
 intro pins s σ H Q I hq
 refine wpAny_List_spliced (thn (h pos pins s σ H _ I hq) fun us s1 ⟨xs,H1,I1,r,z,q⟩=>⟨by rw[<- r.length];exact z,?_⟩)
 have hf:H1 s1.heap.objs.size=none:=I1.hok.fresh (zJ _)
 refine⟨.ref s1.heap.objs.size,upd H1 s1.heap.objs.size (.lst xs),I1.laid (t':=s1.toks) (fun b u e=>zC _ e) (zJ _) ?_,rfl,q _ hf⟩
 exact⟨z,us,0,r,zV _ rfl⟩
end
noncomputable abbrev Sp:=List V->Hp->VK->XK->Prop
noncomputable abbrev CXT:=List Env->Hp->Shared->XK->Value->Shared->Prop
structure Env0(P:Program)(w:World)(K:PySem.W.Frag)(mg:Str->Option Value)(base:Heap)(A:Around)(outer:List Env)(s:Shared)(H:Hp):Prop where
 frames:A.frames=some outer
 mod:Mod K mg base
 bs:∀ b o,base.get? b=some o->s.heap.get? b=some o/\H b=none
 bsz:base.objs.size<=s.heap.objs.size
 funs:s.heap.FunFrames base outer
 frf:∀ b∈frs outer,H b=none
 hok:HOk P w H s.heap
 bare:AllBare s.gens
noncomputable def CE(outer:List Env)(P:Program)(w:World)(H:Hp)(s:Shared)(Q:VK)(u:Value)(s':Shared):Prop :=
 ∃ v H',s'.os=s.os/\AllBare s'.gens/\Un (frs outer) [] H H' s.heap s'.heap/\HOk P w H' s'.heap/\RelV v u/\Q v H'
noncomputable def CR(CX:CXT)(outer:List Env)(P:Program)(w:World)(H:Hp)(s:Shared)(Q:VK)(E:XK)(r:Result)(s':Shared):Prop :=
 match r with
 | .ok (.ret u)=>CE outer P w H s Q u s'
 | .ok _=>False
 | .error e=>CX outer H s E e s'
structure FnOk(P:Program)(w:World)(K:PySem.W.Frag)(mg:Str->Option Value)(base:Heap)(CX:CXT)(k:Nat)(f:Addr)(fd:FuncData)(ps:List Str)(sp:Sp):Prop where
 len:∀ vs H Q E,sp vs H Q E->vs.length=ps.length
 run:∀ (A:Around) (outer:List Env) (s:Shared) (H:Hp) (args:Args) (us:List Value) (vs:List V) (Q:VK) (E:XK),Room k A->Env0 P w K mg base A outer s H->BindsTo s fd args (ps.zip us)->Vals vs us->sp vs H Q E ->
  codeAny (model P w) A (.call (.ref f) args) (CR CX outer P w H s Q E) s
section
variable{X:Cx}{pins:List (Addr×Obj)}{σ:St}{H:Hp}{s s':Shared}
theorem Inv.env0(I:Inv X pins σ H s):Env0 X.prog X.w X.K X.mg X.base X.A X.stack s H :=
 ⟨I.ok.frames,I.ok.mod,I.bs,zAE I.ok.bsz I.sz,I.stack,I.stkFree,I.hok,I.bare⟩
theorem Inv.after{Q:VK}{u:Value}(I:Inv X pins σ H s)(h:CE X.stack X.prog X.w H s Q u s'):EP X pins σ Q u s':=by
 obtain⟨v,H',os,bare,un,hok,r,q⟩:=h
 obtain⟨hh,g,d,t,os'⟩:=s'
 obtain rfl:os'=s.os:=os
 exact⟨v,H',I.call (h':=hh) (g':=g) (d':=d) (t':=t) (ch:=[]) un hok bare (fun b z=>absurd z (by simp)),r,q⟩
end
noncomputable def tCall(sp:Sp)(dvs:List V)(E:XK)(t:TA):TE:=fun σ H Q=>t σ H fun vs H1=>sp (vs++dvs) H1 Q E
noncomputable def Binds(K:PySem.W.Frag)(fd:FuncData)(ps:List Str)(ds:List Value):Prop :=
 ∀ (s:Shared) (us:List Value),K.In s.heap->(us++ds).length=ps.length->BindsTo s fd ⟨us,[]⟩ (ps.zip (us++ds))
theorem Binds.all{K:PySem.W.Frag}{fd:FuncData}{ps:List Str}(h:∀ us:List Value,us.length=ps.length->bindArgs fd ⟨us,[]⟩=pure (ps.zip us)):Binds K fd ps []:=fun s us _ hl=>by
 rw[zBP]at hl ⊢
 exact .of_eq (h us hl)
noncomputable def Passes(CX:CXT)(X:Cx)(E:XK):Prop:=∀ (pins:List (Addr×Obj)) (σ:St) (H:Hp) (s:Shared) (e:Value) (s':Shared),Inv X pins σ H s->CX X.stack H s E e s'->X.xe e s'
section
variable{X:Cx}{CX:CXT}{k:Nat}{f C:Addr}{fd:FuncData}{ps:List Str}{sp:Sp}{dvs:List V}{ds:List Value}{E:XK}{x m:Str}{p pos apos:Pos}{e o:Expr}{es:List Expr}{ta:TE}{t:TA}
theorem run_fn{pins:List (Addr×Obj)}{σ:St}{H:Hp}{s:Shared}{Q:VK}{us:List Value}{vs:List V}(F:FnOk X.prog X.w X.K X.mg X.base CX k f fd ps sp)(hr:Room k X.A)(hb:Binds X.K fd ps ds)(hd:Vals dvs ds)(hx:Passes CX X E)
  (I:Inv X pins σ H s) (r:Vals vs us) (h:sp (vs++dvs) H Q E):wpAny (model X.prog X.w) X.A (call (.ref f) us) (EP X pins σ Q) X.xe s:=by
 have r2:Vals (vs++dvs) (us++ds):=r.append hd
 have hl:(us++ds).length=ps.length:=by rw[<- r2.length];exact F.len _ _ _ _ h
 refine wpAny_call (codeAny_mono (F.run X.A X.stack s H ⟨us,[]⟩ (us++ds) (vs++dvs) Q E hr I.env0 (hb s us I.kIn hl) r2 h) fun r s' hq=>?_)
 cases r with
 |error e=>exact hx pins σ H s e s' I hq
 |ok fl =>
  cases fl with
  |ret u=>exact I.after hq
  |next=>exact False.elim hq
  |brk=>exact False.elim hq
  |cont=>exact False.elim hq
theorem pe_call(F:FnOk X.prog X.w X.K X.mg X.base CX k f fd ps sp)(hr:Room k X.A)(hg:Gl X x)(hm:X.mg x=some (.ref f))(hk:PySem.W.keepIn X.K (.ref f)=true)(hb:Binds X.K fd ps ds)(hd:Vals dvs ds)(hx:Passes CX X E)
  (ha:PA X (e :: es) t) (hdb:(x ==("__debug__":Str))=false:=by decide) (he:starEach (e :: es) X.env=(false,eval e X.env) :: starEach es X.env:=by rfl) (hpl:(backTo pos (starEach es X.env)).any (·.1)=false:=by rfl) :
  PE X (.Call (.Name x p) (e :: es) [] pos) (tCall sp dvs E t):=by
 intro pins s σ H Q I h
 refine wpAny_Call_Name_kw (ld_glob I hg hm ?_ hdb)
 refine PySem.W.callWith_K (h₀:=X.base) I.ok.mod.kin hk (thn (ha pos pins s σ H _ I h) fun us s1 ⟨vs,H1,I1,r,q⟩=>⟨I1.kIn,?_⟩) he hpl
 exact run_fn F hr hb hd hx I1 r q
end
structure FnScope(N P:List Str)(sc:Scope):Prop where
 kind:sc.kind = .function
 co:sc.isCoroutine=false
 gen:sc.isGenerator=false
 nd:N.Nodup
 pre:N.take P.length=P
 par:∀ x∈P,sc.names.lookup x=some .local\/sc.names.lookup x=some .cell
 nofree:∀ y∈sc.names,y.2≠.free
theorem bindL_out{kindOf:Str->Option NameKind}{x:Str}:∀ {binds:List (Str×Value)}{m:Str->Option Value},(∀ v,(x,v)∉binds)->bindL kindOf binds m x=m x
 |[],_,_=>rfl
 |(n,v) :: r,m,h=>by
  unfold bindL
  rw[bindL_out fun w hw=>h w (zD _ hw)]
  split
  ·have:x≠n:=by rintro rfl;exact h v zF
   simp[this]
  ·rfl
theorem bindC_out{kindOf:Str->Option NameKind}{x:Str}:∀ {binds:List (Str×Value)}{m:Str->Option Value},(∀ v,(x,v)∉binds)->bindC kindOf binds m x=m x
 |[],_,_=>rfl
 |(n,v) :: r,m,h=>by
  unfold bindC
  rw[bindC_out fun w hw=>h w (zD _ hw)]
  split
  ·rfl
  ·have:x≠n:=by rintro rfl;exact h v zF
   simp[this]
theorem bindL_get{kindOf:Str->Option NameKind}{x:Str}{v:Value}:∀ {P:List Str}{vs:List Value}{i:Nat}{m:Str->Option Value},P.Nodup->P[i]?=some x->vs[i]?=some v->kindOf x=some .local ->
  bindL kindOf (P.zip vs) m x=some v
 |[],_,_,_,_,h,_,_=>by simp at h
 | _ :: _,[],_,_,_,_,h,_=>by simp at h
 |p :: P,w :: vs,0,m,nd,h1,h2,hk=>by
  simp at h1 h2;subst h1;subst h2
  show bindL kindOf ((p,w) :: P.zip vs) m p=_
  unfold bindL
  rw[bindL_out fun v hv=>(zCP.mp nd).1 (List.of_mem_zip hv).1,if_pos hk]
  simp
 |p :: P,w :: vs,i+1,m,nd,h1,h2,hk=>by
  show bindL kindOf ((p,w) :: P.zip vs) m x=_
  unfold bindL
  exact bindL_get (i:=i) (zCP.mp nd).2 (by simpa using h1) (by simpa using h2) hk
theorem bindC_get{kindOf:Str->Option NameKind}{x:Str}{v:Value}:∀ {P:List Str}{vs:List Value}{i:Nat}{m:Str->Option Value},P.Nodup->P[i]?=some x->vs[i]?=some v->kindOf x≠some .local ->
  bindC kindOf (P.zip vs) m x=some v
 |[],_,_,_,_,h,_,_=>by simp at h
 | _ :: _,[],_,_,_,_,h,_=>by simp at h
 |p :: P,w :: vs,0,m,nd,h1,h2,hk=>by
  simp at h1 h2;subst h1;subst h2
  show bindC kindOf ((p,w) :: P.zip vs) m p=_
  unfold bindC
  rw[bindC_out fun v hv=>(zCP.mp nd).1 (List.of_mem_zip hv).1,if_neg hk]
  simp
 |p :: P,w :: vs,i+1,m,nd,h1,h2,hk=>by
  show bindC kindOf ((p,w) :: P.zip vs) m x=_
  unfold bindC
  exact bindC_get (i:=i) (zCP.mp nd).2 (by simpa using h1) (by simpa using h2) hk
noncomputable def start(N:List Str)(vs:List V):St:=vs.map some++List.replicate (N.length-vs.length) none
noncomputable def cxOf(CX:CXT)(P:Program)(w:World)(K:PySem.W.Frag)(mg:Str->Option Value)(base:Heap)(N:List Str)(qual:Str)(scope:Scope)(f:Addr)(cd:Value)(A:Around)(outer:List Env)(s:Shared)(H:Hp)(E:XK):Cx where
 prog:=P
 w:=w
 K:=K
 mg:=mg
 base:=base
 A:=A.deeper (envOfC qual scope s.heap.objs.size f cd)
 N:=N
 s₀:=s
 H₀:=H
 env:=envOfC qual scope s.heap.objs.size f cd
 outer:=outer
 stack:=envOfC qual scope s.heap.objs.size f cd :: outer
 ex:=[]
 calm:=true
 fn:=fun _=>true
 pn:=[]
 xe:=fun e s'=>wpAny (model P w) (A.deeper (envOfC qual scope s.heap.objs.size f cd)) (leaving (envOfC qual scope s.heap.objs.size f cd) e) (fun _ s''=>CX outer H s E e s'') (fun e' s''=>CX outer H s E e' s'') s'
theorem cell_has{sc:Scope}{n:Nat}{x:Str}(h:sc.names.lookup x=some .cell):∃ c,(cellsFrom n sc.names []).lookup x=some c:=by
 have q:=PySem.W.cellsFrom_some sc.names n [] (.inl h)
 exact Option.isSome_iff_exists.mp q
theorem inv_start{CX:CXT}{P:Program}{w:World}{K:PySem.W.Frag}{mg:Str->Option Value}{base:Heap}{N ps:List Str}{qual:Str}{scope:Scope}{f:Addr}{cd:Value}{A:Around}{outer:List Env}{s s1:Shared}{H:Hp}{E:XK}{us:List Value}{vs:List V}
  (S:FnScope N ps scope) (hd:A.handled=none) (e0:Env0 P w K mg base A outer s H) (hl:vs.length=ps.length) (r:Vals vs us)
  (x:InCallC s s.heap.objs.size (bindL (envOfC qual scope s.heap.objs.size f cd).kindOf (ps.zip us) fun _=>none) (cellsFrom (s.heap.objs.size+1) scope.names []) (bindC (envOfC qual scope s.heap.objs.size f cd).kindOf (ps.zip us) fun _=>none) s1) :
  Inv (cxOf CX P w K mg base N qual scope f cd A outer s H E) [] (start N vs) H s1:=by
 have hpl:ps.length<=N.length:=by have:=congrArg List.length S.pre;rw[zAS]at this;lia
 obtain⟨h1,tk,rfl,hk⟩:=x.done
 have noA:∀ b:Addr,b∉(cxOf CX P w K mg base N qual scope f cd A outer s H E).ex:=fun b z=>absurd (show b∈([]:List Addr)from z) (by simp)
 refine⟨⟨e0.mod,S.kind,rfl,rfl,zJ _,fun y z c h1 h2=>?_,fun y hy=>?_,fun y c _ h=>?_,fun _=>hd,Around.frames_deeper e0.frames,.inr ⟨rfl,rfl⟩,fun b z=>absurd z (noA b),e0.bs,e0.bsz,fun b _ _=>noA b,fun b z=>absurd z (noA b),e0.funs,e0.frf⟩,
  rfl,e0.bare,Un.kept hk,⟨_,x.toInCall.ns,fun i y v h1 h2 h3=>?_⟩,fun y c h=>⟨_,x.cell y c h⟩,e0.hok.fresh (zJ _),fun y c h=>?_,fun p hp=>absurd (show p∈([]:List (Addr×Obj))from hp) (by simp),e0.hok.kept hk,?_⟩
 ·exact name_of_addr x.apart (PySem.mem_of_lookup h1) (PySem.mem_of_lookup h2)
 ·have hy:scope.names.lookup y=some .cell\/scope.names.lookup y=some .free:=hy
  rcases hy with hy | hy
  ·exact cell_has hy
  ·exact absurd rfl (S.nofree _ (PySem.mem_of_lookup hy))
 ·exact zBB (x.above y c (PySem.mem_of_lookup h))
 ·have hi:i<vs.length:=by
   unfold start at h2
   by_cases hi:i<vs.length
   ·exact hi
   ·rw[List.getElem?_append_right (by simpa using hi)]at h2
    rw[List.getElem?_replicate]at h2
    split at h2 <;> cases h2
  have ha:vs[i]?=some v:=by
   unfold start at h2
   rw[List.getElem?_append_left (by simpa using hi),zAB]at h2
   cases e:vs[i]? with
   |none=>rw[e]at h2;cases h2
   |some a=>rw[e]at h2;cases h2;rfl
  obtain⟨u,hu,rv⟩:=r.get ha
  have hp:ps[i]?=some y:=by
   rw[<- S.pre,List.getElem?_take_of_lt (by lia)];exact h1
  have ndP:ps.Nodup:=by rw[<- S.pre];exact S.nd.sublist (List.take_sublist _ _)
  refine⟨u,rv,?_⟩
  rcases S.par y (List.mem_of_getElem? hp)with k | k
  ·exact .inl ⟨k,bindL_get ndP hp hu k⟩
  ·obtain⟨c,e⟩:=cell_has (n:=s.heap.objs.size+1) k
   refine .inr ⟨.inl k,c,e,?_⟩
   have q:=x.cell y c e
   rw[bindC_get ndP hp hu (by show scope.names.lookup y≠_;rw[k];decide)]at q
   exact q
 ·exact e0.hok.fresh (zBB (x.above y c (PySem.mem_of_lookup h)))
 ·unfold start
  show _=N.length
  rw[zO,zA,List.length_replicate]
  lia
theorem fn_of{CX:CXT}{P:Program}{w:World}{K:PySem.W.Frag}{mg:Str->Option Value}{base:Heap}{k:Nat}{f:Addr}{name qual:Str}{params:Arguments}{body:List Stmt}{scope:Scope}{dV kV doc pm cdv ct oc:Value}{an od:Option Addr}
  {osl:Array (Option Value)}{N ps:List Str}{sp:Sp} (lk:K.lookup f=some ⟨oc,od,.func (PySem.W.fnOf name qual params body scope dV kV doc pm an cdv ct),osl⟩) (hcd:PySem.W.codeIn K cdv qual=true) (S:FnScope N ps scope)
  (len:∀ vs H Q E,sp vs H Q E->vs.length=ps.length)
  (hbody:∀ (A:Around) (outer:List Env) (s:Shared) (H:Hp) (vs:List V) (Q:VK) (E:XK),Room k (A.deeper (envOfC qual scope s.heap.objs.size f cdv))->sp vs H Q E ->
   ∃ t,PSs (cxOf CX P w K mg base N qual scope f cdv A outer s H E) body t/\t { nx:=fun _ H'=>Q .non H',rt:=Q } (start N vs) H) :
  FnOk P w K mg base CX (k+1) f (PySem.W.fnOf name qual params body scope dV kV doc pm an cdv ct) ps sp:=by
 refine⟨len,fun A outer s H args us vs Q E hr e0 hb r hsp=>?_⟩
 have hl:=len _ _ _ _ hsp
 have KX:K.In s.heap:=e0.mod.kin.keeps fun b o e=>(e0.bs b o e).1
 have lim:s.heap.NoLimit:=e0.mod.nolimit.keeps fun b o e=>(e0.bs b o e).1
 have hkind:∀ y∈ps.zip us,scope.names.lookup y.1=some .local\/(scope.names.lookup y.1=some .cell/\((cellsFrom (s.heap.objs.size+1) scope.names []).lookup y.1).isSome=true):=fun⟨n,v⟩ hy=>by
  rcases S.par n (List.of_mem_zip hy).1 with q | q
  ·exact .inl q
  ·exact .inr ⟨q,PySem.W.cellsFrom_some _ _ _ (.inl q)⟩
 refine codeAny_call_function hr.depth (KX _ _ lk) rfl S.co S.gen rfl (PySem.W.codeRec_of KX hcd) (hb _ _ _ _ ?_)
 refine wpAny_newFunctionEnv_cells S.kind hkind fun env he s1 x=>?_
 subst he
 refine⟨lim.keeps x.toInCall.keep,codeAny_func ?_⟩
 obtain⟨t,ht,hq⟩:=hbody A outer s H vs Q E (hr.deeper _) hsp
 have I:Inv (cxOf CX P w K mg base N qual scope f cdv A outer s H E) [] (start N vs) H s1:=inv_start S hr.hd e0 hl r x
 refine wpAny_mono (ht [] s1 (start N vs) H _ I hq) (fun fl s' hs=>?_) fun e s' hs=>hs
 have fin:∀ {σ':St}{H':Hp}{v:V}{u:Value},Inv (cxOf CX P w K mg base N qual scope f cdv A outer s H E) [] σ' H' s'->RelV v u->Q v H'->CE outer P w H s Q u s' :=
  fun {σ' H' v u} J rv q=>⟨v,H',J.os,J.bare,J.base,J.hok,rv,q⟩
 cases fl with
 |ret u =>
  obtain⟨v,σ',H',J,rv,q⟩:=hs
  exact fin J rv q
 |next =>
  obtain⟨σ',H',J,q⟩:=hs
  exact fin (v:=V.non) (u:=Value.none) J rfl q
 |brk =>
  obtain⟨_,_,_,q⟩:=hs
  exact False.elim q
 |cont =>
  obtain⟨_,_,_,q⟩:=hs
  exact False.elim q
open PySem PySem.Spec PyProof.Rows
section
variable{X:Cx}{x:Str}{p pos:Pos}{e:Expr}{es:List Expr}{t:TA}{id T:String}{r:List V->Hp->VK->Prop}
noncomputable def tCB(r:List V->Hp->VK->Prop)(t:TA):TE:=fun σ H Q=>t σ H fun vs H1=>r vs H1 Q
theorem pe_callB(hc:CallR X (.builtin id) r)(hg:Gl X x)(hm:X.mg x=none)(hv:bootBuiltins x=some (.builtin id))(ha:PA X (e :: es) t)(hn:x≠"__name__":=by decide)(hdb:(x ==("__debug__":Str))=false:=by decide)
  (he:starEach (e :: es) X.env=(false,eval e X.env) :: starEach es X.env:=by rfl) (hpl:(backTo pos (starEach es X.env)).any (·.1)=false:=by rfl):PE X (.Call (.Name x p) (e :: es) [] pos) (tCB r t):=by
 intro pins s σ H Q I h
 refine wpAny_Call_Name_kw (ld_blt I hg hm hv ?_ hn hdb)
 exact PyProof.Rows.callWith_builtin1 (thn (ha pos pins s σ H _ I h) fun us s1 ⟨vs,H1,I1,r1,q1⟩=>hc pins s1 σ H1 vs us Q I1 r1 q1) he hpl
theorem pe_callTy(hc:CallR X (.type T) r)(hg:Gl X x)(hm:X.mg x=none)(hv:bootBuiltins x=some (.type T))(ha:PA X (e :: es) t)(hn:x≠"__name__":=by decide)(hdb:(x ==("__debug__":Str))=false:=by decide)
  (he:starEach (e :: es) X.env=(false,eval e X.env) :: starEach es X.env:=by rfl) (hpl:(backTo pos (starEach es X.env)).any (·.1)=false:=by rfl):PE X (.Call (.Name x p) (e :: es) [] pos) (tCB r t):=by
 intro pins s σ H Q I h
 refine wpAny_Call_Name_kw (ld_blt I hg hm hv ?_ hn hdb)
 exact PyProof.Rows.callWith_type1 (thn (ha pos pins s σ H _ I h) fun us s1 ⟨vs,H1,I1,r1,q1⟩=>hc pins s1 σ H1 vs us Q I1 r1 q1) he hpl
end
open PySem PySem.Spec PyProof.Rows
section
variable{κ:Type}[DecidableEq κ]
noncomputable def valV(kvs:List (κ×V))(k:κ):Option V:=(kvs.find? fun kv=>decide (kv.1=k)).map (·.2)
noncomputable def putK(kvs:List (κ×V))(k:κ)(v:V):List (κ×V) :=
 if(kvs.any fun kv=>decide (kv.1=k))=true then kvs.map (fun kv=>if kv.1=k then(kv.1,v)else kv)else kvs++[(k,v)]
theorem valV_nil{k:κ}:valV ([]:List (κ×V)) k=none:=rfl
theorem valV_pos{p:κ×V}{r:List (κ×V)}{k:κ}(e:p.1=k):valV (p :: r) k=some p.2:=by simp[valV,List.find?_cons,e]
theorem valV_neg{p:κ×V}{r:List (κ×V)}{k:κ}(e:¬ p.1=k):valV (p :: r) k=valV r k:=by simp[valV,List.find?_cons,e]
theorem valV_any(k:κ):∀ kvs:List (κ×V),(kvs.any fun kv=>decide (kv.1=k))=(valV kvs k).isSome
 |[]=>rfl
 |p :: r=>by
  rw[List.any_cons]
  by_cases e:p.1=k
  ·simp only[valV_pos e,decide_eq_true e,Bool.true_or,Option.isSome_some]
  ·rw[valV_neg e,decide_eq_false e,Bool.false_or];exact valV_any k r
theorem valV_map(k j:κ)(y:V):∀ kvs:List (κ×V),valV (kvs.map fun kv=>if kv.1=k then(kv.1,y)else kv) j=(valV kvs j).map fun x=>if j=k then y else x
 |[]=>rfl
 |p :: r=>by
  have ih:=valV_map k j y r
  rw[zN]
  by_cases h:p.1=k
  ·rw[if_pos h]
   by_cases e:p.1=j
   ·rw[valV_pos (p:=(p.1,y)) e,valV_pos e,Option.map_some,if_pos (e.symm.trans h)]
   ·rw[valV_neg (p:=(p.1,y)) e,valV_neg e,ih]
  ·rw[if_neg h]
   by_cases e:p.1=j
   ·rw[valV_pos (p:=p) e,valV_pos e,Option.map_some,if_neg (fun z=>h (e.trans z))]
   ·rw[valV_neg (p:=p) e,valV_neg e,ih]
theorem valV_snoc(k j:κ)(y:V):∀ kvs:List (κ×V),valV kvs k=none->valV (kvs++[(k,y)]) j=if j=k then some y else valV kvs j
 |[],_=>by
  by_cases e:k=j
  ·rw[if_pos e.symm];exact valV_pos (p:=(k,y)) e
  ·rw[if_neg (fun z=>e z.symm)];exact valV_neg (p:=(k,y)) e
 |p :: r,hn=>by
  rw[List.cons_append]
  have hk:¬ p.1=k:=fun z=>by rw[valV_pos z]at hn;cases hn
  rw[valV_neg hk]at hn
  have ih:=valV_snoc k j y r hn
  by_cases e:p.1=j
  ·rw[valV_pos e,valV_pos e,if_neg (fun z=>hk (e.trans z))]
  ·rw[valV_neg e,valV_neg e,ih]
theorem valV_put(kvs:List (κ×V))(k j:κ)(y:V):valV (putK kvs k y) j=if j=k then some y else valV kvs j:=by
 unfold putK
 by_cases a:(kvs.any fun kv=>decide (kv.1=k))=true
 ·rw[if_pos a,valV_map]
  rw[valV_any]at a
  by_cases e:j=k
  ·obtain⟨x,hx⟩:=Option.isSome_iff_exists.mp a
   rw[if_pos e,e,hx,Option.map_some,if_pos rfl]
  ·rw[if_neg e]
   cases valV kvs j with
   |none=>rfl
   |some x=>rw[Option.map_some,if_neg e]
 ·rw[if_neg a]
  refine valV_snoc k j y kvs ?_
  rw[valV_any]at a
  cases q:valV kvs k with
  |none=>rfl
  |some x=>rw[q]at a;exact(a rfl).elim
theorem length_putK(kvs:List (κ×V))(k:κ)(v:V):(putK kvs k v).length<=kvs.length+1:=by
 unfold putK
 split
 ·rw[zA];exact zAA kvs.length 1
 ·rw[zO,zAO,List.length_nil];exact zJ (kvs.length+(0+1))
theorem putK_new{kvs:List (κ×V)}{k:κ}(v:V)(h:valV kvs k=none):putK kvs k v=kvs++[(k,v)]:=by
 unfold putK
 rw[valV_any,h]
 exact if_neg (by decide)
theorem RelO.isSome_eq{o:Option V}{u:Option Value}(r:RelO o u):o.isSome=u.isSome:=by
 cases o with
 |none=>cases u with
  |none=>rfl
  |some _=>exact(show False from r).elim
 |some _=>cases u with
  |none=>exact(show False from r).elim
  |some _=>rfl
theorem KV.val{kvs:List (κ×V)}{vs:List (κ×Value)}(r:KV kvs vs)(k:κ):RelO (valV kvs k) (valueAt vs k):=by
 unfold KV at r
 induction r with
 |nil=>exact True.intro
 | @cons p q ps qs h t ih =>
  obtain⟨h1,h2⟩:=h
  by_cases e:p.1=k
  ·have e':q.1=k:=h1.symm.trans e
   have b:valueAt (q :: qs) k=some q.2:=by simp[valueAt,List.find?_cons,e']
   rw[valV_pos e,b];exact h2
  ·have e':¬ q.1=k:=fun z=>e (h1.trans z)
   have b:valueAt (q :: qs) k=valueAt qs k:=by simp[valueAt,List.find?_cons,e']
   rw[valV_neg e,b];exact ih
theorem KV.any{kvs:List (κ×V)}{vs:List (κ×Value)}(r:KV kvs vs)(k:κ):(kvs.any fun kv=>decide (kv.1=k))=vs.any fun kv=>decide (kv.1=k):=by
 unfold KV at r
 induction r with
 |nil=>rfl
 |cons h t ih=>rw[List.any_cons,List.any_cons,ih,h.1]
theorem KV.repl{kvs:List (κ×V)}{vs:List (κ×Value)}(r:KV kvs vs)(k:κ){y:V}{u:Value}(ry:RelV y u) :
  KV (kvs.map fun kv=>if kv.1=k then(kv.1,y)else kv) (vs.map fun kv=>if kv.1=k then(kv.1,u)else kv):=by
 unfold KV at r ⊢
 induction r with
 |nil=>exact .nil
 | @cons p q ps qs h t ih =>
  rw[zN,zN]
  refine .cons ?_ ih
  obtain⟨h1,h2⟩:=h
  by_cases e:p.1=k
  ·rw[if_pos e,if_pos (h1.symm.trans e)];exact⟨h1,ry⟩
  ·rw[if_neg e,if_neg (fun z=>e (h1.trans z))];exact⟨h1,h2⟩
theorem KV.put{kvs:List (κ×V)}{vs:List (κ×Value)}(r:KV kvs vs)(k:κ){y:V}{u:Value}(ry:RelV y u):KV (putK kvs k y) (stored vs k u):=by
 unfold putK stored
 rw[r.any k]
 by_cases e:(vs.any fun kv=>decide (kv.1=k))=true
 ·rw[if_pos e,if_pos e];exact r.repl k ry
 ·rw[if_neg e,if_neg e];exact Paired.snoc r ⟨rfl,ry⟩
theorem KV.length{kvs:List (κ×V)}{vs:List (κ×Value)}(r:KV kvs vs):kvs.length=vs.length:=Paired.length r
end
theorem kV_is{P:Program}{w:World}{k:Key}{u:Value}(r:RelV (kV k) u):(mixKind P w).is k u=true:=by
 cases k with
 |inl i=>obtain⟨t,e⟩:=(show ∃ t,u=Value.int i t from r);subst e;exact mixKind_int P w i t
 |inr x=>obtain⟨t,e⟩:=(show ∃ t,u=Value.str x t from r);subst e;exact mixKind_str P w x t
theorem items_are{P:Program}{w:World}:∀ {ks:List Key}{us:List Value},Vals (ks.map kV) us->ItemsAre (mixKind P w) ks us
 |[],_,r=>by rw[List.map_nil]at r;cases r;exact .nil
 |k :: ks,_,r=>by
  rw[zN]at r
  cases r with
  |cons h t=>exact .cons (kV_is h) (items_are t)
noncomputable abbrev KT(H:Hp):List (List Key×V)->List (List Key×Addr×Value)->Prop:=Paired fun p q=>p.1=q.1/\H q.2.1=some (.tup (p.1.map kV))/\RelV p.2 q.2.2
theorem KT.val{H:Hp}{kvs:List (List Key×V)}{xs:List (List Key×Addr×Value)}(r:KT H kvs xs)(k:List Key):RelO (valV kvs k) ((atKey xs k).map (·.2)):=by
 induction r with
 |nil=>exact True.intro
 | @cons p q ps qs h t ih =>
  obtain⟨h1,_,h2⟩:=h
  by_cases e:p.1=k
  ·have e':q.1=k:=h1.symm.trans e
   have b:atKey (q :: qs) k=some q.2:=by simp[atKey,List.find?_cons,e']
   rw[valV_pos e,b];exact h2
  ·have e':¬ q.1=k:=fun z=>e (h1.trans z)
   have b:atKey (q :: qs) k=atKey qs k:=by simp[atKey,List.find?_cons,e']
   rw[valV_neg e,b];exact ih
theorem KT.repl{H:Hp}{kvs:List (List Key×V)}{xs:List (List Key×Addr×Value)}(r:KT H kvs xs)(k:List Key){y:V}{u:Value}(ry:RelV y u) :
  KT H (kvs.map fun kv=>if kv.1=k then(kv.1,y)else kv) (xs.map (putAt k u)):=by
 induction r with
 |nil=>exact .nil
 | @cons p q ps qs h t ih =>
  rw[zN,zN]
  refine .cons ?_ ih
  obtain⟨h1,h2,h3⟩:=h
  unfold putAt
  by_cases e:p.1=k
  ·rw[if_pos e,if_pos (h1.symm.trans e)];exact⟨h1,h2,ry⟩
  ·rw[if_neg e,if_neg (fun z=>e (h1.trans z))];exact⟨h1,h2,h3⟩
theorem KT.put{H:Hp}{kvs:List (List Key×V)}{xs:List (List Key×Addr×Value)}(r:KT H kvs xs)(k:List Key){b:Addr}{y:V}{u:Value}(hb:H b=some (.tup (k.map kV)))(ry:RelV y u) :
  KT H (putK kvs k y) (storedH xs k b u):=by
 have e:(kvs.any fun kv=>decide (kv.1=k))=(atKey xs k).isSome:=by
  rw[valV_any,(r.val k).isSome_eq,Option.isSome_map]
 unfold putK storedH
 rw[e]
 by_cases q:(atKey xs k).isSome=true
 ·rw[if_pos q,if_pos q];exact r.repl k ry
 ·rw[if_neg q,if_neg q];exact Paired.snoc r ⟨rfl,hb,ry⟩
theorem KT.keeps{H H':Hp}{kvs:List (List Key×V)}{xs:List (List Key×Addr×Value)}(r:KT H kvs xs)(ht:∀ b ys,H b=some (.tup ys)->H' b=some (.tup ys)):KT H' kvs xs :=
 Paired.mapP r fun _ _ z=>⟨z.1,ht _ _ z.2.1,z.2.2⟩
section
variable{P:Program}{w:World}{H:Hp}{h:Heap}{a:Addr}
theorem rd_of{u:HO}(ok:HOk P w H h)(e:Rd H a u):ObjOk P w H h a u:=e.ok ok
theorem dk_rd{kvs:List (Key×V)}(ok:HOk P w H h)(e:Rd H a (.dK kvs)):kvs.length<=sizeLine/\(a == sysModules)=false/\∃ vs,KV kvs vs/\h.DictOf (mixKind P w) a vs :=
 show ObjOk P w H h a (.dK kvs)from rd_of ok e
theorem dk_of{kvs:List (Key×V)}(ok:HOk P w H h)(e:H a=some (.dK kvs)):kvs.length<=sizeLine/\(a == sysModules)=false/\∃ vs,KV kvs vs/\h.DictOf (mixKind P w) a vs:=dk_rd ok (.inl e)
theorem key_of{ks:List Key}(ok:HOk P w H h)(e:H a=some (.tup (ks.map kV))):(tupleKind (mixKind P w)).is h ks a:=by
 obtain⟨_,its,r,o,h1,h2,n,h3⟩:=(show ObjOk P w H h a (.tup (ks.map kV))from ok a _ e)
 exact⟨o,its.toArray,n,h1,h2,h3,by simpa using items_are r⟩
theorem dt_rd{kvs:List (List Key×V)}(ok:HOk P w H h)(e:Rd H a (.dT kvs)):kvs.length<=sizeLine/\(a == sysModules)=false /\
  ∃ xs,KT H kvs xs/\h.DictOfH (tupleKind (mixKind P w)) a xs:=by
 obtain⟨z,y,xs,r,o,es,ep,h1,h2,h3,h4,h5⟩:=(show ObjOk P w H h a (.dT kvs)from rd_of ok e)
 refine⟨z,y,xs,r,o,es,ep,h1,h2,h3,h4,fun x hx=>?_,h5⟩
 have all:∀ {l:List (List Key×V)}{m:List (List Key×Addr×Value)},KT H l m->∀ x∈m,(tupleKind (mixKind P w)).is h x.1 x.2.1:=by
  intro l m q
  induction q with
  |nil=>intro x hx;exact nomatch hx
  | @cons p q ps qs hq t ih =>
   intro x hx
   rcases zW.mp hx with e | hx
   ·subst e
    exact key_of ok (by rw[<- hq.1];exact hq.2.1)
   ·exact ih x hx
 exact all r x hx
theorem dt_of{kvs:List (List Key×V)}(ok:HOk P w H h)(e:H a=some (.dT kvs)):kvs.length<=sizeLine/\(a == sysModules)=false /\
  ∃ xs,KT H kvs xs/\h.DictOfH (tupleKind (mixKind P w)) a xs:=dt_rd ok (.inl e)
end
noncomputable def DGet(H:Hp)(a:Addr)(y:V)(r:Option V):Prop :=
 (∃ kvs k,Rd H a (.dK kvs)/\y=kV k/\r=valV kvs k)\/∃ kvs k b,Rd H a (.dT kvs)/\y = .ref b/\H b=some (.tup (k.map kV))/\r=valV kvs k
noncomputable def DPut(H:Hp)(a:Addr)(y v:V)(H':Hp):Prop :=
 (∃ kvs k,H a=some (.dK kvs)/\y=kV k/\kvs.length<sizeLine/\H'=upd H a (.dK (putK kvs k v))) \/
 ∃ kvs k b,H a=some (.dT kvs)/\y = .ref b/\H b=some (.tup (k.map kV))/\kvs.length<sizeLine/\H'=upd H a (.dT (putK kvs k v))
theorem DGet.t{H:Hp}{a b:Addr}{kvs:List (List Key×V)}{k:List Key}(e:H a=some (.dT kvs))(eb:H b=some (.tup (k.map kV))):DGet H a (.ref b) (valV kvs k):=.inr ⟨kvs,k,b,.inl e,rfl,eb,rfl⟩
theorem DPut.t{H:Hp}{a b:Addr}{kvs:List (List Key×V)}{k:List Key}{v:V}(e:H a=some (.dT kvs))(eb:H b=some (.tup (k.map kV)))(hl:kvs.length<sizeLine) :
  DPut H a (.ref b) v (upd H a (.dT (putK kvs k v))):=.inr ⟨kvs,k,b,e,rfl,eb,hl,rfl⟩
section
variable{X:Cx}{pins:List (Addr×Obj)}{σ:St}{H:Hp}{s:Shared}{a:Addr}{y v:V}{u r:Value}{o:Option V}{A:Around}{E:Value->Shared->Prop}
theorem Inv.big(I:Inv X pins σ H s):sysModules<s.heap.objs.size:=by
 have h:mainGlobals<s.heap.objs.size:=(I.mod.glob.keeps I.bk).lt
 exact Nat.lt_trans (by decide) h
theorem d_getItem{Q:Value->Shared->Prop}(hu:A.units+1<cLine)(I:Inv X pins σ H s)(g:DGet H a y (some v))(ry:RelV y u)(h:∀ w' s',Inv X pins σ H s'->RelV v w'->Q w' s') :
  wpAny (model X.prog X.w) A (getItem (.ref a) u) Q E s:=by
 rcases g with⟨kvs,k,e,ey,l⟩ |⟨kvs,k,b,e,ey,eb,l⟩
 ·subst ey
  obtain⟨z,hd,vs,rel,dd⟩:=dk_rd I.hok e
  obtain⟨w',hw,rw'⟩:=RelO.some_of (v:=v) (o:=valueAt vs k) (by rw[l];exact rel.val k)
  exact wpAny_getItem_of (kV_is ry) dd.mapOf hw (h w' _ (I.tok _) rw')
 ·subst ey
  cases(show u=Value.ref b from ry)
  obtain⟨z,hd,xs,rel,dd⟩:=dt_rd I.hok e
  obtain⟨w',hw,rw'⟩:=RelO.some_of (v:=v) (o:=(atKey xs k).map (·.2)) (by rw[l];exact rel.val k)
  obtain⟨p,hp,hp2⟩:=Option.map_eq_some_iff.mp hw
  refine wpAny_getItem_heap (tupleKind_room_in1 hu) (key_of I.hok eb) dd hp ?_
  rw[hp2]
  exact h w' _ (I.tok _) rw'
theorem d_notIn{Q:Value->Shared->Prop}(hu:A.units+1<cLine)(I:Inv X pins σ H s)(g:DGet H a y o)(ry:RelV y u)(h:∀ s',Inv X pins σ H s'->Q (.bool (!o.isSome)) s') :
  wpAny (model X.prog X.w) A (compareOp .NotIn u (.ref a)) Q E s:=by
 rcases g with⟨kvs,k,e,ey,l⟩ |⟨kvs,k,b,e,ey,eb,l⟩
 ·subst ey
  obtain⟨z,hd,vs,rel,dd⟩:=dk_rd I.hok e
  refine wpAny_notIn_of (kV_is ry) hd dd.mapOf ?_
  rw[<-(rel.val k).isSome_eq,<- l]
  exact h _ (I.tok _)
 ·subst ey
  cases(show u=Value.ref b from ry)
  obtain⟨z,hd,xs,rel,dd⟩:=dt_rd I.hok e
  refine wpAny_notIn_heap (tupleKind_room_in1 hu) (key_of I.hok eb) hd dd ?_
  have q:=(rel.val k).isSome_eq
  rw[Option.isSome_map]at q
  rw[<- q,<- l]
  exact h _ (I.tok _)
theorem d_write{h':Heap}{t':Nat}{ob:HO}(I:Inv X pins σ H s)(mu:Mut (H a))(hs:Heap.SameBut a s.heap h')(he:∃ q,h'.get? a=some q)(new:ObjOk X.prog X.w (upd H a ob) h' a ob) :
  Inv X pins σ (upd H a ob) { s with heap:=h',toks:=t' } :=
 I.write (x:=a) (e:=a) mu (.inl rfl) (fun b q hb z=>(hs.2 b hb).trans z) he new
theorem dk_new{P:Program}{w:World}{H':Hp}{h':Heap}{kvs:List (Key×V)}{vs:List (Key×Value)}(z:kvs.length<=sizeLine)(hd:(a == sysModules)=false)(rel:KV kvs vs)(dd:h'.DictOf (mixKind P w) a vs) :
  ObjOk P w H' h' a (.dK kvs):=⟨z,hd,vs,rel,dd⟩
theorem d_setItem{H':Hp}{Q:Unit->Shared->Prop}(hu:A.units+1<cLine)(I:Inv X pins σ H s)(g:DPut H a y v H')(ry:RelV y u)(rv:RelV v r)(h:∀ s',Inv X pins σ H' s'->Q () s') :
  wpAny (model X.prog X.w) A (setItem (.ref a) u r) Q E s:=by
 rcases g with⟨kvs,k,e,ey,l,eH⟩ |⟨kvs,k,b,e,ey,eb,l,eH⟩
 ·subst ey eH
  obtain⟨z,hd,vs,rel,dd⟩:=dk_of I.hok e
  have hz:vs.length<=sizeLine:=by rw[<- rel.length];exact z
  have hl:(putK kvs k v).length<=sizeLine:=by have:=length_putK kvs k v;exact zAE this (zn5 l)
  refine wpAny_setItem_pairs (hsz:=hz) (kV_is ry) dd fun h' dd' hs=>h _ ?_
  have he:∃ q,h'.get? a=some q:=let ⟨q,_,_,hq,_⟩:=dd';⟨q,hq⟩
  exact d_write I (by rw[e];exact True.intro) hs he (dk_new hl hd (rel.put k rv) dd')
 ·subst ey eH
  cases(show u=Value.ref b from ry)
  obtain⟨z,hd,xs,rel,dd⟩:=dt_of I.hok e
  have hz:xs.length<=sizeLine:=by rw[<- Paired.length rel];exact z
  have hl:(putK kvs k v).length<=sizeLine:=by have:=length_putK kvs k v;exact zAE this (zn5 l)
  refine wpAny_setItem_heap (hsz:=hz) (tupleKind_room_in1 hu) (key_of I.hok eb) dd fun h' dd' hs=>h _ ?_
  obtain⟨q,es,ep,hq,h2,h3,h4,_,h5⟩:=dd'
  refine d_write I (by rw[e];exact True.intro) hs ⟨q,hq⟩ ⟨hl,hd,_,(rel.put k eb rv).keeps fun c ys ec=>?_,q,es,ep,hq,h2,h3,h4,h5⟩
  rw[upd_ne (ne_of ec e (fun z=>nomatch z))]
  exact ec
end
noncomputable def NoSl(i:Expr):Prop:=∀ ov iv,subscripted i false ov iv=operate [ov,iv] (getItem ov iv)
theorem subD_of{prog:Program}{w:World}{A:Around}{E:Value->Shared->Prop}{s:Shared}{env:Env}{value slice:Expr}{pos:Pos}{T id:String}{Q:Value->Shared->Prop}
  (hl:typeLookup (.type T) "__getitem__" = pure (some (.builtin id))) (hs:NoSl slice)
  (h:wpAny (model prog w) A (eval value env) (fun o s₁=>wpAny (model prog w) A (eval slice env) (fun i s₂=>s₂.TypeIs o T/\wpAny (model prog w) A (getItem o i) Q E s₂) E s₁) E s) :
  wpAny (model prog w) A (eval (.Subscript value slice pos) env) Q E s:=by
 refine Subscript_ (wpAny_mono h (fun o s₁ h₁=>wpAny_mono h₁ (fun i s₂ h₂=>?_) fun _ _ x=>x) fun _ _ x=>x)
 obtain⟨hT,h₂⟩:=h₂
 unfold subscriptTail
 refine zB ?_
 rw[getitemInPython_of_ne hT.not_modules]
 refine zB (wpAny_specialOf hT hl ?_)
 have fin:wpAny (model prog w) A (subscripted slice false o i) (fun r s₃=>wpAny (model prog w) A (letTemporaryGo value o r >>= fun _=>pure r) Q E s₃) E s₂:=by
  rw[hs o i]
  exact wpAny_operating (wpAny_mono h₂ (fun r s₃ h₃=>zB (wpAny_letTemporaryGo (zG h₃))) fun _ _ x=>x)
 first
  |exact zG (zB fin)
  |exact zB (zG (zB fin))
  |exact zB fin
theorem dict_typeIs{X:Cx}{pins:List (Addr×Obj)}{σ:St}{H:Hp}{s:Shared}{a:Addr}{y:V}{o:Option V}(I:Inv X pins σ H s)(g:DGet H a y o):s.TypeIs (.ref a) "dict":=by
 rcases g with⟨kvs,k,e,_,_⟩ |⟨kvs,k,b,e,_,_,_⟩
 ·obtain⟨_,_,vs,_,dd⟩:=dk_rd I.hok e
  exact dd.typeIs
 ·obtain⟨_,_,xs,_,dd⟩:=dt_rd I.hok e
  exact dd.typeIs
noncomputable def tDGet(td ty:TE):TE:=fun σ H Q=>td σ H fun x H1=>ty σ H1 fun y H2=>∃ a v,x = .ref a/\DGet H2 a y (some v)/\Q v H2
noncomputable def tDNotIn(ty td:TE):TE:=fun σ H Q=>ty σ H fun y H1=>td σ H1 fun x H2=>∃ a o,x = .ref a/\DGet H2 a y o/\Q (.bl (!o.isSome)) H2
noncomputable def sDPut(td ty tv:TE):TS:=fun D σ H=>tv σ H fun v H1=>td σ H1 fun x H2=>ty σ H2 fun y H3=>∃ a H4,x = .ref a/\DPut H3 a y v H4/\D.nx σ H4
section
variable{X:Cx}{o i e value:Expr}{pos pos' tpos:Pos}{td ty tv:TE}
theorem pe_dget(hu:X.A.units+1<cLine)(ho:PE X o td)(hi:PE X i ty)(hs:NoSl i):PE X (.Subscript o i pos) (tDGet td ty):=by
 intro pins s σ H Q I h
 refine subD_of PySem.F.slot_dict_getitem.lookup hs (thn (ho pins s σ H _ I h) fun u s1 ⟨x,H1,I1,rx,q1⟩=>thn (hi pins s1 σ H1 _ I1 q1) fun iv s2 ⟨y,H2,I2,ry,a,v,ex,g,q2⟩=>?_)
 subst ex
 obtain rfl:u=Value.ref a:=rx
 exact⟨dict_typeIs I2 g,d_getItem hu I2 g ry fun w' s3 I3 rw'=>⟨v,H2,I3,rw',q2⟩⟩
theorem pc_dnotin(hu:X.A.units+1<cLine)(hi:PE X i ty)(ho:PE X o td):PC X .NotIn i o (tDNotIn ty td):=by
 intro pins s σ H Q I h
 refine thn (hi pins s σ H _ I h) fun iv s1 ⟨y,H1,I1,ry,q1⟩=>thn (ho pins s1 σ H1 _ I1 q1) fun u s2 ⟨x,H2,I2,rx,a,ov,ex,g,q2⟩=>?_
 subst ex
 obtain rfl:u=Value.ref a:=rx
 exact d_notIn hu I2 g ry fun s3 I3=>⟨.bl (!ov.isSome),H2,I3,rfl,q2⟩
theorem ps_dput(hu:X.A.units+1<cLine)(ho:PE X o td)(hi:PE X i ty)(hv:PE X value tv)(hs:swapsWith value (some (.Subscript o i pos')) pos.line X.env=pure false) :
  PS X (.Assign [.Subscript o i pos'] value pos) (sDPut td ty tv):=by
 intro pins s σ H D I h
 refine wpAny_Assign_Subscript (thn (hv pins s σ H _ I h) fun r s1 ⟨v,H1,I1,rv,q1⟩=>thn (ho pins s1 σ H1 _ I1 q1) fun u s2 ⟨x,H2,I2,rx,q2⟩=>thn (hi pins s2 σ H2 _ I2 q2) fun iv s3 ⟨y,H3,I3,ry,a,H4,ex,g,q3⟩=>?_) hs
 subst ex
 obtain rfl:u=Value.ref a:=rx
 exact d_setItem hu I3 g ry rv fun s4 I4=>⟨σ,H4,I4,q3⟩
end
theorem dt_empty{P:Program}{w:World}{H:Hp}(h:Heap)(hb:sysModules<h.objs.size):ObjOk P w H (h.push { cls:=.type "dict",data:=.dict #[] }) h.objs.size (.dT []) :=
 ⟨zAT _,beq_eq_false_iff_ne.mpr (Ne.symm (zAG hb)),[],.nil,_,#[],0,zV _ rfl,⟨rfl,rfl,rfl⟩,rfl,rfl,zCN⟩
noncomputable def tDNewT:TE:=fun _ H Q=>∀ p,H p=none->Q (.ref p) (upd H p (.dT []))
section
variable{X:Cx}{pos:Pos}
theorem pe_dnewT:PE X (.Dict [] [] pos) tDNewT:=fun pins s σ H Q I h =>
 wpAny_Dict_empty ⟨.ref s.heap.objs.size,_,I.laid (a:=s.heap.objs.size) (o:=.dT []) (t':=s.toks) (fun _ _ q=>zC _ q) (zJ _) (dt_empty s.heap I.big),rfl,h _ (I.hok.fresh (zJ _))⟩
end
end L2
namespace HT
open PySem PyProof.Rows
section
open PySem.SeqAt
open PySem.AutoSeq1 (wpAny_loadPart')
open PySem.MeetsSeq PySem.MeetsSeq2 PySem.MeetsSeq3
end
section
variable{prog:Program}{w:World}{A:Around}{E:Value->Shared->Prop}{s:Shared}
theorem cat_tup{t b:Addr}{vs ws:List Value}{Q:Value->Shared->Prop}(ht:IsTup s.heap t vs.toArray)(hb:IsTup s.heap b ws.toArray)(hv:vs≠[])
  (h1:ws=[]->Q (.ref t) s) (h2:ws≠[]->Q (.ref s.heap.objs.size) { s with heap:=s.heap.push { cls:=.type "tuple",data:=.seq (vs++ws).toArray } })
  (hsz:vs.length+ws.length<=sizeLine):wpAny (model prog w) A (binaryOp .Add (.ref t) (.ref b)) Q E s:=by
 obtain⟨⟨cls,dd,data,sl⟩,ho,hc,n,hd⟩:=id ht
 obtain⟨⟨cls2,dd2,data2,sl2⟩,ho2,hc2,n2,hd2⟩:=id hb
 simp only at hc hd hc2 hd2
 subst hc hd hc2 hd2
 have e:vs.toArray++ws.toArray=(vs++ws).toArray:=by simp
 by_cases hw:ws=[]
 ·exact concat_meets ⟨_,ho,rfl⟩ ⟨_,ho2,rfl⟩ noFill_tuple_add seq_tuple_add PySem.F.slot_tuple_add PySem.F.entry_tuple_add (PySem.F.args_tuple_add_2 _ _)
   (tuple_addW1 t b vs.toArray ws.toArray n n2 dd dd2 sl sl2 (by simpa using hv) (by simp[hw])) ⟨ho,ho2,h1 hw⟩
 ·refine concat_meets ⟨_,ho,rfl⟩ ⟨_,ho2,rfl⟩ noFill_tuple_add seq_tuple_add PySem.F.slot_tuple_add PySem.F.entry_tuple_add (PySem.F.args_tuple_add_2 _ _)
   (tuple_addW2 t b vs.toArray ws.toArray n n2 dd dd2 sl sl2 (by simpa using hv) (by simpa using hw) (by rw[zY,zY];exact hsz)) ⟨ho,ho2,?_⟩
  rw[e]
  exact h2 hw
noncomputable def sIx(n d:Nat):Option Int->Nat
 |none=>d
 |some v=>if v<0 then(v+(n:Int)).toNat else min v.toNat n
theorem sIx_le(n d:Nat)(hd:d<=n)(o:Option Int):sIx n d o<=n:=by
 cases o with
 |none=>exact hd
 |some v =>
  show(if v<0 then(v+(n:Int)).toNat else min v.toNat n)<=n
  by_cases hv:v<0
  ·rw[if_pos hv];lia
  ·rw[if_neg hv];exact Nat.min_le_right _ _
theorem clip_eq(v:Int)(n d:Nat):(if v<0 then max (v+(n:Int)) 0 else min v (n:Int))=((sIx n d (some v):Nat):Int):=by
 show(if v<0 then max (v+(n:Int)) 0 else min v (n:Int))=(((if v<0 then(v+(n:Int)).toNat else min v.toNat n):Nat):Int)
 by_cases hv:v<0
 ·simp only[if_pos hv];lia
 ·simp only[if_neg hv];lia
theorem adjust_gen(lo hi:Option Int)(n:Nat):Builtin.Slice.sliceAdjust lo hi 1 (n:Int)=(((sIx n 0 lo:Nat):Int),((sIx n n hi:Nat):Int)):=by
 have h1:¬((1:Int)<0):=by lia
 unfold Builtin.Slice.sliceAdjust
 simp only[h1,if_false]
 refine Prod.ext ?_ ?_
 ·cases lo with
  |none=>rfl
  |some v=>exact clip_eq v n 0
 ·cases hi with
  |none=>rfl
  |some v=>exact clip_eq v n n
theorem places_gen(i j:Nat):Builtin.Slice.slicePlaces (i:Int) (j:Int) 1=j-i:=by
 unfold Builtin.Slice.slicePlaces
 have h1:(1:Int) > 0:=by lia
 simp only[h1,if_true,Int.ediv_one]
 split <;> lia
theorem slicePart_{v:Value}{o:Option Int}{Q:Option Int->Shared->Prop}(p:IsPart v o)(h:Q o s):wpAny (model prog w) A (Builtin.Slice.slicePartIndex v) Q E s:=by
 cases p with
 |none=>exact slicePart_none h
 |int i t=>exact slicePart_int h
theorem sliceApplied_gen{sl:Addr}{vl vu:Value}{lo hi:Option Int}{n:Nat}{Q:Int×Int×Nat->Shared->Prop}(hs:s.heap.IsSliceOf sl vl vu .none)(pl:IsPart vl lo)(pu:IsPart vu hi)
  (h:Q (((sIx n 0 lo:Nat):Int),1,sIx n n hi-sIx n 0 lo) s):wpAny (model prog w) A (Builtin.Slice.sliceApplied (.ref sl) (pure (n:Int))) Q E s:=by
 obtain⟨os,hos,hcs,hds⟩:=id hs
 unfold Builtin.Slice.sliceApplied Builtin.Slice.sliceFields
 refine zB (zB (wpAny_field hos hds (x:=vl) rfl (zB (wpAny_field hos hds (x:=vu) rfl (zB (wpAny_field hos hds (x:=.none) rfl (zG ?_)))))))
 refine zB (slicePart_none ?_)
 show wpAny _ _ (if((1:Int) == 0)=true then _ else _) _ _ s
 rw[if_neg (by decide)]
 refine zB (slicePart_ pl (zB (slicePart_ pu (zB (zG ?_)))))
 show wpAny _ _ (match Builtin.Slice.sliceAdjust lo hi 1 (n:Int)with |(lo,hi)=>pure (lo,(1:Int),Builtin.Slice.slicePlaces lo hi 1)) _ _ s
 rw[adjust_gen lo hi n]
 show wpAny _ _ (pure (((sIx n 0 lo:Nat):Int),(1:Int),Builtin.Slice.slicePlaces ((sIx n 0 lo:Nat):Int) ((sIx n n hi:Nat):Int) 1)) _ _ s
 rw[places_gen]
 exact zG h
theorem pick_gen(xs:Array Value)(i k:Nat):((List.range k).filterMap fun(m:Nat)=>xs[((i:Int)+(m:Int) * 1).toNat]?).toArray=((xs.toList.drop i).take k).toArray:=by
 have e:(fun(m:Nat)=>xs[((i:Int)+(m:Int) * 1).toNat]?)=fun m=>xs[i+m]?:=by
  funext m
  have:((i:Int)+(m:Int) * 1).toNat=i+m:=by lia
  rw[this]
 rw[e]
 have:=pick_run xs i k
 rw[List.filterMap_map]at this
 have e2:((fun x=>xs[x]?) ∘ fun x=>i+x)=fun m=>xs[i+m]?:=rfl
 rw[e2]at this
 rw[this]
theorem getItem_tuple_cut{t sl:Addr}{items:Array Value}{vl vu:Value}{lo hi:Option Int}{Q:Value->Shared->Prop}(ht:IsTup s.heap t items)(hs:s.heap.IsSliceOf sl vl vu .none)(pl:IsPart vl lo)(pu:IsPart vu hi)
  (hw:¬(sIx items.size 0 lo=0/\sIx items.size items.size hi=items.size))
  (h:Q (.ref s.heap.objs.size) { s with heap:=s.heap.push { cls:=.type "tuple",data:=.seq ((items.toList.drop (sIx items.size 0 lo)).take (sIx items.size items.size hi-sIx items.size 0 lo)).toArray } })
  (hsz:items.size<=sizeLine):wpAny (model prog w) A (getItem (.ref t) (.ref sl)) Q E s:=by
 have htake:sizeOk (.seq ((items.toList.drop (sIx items.size 0 lo)).take (sIx items.size items.size hi-sIx items.size 0 lo)).toArray):=by
  show((items.toList.drop (sIx items.size 0 lo)).take (sIx items.size items.size hi-sIx items.size 0 lo)).toArray.size<=sizeLine
  rw[zY,zAS,zCB,zBK]
  omega
 have hj:sIx items.size items.size hi<=items.size:=sIx_le _ _ (zJ _) hi
 obtain⟨os,hos,hcs,hds⟩:=id hs
 have hTs:s.TypeIs (.ref sl) "slice":=⟨os,hos,hcs⟩
 unfold getItem
 try with_reducible refine wpAny_holding ?_
 first | refine zB (zG ?_) | skip
 refine zB (wpAny_sequenceKey ht.typeIs (by decide) ?_)
 refine zB (wpAny_callSpecial?_slot (name:=Str.ofString "__getitem__") ht.typeIs PyProof.Rows.slot_tuple_getitem
  (wpAny_call_entry PyProof.Rows.slot_tuple_getitem ht.typeIs entry_tuple_getitem ?_ (args_tuple_getitem _ _)))
 show wpAny _ _ (Builtin.Tuple.tupleItemsOf (.ref t) >>= _) _ _ s
 refine zB (tupleItemsOf_ ht ?_)
 refine zB (wpAny_typeOf hTs ?_)
 rw[if_pos (by decide)]
 refine zB (sliceApplied_gen hs pl pu ?_)
 have hno:¬((((sIx items.size 0 lo:Nat):Int) == 0 && (1:Int) == 1 && (sIx items.size items.size hi-sIx items.size 0 lo) == items.size)=true):=by
  intro q
  rw[zCC,zCC]at q
  have q1:((sIx items.size 0 lo:Nat):Int)=0:=eq_of_beq q.1.1
  have q2:sIx items.size items.size hi-sIx items.size 0 lo=items.size:=eq_of_beq q.2
  exact hw ⟨by lia,by omega⟩
 show wpAny _ _ (if(((sIx items.size 0 lo:Nat):Int) == 0 && (1:Int) == 1 && (sIx items.size items.size hi-sIx items.size 0 lo) == items.size)=true then _ else _) _ _ s
 rw[if_neg hno,pick_gen]
 first
  |exact zB (m:=Builtin.Tuple.tupleExact _) (wpAny_newObj_type (zG ⟨_,rfl,zG h⟩) htake)
  |exact zB (m:=Builtin.Tuple.tupleExact _) (wpAny_newObj_type (zB (zG (zG ⟨_,rfl,zG h⟩))) htake)
  |exact zB (zB (m:=Builtin.Tuple.tupleExact _) (wpAny_newObj_type (zG (zG ⟨_,rfl,zG h⟩)) htake))
  |exact zB (zB (m:=Builtin.Tuple.tupleExact _) (wpAny_newObj_type (zG ⟨_,rfl,zG h⟩) htake))
end
end HT
namespace L2
open PySem PySem.Spec PyProof.Rows
noncomputable abbrev TO:=St->Hp->(Option Int->Hp->Prop)->Prop
noncomputable def PO(X:Cx)(e:Option Expr)(t:TO):Prop :=
 ∀ (pins:List (Addr×Obj)) (s:Shared) (σ:St) (H:Hp) (Q:Option Int->Hp->Prop),Inv X pins σ H s->t σ H Q ->
  wpAny (model X.prog X.w) X.A (evalPart e X.env) (fun u s'=>∃ o H',Inv X pins σ H' s'/\IsPart u o/\Q o H') X.xe s
noncomputable def tNoPart:TO:=fun _ H Q=>Q none H
noncomputable def tPart(t:TE):TO:=fun σ H Q=>t σ H fun x H1=>∃ i,x = .int i/\Q (some i) H1
theorem intsAre_of{ns:List Int}:∀ {us:List Value},Vals (ns.map V.int) us->IntsAre us ns:=by
 induction ns with
 |nil=>intro us r;rw[List.map_nil]at r;cases r;exact .nil
 |cons n ns ih =>
  intro us r
  rw[zN]at r
  cases r with
  |cons r1 r2 =>
   obtain⟨t,e⟩:=r1
   subst e
   exact .cons n t (ih r2)
section
variable{X:Cx}{e:Expr}{te:TE}{lo hi:Option Expr}{tl th:TO}{pos p2:Pos}
theorem po_none:PO X none tNoPart:=by
 intro pins s σ H Q I h
 rw[evalPart_none]
 exact zG ⟨none,H,I,.none,h⟩
theorem po_some(h:PE X e te):PO X (some e) (tPart te):=by
 intro pins s σ H Q I hw
 rw[evalPart_some]
 refine thn (h pins s σ H _ I hw) fun u s1 ⟨x,H1,I1,r1,q1⟩=>?_
 obtain⟨i,rfl,q⟩:=q1
 obtain⟨t,rfl⟩:=r1
 exact⟨some i,H1,I1,.int i t,q⟩
noncomputable def SlR(X:Cx)(r:V->Option Int->Option Int->Hp->VK->Prop):Prop :=
 ∀ (pins:List (Addr×Obj)) (s:Shared) (σ:St) (H:Hp) (x:V) (v vl vu:Value) (lo hi:Option Int) (sl:Addr) (Q:VK),Inv X pins σ H s->RelV x v->s.heap.IsSliceOf sl vl vu .none->IsPart vl lo->IsPart vu hi->r x lo hi H Q ->
  ∃ T id,typeLookup (.type T) "__getitem__" = pure (some (.builtin id))/\s.TypeIs v T/\wpAny (model X.prog X.w) X.A (getItem v (.ref sl)) (EP X pins σ Q) X.xe s
noncomputable def tSl(r:V->Option Int->Option Int->Hp->VK->Prop)(te:TE)(tl th:TO):TE:=fun σ H Q=>te σ H fun x H1=>tl σ H1 fun l H2=>th σ H2 fun u H3=>r x l u H3 Q
theorem pe_slice{r:V->Option Int->Option Int->Hp->VK->Prop}(hr:SlR X r)(he:PE X e te)(hl:PO X lo tl)(hu:PO X hi th):PE X (.Subscript e (.Slice lo hi none p2) pos) (tSl r te tl th):=by
 intro pins s σ H Q I h
 refine Subscript_ (thn (he pins s σ H _ I h) fun v s1 ⟨x,H1,I1,r1,q1⟩=>?_)
 refine wpAny_Slice (thn (hl pins s1 σ H1 _ I1 q1) fun vl s2 ⟨l,H2,I2,pl,q2⟩=>thn (hu pins s2 σ H2 _ I2 q2) fun vu s3 ⟨u,H3,I3,pu,q3⟩=>?_)
 rw[evalPart_none]
 refine zG ?_
 have I4:Inv X pins σ H3 { s3 with heap:=s3.heap.push { cls:=.type "slice",data:=.fields #[vl,vu,.none] } }:=I3.kept (t':=s3.toks) fun b ob q=>zC _ q
 obtain⟨T,id,hT,ht,hg⟩:=hr pins { s3 with heap:=s3.heap.push { cls:=.type "slice",data:=.fields #[vl,vu,.none] } } σ H3 x v vl vu l u s3.heap.objs.size Q I4 r1 (Heap.IsSliceOf.new ..) pl pu q3
 show wpAny (model X.prog X.w) X.A (subscriptTail e (.Slice lo hi none p2) v (.ref s3.heap.objs.size)) (EP X pins σ Q) X.xe { s3 with heap:=s3.heap.push { cls:=.type "slice",data:=.fields #[vl,vu,.none] } }
 exact tail_any (ops:=[.ref s3.heap.objs.size,v]) ht hT hg (by with_unfolding_all rfl)
noncomputable def cutV(xs:List V)(lo hi:Option Int):List V:=(xs.drop (HT.sIx xs.length 0 lo)).take (HT.sIx xs.length xs.length hi-HT.sIx xs.length 0 lo)
theorem cutV_length(xs:List V)(lo hi:Option Int):(cutV xs lo hi).length<=xs.length:=by
 unfold cutV
 rw[zAS,zCB]
 omega
inductive rSlTI(K:PySem.W.Frag)(x:V)(lo:Option Int)(hi:Option Int)(H:Hp)(Q:VK):Prop where
 |mk (a:_) (xs:_) (h1:x = .ref a) (h2:SqT K H a xs) (h3:¬(HT.sIx xs.length 0 lo=0/\HT.sIx xs.length xs.length hi=xs.length)) (h4:∀ p,H p=none->Q (.ref p) (upd H p (.tup (cutV xs lo hi))))
noncomputable def rSlT(K:PySem.W.Frag):V->Option Int->Option Int->Hp->VK->Prop:=fun x lo hi H Q=>rSlTI K x lo hi H Q
theorem sl_tup:SlR X (rSlT X.K):=by
 intro pins s σ H x v vl vu lo hi sl Q I rx hs pl pu h
 obtain⟨a,xs,rfl,hx,hw,q⟩:=h
 cases rx
 obtain⟨its,r,ht,hz⟩:=I.tuple hx
 have hlen:its.toArray.size=xs.length:=by rw[zY];exact r.length.symm
 refine⟨"tuple",_,PyProof.Rows.slot_tuple_getitem.lookup,ht.typeIs,?_⟩
 refine HT.getItem_tuple_cut ht hs pl pu (by rw[hlen];exact hw) ?_ (by rw[hlen];exact hz)
 rw[hlen]
 refine⟨.ref s.heap.objs.size,_,I.laid (t':=s.toks) (o:=.tup (cutV xs lo hi)) (fun b ob q=>zC _ q) (zJ _) ?_,rfl,q _ (I.hok.fresh (zJ _))⟩
 exact⟨zAE (cutV_length xs lo hi) hz,_,(r.drop (HT.sIx xs.length 0 lo)).take (HT.sIx xs.length xs.length hi-HT.sIx xs.length 0 lo),IsTup.new _ _⟩
noncomputable def rCatT(K:PySem.W.Frag):R2:=fun x y H Q=>∃ a b xs ys,x = .ref a/\y = .ref b/\SqT K H a xs/\SqT K H b ys/\xs≠[]/\xs.length+ys.length<=sizeLine /\
 (ys=[]->Q (.ref a) H)/\(ys≠[]->∀ p,H p=none->Q (.ref p) (upd H p (.tup (xs++ys))))
theorem Vals.nil_iff{xs:List V}{us:List Value}(r:Vals xs us):us=[]↔xs=[]:=by
 cases r with
 |nil=>simp
 |cons _ _=>simp
theorem op_catT:OpR X (binaryOp .Add) (rCatT X.K):=by
 intro pins s σ H x y v u Q I rx ry h
 obtain⟨a,b,xs,ys,rfl,rfl,ha,hb,hx,hz,q1,q2⟩:=h
 cases rx
 cases ry
 obtain⟨its,r1,p1,_⟩:=I.tuple ha
 obtain⟨its2,r2,p2,_⟩:=I.tuple hb
 refine HT.cat_tup p1 p2 (fun z=>hx (r1.nil_iff.mp z)) (fun z=>⟨.ref a,H,I,rfl,q1 (r2.nil_iff.mp z)⟩) (fun z=>?_) (by rw[<- r1.length,<- r2.length];exact hz)
 refine⟨.ref s.heap.objs.size,_,I.laid (t':=s.toks) (o:=.tup (xs++ys)) (fun b ob q=>zC _ q) (zJ _) ?_,rfl,q2 (fun w=>z (r2.nil_iff.mpr w)) _ (I.hok.fresh (zJ _))⟩
 exact⟨by rw[zO];exact hz,_,r1.append r2,IsTup.new _ _⟩
end
open PySem PySem.Spec PyProof.Rows
noncomputable def ixN(n:Nat)(i:Int):Option Nat:=if 0<=i then(if i<n then some i.toNat else none)else if -(n:Int)<=i then some (i+n).toNat else none
noncomputable def atI{α:Type}(xs:List α)(i:Int):Option α:=(ixN xs.length i).bind fun j=>xs[j]?
theorem ixN_seq{n:Nat}{i:Int}{j:Nat}(h:ixN n i=some j):seqIndex? i n=some j/\j<n/\-(n:Int)<=i/\i<n:=by
 unfold ixN at h
 by_cases h0:0<=i
 ·rw[if_pos h0]at h
  by_cases h1:i<n
  ·rw[if_pos h1]at h
   have e:i.toNat=j:=Option.some.inj h
   exact⟨by rw[seqIndex_of h0 h1,e],by omega,by lia,h1⟩
  ·rw[if_neg h1]at h;cases h
 ·rw[if_neg h0]at h
  by_cases h1:-(n:Int)<=i
  ·rw[if_pos h1]at h
   have e:(i+n).toNat=j:=Option.some.inj h
   exact⟨by rw[seqIndex_neg (by lia) h1,e],by lia,h1,by lia⟩
  ·rw[if_neg h1]at h;cases h
theorem atI_get{α:Type}{xs:List α}{i:Int}{v:α}(h:atI xs i=some v):∃ j,seqIndex? i xs.length=some j/\xs[j]?=some v/\j<xs.length/\-(xs.length:Int)<=i/\i<xs.length:=by
 unfold atI at h
 cases e:ixN xs.length i with
 |none=>rw[e]at h;cases h
 |some j =>
  rw[e]at h
  obtain⟨h1,h2,h3,h4⟩:=ixN_seq e
  exact⟨j,h1,h,h2,h3,h4⟩
theorem atI_nat{α:Type}{xs:List α}{j:Nat}{v:α}(h:xs[j]?=some v):atI xs (j:Int)=some v:=by
 have hj:j<xs.length:=(zI.mp h).1
 have e:ixN xs.length (j:Int)=some j:=by
  unfold ixN
  rw[if_pos (by exact zAY j),if_pos (by exact zi2 hj)];simp
 unfold atI;rw[e];exact h
theorem atI_last{α:Type}(xs:List α)(v:α):atI (xs++[v]) (-1)=some v:=by
 have hl:(xs++[v]).length=xs.length+1:=by simp
 have e:ixN (xs++[v]).length (-1)=some xs.length:=by
  unfold ixN
  rw[hl,if_neg (by decide),if_pos (by lia)]
  congr 1
  lia
 unfold atI
 rw[e]
 show(xs++[v])[xs.length]?=some v
 simp
noncomputable def PlainIx(b:Expr):Prop:=∀ o i,subscripted b false o i=operate [o,i] (getItem o i)
noncomputable def IxR(X:Cx)(r:R2):Prop :=
 ∀ (value slice:Expr) (pins:List (Addr×Obj)) (s:Shared) (σ:St) (H:Hp) (x y:V) (v u:Value) (Q:VK),Inv X pins σ H s->RelV x v->RelV y u->r x y H Q ->
  subscripted slice false v u=operate [v,u] (getItem v u)->wpAny (model X.prog X.w) X.A (subscriptTail value slice v u) (EP X pins σ Q) X.xe s
noncomputable def MtR(X:Cx)(id:String)(r:V->List V->Hp->VK->Prop):Prop :=
 ∀ (pins:List (Addr×Obj)) (s:Shared) (σ:St) (H:Hp) (x:V) (xs:List V) (v:Value) (us:List Value) (Q:VK),Inv X pins σ H s->RelV x v->Vals xs us->r x xs H Q ->
  wpAny (model X.prog X.w) X.A (call (.builtin id) (v :: us)) (EP X pins σ Q) X.xe s
section
variable{X:Cx}{a b:Expr}{ta tb:TE}{pos:Pos}
theorem pe_ix{r:R2}(hr:IxR X r)(ha:PE X a ta)(hb:PE X b tb)(hs:PlainIx b):PE X (.Subscript a b pos) (tOp r ta tb):=by
 intro pins s σ H Q I h
 exact Subscript_ (binT ha hb I h fun v u s2 x y H2 I2 rx ry q=>hr a b pins s2 σ H2 x y v u Q I2 rx ry q (hs _ _))
inductive rIxLI(K:PySem.W.Frag)(x:V)(y:V)(H:Hp)(Q:VK):Prop where
 |mk (p:_) (xs:_) (i:_) (v:_) (h1:x = .ref p) (h2:y = .int i) (h3:SqL K H p xs) (h4:atI xs i=some v) (h5:Q v H)
noncomputable def rIxL(K:PySem.W.Frag):R2:=fun x y H Q=>rIxLI K x y H Q
inductive rIxTI(K:PySem.W.Frag)(x:V)(y:V)(H:Hp)(Q:VK):Prop where
 |mk (p:_) (xs:_) (i:_) (v:_) (h1:x = .ref p) (h2:y = .int i) (h3:SqT K H p xs) (h4:atI xs i=some v) (h5:Q v H)
noncomputable def rIxT(K:PySem.W.Frag):R2:=fun x y H Q=>rIxTI K x y H Q
theorem ix_list:IxR X (rIxL X.K):=by
 intro value slice pins s σ H x y v u Q I rx ry h hs
 obtain⟨p,xs,i,z,rfl,rfl,hq,he,q⟩:=h
 cases rx
 obtain⟨t,rfl⟩:=ry
 obtain⟨its,r,pl,hz⟩:=I.list hq
 obtain⟨j,h1,h2,h3,h4,h5⟩:=atI_get he
 obtain⟨w,ew,rw'⟩:=r.get h2
 have hl:=r.length
 have hn:=line63
 have fin:EP X pins σ Q w s:=⟨z,H,I,rw',q⟩
 by_cases h0:0<=i
 ·have hj:i.toNat=j:=by
   rw[seqIndex_of h0 h5]at h1
   exact Option.some.inj h1
  exact item_listR pl.isList h0 (by lia) (by rw[hj];simpa using ew) fin hs
 ·have hj:(i+(its.toArray.size:Int)).toNat=j:=by
   rw[seqIndex_neg (by lia) h4]at h1
   rw[zY,<- hl]
   exact Option.some.inj h1
  exact subscriptTail_builtinR (x:=w) pl.isList.typeIs slot_list_getitem.lookup
   (wpAny_getItem_list_neg (Q:=fun r s'=>r=w/\EP X pins σ Q r s') pl.isList (by lia) (by rw[zY] <;> lia) (by lia) (by rw[hj];simpa using ew) ⟨rfl,fin⟩) hs
theorem ix_tup:IxR X (rIxT X.K):=by
 intro value slice pins s σ H x y v u Q I rx ry h hs
 obtain⟨p,xs,i,z,rfl,rfl,hq,he,q⟩:=h
 cases rx
 obtain⟨t,rfl⟩:=ry
 obtain⟨its,r,pl,hz⟩:=I.tuple hq
 obtain⟨j,h1,h2,h3,h4,h5⟩:=atI_get he
 obtain⟨w,ew,rw'⟩:=r.get h2
 have hl:=r.length
 have hn:=line63
 have fin:EP X pins σ Q w s:=⟨z,H,I,rw',q⟩
 exact subscriptTail_builtinR (x:=w) pl.typeIs slot_tuple_getitem.lookup
  (getItem_tuple (j:=j) (Q:=fun r s'=>r=w/\EP X pins σ Q r s') pl (by lia) (by lia) (by rw[zY,<- hl];exact h1) (by simpa using ew) ⟨rfl,fin⟩) hs
theorem mapSeq_set(its:List Value)(n j:Nat)(u:Value):Obj.mapSeq (·.setIfInBounds j u) { cls:=.type "list",data:=.seq its.toArray n } = { cls:=.type "list",data:=.seq (its.set j u).toArray n }:=by
 simp[Obj.mapSeq]
theorem Inv.lst{pins:List (Addr×Obj)}{σ:St}{H:Hp}{s:Shared}{p:Addr}{xs:List V}(I:Inv X pins σ H s)(h:H p=some (.lst xs)) :
  ∃ (its:List Value) (n:Nat),Vals xs its/\s.heap.get? p=some { cls:=.type "list",data:=.seq its.toArray n }/\xs.length<=sizeLine:=by
 obtain⟨z,its,n,r,e⟩:=I.hok p _ h
 exact⟨its,n,r,e,z⟩
theorem Inv.lstUpd{pins:List (Addr×Obj)}{σ:St}{H:Hp}{s:Shared}{p:Addr}{xs ys:List V}{its its':List Value}{n n':Nat}{f:Obj->Obj}(I:Inv X pins σ H s)(h:H p=some (.lst xs))
  (ho:s.heap.get? p=some { cls:=.type "list",data:=.seq its.toArray n }) (hf:f { cls:=.type "list",data:=.seq its.toArray n } = { cls:=.type "list",data:=.seq its'.toArray n' }) (r:Vals ys its') (hz:ys.length<=sizeLine) (t:Nat) :
  Inv X pins σ (upd H p (.lst ys)) { s with heap:=s.heap.update p f,toks:=t }:=by
 have e:(s.heap.update p f).get? p=some { cls:=.type "list",data:=.seq its'.toArray n' }:=by
  rw[Heap.get?_update_self f ho (by rw[hf] <;> rfl),hf]
 refine I.write (x:=p) (e:=p) (by rw[h];trivial) (.inl rfl) (fun b u hb q=>(Heap.get?_update_other _ _ (Ne.symm hb)).trans q) ⟨_,e⟩ ?_
 exact⟨hz,its',n',r,e⟩
inductive rSetLI(o:V)(i:V)(v:V)(H:Hp)(Q:Hp->Prop):Prop where
 |mk (p:_) (xs:_) (k:_) (j:_) (h1:o = .ref p) (h2:i = .int k) (h3:H p=some (.lst xs)) (h4:ixN xs.length k=some j) (h5:Q (upd H p (.lst (xs.set j v))))
noncomputable def rSetL:V->V->V->Hp->(Hp->Prop)->Prop:=fun o i v H Q=>rSetLI o i v H Q
theorem set_list:PSet X rSetL:=by
 intro pins s σ H o i v ov iv u Q I ro ri rv h
 obtain⟨p,xs,k,j,rfl,rfl,hp,hj,q⟩:=h
 cases ro
 obtain⟨t,rfl⟩:=ri
 obtain⟨its,n,r,ho,hz⟩:=I.lst hp
 obtain⟨h1,h2,h3,h4⟩:=ixN_seq hj
 have hl:=r.length
 have hn:=line63
 have I':Inv X pins σ (upd H p (.lst (xs.set j v))) { s with heap:=s.heap.update p (Obj.mapSeq (·.setIfInBounds j u)) } :=
  I.lstUpd hp ho (mapSeq_set its n j u) (r.set rv j) (by rw[List.length_set];exact hz) s.toks
 by_cases h0:0<=k
 ·have hk:k.toNat=j:=by
   rw[seqIndex_of h0 h4]at h1
   exact Option.some.inj h1
  exact PySem.W.ki_setAt ho h0 (by lia) (by rw[zY,<- hl];exact h4) (by rw[hk];exact⟨_,I',q⟩)
 ·have hk:(k+(its.toArray.size:Int)).toNat=j:=by
   rw[seqIndex_neg (by lia) h3]at h1
   rw[zY,<- hl]
   exact Option.some.inj h1
  exact PySem.W.ki_setBack ho (by lia) (by rw[zY,<- hl];exact h3) (by lia) (by rw[hk];exact⟨_,I',q⟩)
theorem slice_bounds(lo hi:Option Int)(n:Nat):(sliceBounds lo hi none n).1=((HT.sIx n 0 lo:Nat):Int)/\(sliceBounds lo hi none n).2.1=((HT.sIx n n hi:Nat):Int)/\(sliceBounds lo hi none n).2.2=1:=by
 refine⟨?_,?_,rfl⟩
 ·cases lo with
  |none=>simp[sliceBounds,HT.sIx]
  |some i =>
   simp only[sliceBounds,HT.sIx,Option.getD_none,show(1:Int) > 0 by decide,if_true]
   by_cases h:i<0
   ·simp only[h,if_true] <;> lia
   ·simp only[h,if_false] <;> lia
 ·cases hi with
  |none=>simp[sliceBounds,HT.sIx]
  |some i =>
   simp only[sliceBounds,HT.sIx,Option.getD_none,show(1:Int) > 0 by decide,if_true]
   by_cases h:i<0
   ·simp only[h,if_true] <;> lia
   ·simp only[h,if_false] <;> lia
theorem slicePick_cut(its:List Value)(lo hi:Option Int):slicePick its.toArray lo hi none=((its.drop (HT.sIx its.length 0 lo)).take (HT.sIx its.length its.length hi-HT.sIx its.length 0 lo)).toArray:=by
 obtain⟨h1,h2,h3⟩:=slice_bounds lo hi its.toArray.size
 unfold slicePick
 rw[h1,h2,h3]
 simp only[sliceRange_one,pick_run,zY] <;> rfl
inductive rSlLI(K:PySem.W.Frag)(x:V)(lo:Option Int)(hi:Option Int)(H:Hp)(Q:VK):Prop where
 |mk (a:_) (xs:_) (h1:x = .ref a) (h2:SqL K H a xs) (h3:∀ p,H p=none->Q (.ref p) (upd H p (.lst (cutV xs lo hi))))
noncomputable def rSlL(K:PySem.W.Frag):V->Option Int->Option Int->Hp->VK->Prop:=fun x lo hi H Q=>rSlLI K x lo hi H Q
theorem sl_list:SlR X (rSlL X.K):=by
 intro pins s σ H x v vl vu lo hi sl Q I rx hs pl pu h
 obtain⟨a,xs,rfl,hx,q⟩:=h
 cases rx
 obtain⟨its,r,ht,hz⟩:=I.list hx
 have hlen:=r.length
 refine⟨"list",_,slot_list_getitem.lookup,ht.isList.typeIs,?_⟩
 refine wpAny_getItem_list_slice ht.isList hs pl pu .none (by simp) ?_ (by rw[zY] <;> lia)
 rw[slicePick_cut,<- hlen]
 refine⟨.ref s.heap.objs.size,_,I.laid (t':=s.toks) (o:=.lst (cutV xs lo hi)) (fun b ob q=>zC _ q) (zJ _) ?_,rfl,q _ (I.hok.fresh (zJ _))⟩
 exact⟨zAE (cutV_length xs lo hi) hz,_,0,(r.drop (HT.sIx xs.length 0 lo)).take (HT.sIx xs.length xs.length hi-HT.sIx xs.length 0 lo),zV _ rfl⟩
noncomputable def flatV:V->Bool
 | .non=>true
 | .bl _=>true
 | .int _=>true
 | .str _=>true
 | _=>false
noncomputable def eqV:V->V->Bool
 | .non,.non=>true
 | .bl a,.bl b=>a == b
 | .bl a,.int b=>(if a then 1 else 0) == b
 | .int a,.bl b=>a ==(if b then 1 else 0)
 | .int a,.int b=>a == b
 | .str a,.str b=>a == b
 | _,_=>false
theorem eqAt_V{A:Around}{s:Shared}{y x:V}{u v:Value}(ry:RelV y u)(rx:RelV x v)(fy:flatV y=true)(fx:flatV x=true):SeqAt.EqAt A s u v (eqV y x):=by
 cases y with
 |non =>
  cases ry
  cases x with
  |non=>cases rx;exact SeqAt.EqAt.same _
  |bl b=>cases rx;exact SeqAt.EqAt.none_bool b
  |int b=>obtain⟨t,rfl⟩:=rx;exact SeqAt.EqAt.none_int b t
  |str b=>obtain⟨t,rfl⟩:=rx;exact SeqAt.EqAt.none_str b t
  | _=>exact absurd (show false=true from fx) zT
 |bl a =>
  cases ry
  cases x with
  |non=>cases rx;exact SeqAt.EqAt.bool_none a
  |bl b=>cases rx;exact SeqAt.EqAt.bool_bool a b
  |int b=>obtain⟨t,rfl⟩:=rx;exact SeqAt.EqAt.bool_int a b t
  |str b=>obtain⟨t,rfl⟩:=rx;exact SeqAt.EqAt.bool_str a b t
  | _=>exact absurd (show false=true from fx) zT
 |int a =>
  obtain⟨t',rfl⟩:=ry
  cases x with
  |non=>cases rx;exact SeqAt.EqAt.int_none a t'
  |bl b=>cases rx;exact SeqAt.EqAt.int_bool a t' b
  |int b=>obtain⟨t,rfl⟩:=rx;exact SeqAt.EqAt.int_int a t' b t
  |str b=>obtain⟨t,rfl⟩:=rx;exact SeqAt.EqAt.int_str a t' b t
  | _=>exact absurd (show false=true from fx) zT
 |str a =>
  obtain⟨t',rfl⟩:=ry
  cases x with
  |non=>cases rx;exact SeqAt.EqAt.str_none a t'
  |bl b=>cases rx;exact SeqAt.EqAt.str_bool a t' b
  |int b=>obtain⟨t,rfl⟩:=rx;exact SeqAt.EqAt.str_int a t' b t
  |str b=>obtain⟨t,rfl⟩:=rx;exact SeqAt.EqAt.str_str a t' b t
  | _=>exact absurd (show false=true from fx) zT
 | _=>exact absurd (show false=true from fy) zT
noncomputable def eqU(x:V)(u:Value):Bool:=match u with
 | .none=>eqV .non x
 | .bool b=>eqV (.bl b) x
 | .int i _=>eqV (.int i) x
 | .str z _=>eqV (.str z) x
 | _=>false
theorem eqU_of{x y:V}{u:Value}(r:RelV y u)(f:flatV y=true):eqU x u=eqV y x:=by
 cases y with
 |non=>cases r;rfl
 |bl b=>cases r;rfl
 |int i=>obtain⟨t,rfl⟩:=r;rfl
 |str z=>obtain⟨t,rfl⟩:=r;rfl
 | _=>exact absurd (show false=true from f) zT
theorem any_eqU{x:V}:∀ {xs:List V}{us:List Value},Vals xs us->xs.all flatV=true->us.any (eqU x)=xs.any fun y=>eqV y x
 | _,_,.nil,_=>rfl
 |y :: xs,u :: us,.cons r t,f=>by
  rw[List.all_cons,zCC]at f
  rw[List.any_cons,List.any_cons,eqU_of r f.1,any_eqU t f.2]
theorem mem_eqAt{A:Around}{s:Shared}{x:V}{v:Value}(rx:RelV x v)(fx:flatV x=true):∀ {xs:List V}{us:List Value},Vals xs us->xs.all flatV=true->∀ u∈us,SeqAt.EqAt A s u v (eqU x u)
 | _,_,.nil,_=>fun u hu=>by cases hu
 |y :: xs,u :: us,.cons r t,f=>fun u' hu=>by
  rw[List.all_cons,zCC]at f
  rcases zW.mp hu with rfl | hu
  ·rw[eqU_of r f.1];exact eqAt_V r rx f.1 fx
  ·exact mem_eqAt rx fx t f.2 u' hu
noncomputable def inV(x:V)(xs:List V):Bool:=xs.any fun y=>eqV y x
inductive rInI(K:PySem.W.Frag)(neg:Bool)(x:V)(y:V)(H:Hp)(Q:VK):Prop where
 |mk (p:_) (xs:_) (h1:y = .ref p) (h2:(SqL K H p xs\/SqT K H p xs)) (h3:flatV x=true) (h4:xs.all flatV=true) (h5:Q (.bl (if neg then !inV x xs else inV x xs)) H)
noncomputable def rIn(K:PySem.W.Frag)(neg:Bool):R2:=fun x y H Q=>rInI K neg x y H Q
theorem op_in_seq:OpR X (compareOp .In) (rIn X.K false):=by
 intro pins s σ H x y v u Q I rx ry h
 obtain⟨p,xs,rfl,hq,fx,fs,q⟩:=h
 cases ry
 rcases hq with hq | hq
 ·obtain⟨its,r,pl,hz⟩:=I.list hq
  refine SeqAt.in_listAt (eqU x) pl.isList (fun w hw=>mem_eqAt rx fx r fs w (by simpa using hw)) ⟨.bl _,H,I,rfl,?_⟩
  rw[show its.toArray.any (eqU x)=its.any (eqU x) by simp,any_eqU r fs]
  exact q
 ·obtain⟨its,r,pl,hz⟩:=I.tuple hq
  refine SeqAt.in_tupleAt (eqU x) pl (fun w hw=>mem_eqAt rx fx r fs w (by simpa using hw)) ⟨.bl _,H,I,rfl,?_⟩
  rw[show its.toArray.any (eqU x)=its.any (eqU x) by simp,any_eqU r fs]
  exact q
theorem call_len_seq:CallR X (.builtin "len") (fun xs H Q=>∃ p ys,xs=[.ref p]/\(SqL X.K H p ys\/SqT X.K H p ys)/\Q (.int ys.length) H):=by
 intro pins s σ H xs us Q I r h
 obtain⟨p,ys,rfl,hq,q⟩:=h
 obtain⟨u,rfl,rx⟩:=vals1 r
 cases rx
 have hn:=line63
 rcases hq with hq | hq
 ·obtain⟨its,r',pl,hz⟩:=I.list hq
  have hlen:=r'.length
  exact Calls.call_len_list pl.isList (by simp only[zY] <;> lia) ⟨.int ys.length,H,I.tok _,⟨s.toks+1,by rw[zY,hlen]⟩,q⟩
 ·obtain⟨its,r',pl,hz⟩:=I.tuple hq
  have hlen:=r'.length
  exact len_tuple pl (by simp only[zY] <;> lia) ⟨.int ys.length,H,I.tok _,⟨s.toks+1,by rw[zY,hlen]⟩,q⟩
theorem call_list_of:CallR X (.type "list") (fun xs H Q=>∃ p ys,xs=[.ref p]/\(SqL X.K H p ys\/SqT X.K H p ys)/\∀ l,H l=none->Q (.ref l) (upd H l (.lst ys))):=by
 intro pins s σ H xs us Q I r h
 obtain⟨p,ys,rfl,hq,q⟩:=h
 obtain⟨u,rfl,rx⟩:=vals1 r
 cases rx
 have fin:∀ (its:List Value),Vals ys its->ys.length<=sizeLine->∀ (h':Heap) (c':Nat),(∀ b o',s.heap.get? b=some o'->h'.get? b=some o') ->
   h'.get? s.heap.objs.size=some { cls:=.type "list",dict:=none,data:=.seq its.toArray c',slots:=#[] }->EP X pins σ Q (.ref s.heap.objs.size) { s with heap:=h' }:=fun its r' hz h' c' kp e =>
  ⟨.ref s.heap.objs.size,_,I.laid (t':=s.toks) kp (zJ _) (show ObjOk X.prog X.w _ h' _ (.lst ys)from⟨hz,its,c',r',e⟩),rfl,q _ (I.hok.fresh (zJ _))⟩
 rcases hq with hq | hq
 ·obtain⟨its,r',pl,hz⟩:=I.list hq
  have hlen:=r'.length
  obtain⟨o,ho,hc,n,hd⟩:=pl.isList
  exact call_list_seq p (.inl rfl) ho hc hd (fun h' c' kp e=>fin its r' hz h' c' kp e) (by simp only[zY] <;> exact zh9 hz (Eq.symm hlen))
 ·obtain⟨its,r',pl,hz⟩:=I.tuple hq
  have hlen:=r'.length
  obtain⟨o,ho,hc,n,hd⟩:=pl
  exact call_list_seq p (.inr rfl) ho hc hd (fun h' c' kp e=>fin its r' hz h' c' kp e) (by simp only[zY] <;> exact zh9 hz (Eq.symm hlen))
theorem call_tuple_of:CallR X (.type "tuple") (fun xs H Q=>∃ p ys,xs=[.ref p]/\((SqL X.K H p ys/\∀ l,H l=none->Q (.ref l) (upd H l (.tup ys)))\/(SqT X.K H p ys/\Q (.ref p) H))):=by
 intro pins s σ H xs us Q I r h
 obtain⟨p,ys,rfl,h⟩:=h
 obtain⟨u,rfl,rx⟩:=vals1 r
 cases rx
 rcases h with⟨hq,q⟩ |⟨hq,q⟩
 ·obtain⟨its,r',pl,hz⟩:=I.list hq
  have hlen:=r'.length
  refine call_tuple_list pl.isList (fun h' kp=>?_) (by simp only[zY] <;> lia)
  have I1:Inv X pins σ H { s with heap:=h' }:=I.kept (t':=s.toks) kp
  have I2:Inv X pins σ (upd H h'.objs.size (.tup ys)) { s with heap:=h'.push { cls:=.type "tuple",data:=.seq its.toArray } } :=
   I1.laid (t':=s.toks) (fun b o e=>zC _ e) (zJ _) (show ObjOk X.prog X.w _ _ _ (.tup ys)from⟨hz,its,r',IsTup.new _ _⟩)
  exact⟨.ref h'.objs.size,_,I2,rfl,q _ (I1.hok.fresh (zJ _))⟩
 ·obtain⟨its,r',pl,hz⟩:=I.tuple hq
  exact call_tuple_same pl ⟨.ref p,H,I,rfl,q⟩
noncomputable def tyV(K:PySem.W.Frag)(T:String)(x:V)(H:Hp):Prop:=match x with
 | .str _=>T = "str"
 | .int _=>T = "int"
 | .ref p=>(T = "list"/\∃ xs,SqL K H p xs)\/(T = "tuple"/\∃ o,K.lookup p=some o/\o.cls = .type "tuple"/\o.dict=none) \/
   (T = "dict"/\((∃ kvs,H p=some (.dK kvs))\/∃ kvs,H p=some (.dT kvs)))\/(T = "set"/\∃ S n,H p=some (.set S n))
 | _=>False
theorem tyV_is{pins:List (Addr×Obj)}{σ:St}{H:Hp}{s:Shared}{T:String}{x:V}{v:Value}(I:Inv X pins σ H s)(r:RelV x v)(ty:tyV X.K T x H) :
  s.TypeIs v T/\∀ a,v = .ref a->∃ ob,s.heap.get? a=some ob/\ob.dict=none:=by
 cases x with
 |str z =>
  obtain⟨t,rfl⟩:=r
  cases(show T = "str" from ty)
  exact⟨typeIs_str s z t,fun _ e=>nomatch e⟩
 |int i =>
  obtain⟨t,rfl⟩:=r
  cases(show T = "int" from ty)
  exact⟨typeIs_int s i t,fun _ e=>nomatch e⟩
 |ref p =>
  cases r
  rcases ty with⟨rfl,xs,hq⟩ |⟨rfl,o,hk,hc,hd⟩ |⟨rfl,hk⟩ |⟨rfl,S,n,hk⟩
  ·obtain⟨its,_,pl,_⟩:=I.list hq
   refine⟨pl.isList.typeIs,fun a e=>?_⟩
   cases e
   obtain⟨o,n,e,c,hd,_⟩:=pl
   exact⟨o,e,hd⟩
  ·refine⟨⟨o,I.kIn p o hk,hc⟩,fun a e=>?_⟩
   cases e
   exact⟨o,I.kIn _ o hk,hd⟩
  ·have z:∃ o,s.heap.get? p=some o/\o.ExactDict:=by
    rcases hk with⟨kvs,hk⟩ |⟨kvs,hk⟩
    ·obtain⟨_,_,_,_,o,_,_,e,ex,_⟩:=I.hok p _ hk
     exact⟨o,e,ex⟩
    ·obtain⟨_,_,_,_,o,_,_,e,ex,_⟩:=I.hok p _ hk
     exact⟨o,e,ex⟩
   obtain⟨o,e,ex⟩:=z
   refine⟨⟨o,e,ex.1⟩,fun a e2=>?_⟩
   cases e2
   exact⟨o,e,ex.2.1⟩
  ·obtain⟨o,_,_,_,e,ex,_⟩:=I.hok p _ hk
   refine⟨⟨o,e,ex.1⟩,fun a e2=>?_⟩
   cases e2
   exact⟨o,e,ex.2.1⟩
 | _=>exact False.elim ty
noncomputable def tBM0(K:PySem.W.Frag)(T:String)(r:V->List V->Hp->VK->Prop)(to:TE):TE:=fun σ H Q=>to σ H fun x H1=>tyV K T x H1/\r x [] H1 Q
noncomputable def tBM(K:PySem.W.Frag)(T:String)(r:V->List V->Hp->VK->Prop)(to:TE)(t:TA):TE:=fun σ H Q=>to σ H fun x H1=>tyV K T x H1/\t σ H1 fun xs H2=>r x xs H2 Q
variable{o e:Expr}{es:List Expr}{to:TE}{t:TA}{name:Str}{apos cpos:Pos}{T id:String}{r:V->List V->Hp->VK->Prop}
theorem pe_bm0(pa:PlainAttrs T)(slot:Slot T name id)(hty:typeOf (.builtin id)=pure (.type "method_descriptor"))(hm:MtR X id r)(ho:PE X o to)
  (hbase:attributeBase o name X.env (eval o X.env)=eval o X.env:=by rfl) (hline:(apos.endLine == cpos.line)=true:=by rfl):PE X (.Call (.Attribute o name apos) [] [] cpos) (tBM0 X.K T r to):=by
 intro pins s σ H Q I h
 refine wpAny_Call_method0_late hbase hline (thn (ho pins s σ H _ I h) fun v s1 ⟨x,H1,I1,r1,ty,q1⟩=>?_)
 obtain⟨h1,h2⟩:=tyV_is I1 r1 ty
 exact⟨T,id,pa,slot,hty,h1,h2,Calls.callWith_builtin rfl (PySem.evalArgs_none (hm pins s1 σ H1 x [] v [] Q I1 r1 .nil q1))⟩
theorem pe_bm(pa:PlainAttrs T)(slot:Slot T name id)(hty:typeOf (.builtin id)=pure (.type "method_descriptor"))(hm:MtR X id r)(ho:PE X o to)(ha:PA X (e :: es) t)
  (hbase:attributeBase o name X.env (eval o X.env)=eval o X.env:=by rfl)
  (hfew:((backTo cpos (starEach (e :: es) X.env)).all (fun x=>!x.1) && (backToKw cpos (keywordEach [] X.env)).all (fun x=>x.1.isSome)
   && decide ((e :: es).length+([]:List Keyword).length+(if([]:List Keyword).isEmpty then 0 else 1)<30))=true:=by rfl)
  (hline:(apos.endLine == cpos.line)=true:=by rfl) (hs:starEach (e :: es) X.env=(false,eval e X.env) :: starEach es X.env:=by rfl) (hplain:(backTo cpos (starEach es X.env)).any (·.1)=false:=by rfl) :
  PE X (.Call (.Attribute o name apos) (e :: es) [] cpos) (tBM X.K T r to t):=by
 intro pins s σ H Q I h
 refine wpAny_Call_method_late hbase hfew hline rfl (thn (ho pins s σ H _ I h) fun v s1 ⟨x,H1,I1,r1,ty,q1⟩=>?_)
 obtain⟨h1,h2⟩:=tyV_is I1 r1 ty
 refine⟨T,id,pa,slot,hty,h1,h2,?_⟩
 have hA:=ha cpos pins s1 σ H1 _ I1 q1
 rw[hs]at hA ⊢
 refine Calls.callWith_builtin (by show(false ||(backTo cpos (starEach es X.env)).any (·.1))=false;rw[hplain] <;> rfl) (Calls.evalArgs_plain ?_)
 exact thn hA fun us s2 ⟨vs,H2,I2,r2,q2⟩=>hm pins s2 σ H2 x vs v us Q I2 r1 r2 q2
end
open PySem PySem.Spec PyProof.Rows
noncomputable def MtM(X:Cx)(id:String)(r:V->List V->Hp->VK->Prop):Prop :=
 ∀ (pins:List (Addr×Obj)) (s:Shared) (σ:St) (H:Hp) (x:V) (xs:List V) (v:Value) (us:List Value) (Q:VK),Inv X pins σ H s->RelV x v->Vals xs us->r x xs H Q ->
  wpAny (model X.prog X.w) X.A (call (.builtin id) (v :: us)) (EP X pins σ Q) X.xe s
theorem Vals.one{x:V}{us:List Value}(h:Vals [x] us):∃ u,us=[u]/\RelV x u:=by
 cases h with | cons r q=>cases q;exact⟨_,rfl,r⟩
theorem Vals.zero:∀ {us:List Value},Vals [] us->us=[]
 | _,.nil=>rfl
theorem Vals.dropLast{xs:List V}{us:List Value}(h:Vals xs us):Vals xs.dropLast us.dropLast:=by
 induction h with
 |nil=>exact .nil
 |cons r t ih =>
  cases t with
  |nil=>exact .nil
  |cons q t'=>exact .cons r ih
theorem Vals.eraseIdx:∀ {xs:List V}{us:List Value} (i:Nat),Vals xs us->Vals (xs.eraseIdx i) (us.eraseIdx i)
 | _,_,_,.nil=>.nil
 | _,_,0,.cons _ t=>t
 | _,_,i+1,.cons r t=>.cons r (Vals.eraseIdx i t)
theorem Vals.rep{xs:List V}{us:List Value}(h:Vals xs us):∀ k:Nat,Vals (List.replicate k xs).flatten (List.replicate k us).flatten
 | 0=>.nil
 |k+1=>by
  rw[zBM,zBM,zCF,zCF]
  exact Vals.append h (Vals.rep h k)
theorem erase_last{α:Type}(l:List α):l.eraseIdx (l.length-1)=l.dropLast:=by
 induction l with
 |nil=>rfl
 |cons a r ih =>
  cases r with
  |nil=>rfl
  |cons b r =>
   have e:(a :: b :: r).length-1=((b :: r).length-1)+1:=by
    have h1:(a :: b :: r).length=r.length+2:=rfl
    have h2:(b :: r).length=r.length+1:=rfl
    lia
   rw[e,List.eraseIdx_cons_succ,ih]
   all_goals rfl
theorem len_erase{α:Type}:∀ (l:List α) (i:Nat),(l.eraseIdx i).length<=l.length
 |[],_=>zJ _
 | _ :: _,0=>Nat.le_succ _
 | _ :: r,i+1=>Nat.succ_le_succ (len_erase r i)
theorem foldl_rep(its:List Value):∀ (k:Nat) (acc:List Value),
  List.foldl (fun x1 x2=>x1++x2) acc.toArray (List.replicate k its.toArray)=(acc++(List.replicate k its).flatten).toArray
 | 0,acc=>by simp
 |k+1,acc=>by
  have e:acc.toArray++its.toArray=(acc++its).toArray:=by simp
  have e2:(acc++its)++(List.replicate k its).flatten=acc++(List.replicate (k+1) its).flatten:=by
   rw[zBM,zCF,zAI]
  rw[<- e2,<- foldl_rep its k (acc++its),<- e,zBM,List.foldl_cons]
section
variable{X:Cx}{pins:List (Addr×Obj)}{σ:St}{H:Hp}{s:Shared}{l b:Addr}{xs ys zs:List V}
theorem Inv.lset{its its':List Value}{n:Nat}{f:Array Value->Array Value}{t':Nat}(I:Inv X pins σ H s)(hH:H l=some (.lst xs))
  (e:s.heap.get? l=some { cls:=.type "list",data:=.seq its.toArray n }) (hf:f its.toArray=its'.toArray) (hv:Vals ys its') (hz:ys.length<=sizeLine) :
  Inv X pins σ (upd H l (.lst ys)) { s with heap:=s.heap.update l (Obj.mapSeq f),toks:=t' }:=by
 have q:=PySem.IsL.update e f
 rw[hf]at q
 refine I.write (x:=l) (e:=l) (by rw[hH];exact trivial) (.inl rfl) (fun b' u hb hu=>(Heap.get?_update_other s.heap (Obj.mapSeq f) (Ne.symm hb)).trans hu) ⟨_,q⟩ ?_
 exact⟨hz,its',_,hv,q⟩
theorem Inv.lnew{its:List Value}{t':Nat}(I:Inv X pins σ H s)(hv:Vals ys its)(hz:ys.length<=sizeLine) :
  Inv X pins σ (upd H s.heap.objs.size (.lst ys)) { s with heap:=s.heap.push { cls:=.type "list",data:=.seq its.toArray },toks:=t' } :=
 I.laid (fun _ _ q=>zC _ q) (zJ _) ⟨hz,its,0,hv,zV _ rfl⟩
theorem Inv.fresh(I:Inv X pins σ H s):H s.heap.objs.size=none:=I.hok.fresh (zJ _)
theorem Inv.lstM(I:Inv X pins σ H s)(hH:H l=some (.lst xs)):xs.length<=sizeLine/\∃ (its:List Value) (n:Nat),Vals xs its/\xs.length=its.length/\s.heap.get? l=some { cls:=.type "list",data:=.seq its.toArray n }:=by
 obtain⟨z,its,n,r,e⟩:=I.hok l _ hH
 exact⟨z,its,n,r,r.length,e⟩
theorem notLongL{n:Nat}(h:n<=sizeLine):Builtin.List.listTooLong n=false:=by
 unfold Builtin.List.listTooLong
 exact decide_eq_false (by lia)
end
section
variable{X:Cx}
inductive rAppendI(x:V)(vs:List V)(H:Hp)(Q:VK):Prop where
 |mk (l:_) (xs:_) (y:_) (h1:x = .ref l) (h2:vs=[y]) (h3:H l=some (.lst xs)) (h4:xs.length<sizeLine) (h5:Q .non (upd H l (.lst (xs++[y]))))
noncomputable def rAppend:V->List V->Hp->VK->Prop:=fun x vs H Q=>rAppendI x vs H Q
theorem mt_append:MtM X "list.append" rAppend:=by
 intro pins s σ H x vs v us Q I rx rv h
 obtain⟨l,xs,y,rfl,rfl,hH,hz,q⟩:=h
 cases rx
 obtain⟨u,rfl,ru⟩:=rv.one
 obtain⟨z,its,n,r,hl,e⟩:=I.lstM hH
 refine call_meets F.slot_list_append ⟨_,e,rfl⟩ F.entry_list_append (F.args_list_append_2 _ _) (PySem.list_append l its.toArray n u (by rw[zY];exact zh9 (zBB hz) (Eq.symm hl))) ⟨e,?_⟩
 refine⟨.non,_,I.lset (its':=its++[u]) hH e (by simp) (r.append (.cons ru .nil)) ?_,rfl,q⟩
 rw[zO,List.length_singleton]
 exact zn5 hz
inductive rPopI(x:V)(vs:List V)(H:Hp)(Q:VK):Prop where
 |mk (l:_) (xs:_) (y:_) (h1:x = .ref l) (h2:vs=[]) (h3:H l=some (.lst xs)) (h4:xs[xs.length-1]?=some y) (h5:Q y (upd H l (.lst xs.dropLast)))
noncomputable def rPop:V->List V->Hp->VK->Prop:=fun x vs H Q=>rPopI x vs H Q
theorem mt_pop:MtM X "list.pop" rPop:=by
 intro pins s σ H x vs v us Q I rx rv h
 obtain⟨l,xs,y,rfl,rfl,hH,hy,q⟩:=h
 cases rx
 have hus:=rv.zero
 subst hus
 obtain⟨z,its,n,r,hl,e⟩:=I.lstM hH
 obtain⟨u,hu,ru⟩:=r.get hy
 have hy':its.toArray[its.toArray.size-1]?=some u:=by
  show its.toArray[its.length-1]?=some u
  rw[<- zBC,<- hl]
  exact hu
 refine call_meets F.slot_list_pop ⟨_,e,rfl⟩ F.entry_list_pop (F.args_list_pop_1 _) (MeetsSeq.list_pop_last l its.toArray n u hy' (by rw[zY];exact zh9 z (Eq.symm hl))) ⟨e,?_⟩
 refine⟨y,_,I.lset (its':=its.dropLast) hH e ?_ r.dropLast ?_,ru,q⟩
 ·show its.toArray.eraseIdxIfInBounds (its.toArray.size-1)=its.dropLast.toArray
  rw[zY,List.eraseIdxIfInBounds_toArray,erase_last]
 ·rw[List.length_dropLast]
  omega
inductive rPopAtI(x:V)(vs:List V)(H:Hp)(Q:VK):Prop where
 |mk (l:_) (xs:_) (i:_) (k:_) (y:_) (h1:x = .ref l) (h2:vs=[.int i]) (h3:H l=some (.lst xs)) (h4:-(2 ^ 63)<=i) (h5:i<2 ^ 63) (h6:seqIndex? i xs.length=some k) (h7:xs[k]?=some y) (h8:Q y (upd H l (.lst (xs.eraseIdx k))))
noncomputable def rPopAt:V->List V->Hp->VK->Prop:=fun x vs H Q=>rPopAtI x vs H Q
theorem mt_popAt:MtM X "list.pop" rPopAt:=by
 intro pins s σ H x vs v us Q I rx rv h
 obtain⟨l,xs,i,k,y,rfl,rfl,hH,h1,h2,hk,hy,q⟩:=h
 cases rx
 obtain⟨u,rfl,ru⟩:=rv.one
 obtain⟨t,rfl⟩:=ru
 obtain⟨z,its,n,r,hl,e⟩:=I.lstM hH
 obtain⟨w,hw,rw'⟩:=r.get hy
 refine call_meets F.slot_list_pop ⟨_,e,rfl⟩ F.entry_list_pop (F.args_list_pop_2 _ _)
  (MeetsSeq.list_pop_at l its.toArray n i t k w (fitsIndex_both h1 h2) (by rw[zY,<- hl];exact hk) (by rw[<- zBC];exact hw) (by rw[zY];exact zh9 z (Eq.symm hl))) ⟨e,?_⟩
 refine⟨y,_,I.lset (its':=its.eraseIdx k) hH e ?_ (r.eraseIdx k) ?_,rw',q⟩
 ·show its.toArray.eraseIdxIfInBounds k=(its.eraseIdx k).toArray
  rw[List.eraseIdxIfInBounds_toArray]
 ·have:=len_erase xs k
  exact zAE this z
inductive rCatI(x:V)(y:V)(H:Hp)(Q:VK):Prop where
 |mk (l:_) (b:_) (xs:_) (zs:_) (h1:x = .ref l) (h2:y = .ref b) (h3:H l=some (.lst xs)) (h4:H b=some (.lst zs)) (h5:xs.length+zs.length<=sizeLine) (h6:∀ p,H p=none->Q (.ref p) (upd H p (.lst (xs++zs))))
noncomputable def rCat:R2:=fun x y H Q=>rCatI x y H Q
theorem op_cat:OpR X (binaryOp .Add) rCat:=by
 intro pins s σ H x y v u Q I rx ry h
 obtain⟨l,b,xs,zs,rfl,rfl,hH,hB,hz,q⟩:=h
 cases rx
 cases ry
 obtain⟨z,its,n,r,hl,e⟩:=I.lstM hH
 obtain⟨z2,its2,n2,r2,hl2,e2⟩:=I.lstM hB
 refine PySem.P.add_list e e2 ?_ (by rw[zY,zY];lia)
 have ea:its.toArray++its2.toArray=(its++its2).toArray:=by simp
 rw[ea]
 exact⟨.ref _,_,I.lnew (t':=s.toks) (r.append r2) (by rw[zO];omega),rfl,q _ I.fresh⟩
inductive rRepI(x:V)(y:V)(H:Hp)(Q:VK):Prop where
 |mk (l:_) (k:_) (xs:_) (h1:x = .ref l) (h2:y = .int k) (h3:H l=some (.lst xs)) (h4:-(2 ^ 63)<=k) (h5:k<2 ^ 63) (h6:xs.length * k.toNat<=sizeLine) (h7:∀ p,H p=none->Q (.ref p) (upd H p (.lst (List.replicate k.toNat xs).flatten)))
noncomputable def rRep:R2:=fun x y H Q=>rRepI x y H Q
theorem len_rep{α:Type}(xs:List α)(k:Nat):(List.replicate k xs).flatten.length=k * xs.length:=by
 induction k with
 |zero=>simp
 |succ k ih=>rw[zBM,zCF,zO,ih,Nat.succ_mul,Nat.add_comm]
theorem op_rep:OpR X (binaryOp .Mult) rRep:=by
 intro pins s σ H x y v u Q I rx ry h
 obtain⟨l,k,xs,rfl,rfl,hH,h1,h2,hz,q⟩:=h
 cases rx
 obtain⟨t,rfl⟩:=ry
 obtain⟨z,its,n,r,hl,e⟩:=I.lstM hH
 have hlen:its.toArray.size * k.toNat<=sizeLine:=by rw[zY,<- hl];exact hz
 have hcap:¬ its.toArray.size * k.toNat > (2 ^ 63-1) / 8:=by
  have:(sizeLine:Nat)<=(2 ^ 63-1) / 8:=by decide
  lia
 have hfit:¬(!Builtin.List.listFitsIndex k)=true:=by
  rw[fitsIndex_both h1 h2]
  exact zT
 have hlong:¬ Builtin.List.listTooLong (its.toArray.size * k.toNat)=true:=by
  rw[notLongL hlen]
  exact zT
 have hnew:List.foldl (fun x1 x2=>x1++x2) #[] (List.replicate (if its.toArray.isEmpty=true then 0 else k.toNat) its.toArray)=(List.replicate k.toNat its).flatten.toArray:=by
  have f0:∀ m:Nat,List.foldl (fun x1 x2=>x1++x2) #[] (List.replicate m its.toArray)=(List.replicate m its).flatten.toArray:=fun m=>by
   have:=foldl_rep its m []
   rw[List.nil_append]at this
   exact this
  rw[f0]
  cases its with
  |nil=>simp
  |cons a r'=>rw[if_neg (by simp)]
 refine wpAny_binaryOp_repeat_ref (T:="list") (U:="int") (by decide) ⟨_,e,rfl⟩ (fun s'=>typeIs_int s' k t) noFill_list_mul F.fills_int_mul F.slot_int_rmul repeat_list F.slot_int_index.lookup
  (call_meets F.slot_int_rmul (typeIs_int s k t) F.entry_int_rmul (F.args_int_rmul_2 _ _) (int___rmul___int_list k t l its.toArray n)
   ⟨e,rfl,⟨_,e,rfl⟩,call_meets F.slot_list_mul ⟨_,e,rfl⟩ F.entry_list_mul (F.args_list_mul_2 _ _) (AutoListH.list___mul___list_int_3 l its.toArray n k t hfit hcap hlong) ⟨e,?_⟩⟩)
 rw[hnew]
 exact⟨.ref _,_,I.lnew (t':=s.toks) (r.rep k.toNat) (by rw[len_rep,Nat.mul_comm];exact hz),rfl,q _ I.fresh⟩
end
end L2
namespace Att
open PySem PySem.W PySem.Calls PyProof.Rows
theorem ints_of_wellAll{P:Params}{h:Heap}:∀ (ns:List Int) (vs:List Value),WellAll P h vs (ns.map WData.int)->IntsAre vs ns:=by
 intro ns
 induction ns with
 |nil =>
  intro vs w
  rw[List.map_nil]at w
  cases w
  exact .nil
 |cons n ns ih =>
  intro vs w
  rw[zN]at w
  cases w with
  |cons a b =>
   cases a
   exact .cons _ _ (ih _ b)
theorem script_of{l:OpenLaw}{n:Nat}(hn:l.most=some n){P:Params}{h:Heap}{args:List WData}{vals:List Value}
  (hpre:l.row.toRowW.claim.pre args=true) (hwl:WellAll P h vals args) :
  ∃ a vs ns,vals=[Value.ref a]/\args=[WData.list (ns.map WData.int)]/\h.get? a=some { cls:=.type "list",data:=.seq vs.toArray }/\IntsAre vs ns/\ns.length<=n:=by
 have hsh:WShape.hasAll [] args [.list .int]=true:=(pre_splitW hpre).1
 have hc:l.pre.holds [] { args:=args } = true:=(pre_splitW hpre).2
 obtain⟨d,r,rfl,h1,h2⟩:=hasAllW_cons hsh
 obtain rfl:=hasAllW_nil h2
 obtain⟨xs,rfl,h3⟩:=hasW_list h1
 obtain⟨ns,rfl⟩:=items_int h3
 have hlen:ns.length<=n:=by
  unfold OpenLaw.pre at hc
  have h4:(WTm.not (.lt (.lit (.int (n:Int))) (.len (.arg 0)))).holds [] { args:=[.list (ns.map .int)] } = true:=by
   have h4:=(holds_andW hc).1
   rw[hn]at h4
   exact h4
  have h5:=condW_of h4 (w_not (w_lt w_lit (w_len_list (w_arg rfl))))
  rw[zA]at h5
  refine Nat.le_of_not_lt fun q=>?_
  have q':(n:Int) <((ns.length:Nat):Int):=by exact zi2 q
  first
   |(rw[decide_eq_true q']at h5;exact absurd h5 (by decide))
   |(simp at h5;omega)
 cases hwl with
 |cons w1 w2 =>
  cases w2
  cases w1 with
  |list ho hall=>exact⟨_,_,ns,rfl,rfl,ho,ints_of_wellAll ns _ hall,hlen⟩
theorem post_true(l:OpenLaw)(args:List WData):l.row.toRowW.claim.post args (.bool true) args=true :=
 postW_of (r:=l.row.toRowW) (X:=(true == true))
  (show WShape.has [] (.bool true) .bool=true by first | rfl | decide | simp[WShape.has,WShape.arms,WShape.armsAll])
  (show(WTm.eq .res (.lit (.bool true))).value [] { args:=args,res:=some (.bool true),after:=args } = some (.bool (true == true))from w_eq_bool (w_res rfl) w_lit) rfl
theorem attach_call{l:OpenLaw}{n:Nat}{q:Program}{loose:List Str}{XP:(Str->Option Value)->Heap->Prop}{YP:World->Heap->Prop}{d:DefRec}
  (hn:l.most=some n) (hdf:d.params.defaults=[])
  (call:∀ (w:World) (s₀ s₁:Shared) (mg mb:Str->Option Value) (fa:Addr) (o:Obj) (pm cd doc:Value) (a:Addr) (vs:List Value) (ns:List Int),
   Ground q loose [] XP w s₀ mg mb s₁.heap->YP w s₁.heap ->
   s₁.heap.get? fa=some o->o.data = .func (docDef d.name d.params d.body d.scope pm cd doc)->s₁.heap.CodeRec cd d.name->mg d.name=some (.ref fa) ->
   s₁.heap.get? a=some { cls:=.type "list",data:=.seq vs.toArray }->IntsAre vs ns->ns.length<=n->s₁.gens = #[] ->
   codeAny (model l.prog w) callerA (.call (.ref fa) ⟨[.ref a],[]⟩) (fun r s'=>r = .ok (.ret (.bool true))/\OldK s₁.heap s'.heap/\s'.os=s₁.os/\AllBare s'.gens) s₁) :
  WalkO q loose XP YP l.row.toRowW d [] (fun f vs=>PySem.call f vs):=by
 intro w s₀ s₁ mg mb G Y fa o pm cd doc dV kV ho hd hcd hD hmg hg args vals as hpre hlay hrd hwl hlo
 obtain rfl:dV = .none:=Dflts.none hD hdf
 obtain rfl:kV = .none:=Dflts.noKw hD
 obtain⟨a,vs,ns,rfl,rfl,hobj,hints,hlen⟩:=script_of hn hpre hwl
 refine enter_call (codeAny_mono (call w s₀ s₁ mg mb fa o pm cd doc a vs ns G Y ho (fd_plain hd) hcd hmg hobj hints hlen hg) fun r s' hq=>?_)
 obtain⟨rfl,h2,h3,h4⟩:=hq
 exact⟨.inl ⟨.bool true,.bool true,[],rfl,fun _=>rfl,.bool true,post_true l _,fun _=>⟨List.Pairwise.nil,fun _ hm=>(nomatch hm)⟩⟩,h2,h3,h4⟩
end Att
namespace L2
open PySem PySem.Spec PyProof.Rows
theorem vals_ints:∀ {vs:List Value}{ns:List Int},IntsAre vs ns->Vals (ns.map V.int) vs
 | _,_,.nil=>.nil
 | _,_,.cons n t h=>.cons ⟨t,rfl⟩ (vals_ints h)
noncomputable def Only(H:Hp):Prop:=∀ b,H b=none\/∃ o xs,H b=some (.frz o (.lst xs))
theorem law_call{P:Program}{w:World}{K:PySem.W.Frag}{mg mb:Str->Option Value}{CX:CXT}{k:Nat}{fa a:Addr}{fd:FuncData}{x:Str}{sp:Sp}{s₁:Shared}{vs:List Value}{ns:List Int}
  (KX:K.In s₁.heap) (hns:s₁.heap.Ns mainGlobals mg) (hb:s₁.heap.Ns builtinsNs mb) (hbb:∀ x:Str,x≠"__name__"->mb x=bootBuiltins x) (hlim:s₁.heap.NoLimit) (hg:s₁.gens = #[])
  (ha:s₁.heap.get? a=some { cls:=.type "list",data:=.seq vs.toArray }) (hi:IntsAre vs ns) (hl:ns.length<=sizeLine) (hr:Room k callerA)
  (F:∀ base:Heap,K.In base->base.Ns mainGlobals mg->FnOk P w K mg base CX k fa fd [x] sp) (hbind:∀ (s:Shared) (u:Value),BindsTo s fd ⟨[u],[]⟩ [(x,u)])
  (hsp:∀ H:Hp,Only H->SqL K H a (ns.map V.int)->sp [.ref a] H (fun v _=>v = .bl true) fun _ _ _=>False)
  (hCX:∀ H e s',CX [] H s₁ (fun _ _ _=>False) e s'->False) :
  codeAny (model P w) callerA (.call (.ref fa) ⟨[.ref a],[]⟩) (fun r s'=>r = .ok (.ret (.bool true))/\OldK s₁.heap s'.heap/\s'.os=s₁.os/\AllBare s'.gens) s₁:=by
 have rv:=vals_ints hi
 have lenV:=hi.length
 -- from an abstract heap in which nothing but the script may be tracked
 have core:∀ H:Hp,Only H->SqL K H a (ns.map V.int)->HOk P w H s₁.heap->(∀ b,H b≠none->b=a)->(H a≠none->K.lookup a=none) ->
   codeAny (model P w) callerA (.call (.ref fa) ⟨[.ref a],[]⟩) (fun r s'=>r = .ok (.ret (.bool true))/\OldK s₁.heap s'.heap/\s'.os=s₁.os/\AllBare s'.gens) s₁:=by
  intro H hO hS hok hA hK
  have base_of:∀ {b:Addr}{o:Obj},s₁.heap.get? b=some o->H b=none->(hidT s₁.heap H).get? b=some o:=fun e n=>hidT_get e n
  have noA:∀ {b:Addr}{o:Obj}{es:Array DictEntry}{ep:Nat},s₁.heap.get? b=some o->o.data = .dict es ep->H b=none:=fun {b o es ep} e d=>by
   cases q:H b with
   |none=>rfl
   |some u =>
    have e':b=a:=hA b (by rw[q];simp)
    subst e'
    rw[ha]at e;cases e
    have d':Data.seq vs.toArray _=Data.dict es ep:=d
    cases d'
  have nsK:∀ {b:Addr}{m:Str->Option Value},s₁.heap.Ns b m->(hidT s₁.heap H).Ns b m:=fun {b m} ⟨o,es,ep,e,d,r⟩=>⟨o,es,ep,base_of e (noA e d),d,r⟩
  have hKb:K.In (hidT s₁.heap H):=fun b o e=>base_of (KX b o e) (by
   cases q:H b with
   |none=>rfl
   |some u =>
    have e':b=a:=hA b (by rw[q];simp)
    subst e'
    rw[hK (by rw[q];simp)]at e;cases e)
  have hM:Mod K mg (hidT s₁.heap H):=⟨hKb,nsK hns,⟨mb,nsK hb,hbb⟩,let ⟨mc,h1,h2⟩:=hlim;⟨mc,nsK h1,h2⟩⟩
  have e0:Env0 P w K mg (hidT s₁.heap H) callerA [] s₁ H:=⟨rfl,hM,fun b o e=>of_hidT e,zBX (hidT_size _ _),trivial,fun b hb=>absurd (show b∈([]:List Addr)from hb) (by simp),hok,.of_eq hg⟩
  refine codeAny_mono ((F _ hKb (nsK hns)).run callerA [] s₁ H ⟨[.ref a],[]⟩ [.ref a] [.ref a] _ _ hr e0 (hbind s₁ (.ref a)) (.cons rfl .nil) (hsp H hO hS)) fun r s' h=>?_
  cases r with
  |error e=>exact(hCX H e s' h).elim
  |ok fl =>
   cases fl with
   |next=>exact False.elim h
   |brk=>exact False.elim h
   |cont=>exact False.elim h
   |ret u =>
    obtain⟨v,H',os,bare,un,hok',r',q⟩:=h
    have q':v = .bl true:=q
    subst q'
    obtain rfl:u=Value.bool true:=r'
    refine⟨rfl,OldK.of_keep fun b o e=>?_,os,bare⟩
    cases q:H b with
    |none=>exact un.keep b o e q (by intro z;exact absurd (show b∈([]:List Addr)from z) (by simp)) (by simp)
    |some u =>
     rcases hO b with z |⟨ob,xs,z⟩
     ·rw[q]at z;cases z
     ·have z2:=un.frzs b ob _ z
      obtain⟨e1,_⟩:=hok b _ z
      obtain⟨e2,_⟩:=hok' b _ z2
      rw[e]at e1;cases e1
      exact e2
 cases hk:K.lookup a with
 |some o =>
  -- the script is one of the module's own objects
  have e:=KX a o hk
  rw[ha]at e
  cases e
  refine core (fun _=>none) (fun _=>.inl rfl) (.inr ⟨_,vs.toArray,_,hk,rfl,rfl,rfl,by rw[zY,lenV];exact hl,by simpa using rv⟩) (fun b u z=>by have z':(none:Option HO)=some u:=z;cases z') (fun b z=>absurd rfl z) fun z=>absurd rfl z
 |none =>
  refine core (fun b=>if b=a then some (.frz { cls:=.type "list",data:=.seq vs.toArray } (.lst (ns.map V.int)))else none) (fun b=>?_) (.inl (.inr ⟨{ cls:=.type "list",data:=.seq vs.toArray },if_pos rfl⟩)) (fun b u z=>?_) (fun b z=>?_) fun _=>hk
  ·by_cases hb:b=a
   ·exact .inr ⟨_,_,if_pos hb⟩
   ·exact .inl (if_neg hb)
  ·by_cases hb:b=a
   ·have z':=(if_pos hb).symm.trans z
    cases z'
    subst hb
    exact⟨ha,by rw[zA];exact hl,vs,_,rv,ha⟩
   ·have z':=(if_neg hb).symm.trans z
    cases z'
  ·by_cases hb:b=a
   ·exact hb
   ·exact absurd (if_neg hb) z
open PySem PySem.Spec PyProof.Rows
theorem walk_of{l:PySem.W.OpenLaw}{n k:Nat}{q:Program}{loose:List Str}{XP:(Str->Option Value)->Heap->Prop}{YP:World->Heap->Prop}{d:DefRec}{K:Params->PySem.W.Frag}{CX:World->CXT}{sp:World->Sp}{x:Str}
  (hn:l.most=some n) (hn2:n<=sizeLine) (hdf:d.params.defaults=[]) (hr:Room k callerA)
  (hY:∀ (w:World) (h:Heap),YP w h->(K w.params).In h)
  (F:∀ (w:World) (mg:Str->Option Value) (fa:Addr) (h:Heap),(K w.params).In h->h.Ns mainGlobals mg->mg d.name=some (.ref fa) ->
   ∃ fd:FuncData,(∀ (s:Shared) (u:Value),BindsTo s fd ⟨[u],[]⟩ [(x,u)]) /\
    ∀ base:Heap,(K w.params).In base->base.Ns mainGlobals mg->FnOk l.prog w (K w.params) mg base (CX w) k fa fd [x] (sp w))
  (hsp:∀ (w:World) (H:Hp) (a:Addr) (ns:List Int),ns.length<=n->Only H->SqL (K w.params) H a (ns.map V.int)->sp w [.ref a] H (fun v _=>v = .bl true) fun _ _ _=>False)
  (hCX:∀ (w:World) (H:Hp) (s:Shared) (e:Value) (s':Shared),CX w [] H s (fun _ _ _=>False) e s'->False) :
  PySem.W.WalkO q loose XP YP l.row.toRowW d [] (fun f vs=>PySem.call f vs):=by
 refine Att.attach_call hn hdf fun w s₀ s₁ mg mb fa o pm cd doc a vs ns G Y ho hd hcd hmg hobj hints hlen hg=>?_
 have KX:=hY w _ Y
 obtain⟨fd,hb,hF⟩:=F w mg fa _ KX G.T.g hmg
 exact law_call KX G.T.g G.T.b G.T.builtins G.T.nolimit hg hobj hints (zAE hlen hn2) hr hF hb (fun H hO hS=>hsp w H a ns hlen hO hS) fun H e s'=>hCX w H s₁ e s'
open PySem PySem.Spec PyProof.Rows
noncomputable def defArgs(s:Stmt):Arguments:=match s with
 | .FunctionDef _ a _ _ _ _ _ _ _ _=>a
 | _=>{ posonlyargs:=[],args:=[],vararg:=none,kwonlyargs:=[],kw_defaults:=[],kwarg:=none,defaults:=[] }
noncomputable def defBody(s:Stmt):List Stmt:=match s with
 | .FunctionDef _ _ b _ _ _ _ _ _ _=>b
 | _=>[]
noncomputable def defScope(s:Stmt):Scope:=match s with
 | .FunctionDef _ _ _ _ _ _ sc _ _ _=>sc
 | _=>{ kind:=.function,names:=[],isGenerator:=false,isCoroutine:=false }
noncomputable abbrev CX0:CXT:=fun _ _ _ _ _ _=>False
noncomputable abbrev E0:XK:=fun _ _ _=>False
theorem pass0{X:Cx}:Passes CX0 X E0:=fun _ _ _ _ _ _ _ h=>h.elim
structure Fun(K:PySem.W.Frag)(x qual:Str)(st:Stmt)(f:Addr)(fd:FuncData):Prop where
 ex:∃ (oc:Value) (od:Option Addr) (kV doc pm:Value) (an:Option Addr) (cdv ct:Value) (osl:Array (Option Value)),
  fd=PySem.W.fnOf x qual (defArgs st) (defBody st) (defScope st) .none kV doc pm an cdv ct/\K.lookup f=some ⟨oc,od,.func fd,osl⟩/\PySem.W.codeIn K cdv qual=true
 kp:PySem.W.keepIn K (.ref f)=true
section
variable{P:Program}{w:World}{K:PySem.W.Frag}{mg:Str->Option Value}{base:Heap}
theorem Fun.ok{x qual:Str}{st:Stmt}{f:Addr}{fd:FuncData}{N ps:List Str}{k:Nat}{sp:Sp}(F:Fun K x qual st f fd)(S:FnScope N ps (defScope st))(len:∀ vs H Q E,sp vs H Q E->vs.length=ps.length)
  (hbody:∀ (cdv:Value) (A:Around) (outer:List Env) (s:Shared) (H:Hp) (vs:List V) (Q:VK) (E:XK),Room k (A.deeper (envOfC qual (defScope st) s.heap.objs.size f cdv))->sp vs H Q E ->
   ∃ t,PSs (cxOf CX0 P w K mg base N qual (defScope st) f cdv A outer s H E).nox (defBody st) t/\t { nx:=fun _ H'=>Q .non H',rt:=Q } (start N vs) H):FnOk P w K mg base CX0 (k+1) f fd ps sp:=by
 obtain⟨oc,od,kV,doc,pm,an,cdv,ct,osl,rfl,lk,hcd⟩:=F.ex
 refine fn_of lk hcd S len fun A outer s H vs Q E hr hsp=>?_
 obtain⟨t,h,q⟩:=hbody cdv A outer s H vs Q E hr hsp
 exact⟨t,h.nox,q⟩
theorem Fun.binds{x qual:Str}{st:Stmt}{f:Addr}{fd:FuncData}{ps:List Str}(F:Fun K x qual st f fd)
  (h:∀ (kV doc pm:Value) (an:Option Addr) (cdv ct:Value) (us:List Value),us.length=ps.length->bindArgs (PySem.W.fnOf x qual (defArgs st) (defBody st) (defScope st) .none kV doc pm an cdv ct) ⟨us,[]⟩=pure (ps.zip us)):Binds K fd ps []:=by
 obtain⟨oc,od,kV,doc,pm,an,cdv,ct,osl,rfl,lk,hcd⟩:=F.ex
 exact .all (h kV doc pm an cdv ct)
theorem fun_mk{x qual:Str}{st:Stmt}{f:Addr}{oc:Value}{od an:Option Addr}{osl:Array (Option Value)}{kV doc pm cdv ct:Value}(l:K.lookup f=some ⟨oc,od,.func (PySem.W.fnOf x qual (defArgs st) (defBody st) (defScope st) .none kV doc pm an cdv ct),osl⟩)
  (c:PySem.W.codeIn K cdv qual=true) (k:PySem.W.keepIn K (.ref f)=true):Fun K x qual st f (PySem.W.fnOf x qual (defArgs st) (defBody st) (defScope st) .none kV doc pm an cdv ct):=⟨⟨oc,od,kV,doc,pm,an,cdv,ct,osl,rfl,l,c⟩,k⟩
end
theorem hu_of{A:Around}{k:Nat}(hr:Room k A):A.units+1<cLine:=zAR (Nat.add_le_add_left (by decide:1<=64) _) hr.units
section
variable{X:Cx}
theorem pv(i:Nat){x:Str}{pos:Pos}(hN:X.N[i]?=some x:=by rfl)(hv:Vis X.env.scope x:=by first | exact Or.inl rfl | exact Or.inr (Or.inl rfl) | exact Or.inr (Or.inr rfl))(hd:(x ==("__debug__":Str))=false:=by decide)
  (hcd:(x ==("__classdict__":Str))=false:=by decide):PE X (.Name x pos) (tVar i):=pe_var hN hv hd hcd
end
theorem iteF{A B:Prop}(h:B):if false=true then A else B:=by
 rw[if_neg zT]
 exact h
theorem iteT{A B:Prop}(h:A):if true=true then A else B:=by
 rw[if_pos rfl]
 exact h
theorem ite2{c A B:Prop}[Decidable c](h1:c->A)(h2:¬ c->B):if c then A else B:=by
 by_cases h:c
 ·rw[if_pos h]
  exact h1 h
 ·rw[if_neg h]
  exact h2 h
noncomputable def Same(H H':Hp):Prop:=∀ b o,H b=some o->H' b=some o
theorem Same.refl(H:Hp):Same H H:=fun _ _ h=>h
theorem Same.trans{H H1 H2:Hp}(a:Same H H1)(b:Same H1 H2):Same H H2:=fun c o h=>b c o (a c o h)
theorem Same.free{H H':Hp}(e:Same H H'){l:Addr}(h:H' l=Option.none):H l=Option.none:=by
 cases q:H l with
 |none=>rfl
 |some o =>
  rw[e l o q]at h
  cases h
theorem Same.seq{K:PySem.W.Frag}{H H':Hp}{a:Addr}{xs:List V}(e:Same H H')(h:SqL K H a xs):SqL K H' a xs:=by
 rcases h with(h |⟨o,h⟩) | h
 ·exact .inl (.inl (e _ _ h))
 ·exact .inl (.inr ⟨o,e _ _ h⟩)
 ·exact .inr h
open PySem PySem.Spec PyProof.Rows
end L2
set_option maxHeartbeats 4000000
namespace L2
open PySem PySem.Spec PyProof.Rows
noncomputable def closCl(cells:List (Str×Addr)):List (Str×NameKind)->List (Str×Addr)->List (Str×Addr)
 |[],acc=>acc
 |(n,k) :: r,acc=>closCl cells r (if k == .free then(n,(cells.lookup n).getD 0) :: acc else acc)
theorem closureFor_cells{scope:Scope}{env:Env}(h:∀ x∈scope.names,x.2 = .free->∃ c,env.cells.lookup x.1=some c) :
  closureFor scope env=pure (closCl env.cells scope.names []):=by
 have gen:∀ (l:List (Str×NameKind)) (acc:List (Str×Addr)),(∀ x∈l,x.2 = .free->∃ c,env.cells.lookup x.1=some c) ->
   (forIn l acc fun(x:Str×NameKind) (cs:List (Str×Addr))=>(do
    if x.2 == .free then
     let c <- cellOf env x.1
     pure (ForInStep.yield ((x.1,c) :: cs))
    else pure (ForInStep.yield cs):Sem (ForInStep (List (Str×Addr)))))=pure (closCl env.cells l acc):=by
  intro l
  induction l with
  |nil=>intro acc _;rfl
  |cons x r ih =>
   intro acc hx
   obtain⟨n,k⟩:=x
   rw[List.forIn_cons]
   have hr:=fun y hy=>hx y (zD _ hy)
   by_cases hk:k = .free
   ·subst hk
    obtain⟨c,hc⟩:=hx (n,.free) zF rfl
    have e1:cellOf env n=pure c:=by unfold cellOf;rw[hc]
    simp only[e1,beq_self_eq_true,if_true,pure_bind]
    rw[ih _ hr]
    have hc':env.cells.lookup n=some c:=hc
    simp[closCl,hc']
   ·have hb:(k == NameKind.free)=false:=by simpa using hk
    simp only[hb,zBW,if_false,pure_bind]
    rw[ih _ hr]
    simp[closCl,hb]
 have g:=gen scope.names [] h
 unfold closureFor
 simp only[bind_pure]
 exact g
theorem closCl_sound{cells:List (Str×Addr)}:∀ (l:List (Str×NameKind)) (acc:List (Str×Addr)),(∀ x∈l,x.2 = .free->∃ c,cells.lookup x.1=some c) ->
  (∀ y c,acc.lookup y=some c->cells.lookup y=some c)->∀ y c,(closCl cells l acc).lookup y=some c->cells.lookup y=some c
 |[],_,_,ha,y,c,e=>ha y c e
 |(n,k) :: r,acc,h,ha,y,c,e=>by
  refine closCl_sound r _ (fun x hx=>h x (zD _ hx)) ?_ y c e
  intro y c e
  by_cases hk:k = .free
  ·subst hk
   obtain⟨c',hc⟩:=h (n,.free) zF rfl
   have hc:cells.lookup n=some c':=hc
   simp only[beq_self_eq_true,if_true,zBT]at e
   by_cases hy:y == n
   ·have:y=n:=by simpa using hy
    subst this
    simp[hc]at e
    rw[hc,e]
   ·simp only[hy]at e
    exact ha y c e
  ·have hb:(k == NameKind.free)=false:=by simpa using hk
   rw[hb,if_neg (by simp)]at e
   exact ha y c e
theorem closCl_acc{cells:List (Str×Addr)}:∀ (l:List (Str×NameKind)) (acc:List (Str×Addr)) (y:Str),(∃ c,acc.lookup y=some c)->∃ c,(closCl cells l acc).lookup y=some c
 |[],_,_,h=>h
 |(n,k) :: r,acc,y,h=>by
  refine closCl_acc r _ y ?_
  by_cases hk:(k == NameKind.free)=true
  ·rw[if_pos hk,zBT]
   by_cases hy:(y == n)=true
   ·rw[hy];exact⟨_,rfl⟩
   ·rw[zBU.mpr hy];exact h
  ·rw[if_neg hk];exact h
theorem closCl_has{cells:List (Str×Addr)}:∀ (l:List (Str×NameKind)) (acc:List (Str×Addr)) (y:Str),(y,NameKind.free)∈l->∃ c,(closCl cells l acc).lookup y=some c
 |[],_,_,h=>nomatch h
 |(n,k) :: r,acc,y,h=>by
  rcases zW.mp h with e | h
  ·have e1:n=y:=(congrArg Prod.fst e).symm
   have e2:k=NameKind.free:=(congrArg Prod.snd e).symm
   subst e1 e2
   refine closCl_acc r _ n ?_
   rw[if_pos (by rfl),zBT,beq_self_eq_true]
   exact⟨_,rfl⟩
  ·exact closCl_has r _ y h
theorem relabel_mem{scope:Scope}{env:Env}:∀ {l:List (Str×NameKind)}{x:Str}{k':NameKind},
  (l.map fun(n,k)=>if(k == NameKind.free && env.scope.kind == .function && env.kindOf n == some .cell)then(n,NameKind.cell)else(n,k)).lookup x=some k' ->
  ∃ k,(x,k)∈l/\(k=k'\/(k = .free/\k' = .cell))
 |[],_,_,h=>by simp at h
 |(n,k) :: r,x,k',h=>by
  rw[zN]at h
  dsimp only at h
  by_cases hc:(k == NameKind.free && env.scope.kind == .function && env.kindOf n == some .cell)=true
  ·simp only[hc,if_true,zBT]at h
   by_cases hx:(x == n)=true
   ·rw[hx]at h
    have:x=n:=by simpa using hx
    subst this
    have hk:k = .free:=by
     rw[zCC,zCC]at hc
     simpa using hc.1.1
    exact⟨k,zF,.inr ⟨hk,by cases h;rfl⟩⟩
   ·rw[zBU.mpr hx]at h
    obtain⟨k1,h1,h2⟩:=relabel_mem (scope:=scope) h
    exact⟨k1,zD _ h1,h2⟩
  ·rw[if_neg hc,zBT]at h
   by_cases hx:(x == n)=true
   ·rw[hx]at h
    have:x=n:=by simpa using hx
    subst this
    exact⟨k,zF,.inl (by cases h;rfl)⟩
   ·rw[zBU.mpr hx]at h
    obtain⟨k1,h1,h2⟩:=relabel_mem (scope:=scope) h
    exact⟨k1,zD _ h1,h2⟩
theorem relabel_free{env:Env}:∀ {l:List (Str×NameKind)}{x:Str},l.lookup x=some .free ->
  (l.map fun(n,k)=>if(k == NameKind.free && env.scope.kind == .function && env.kindOf n == some .cell)then(n,NameKind.cell)else(n,k)).lookup x=some .cell \/
  (l.map fun(n,k)=>if(k == NameKind.free && env.scope.kind == .function && env.kindOf n == some .cell)then(n,NameKind.cell)else(n,k)).lookup x=some .free
 |[],_,h=>by simp at h
 |(n,k) :: r,x,h=>by
  rw[zN]
  dsimp only
  rw[zBT]at h
  by_cases hx:(x == n)=true
  ·rw[hx]at h
   have hk:k = .free:=by cases h;rfl
   by_cases hc:(k == NameKind.free && env.scope.kind == .function && env.kindOf n == some .cell)=true
   ·left;rw[if_pos hc,zBT,hx]
   ·right;rw[if_neg hc,zBT,hx,hk]
  ·rw[zBU.mpr hx]at h
   have ih:=relabel_free (env:=env) h
   by_cases hc:(k == NameKind.free && env.scope.kind == .function && env.kindOf n == some .cell)=true
   ·rw[if_pos hc,zBT,zBU.mpr hx];exact ih
   ·rw[if_neg hc,zBT,zBU.mpr hx];exact ih
theorem lookup_mem{α:Type}[BEq α][LawfulBEq α]{β:Type}:∀ {l:List (α×β)}{x:α}{k:β},l.lookup x=some k->(x,k)∈l
 |[],_,_,h=>by simp at h
 |(n,k') :: r,x,k,h=>by
  rw[zBT]at h
  by_cases hx:(x == n)=true
  ·rw[hx]at h
   have:x=n:=by simpa using hx
   subst this
   cases h
   exact zF
  ·rw[zBU.mpr hx]at h
   exact zD _ (lookup_mem h)
noncomputable def cxIn(X:Cx)(N':List Str)(scope:Scope)(C:Addr)(s2:Shared)(H2:Hp)(fp:List Addr):Cx :=
 { X with N:=N',s₀:=s2,H₀:=H2,env:=compEnvC scope (closCl X.env.cells scope.names []) C X.env,outer:=X.stack,ex:=fp,fn:=fun _=>false,xe:=fun _ _=>False }
noncomputable def capt(cap:List (Option Nat))(σ:St):St:=cap.map fun o=>o.bind fun j=>(σ[j]?).join
structure CompScope(N':List Str)(cap:List (Option Nat))(N:List Str)(sc0 scope:Scope):Prop where
 kind:scope.kind = .function
 nocell:∀ x∈scope.names,x.2≠.cell
 loc:∀ x∈scope.names,x.2 = .local->scope.names.lookup x.1=some .local
 fre:∀ x∈scope.names,x.2 = .free->sc0.names.lookup x.1=some .cell\/sc0.names.lookup x.1=some .free
 len:cap.length=N'.length
 cap:∀ j∈List.range cap.length,match cap[j]? with
  |some (some i)=>match N'[j]? with
   |some x=>N[i]?=some x/\scope.names.lookup x=some .free
   |none=>False
  | _=>True
section
variable{X:Cx}{N':List Str}{cap:List (Option Nat)}{scope:Scope}{C:Addr}{s2 s4:Shared}{H2:Hp}{fp:List Addr}{pins:List (Addr×Obj)}{σ:St}
theorem CompScope.clos(S:CompScope N' cap X.N X.env.scope scope)(I:Inv X pins σ H2 s2):∀ x∈scope.names,x.2 = .free->∃ c,X.env.cells.lookup x.1=some c :=
 fun x hx hf=>I.ok.has x.1 (S.fre x hx hf)
theorem cxIn_ok(S:CompScope N' cap X.N X.env.scope scope)(I:Inv X pins σ H2 s2)(hC:s2.heap.objs.size<=C)(hfp:∀ b∈fp,FpOk X pins H2 b)(hfo:∀ b∈fp,∃ o,s2.heap.get? b=some o):(cxIn X N' scope C s2 H2 fp).Ok where
 mod:=I.ok.mod
 kind:=S.kind
 glob:=I.ok.glob
 blt:=I.ok.blt
 above:=hC
 inj:=fun x y c e1 e2=>I.ok.inj x y c (closCl_sound _ _ (S.clos I) (fun y c e=>by simp at e) x c e1) (closCl_sound _ _ (S.clos I) (fun y c e=>by simp at e) y c e2)
 has:=fun x h=>by
  have hm:(x,NameKind.free)∈scope.names:=by
   rcases h with h | h
   ·obtain⟨k,hk,e |⟨e,_⟩⟩:=relabel_mem (scope:=scope) (l:=scope.names) h
    ·subst e;exact absurd rfl (S.nocell _ hk)
    ·subst e;exact hk
   ·obtain⟨k,hk,e |⟨_,e⟩⟩:=relabel_mem (scope:=scope) (l:=scope.names) h
    ·subst e;exact hk
    ·cases e
  exact closCl_has _ _ x hm
 cab:=fun _ _ h _=>nomatch h
 hd:=I.ok.hd
 frames:=I.ok.frames
 stk:=.inl rfl
 exf:=fun b hb=>⟨fun z=>by
   obtain⟨o,ho⟩:=hfo b hb
   have h1:=zZ (zQ ho) hC
   have z:b=C:=z
   rw[z]at h1
   exact zAM _ h1,fun x c e=>(hfp b hb).2.2.2.2.1 x c (closCl_sound _ _ (S.clos I) (fun y c e=>by simp at e) x c e)⟩
 bs:=I.bs
 bsz:=zAE I.ok.bsz I.sz
 noex:=fun b o e hb=>by
  rcases(hfp b hb).2.2.2.1 with z | z
  ·exact I.ok.noex b o e z
  ·exact absurd (zZ (zQ e) (zAE I.ok.bsz z)) (zAM _)
 exfs:=fun b hb z=>by
  rcases zW.mp (I.stkSub b z)with e | e
  ·exact(hfp b hb).2.1 e
  ·exact(hfp b hb).2.2.1 e
 funs:=I.stack
 frf:=I.stkFree
theorem cxIn_inv(S:CompScope N' cap X.N X.env.scope scope)(I:Inv X pins σ H2 s2)(hC:s2.heap.objs.size<=C)(hfp:∀ b∈fp,FpOk X pins H2 b)(hfo:∀ b∈fp,∃ o,s2.heap.get? b=some o)
  (ho:s4.os=s2.os) (hg:s4.gens=s2.gens) (k:∀ b o,s2.heap.get? b=some o->s4.heap.get? b=some o) {m:Str->Option Value} (hn:s4.heap.Ns C m) {D:Addr}{oD:Obj}
  (hD:s4.heap.get? D=some oD) (hDs:s2.heap.objs.size<=D) (hDC:D≠C) (hDc:∀ v,oD.data≠.cell v) :
  Inv (cxIn X N' scope C s2 H2 fp) (pins++[(D,oD)]) (capt cap σ) H2 s4 where
 ok:=cxIn_ok S I hC hfp hfo
 os:=ho
 bare:=by rw[hg];exact I.bare
 base:=Un.kept k
 loc:=by
  refine⟨m,hn,fun j x v e1 e2 _=>?_⟩
  have hj:j<cap.length:=by rw[S.len];exact(zI.mp e1).1
  have e1:N'[j]?=some x:=e1
  have hc:=S.cap j (zBG.mpr hj)
  unfold capt at e2
  rw[zAB]at e2
  cases hq:cap[j]? with
  |none=>rw[hq]at e2;cases e2
  |some o =>
   rw[hq]at e2 hc
   cases o with
   |none=>cases e2
   |some i =>
    simp only[e1]at hc
    obtain⟨hN,hfr⟩:=hc
    have e3:σ[i]?=some (some v):=by
     have e2:(σ[i]?).join=some v:=Option.some.inj e2
     cases hs:σ[i]? with
     |none=>rw[hs]at e2;cases e2
     |some w=>rw[hs]at e2;have e2:w=some v:=e2;rw[e2]
    have hm:=lookup_mem hfr
    have hk:=S.fre _ hm rfl
    obtain⟨m0,hn0,hl0⟩:=I.loc
    obtain⟨u,r,l⟩:=hl0 i x v hN e3 (.inr hk)
    refine⟨u,r,?_⟩
    rcases l with⟨l,_⟩ |⟨_,c,e,z⟩
    ·rcases hk with hk | hk
     ·rw[show X.env.kindOf x=some .cell from hk]at l;cases l
     ·rw[show X.env.kindOf x=some .free from hk]at l;cases l
    ·obtain⟨c',hc'⟩:=closCl_has (cells:=X.env.cells) scope.names [] x hm
     have hs:=closCl_sound scope.names [] (S.clos I) (fun y c e=>by simp at e) x c' hc'
     rw[e]at hs
     cases hs
     refine .inr ⟨relabel_free hfr,c,hc',?_⟩
     obtain⟨oc,ho',hd'⟩:=z
     exact⟨oc,k _ _ ho',hd'⟩
 cell:=fun x c e=>by
  obtain⟨v,oc,ho',hd'⟩:=I.cell x c (closCl_sound scope.names [] (S.clos I) (fun y c e=>by simp at e) x c e)
  exact⟨v,oc,k _ _ ho',hd'⟩
 free:=I.hok.fresh hC
 freeC:=fun x c e=>I.freeC x c (closCl_sound scope.names [] (S.clos I) (fun y c e=>by simp at e) x c e)
 pin:=fun p hp=>by
  have hp:p∈X.pn++(pins++[(D,oD)]):=hp
  have cne:∀ b o,s2.heap.get? b=some o->b≠C:=fun b o e z=>by
   have h1:=zZ (zQ e) hC
   rw[z]at h1
   exact zAM _ h1
  rw[<- zAI]at hp
  rcases zX.mp hp with hp | hp
  ·obtain⟨e,n,ne,nf,d⟩:=I.pin p hp
   exact⟨k _ _ e,n,cne _ _ e,fun z=>by
    rcases zW.mp (I.stkSub p.1 z)with e | e
    ·exact ne e
    ·exact nf e,d⟩
  ·have e:p=(D,oD):=by simpa using hp
   subst e
   refine⟨hD,I.hok.fresh hDs,hDC,fun z=>?_,hDc⟩
   rcases zW.mp (I.stkSub D z)with e | e
   ·have h1:=zZ I.lt hDs
    rw[e]at h1
    exact zAM _ h1
   ·exact I.nofs hDs e
 hok:=I.hok.kept k
 len:=by unfold capt;rw[zA];exact S.len
end
noncomputable def PF(X:Cx)(ifs:List Expr)(t:TT):Prop :=
 ∀ (pins:List (Addr×Obj)) (s:Shared) (σ:St) (H:Hp) (Q:Bool->Hp->Prop),Inv X pins σ H s->t σ H Q ->
  wpAny (model X.prog X.w) X.A (forIn ifs true fun c r=>if r=true then do let ok <- isTrue c X.env (eval c X.env);pure (ForInStep.yield ok)else pure (ForInStep.yield r)) (TP X pins σ Q) X.xe s
noncomputable def tTru:TT:=fun _ H Q=>Q true H
theorem pf_nil{X:Cx}:PF X [] tTru:=fun _ _ _ H _ I h=>wpAny_tests_nil ⟨H,I,h⟩
theorem pf_one{X:Cx}{c:Expr}{t:TT}(h:PT X c t):PF X [c] t:=fun pins s σ H Q I q=>wpAny_tests_one (h pins s σ H Q I q)
section
variable{prog:Program}{w:World}{A:Around}{E:Value->Shared->Prop}{R:Result->Shared->Prop}{s:Shared}
theorem codeAny_compLoop_any{elt target iter:Expr}{ifs:List Expr}{scope:Scope}{pos:Pos}{it acc:Value}{env:Env}(I:Nat->Shared->Prop)
  (turn:∀ n s,I n s->wpAny (model prog w) A (pyNext it) (fun r s₁=>match r with
   |none=>R (.ok .next) s₁
   |some v=>wpAny (model prog w) A (letOwnedTupleGo target it v) (fun _ s₁'=>wpAny (model prog w) A (assign target env v) (fun _ s₂ =>
     wpAny (model prog w) A (forIn ifs true fun c r=>if r=true then do let ok <- isTrue c env (eval c env);pure (ForInStep.yield ok)else pure (ForInStep.yield r)) (fun ok s₃ =>
      if ok=true then wpAny (model prog w) A (eval elt env) (fun x s₄ =>
       wpAny (model prog w) A (call (.builtin "list.append") [acc,x]) (fun _ s₅=>∃ m,m<n/\I m s₅) (fun _ _=>False) s₄) (fun _ _=>False) s₃
      else ∃ m,m<n/\I m s₃) (fun _ _=>False) s₂) (fun _ _=>False) s₁') (fun _ _=>False) s₁) (fun _ _=>False) s)
  (n:Nat) (h:I n s) :
  codeAny (model prog w) A (.compLoop (.ListComp elt [⟨target,iter,ifs,0⟩] scope pos) 0 it acc env) R s:=by
 refine codeAny_loop rfl I (fun n s hI=>?_) n h
 show wpAny _ A ((compTurn (.ListComp elt [⟨target,iter,ifs,0⟩] scope pos) 0 it acc env).onRaise (fun x=>do noteFrame x env;theTreesLotGoes x)) _ _ s
 refine wpAny_noted ?_
 rw[compTurn_list]
 refine zB (wpAny_standAt (zB (wpAny_mono (turn n s hI) (fun r s₁ h₁=>?_) fun _ _ h'=>h'.elim)))
 cases r with
 |none=>exact zG h₁
 |some v =>
  refine zB (wpAny_mono h₁ (fun _ s₁' h₁'=>?_) fun _ _ h'=>h'.elim)
  refine zB (wpAny_mono h₁' (fun _ s₂ h₂=>zB (wpAny_mono h₂ (fun ok s₃ h₃=>?_) fun _ _ h'=>h'.elim)) fun _ _ h'=>h'.elim)
  cases ok with
  |false=>exact zG ⟨rfl,h₃⟩
  |true =>
   exact zB (zB (wpAny_mono h₃ (fun x s₄ h₄=>zB (wpAny_mono h₄ (fun _ s₅ h₅=>zG (zG ⟨rfl,h₅⟩)) fun _ _ h'=>h'.elim)) fun _ _ h'=>h'.elim))
end
noncomputable def Kp:St->St->Prop
 |[],[]=>True
 |none :: r,_ :: r'=>Kp r r'
 |some v :: r,o :: r'=>o=some v/\Kp r r'
 | _,_=>False
theorem Kp.length:∀ {a b:St},Kp a b->a.length=b.length
 |[],[],_=>rfl
 |none :: r,_ :: r',h=>congrArg (· + 1) (Kp.length (a:=r) (b:=r') h)
 |some v :: r,o :: r',h=>congrArg (· + 1) (Kp.length (a:=r) (b:=r') h.2)
 |[],_ :: _,h=>h.elim
 |none :: _,[],h=>h.elim
 |some _ :: _,[],h=>h.elim
theorem Kp.get:∀ {a b:St},Kp a b->∀ (i:Nat) (v:V),a[i]?=some (some v)->b[i]?=some (some v)
 |[],[],_,i,v,e=>e
 |none :: r,_ :: r',h,0,v,e=>by simp at e
 |none :: r,_ :: r',h,i+1,v,e=>by simpa using Kp.get (a:=r) (b:=r') h i v (by simpa using e)
 |some w :: r,o :: r',h,0,v,e=>by rw[h.1];simpa using e
 |some w :: r,o :: r',h,i+1,v,e=>by simpa using Kp.get (a:=r) (b:=r') h.2 i v (by simpa using e)
 |[],_ :: _,h,_,_,_=>h.elim
 |none :: _,[],h,_,_,_=>h.elim
 |some _ :: _,[],h,_,_,_=>h.elim
noncomputable def compTurns(J:It)(cap:List (Option Nat))(σ:St)(H1:Hp)(Q:VK)(g:TG)(tc:TT)(te:TE):Prop:=∃ (n:Nat) (P:Nat->List V->Hp->Prop),n<=sizeLine/\P 0 [] H1 /\
 ∀ i ys H,ys.length<=i->i<=n->P i ys H->(J.stop i H/\∀ D,H D=none->Q (.ref D) (upd H D (.lst ys))) \/
  (i<n/\J.go i H/\∀ x H',J.yld i H x H'->g x (capt cap σ) H' fun σ2 H2=>Kp (capt cap σ) σ2/\tc σ2 H2 fun b H3=>if b=true then te σ2 H3 fun y H4=>P (i+1) (ys++[y]) H4 else P (i+1) ys H3)
noncomputable def tComp(cap:List (Option Nat))(wi:TI)(g:TG)(tc:TT)(te:TE):TE:=fun σ H Q=>wi σ H fun J H1=>compTurns J cap σ H1 Q g tc te
noncomputable def CompEnd(X:Cx)(pins:List (Addr×Obj))(σ:St)(Q:VK)(acc:Value)(C:Addr)(r:Result)(s':Shared):Prop :=
 match r with
 | .ok _=>∃ v H',Inv X pins σ H' s'/\RelV v acc/\Q v H'/\(∃ m,s'.heap.Ns C m)/\FpOk X pins H' C
 | .error _=>False
section
variable{X:Cx}{elt tg iter:Expr}{ifs:List Expr}{scope:Scope}{pos:Pos}{N':List Str}{cap:List (Option Nat)}{wi:TI}{g:TG}{tc:TT}{te:TE}
theorem comp_run(hc:X.calm=true)(S:CompScope N' cap X.N X.env.scope scope)(hi:PI X tg iter wi)(hg:∀ C s H fp,PG (cxIn X N' scope C s H fp) tg g)
  (ht:∀ C s H fp,PF (cxIn X N' scope C s H fp) ifs tc) (he:∀ C s H fp,PE (cxIn X N' scope C s H fp) elt te)
  {pins:List (Addr×Obj)}{s:Shared}{σ:St}{H:Hp}{Q:VK} (I:Inv X pins σ H s) (h:tComp cap wi g tc te σ H Q) :
  wpAny (model X.prog X.w) X.A (eval iter X.env) (fun x s₁=>wpAny (model X.prog X.w) X.A (pyIter x) (fun it s₂=>wpAny (model X.prog X.w) X.A (newList []) (fun acc s₃ =>
   wpAny (model X.prog X.w) X.A (newFunctionEnv scope X.env.globals (closCl X.env.cells scope.names []) [] X.env.qual none .none (some X.env)) (fun cenv s₄ =>
    codeAny (model X.prog X.w) X.A (.compStart (.ListComp elt [⟨tg,iter,ifs,0⟩] scope pos) 0 it acc { cenv with scope:=relabel scope X.env }) (CompEnd X pins σ Q acc cenv.locals) s₄) X.xe s₃) X.xe s₂) X.xe s₁) X.xe s:=by
 refine thn (hi pins s σ H _ I h) fun v s1 h1=>thn h1 fun itv s2 h2=>?_
 obtain⟨it,fp,tn,J,H2,e,I2,T,st2,f2,n,P,hn,p0,turn⟩:=h2
 subst e
 refine wpAny_newObj_type (wpAny_newFunctionEnv S.nocell (by intro y hy;simp at hy) (fun h₁ hns₁ hsb₁=>?_) S.kind)
 dsimp only at hns₁ hsb₁ ⊢
 generalize hHp:s2.heap.push { cls:=.type "list",dict:=none,data:=.seq ([]:List Value).toArray } = Hq at hns₁ hsb₁ ⊢
 have hC:Hq.objs.size=s2.heap.objs.size+1:=by rw[<- hHp,Heap.size_push]
 have hDC:s2.heap.objs.size≠Hq.objs.size:=by rw[hC];exact zAG (Nat.lt_succ_self _)
 have hCle:s2.heap.objs.size<=Hq.objs.size:=by rw[hC];exact Nat.le_succ _
 have old:∀ b o,s2.heap.get? b=some o->h₁.get? b=some o:=fun b o e =>
  hsb₁.extBut b o (by rw[hC];exact zAG (zCG (zQ e))) (zC _ (hHp▸zC _ e))
 have hacc:h₁.PlainList s2.heap.objs.size #[]:=⟨_,hsb₁.extBut _ _ hDC (zC _ (hHp▸zV _ rfl))⟩
 have hfo:∀ b∈fp,∃ o,s2.heap.get? b=some o:=fun b hb=>let ⟨o,e,_⟩:=T.obj _ _ st2 b hb;⟨o,e⟩
 have st4:tn 0 h₁:=T.keep _ _ _ st2 fun b _ o e=>old b o e
 let D:Addr:=s2.heap.objs.size
 let C:Addr:=Hq.objs.size
 let Y:Cx:=cxIn X N' scope C s2 H2 fp
 have hDfp:D∉fp:=fun hb=>by
  obtain⟨o,e⟩:=hfo D hb
  exact zAM _ (zQ e)
 -- the iterator's objects,seen from within
 have stat:∀ {H':Hp}{oD:Obj},(∀ b∈fp,H' b=none)->∀ b∈fp,FpOk Y (pins++[(D,oD)]) H' b:=fun {H' oD} hn b hb=>by
  obtain⟨f0,f1,fx,f3,f4,f5⟩:=f2 b hb
  obtain⟨o,e⟩:=hfo b hb
  refine⟨hn b hb,fun z=>?_,fun z=>?_,.inl hb,fun x c e=>f4 x c (closCl_sound _ _ (S.clos I2) (fun y c e=>by simp at e) x c e),fun p hp=>?_⟩
  ·have h1:=zZ (zQ e) hCle
   have z:b=Hq.objs.size:=z
   rw[z]at h1
   exact zAM _ h1
  ·rcases zW.mp (I2.stkSub b z)with e | e
   ·exact f1 e
   ·exact fx e
  ·have hp:p∈X.pn++(pins++[(D,oD)]):=hp
   rw[<- zAI]at hp
   rcases zX.mp hp with hp | hp
   ·exact f5 p hp
   ·have q:p=(D,oD):=by simpa using hp
    subst q
    exact fun z=>hDfp (by rw[show D=b from z];exact hb)
 have loop:∀ s₃:Shared,s₃ = { s2 with heap:=h₁,toks:=s2.toks+([]:List (Str×Value)).length } ->
   codeAny (model X.prog X.w) X.A (.compLoop (.ListComp elt [⟨tg,iter,ifs,0⟩] scope pos) 0 (.ref it) (.ref s2.heap.objs.size) (compEnvC scope (closCl X.env.cells scope.names []) Hq.objs.size X.env))
    (CompEnd X pins σ Q (.ref s2.heap.objs.size) Hq.objs.size) s₃:=by
  rintro s₃ rfl
  have cellD:∀ x c,Y.env.cells.lookup x=some c->c≠D:=fun x c e z=>by
   obtain⟨v,q⟩:=I2.cell x c (closCl_sound _ _ (S.clos I2) (fun y c e=>by simp at e) x c e)
   have h1:=q.lt
   rw[show c=s2.heap.objs.size from z]at h1
   exact zAM _ h1
  have pinD:∀ p∈X.pn++pins,p.1≠D:=fun p hp z=>by
   have h1:=zQ (I2.pin p hp).1
   rw[show p.1=s2.heap.objs.size from z]at h1
   exact zAM _ h1
  have inD:∀ {pl:List (Addr×Obj)}{oD:Obj},(D,oD)∈Y.pn++((pins++[(D,oD)])++pl):=fun {pl oD}=>zL _ (zAQ _ (zL _ (by simp)))
  have inF:∀ {pl:List (Addr×Obj)}{oD:Obj}{p:Addr×Obj},p∈pl->p∈Y.pn++((pins++[(D,oD)])++pl):=fun {pl oD p} hp=>zL _ (zL _ hp)
  refine codeAny_compLoop_any (fun m s'=>∃ i ys H' its ep,m=n-i/\i<=n/\ys.length<=i/\Vals ys its/\Inv Y (pins++[(D,{ cls:=.type "list",data:=.seq its.toArray ep })]) (capt cap σ) H' s'/\tn i s'.heap/\(∀ b∈fp,H' b=none)/\P i ys H') ?_ n ?_
  ·rintro m s3 ⟨i,ys,H3,its,ep,rfl,hin,hyl,rv,I3,st3,fr3,p3⟩
   rcases turn i ys H3 hyl hin p3 with⟨stop,q⟩ |⟨hlt,go,step⟩
   ·refine thn (T.done Y rfl rfl rfl hc i _ s3 _ H3 (fun _ _=>False) I3 (stat fr3) st3 stop) fun r s4 ⟨hr,I4⟩=>?_
    subst hr
    obtain⟨eD,nD,_⟩:=I4.pin (D,{ cls:=.type "list",data:=.seq its.toArray ep }) (zL _ (zL _ (by simp)))
    have nD:H3 D=none:=nD
    have okn:ObjOk X.prog X.w (upd H3 D (.lst ys)) s4.heap D (.lst ys):=⟨zAE hyl (zAE hin hn),its,ep,rv,eD⟩
    have hok:HOk X.prog X.w (upd H3 D (.lst ys)) s4.heap:=fun b u e=>by
     by_cases hb:b=D
     ·subst hb;rw[yaa]at e;cases e;exact okn
     ·rw[upd_ne hb]at e
      exact(I4.hok b u e).stay (fun c v _ q=>q) (fun c q=>by rw[upd_ne (ne_of_none q nD)];exact q) fun c xs q=>by rw[upd_ne (ne_of_none q nD)];exact q
    have B:=I4.base
    have u:Un (frs X.stack) fp H2 (upd H3 D (.lst ys)) s2.heap s4.heap :=
     ⟨B.keep,B.slot,fun b o e n hx=>by rw[upd_ne (zAG (zQ e))];exact B.free b o e n hx,B.there,fun b xs e=>by rw[upd_ne (ne_of_none (B.tups b xs e) nD)];exact B.tups b xs e,
      fun b o xs e=>by rw[upd_ne (ne_of_none (B.frzs b o xs e) nD)];exact B.frzs b o xs e,fun b ps e=>by
       obtain⟨more,z⟩:=B.tbls b ps e
       exact⟨more,by rw[upd_ne (ne_of_none z nD)];exact z⟩⟩
    have IX:Inv X pins σ (upd H3 D (.lst ys)) s4:=I2.call' (ch:=fp) I4.os u hok I4.bare fun b hb=>by
     obtain⟨f0,f1,fx,f3,f4,f5⟩:=f2 b hb
     exact⟨f3,f1,f4,f5⟩
    have nC:(upd H3 D (.lst ys)) Hq.objs.size=none:=by rw[upd_ne (Ne.symm hDC)];exact I4.free
    obtain⟨m',hm',_⟩:=I4.loc
    exact⟨.ref D,_,IX,rfl,q D nD,⟨m',hm'⟩,I2.fpOk hCle nC⟩
   ·refine thn (T.item Y rfl rfl rfl hc i _ s3 _ H3 (fun _ _=>False) I3 (stat fr3) st3 go) fun r s4 ⟨u,hr,h4⟩=>?_
    subst hr
    refine thn h4 fun _ s5 ⟨x,H5,I5,r5,y5,st5,fr5⟩=>?_
    have I5':=I5.pinned (stat fr5) (T.obj _ _ st5)
    refine thn (hg C s2 H2 fp _ s5 _ H5 x u _ I5' r5 (step x H5 y5)) fun _ s6 ⟨σ6,H6,I6,kp,q6⟩=>?_
    refine thn (ht C s2 H2 fp _ s6 σ6 H6 _ I6 q6) fun b s7 ⟨H7,I7,q7⟩=>?_
    cases b with
    |false =>
     rw[if_neg zT]at q7 ⊢
     refine⟨n-(i+1),zBH n i hlt,i+1,ys,H7,its,ep,rfl,hlt,Nat.le_succ_of_le hyl,rv,I7.unpinned.weak kp.length kp.get,?_,fun b hb=>?_,q7⟩
     ·exact T.keep _ _ _ st5 fun b hb o e=>(I7.pin (b,o) (inF (mem_pinsAt hb e))).1
     ·obtain⟨o,e,d⟩:=T.obj _ _ st5 b hb
      exact(I7.pin (b,o) (inF (mem_pinsAt hb e))).2.1
    |true =>
     rw[if_pos rfl]at q7 ⊢
     refine thn (he C s2 H2 fp _ s7 σ6 H7 _ I7 q7) fun yv s8 ⟨y,H8,I8,r8,q8⟩=>?_
     obtain⟨eD,nD,_⟩:=I8.pin (D,{ cls:=.type "list",data:=.seq its.toArray ep }) inD
     have hsz:its.toArray.size<=sizeLine:=by
      rw[zY,<- rv.length]
      exact zAE hyl (zAE hin hn)
     refine wpAny_list_append_plain (items:=its.toArray) ⟨ep,eD⟩ (fun h9 pl9 sb9=>?_) hsz
     obtain⟨ep',e9⟩:=pl9
     have e9:h9.get? D=some { cls:=.type "list",data:=.seq (its++[yv]).toArray ep' }:=by rw[e9];simp
     have Ia:Inv Y pins σ6 H8 s8:=I8.pins_of fun p hp=>I8.pin p (zL _ (zAQ _ (zAQ _ hp)))
     have Ib:Inv Y pins σ6 H8 { s8 with heap:=h9 }:=Ia.turned (it:=D) (t':=s8.toks) (fun b o hb e=>(sb9.2 b hb).trans e) nD hDC (.inr (zJ _)) cellD pinD
     have Ic:Inv Y (pins++[(D,{ cls:=.type "list",data:=.seq (its++[yv]).toArray ep' })]) σ6 H8 { s8 with heap:=h9 }:=Ib.pins_of fun p hp=>by
      rcases zX.mp hp with hp | hp
      ·exact Ib.pin p (zL _ hp)
      ·have q:p=(D,{ cls:=.type "list",data:=.seq (its++[yv]).toArray ep' }):=by simpa using hp
       subst q
       obtain⟨_,_,z1,z2,_⟩:=I8.pin (D,{ cls:=.type "list",data:=.seq its.toArray ep }) inD
       exact⟨e9,nD,z1,z2,fun v z=>by cases z⟩
     refine⟨n-(i+1),zBH n i hlt,i+1,ys++[y],H8,its++[yv],ep',rfl,hlt,by simp;omega,Vals.append rv (.cons r8 .nil),Ic.weak kp.length kp.get,?_,fun b hb=>?_,q8⟩
     ·exact T.keep _ _ _ st5 fun b hb o e=>sb9.extBut b o (fun z=>hDfp (by rw[show D=b from Eq.symm z];exact hb)) (I8.pin (b,o) (inF (mem_pinsAt hb e))).1
     ·obtain⟨o,e,d⟩:=T.obj _ _ st5 b hb
      exact(I8.pin (b,o) (inF (mem_pinsAt hb e))).2.1
  ·obtain⟨ep,e⟩:=hacc
   refine⟨0,[],H2,[],ep,rfl,zAT _,zJ _,.nil,?_,st4,fun b hb=>(f2 b hb).1,p0⟩
   exact cxIn_inv (s4:={ s2 with heap:=h₁,toks:=s2.toks+([]:List (Str×Value)).length }) S I2 hCle f2 hfo rfl rfl old hns₁ e (zJ _) hDC fun v z=>by cases z
 exact codeAny_compStart_list (loop _ rfl) (T.self X.A 0 _ _ _ st4 (loop _ rfl))
theorem pe_comp(hc:X.calm=true)(S:CompScope N' cap X.N X.env.scope scope)(hi:PI X tg iter wi)(hg:∀ C s H fp,PG (cxIn X N' scope C s H fp) tg g)
  (ht:∀ C s H fp,PF (cxIn X N' scope C s H fp) ifs tc) (he:∀ C s H fp,PE (cxIn X N' scope C s H fp) elt te)
  (hs:∀ x,foldedSetIterable iter X.env x=pure x:=by intro _;rfl):PE X (.ListComp elt [⟨tg,iter,ifs,0⟩] scope pos) (tComp cap wi g tc te):=by
 intro pins s σ H Q I h
 rw[eval_ListComp]
 refine wpAny_comprehension_free (use:=none) rfl hs (closureFor_cells (S.clos I)) S.kind S.loc (thn (comp_run (pos:=pos) hc S hi hg ht he I h) fun x s1 h1=>thn h1 fun it s2 h2=>thn h2 fun acc s3 h3=>thn h3 fun cenv s4 h4=>?_)
 refine codeAny_mono h4 fun r s' hr=>?_
 cases r with
 |error x=>exact hr.elim
 |ok f =>
  obtain⟨v,H',I',rv,q,⟨m,hn⟩,f0,f1,f2,f3,f4,f5⟩:=hr
  refine⟨m,hn,fun h' sb=>⟨v,H',I'.turned (it:=cenv.locals) (t':=s'.toks) (fun b o hb e=>(sb.2 b hb).trans e) f0 f1 f3 f4 f5,rv,q⟩⟩
theorem ps_comp{i:Nat}{x:Str}{pos' spos:Pos}(hN:X.N.Nodup)(hx:X.N[i]?=some x)(hl:Loc X.env.scope x)(hc:X.calm=true)(S:CompScope N' cap X.N X.env.scope scope)(hi:PI X tg iter wi)(hg:∀ C s H fp,PG (cxIn X N' scope C s H fp) tg g)
  (ht:∀ C s H fp,PF (cxIn X N' scope C s H fp) ifs tc) (he:∀ C s H fp,PE (cxIn X N' scope C s H fp) elt te)
  (hs:∀ x,foldedSetIterable iter X.env x=pure x:=by intro _;rfl) (hsw:swapsWith (.ListComp elt [⟨tg,iter,ifs,0⟩] scope pos) (some (.Name x pos')) spos.line X.env=pure true:=by rfl)
  (hf:X.fn x=true\/X.env.scope.names.lookup x=some .local:=by first | exact .inl rfl | exact .inr rfl | assumption) :
  PS X (.Assign [.Name x pos'] (.ListComp elt [⟨tg,iter,ifs,0⟩] scope pos) spos) (tAsg (tComp cap wi g tc te) (gName i)):=by
 intro pins s σ H D I h
 rw[exec_Assign_Name_used _ _ _ _ hsw]
 refine zB (wpAny_standAt (zB ?_))
 show wpAny _ _ (do let _ <- comprehension (.ListComp elt [⟨tg,iter,ifs,0⟩] scope pos) scope X.env _ (newList []) false (eval iter X.env) (some (assign (.Name x pos') X.env))) _ _ s
 refine zB (wpAny_mono (wpAny_comprehension_free (use:=some (assign (.Name x pos') X.env)) (Q:=fun _ s'=>SP X pins D .next s') rfl hs (closureFor_cells (S.clos I)) S.kind S.loc
  (thn (comp_run (pos:=pos) hc S hi hg ht he I h) fun x s1 h1=>thn h1 fun it s2 h2=>thn h2 fun acc s3 h3=>thn h3 fun cenv s4 h4=>?_)) (fun _ s' hq=>zG (zG hq)) fun _ _ e=>e)
 refine codeAny_mono h4 fun r s' hr=>?_
 cases r with
 |error x=>exact hr.elim
 |ok f =>
  obtain⟨v,H',I',rv,q,⟨m,hn⟩,f0,f1,f2,f3,f4,f5⟩:=hr
  show wpAny _ _ (assign (.Name _ pos') X.env acc) _ _ _
  refine wpAny_assign_Name (store_ok2 I' hN hx hl rv (fun s'' I'' ⟨a,sb,ha⟩=>?_) hf)
  have hac:cenv.locals≠a:=by
   rcases ha with ha | ha
   ·rw[ha];exact f1
   ·exact Ne.symm (f4 _ a ha)
  refine⟨m,hn.sameBut sb hac,fun h' sb'=>⟨_,H',I''.turned (it:=cenv.locals) (t':=s''.toks) (fun b o hb e=>(sb'.2 b hb).trans e) f0 f1 f3 f4 f5,q⟩⟩
end
end L2
namespace Srt
open PySem PyProof.Rows
noncomputable def LtOk(κ:KeyKind)(kd:SortKind)(prog:Program)(w:World)(A:Around)(s:Shared):Prop :=
 ∀ (E:Value->Shared->Prop) (x y:Keyed) (a b:κ.α) (Q:Option Bool->SortSt->Prop) (st:SortSt),kindOf st=kd->κ.keyOf x.1=some a->κ.keyOf y.1=some b ->
  Q (some (κ.blt a b)) st->wpS (model prog w) A E s (lt' x y) Q st
structure SB(kd:SortKind)(a₀ b:Array Keyed)(lo:Nat)(pd:Array (Nat×Nat×Nat))(st:SortSt):Prop where
 perm:(arrOf st).Perm a₀
 kind:kindOf st=kd
 failed:failedOf st=none
 pend:pendingOf st=pd
 low:∀ k,k<lo->(arrOf st)[k]?=b[k]?
noncomputable def SIn(κ:KeyKind)(xs:Array Keyed)(lo n:Nat):Prop:=∀ i j,i<=j->j<n->κ.kle (KK κ xs (lo+i)) (KK κ xs (lo+j))
noncomputable def DIn(κ:KeyKind)(xs:Array Keyed)(lo n:Nat):Prop:=∀ i j,i<=j->j<n->κ.kle (KK κ xs (lo+j)) (KK κ xs (lo+i))
theorem at_key{κ:KeyKind}{a₀ xs:Array Keyed}(hp:xs.Perm a₀)(h0:KeysOf κ a₀){i:Nat}(hi:i<xs.size):∃ p a,xs[i]?=some p/\κ.keyOf p.1=some a/\KK κ xs i=a:=by
 have hm:xs[i]∈a₀.toList:=(Array.perm_iff_toList_perm.mp hp).mem_iff.mp (by simp)
 obtain⟨a,ha⟩:=h0 _ hm
 have e:xs[i]?=some xs[i]:=getElem?_pos _ i hi
 refine⟨xs[i],a,e,ha,?_⟩
 unfold KK;rw[e];simp[ha]
section
variable{prog:Program}{w:World}{A:Around}{E:Value->Shared->Prop}{s:Shared}{a₀ b:Array Keyed}{κ:KeyKind}{kd:SortKind}{lo:Nat}{pd:Array (Nat×Nat×Nat)}
theorem SB.size{st:SortSt}(h:SB kd a₀ b lo pd st):(arrOf st).size=a₀.size:=h.perm.size_eq
theorem SB.arr{st:SortSt}(h:SB kd a₀ b lo pd st){xs:Array Keyed}(hp:xs.Perm (arrOf st))(hl:∀ k,k<lo->xs[k]?=(arrOf st)[k]?):SB kd a₀ b lo pd (setArr st xs) :=
 ⟨hp.trans h.perm,h.kind,h.failed,h.pend,fun k hk=>(hl k hk).trans (h.low k hk)⟩
theorem SB.mirror{st:SortSt}(h:SB kd a₀ b lo pd st){i j:Nat}(hi:lo<=i)(hj:j<=a₀.size):SB kd a₀ b lo pd (setArr st (mirror (arrOf st) i j ((j-i) / 2))) :=
 h.arr (mirror_perm _ _ _ _) fun k hk=>by rw[getElem?_mirror_all (by rw[h.size];exact hj),if_neg (by lia)]
theorem elem_ok{arr:Array Keyed}{i:Nat}{p:Keyed}{Q:Keyed->SortSt->Prop}{st:SortSt}(h:arr[i]?=some p)(hq:Q p st):wpS (model prog w) A E s (elem' arr i) Q st:=by
 rw[elem'_eq,h];exact wpS_pure hq
theorem ltAt_ok{st:SortSt}{i j:Nat}{Q:Option Bool->SortSt->Prop}(hO:LtOk κ kd prog w A s)(hB:SB kd a₀ b lo pd st)(h0:KeysOf κ a₀)(hi:i<a₀.size)(hj:j<a₀.size)
  (h:Q (some (κ.blt (KK κ (arrOf st) i) (KK κ (arrOf st) j))) st):wpS (model prog w) A E s (ltAt' i j) Q st:=by
 obtain⟨x,a,e1,ha,ka⟩:=at_key hB.perm h0 (i:=i) (by rw[hB.size];exact hi)
 obtain⟨y,c,e2,hc,kc⟩:=at_key hB.perm h0 (i:=j) (by rw[hB.size];exact hj)
 rw[ka,kc]at h
 rw[ltAt'_eq]
 refine wpS_bind (wpS_get (wpS_bind (elem_ok e1 (wpS_bind (elem_ok e2 ?_)))))
 exact hO E x y a c Q st hB.kind ha hc h
theorem rev_ok{st:SortSt}{i j:Nat}{Q:Unit->SortSt->Prop}(h:Q () (setArr st (mirror (arrOf st) i j ((j-i) / 2)))):wpS (model prog w) A E s (reverseSlice' i j) Q st:=by
 rw[reverseSlice'_eq];exact wpS_modify h
theorem bcong{σ α β:Type}{m m':StateT σ Sem α}{f f':α->StateT σ Sem β}(h:m=m')(hf:∀ a,f a=f' a):(m >>= f)=(m' >>= f'):=by
 subst h
 rw[show f=f' from funext hf]
noncomputable def asc(lo a nrem:Nat):StateT SortSt Sem AscSt :=
 forIn [a:nrem] ((none,a):AscSt) fun _ c=>do
  let x <- ltAt' (lo+c.2) (lo+c.2-1)
  match x with
  |some sm=>if sm=true then pure (ForInStep.done (none,c.2))else pure (ForInStep.yield (none,c.2+1))
  | _=>pure (ForInStep.done (some none,c.2))
noncomputable def tl3(lo n nrem:Nat):StateT SortSt Sem (Option Nat):=do
 reverseSlice' lo (lo+n)
 let c <- asc lo n nrem
 match c.1 with
 |some r=>pure r
 |none=>pure (some c.2)
noncomputable def dsc(lo n nrem:Nat):StateT SortSt Sem DescSt :=
 forIn [n:nrem] ((none,n,0):DescSt) fun _ c=>do
  let x <- ltAt' (lo+c.2.1) (lo+c.2.1-1)
  match x with
  |some sm =>
   if sm=true then
    if c.2.2 > 0 then do
     reverseSlice' (lo+c.2.1-(c.2.2+1)) (lo+c.2.1)
     pure (ForInStep.yield (none,c.2.1+1,0))
    else pure (ForInStep.yield (none,c.2.1+1,0))
   else do
    let x <- ltAt' (lo+c.2.1-1) (lo+c.2.1)
    match x with
    |some la =>
     if la=true then pure (ForInStep.done (none,c.2.1,c.2.2))
     else pure (ForInStep.yield (none,c.2.1+1,c.2.2+1))
    | _=>pure (ForInStep.done (some none,c.2.1,c.2.2))
  | _=>pure (ForInStep.done (some none,c.2.1,c.2.2))
noncomputable def dpt(lo n nrem:Nat):StateT SortSt Sem (Option Nat):=do
 liftM (rule "list.sort.descending-run")
 let c <- dsc lo (n+1) nrem
 match c.1 with
 |some r=>pure r
 |none =>
  if c.2.2 > 0 then do
   reverseSlice' (lo+c.2.1-(c.2.2+1)) (lo+c.2.1)
   tl3 lo c.2.1 nrem
  else tl3 lo c.2.1 nrem
theorem count_eq(lo nrem:Nat):countRun' lo nrem=(do
  let c <- asc lo 1 nrem
  match c.1 with
  |some r=>pure r
  |none =>
   if(c.2 == nrem)=true then pure (some c.2)
   else if c.2 > 1 then do
    let x <- ltAt' lo (lo+c.2-1)
    match x with
    |some rose=>if rose=true then pure (some c.2)else do
      reverseSlice' lo (lo+c.2)
      dpt lo c.2 nrem
    | _=>pure none
   else dpt lo c.2 nrem):=by
 rw[countRun'_eq]
 unfold dpt tl3 dsc asc
 refine bcong rfl fun c=>?_
 obtain⟨r,n⟩:=c
 cases r with
 |some r=>rfl
 |none =>
  dsimp only
  split
  ·rfl
  ·split
   ·refine bcong rfl fun x=>?_
    cases x with
    |none=>rfl
    |some rose =>
     dsimp only
     split
     ·rfl
     ·refine bcong rfl fun _=>bcong rfl fun _=>bcong rfl fun s2=>?_
      obtain⟨r2,n2,q2⟩:=s2
      cases r2 with
      |some r2=>rfl
      |none =>
       dsimp only
       split
       ·refine bcong rfl fun _=>bcong rfl fun _=>bcong rfl fun s3=>?_
        obtain⟨r3,n3⟩:=s3
        cases r3 <;> rfl
       ·refine bcong rfl fun _=>bcong rfl fun s3=>?_
        obtain⟨r3,n3⟩:=s3
        cases r3 <;> rfl
   ·refine bcong rfl fun _=>bcong rfl fun s2=>?_
    obtain⟨r2,n2,q2⟩:=s2
    cases r2 with
    |some r2=>rfl
    |none =>
     dsimp only
     split
     ·refine bcong rfl fun _=>bcong rfl fun _=>bcong rfl fun s3=>?_
      obtain⟨r3,n3⟩:=s3
      cases r3 <;> rfl
     ·refine bcong rfl fun _=>bcong rfl fun s3=>?_
      obtain⟨r3,n3⟩:=s3
      cases r3 <;> rfl
theorem asc_ok{st:SortSt}{a nrem:Nat}{Q:AscSt->SortSt->Prop}(hO:LtOk κ kd prog w A s)(h0:KeysOf κ a₀)(hn:lo+nrem<=a₀.size)(ha:1<=a)(han:a<=nrem)(hB:SB kd a₀ b lo pd st)(hs:SIn κ (arrOf st) lo a)
  (h:∀ n,a<=n->n<=nrem->SIn κ (arrOf st) lo n->(n=nrem\/κ.klt (KK κ (arrOf st) (lo+n)) (KK κ (arrOf st) (lo+n-1)))->Q (none,n) st):wpS (model prog w) A E s (asc lo a nrem) Q st:=by
 unfold asc
 refine wpS_forRange (I:=fun x c st'=>st'=st/\c=(none,x)/\SIn κ (arrOf st) lo x) ?step ?fin ⟨rfl,rfl,hs⟩
 case fin =>
  rintro c st' ⟨rfl,rfl,g⟩
  rw[show max a nrem=nrem by lia]at g ⊢
  exact h nrem han (zJ _) g (.inl rfl)
 case step =>
  rintro x c st' hax hxn ⟨rfl,rfl,g⟩
  dsimp only
  refine wpS_bind (ltAt_ok hO hB h0 (by lia) (by omega) ?_)
  cases q:κ.blt (KK κ (arrOf st') (lo+x)) (KK κ (arrOf st') (lo+x-1))with
  |true=>exact wpS_pure (h x hax (by exact zBB hxn) g (.inr q))
  |false =>
   refine wpS_pure ⟨rfl,rfl,fun i j hij hj=>?_⟩
   by_cases z:j<x
   ·exact g i j hij z
   ·have z:j=x:=by exact zj7 (zi6 hj) z
    subst z
    by_cases y:i=j
    ·subst y;exact KeyOrd.kle_refl _
    ·have u:=g i (j-1) (by lia) (by exact zh4 (zAV (zAE ha hax)))
     rw[show lo+(j-1)=lo+j-1 by lia]at u
     exact KeyOrd.kle_trans u q
theorem tl3_ok{st:SortSt}{n nrem:Nat}{Q:Option Nat->SortSt->Prop}(hO:LtOk κ kd prog w A s)(h0:KeysOf κ a₀)(hn:lo+nrem<=a₀.size)(h1:1<=n)(hnn:n<=nrem)(hB:SB kd a₀ b lo pd st)(hs:DIn κ (arrOf st) lo n)
  (h:∀ m st',SB kd a₀ b lo pd st'->1<=m->m<=nrem->SIn κ (arrOf st') lo m->Q (some m) st'):wpS (model prog w) A E s (tl3 lo n nrem) Q st:=by
 unfold tl3
 have hsz:lo+n<=(arrOf st).size:=by rw[hB.size];lia
 have hB':=hB.mirror (i:=lo) (j:=lo+n) (zJ _) (by lia)
 refine wpS_bind (rev_ok (wpS_bind (asc_ok hO h0 hn h1 hnn hB' ?_ fun m p1 p2 p3 _=>wpS_pure (h m _ hB' (by exact zAE h1 p1) p2 p3))))
 intro i j hij hj
 show κ.kle (KK κ (mirror (arrOf st) lo (lo+n) ((lo+n-lo) / 2)) (lo+i)) (KK κ (mirror (arrOf st) lo (lo+n) ((lo+n-lo) / 2)) (lo+j))
 rw[KK_mirror hsz,KK_mirror hsz,if_pos (by lia),if_pos (by lia),show lo+(lo+n)-1-(lo+i)=lo+(n-1-i) by lia,show lo+(lo+n)-1-(lo+j)=lo+(n-1-j) by omega]
 exact hs _ _ (by omega) (by omega)
theorem dsc_ok{st:SortSt}{n nrem:Nat}{Q:DescSt->SortSt->Prop}(hO:LtOk κ kd prog w A s)(h0:KeysOf κ a₀)(hn:lo+nrem<=a₀.size)(h1:1<=n)(hnn:n<=nrem)(hB:SB kd a₀ b lo pd st)(hs:DIn κ (arrOf st) lo n)
  (h:∀ m q st',SB kd a₀ b lo pd st'->n<=m->m<=nrem->DIn κ (arrOf st') lo m->q+1<=m->(∀ i,m-(q+1)<=i->i<m->KK κ (arrOf st') (lo+i)=KK κ (arrOf st') (lo+m-1))->Q (none,m,q) st') :
  wpS (model prog w) A E s (dsc lo n nrem) Q st:=by
 unfold dsc
 refine wpS_forRange (I:=fun x c st'=>∃ q,c=(none,x,q)/\SB kd a₀ b lo pd st'/\DIn κ (arrOf st') lo x/\q+1<=x/\(∀ i,x-(q+1)<=i->i<x->KK κ (arrOf st') (lo+i)=KK κ (arrOf st') (lo+x-1))) ?step ?fin
  ⟨0,rfl,hB,hs,by exact h1,fun i h1 h2=>by rw[show lo+i=lo+n-1 by lia]⟩
 case fin =>
  rintro c st' ⟨q,rfl,g1,g2,g3,g4⟩
  rw[show max n nrem=nrem by lia]at g2 g3 g4 ⊢
  exact h nrem q st' g1 hnn (zJ _) g2 g3 g4
 case step =>
  rintro x c st' hax hxn ⟨q,rfl,g1,g2,g3,g4⟩
  dsimp only
  have hsz:lo+x<=(arrOf st').size:=by rw[g1.size];lia
  refine wpS_bind (ltAt_ok hO g1 h0 (by lia) (by lia) ?_)
  cases t:κ.blt (KK κ (arrOf st') (lo+x)) (KK κ (arrOf st') (lo+x-1))with
  |true =>
   have step1:∀ xs:Array Keyed,(∀ k,KK κ xs k=KK κ (arrOf st') k)->DIn κ xs lo (x+1):=by
    intro xs hk i j hij hj
    rw[hk,hk]
    by_cases z:j<x
    ·exact g2 i j hij z
    ·have z:j=x:=by exact zj7 (zi6 hj) z
     subst z
     by_cases y:i=j
     ·subst y;exact KeyOrd.kle_refl _
     ·have u:=g2 i (j-1) (by lia) (by exact zh4 (zj9 (zAV g3)))
      rw[show lo+(j-1)=lo+j-1 by lia]at u
      exact KeyOrd.kle_trans (KeyOrd.kle_of_klt t) u
   dsimp only
   rw[if_pos rfl]
   by_cases y:q > 0
   ·rw[if_pos y]
    have eqs:∀ k,lo+x-(q+1)<=k->k<lo+x->KK κ (arrOf st') k=KK κ (arrOf st') (lo+x-1):=fun k k1 k2=>by
     have u:=g4 (k-lo) (by omega) (by lia)
     rwa [show lo+(k-lo)=k by lia]at u
    refine wpS_bind (rev_ok (wpS_pure ⟨0,rfl,g1.mirror (by omega) (by lia),step1 _ (KK_mirror_equal hsz eqs),by exact Nat.le_add_left (0+1) x,fun i h1 h2=>by rw[show lo+i=lo+(x+1)-1 by lia]⟩))
   ·rw[if_neg y]
    exact wpS_pure ⟨0,rfl,g1,step1 _ (fun _=>rfl),by exact Nat.le_add_left (0+1) x,fun i h1 h2=>by rw[show lo+i=lo+(x+1)-1 by lia]⟩
  |false =>
   dsimp only
   rw[if_neg zT]
   refine wpS_bind (ltAt_ok hO g1 h0 (by lia) (by lia) ?_)
   cases u:κ.blt (KK κ (arrOf st') (lo+x-1)) (KK κ (arrOf st') (lo+x))with
   |true=>exact wpS_pure (h x q st' g1 hax (by exact zBB hxn) g2 g3 g4)
   |false =>
    have ex:KK κ (arrOf st') (lo+x)=KK κ (arrOf st') (lo+x-1):=KeyOrd.kle_antisymm u t
    refine wpS_pure ⟨q+1,rfl,g1,fun i j hij hj=>?_,by lia,fun i h1 h2=>?_⟩
    ·by_cases z:j<x
     ·exact g2 i j hij z
     ·have z:j=x:=by exact zj7 (zi6 hj) z
      subst z
      by_cases y:i=j
      ·subst y;exact KeyOrd.kle_refl _
      ·rw[ex]
       have v:=g2 i (j-1) (by lia) (by exact zh4 (zj9 (zAV g3)))
       rwa [show lo+(j-1)=lo+j-1 by lia]at v
    ·rw[show lo+(x+1)-1=lo+x by lia]
     by_cases z:i=x
     ·subst z;rfl
     ·rw[ex];exact g4 i (by lia) (by exact zj5 z (zi6 h2))
theorem dpt_ok{st:SortSt}{n nrem:Nat}{Q:Option Nat->SortSt->Prop}(hO:LtOk κ kd prog w A s)(h0:KeysOf κ a₀)(hn:lo+nrem<=a₀.size)(hnn:n+1<=nrem)(hB:SB kd a₀ b lo pd st)(hs:DIn κ (arrOf st) lo (n+1))
  (h:∀ m st',SB kd a₀ b lo pd st'->1<=m->m<=nrem->SIn κ (arrOf st') lo m->Q (some m) st'):wpS (model prog w) A E s (dpt lo n nrem) Q st:=by
 unfold dpt
 refine wpS_bind (wpS_lift (wpAny_rule ⟨rfl,wpS_bind (dsc_ok hO h0 hn (by exact Nat.le_add_left 1 n) hnn hB hs fun m q st' g1 m1 m2 g2 g3 g4=>?_)⟩))
 dsimp only
 have hsz:lo+m<=(arrOf st').size:=by rw[g1.size];lia
 by_cases y:q > 0
 ·rw[if_pos y]
  have eqs:∀ k,lo+m-(q+1)<=k->k<lo+m->KK κ (arrOf st') k=KK κ (arrOf st') (lo+m-1):=fun k k1 k2=>by
   have u:=g4 (k-lo) (by omega) (by lia)
   rwa [show lo+(k-lo)=k by lia]at u
  refine wpS_bind (rev_ok (tl3_ok hO h0 hn (by exact zAE (Nat.le_add_left 1 q) g3) m2 (g1.mirror (by omega) (by lia)) (fun i j hij hj=>?_) h))
  show κ.kle (KK κ (mirror (arrOf st') _ _ _) (lo+j)) (KK κ (mirror (arrOf st') _ _ _) (lo+i))
  rw[KK_mirror_equal hsz eqs,KK_mirror_equal hsz eqs]
  exact g2 i j hij hj
 ·rw[if_neg y]
  exact tl3_ok hO h0 hn (by exact zAE (Nat.le_add_left 1 q) g3) m2 g1 g2 h
theorem count_ok{st:SortSt}{nrem:Nat}{Q:Option Nat->SortSt->Prop}(hO:LtOk κ kd prog w A s)(h0:KeysOf κ a₀)(hn:lo+nrem<=a₀.size)(h1:1<=nrem)(hB:SB kd a₀ b lo pd st)
  (h:∀ m st',SB kd a₀ b lo pd st'->1<=m->m<=nrem->SIn κ (arrOf st') lo m->Q (some m) st'):wpS (model prog w) A E s (countRun' lo nrem) Q st:=by
 rw[count_eq]
 refine wpS_bind (asc_ok hO h0 hn (zJ 1) h1 hB (fun i j hij hj=>by rw[show i=j by lia];exact KeyOrd.kle_refl _) fun n n1 n2 g1 g2=>?_)
 dsimp only
 by_cases z:n=nrem
 ·rw[if_pos (by simpa using z)]
  exact wpS_pure (h n st hB n1 n2 g1)
 ·rw[if_neg (by simpa using z)]
  have t:=g2.resolve_left z
  by_cases y:n > 1
  ·rw[if_pos y]
   refine wpS_bind (ltAt_ok hO hB h0 (by lia) (by omega) ?_)
   cases u:κ.blt (KK κ (arrOf st) lo) (KK κ (arrOf st) (lo+n-1))with
   |true=>exact wpS_pure (h n st hB n1 n2 g1)
   |false =>
    have hsz:lo+n<=(arrOf st).size:=by rw[hB.size];lia
    have eqs:∀ k,lo<=k->k<lo+n->KK κ (arrOf st) k=KK κ (arrOf st) (lo+n-1):=fun k k1 k2=>by
     have a1:=g1 0 (k-lo) (by exact zAT (k-lo)) (by omega)
     have a2:=g1 (k-lo) (n-1) (by lia) (by exact zh4 (zj1 y))
     rw[show lo+(k-lo)=k by lia]at a1 a2
     rw[show lo+(n-1)=lo+n-1 by lia]at a2
     exact KeyOrd.kle_antisymm a2 (KeyOrd.kle_trans u a1)
    dsimp only
    rw[if_neg zT]
    refine wpS_bind (rev_ok (dpt_ok hO h0 hn (by exact zn5 (zj5 z n2)) (hB.mirror (zJ _) (by lia)) (fun i j hij hj=>?_) h))
    show κ.kle (KK κ (mirror (arrOf st) _ _ _) (lo+j)) (KK κ (mirror (arrOf st) _ _ _) (lo+i))
    rw[KK_mirror_equal hsz eqs,KK_mirror_equal hsz eqs]
    by_cases v:j<n
    ·rw[eqs (lo+i) (by exact zAA lo i) (by lia),eqs (lo+j) (by exact zAA lo j) (by lia)];exact KeyOrd.kle_refl _
    ·have v:j=n:=by exact zj7 (zi6 hj) v
     subst v
     by_cases v:i=j
     ·subst v;exact KeyOrd.kle_refl _
     ·rw[eqs (lo+i) (by exact zAA lo i) (by lia)];exact KeyOrd.kle_of_klt t
  ·rw[if_neg y]
   have z:n=1:=by exact Eq.symm (zj7 n1 y)
   subst z
   refine dpt_ok hO h0 hn (by exact zn5 (zj5 z h1)) hB (fun i j hij hj=>?_) h
   by_cases v:i=j
   ·subst v;exact KeyOrd.kle_refl _
   ·have e1:i=0:=by lia
    have e2:j=1:=by lia
    subst e1 e2
    exact KeyOrd.kle_of_klt t
theorem bin_ok{st:SortSt}{n ok:Nat}{Q:Bool->SortSt->Prop}(hO:LtOk κ kd prog w A s)(h0:KeysOf κ a₀)(hn:lo+n<=a₀.size)(hok:ok<=n)(hB:SB kd a₀ b lo pd st)(hs:SIn κ (arrOf st) lo ok)
  (h:∀ st',SB kd a₀ b lo pd st'->SIn κ (arrOf st') lo n->Q true st'):wpS (model prog w) A E s (binarySort' lo n ok) Q st:=by
 rw[binarySort'_eq]
 refine wpS_bind (wpS_mono (wpS_forRange (I:=fun k c st'=>c=(none,())/\SB kd a₀ b lo pd st'/\SIn κ (arrOf st') lo (min k n)) (Q:=fun c st'=>c=(none,())/\SB kd a₀ b lo pd st'/\SIn κ (arrOf st') lo n) ?step ?fin ?init) ?post)
 case post =>
  rintro c st' ⟨rfl,g1,g2⟩
  exact wpS_pure (h st' g1 g2)
 case init =>
  refine⟨rfl,hB,fun i j hij hj=>?_⟩
  by_cases h1:ok=0
  ·rw[show i=j by lia];exact KeyOrd.kle_refl _
  ·exact hs i j hij (by lia)
 case fin =>
  rintro c st' ⟨g0,g1,g2⟩
  refine⟨g0,g1,?_⟩
  rwa [show min (max (max ok 1) n) n=n by lia]at g2
 case step =>
  rintro k c st' hak hkn ⟨rfl,g1,g2⟩
  rw[show min k n=k by lia]at g2
  have hk:lo+k<a₀.size:=by lia
  refine wpS_bind (wpS_mono (wpS_forRange (I:=fun x c st''=>st''=st'/\∃ l r,c=(none,l,r)/\l<=r/\r<=k/\r-l<=k-x/\(∀ i,i<l->κ.kle (KK κ (arrOf st') (lo+i)) (KK κ (arrOf st') (lo+k))) /\
     (∀ i,r<=i->i<k->κ.klt (KK κ (arrOf st') (lo+k)) (KK κ (arrOf st') (lo+i))))
   (Q:=fun c st''=>st''=st'/\∃ l r,c=(none,l,r)/\l<=k/\(∀ i,i<l->κ.kle (KK κ (arrOf st') (lo+i)) (KK κ (arrOf st') (lo+k)))/\(∀ i,l<=i->i<k->κ.klt (KK κ (arrOf st') (lo+k)) (KK κ (arrOf st') (lo+i)))) ?istep ?ifin ?iinit) ?ipost)
  case iinit=>exact⟨rfl,0,k,rfl,by exact zAT k,by exact zJ k,by exact zJ (k-0),fun i hi=>by lia,fun i h1 h2=>by lia⟩
  case ifin =>
   rintro c st'' ⟨rfl,l,r,rfl,i1,i2,i3,i4,i5⟩
   have z:l=r:=by lia
   subst z
   exact⟨rfl,l,l,rfl,i2,i4,i5⟩
  case istep =>
   rintro x c st'' _ hxk ⟨rfl,l,r,rfl,i1,i2,i3,i4,i5⟩
   dsimp only
   by_cases y:l >= r
   ·rw[if_pos y]
    have z:l=r:=by lia
    subst z
    exact wpS_pure ⟨rfl,l,l,rfl,i2,i4,i5⟩
   ·rw[if_neg y]
    refine wpS_bind (ltAt_ok hO g1 h0 hk (by lia) ?_)
    cases t:κ.blt (KK κ (arrOf st'') (lo+k)) (KK κ (arrOf st'') (lo+(l+r) / 2))with
    |true =>
     refine wpS_pure ⟨rfl,l,(l+r) / 2,rfl,by lia,by lia,by omega,i4,fun i h1 h2=>?_⟩
     exact KeyOrd.klt_of_klt_of_kle t (g2 _ _ h1 h2)
    |false =>
     refine wpS_pure ⟨rfl,(l+r) / 2+1,r,rfl,by lia,by exact i2,by omega,fun i h1=>?_,i5⟩
     exact KeyOrd.kle_trans (g2 i ((l+r) / 2) (by exact zi6 h1) (by lia)) (show κ.kle _ _ from t)
  case ipost =>
   rintro c st'' ⟨rfl,l,r,rfl,i2,i4,i5⟩
   show wpS _ _ _ _ (do moveDown' (lo+k) (lo+l);pure (ForInStep.yield (none,()))) _ _
   rw[moveDown'_eq]
   have hks:lo+k <(arrOf st'').size:=by rw[g1.size];exact hk
   refine wpS_bind (wpS_modify (wpS_pure ⟨rfl,g1.arr (bubble_perm _ _ _) fun m hm=>?_,?_⟩))
   ·rw[getElem?_bubble hks _ (by omega),if_neg (by omega),if_neg (by omega)]
   rw[show min (k+1) n=k+1 by lia]
   intro i j hij hj
   show κ.kle (KK κ (bubble (arrOf st'') (lo+k) (lo+k-(lo+l))) (lo+i)) (KK κ (bubble (arrOf st'') (lo+k) (lo+k-(lo+l))) (lo+j))
   rw[KK_bubble hks (by omega),KK_bubble hks (by omega),show lo+k-(lo+k-(lo+l))=lo+l by lia]
   have sh:∀ m,lo+l<lo+m->lo+m-1=lo+(m-1):=fun m hm=>by lia
   repeat' split
   all_goals first
    |(exfalso;lia)
    |exact KeyOrd.kle_refl _
    |exact i4 _ (by lia)
    |(rw[sh _ (by lia)];exact KeyOrd.kle_of_klt (i5 _ (by lia) (by lia)))
    |exact KeyOrd.kle_of_klt (i5 _ (by omega) (by omega))
    |exact g2 _ _ (by omega) (by lia)
    |(rw[sh _ (by lia),sh _ (by lia)];exact g2 _ _ (by omega) (by lia))
    |(rw[sh _ (by lia)];exact g2 _ _ (by lia) (by omega))
end
open PySem PyProof.Rows
noncomputable def gallopP:Bool->Keyed->Array Keyed->Nat->Nat->Nat->StateT SortSt Sem (Option Nat):=sortPriv% PySem.Builtin.gallop
noncomputable def bey(left:Bool)(key:Keyed)(arr:Array Keyed)(base i:Nat):StateT SortSt Sem (Option Bool):=do
 let x <- elem' arr (base+i)
 if left then lt' x key else return (<- lt' key x).map (!·)
noncomputable def gUp(left:Bool)(key:Keyed)(arr:Array Keyed)(base n hint maxofs:Nat):StateT SortSt Sem (Option (Option Nat)×Nat×Nat) :=
 forIn [0:n] ((none,0,1):Option (Option Nat)×Nat×Nat) fun _ c=>do
  if c.2.2 >= maxofs then pure (.done (none,c.2.1,c.2.2))else do
   let x <- bey left key arr base (hint+c.2.2)
   match x with
   |some more=>if(!more)=true then pure (.done (none,c.2.1,c.2.2))else pure (.yield (none,c.2.2,2 * c.2.2+1))
   | _=>pure (.done (some none,c.2.1,c.2.2))
noncomputable def gDn(left:Bool)(key:Keyed)(arr:Array Keyed)(base n hint maxofs:Nat):StateT SortSt Sem (Option (Option Nat)×Nat×Nat) :=
 forIn [0:n] ((none,0,1):Option (Option Nat)×Nat×Nat) fun _ c=>do
  if c.2.2 >= maxofs then pure (.done (none,c.2.1,c.2.2))else do
   let x <- bey left key arr base (hint-c.2.2)
   match x with
   |some found=>if found=true then pure (.done (none,c.2.1,c.2.2))else pure (.yield (none,c.2.2,2 * c.2.2+1))
   | _=>pure (.done (some none,c.2.1,c.2.2))
noncomputable def gBin(left:Bool)(key:Keyed)(arr:Array Keyed)(base n lo hi:Nat):StateT SortSt Sem (Option Nat):=do
 let c <- forIn [0:n] ((none,lo,hi):Option (Option Nat)×Nat×Nat) fun _ c=>do
  if c.2.1 >= c.2.2 then pure (.done (none,c.2.1,c.2.2))else do
   let x <- bey left key arr base (c.2.1+(c.2.2-c.2.1) / 2)
   match x with
   |some more=>if more=true then pure (.yield (none,c.2.1+(c.2.2-c.2.1) / 2+1,c.2.2))else pure (.yield (none,c.2.1,c.2.1+(c.2.2-c.2.1) / 2))
   | _=>pure (.done (some none,c.2.1,c.2.2))
 match c.1 with
 |some r=>pure r
 |none=>pure (some c.2.2)
theorem gallop_eq(left:Bool)(key:Keyed)(arr:Array Keyed)(base n hint:Nat):gallopP left key arr base n hint=(do
  let x <- bey left key arr base hint
  match x with
  |some right =>
   if right=true then do
    let c <- gUp left key arr base n hint (n-hint)
    match c.1 with
    |some r=>pure r
    |none=>gBin left key arr base n (hint+c.2.1+1) (hint+min c.2.2 (n-hint))
   else do
    let c <- gDn left key arr base n hint (hint+1)
    match c.1 with
    |some r=>pure r
    |none=>gBin left key arr base n (hint+1-min c.2.2 (hint+1)) (hint-c.2.1)
  | _=>pure none):=by
 refine bcong (m:=bey left key arr base hint) rfl fun x=>?_
 cases x with
 |none=>rfl
 |some right =>
  dsimp only
  split
  ·refine bcong rfl fun c=>?_
   obtain⟨r,l,o⟩:=c
   cases r with
   |some r=>rfl
   |none =>
    refine bcong rfl fun c=>?_
    obtain⟨r,l,o⟩:=c
    cases r <;> rfl
  ·refine bcong rfl fun c=>?_
   obtain⟨r,l,o⟩:=c
   cases r with
   |some r=>rfl
   |none =>
    refine bcong rfl fun c=>?_
    obtain⟨r,l,o⟩:=c
    cases r <;> rfl
section
variable{prog:Program}{w:World}{A:Around}{E:Value->Shared->Prop}{s:Shared}{kd:SortKind}{left:Bool}{key:Keyed}{arr:Array Keyed}{base n hint:Nat}{Pr:Nat->Bool}{st:SortSt}
noncomputable def BeyOk(prog:Program)(w:World)(A:Around)(s:Shared)(kd:SortKind)(left:Bool)(key:Keyed)(arr:Array Keyed)(base n:Nat)(Pr:Nat->Bool):Prop :=
 ∀ (i:Nat) (E:Value->Shared->Prop) (Q:Option Bool->SortSt->Prop) (st:SortSt),i<n->kindOf st=kd->Q (some (Pr i)) st->wpS (model prog w) A E s (bey left key arr base i) Q st
theorem gBin_ok{lo hi:Nat}{Q:Option Nat->SortSt->Prop}(hb:BeyOk prog w A s kd left key arr base n Pr)(hk:kindOf st=kd)(mono:∀ i j,i<=j->j<n->Pr j=true->Pr i=true)(h1:lo<=hi)(h2:hi<=n)
  (hl:∀ i,i<lo->Pr i=true) (hh:∀ i,hi<=i->i<n->Pr i=false) (h:∀ r,r<=n->(∀ i,i<r->Pr i=true)->(∀ i,r<=i->i<n->Pr i=false)->Q (some r) st) :
  wpS (model prog w) A E s (gBin left key arr base n lo hi) Q st:=by
 unfold gBin
 refine wpS_bind (wpS_mono (wpS_forRange (I:=fun x c st'=>st'=st/\∃ l r,c=(none,l,r)/\l<=r/\r<=n/\r-l<=n-x/\(∀ i,i<l->Pr i=true)/\(∀ i,r<=i->i<n->Pr i=false))
  (Q:=fun c st'=>st'=st/\∃ l r,c=(none,l,r)/\r<=n/\(∀ i,i<r->Pr i=true)/\(∀ i,r<=i->i<n->Pr i=false)) ?step ?fin ⟨rfl,lo,hi,rfl,h1,h2,by lia,hl,hh⟩) ?post)
 case post =>
  rintro c st' ⟨rfl,l,r,rfl,r1,r2,r3⟩
  exact wpS_pure (h r r1 r2 r3)
 case fin =>
  rintro c st' ⟨rfl,l,r,rfl,r1,r2,r3,r4,r5⟩
  have e:l=r:=by lia
  subst e
  exact⟨rfl,l,l,rfl,r2,r4,r5⟩
 case step =>
  rintro x c st' _ hx ⟨rfl,l,r,rfl,r1,r2,r3,r4,r5⟩
  dsimp only
  by_cases y:l >= r
  ·rw[if_pos y]
   have e:l=r:=by lia
   subst e
   exact wpS_pure ⟨rfl,l,l,rfl,r2,r4,r5⟩
  ·rw[if_neg y]
   refine wpS_bind (hb _ _ _ _ (by lia) hk ?_)
   cases t:Pr (l+(r-l) / 2)with
   |true=>exact wpS_pure ⟨rfl,_,_,rfl,by lia,by exact r2,by omega,fun i hi=>mono i _ (by exact zi6 hi) (by lia) t,r5⟩
   |false =>
    refine wpS_pure ⟨rfl,_,_,rfl,by exact zAA l ((r-l) / 2),by lia,by omega,r4,fun i i1 i2=>?_⟩
    cases u:Pr i with
    |false=>rfl
    |true=>rw[mono _ i i1 i2 u]at t;cases t
theorem gallop_ok{Q:Option Nat->SortSt->Prop}(hb:BeyOk prog w A s kd left key arr base n Pr)(hk:kindOf st=kd)(mono:∀ i j,i<=j->j<n->Pr j=true->Pr i=true)(hh:hint<n)
  (h:∀ r,r<=n->(∀ i,i<r->Pr i=true)->(∀ i,r<=i->i<n->Pr i=false)->Q (some r) st):wpS (model prog w) A E s (gallopP left key arr base n hint) Q st:=by
 have anti:∀ i j,i<=j->j<n->Pr i=false->Pr j=false:=fun i j a b c=>by
  cases u:Pr j with
  |false=>rfl
  |true=>rw[mono i j a b u]at c;cases c
 rw[gallop_eq]
 refine wpS_bind (hb _ _ _ _ hh hk ?_)
 cases t:Pr hint with
 |true =>
  dsimp only
  rw[if_pos rfl]
  unfold gUp
  refine wpS_bind (wpS_mono (wpS_forRange (I:=fun x c st'=>st'=st/\∃ l o,c=(none,l,o)/\l<o/\x<o/\l<n-hint/\Pr (hint+l)=true)
   (Q:=fun c st'=>st'=st/\∃ l o,c=(none,l,o)/\l<o/\l<n-hint/\Pr (hint+l)=true/\(o >= n-hint\/(o<n-hint/\Pr (hint+o)=false))) ?step ?fin ⟨rfl,0,1,rfl,by exact Nat.succ_pos 0,by exact Nat.succ_pos 0,by omega,t⟩) ?post)
  case post =>
   rintro c st' ⟨rfl,l,o,rfl,c1,c2,c3,c4⟩
   dsimp only
   refine gBin_ok hb hk mono (by omega) (by omega) (fun i hi=>mono i _ (by exact zi6 hi) (by lia) c3) (fun i i1 i2=>?_) h
   rcases c4 with c4 |⟨c4,c5⟩
   ·omega
   ·exact anti _ i (by omega) i2 c5
  case fin =>
   rintro c st' ⟨rfl,l,o,rfl,c1,c2,c3,c4⟩
   exact⟨rfl,l,o,rfl,c1,c3,c4,.inl (by lia)⟩
  case step =>
   rintro x c st' _ hx ⟨rfl,l,o,rfl,c1,c2,c3,c4⟩
   dsimp only
   by_cases y:o >= n-hint
   ·rw[if_pos y]
    exact wpS_pure ⟨rfl,l,o,rfl,c1,c3,c4,.inl y⟩
   ·rw[if_neg y]
    refine wpS_bind (hb _ _ _ _ (by lia) hk ?_)
    cases u:Pr (hint+o)with
    |true=>exact wpS_pure ⟨rfl,o,_,rfl,by lia,by lia,by exact zj4 y,u⟩
    |false=>exact wpS_pure ⟨rfl,l,o,rfl,c1,c3,c4,.inr ⟨by exact zj4 y,u⟩⟩
 |false =>
  dsimp only
  rw[if_neg zT]
  unfold gDn
  refine wpS_bind (wpS_mono (wpS_forRange (I:=fun x c st'=>st'=st/\∃ l o,c=(none,l,o)/\l<o/\x<o/\l<=hint/\Pr (hint-l)=false)
   (Q:=fun c st'=>st'=st/\∃ l o,c=(none,l,o)/\l<o/\l<=hint/\Pr (hint-l)=false/\(o >= hint+1\/(o<hint+1/\Pr (hint-o)=true))) ?dstep ?dfin ⟨rfl,0,1,rfl,by exact Nat.succ_pos 0,by exact Nat.succ_pos 0,by exact zAT hint,t⟩) ?dpost)
  case dpost =>
   rintro c st' ⟨rfl,l,o,rfl,c1,c2,c3,c4⟩
   dsimp only
   refine gBin_ok hb hk mono (by omega) (by omega) (fun i hi=>?_) (fun i i1 i2=>anti _ i i1 i2 c3) h
   rcases c4 with c4 |⟨c4,c5⟩
   ·omega
   ·exact mono i _ (by omega) (by omega) c5
  case dfin =>
   rintro c st' ⟨rfl,l,o,rfl,c1,c2,c3,c4⟩
   exact⟨rfl,l,o,rfl,c1,c3,c4,.inl (by lia)⟩
  case dstep =>
   rintro x c st' _ hx ⟨rfl,l,o,rfl,c1,c2,c3,c4⟩
   dsimp only
   by_cases y:o >= hint+1
   ·rw[if_pos y]
    exact wpS_pure ⟨rfl,l,o,rfl,c1,c3,c4,.inl y⟩
   ·rw[if_neg y]
    refine wpS_bind (hb _ _ _ _ (by omega) hk ?_)
    cases u:Pr (hint-o)with
    |false=>exact wpS_pure ⟨rfl,o,_,rfl,by lia,by lia,by exact zi6 (zj4 y),u⟩
    |true=>exact wpS_pure ⟨rfl,l,o,rfl,c1,c3,c4,.inr ⟨by exact zj4 y,u⟩⟩
end
noncomputable def mergeLoP:Array Keyed->Array Keyed->StateT SortSt Sem (Array Keyed):=sortPriv% PySem.Builtin.mergeLo
noncomputable def mergeHiP:Array Keyed->Array Keyed->StateT SortSt Sem (Array Keyed):=sortPriv% PySem.Builtin.mergeHi
open PySem PyProof.Rows
noncomputable def kk(κ:KeyKind)(p:Keyed):κ.α:=(κ.keyOf p.1).getD κ.dflt
noncomputable def kL(κ:KeyKind)(p q:Keyed):Prop:=κ.kle (kk κ p) (kk κ q)
theorem KK_of{κ:KeyKind}{xs:Array Keyed}{i:Nat}{p:Keyed}(h:xs[i]?=some p):KK κ xs i=kk κ p:=by unfold KK;rw[h];rfl
structure MI(κ:KeyKind)(T o A B:List Keyed):Prop where
 perm:(o++(A++B)).Perm T
 so:o.Pairwise (kL κ)
 cr:∀ x∈o,∀ y∈A++B,kL κ x y
 sA:A.Pairwise (kL κ)
 sB:B.Pairwise (kL κ)
section
variable{κ:KeyKind}{T o A A' B B' blk:List Keyed}
theorem MI.a(h:MI κ T o (blk++A') B)(hx:∀ x∈blk,∀ y∈B,kL κ x y):MI κ T (o++blk) A' B:=by
 obtain⟨s1,s2,s3⟩:=zAJ.mp h.sA
 refine⟨?_,zAJ.mpr ⟨h.so,s1,fun x hx y hy=>h.cr x hx y (by simp[hy])⟩,fun x hx' y hy=>?_,s2,h.sB⟩
 ·have e:=h.perm
  simp only[zAI]at e ⊢
  exact e
 ·rcases zX.mp hx' with z | z
  ·exact h.cr x z y (by rcases zX.mp hy with q | q <;> simp[q])
  ·rcases zX.mp hy with q | q
   ·exact s3 x z y q
   ·exact hx x z y q
theorem MI.b(h:MI κ T o A (blk++B'))(hx:∀ x∈blk,∀ y∈A,kL κ x y):MI κ T (o++blk) A B':=by
 obtain⟨s1,s2,s3⟩:=zAJ.mp h.sB
 refine⟨?_,zAJ.mpr ⟨h.so,s1,fun x hx y hy=>h.cr x hx y (by simp[hy])⟩,fun x hx' y hy=>?_,h.sA,s2⟩
 ·refine List.Perm.trans ?_ h.perm
  rw[zAI]
  refine List.Perm.append_left o ?_
  rw[<- zAI,<- zAI]
  exact List.Perm.append_right B' List.perm_append_comm
 ·rcases zX.mp hx' with z | z
  ·exact h.cr x z y (by rcases zX.mp hy with q | q <;> simp[q])
  ·rcases zX.mp hy with q | q
   ·exact hx x z y q
   ·exact s3 x z y q
noncomputable def Good(κ:KeyKind)(T:List Keyed)(R:Array Keyed):Prop:=R.toList.Perm T/\R.toList.Pairwise (kL κ)
theorem MI.endB{R:Array Keyed}(h:MI κ T o A [])(e:R.toList=o++A):Good κ T R:=by
 refine⟨by rw[e];simpa using h.perm,?_⟩
 rw[e]
 exact zAJ.mpr ⟨h.so,h.sA,fun x hx y hy=>h.cr x hx y (by simp[hy])⟩
theorem MI.endA{R:Array Keyed}(h:MI κ T o [] B)(e:R.toList=o++B):Good κ T R:=by
 refine⟨by rw[e];simpa using h.perm,?_⟩
 rw[e]
 exact zAJ.mpr ⟨h.so,h.sB,fun x hx y hy=>h.cr x hx y (by simp[hy])⟩
theorem MI.last{R:Array Keyed}{l:Keyed}(h:MI κ T o [l] B)(hl:∀ y∈B,kL κ y l)(e:R.toList=o++B++[l]):Good κ T R:=by
 have h2:MI κ T (o++B) [l] []:=MI.b (blk:=B) (B':=[]) (by simpa using h) fun x hx y hy=>by
  rw[zH.mp hy]
  exact hl x hx
 exact h2.endB e
structure MH(κ:KeyKind)(T o A B:List Keyed):Prop where
 perm:(A++B++o).Perm T
 so:o.Pairwise (kL κ)
 cr:∀ x∈o,∀ y∈A++B,kL κ y x
 sA:A.Pairwise (kL κ)
 sB:B.Pairwise (kL κ)
theorem MH.a(h:MH κ T o (A'++blk) B)(hx:∀ x∈blk,∀ y∈B,kL κ y x):MH κ T (blk++o) A' B:=by
 obtain⟨s1,s2,s3⟩:=zAJ.mp h.sA
 refine⟨?_,zAJ.mpr ⟨s2,h.so,fun x hx y hy=>h.cr y hy x (by simp[hx])⟩,fun x hx' y hy=>?_,s1,h.sB⟩
 ·refine List.Perm.trans ?_ h.perm
  simp only[zAI]
  refine List.Perm.append_left A' ?_
  rw[<- zAI,<- zAI]
  exact List.Perm.append_right o List.perm_append_comm
 ·rcases zX.mp hx' with z | z
  ·rcases zX.mp hy with q | q
   ·exact s3 y q x z
   ·exact hx x z y q
  ·exact h.cr x z y (by rcases zX.mp hy with q | q <;> simp[q])
theorem MH.b(h:MH κ T o A (B'++blk))(hx:∀ x∈blk,∀ y∈A,kL κ y x):MH κ T (blk++o) A B':=by
 obtain⟨s1,s2,s3⟩:=zAJ.mp h.sB
 refine⟨?_,zAJ.mpr ⟨s2,h.so,fun x hx y hy=>h.cr y hy x (by simp[hx])⟩,fun x hx' y hy=>?_,h.sA,s1⟩
 ·have e:=h.perm
  simp only[zAI]at e ⊢
  exact e
 ·rcases zX.mp hx' with z | z
  ·rcases zX.mp hy with q | q
   ·exact hx x z y q
   ·exact s3 y q x z
  ·exact h.cr x z y (by rcases zX.mp hy with q | q <;> simp[q])
theorem MH.endA{R:Array Keyed}(h:MH κ T o [] B)(e:R.toList=B++o):Good κ T R:=by
 refine⟨by rw[e];simpa using h.perm,?_⟩
 rw[e]
 exact zAJ.mpr ⟨h.sB,h.so,fun x hx y hy=>h.cr y hy x (by simp[hx])⟩
theorem MH.endB{R:Array Keyed}(h:MH κ T o A [])(e:R.toList=A++o):Good κ T R:=by
 refine⟨by rw[e];simpa using h.perm,?_⟩
 rw[e]
 exact zAJ.mpr ⟨h.sA,h.so,fun x hx y hy=>h.cr y hy x (by simp[hx])⟩
theorem MH.first{R:Array Keyed}{l:Keyed}(h:MH κ T o A [l])(hl:∀ y∈A,kL κ l y)(e:R.toList=[l]++A++o):Good κ T R:=by
 have h2:MH κ T (A++o) [] [l]:=MH.a (blk:=A) (A':=[]) (by simpa using h) fun x hx y hy=>by
  rw[zH.mp hy]
  exact hl x hx
 exact h2.endA (by rw[e,zAI])
end
theorem drop_at{xs:Array Keyed}{i:Nat}{p:Keyed}(h:xs[i]?=some p):xs.toList.drop i=[p]++xs.toList.drop (i+1):=by
 have hi:i<xs.toList.length:=by
  have:=(Array.getElem?_eq_some_iff.mp h).1
  simpa using this
 rw[zBF hi]
 have e:xs.toList[i]=p:=by
  have:=(Array.getElem?_eq_some_iff.mp h).2
  simpa using this
 rw[e];rfl
theorem take_at{xs:Array Keyed}{i:Nat}{p:Keyed}(h:xs[i]?=some p):xs.toList.take (i+1)=xs.toList.take i++[p]:=by
 rw[List.take_add_one]
 have e:xs.toList[i]?=some p:=by rw[<- h];simp
 rw[e];rfl
theorem mem_drop{xs:Array Keyed}{i:Nat}{y:Keyed}(h:y∈xs.toList.drop i):∃ j,i<=j/\j<xs.size/\xs[j]?=some y:=by
 obtain⟨j,hj,e⟩:=zBE h
 rw[zCB]at hj
 refine⟨i+j,by exact zAA i j,?_,?_⟩
 ·have:xs.toList.length=xs.size:=by simp
  omega
 ·rw[List.getElem_drop]at e
  have:xs.toList[i+j]?=some y:=by rw[<- e];exact zE (by omega)
  rw[<- this];simp
theorem mem_take{xs:Array Keyed}{i:Nat}{y:Keyed}(h:y∈xs.toList.take i):∃ j,j<i/\j<xs.size/\xs[j]?=some y:=by
 obtain⟨j,hj,e⟩:=zBE h
 rw[zAS]at hj
 have hl:xs.toList.length=xs.size:=by simp
 refine⟨j,by lia,by omega,?_⟩
 rw[List.getElem_take]at e
 have:xs.toList[j]?=some y:=by rw[<- e];exact zE (by lia)
 rw[<- this];simp
theorem get_of_lt{xs:Array Keyed}{i:Nat}(h:i<xs.size):∃ p,xs[i]?=some p:=⟨xs[i],getElem?_pos _ i h⟩
structure Sm(st st':SortSt):Prop where
 k:kindOf st'=kindOf st
 a:arrOf st'=arrOf st
 p:pendingOf st'=pendingOf st
 f:failedOf st'=failedOf st
theorem Sm.refl(st:SortSt):Sm st st:=⟨rfl,rfl,rfl,rfl⟩
theorem Sm.min{st st':SortSt}(h:Sm st st')(g:Nat):Sm st (SortSt.mk' (kindOf st') (arrOf st') (pendingOf st') g (failedOf st')):=⟨h.k,h.a,h.p,h.f⟩
section
variable{prog:Program}{w:World}{A:Around}{E:Value->Shared->Prop}{s:Shared}{κ:KeyKind}{kd:SortKind}{st:SortSt}
theorem lt_ok{x y:Keyed}{Q:Option Bool->SortSt->Prop}(hO:LtOk κ kd prog w A s)(hk:kindOf st=kd)(hx:∃ a,κ.keyOf x.1=some a)(hy:∃ a,κ.keyOf y.1=some a)(h:Q (some (κ.blt (kk κ x) (kk κ y))) st) :
  wpS (model prog w) A E s (lt' x y) Q st:=by
 obtain⟨a,ha⟩:=hx
 obtain⟨c,hc⟩:=hy
 refine hO E x y a c Q st hk ha hc ?_
 have e1:kk κ x=a:=by unfold kk;rw[ha];rfl
 have e2:kk κ y=c:=by unfold kk;rw[hc];rfl
 rwa [e1,e2]at h
noncomputable def Keyd(κ:KeyKind)(xs:Array Keyed):Prop:=∀ (i:Nat) (p:Keyed),xs[i]?=some p->∃ a,κ.keyOf p.1=some a
theorem bey_left{key:Keyed}{arr:Array Keyed}{base n:Nat}(hO:LtOk κ kd prog w A s)(hk:∃ a,κ.keyOf key.1=some a)(ha:Keyd κ arr)(hn:base+n<=arr.size) :
  BeyOk prog w A s kd true key arr base n fun i=>κ.blt (KK κ arr (base+i)) (kk κ key):=by
 intro i E Q st hi hs h
 obtain⟨p,hp⟩:=get_of_lt (xs:=arr) (i:=base+i) (by lia)
 unfold bey
 refine wpS_bind (elem_ok hp ?_)
 rw[if_pos rfl]
 refine lt_ok hO hs (ha _ _ hp) hk ?_
 dsimp only at h
 rwa [KK_of hp]at h
theorem bey_right{key:Keyed}{arr:Array Keyed}{base n:Nat}(hO:LtOk κ kd prog w A s)(hk:∃ a,κ.keyOf key.1=some a)(ha:Keyd κ arr)(hn:base+n<=arr.size) :
  BeyOk prog w A s kd false key arr base n fun i=>!(κ.blt (kk κ key) (KK κ arr (base+i))):=by
 intro i E Q st hi hs h
 obtain⟨p,hp⟩:=get_of_lt (xs:=arr) (i:=base+i) (by lia)
 unfold bey
 refine wpS_bind (elem_ok hp ?_)
 rw[if_neg zT]
 refine wpS_bind (lt_ok hO hs hk (ha _ _ hp) (wpS_pure ?_))
 dsimp only at h
 rwa [KK_of hp]at h
end
open PySem PyProof.Rows
theorem ext_drop(xs:Array Keyed)(i:Nat):(xs.extract i xs.size).toList=xs.toList.drop i:=by
 simp[Array.toList_extract,List.extract_eq_drop_take]
 rw[zAZ]
 simp
theorem ext_blk(xs:Array Keyed)(i k:Nat):(xs.extract i (i+k)).toList=(xs.toList.drop i).take k:=by
 simp[Array.toList_extract,List.extract_eq_drop_take]
theorem ext_take(xs:Array Keyed)(k:Nat):(xs.extract 0 k).toList=xs.toList.take k:=by
 simp[Array.toList_extract,List.extract_eq_drop_take]
theorem blk_drop(xs:Array Keyed)(i k:Nat):xs.toList.drop i=(xs.toList.drop i).take k++xs.toList.drop (i+k):=by
 rw[<- List.drop_drop,zBD]
theorem drop_all(xs:Array Keyed):xs.toList.drop xs.size=[]:=by simp
section
variable{κ:KeyKind}{a b out:Array Keyed}{T:List Keyed}{ia ib k:Nat}{p:Keyed}
theorem fin_b(h:MI κ T out.toList (a.toList.drop ia) (b.toList.drop ib))(e:ib=b.size):Good κ T (out++a.extract ia a.size++b.extract ib b.size):=by
 subst e
 rw[drop_all]at h
 exact h.endB (by rw[zBY,zBY,ext_drop,ext_drop,drop_all,zBP])
theorem fin_a(h:MI κ T out.toList (a.toList.drop ia) (b.toList.drop ib))(e:ia=a.size):Good κ T (out++a.extract ia a.size++b.extract ib b.size):=by
 subst e
 rw[drop_all]at h
 exact h.endA (by rw[zBY,zBY,ext_drop,ext_drop,drop_all,zBP])
theorem fin_l(h:MI κ T out.toList (a.toList.drop ia) (b.toList.drop ib))(e:ia+1=a.size)(hl:∀ j,j<b.size->κ.kle (KK κ b j) (KK κ a (a.size-1))):Good κ T (out++b.extract ib b.size++a.extract ia a.size):=by
 obtain⟨l,hl'⟩:=get_of_lt (xs:=a) (i:=ia) (by exact zAV (zBX e))
 have ed:a.toList.drop ia=[l]:=by rw[drop_at hl',e,drop_all];rfl
 rw[ed]at h
 refine h.last (fun y hy=>?_) (by rw[zBY,zBY,ext_drop,ext_drop,ed])
 obtain⟨j,_,j2,j3⟩:=mem_drop hy
 have q:=hl j j2
 rw[show a.size-1=ia by lia,KK_of j3,KK_of hl']at q
 exact q
theorem mv_b(h:MI κ T out.toList (a.toList.drop ia) (b.toList.drop ib))(hp:b[ib]?=some p)(hx:∀ i,ia<=i->i<a.size->κ.kle (KK κ b ib) (KK κ a i)):MI κ T (out.push p).toList (a.toList.drop ia) (b.toList.drop (ib+1)):=by
 rw[drop_at hp]at h
 rw[Array.toList_push]
 refine h.b fun x hx' y hy=>?_
 rw[zH.mp hx']
 obtain⟨j,j1,j2,j3⟩:=mem_drop hy
 have q:=hx j j1 j2
 rw[KK_of hp,KK_of j3]at q
 exact q
theorem mv_a(h:MI κ T out.toList (a.toList.drop ia) (b.toList.drop ib))(hp:a[ia]?=some p)(hx:∀ j,ib<=j->j<b.size->κ.kle (KK κ a ia) (KK κ b j)):MI κ T (out.push p).toList (a.toList.drop (ia+1)) (b.toList.drop ib):=by
 rw[drop_at hp]at h
 rw[Array.toList_push]
 refine h.a fun x hx' y hy=>?_
 rw[zH.mp hx']
 obtain⟨j,j1,j2,j3⟩:=mem_drop hy
 have q:=hx j j1 j2
 rw[KK_of hp,KK_of j3]at q
 exact q
theorem mem_blk{xs:Array Keyed}{i k:Nat}{y:Keyed}(h:y∈(xs.toList.drop i).take k):∃ j,i<=j/\j<i+k/\j<xs.size/\xs[j]?=some y:=by
 obtain⟨j,hj,e⟩:=zBE h
 rw[zAS,zCB]at hj
 have hl:xs.toList.length=xs.size:=by simp
 refine⟨i+j,by exact zAA i j,by lia,by omega,?_⟩
 rw[List.getElem_take,List.getElem_drop]at e
 have:xs.toList[i+j]?=some y:=by rw[<- e];exact zE (by omega)
 rw[<- this];simp
theorem blk_a(h:MI κ T out.toList (a.toList.drop ia) (b.toList.drop ib))(hx:∀ i,ia<=i->i<ia+k->i<a.size->∀ j,ib<=j->j<b.size->κ.kle (KK κ a i) (KK κ b j)) :
  MI κ T (out++a.extract ia (ia+k)).toList (a.toList.drop (ia+k)) (b.toList.drop ib):=by
 rw[blk_drop a ia k]at h
 rw[zBY,ext_blk]
 refine h.a fun x hx' y hy=>?_
 obtain⟨i,i1,i2,i3,i4⟩:=mem_blk hx'
 obtain⟨j,j1,j2,j3⟩:=mem_drop hy
 have q:=hx i i1 i2 i3 j j1 j2
 rw[KK_of i4,KK_of j3]at q
 exact q
theorem blk_b(h:MI κ T out.toList (a.toList.drop ia) (b.toList.drop ib))(hx:∀ j,ib<=j->j<ib+k->j<b.size->∀ i,ia<=i->i<a.size->κ.kle (KK κ b j) (KK κ a i)) :
  MI κ T (out++b.extract ib (ib+k)).toList (a.toList.drop ia) (b.toList.drop (ib+k)):=by
 rw[blk_drop b ib k]at h
 rw[zBY,ext_blk]
 refine h.b fun x hx' y hy=>?_
 obtain⟨i,i1,i2,i3,i4⟩:=mem_blk hx'
 obtain⟨j,j1,j2,j3⟩:=mem_drop hy
 have q:=hx i i1 i2 i3 j j1 j2
 rw[KK_of i4,KK_of j3]at q
 exact q
end
theorem wpS_if{M:Model}{A:Around}{E:Value->Shared->Prop}{s:Shared}{σ α:Type}{c:Prop}[Decidable c]{x y:StateT σ Sem α}{Q:α->σ->Prop}{st:σ}(h1:c->wpS M A E s x Q st)(h2:¬ c->wpS M A E s y Q st):wpS M A E s (if c then x else y) Q st:=by
 by_cases h:c
 ·rw[if_pos h];exact h1 h
 ·rw[if_neg h];exact h2 h
theorem pw_of{κ:KeyKind}{xs:Array Keyed}(h:∀ i j,i<=j->j<xs.size->κ.kle (KK κ xs i) (KK κ xs j)):xs.toList.Pairwise (kL κ):=by
 rw[zBR]
 intro i j hi hj hij
 have hl:xs.toList.length=xs.size:=by simp
 have q:=h i j (by exact zBB hij) (by omega)
 rw[KK_of (p:=xs.toList[i]) (by rw[<- zE hi];simp),KK_of (p:=xs.toList[j]) (by rw[<- zE hj];simp)]at q
 exact q
section
variable{prog:Program}{w:World}{A:Around}{E:Value->Shared->Prop}{s:Shared}{κ:KeyKind}{kd:SortKind}{st:SortSt}
variable{a b:Array Keyed}
@[elab_as_elim] theorem el4{α0 α1 α2 α3 ε:Type}{P:α0->α1->α2->α3->Prop}{motive:Option ε×α0×α1×α2×α3->Prop}(c:Option ε×α0×α1×α2×α3)(h:∃ x0 x1 x2 x3,c=(none,x0,x1,x2,x3)/\P x0 x1 x2 x3)(k:∀ x0 x1 x2 x3,P x0 x1 x2 x3->motive (none,x0,x1,x2,x3)):motive c:=by
 obtain⟨x0,x1,x2,x3,rfl,p⟩:=h
 exact k x0 x1 x2 x3 p
@[elab_as_elim] theorem el5{α0 α1 α2 α3 α4 ε:Type}{P:α0->α1->α2->α3->α4->Prop}{motive:Option ε×α0×α1×α2×α3×α4->Prop}(c:Option ε×α0×α1×α2×α3×α4)(h:∃ x0 x1 x2 x3 x4,c=(none,x0,x1,x2,x3,x4)/\P x0 x1 x2 x3 x4)(k:∀ x0 x1 x2 x3 x4,P x0 x1 x2 x3 x4->motive (none,x0,x1,x2,x3,x4)):motive c:=by
 obtain⟨x0,x1,x2,x3,x4,rfl,p⟩:=h
 exact k x0 x1 x2 x3 x4 p
@[elab_as_elim] theorem eo5{α0 α1 α2 α3 α4 ε:Type}{P:α0->α1->α2->α3->α4->Prop}{G:ε->Prop}{motive:Option ε×α0×α1×α2×α3×α4->Prop}(c:Option ε×α0×α1×α2×α3×α4)(h:(∃ R r,c=(some R,r)/\G R)\/∃ x0 x1 x2 x3 x4,c=(none,x0,x1,x2,x3,x4)/\P x0 x1 x2 x3 x4)(k1:∀ R r,G R->motive (some R,r))(k:∀ x0 x1 x2 x3 x4,P x0 x1 x2 x3 x4->motive (none,x0,x1,x2,x3,x4)):motive c:=by
 obtain⟨R,r,rfl,g⟩ | h:=h
 ·exact k1 R r g
 ·exact el5 c h k
@[elab_as_elim] theorem el6{α0 α1 α2 α3 α4 α5 ε:Type}{P:α0->α1->α2->α3->α4->α5->Prop}{motive:Option ε×α0×α1×α2×α3×α4×α5->Prop}(c:Option ε×α0×α1×α2×α3×α4×α5)(h:∃ x0 x1 x2 x3 x4 x5,c=(none,x0,x1,x2,x3,x4,x5)/\P x0 x1 x2 x3 x4 x5)(k:∀ x0 x1 x2 x3 x4 x5,P x0 x1 x2 x3 x4 x5->motive (none,x0,x1,x2,x3,x4,x5)):motive c:=by
 obtain⟨x0,x1,x2,x3,x4,x5,rfl,p⟩:=h
 exact k x0 x1 x2 x3 x4 x5 p
@[elab_as_elim] theorem eo6{α0 α1 α2 α3 α4 α5 ε:Type}{P:α0->α1->α2->α3->α4->α5->Prop}{G:ε->Prop}{motive:Option ε×α0×α1×α2×α3×α4×α5->Prop}(c:Option ε×α0×α1×α2×α3×α4×α5)(h:(∃ R r,c=(some R,r)/\G R)\/∃ x0 x1 x2 x3 x4 x5,c=(none,x0,x1,x2,x3,x4,x5)/\P x0 x1 x2 x3 x4 x5)(k1:∀ R r,G R->motive (some R,r))(k:∀ x0 x1 x2 x3 x4 x5,P x0 x1 x2 x3 x4 x5->motive (none,x0,x1,x2,x3,x4,x5)):motive c:=by
 obtain⟨R,r,rfl,g⟩ | h:=h
 ·exact k1 R r g
 ·exact el6 c h k
structure Shd(P:Prop):Prop where
 out:P
theorem wpS_ifS{c:Prop}[Decidable c]{σ α:Type}{M:Model}{x y:StateT σ Sem α}{Q:α->σ->Prop}{t:σ}{P:Prop}(g:P)(h1:c->Shd P->wpS M A E s x Q t)(h2:¬ c->Shd P->wpS M A E s y Q t):wpS M A E s (if c then x else y) Q t:=by
 split
 ·exact h1 (by assumption) ⟨g⟩
 ·exact h2 (by assumption) ⟨g⟩
theorem mergeLo_ok{Q:Array Keyed->SortSt->Prop}(hO:LtOk κ kd prog w A s)(hk:kindOf st=kd)(ka:Keyd κ a)(kb:Keyd κ b)(hA:∀ i j,i<=j->j<a.size->κ.kle (KK κ a i) (KK κ a j))(hB:∀ i j,i<=j->j<b.size->κ.kle (KK κ b i) (KK κ b j))
  (ha:0<a.size) (hb:0<b.size) (h1:κ.kle (KK κ b 0) (KK κ a 0)) (h2:κ.kle (KK κ b (b.size-1)) (KK κ a (a.size-1)))
  (h:∀ R st',Sm st st'->Good κ (a.toList++b.toList) R->Q R st'):wpS (model prog w) A E s (mergeLoP a b) Q st:=by
 obtain⟨b0,e0⟩:=get_of_lt hb
 generalize hT:a.toList++b.toList=T at h
 have hl:∀ j,j<b.size->κ.kle (KK κ b j) (KK κ a (a.size-1)):=fun j hj=>KeyOrd.kle_trans (hB j (b.size-1) (by exact zi6 (zm5 (zi2 hj) (zh6 hb))) (by exact zh4 hb)) h2
 have m0:MI κ T (#[]:Array Keyed).toList (a.toList.drop 0) (b.toList.drop 0):=⟨by rw[<- hT];simp,.nil,fun x hx=>by simp at hx,by simpa using pw_of hA,by simpa using pw_of hB⟩
 have m1:MI κ T (#[b0]:Array Keyed).toList (a.toList.drop 0) (b.toList.drop 1):=mv_b m0 e0 fun i _ hi=>KeyOrd.kle_trans h1 (hA 0 i (by omega) hi)
 refine wpS_bind (wpS_lift (wpAny_rule ⟨rfl,wpS_bind (elem_ok e0 ?_)⟩))
 dsimp only
 by_cases y1:1=b.size
 ·rw[if_pos (by simpa using y1)]
  exact wpS_pure (h _ _ (Sm.refl _) (fin_b m1 y1))
 rw[if_neg (by simpa using y1)]
 by_cases y2:0+1=a.size
 ·rw[if_pos (by simpa using y2)]
  exact wpS_pure (h _ _ (Sm.refl _) (fin_l m1 y2 hl))
 rw[if_neg (by simpa using y2)]
 refine wpS_bind (wpS_get ?_)
 refine wpS_bind (wpS_mono (wpS_forRange (I:=fun x c st'=>Sm st st'/\∃ out ia ib mg,c=(none,out,ia,ib,mg)/\MI κ T out.toList (a.toList.drop ia) (b.toList.drop ib)/\ia+1<a.size/\ib<b.size/\x<ia+ib)
  (Q:=fun c st'=>Sm st st'/\∃ R r,c=(some R,r)/\Good κ T R) ?ostep ?ofin ⟨Sm.refl _,_,_,_,_,rfl,m1,by exact zi7 ha y2,by exact zi7 hb y1,by exact Nat.succ_pos 0⟩) ?opost)
 case opost =>
  rintro c st' ⟨sm,R,r,rfl,g⟩
  exact wpS_pure (h R st' sm g)
 case ofin =>
  rintro c st' ⟨sm,out,ia,ib,mg,rfl,m,q1,q2,q3⟩
  lia
 case ostep =>
  intro x c st1 _ hx hI
  have sm1:=hI.1
  refine el4 c hI.2 fun out ia ib mg hP=>?_
  have m:=hP.1
  have q1:=hP.2.1
  have q2:=hP.2.2.1
  have q3:=hP.2.2.2
  clear hI hP
  dsimp only
  refine wpS_bind (wpS_mono (wpS_forRange (I:=fun y c st'=>Sm st st'/\∃ out ia ib ac bc,c=(none,out,ia,ib,ac,bc)/\MI κ T out.toList (a.toList.drop ia) (b.toList.drop ib)/\ia+1<a.size/\ib<b.size/\x+min y 1<ia+ib)
   (Q:=fun c st'=>Sm st st'/\((∃ R r,c=(some R,r)/\Good κ T R)\/∃ out ia ib ac bc,c=(none,out,ia,ib,ac,bc)/\MI κ T out.toList (a.toList.drop ia) (b.toList.drop ib)/\ia+1<a.size/\ib<b.size/\x+1<ia+ib))
   ?istep ?ifin ⟨sm1,_,_,_,_,_,rfl,m,q1,q2,by lia⟩) ?ipost)
  case ifin =>
   rintro c st' ⟨sm,out,ia,ib,ac,bc,rfl,m,q1,q2,q3⟩
   exact⟨sm,.inr ⟨out,ia,ib,ac,bc,rfl,m,q1,q2,by lia⟩⟩
  case istep =>
   intro y c st2 _ hy hI
   have sm:=hI.1
   refine el5 c hI.2 fun out ia ib ac bc hP=>?_
   have m:=hP.1
   have q1:=hP.2.1
   have q2:=hP.2.2.1
   have q3:=hP.2.2.2
   clear hI hP
   dsimp only
   obtain⟨pb,eb⟩:=get_of_lt q2
   obtain⟨pa,ea⟩:=get_of_lt (xs:=a) (i:=ia) (by exact zj1 q1)
   refine wpS_bind (elem_ok eb (wpS_bind (elem_ok ea (wpS_bind (lt_ok hO (sm.k.trans hk) (kb _ _ eb) (ka _ _ ea) ?_)))))
   cases t:κ.blt (kk κ pb) (kk κ pa)with
   |true =>
    dsimp only
    rw[if_pos rfl]
    have tk:κ.kle (KK κ b ib) (KK κ a ia):=by rw[KK_of eb,KK_of ea];exact KeyOrd.kle_of_klt t
    have m':=mv_b m eb fun i i1 i2=>KeyOrd.kle_trans tk (hA ia i i1 i2)
    refine wpS_bind (elem_ok eb ?_)
    by_cases z:ib+1=b.size
    ·rw[if_pos (by simpa using z)]
     exact wpS_pure ⟨sm,.inl ⟨_,_,rfl,fin_b m' z⟩⟩
    ·rw[if_neg (by simpa using z)]
     split
     ·exact wpS_pure ⟨sm,.inr ⟨_,_,_,_,_,rfl,m',q1,by exact zi7 q2 z,by lia⟩⟩
     ·exact wpS_pure ⟨sm,_,_,_,_,_,rfl,m',q1,by exact zi7 q2 z,by lia⟩
   |false =>
    dsimp only
    rw[if_neg zT]
    have tk:κ.kle (KK κ a ia) (KK κ b ib):=by rw[KK_of eb,KK_of ea];exact t
    have m':=mv_a m ea fun i i1 i2=>KeyOrd.kle_trans tk (hB ib i i1 i2)
    refine wpS_bind (elem_ok ea ?_)
    by_cases z:ia+1+1=a.size
    ·rw[if_pos (by simpa using z)]
     exact wpS_pure ⟨sm,.inl ⟨_,_,rfl,fin_l m' z hl⟩⟩
    ·rw[if_neg (by simpa using z)]
     split
     ·exact wpS_pure ⟨sm,.inr ⟨_,_,_,_,_,rfl,m',by exact zi7 q1 z,q2,by lia⟩⟩
     ·exact wpS_pure ⟨sm,_,_,_,_,_,rfl,m',by exact zi7 q1 z,q2,by lia⟩
  case ipost =>
   intro c st2 hI
   have sm2:=hI.1
   refine eo5 c hI.2 (fun R r g=>?_) fun out ia ib ac bc hP=>?_
   ·exact wpS_pure ⟨sm2,R,_,rfl,g⟩
   have m:=hP.1
   have q1:=hP.2.1
   have q2:=hP.2.2.1
   have q3:=hP.2.2.2
   clear hI hP
   dsimp only
   refine wpS_bind (wpS_lift (wpAny_rule ⟨rfl,?_⟩))
   refine wpS_bind (wpS_mono (wpS_forRange (I:=fun y c st'=>Sm st st'/\∃ out ia ib mg ac bc,c=(none,out,ia,ib,mg,ac,bc)/\MI κ T out.toList (a.toList.drop ia) (b.toList.drop ib)/\ia+1<a.size/\ib<b.size/\x+1<ia+ib)
    (Q:=fun c st'=>Sm st st'/\((∃ R r,c=(some R,r)/\Good κ T R)\/∃ out ia ib mg ac bc,c=(none,out,ia,ib,mg,ac,bc)/\MI κ T out.toList (a.toList.drop ia) (b.toList.drop ib)/\ia+1<a.size/\ib<b.size/\x+1<ia+ib))
    ?gstep ?gfin ⟨sm2,_,_,_,_,_,_,rfl,m,q1,q2,q3⟩) ?gpost)
   case gfin =>
    exact fun c st' hI=>⟨hI.1,.inr hI.2⟩
   case gpost =>
    intro c st3 hI
    have sm3:=hI.1
    refine eo6 c hI.2 (fun R r g=>?_) fun out ia ib mg ac bc hP=>?_
    ·exact wpS_pure ⟨sm3,R,_,rfl,g⟩
    dsimp only
    exact wpS_bind (wpS_modify (wpS_pure ⟨sm3.min _,_,_,_,_,rfl,hP⟩))
   case gstep =>
    intro y c st3 _ hy hI
    have sm:=hI.1
    refine el6 c hI.2 fun out ia ib mg ac bc hP=>?_
    have m:=hP.1
    have q1:=hP.2.1
    have q2:=hP.2.2.1
    have q3:=hP.2.2.2
    clear hI hP
    dsimp only
    obtain⟨pb,eb⟩:=get_of_lt q2
    refine' wpS_ifS (P:=_) ?A0 (fun _ H=>?A1) fun _ H=>?A2
    case A1=>generalize mg-1=z;revert z;exact H.out
    case A2=>exact H.out _
    intro mg
    refine wpS_bind (wpS_modify ?_)
    refine wpS_bind (elem_ok eb (wpS_bind (gallop_ok (bey_right hO (kb _ _ eb) ka (base:=ia) (n:=a.size-ia) (by omega)) ((sm.min _).k.trans hk) (fun i j hij hj t=>?_) (by omega) fun k k1 k2 k3=>?_)))
    ·have t1:κ.kle (KK κ a (ia+j)) (kk κ pb):=by simpa[KeyOrd.kle]using t
     have t2:=KeyOrd.kle_trans (hA (ia+i) (ia+j) (by lia) (by omega)) t1
     simpa[KeyOrd.kle]using t2
    dsimp only
    have low:∀ i,ia<=i->i<ia+k->κ.kle (KK κ a i) (KK κ b ib):=fun i i1 i2=>by
     have q:=k2 (i-ia) (by omega)
     rw[show ia+(i-ia)=i by omega]at q
     rw[KK_of eb]
     simpa[KeyOrd.kle]using q
    have hi0:∀ i,ia+k<=i->i<a.size->κ.kle (KK κ b ib) (KK κ a i):=fun i i1 i2=>by
     have q:=k3 (i-ia) (by omega) (by omega)
     rw[show ia+(i-ia)=i by lia]at q
     rw[KK_of eb]
     exact KeyOrd.kle_of_klt (show κ.blt _ _=true by simpa using q)
    refine' wpS_ifS (P:=_) ?B0 (fun kz H=>?B1) fun kz H=>?B2
    case B1 =>
     have mk:=blk_a (k:=k) m fun i i1 i2 _ j j1 j2=>KeyOrd.kle_trans (low i i1 i2) (hB ib j j1 j2)
     by_cases w1:ia+k+1=a.size
     ·rw[if_pos (by simpa using w1)]
      exact wpS_pure ⟨sm.min _,.inl ⟨_,_,rfl,fin_l mk w1 hl⟩⟩
     rw[if_neg (by simpa using w1)]
     by_cases w2:ia+k=a.size
     ·rw[if_pos (by simpa using w2)]
      exact wpS_pure ⟨sm.min _,.inl ⟨_,_,rfl,fin_a mk w2⟩⟩
     rw[if_neg (by simpa using w2)]
     have pr:x+1<ia+k+ib:=by lia
     have p1:ia+k+1<a.size:=by lia
     have hi1:=hi0
     revert pr p1 hi1 mk
     generalize out++a.extract ia (ia+k)=out1
     generalize ia+k=ia1
     revert out1 ia1
     exact H.out
    case B2 =>
     have k0:k=0:=by exact Eq.symm (zj7 (zAT k) kz)
     exact H.out _ _ m q3 q1 (fun i i1 i2=>hi0 i (by lia) i2)
    clear low hi0 k1 k2 k3 m q3 q1
    intro out1 ia1 m1 pr p1 hi1
    refine wpS_bind (elem_ok eb ?_)
    have m2:=mv_b m1 eb hi1
    by_cases z:ib+1=b.size
    ·rw[if_pos (by simpa using z)]
     exact wpS_pure ⟨sm.min _,.inl ⟨_,_,rfl,fin_b m2 z⟩⟩
    rw[if_neg (by simpa using z)]
    obtain⟨pa,ea⟩:=get_of_lt (xs:=a) (i:=ia1) (by exact zj1 p1)
    refine wpS_bind (elem_ok ea (wpS_bind (gallop_ok (bey_left hO (ka _ _ ea) kb (base:=ib+1) (n:=b.size-(ib+1)) (by omega)) ((sm.min _).k.trans hk) (fun i j hij hj t=>?_) (by omega) fun k2 l1 l2 l3=>?_)))
    ·exact KeyOrd.klt_of_kle_of_klt (hB (ib+1+i) (ib+1+j) (by lia) (by omega)) t
    dsimp only
    have low2:∀ j,ib+1<=j->j<ib+1+k2->κ.kle (KK κ b j) (KK κ a ia1):=fun j j1 j2=>by
     have q:=l2 (j-(ib+1)) (by omega)
     rw[show ib+1+(j-(ib+1))=j by omega]at q
     rw[KK_of ea]
     exact KeyOrd.kle_of_klt q
    have high2:∀ j,ib+1+k2<=j->j<b.size->κ.kle (KK κ a ia1) (KK κ b j):=fun j j1 j2=>by
     have q:=l3 (j-(ib+1)) (by omega) (by omega)
     rw[show ib+1+(j-(ib+1))=j by omega]at q
     rw[KK_of ea]
     exact q
    refine' wpS_ifS (P:=_) ?C0 (fun kz2 H=>?C1) fun kz2 H=>?C2
    case C1 =>
     have m3:=blk_b (k:=k2) m2 fun j j1 j2 _ i i1 i2=>KeyOrd.kle_trans (low2 j j1 j2) (hA ia1 i i1 i2)
     by_cases z2:ib+1+k2=b.size
     ·rw[if_pos (by simpa using z2)]
      exact wpS_pure ⟨sm.min _,.inl ⟨_,_,rfl,fin_b m3 z2⟩⟩
     rw[if_neg (by simpa using z2)]
     have e1:ib+1+k2<b.size:=by omega
     have e2:x+1<ia1+1+(ib+1+k2):=by lia
     have hi2:=high2
     revert e1 e2 hi2 m3
     generalize out1.push pb++b.extract (ib+1) (ib+1+k2)=out2
     generalize ib+1+k2=ib2
     generalize k2=bc
     revert out2 ib2 bc
     exact H.out
    case C2 =>
     have k0:k2=0:=by exact Eq.symm (zj7 (zAT k2) kz2)
     exact H.out _ _ _ m2 (by exact zi7 q2 z) (by lia) (fun j j1 j2=>high2 j (by lia) j2)
    clear low2 high2 l1 l2 l3 m2 m1
    intro out2 ib2 bc m3 e1 e2 high2
    refine wpS_bind (elem_ok ea ?_)
    have m4:=mv_a m3 ea high2
    by_cases z3:ia1+1+1=a.size
    ·rw[if_pos (by simpa using z3)]
     exact wpS_pure ⟨sm.min _,.inl ⟨_,_,rfl,fin_l m4 z3 hl⟩⟩
    rw[if_neg (by simpa using z3)]
    have e3:ia1+1+1<a.size:=by exact zi7 p1 z3
    refine wpS_if (fun _=>?_) fun _=>?_
    ·exact wpS_pure ⟨sm.min _,.inr ⟨_,_,_,_,_,_,rfl,m4,e3,e1,e2⟩⟩
    ·exact wpS_pure ⟨sm.min _,_,_,_,_,_,_,rfl,m4,e3,e1,e2⟩
end
open PySem PyProof.Rows
section
variable{κ:KeyKind}{a b out:Array Keyed}{T:List Keyed}{na nb k:Nat}{p:Keyed}
theorem rev_out(xs ys out:Array Keyed):(xs++ys++out.reverse).toList=xs.toList++ys.toList++out.toList.reverse:=by simp
theorem hf_a(h:MH κ T out.toList.reverse (a.toList.take na) (b.toList.take nb))(e:na=0):Good κ T (a.extract 0 na++b.extract 0 nb++out.reverse):=by
 subst e
 rw[List.take_zero]at h
 exact h.endA (by rw[rev_out,ext_take,ext_take,List.take_zero,List.nil_append])
theorem hf_b(h:MH κ T out.toList.reverse (a.toList.take na) (b.toList.take nb))(e:nb=0):Good κ T (a.extract 0 na++b.extract 0 nb++out.reverse):=by
 subst e
 rw[List.take_zero]at h
 exact h.endB (by rw[rev_out,ext_take,ext_take,List.take_zero,zBP])
theorem hf_f(h:MH κ T out.toList.reverse (a.toList.take na) (b.toList.take nb))(e:nb=1)(hb:0<b.size)(hl:∀ i,i<a.size->κ.kle (KK κ b 0) (KK κ a i)):Good κ T (b.extract 0 nb++a.extract 0 na++out.reverse):=by
 subst e
 obtain⟨l,hl'⟩:=get_of_lt hb
 have ed:b.toList.take 1=[l]:=by rw[take_at hl'];rfl
 rw[ed]at h
 refine h.first (fun y hy=>?_) (by rw[rev_out,ext_take,ext_take,ed])
 obtain⟨j,_,j2,j3⟩:=mem_take hy
 have q:=hl j j2
 rw[KK_of j3,KK_of hl']at q
 exact q
theorem hm_a(h:MH κ T out.toList.reverse (a.toList.take (na+1)) (b.toList.take nb))(hp:a[na]?=some p)(hx:∀ j,j<nb->j<b.size->κ.kle (KK κ b j) (KK κ a na)):MH κ T (out.push p).toList.reverse (a.toList.take na) (b.toList.take nb):=by
 rw[take_at hp]at h
 have e:(out.push p).toList.reverse=[p]++out.toList.reverse:=by simp
 rw[e]
 refine h.a fun x hx' y hy=>?_
 rw[zH.mp hx']
 obtain⟨j,j1,j2,j3⟩:=mem_take hy
 have q:=hx j j1 j2
 rw[KK_of hp,KK_of j3]at q
 exact q
theorem hm_b(h:MH κ T out.toList.reverse (a.toList.take na) (b.toList.take (nb+1)))(hp:b[nb]?=some p)(hx:∀ i,i<na->i<a.size->κ.kle (KK κ a i) (KK κ b nb)):MH κ T (out.push p).toList.reverse (a.toList.take na) (b.toList.take nb):=by
 rw[take_at hp]at h
 have e:(out.push p).toList.reverse=[p]++out.toList.reverse:=by simp
 rw[e]
 refine h.b fun x hx' y hy=>?_
 rw[zH.mp hx']
 obtain⟨j,j1,j2,j3⟩:=mem_take hy
 have q:=hx j j1 j2
 rw[KK_of hp,KK_of j3]at q
 exact q
theorem take_blk(xs:Array Keyed){i n:Nat}(h:i<=n):xs.toList.take n=xs.toList.take i++(xs.toList.drop i).take (n-i):=by
 rw[<- List.take_add,Nat.add_sub_cancel' h]
theorem out_blk(out xs:Array Keyed){i n:Nat}(h:i<=n):(out++(xs.extract i n).reverse).toList.reverse=(xs.toList.drop i).take (n-i)++out.toList.reverse:=by
 have e:=ext_blk xs i (n-i)
 rw[Nat.add_sub_cancel' h]at e
 rw[<- e]
 simp
theorem hb_a{i:Nat}(hi:i<=na)(h:MH κ T out.toList.reverse (a.toList.take na) (b.toList.take nb))(hx:∀ m,i<=m->m<na->m<a.size->∀ j,j<nb->j<b.size->κ.kle (KK κ b j) (KK κ a m)) :
  MH κ T (out++(a.extract i na).reverse).toList.reverse (a.toList.take i) (b.toList.take nb):=by
 rw[take_blk a hi]at h
 rw[out_blk _ _ hi]
 refine h.a fun x hx' y hy=>?_
 obtain⟨m,i1,i2,i3,i4⟩:=mem_blk hx'
 obtain⟨j,j1,j2,j3⟩:=mem_take hy
 have q:=hx m i1 (by lia) i3 j j1 j2
 rw[KK_of i4,KK_of j3]at q
 exact q
theorem hb_b{i:Nat}(hi:i<=nb)(h:MH κ T out.toList.reverse (a.toList.take na) (b.toList.take nb))(hx:∀ m,i<=m->m<nb->m<b.size->∀ j,j<na->j<a.size->κ.kle (KK κ a j) (KK κ b m)) :
  MH κ T (out++(b.extract i nb).reverse).toList.reverse (a.toList.take na) (b.toList.take i):=by
 rw[take_blk b hi]at h
 rw[out_blk _ _ hi]
 refine h.b fun x hx' y hy=>?_
 obtain⟨m,i1,i2,i3,i4⟩:=mem_blk hx'
 obtain⟨j,j1,j2,j3⟩:=mem_take hy
 have q:=hx m i1 (by lia) i3 j j1 j2
 rw[KK_of i4,KK_of j3]at q
 exact q
end
section
variable{prog:Program}{w:World}{A:Around}{E:Value->Shared->Prop}{s:Shared}{κ:KeyKind}{kd:SortKind}{st:SortSt}
variable{a b:Array Keyed}
inductive Hi(κ:KeyKind)(T:List Keyed)(a b:Array Keyed)(z na nb:Nat)(out:Array Keyed):Prop where
 |mk(m:MH κ T out.toList.reverse (a.toList.take na) (b.toList.take nb))(q1:0<na)(q1':na<=a.size)(q2:1<nb)(q2':nb<=b.size)(q3:z+na+nb<a.size+b.size)
theorem mergeHi_ok{Q:Array Keyed->SortSt->Prop}(hO:LtOk κ kd prog w A s)(hk:kindOf st=kd)(ka:Keyd κ a)(kb:Keyd κ b)(hA:∀ i j,i<=j->j<a.size->κ.kle (KK κ a i) (KK κ a j))(hB:∀ i j,i<=j->j<b.size->κ.kle (KK κ b i) (KK κ b j))
  (ha:0<a.size) (hb:0<b.size) (h1:κ.kle (KK κ b 0) (KK κ a 0)) (h2:κ.kle (KK κ b (b.size-1)) (KK κ a (a.size-1)))
  (h:∀ R st',Sm st st'->Good κ (a.toList++b.toList) R->Q R st'):wpS (model prog w) A E s (mergeHiP a b) Q st:=by
 obtain⟨al,el⟩:=get_of_lt (xs:=a) (i:=a.size-1) (by exact zh4 ha)
 generalize hT:a.toList++b.toList=T at h
 have hf:∀ i,i<a.size->κ.kle (KK κ b 0) (KK κ a i):=fun i hi=>KeyOrd.kle_trans h1 (hA 0 i (by exact zAT i) hi)
 have m0:MH κ T (#[]:Array Keyed).toList.reverse (a.toList.take (a.size-1+1)) (b.toList.take b.size):=by
  rw[show a.size-1+1=a.size by exact zh6 ha]
  rw[zAZ (l:=a.toList) (by simp),zAZ (l:=b.toList) (by simp)]
  exact⟨by rw[<- hT];simp,by simp,fun x hx=>by simp at hx,pw_of hA,pw_of hB⟩
 have m1:MH κ T (#[al]:Array Keyed).toList.reverse (a.toList.take (a.size-1)) (b.toList.take b.size):=hm_a m0 el fun j _ hj=>KeyOrd.kle_trans (hB j (b.size-1) (by omega) (by exact zh4 hb)) h2
 refine wpS_bind (wpS_lift (wpAny_rule ⟨rfl,wpS_bind (elem_ok el ?_)⟩))
 dsimp only
 by_cases y1:a.size-1=0
 ·rw[if_pos (by simpa using y1)]
  exact wpS_pure (h _ _ (Sm.refl _) (hf_a m1 y1))
 rw[if_neg (by simpa using y1)]
 by_cases y2:b.size=1
 ·rw[if_pos (by simpa using y2)]
  exact wpS_pure (h _ _ (Sm.refl _) (hf_f m1 y2 hb hf))
 rw[if_neg (by simpa using y2)]
 refine wpS_bind (wpS_get ?_)
 refine wpS_bind (wpS_mono (wpS_forRange (I:=fun x c st'=>Sm st st'/\∃ na nb out mg,c=(none,na,nb,out,mg)/\Hi κ T a b (x) na nb out)
  (Q:=fun c st'=>Sm st st'/\∃ R r,c=(some R,r)/\Good κ T R) ?ostep ?ofin ⟨Sm.refl _,_,_,_,_,rfl,m1,by exact zj8 y1,by exact zBB (zh4 ha),by exact zi8 hb y2,by exact zJ b.size,by omega⟩) ?opost)
 case opost =>
  rintro c st' ⟨sm,R,r,rfl,g⟩
  exact wpS_pure (h R st' sm g)
 case ofin =>
  rintro c st' ⟨sm,na,nb,out,mg,rfl,m,q1,q1',q2,q2',q3⟩
  lia
 case ostep =>
  intro x c st1 _ hx hI
  have sm1:=hI.1
  refine el4 c hI.2 fun na nb out mg hP=>?_
  obtain⟨m,q1,q1',q2,q2',q3⟩:=hP
  clear hI
  dsimp only
  refine wpS_bind (wpS_mono (wpS_forRange (I:=fun y c st'=>Sm st st'/\∃ na nb out ac bc,c=(none,na,nb,out,ac,bc)/\Hi κ T a b (x+min y 1) na nb out)
   (Q:=fun c st'=>Sm st st'/\((∃ R r,c=(some R,r)/\Good κ T R)\/∃ na nb out ac bc,c=(none,na,nb,out,ac,bc)/\Hi κ T a b (x+1) na nb out))
   ?istep ?ifin ⟨sm1,_,_,_,_,_,rfl,m,q1,q1',q2,q2',by lia⟩) ?ipost)
  case ifin =>
   rintro c st' ⟨sm,na,nb,out,ac,bc,rfl,m,q1,q1',q2,q2',q3⟩
   exact⟨sm,.inr ⟨na,nb,out,ac,bc,rfl,m,q1,q1',q2,q2',by lia⟩⟩
  case istep =>
   intro y c st2 _ hy hI
   have sm:=hI.1
   refine el5 c hI.2 fun na nb out ac bc hP=>?_
   obtain⟨m,q1,q1',q2,q2',q3⟩:=hP
   clear hI
   dsimp only
   obtain⟨n,rfl⟩:∃ n,na=n+1:=⟨na-1,by exact zh5 q1⟩
   obtain⟨l,rfl⟩:∃ l,nb=l+1:=⟨nb-1,by exact zh5 (zj1 q2)⟩
   obtain⟨pb,eb⟩:=get_of_lt (xs:=b) (i:=l) (by exact zAV q2')
   obtain⟨pa,ea⟩:=get_of_lt (xs:=a) (i:=n) (by exact zAV q1')
   refine wpS_bind (elem_ok eb (wpS_bind (elem_ok ea (wpS_bind (lt_ok hO (sm.k.trans hk) (kb _ _ eb) (ka _ _ ea) ?_)))))
   cases t:κ.blt (kk κ pb) (kk κ pa)with
   |true =>
    dsimp only
    rw[if_pos rfl]
    have tk:κ.kle (KK κ b l) (KK κ a n):=by rw[KK_of eb,KK_of ea];exact KeyOrd.kle_of_klt t
    have m':=hm_a m ea fun j j1 j2=>KeyOrd.kle_trans (hB j l (by exact zi6 j1) (by exact zAV q2')) tk
    refine wpS_bind (elem_ok ea ?_)
    by_cases z:n=0
    ·rw[if_pos (by simpa using z)]
     exact wpS_pure ⟨sm,.inl ⟨_,_,rfl,hf_a m' z⟩⟩
    ·rw[if_neg (by simpa using z)]
     refine wpS_if (fun _=>?_) fun _=>?_
     ·exact wpS_pure ⟨sm,.inr ⟨_,_,_,_,_,rfl,m',by lia,by exact zj2 (zh9 q1' (zh6 q1)),by exact q2,by exact q2',by lia⟩⟩
     ·exact wpS_pure ⟨sm,_,_,_,_,_,rfl,m',by lia,by exact zj2 (zh9 q1' (zh6 q1)),by exact q2,by exact q2',by lia⟩
   |false =>
    dsimp only
    rw[if_neg zT]
    have tk:κ.kle (KK κ a n) (KK κ b l):=by rw[KK_of eb,KK_of ea];exact t
    have m':=hm_b m eb fun j j1 j2=>KeyOrd.kle_trans (hA j n (by exact zi6 j1) (by exact zAV q1')) tk
    refine wpS_bind (elem_ok eb ?_)
    by_cases z:l=1
    ·rw[if_pos (by simpa using z)]
     exact wpS_pure ⟨sm,.inl ⟨_,_,rfl,hf_f m' z hb hf⟩⟩
    ·rw[if_neg (by simpa using z)]
     refine wpS_if (fun _=>?_) fun _=>?_
     ·exact wpS_pure ⟨sm,.inr ⟨_,_,_,_,_,rfl,m',by exact q1,by exact q1',by lia,by lia,by lia⟩⟩
     ·exact wpS_pure ⟨sm,_,_,_,_,_,rfl,m',by exact q1,by exact q1',by lia,by lia,by lia⟩
  case ipost =>
   intro c st2 hI
   have sm2:=hI.1
   refine eo5 c hI.2 (fun R r g=>?_) fun na nb out ac bc hP=>?_
   ·exact wpS_pure ⟨sm2,R,_,rfl,g⟩
   obtain⟨m,q1,q1',q2,q2',q3⟩:=hP
   clear hI
   dsimp only
   refine wpS_bind (wpS_lift (wpAny_rule ⟨rfl,?_⟩))
   refine wpS_bind (wpS_mono (wpS_forRange (I:=fun y c st'=>Sm st st'/\∃ na nb out mg ac bc,c=(none,na,nb,out,mg,ac,bc)/\Hi κ T a b (x+1) na nb out)
    (Q:=fun c st'=>Sm st st'/\((∃ R r,c=(some R,r)/\Good κ T R)\/∃ na nb out mg ac bc,c=(none,na,nb,out,mg,ac,bc)/\Hi κ T a b (x+1) na nb out))
    ?gstep ?gfin ⟨sm2,_,_,_,_,_,_,rfl,m,q1,q1',q2,q2',q3⟩) ?gpost)
   case gfin =>
    exact fun c st' hI=>⟨hI.1,.inr hI.2⟩
   case gpost =>
    intro c st3 hI
    have sm3:=hI.1
    refine eo6 c hI.2 (fun R r g=>?_) fun na nb out mg ac bc hP=>?_
    ·exact wpS_pure ⟨sm3,R,_,rfl,g⟩
    dsimp only
    obtain⟨m,q1,q1',q2,q2',q3⟩:=hP
    clear hI
    exact wpS_bind (wpS_modify (wpS_pure ⟨sm3.min _,_,_,_,_,rfl,m,q1,q1',q2,q2',by exact q3⟩))
   case gstep =>
    intro y c st3 _ hy hI
    have sm:=hI.1
    refine el6 c hI.2 fun na nb out mg ac bc hP=>?_
    obtain⟨m,q1,q1',q2,q2',q3⟩:=hP
    clear hI
    dsimp only
    obtain⟨l,rfl⟩:∃ l,nb=l+1:=⟨nb-1,by exact zh5 (zj1 q2)⟩
    obtain⟨pb,eb⟩:=get_of_lt (xs:=b) (i:=l) (by exact zAV q2')
    refine' wpS_ifS (P:=_) ?A0 (fun _ H=>?A1) fun _ H=>?A2
    case A1=>generalize mg-1=z;revert z;exact H.out
    case A2=>exact H.out _
    intro mg
    refine wpS_bind (wpS_modify ?_)
    refine wpS_bind (elem_ok eb (wpS_bind (gallop_ok (bey_right hO (kb _ _ eb) ka (base:=0) (n:=na) (by lia)) ((sm.min _).k.trans hk) (fun i j hij hj t=>?_) (by exact zh4 q1) fun k k1 k2 k3=>?_)))
    ·have t1:κ.kle (KK κ a (0+j)) (kk κ pb):=by simpa[KeyOrd.kle]using t
     have t2:=KeyOrd.kle_trans (hA (0+i) (0+j) (by lia) (by lia)) t1
     simpa[KeyOrd.kle]using t2
    dsimp only
    have lowk:∀ i,i<k->κ.kle (KK κ a i) (KK κ b l):=fun i i1=>by
     have q:=k2 i i1
     rw[Nat.zero_add]at q
     rw[KK_of eb]
     simpa[KeyOrd.kle]using q
    have upk:∀ i,k<=i->i<na->κ.kle (KK κ b l) (KK κ a i):=fun i i1 i2=>by
     have q:=k3 i i1 i2
     rw[Nat.zero_add]at q
     rw[KK_of eb]
     exact KeyOrd.kle_of_klt (show κ.blt _ _=true by simpa using q)
    refine' wpS_ifS (P:=_) ?B0 (fun kz H=>?B1) fun kz H=>?B2
    case B1 =>
     have mk:=hb_a k1 m fun i i1 i2 _ j j1 j2=>KeyOrd.kle_trans (hB j l (by exact zi6 j1) (by exact zAV q2')) (upk i i1 i2)
     by_cases w1:k=0
     ·rw[if_pos (by simpa using w1)]
      exact wpS_pure ⟨sm.min _,.inl ⟨_,_,rfl,hf_a mk w1⟩⟩
     rw[if_neg (by simpa using w1)]
     have lo1:=lowk
     have p1:0<k:=by exact zj8 w1
     have p2:k<=a.size:=by exact zAE k1 q1'
     have p3:x+1+k+(l+1)<a.size+b.size:=by lia
     revert mk lo1 p1 p2 p3
     generalize out++(a.extract k na).reverse=out1
     generalize na-k=ac1
     generalize k=na1
     revert out1 ac1 na1
     exact H.out
    case B2 =>
     have k0:k=na:=by omega
     exact H.out _ _ _ m (fun i i1=>lowk i (by exact zh8 i1 k0)) q1 q1' q3
    clear lowk upk k1 k2 k3 m q1 q1' q3
    intro out1 ac1 na1 m1 lo1 p1 p2 p3
    refine wpS_bind (elem_ok eb ?_)
    have m2:=hm_b m1 eb fun i i1 _=>lo1 i i1
    by_cases z:l=1
    ·rw[if_pos (by simpa using z)]
     exact wpS_pure ⟨sm.min _,.inl ⟨_,_,rfl,hf_f m2 z hb hf⟩⟩
    rw[if_neg (by simpa using z)]
    obtain⟨n,rfl⟩:∃ n,na1=n+1:=⟨na1-1,by exact zh5 p1⟩
    obtain⟨pa,ea⟩:=get_of_lt (xs:=a) (i:=n) (by exact zAV p2)
    refine wpS_bind (elem_ok ea (wpS_bind (gallop_ok (bey_left hO (ka _ _ ea) kb (base:=0) (n:=l) (by lia)) ((sm.min _).k.trans hk) (fun i j hij hj t=>?_) (by omega) fun k2 l1 l2 l3=>?_)))
    ·exact KeyOrd.klt_of_kle_of_klt (hB (0+i) (0+j) (by lia) (by lia)) t
    dsimp only
    have low2:∀ j,j<k2->κ.kle (KK κ b j) (KK κ a n):=fun j j1=>by
     have q:=l2 j j1
     rw[Nat.zero_add]at q
     rw[KK_of ea]
     exact KeyOrd.kle_of_klt q
    have up2:∀ j,k2<=j->j<l->κ.kle (KK κ a n) (KK κ b j):=fun j j1 j2=>by
     have q:=l3 j j1 j2
     rw[Nat.zero_add]at q
     rw[KK_of ea]
     exact q
    refine' wpS_ifS (P:=_) ?C0 (fun kz2 H=>?C1) fun kz2 H=>?C2
    case C1 =>
     have m3:=hb_b l1 m2 fun j j1 j2 _ i i1 i2=>KeyOrd.kle_trans (hA i n (by exact zi6 i1) (by exact zAV p2)) (up2 j j1 j2)
     by_cases z2:k2=1
     ·rw[if_pos (by simpa using z2)]
      exact wpS_pure ⟨sm.min _,.inl ⟨_,_,rfl,hf_f m3 z2 hb hf⟩⟩
     rw[if_neg (by simpa using z2)]
     by_cases z4:k2=0
     ·rw[if_pos (by simpa using z4)]
      exact wpS_pure ⟨sm.min _,.inl ⟨_,_,rfl,hf_b m3 z4⟩⟩
     rw[if_neg (by simpa using z4)]
     have lo2:=low2
     have e1:1<k2:=by exact zi8 (zj8 z4) z2
     have e2:k2<=b.size:=by lia
     have e3:x+1+n+k2<a.size+b.size:=by lia
     revert m3 lo2 e1 e2 e3
     generalize out1.push pb++(b.extract k2 (l+1-1)).reverse=out2
     generalize l+1-1-k2=bc2
     generalize k2=nb2
     revert out2 bc2 nb2
     exact H.out
    case C2 =>
     have k0:k2=l:=by lia
     exact H.out _ _ _ m2 (fun j j1=>low2 j (by lia)) (by lia) (by lia) (by lia)
    clear low2 up2 l1 l2 l3 m2 m1 p1 p3
    intro out2 bc2 nb2 m3 lo2 e1 e2 e3
    refine wpS_bind (elem_ok ea ?_)
    have m4:=hm_a m3 ea fun j j1 _=>lo2 j j1
    by_cases z3:n=0
    ·rw[if_pos (by simpa using z3)]
     exact wpS_pure ⟨sm.min _,.inl ⟨_,_,rfl,hf_a m4 z3⟩⟩
    rw[if_neg (by simpa using z3)]
    have e4:0<n:=by exact zj8 z3
    have e5:n<=a.size:=by exact zj2 p2
    refine wpS_if (fun _=>?_) fun _=>?_
    ·exact wpS_pure ⟨sm.min _,.inr ⟨_,_,_,_,_,_,rfl,m4,e4,e5,e1,e2,e3⟩⟩
    ·exact wpS_pure ⟨sm.min _,_,_,_,_,_,_,rfl,m4,e4,e5,e1,e2,e3⟩
end
open PySem PyProof.Rows
theorem write_blk:∀ (m:List Keyed) (xs:Array Keyed) (sa j0:Nat),sa+j0+m.length<=xs.size ->
  ((m.zipIdx j0).foldl (fun(a:Array Keyed) (q:Keyed×Nat)=>a.setIfInBounds (sa+q.2) q.1) xs).toList=xs.toList.take (sa+j0)++m++xs.toList.drop (sa+j0+m.length)
 |[],xs,sa,j0,h=>by simp
 |p :: r,xs,sa,j0,h=>by
  rw[zAO]at h
  rw[List.zipIdx_cons,List.foldl_cons,write_blk r _ sa (j0+1) (by rw[Array.size_setIfInBounds];lia)]
  have hl:xs.toList.length=xs.size:=by simp
  rw[Array.toList_setIfInBounds]
  have e1:(xs.toList.set (sa+j0) p).take (sa+(j0+1))=xs.toList.take (sa+j0)++[p]:=by
   rw[show sa+(j0+1)=sa+j0+1 by lia,List.take_add_one,List.take_set_of_le (zJ _),List.getElem?_set_self (by lia)]
   rfl
  have e2:(xs.toList.set (sa+j0) p).drop (sa+(j0+1)+r.length)=xs.toList.drop (sa+j0+(p :: r).length):=by
   rw[List.drop_set_of_lt (by lia),zAO]
   congr 1
   lia
  rw[e1,e2]
  simp
theorem SIn.pw{κ:KeyKind}{xs:Array Keyed}{lo n:Nat}(h:SIn κ xs lo n):((xs.toList.drop lo).take n).Pairwise (kL κ):=by
 rw[zBR]
 intro i j hi hj hij
 rw[zAS,zCB]at hi hj
 have hl:xs.toList.length=xs.size:=by simp
 have q:=h i j (by exact zBB hij) (by lia)
 have g:∀ m,(hm:m<min n (xs.toList.length-lo))->xs[lo+m]?=some (((xs.toList.drop lo).take n)[m]'(by rw[zAS,zCB];exact hm)):=fun m hm=>by
  rw[List.getElem_take,List.getElem_drop,<- zE (by omega)]
  simp
 rw[KK_of (g i hi),KK_of (g j hj)]at q
 exact q
section
variable{prog:Program}{w:World}{A:Around}{E:Value->Shared->Prop}{s:Shared}{κ:KeyKind}{kd:SortKind}{st:SortSt}{a₀:Array Keyed}{n1 n2 pw:Nat}
theorem keyd_of{xs:Array Keyed}(hp:xs.Perm a₀)(h0:KeysOf κ a₀):Keyd κ xs:=fun i p hi=>by
 have hm:p∈a₀.toList:=(Array.perm_iff_toList_perm.mp hp).mem_iff.mp (by
  have:=Array.mem_of_getElem? hi
  simpa using this)
 exact h0 p hm
theorem keyd_ext{xs:Array Keyed}(h:Keyd κ xs)(i j:Nat):Keyd κ (xs.extract i j):=fun m p hm=>by
 rw[Array.getElem?_extract]at hm
 split at hm
 ·exact h _ _ hm
 ·cases hm
theorem KK_ext{xs:Array Keyed}{i j m:Nat}(hm:m<min j xs.size-i):KK κ (xs.extract i j) m=KK κ xs (i+m):=by
 apply KK_congr
 rw[Array.getElem?_extract,if_pos hm]
theorem wpS_set{σ:Type}{M:Model}{x st:σ}{Q:PUnit->σ->Prop}(h:Q ⟨⟩ x):wpS M A E s (set x:StateT σ Sem PUnit) Q st:=by
 unfold wpS
 rw[StateT.run_set]
 exact zG ⟨rfl,h⟩
theorem glue{L P X Y S M:List Keyed}(hL:L=P++X++(Y++S))(hM:M.Perm (X++Y))(sM:M.Pairwise (kL κ))(sa:(P++X).Pairwise (kL κ))(sb:(Y++S).Pairwise (kL κ))(hPY:∀ x∈P,∀ y∈Y++S,kL κ x y)(hXS:∀ x∈X,∀ y∈S,kL κ x y) :
  (P++M++S).Perm L/\(P++M++S).Pairwise (kL κ):=by
 obtain⟨p1,p2,p3⟩:=zAJ.mp sa
 obtain⟨r1,r2,r3⟩:=zAJ.mp sb
 constructor
 ·rw[hL]
  simp only[zAI]
  refine List.Perm.append_left P ?_
  rw[<- zAI X]
  exact List.Perm.append_right S hM
 ·refine zAJ.mpr ⟨zAJ.mpr ⟨p1,sM,fun x hx y hy=>?_⟩,r2,fun x hx y hy=>?_⟩
  ·rcases zX.mp (hM.mem_iff.mp hy)with q | q
   ·exact p3 x hx y q
   ·exact hPY x hx y (zAQ _ q)
  ·rcases zX.mp hx with q | q
   ·exact hPY x q y (zL _ hy)
   ·rcases zX.mp (hM.mem_iff.mp q)with q | q
    ·exact hXS x q y hy
    ·exact r3 x q y hy
theorem SIn.of_seg{κ:KeyKind}{xs:Array Keyed}{P B S:List Keyed}(e:xs.toList=P++B++S)(h:B.Pairwise (kL κ)):SIn κ xs P.length B.length:=by
 intro i j hij hj
 by_cases ij:i=j
 ·subst ij;exact KeyOrd.kle_refl _
 have g:∀ m (hm:m<B.length),xs[P.length+m]?=some B[m]:=fun m hm=>by
  rw[<- zBC,e,zAI,List.getElem?_append_right (by exact zAA P.length m),Nat.add_sub_cancel_left,List.getElem?_append_left hm,zE hm]
 rw[KK_of (g i (by exact zAR hij hj)),KK_of (g j hj)]
 exact(zBR.mp h) i j (by exact zAR hij hj) hj (by exact zj5 ij hij)
theorem mergeAt_ok{Q:Bool->SortSt->Prop}{i b pw pw2:Nat}(hO:LtOk κ kd prog w A s)(h0:KeysOf κ a₀)(hk:kindOf st=kd)(hp:(arrOf st).Perm a₀)(hf:failedOf st=none)(hpa:(pendingOf st)[i]?=some (b,n1,pw))(hpb:(pendingOf st)[i+1]?=some (b+n1,n2,pw2))(hsz:b+n1+n2<=a₀.size)(h1:0<n1)(h2:0<n2)
  (s1:SIn κ (arrOf st) b n1) (s2:SIn κ (arrOf st) (b+n1) n2)
  (h:∀ st',(arrOf st').Perm a₀->failedOf st'=none->pendingOf st'=((pendingOf st).setIfInBounds i (b,n1+n2,pw)).eraseIdxIfInBounds (i+1)->SIn κ (arrOf st') b (n1+n2)->kindOf st'=kd->(∀ k,k<b\/b+n1+n2<=k->(arrOf st')[k]?=(arrOf st)[k]?)->Q true st'):wpS (model prog w) A E s (mergeAt' i) Q st:=by
 obtain⟨kd',xs,pend,mg,fl⟩:=st
 change kd'=kd at hk
 change xs.Perm a₀ at hp
 change fl=none at hf
 change pend[i]?=_ at hpa
 change pend[i+1]?=_ at hpb
 change SIn κ xs b n1 at s1
 change SIn κ xs (b+n1) n2 at s2
 subst hk hf
 have hs:b+n1+n2<=xs.size:=by rw[hp.size_eq];exact hsz
 have hl:xs.toList.length=xs.size:=by simp
 have kd0:=keyd_of hp h0
 obtain⟨pb,eb⟩:=get_of_lt (xs:=xs) (i:=b+n1) (by lia)
 refine wpS_bind (wpS_get ?_)
 dsimp only
 rw[hpa,hpb]
 dsimp only
 refine wpS_bind (wpS_set ?_)
 change ∀ st':SortSt,(arrOf st').Perm a₀->failedOf st'=none->pendingOf st'=(pend.setIfInBounds i (b,n1+n2,pw)).eraseIdxIfInBounds (i+1)->SIn κ (arrOf st') b (n1+n2)->kindOf st'=kd'->(∀ k,k<b\/b+n1+n2<=k->(arrOf st')[k]?=xs[k]?)->Q true st' at h
 generalize (pend.setIfInBounds i (b,n1+n2,pw)).eraseIdxIfInBounds (i+1)=pend' at h ⊢
 refine wpS_bind (elem_ok eb (wpS_bind (gallop_ok (kd:=kd') (bey_right (arr:=xs) hO (kd0 _ _ eb) kd0 (base:=b) (n:=n1) (by exact zAE (zAA (b+n1) n2) hs)) rfl (fun i j hij hj t=>?_) h1 fun k k1 k2 k3=>?_)))
 ·have t1:κ.kle (KK κ xs (b+j)) (kk κ pb):=by simpa[KeyOrd.kle]using t
  have t2:=KeyOrd.kle_trans (s1 i j hij hj) t1
  simpa[KeyOrd.kle]using t2
 dsimp only
 have lowk:∀ i,i<k->κ.kle (KK κ xs (b+i)) (KK κ xs (b+n1)):=fun i hi=>by
  have q:=k2 i hi
  rw[KK_of eb]
  simpa[KeyOrd.kle]using q
 have upk:∀ i,k<=i->i<n1->κ.kle (KK κ xs (b+n1)) (KK κ xs (b+i)):=fun i i1 i2=>by
  have q:=k3 i i1 i2
  rw[KK_of eb]
  exact KeyOrd.kle_of_klt (show κ.blt _ _=true by simpa using q)
 have hA:∀ i j,i<=j->j<n1->κ.kle (KK κ xs (b+i)) (KK κ xs (b+j)):=s1
 have hB:∀ i j,i<=j->j<n2->κ.kle (KK κ xs (b+n1+i)) (KK κ xs (b+n1+j)):=s2
 have calm:(∀ i j,i<n1->j<n2->κ.kle (KK κ xs (b+i)) (KK κ xs (b+n1+j)))->SIn κ xs b (n1+n2):=fun hc i j hij hj=>by
  by_cases j1:j<n1
  ·exact hA i j hij j1
  ·obtain⟨j',rfl⟩:∃ j',j=n1+j':=⟨j-n1,by lia⟩
   rw[<- Nat.add_assoc]
   by_cases i1:i<n1
   ·exact hc i j' i1 (by lia)
   ·obtain⟨i',rfl⟩:∃ i',i=n1+i':=⟨i-n1,by lia⟩
    rw[<- Nat.add_assoc]
    exact hB i' j' (by lia) (by lia)
 by_cases z1:n1-k=0
 ·rw[if_pos (by simpa using z1)]
  refine wpS_pure (h _ hp rfl rfl (calm fun i j i1 j1=>KeyOrd.kle_trans (lowk i (zZ i1 (Nat.le_of_sub_eq_zero z1))) ?_) rfl fun _ _=>rfl)
  have:=hB 0 j (zAT _) j1
  rwa [Nat.add_zero]at this
 rw[if_neg (by simpa using z1)]
 have pk:0<n1-k:=Nat.pos_of_ne_zero z1
 have eL:b+k+(n1-k)-1=b+(n1-1):=by lia
 obtain⟨pa,ea'⟩:=get_of_lt (xs:=xs) (i:=b+(n1-1)) (by lia)
 have ea:xs[b+k+(n1-k)-1]?=some pa:=by rw[eL];exact ea'
 refine wpS_bind (elem_ok ea (wpS_bind (gallop_ok (kd:=kd') (bey_left (arr:=xs) hO (kd0 _ _ ea) kd0 (base:=b+n1) (n:=n2) hs) rfl (fun i j hij hj t=>?_) (Nat.sub_lt h2 Nat.one_pos) fun m m1 m2 m3=>?_)))
 ·exact KeyOrd.klt_of_kle_of_klt (s2 i j hij hj) t
 dsimp only
 have lowm:∀ j,j<m->κ.kle (KK κ xs (b+n1+j)) (KK κ xs (b+(n1-1))):=fun j j2=>by
  have q:=m2 j j2
  rw[KK_of ea']
  exact KeyOrd.kle_of_klt q
 have upm:∀ j,m<=j->j<n2->κ.kle (KK κ xs (b+(n1-1))) (KK κ xs (b+n1+j)):=fun j j1 j2=>by
  have q:=m3 j j1 j2
  rw[KK_of ea']
  exact q
 by_cases z2:m=0
 ·rw[if_pos (by simpa using z2)]
  exact wpS_pure (h _ hp rfl rfl (calm fun i j i1 j2=>KeyOrd.kle_trans (hA i (n1-1) (by exact zi6 (zm5 (zi2 i1) (zh6 h1))) (by exact zh4 h1)) (upm j (by exact zh9 (zAT j) z2) j2)) rfl fun _ _=>rfl)
 rw[if_neg (by simpa using z2)]
 have pm:0<m:=Nat.pos_of_ne_zero z2
 have zx:(xs.extract (b+k) (b+n1)).size=n1-k:=by rw[Array.size_extract];lia
 have zy:(xs.extract (b+n1) (b+n1+m)).size=m:=by rw[Array.size_extract];lia
 have kx:=keyd_ext kd0 (b+k) (b+n1)
 have ky:=keyd_ext kd0 (b+n1) (b+n1+m)
 have KX:∀ i,i<n1-k->KK κ (xs.extract (b+k) (b+n1)) i=KK κ xs (b+(k+i)):=fun i hi=>by rw[KK_ext (by lia),Nat.add_assoc]
 have KY:∀ i,i<m->KK κ (xs.extract (b+n1) (b+n1+m)) i=KK κ xs (b+n1+i):=fun i hi=>by rw[KK_ext (by lia)]
 have sX:∀ i j,i<=j->j <(xs.extract (b+k) (b+n1)).size->κ.kle (KK κ (xs.extract (b+k) (b+n1)) i) (KK κ (xs.extract (b+k) (b+n1)) j):=fun i j hij hj=>by
  rw[zx]at hj
  rw[KX i (by exact zAR hij hj),KX j hj]
  exact hA _ _ (by lia) (by lia)
 have sY:∀ i j,i<=j->j <(xs.extract (b+n1) (b+n1+m)).size->κ.kle (KK κ (xs.extract (b+n1) (b+n1+m)) i) (KK κ (xs.extract (b+n1) (b+n1+m)) j):=fun i j hij hj=>by
  rw[zy]at hj
  rw[KY i (by exact zAR hij hj),KY j hj]
  exact hB _ _ hij (by exact zi9 hj m1)
 have f1:κ.kle (KK κ (xs.extract (b+n1) (b+n1+m)) 0) (KK κ (xs.extract (b+k) (b+n1)) 0):=by
  rw[KX 0 pk,KY 0 pm]
  exact upk (k+0) (by exact zAA k 0) (by lia)
 have f2:κ.kle (KK κ (xs.extract (b+n1) (b+n1+m)) ((xs.extract (b+n1) (b+n1+m)).size-1)) (KK κ (xs.extract (b+k) (b+n1)) ((xs.extract (b+k) (b+n1)).size-1)):=by
  rw[zx,zy,KX _ (by exact zh4 pk),KY _ (by exact zh4 pm),show k+(n1-k-1)=n1-1 by lia]
  exact lowm _ (by exact zh4 pm)
 have eX:(xs.extract (b+k) (b+n1)).toList=(xs.toList.drop (b+k)).take (n1-k):=by
  have e:=ext_blk xs (b+k) (n1-k)
  rwa [show b+k+(n1-k)=b+n1 by lia]at e
 have eY:(xs.extract (b+n1) (b+n1+m)).toList=(xs.toList.drop (b+n1)).take m:=ext_blk xs (b+n1) m
 have eA:(xs.toList.drop b).take n1=(xs.toList.drop b).take k++(xs.toList.drop (b+k)).take (n1-k):=by
  rw[show n1=k+(n1-k) by lia,List.take_add,List.drop_drop]
  rw[show k+(n1-k)-k=n1-k by lia]
 have eB:(xs.toList.drop (b+n1)).take n2=(xs.toList.drop (b+n1)).take m++(xs.toList.drop (b+n1+m)).take (n2-m):=by
  rw[show n2=m+(n2-m) by lia,List.take_add,List.drop_drop]
  rw[show m+(n2-m)-m=n2-m by lia]
 have gat:∀ (c d:Nat) (x:Keyed),x∈(xs.toList.drop c).take d->c+d<=xs.size->∃ j,j<d/\xs[c+j]?=some x:=fun c d x hx hc=>by
  obtain⟨j,j1,j2,j3,j4⟩:=mem_blk hx
  exact⟨j-c,by lia,by rw[show c+(j-c)=j by lia];exact j4⟩
 have behind:∀ (R:Array Keyed) (st':SortSt),Sm (SortSt.mk' kd' xs pend' mg none) st'->Good κ ((xs.extract (b+k) (b+n1)).toList++(xs.extract (b+n1) (b+n1+m)).toList) R ->
   Q true (setArr st' ((R.toList.zipIdx).foldl (fun(a:Array Keyed) (q:Keyed×Nat)=>a.setIfInBounds (b+k+q.2) q.1) (arrOf st')))/\failedOf st'=none:=by
  intro R st' sm g
  have ea1:arrOf st'=xs:=sm.a
  have zR:R.toList.length=n1-k+m:=by
   rw[g.1.length_eq,zO,zBK,zBK,zx,zy]
  have W:=write_blk R.toList xs (b+k) 0 (by lia)
  have gl:=glue (κ:=κ) (L:=(xs.toList.drop b).take k++(xs.toList.drop (b+k)).take (n1-k)++((xs.toList.drop (b+n1)).take m++(xs.toList.drop (b+n1+m)).take (n2-m))) (M:=R.toList)
   rfl (by rw[<- eX,<- eY];exact g.1) g.2 (by rw[<- eA];exact SIn.pw s1) (by rw[<- eB];exact SIn.pw s2)
   (fun x hx y hy=>by
    rw[<- eB]at hy
    obtain⟨i,i1,i2⟩:=gat _ _ _ hx (by lia)
    obtain⟨j,j1,j2⟩:=gat _ _ _ hy (by exact hs)
    have q0:=hB 0 j (zAT _) j1
    rw[Nat.add_zero]at q0
    have q:=KeyOrd.kle_trans (lowk i i1) q0
    rw[KK_of i2,KK_of j2]at q
    exact q)
   (fun x hx y hy=>by
    obtain⟨i,i1,i2⟩:=gat _ _ _ hx (by lia)
    obtain⟨j,j1,j2⟩:=gat _ _ _ hy (by lia)
    have q:=KeyOrd.kle_trans (hA (k+i) (n1-1) (by lia) (by exact zh4 h1)) (upm (m+j) (by exact zAA m j) (by lia))
    rw[<- Nat.add_assoc,<- Nat.add_assoc,KK_of i2,KK_of j2]at q
    exact q)
  have eP:xs.toList.take (b+k)=xs.toList.take b++(xs.toList.drop b).take k:=List.take_add
  have eS:xs.toList.drop (b+n1+m)=(xs.toList.drop (b+n1+m)).take (n2-m)++xs.toList.drop (b+n1+n2):=by
   have:=zBD (n2-m) (xs.toList.drop (b+n1+m))
   rw[List.drop_drop,show b+n1+m+(n2-m)=b+n1+n2 by lia]at this
   exact this.symm
  have eW:((R.toList.zipIdx).foldl (fun(a:Array Keyed) (q:Keyed×Nat)=>a.setIfInBounds (b+k+q.2) q.1) xs).toList=xs.toList.take b++((xs.toList.drop b).take k++R.toList++(xs.toList.drop (b+n1+m)).take (n2-m))++xs.toList.drop (b+n1+n2):=by
   rw[W,zR,show b+k+0=b+k by lia,show b+k+(n1-k+m)=b+n1+m by lia,eP]
   conv=>lhs;rw[eS]
   simp only[zAI]
  have eO:xs.toList=xs.toList.take b++((xs.toList.drop b).take k++(xs.toList.drop (b+k)).take (n1-k)++((xs.toList.drop (b+n1)).take m++(xs.toList.drop (b+n1+m)).take (n2-m)))++xs.toList.drop (b+n1+n2):=by
   rw[<- eA,<- eB]
   conv=>lhs;rw[<- zBD b xs.toList,<- zBD n1 (xs.toList.drop b),List.drop_drop,<- zBD n2 (xs.toList.drop (b+n1)),List.drop_drop]
   simp only[zAI]
  have tb:(xs.toList.take b).length=b:=by rw[zAS];lia
  have zM:((xs.toList.drop b).take k++R.toList++(xs.toList.drop (b+n1+m)).take (n2-m)).length=n1+n2:=by
   rw[zO,zO,zAS,zAS,zCB,zCB,zR];lia
  refine⟨?_,sm.f⟩
  rw[ea1]
  generalize hW:(R.toList.zipIdx).foldl (fun(a:Array Keyed) (q:Keyed×Nat)=>a.setIfInBounds (b+k+q.2) q.1) xs=ys at eW
  have pp:ys.Perm a₀:=by
   refine Array.Perm.trans ?_ hp
   rw[Array.perm_iff_toList_perm,eW]
   refine List.Perm.trans ?_ (List.Perm.of_eq eO.symm)
   exact(gl.1.append_left _).append_right _
  refine h _ pp sm.f sm.p ?_ sm.k fun c hc=>?_
  ·have q:=SIn.of_seg (κ:=κ) eW gl.2
   rw[tb,zM]at q
   exact q
  ·show ys[c]?=xs[c]?
   rw[<- zBC,<- zBC,eW]
   rcases hc with hc | hc
   ·rw[zAI,List.getElem?_append_left (by exact zh8 hc tb),List.getElem?_take_of_lt hc]
   ·rw[List.getElem?_append_right (by rw[zO,tb,zM];lia),List.getElem?_drop,zO,tb,zM]
    congr 1
    lia
 refine wpS_if (fun _=>?_) fun _=>?_
 ·refine wpS_bind (mergeLo_ok (kd:=kd') hO rfl kx ky sX sY (Nat.lt_of_lt_of_eq pk zx.symm) (Nat.lt_of_lt_of_eq pm zy.symm) f1 f2 fun R st' sm g=>?_)
  obtain⟨q1,q2⟩:=behind R st' sm g
  refine wpS_bind (wpS_modify (wpS_bind (wpS_get (wpS_pure ?_))))
  show Q (failedOf st').isNone _
  rw[q2]
  exact q1
 ·refine wpS_bind (mergeHi_ok (kd:=kd') hO rfl kx ky sX sY (Nat.lt_of_lt_of_eq pk zx.symm) (Nat.lt_of_lt_of_eq pm zy.symm) f1 f2 fun R st' sm g=>?_)
  obtain⟨q1,q2⟩:=behind R st' sm g
  refine wpS_bind (wpS_modify (wpS_bind (wpS_get (wpS_pure ?_))))
  show Q (failedOf st').isNone _
  rw[q2]
  exact q1
end
open PySem PyProof.Rows
section
variable{prog:Program}{w:World}{A:Around}{E:Value->Shared->Prop}{s:Shared}{κ:KeyKind}{kd:SortKind}{st:SortSt}{a₀:Array Keyed}
theorem SIn.congr{xs ys:Array Keyed}{lo n:Nat}(h:SIn κ xs lo n)(e:∀ k,lo<=k->k<lo+n->ys[k]?=xs[k]?):SIn κ ys lo n:=fun i j hij hj=>by
 rw[KK_congr (ys:=xs) (e (lo+i) (by lia) (by lia)),KK_congr (ys:=xs) (e (lo+j) (by lia) (by lia))]
 exact h i j hij hj
noncomputable def Runs(κ:KeyKind)(xs:Array Keyed):List (Nat×Nat)->Nat->Nat->Prop
 |[],s,e=>s=e
 |z :: r,s,e=>z.1=s/\0<z.2/\SIn κ xs s z.2/\Runs κ xs r (s+z.2) e
theorem Runs.len{xs:Array Keyed}:∀ {l:List (Nat×Nat)}{s e:Nat},Runs κ xs l s e->l.length+s<=e
 |[],s,e,h=>by have h:s=e:=h;simp;exact zBX h
 |z :: r,s,e,h=>by
  obtain⟨_,h2,_,h4⟩:=h
  have:=Runs.len h4
  rw[zAO]
  lia
theorem Runs.congr{xs ys:Array Keyed}:∀ {l:List (Nat×Nat)}{s e:Nat},Runs κ xs l s e->(∀ k,s<=k->k<e->ys[k]?=xs[k]?)->Runs κ ys l s e
 |[],_,_,h,_=>h
 |z :: r,s,e,h,c=>by
  obtain⟨h1,h2,h3,h4⟩:=h
  have:=h4.len
  exact⟨h1,h2,h3.congr fun k a b=>c k a (by lia),Runs.congr h4 fun k a b=>c k (by exact zAE (zAA s z.snd) a) b⟩
theorem Runs.app{xs:Array Keyed}{l2:List (Nat×Nat)}{e:Nat}:∀ {l1:List (Nat×Nat)}{s:Nat},Runs κ xs (l1++l2) s e↔∃ m,Runs κ xs l1 s m/\Runs κ xs l2 m e
 |[],s=>by
  constructor
  ·exact fun h=>⟨s,rfl,h⟩
  ·rintro⟨m,h,h'⟩
   cases(show s=m from h)
   exact h'
 |z :: l1,s=>by
  constructor
  ·rintro⟨h1,h2,h3,h4⟩
   obtain⟨m,a,b⟩:=Runs.app.mp h4
   exact⟨m,⟨h1,h2,h3,a⟩,b⟩
  ·rintro⟨m,⟨h1,h2,h3,h4⟩,b⟩
   exact⟨h1,h2,h3,Runs.app.mpr ⟨m,h4,b⟩⟩
noncomputable def pr2(z:Nat×Nat×Nat):Nat×Nat:=(z.1,z.2.1)
noncomputable def prs(p:Array (Nat×Nat×Nat)):List (Nat×Nat):=p.toList.map pr2
theorem prs_len(p:Array (Nat×Nat×Nat)):(prs p).length=p.size:=by unfold prs;simp
theorem prs_push(p:Array (Nat×Nat×Nat))(z:Nat×Nat×Nat):prs (p.push z)=prs p++[pr2 z]:=by unfold prs;simp
theorem mod_map{f:Nat×Nat×Nat->Nat×Nat×Nat}(hf:∀ z,pr2 (f z)=pr2 z):∀ (l:List (Nat×Nat×Nat)) (j:Nat),(l.modify j f).map pr2=l.map pr2
 |[],j=>by simp
 |z :: l,0=>by simp[hf]
 |z :: l,j+1=>by simp[mod_map hf l j]
theorem prs_mod(p:Array (Nat×Nat×Nat))(j pw:Nat):prs (p.modify j fun x=>(x.1,x.2.1,pw))=prs p:=by
 unfold prs
 rw[Array.toList_modify]
 exact mod_map (f:=fun x=>(x.1,x.2.1,pw)) (fun _=>rfl) _ _
structure Core(κ:KeyKind)(kd:SortKind)(a₀:Array Keyed)(lo:Nat)(st:SortSt):Prop where
 perm:(arrOf st).Perm a₀
 kind:kindOf st=kd
 failed:failedOf st=none
 runs:Runs κ (arrOf st) (prs (pendingOf st)) 0 lo
 le:lo<=a₀.size
theorem erase_set{l1 l2:List (Nat×Nat×Nat)}{x y v:Nat×Nat×Nat}:((l1++x :: y :: l2).set l1.length v).eraseIdx (l1.length+1)=l1++v :: l2:=by
 induction l1 with
 |nil=>rfl
 |cons a l ih=>rw[List.cons_append,zAO,List.set_cons_succ,List.eraseIdx_cons_succ,ih];rfl
theorem merge_step{Q:Bool->SortSt->Prop}{lo i:Nat}(hO:LtOk κ kd prog w A s)(h0:KeysOf κ a₀)(C:Core κ kd a₀ lo st)(hi:i+1 <(pendingOf st).size)
  (h:∀ st',Core κ kd a₀ lo st'->(pendingOf st').size+1=(pendingOf st).size->(∀ k,lo<=k->(arrOf st')[k]?=(arrOf st)[k]?)->Q true st'):wpS (model prog w) A E s (mergeAt' i) Q st:=by
 obtain⟨c1,c2,c3,c4,c5⟩:=C
 generalize hp:pendingOf st=p at *
 have el:p.toList=p.toList.take i++p[i] :: p[i+1] :: p.toList.drop (i+2):=by
  have h1:i<p.toList.length:=by simp;exact zj1 hi
  have h2:i+1<p.toList.length:=by simp;exact hi
  conv=>lhs;rw[<- zBD i p.toList,zBF h1,zBF h2]
  simp
 have ll:(p.toList.take i).length=i:=by rw[zAS];simp;lia
 have r0:=c4
 unfold prs at r0
 rw[el,zP,zN,zN]at r0
 obtain⟨m,ra,b1,b2,b3,d1,d2,d3,rb⟩:=Runs.app.mp r0
 generalize hx:p[i]=x at *
 generalize hy:p[i+1]=y at *
 obtain⟨xb,xn,xp⟩:=x
 obtain⟨yb,yn,yp⟩:=y
 have b1:xb=m:=b1
 have d1:yb=m+xn:=d1
 subst b1
 subst d1
 have ex:p[i]?=some (xb,xn,xp):=by rw[zAK (by exact zj1 hi),hx]
 have ey:p[i+1]?=some (xb+xn,yn,yp):=by rw[zAK hi,hy]
 have lb:=rb.len
 have le2:xb+xn+yn<=lo:=by
  have:xb+(pr2 (xb,xn,xp)).2+(pr2 (xb+xn,yn,yp)).2=xb+xn+yn:=rfl
  lia
 refine mergeAt_ok (i:=i) (b:=xb) (n1:=xn) (n2:=yn) (pw:=xp) (pw2:=yp) hO h0 c2 c1 c3 (by rw[hp];exact ex) (by rw[hp];exact ey) (by exact zAE le2 c5) b2 d2 b3 d3 fun st' a1 a2 a3 a4 a5 a6=>?_
 rw[hp]at a3
 have e3:(pendingOf st').toList=p.toList.take i++(xb,xn+yn,xp) :: p.toList.drop (i+2):=by
  have e:=erase_set (l1:=p.toList.take i) (l2:=p.toList.drop (i+2)) (x:=(xb,xn,xp)) (y:=(xb+xn,yn,yp)) (v:=(xb,xn+yn,xp))
  rw[ll,<- el]at e
  rw[a3]
  unfold Array.eraseIdxIfInBounds
  rw[dif_pos (by rw[Array.size_setIfInBounds];exact hi),Array.toList_eraseIdx,Array.toList_setIfInBounds]
  exact e
 refine h st' ⟨a1,a5,a2,?_,c5⟩ ?_ fun k hk=>a6 k (.inr (by exact zAE le2 hk))
 ·unfold prs
  rw[e3,zP,zN]
  refine Runs.app.mpr ⟨xb,ra.congr fun k _ hk=>a6 k (.inl hk),rfl,by show 0<xn+yn;have:0<xn:=b2;exact zi9 this (zAA xn yn),a4,?_⟩
  show Runs κ (arrOf st') _ (xb+(xn+yn)) lo
  rw[<- Nat.add_assoc]
  exact rb.congr fun k hk _=>a6 k (.inr hk)
 ·have e4:=congrArg List.length e3
  have e5:=congrArg List.length el
  rw[zO,zAO]at e4
  rw[zO,zAO,zAO]at e5
  simp only[zBK]at e4 e5
  lia
theorem minRun_pos:∀ (f n r:Nat),1<=n->1<=minRun' f n r
 | 0,n,r,h=>by show 1<=n+r;exact zAE h (zAA n r)
 |f+1,n,r,h=>by
  rw[minRun'_succ]
  split
  ·exact zAE h (zAA n r)
  ·exact minRun_pos f _ _ (by lia)
theorem Core.push{lo n z:Nat}(C:Core κ kd a₀ lo st)(h:SIn κ (arrOf st) lo n)(n0:0<n)(hn:lo+n<=a₀.size)(p:Array (Nat×Nat×Nat))(ep:prs p=prs (pendingOf st)):Core κ kd a₀ (lo+n) (setPending st (p.push (lo,n,z))):=by
 refine⟨C.perm,C.kind,C.failed,?_,hn⟩
 show Runs κ (arrOf st) (prs (p.push (lo,n,z))) 0 (lo+n)
 rw[prs_push,ep]
 exact Runs.app.mpr ⟨lo,C.runs,rfl,n0,h,rfl⟩
theorem runs_ok{Q:Unit->SortSt->Prop}(hO:LtOk κ kd prog w A s)(h0:KeysOf κ a₀)(hB:SB kd a₀ a₀ 0 #[] st)(h2:2<=a₀.size)
  (h:∀ st',(arrOf st').Perm a₀->failedOf st'=none->SIn κ (arrOf st') 0 a₀.size->Q () st'):wpS (model prog w) A E s sortRuns' Q st:=by
 rw[sortRuns'_eq]
 refine wpS_bind (wpS_get ?_)
 dsimp only
 simp only[hB.size]
 have r1:1<=minRun' a₀.size a₀.size 0:=minRun_pos _ _ _ (by exact zj2 h2)
 generalize hmr:minRun' a₀.size a₀.size 0=mr at r1 ⊢
 refine wpS_bind (wpS_mono (wpS_forRange
  (I:=fun x c st'=>∃ lo,c=(none,lo)/\x<=lo/\Core κ kd a₀ lo st')
  (Q:=fun c st'=>c=(none,a₀.size)/\Core κ kd a₀ a₀.size st') ?step ?fin ⟨0,rfl,zJ _,hB.perm,hB.kind,hB.failed,by rw[hB.pend];rfl,zAT _⟩) ?post)
 case fin =>
  rintro c st' ⟨lo,rfl,hx,C⟩
  have e:lo=a₀.size:=by have:=C.le;lia
  subst e
  exact⟨rfl,C⟩
 case step =>
  rintro x c st1 _ hx ⟨lo,rfl,xlo,C⟩
  dsimp only
  by_cases hlo:lo >= a₀.size
  ·rw[if_pos hlo]
   have e:lo=a₀.size:=by have:=C.le;lia
   subst e
   exact wpS_pure ⟨rfl,C⟩
  rw[if_neg hlo]
  refine wpS_bind (count_ok hO h0 (b:=arrOf st1) (pd:=pendingOf st1) (by lia) (by lia) ⟨C.perm,C.kind,C.failed,rfl,fun _ _=>rfl⟩ fun m st2 B2 m1 m2 S2=>?_)
  dsimp only
  have core:∀ st',SB kd a₀ (arrOf st1) lo (pendingOf st1) st'->Core κ kd a₀ lo st':=fun st' B=>⟨B.perm,B.kind,B.failed,by
   rw[B.pend]
   exact C.runs.congr fun k _ hk=>B.low k hk,C.le⟩
  by_cases hlt:m<mr
  ·rw[if_pos hlt]
   refine wpS_bind (wpS_lift (wpAny_rule ⟨rfl,wpS_bind (bin_ok hO h0 (by omega) (by omega) B2 S2 fun st3 B3 S3=>?_)⟩))
   refine wpS_if (fun z=>absurd z (by simp)) fun _=>?_
   have C3:=core st3 B3
   have g0:0<min (a₀.size-lo) mr:=by omega
   have g1:lo+min (a₀.size-lo) mr<=a₀.size:=by omega
   generalize min (a₀.size-lo) mr=n at S3 g0 g1 ⊢
   refine wpS_bind (wpS_get ?_)
   cases hb:(pendingOf st3).back? with
   |none =>
    dsimp only
    refine wpS_bind (wpS_modify (wpS_pure ?_))
    exact⟨lo+n,rfl,by lia,C3.push S3 g0 g1 _ rfl⟩
   |some z =>
    obtain⟨s1,n1,z3⟩:=z
    dsimp only
    generalize power' a₀.size (2 * s1+n1) (2 * s1+n1+n1+n) a₀.size=pw
    refine wpS_bind (wpS_mono (wpS_forRange (I:=fun x c st'=>c=(none,())/\Core κ kd a₀ lo st'/\SIn κ (arrOf st') lo n) (Q:=fun c st'=>c=(none,())/\Core κ kd a₀ lo st'/\SIn κ (arrOf st') lo n) ?a ?b ⟨rfl,C3,S3⟩) ?c)
    case b=>exact fun c st' h=>h
    case a =>
     rintro x' c st4 _ _ ⟨rfl,C4,S4⟩
     refine wpS_bind (wpS_get ?_)
     by_cases hs:(pendingOf st4).size > 1
     ·rw[if_pos hs]
      have hl:(pendingOf st4).size-2 <(pendingOf st4).size:=by omega
      rw[zAK hl]
      generalize (pendingOf st4)[(pendingOf st4).size-2]=y
      obtain⟨y1,y2,older⟩:=y
      dsimp only
      by_cases ho:older<=pw
      ·rw[if_pos ho]
       exact wpS_pure ⟨rfl,C4,S4⟩
      ·rw[if_neg ho]
       refine wpS_bind (merge_step hO h0 C4 (by lia) fun st5 C5 _ k5=>?_)
       refine wpS_if (fun z=>absurd z (by simp)) fun _=>?_
       exact wpS_pure ⟨rfl,C5,S4.congr fun k hk _=>k5 k hk⟩
     ·rw[if_neg hs]
      exact wpS_pure ⟨rfl,C4,S4⟩
    case c =>
     rintro c st4 ⟨rfl,C4,S4⟩
     refine wpS_bind (wpS_modify (wpS_bind (wpS_modify (wpS_pure ?_))))
     exact⟨lo+n,rfl,by lia,C4.push S4 g0 g1 _ (prs_mod _ _ _)⟩
  ·rw[if_neg hlt]
   have C3:=core st2 B2
   have S3:=S2
   have g0:0<m:=m1
   have g1:lo+m<=a₀.size:=by lia
   refine wpS_bind (wpS_get ?_)
   cases hb:(pendingOf st2).back? with
   |none =>
    dsimp only
    refine wpS_bind (wpS_modify (wpS_pure ?_))
    exact⟨lo+m,rfl,by lia,C3.push S3 g0 g1 _ rfl⟩
   |some z =>
    obtain⟨s1,n1,z3⟩:=z
    dsimp only
    generalize power' a₀.size (2 * s1+n1) (2 * s1+n1+n1+m) a₀.size=pw
    refine wpS_bind (wpS_mono (wpS_forRange (I:=fun x c st'=>c=(none,())/\Core κ kd a₀ lo st'/\SIn κ (arrOf st') lo m) (Q:=fun c st'=>c=(none,())/\Core κ kd a₀ lo st'/\SIn κ (arrOf st') lo m) ?a ?b ⟨rfl,C3,S3⟩) ?c)
    case b=>exact fun c st' h=>h
    case a =>
     rintro x' c st4 _ _ ⟨rfl,C4,S4⟩
     refine wpS_bind (wpS_get ?_)
     by_cases hs:(pendingOf st4).size > 1
     ·rw[if_pos hs]
      have hl:(pendingOf st4).size-2 <(pendingOf st4).size:=by omega
      rw[zAK hl]
      generalize (pendingOf st4)[(pendingOf st4).size-2]=y
      obtain⟨y1,y2,older⟩:=y
      dsimp only
      by_cases ho:older<=pw
      ·rw[if_pos ho]
       exact wpS_pure ⟨rfl,C4,S4⟩
      ·rw[if_neg ho]
       refine wpS_bind (merge_step hO h0 C4 (by omega) fun st5 C5 _ k5=>?_)
       refine wpS_if (fun z=>absurd z (by simp)) fun _=>?_
       exact wpS_pure ⟨rfl,C5,S4.congr fun k hk _=>k5 k hk⟩
     ·rw[if_neg hs]
      exact wpS_pure ⟨rfl,C4,S4⟩
    case c =>
     rintro c st4 ⟨rfl,C4,S4⟩
     refine wpS_bind (wpS_modify (wpS_bind (wpS_modify (wpS_pure ?_))))
     exact⟨lo+m,rfl,by lia,C4.push S4 g0 g1 _ (prs_mod _ _ _)⟩
 case post =>
  rintro c st1 ⟨rfl,C⟩
  dsimp only
  have l0:=C.runs.len
  rw[prs_len]at l0
  refine wpS_bind (wpS_mono (wpS_forRange (I:=fun x c st'=>c=(none,())/\Core κ kd a₀ a₀.size st'/\((pendingOf st').size+x<=a₀.size\/(pendingOf st').size<=1)) (Q:=fun c st'=>c=(none,())/\Core κ kd a₀ a₀.size st'/\(pendingOf st').size<=1) ?lstep ?lfin ⟨rfl,C,.inl (by exact l0)⟩) ?lpost)
  case lfin =>
   rintro c st' ⟨hc,C',z⟩
   refine⟨hc,C',?_⟩
   rcases z with z | z
   ·lia
   ·exact z
  case lpost =>
   rintro c st' ⟨rfl,C',z⟩
   refine wpS_pure (h _ C'.perm C'.failed ?_)
   have r:=C'.runs
   have e:=prs_len (pendingOf st')
   generalize prs (pendingOf st')=l at r e
   match l,r,e with
   |[],r,_=>have r:0=a₀.size:=r;lia
   |[y],r,_ =>
    obtain⟨r1,r2,r3,r4⟩:=r
    have r4:0+y.2=a₀.size:=r4
    rw[Nat.zero_add]at r4
    rw[r4]at r3
    exact r3
   | _ :: _ :: _,_,e=>simp at e;lia
  case lstep =>
   rintro x c st2 _ hx ⟨rfl,C2,z⟩
   refine wpS_bind (wpS_get ?_)
   by_cases hs:(pendingOf st2).size<=1
   ·rw[if_pos hs]
    exact wpS_pure ⟨rfl,C2,hs⟩
   ·rw[if_neg hs]
    have stp:∀ i,i+1 <(pendingOf st2).size->wpS (model prog w) A E s (mergeAt' i) (fun r st'=>r=true/\Core κ kd a₀ a₀.size st'/\(pendingOf st').size+1=(pendingOf st2).size) st2:=fun i hi=>merge_step hO h0 C2 hi fun st' C' e _=>⟨rfl,C',e⟩
    refine wpS_bind (wpS_mono (stp _ ?_) fun r st3 hr=>?_)
    ·have:∀ (c:Prop) [Decidable c],(if c then(pendingOf st2).size-2-1 else(pendingOf st2).size-2)+1 <(pendingOf st2).size:=fun c _=>by split <;> omega
     exact this _
    ·obtain⟨rfl,C3,e⟩:=hr
     refine wpS_if (fun z=>absurd z (by simp)) fun _=>?_
     refine wpS_pure ⟨rfl,C3,?_⟩
     rcases z with z | z
     ·exact .inl (by lia)
     ·exact absurd z hs
end
open PySem PySem.W PyProof.Rows
noncomputable def RawD(d:Addr)(ks:List Value)(ep:Nat)(g:Heap):Prop:=∃ ob en,g.get? d=some ob/\ob.ExactDict/\ob.data = .dict en ep/\en.toList.map (fun r=>r.key)=ks
section
variable{d it:Addr}{ks:List Value}{ep i:Nat}{g g':Heap}{prog:Program}{w:World}{A:Around}{E:Value->Shared->Prop}{s:Shared}
theorem RawD.to(x:RawD d ks ep g)(k:∀ u,g.get? d=some u->g'.get? d=some u):RawD d ks ep g':=by
 obtain⟨ob,en,a,r⟩:=x
 exact⟨ob,en,k _ a,r⟩
theorem RawD.ty(x:RawD d ks ep s.heap):s.TypeIs (.ref d) "dict":=by
 obtain⟨ob,en,a,c,r⟩:=x
 exact⟨ob,a,c.1⟩
theorem RawD.lt(x:RawD d ks ep g):d<g.objs.size:=by
 obtain⟨ob,en,a,c,r⟩:=x
 exact zQ a
theorem rawIter{Q:Value->Shared->Prop}(nd:(d == sysModules)=false)(x:RawD d ks ep s.heap)
  (q:Q (.ref s.heap.objs.size) { s with heap:=s.heap.push { cls:=.type "dict_keyiterator",data:=.fields #[.ref d,.int 0 0,.int ks.length 0,.int ep 0] } }) :
  wpAny (model prog w) A (pyIter (.ref d)) Q E s:=by
 have ty:=x.ty
 obtain⟨ob,en,a,c,dt,ke⟩:=x
 have len:en.size=ks.length:=by rw[<- ke];simp
 refine wpAny_pyIter_slot ty F.slot_dict_iter (wpAny_call_entry F.slot_dict_iter ty F.entry_dict_iter ?_ (F.args_dict_iter_1 _))
 unfold Builtin.«dict.__iter__»;refine zB ?_
 unfold Builtin.Dict.dictSlotNone;refine zB (wpAny_notOrdered_dict ty ?_)
 show wpAny _ _ (pure (Value.ref d)) _ _ s;refine zG ?_
 show wpAny _ _ (Builtin.Dict.showsAll d >>= _) _ _ s;unfold Builtin.Dict.showsAll
 rw[if_neg (fun e=>zT (nd.symm.trans e))];refine zB (zG (zB (wpAny_dictEntries a dt (zB (wpAny_dictEpoch a dt ?_)))))
 refine zB (wpAny_newObj_type (zG ⟨_,rfl,"dict_keyiterator",_,⟨_,zV _ rfl,rfl⟩,F.slot_dict_keyiterator_next.lookup,?_⟩));simpa[rawInt,len]using q
theorem rawItem{v:Value}{Q:Option Value->Shared->Prop}(hI:s.heap.IsKeyIter it d i ks.length ep)(x:RawD d ks ep s.heap)(hv:ks[i]?=some v)
  (q:∀ g',g'.IsKeyIter it d (i+1) ks.length ep->Heap.SameBut it s.heap g'->Q (some v) { s with heap:=g' }):wpAny (model prog w) A (pyNext (.ref it)) Q E s:=by
 obtain⟨io,a0,c0,d0⟩:=id hI
 obtain⟨ob,en,a,c,dt,ke⟩:=x
 have len:en.size=ks.length:=by rw[<- ke];simp
 unfold pyNext;refine zB (wpAny_attempt (wpAny_callSpecial?_slot (name:=Str.ofString "__next__") hI.typeIs F.slot_dict_keyiterator_next (wpAny_call_entry F.slot_dict_keyiterator_next hI.typeIs F.entry_dict_keyiterator_next ?_ (F.args_dict_keyiterator_next_1 _))))
 refine zB (zG (zB (zB ?_)))
 first | refine zB (wpAny_typeNameOfWhole_keyiter hI.typeIs (zG ?_)) | refine zB (wpAny_typeNameOf_keyiter hI.typeIs (zG ?_))
 refine zB (wpAny_fieldsOf a0 d0 ?_);have own:Builtin.Dict_items.ownsTuple "dict_keyiterator" = false:=by decide
 simp only[own,zBW,if_false];show wpAny _ _ (if(Value.ref d == Value.none)=true then _ else _) _ _ s
 rw[if_neg (show ¬((Value.ref d == Value.none)=true)from zT)];refine zB (zG (zB (wpAny_dictEntries a dt ?_)))
 rw[if_neg (by rw[len];simp)];refine zB (zG (zB (wpAny_dictEpoch a dt ?_)))
 rw[if_neg (by simp)];refine zG ?_
 have il:i<en.size:=by rw[len];exact(zI.mp hv).1
 have iv:en[i].key=v:=by
  have z:(en.toList.map (fun r=>r.key))[i]?=some en[i].key:=by rw[zAB,zBC,zAK il];rfl
  rw[ke,hv]at z
  exact(Option.some.inj z).symm
 simp only[show ¬((i:Int)<0)from by lia,if_false,zAC,zAK il];refine zB ?_
 first | refine zB (wpAny_typeNameOfWhole_keyiter hI.typeIs (zG ?_)) | refine zB (wpAny_typeNameOf_keyiter hI.typeIs (zG ?_))
 refine zB (wpAny_isOneOf_keyiter hI.typeIs ?_);show wpAny _ _ (setField (.ref it) 1 (rawInt ((i:Int)+1)) >>= _) _ _ s
 refine zB (wpAny_setField a0 d0 (by simp) ?_)
 have hI':(s.heap.update it (Obj.mapFields (·.setIfInBounds 1 (rawInt ((i:Int)+1))))).IsKeyIter it d (i+1) ks.length ep:=⟨_,Heap.get?_update_self _ a0 (Obj.isFreed_of_fields (Obj.data_mapFields d0 _)),(Obj.cls_mapFields ..).trans c0,by rw[Obj.data_mapFields d0];simp[rawInt]⟩
 refine zB (wpAny_holding (zB (wpAny_isOneOf_keyiter (s:={ s with heap:=s.heap.update it (Obj.mapFields (·.setIfInBounds 1 (rawInt ((i:Int)+1)))) }) hI'.typeIs ?_)))
 show wpAny _ _ (pure en[i].key) _ _ _;rw[iv]
 exact zG (zG ⟨_,rfl,zG (q _ hI' (Heap.SameBut.update ..))⟩)
theorem rawEnd{Q:Option Value->Shared->Prop}(hh:A.handled=none)(hI:s.heap.IsKeyIter it d i ks.length ep)(x:RawD d ks ep s.heap)(hv:ks.length<=i)
  (q:∀ g',Heap.ExtBut it s.heap g'->Q none { s with heap:=g' }):wpAny (model prog w) A (pyNext (.ref it)) Q E s:=by
 obtain⟨io,a0,c0,d0⟩:=id hI
 obtain⟨ob,en,a,c,dt,ke⟩:=x
 have len:en.size=ks.length:=by rw[<- ke];simp
 unfold pyNext;refine zB (wpAny_attempt (wpAny_callSpecial?_slot (name:=Str.ofString "__next__") hI.typeIs F.slot_dict_keyiterator_next (wpAny_call_entry F.slot_dict_keyiterator_next hI.typeIs F.entry_dict_keyiterator_next ?_ (F.args_dict_keyiterator_next_1 _))))
 refine zB (zG (zB (zB ?_)))
 first | refine zB (wpAny_typeNameOfWhole_keyiter hI.typeIs (zG ?_)) | refine zB (wpAny_typeNameOf_keyiter hI.typeIs (zG ?_))
 refine zB (wpAny_fieldsOf a0 d0 ?_);have own:Builtin.Dict_items.ownsTuple "dict_keyiterator" = false:=by decide
 simp only[own,zBW,if_false];show wpAny _ _ (if(Value.ref d == Value.none)=true then _ else _) _ _ s
 rw[if_neg (show ¬((Value.ref d == Value.none)=true)from zT)];refine zB (zG (zB (wpAny_dictEntries a dt ?_)))
 rw[if_neg (by rw[len];simp)];refine zB (zG (zB (wpAny_dictEpoch a dt ?_)))
 rw[if_neg (by simp)];refine zG ?_
 have il:en.size<=i:=by rw[len];exact hv
 simp only[show ¬((i:Int)<0)from by lia,if_false,zAC,Array.getElem?_eq_none il];refine zB ?_
 first | refine zB (wpAny_typeNameOfWhole_keyiter hI.typeIs (zG ?_)) | refine zB (wpAny_typeNameOf_keyiter hI.typeIs (zG ?_))
 show wpAny _ _ (setField (.ref it) 0 .none >>= _) _ _ s;refine zB (wpAny_setField a0 d0 (by simp) ?_)
 show wpAny _ _ (newExc (.type "StopIteration") [] >>= _) _ _ _;refine zB ?_
 simp only[newExc,newTuple];refine zB (wpAny_newObj_type ?_ (by size_fits))
 refine zB (m:=firstArgMember _ _) (wpAny_of_eq (a:=Value.none) (by first | rfl |(simp only[firstArgMember];rfl)) (wpAny_newObj_type ?_ (by size_fits)))
 simp only[raiseNew];refine zB (wpAny_handled ?_)
 rw[show A.in1.handled=none from hh];refine zB (zG (wpAny_throw ?_))
 refine zB (wpAny_isInstance (T:="StopIteration") (b:=true) ⟨_,zV _ rfl,rfl⟩ isSubtype_stop ?_)
 exact zG (q _ (((Heap.SameBut.update ..).extBut.push _).push _))
theorem rawWalks(hh:A.handled=none)(I d:Addr)(ne:d≠I)(ks:List Value)(ep:Nat) :
  Walks prog w A I [I,d] [I] ks.length (fun i v=>ks[i]?=some v) (fun i g=>g.IsKeyIter I d i ks.length ep/\RawD d ks ep g)where
 sub:=fun b z=>by simp at z;simp[z]
 frame:=fun _ _ _ st k=>⟨st.1.at fun o e=>k I (by simp) o e,st.2.to fun o e=>k d (by simp) o e⟩
 item:=fun i s Q E hi st hQ=>by
  obtain⟨v,hx⟩:∃ p,ks[i]?=some p:=⟨ks[i],by simp[hi]⟩
  refine rawItem st.1 st.2 hx fun g' it' sb=>?_
  exact hQ v g' s.toks hx ⟨it',st.2.to fun o e=>sb.extBut d o ne e⟩ fun b o z e=>sb.extBut b o (fun h=>z (by simp[h])) e
 done:=fun s Q E st hQ=>rawEnd hh st.1 st.2 (zJ _) fun g' e'=>hQ g' s.toks fun b o z e=>e' b o (fun h=>z (by simp[h])) e
 self:=fun _ _ _ _ st hQ=>wpAny_pyIter_keyiter st.1 hQ
theorem rawSrc(nd:(d == sysModules)=false):KdlSrc prog w "dict" d d ks.length (fun i v=>ks[i]?=some v) (RawD d ks ep)where
 type:=fun _ x=>x.ty
 there:=fun _ x=>⟨x.lt,x.lt⟩
 keep:=fun _ _ x k=>x.to fun o e=>k d (.inl rfl) o e
 notList:=by decide
 notTuple:=by decide
 hint:=fun _ _ _ _ x q=>kdl_hint_dict x.ty q
 iter:=fun _ _ hh x=>⟨_,_,(fun _ _ q=>rawIter nd x q),rawWalks hh _ d (zAG x.lt) ks ep,⟨⟨_,zV _ rfl,rfl,rfl⟩,x.to fun o e=>zC _ e⟩⟩
end
open PySem PySem.W PyProof.Rows
noncomputable def lexlt:List Int->List Int->Bool
 | _,[]=>false
 |[],_ :: _=>true
 |a :: x,b :: y=>decide (a<b) ||(decide (a=b) && lexlt x y)
theorem lexlt_irrefl:∀ x,lexlt x x=false
 |[]=>rfl
 |a :: x=>by simp[lexlt,lexlt_irrefl x]
theorem lexlt_trans:∀ x y z,lexlt x y=true->lexlt y z=true->lexlt x z=true
 | _,_,[],_,h=>by simp[lexlt]at h
 | _,[],_ :: _,h,_=>by simp[lexlt]at h
 |[],_ :: _,_ :: _,_,_=>rfl
 |a :: x,b :: y,c :: z,h,k=>by
  simp only[lexlt,Bool.or_eq_true,zCC,decide_eq_true_eq]at h k ⊢
  rcases h with h |⟨h,h'⟩ <;> rcases k with k |⟨k,k'⟩
  ·left;lia
  ·left;lia
  ·left;lia
  ·right;exact⟨by lia,lexlt_trans x y z h' k'⟩
theorem lexlt_neg:∀ x y z,lexlt x z=true->lexlt x y=true\/lexlt y z=true
 | _,_,[],h=>by simp[lexlt]at h
 | _,[],_ :: _,_=>.inr rfl
 |[],_ :: _,_ :: _,_=>.inl rfl
 |a :: x,b :: y,c :: z,h=>by
  simp only[lexlt,Bool.or_eq_true,zCC,decide_eq_true_eq]at h ⊢
  rcases h with h |⟨h,h'⟩
  ·by_cases e:a<b
   ·exact .inl (.inl e)
   ·exact .inr (.inl (by lia))
  ·rcases lexlt_neg x y z h' with q | q
   ·by_cases e:a<b
    ·exact .inl (.inl e)
    ·by_cases e':a=b
     ·exact .inl (.inr ⟨e',q⟩)
     ·exact .inr (.inl (by lia))
   ·by_cases e:a<b
    ·exact .inl (.inl e)
    ·by_cases e':b=c
     ·exact .inr (.inr ⟨e',q⟩)
     ·exact .inr (.inl (by lia))
theorem lexlt_total:∀ x y,lexlt x y=false->lexlt y x=false->x=y
 |[],[],_,_=>rfl
 |[],_ :: _,h,_=>by simp[lexlt]at h
 | _ :: _,[],_,h=>by simp[lexlt]at h
 |a :: x,b :: y,h,k=>by
  simp only[lexlt,Bool.or_eq_false_iff,Bool.and_eq_false_iff,decide_eq_false_iff_not]at h k
  have e:a=b:=by lia
  subst e
  rw[lexlt_total x y (by simpa using h.2) (by simpa using k.2)]
noncomputable abbrev IntsV(ns:List Int)(us:List Value):Prop:=Paired (fun(i:Int) (u:Value)=>∃ t,u=Value.int i t) ns us
theorem IntsV.inj:∀ {ns ms:List Int}{us:List Value},IntsV ns us->IntsV ms us->ns=ms:=by
 intro ns ms us h
 induction h generalizing ms with
 |nil=>intro h';cases h';rfl
 |cons h r ih =>
  intro h'
  cases h' with
  |cons h2 r' =>
   obtain⟨t,e⟩:=h
   obtain⟨t',e'⟩:=h2
   rw[e]at e'
   cases e'
   rw[ih r']
noncomputable def TupI(g:Heap)(v:Value)(ns:List Int):Prop:=∃ a ob its n,v=Value.ref a/\g.get? a=some ob/\ob.cls = .type "tuple"/\ob.data = .seq its n/\IntsV ns its.toList
theorem TupI.inj{g:Heap}{v:Value}{ns ms:List Int}(x:TupI g v ns)(y:TupI g v ms):ns=ms:=by
 obtain⟨a,ob,its,n,rfl,e,_,d,p⟩:=x
 obtain⟨a',ob',its',n',e',q,_,d',p'⟩:=y
 cases e'
 rw[e]at q
 cases q
 rw[d]at d'
 cases d'
 exact p.inj p'
theorem TupI.to{g g':Heap}{v:Value}{ns:List Int}(x:TupI g v ns)(k:∀ b u,v = .ref b->g.get? b=some u->g'.get? b=some u):TupI g' v ns:=by
 obtain⟨a,ob,its,n,rfl,e,r⟩:=x
 exact⟨a,ob,its,n,rfl,k a ob rfl e,r⟩
open Classical in
noncomputable def κT(g:Heap):KeyKind where
 α:=List Int
 blt:=lexlt
 irrefl:=lexlt_irrefl
 trans:=lexlt_trans
 negTrans:=lexlt_neg
 total:=lexlt_total
 keyOf v:=if h:∃ ns,TupI g v ns then some h.choose else none
 dflt:=[]
open Classical in
theorem κT_key{g:Heap}{v:Value}{ns:List Int}(x:TupI g v ns):(κT g).keyOf v=some ns:=by
 have h:∃ ns,TupI g v ns:=⟨ns,x⟩
 show(if h:∃ ns,TupI g v ns then some h.choose else none)=some ns
 rw[dif_pos h,h.choose_spec.inj x]
open Classical in
theorem κT_of{g:Heap}{v:Value}{ns:List Int}(e:(κT g).keyOf v=some ns):TupI g v ns:=by
 have e':(if h:∃ ns,TupI g v ns then some h.choose else none)=some ns:=e
 by_cases h:∃ ns,TupI g v ns
 ·rw[dif_pos h]at e'
  rw[<- Option.some.inj e']
  exact h.choose_spec
 ·rw[dif_neg h]at e'
  cases e'
section
variable{prog:Program}{w:World}{A:Around}{E:Value->Shared->Prop}{s:Shared}
theorem lex_ok{b fin:Bool}{Q:Bool->Shared->Prop}:∀ {ns ms:List Int}{us vs:List Value} (i:Nat),IntsV ns us->IntsV ms vs->fin=decide (ns.length<ms.length)->Q (lexlt ns ms) s->KatLex prog w A b fin Q (us.zip vs) i s:=by
 intro ns ms us vs i h
 induction h generalizing ms vs i with
 |nil =>
  intro h' e q
  rw[e]
  cases h' with
  |nil=>exact kat_nil q
  |cons _ _=>exact kat_nil (show Q (decide (0<_+1)) s by simpa[lexlt]using q)
 | @cons n u ns us h r ih =>
  intro h' e q
  cases h' with
  |nil=>rw[e];exact kat_nil (by simpa[lexlt]using q)
  | @cons m v ms vs h2 r' =>
   obtain⟨t,e1⟩:=h
   obtain⟨t',e2⟩:=h2
   subst e1 e2
   refine kat_cons (wpAny_eqBool_int (kat_go (fun z=>kat_yes ?_) fun z=>kat_no ?_))
   ·have z':n=m:=by simpa using z
    refine ih (i+1) r' (by rw[e];simp) ?_
    have l:lexlt (n :: ns) (m :: ms)=lexlt ns ms:=by simp[lexlt,z']
    rw[<- l]
    exact q
   ·have z':n≠m:=by simpa using z
    have l:lexlt (n :: ns) (m :: ms)=decide (n<m):=by simp[lexlt,z']
    rw[l]at q
    cases hb:(b && i == 0)with
    |true=>exact oneLt_int q
    |false=>exact kat_one _ _ (lt_int q)
theorem ltT_ok{h₁:Heap}{b:Bool}(kp:∀ v ns,TupI h₁ v ns->TupI s.heap v ns):LtOk (κT h₁) (tuples' b) prog w A s:=by
 intro E x y ka kb Q st hk ha hb q
 obtain⟨a,ob,its,n,e1,g1,_,d1,p1⟩:=kp _ _ (κT_of ha)
 obtain⟨a',ob',its',n',e2,g2,_,d2,p2⟩:=kp _ _ (κT_of hb)
 rw[lt'_eq]
 refine wpS_bind (wpS_get ?_)
 rw[hk,e1,e2]
 have l1:ka.length=its.size:=by rw[p1.length];simp
 have l2:kb.length=its'.size:=by rw[p2.length];simp
 refine wpS_bind (wpS_lift (wpAny_attempt (kat_lt g1 d1 g2 d2 (lex_ok (ns:=ka) (ms:=kb) 0 p1 p2 (by rw[l1,l2]) ⟨rfl,?_⟩))))
 exact wpS_pure q
theorem map2_pairs:∀ {l:List Keyed},(∀ p∈l,p.1=p.2)->(l.map (·.2)).zip (l.map (·.2))=l
 |[],_=>rfl
 |p :: l,h=>by
  have e:p.1=p.2:=h p (zF ..)
  show(p.2,p.2) :: (l.map (·.2)).zip (l.map (·.2))=_
  rw[map2_pairs fun q hq=>h q (zD _ hq)]
  congr 1
  exact Prod.ext e.symm rfl
theorem mem_zip_self:∀ {l:List Value}{p:Keyed},p∈l.zip l->p.1=p.2/\p.2∈l
 |[],p,h=>by simp at h
 |v :: l,p,h=>by
  rcases zW.mp (show p∈(v,v) :: l.zip l from h)with e | e
  ·rw[e];exact⟨rfl,zF ..⟩
  ·exact⟨(mem_zip_self e).1,zD _ (mem_zip_self e).2⟩
theorem map2_zip:∀ {l:List Value},(l.zip l).map (·.2)=l
 |[]=>rfl
 |v :: l=>by show v :: (l.zip l).map (·.2)=_;rw[map2_zip]
theorem back_pairs{xs:Array Keyed}{vs:List Value}(hp:xs.Perm (pairsOf vs)):xs=pairsOf (xs.toList.map (·.2))/\(xs.toList.map (·.2)).Perm vs:=by
 have hp':xs.toList.Perm (vs.zip vs):=by
  have:=Array.perm_iff_toList_perm.mp hp
  rw[pairsOf_toList]at this
  exact this
 refine⟨?_,?_⟩
 ·apply Array.ext'
  rw[pairsOf_toList,map2_pairs fun p hq=>(mem_zip_self (hp'.mem_iff.mp hq)).1]
 ·have:=hp'.map (·.2)
  rw[map2_zip]at this
  exact this
theorem sort_gen{κ:KeyKind}{kd:SortKind}{a:Addr}{vs:List Value}{n:Nat}{P:Fin->Shared->Prop}(ho:s.heap.get? a=some (seqObj "list" vs.toArray n))(h0:KeysOf κ (pairsOf vs))(hl:vs.length<5000)
  (hk:2<=vs.length->∀ g:Heap,(∀ b u,b≠a->s.heap.get? b=some u->g.get? b=some u)->LtOk κ kd prog w A { s with heap:=g }/\∀ R:SortKind->Shared->Prop,R kd { s with heap:=g }->wpAny (model prog w) A (keyKind' vs.toArray) R E { s with heap:=g })
  (h:∀ (ws:List Value) (g:Heap) (c:Nat),ws.Perm vs->SortedToK κ (pairsOf ws) ws.length->(∀ b u,b≠a->s.heap.get? b=some u->g.get? b=some u)->g.get? a=some (seqObj "list" ws.toArray c)->P (.done (.ret .none)) { s with heap:=g }) :
  wpAny (model prog w) A (Builtin.«list.sort» ⟨[.ref a],[]⟩) P E s:=by
 have lt0:a<s.heap.objs.size:=zQ ho
 have k1:∀ b u,b≠a->s.heap.get? b=some u->(s.heap.update a (Obj.mapSeq fun _=>#[])).get? b=some u:=fun b u ne e=>by rw[Heap.get?_update_ne _ _ _ _ ne];exact e
 obtain⟨c1,g1⟩:∃ c1,(s.heap.update a (Obj.mapSeq fun _=>#[])).get? a=some (seqObj "list" #[] c1):=⟨_,get?_update_seq ho _⟩
 generalize hg1:s.heap.update a (Obj.mapSeq fun _=>#[])=G1 at k1 g1
 have k2:∀ b u,b≠a->s.heap.get? b=some u->((G1.push (seqObj "tuple" vs.toArray 0)).push (seqObj "list" #[] 0)).get? b=some u:=fun b u ne e=>zC _ (zC _ (k1 b u ne e))
 have g2:((G1.push (seqObj "tuple" vs.toArray 0)).push (seqObj "list" #[] 0)).get? a=some (seqObj "list" #[] c1):=zC _ (zC _ g1)
 rw[list_sort_plain]
 refine zB (listItems_at ho rfl (zB (listUpdate_at ho rfl ?_ (hsz:=by rw[zY,sizeLine_eq];exact zl4 hl rfl))))
 rw[hg1]
 refine zB (seqEpoch_at g1 rfl (zB (wpAny_newTuple ?_ (by show vs.length<=_;rw[sizeLine_eq];exact zl4 hl rfl))))
 refine zB (wpAny_newList (wpAny_holding ?_))
 show wpAny (model prog w) A _ P E { s with heap:=(G1.push (seqObj "tuple" vs.toArray 0)).push (seqObj "list" #[] 0) }
 generalize (G1.push (seqObj "tuple" vs.toArray 0)).push (seqObj "list" #[] 0)=G2 at k2 g2
 dsimp only
 have fin:∀ st':SortSt,(arrOf st').Perm (pairsOf vs)->SortedToK κ (arrOf st') (pairsOf vs).size->P (.done (.ret .none)) { s with heap:=G2.update a (Obj.mapSeq fun _=>(arrOf st').map (·.2)) }:=fun st' hp hs=>by
  obtain⟨e,p⟩:=back_pairs hp
  obtain⟨c3,g3⟩:∃ c3,(G2.update a (Obj.mapSeq fun _=>(arrOf st').map (·.2))).get? a=some (seqObj "list" ((arrOf st').map (·.2)) c3):=⟨_,get?_update_seq g2 _⟩
  refine h ((arrOf st').toList.map (·.2)) _ c3 p ?_ (fun b u ne z=>by rw[Heap.get?_update_ne _ _ _ _ ne];exact k2 b u ne z) ?_
  ·rw[<- e]
   have l2:(pairsOf vs).size=((arrOf st').toList.map (·.2)).length:=by rw[pairsOf_size,p.length_eq]
   rw[<- l2]
   exact hs
  ·rw[g3]
   congr 2
   apply Array.ext'
   simp
 by_cases h2:vs.toArray.size<2
 ·rw[if_pos h2,if_pos h2]
  refine zB (zG ?_)
  rw[StateT.run_pure]
  refine zB (zG ?_)
  dsimp only
  refine zB (seqEpoch_at g2 rfl (zB (listUpdate_at g2 rfl ?_ (hsz2:=by rw[Array.size_map];show(pairsOf vs).size<=_;rw[pairsOf_size,sizeLine_eq];exact zl4 hl rfl))))
  simp only[bne_self_eq_false,zBW,if_false]
  refine zG (fin (SortSt.mk' general' (vs.toArray.zip vs.toArray) #[] 7 none) (Array.Perm.refl _) fun i j ij jl=>?_)
  have e:i=j:=by
   rw[pairsOf_size]at jl
   simp only[zY]at h2
   lia
  rw[e]
  exact KeyOrd.kle_refl _
 ·have h2':2<=vs.length:=by simpa using h2
  obtain⟨lo,kk⟩:=hk h2' G2 k2
  rw[if_neg h2,if_neg h2]
  refine zB (kk _ ?_)
  refine zB (wpAny_mono (runs_ok (κ:=κ) (kd:=kd) (a₀:=pairsOf vs) (st:=SortSt.mk' kd (vs.toArray.zip vs.toArray) #[] 7 none) (Q:=fun _ st'=>(arrOf st').Perm (pairsOf vs)/\failedOf st'=none/\SortedToK κ (arrOf st') (pairsOf vs).size)
   lo h0 ⟨Array.Perm.refl _,rfl,rfl,rfl,fun k z=>absurd z (Nat.not_lt_zero _)⟩ (by rw[pairsOf_size];exact h2') fun st' a1 a2 a3=>⟨a1,a2,fun i j ij jl=>by
    have:=a3 i j ij jl
    rw[Nat.zero_add,Nat.zero_add]at this
    exact this⟩) ?_ fun _ _ e=>e)
  rintro⟨⟨⟩,st'⟩ s' ⟨rfl,hp,hf,hs⟩
  dsimp only
  refine zB (seqEpoch_at g2 rfl (zB (listUpdate_at g2 rfl ?_ (hsz2:=by refine zAE (zBX ((Array.size_map ..).trans (hp.size_eq.trans (pairsOf_size _)))) ?_;rw[sizeLine_eq];exact zl4 hl rfl))))
  rw[hf]
  simp only[bne_self_eq_false,zBW,if_false]
  exact zG (fin st' hp hs)
theorem sort_at{κ:KeyKind}{kd:SortKind}{a:Addr}{vs:List Value}{n:Nat}{P:Fin->Shared->Prop}(ho:s.heap.get? a=some (seqObj "list" vs.toArray n))(h0:KeysOf κ (pairsOf vs))(hl:vs.length<128)
  (hk:2<=vs.length->∀ g:Heap,(∀ b u,b≠a->s.heap.get? b=some u->g.get? b=some u)->LtOk κ kd prog w A { s with heap:=g }/\∀ R:SortKind->Shared->Prop,R kd { s with heap:=g }->wpAny (model prog w) A (keyKind' vs.toArray) R E { s with heap:=g })
  (h:∀ (ws:List Value) (g:Heap) (c:Nat),ws.Perm vs->SortedToK κ (pairsOf ws) ws.length->(∀ b u,b≠a->s.heap.get? b=some u->g.get? b=some u)->g.get? a=some (seqObj "list" ws.toArray c)->P (.done (.ret .none)) { s with heap:=g }) :
  wpAny (model prog w) A (Builtin.«list.sort» ⟨[.ref a],[]⟩) P E s:=sort_gen ho h0 (zZ hl (by decide)) hk h
end
end Srt
namespace L2
open PySem PySem.W PyProof.Rows Srt
theorem intsV_of:∀ {ns:List Int}{us:List Value},Vals (ns.map V.int) us->IntsV ns us
 |[],_,.nil=>.nil
 |n :: ns,_,.cons r t=>.cons r (intsV_of t)
noncomputable def keyA(g:Heap)(a:Addr):List Int:=(show Option (List Int)from(κT g).keyOf (.ref a)).getD []
theorem keyA_eq{g:Heap}{a:Addr}{k:List Int}(x:TupI g (.ref a) k):keyA g a=k:=by
 unfold keyA
 rw[κT_key x]
 rfl
noncomputable def unref:Value->Addr
 | .ref a=>a
 | _=>(0:Nat)
section
variable{X:Cx}{pins:List (Addr×Obj)}{σ:St}{H:Hp}{s:Shared}
theorem tupI_of(I:Inv X pins σ H s){a:Addr}{ns:List Int}(h:H a=some (.tup (ns.map V.int))):TupI s.heap (.ref a) ns:=by
 obtain⟨its,r,⟨o,e,c,n,d⟩,_⟩:=I.tuple (SqT.of h)
 exact⟨a,o,_,n,rfl,e,c,d,intsV_of r⟩
theorem looks_int{M:Model}{h:Heap}{i:Int}{t:Tok}:Looks M h (typeOf (.int i t)) (Value.type "int"):=Looks.now
theorem tups_of{g:Heap}:∀ {as:List Addr}{ks:List (List Int)},Paired (fun a k=>TupI g (.ref a) k/\k≠[]) as ks->∃ fs:List Value,KatTups g (as.map .ref) fs/\fs.length=as.length/\∀ v∈fs,∃ i t,v=Value.int i t:=by
 intro as ks h
 induction h with
 |nil=>exact⟨[],trivial,rfl,fun _ h=>nomatch h⟩
 | @cons a k as ks h r ih =>
  obtain⟨⟨a',o,its,n,e,g1,c,d,p⟩,ne⟩:=h
  cases e
  obtain⟨fs,t,l,z⟩:=ih
  cases k with
  |nil=>exact absurd rfl ne
  |cons i k =>
   obtain⟨il⟩:=its
   cases p with
   |cons r1 r2 =>
    obtain⟨tk,rfl⟩:=r1
    refine⟨_ :: fs,KatTups.cons g1 c d rfl t,by simp[l],fun v hv=>?_⟩
    rcases zW.mp hv with e | e
    ·exact⟨i,tk,e⟩
    ·exact z v e
theorem sort_new{L:Addr}{A:Around}{E:Value->Shared->Prop}{as:List Addr}{ks:List (List Int)}{P:Fin->Shared->Prop}(ho:s.heap.get? L=some (seqObj "list" (as.map Value.ref).toArray 0))(hT:Paired (fun a k=>TupI s.heap (.ref a) k/\k≠[]) as ks)(hl:as.length<128)
  (h:∀ (bs:List Addr) (ns:List (List Int)) (g:Heap) (c:Nat),bs.Perm as->ns.Perm ks->ns.Pairwise (fun x y=>lexlt y x=false)->Paired (fun a k=>TupI s.heap (.ref a) k) bs ns->(∀ b u,b≠L->s.heap.get? b=some u->g.get? b=some u)->g.get? L=some (seqObj "list" (bs.map Value.ref).toArray c) ->
   P (.done (.ret .none)) { s with heap:=g }):wpAny (model X.prog X.w) A (Builtin.«list.sort» ⟨[.ref L],[]⟩) P E s:=by
 have neL:∀ v ns,TupI s.heap v ns->v≠.ref L:=fun v ns x e=>by
  obtain⟨a,o,its,n,rfl,g1,c,_⟩:=x
  cases e
  rw[ho]at g1
  cases g1
  exact absurd (show Value.type "list" = Value.type "tuple" from c) (by decide)
 have lenk:as.length=ks.length:=hT.length
 have kp:∀ g:Heap,(∀ b u,b≠L->s.heap.get? b=some u->g.get? b=some u)->∀ v ns,TupI s.heap v ns->TupI g v ns:=fun g k v ns x=>x.to fun b u e z=>k b u (fun q=>neL v ns x (by rw[e,q])) z
 have memk:∀ v∈as.map Value.ref,∃ k,TupI s.heap v k:=fun v hv=>by
  obtain⟨a,ha,rfl⟩:=zAH.mp hv
  clear h ho neL kp hl lenk hv
  induction hT with
  |nil=>cases ha
  |cons r _ ih =>
   rcases zW.mp ha with e | e
   ·rw[e];exact⟨_,r.1⟩
   ·exact ih e
 refine sort_at (κ:=κT s.heap) (kd:=tuples' true) ho (fun p hp=>?_) (by rw[zA];exact hl) (fun l2 g k=>⟨ltT_ok (kp g k),fun R hR=>?_⟩) fun ws g c pw sw k gL=>?_
 ·rw[pairsOf_toList]at hp
  obtain⟨e1,e2⟩:=Srt.mem_zip_self hp
  obtain⟨kk,x⟩:=memk p.2 e2
  rw[e1]
  exact⟨kk,κT_key x⟩
 ·have hT':Paired (fun a k=>TupI g (.ref a) k/\k≠[]) as ks:=Paired.mapP hT fun a b z=>⟨kp g k _ _ z.1,z.2⟩
  obtain⟨fs,t,l,z⟩:=tups_of hT'
  by_cases e0:fs=[]
  ·rw[e0]at l
   rw[zA]at l2
   simp at l
   lia
  ·refine kat_kind (T:=Value.type "int") t (List.length_pos_iff.mpr e0) (fun v hv=>?_) (by decide) ?_
   ·obtain⟨i,tk,rfl⟩:=z v hv
    exact looks_int
   ·have e:(Value.type "int" != Value.type "tuple")=true:=by decide
    rw[e]
    exact hR
 ·-- the values are refs again,the keys a permutation
  have unr:∀ l:List Value,(∀ v∈l,∃ a,v=Value.ref a)->(l.map unref).map Value.ref=l:=fun l hl=>by
   induction l with
   |nil=>rfl
   |cons v l ih =>
    obtain⟨a,rfl⟩:=hl v (zF ..)
    rw[zN,zN,ih fun v hv=>hl v (zD _ hv)]
    rfl
  have eb:(ws.map unref).map Value.ref=ws:=unr ws fun v hv=>by
   obtain⟨a,_,rfl⟩:=zAH.mp (pw.mem_iff.mp hv)
   exact⟨a,rfl⟩
  have pb:(ws.map unref).Perm as:=by
   have:=pw.map unref
   rw[zAW]at this
   have e:(as.map (unref ∘ Value.ref))=as:=by
    rw[show(unref ∘ Value.ref)=id from rfl,List.map_id]
   rw[e]at this
   exact this
  generalize ws.map unref=bs at eb pb
  subst eb
  have ek:ks=as.map (keyA s.heap):=by
   clear h ho neL kp hl lenk memk pw sw pb
   induction hT with
   |nil=>rfl
   |cons r _ ih=>rw[zN,keyA_eq r.1,<- ih]
  have kb:∀ b∈bs,TupI s.heap (.ref b) (keyA s.heap b):=fun b hb=>by
   obtain⟨k,x⟩:=memk (.ref b) (zAH.mpr ⟨b,pb.mem_iff.mp hb,rfl⟩)
   rw[keyA_eq x]
   exact x
  refine h bs (bs.map (keyA s.heap)) g c pb (by rw[ek];exact pb.map _) ?_ ?_ k gL
  ·rw[zBR]
   intro i j hi hj ij
   rw[zA]at hi hj
   have z:=sw i j (zBB ij) (by rw[zA];exact hj)
   have kk:∀ m (hm:m<bs.length),KK (κT s.heap) (pairsOf (bs.map Value.ref)) m=keyA s.heap bs[m]:=fun m hm=>by
    have e:(pairsOf (bs.map Value.ref))[m]?=some (Value.ref bs[m],Value.ref bs[m]):=by simp[pairsOf,hm]
    unfold KK
    rw[e]
    rfl
   rw[kk i hi,kk j hj]at z
   rw[zU,zU]
   exact z
  ·clear h ho neL kp hl lenk memk pw sw pb gL
   induction bs with
   |nil=>exact .nil
   |cons b bs ih=>exact .cons (kb b (zF ..)) (ih fun b hb=>kb b (zD _ hb))
theorem call_sortedD(hc:X.calm=true):CallR X (.builtin "sorted") (fun xs H Q=>∃ d kvs ks,xs=[V.ref d]/\H d=some (.dT kvs)/\kvs.map (·.1)=List.map (List.map Sum.inl) ks/\(∀ k∈ks,k≠[])/\kvs.length<128 /\
  ∀ (l:Addr) (as:List Addr) (ns:List (List Int)),H l=none->ns.Perm ks->ns.Pairwise (fun x y=>lexlt y x=false)->Paired (fun a n=>H a=some (.tup (n.map V.int))) as ns->Q (.ref l) (upd H l (.lst (as.map V.ref)))):=by
 intro pins s σ H xs us Q I r h
 obtain⟨d,kvs,ks,rfl,hd,hks,hne,hlen,q⟩:=h
 obtain⟨u,rfl,rx⟩:=vals1 r
 cases rx
 obtain⟨z,nsys,xs,pr,o,es,ep,go,ex,dt,ee,nd⟩:=I.hok d _ hd
 have hpl:xs.length=kvs.length:=pr.length.symm
 have hT:Paired (fun a k=>(H a=some (.tup (k.map V.int))/\k≠[])) (xs.map fun q=>q.2.1) ks:=by
  clear q hd hlen z nd go ex dt ee hpl
  induction pr generalizing ks with
  |nil =>
   cases ks with
   |nil=>exact .nil
   |cons _ _=>simp at hks
  | @cons p x l1 l2 r1 r2 ih =>
   cases ks with
   |nil=>simp at hks
   |cons k ks =>
    simp only[zN,List.cons.injEq]at hks
    refine .cons ⟨?_,hne k (zF ..)⟩ (ih ks hks.2 fun k hk=>hne k (zD _ hk))
    rw[r1.2.1,hks.1,zAW]
    rfl
 have raw:RawD d (xs.map fun q=>Value.ref q.2.1) ep s.heap:=⟨o,es,go,ex,dt,by rw[ee,zAW];rfl⟩
 refine Calls.call_function_entry kind_sorted plain_sorted entry_sorted (args_sorted1 _) ?_
 unfold Builtin.«sorted»
 refine zB (m:=checkCount "sorted" 1 1 _) (zG (zB (kdu_collect (A:=X.A.in1) (rawSrc nsys) (show X.A.handled=none from I.ok.hd hc) raw (by rw[zA,hpl,sizeLine_eq];exact zl4 hlen rfl) fun h' tk acc kp hacc=>?_)))
 have eacc:acc.toList=(xs.map fun q=>q.2.1).map Value.ref:=by
  apply List.ext_getElem?
  intro i
  by_cases hi:i<acc.size
  ·have e1:acc.toList[i]?=some acc[i]:=by rw[zBC,zAK hi]
   have e2:=hacc.2 i acc[i] (zAK hi)
   rw[e1,zAW]
   exact e2.symm
  ·have l0:=hacc.1
   rw[zA]at l0
   rw[zCJ (by rw[zBK];exact zj3 hi),zCJ (by rw[zA,zA];exact zh9 (zj3 hi) (Eq.symm l0))]
 rw[eacc]
 generalize exs:(xs.map fun q=>q.2.1)=as0 at hT
 have las:as0.length<128:=by rw[<- exs,zA];exact zAR (zBX hpl) hlen
 refine zB (wpAny_newList ?_ (by rw[zA,sizeLine_eq];exact zl4 las rfl))
 have gL:(h'.push (seqObj "list" (as0.map Value.ref).toArray 0)).get? h'.objs.size=some (seqObj "list" (as0.map Value.ref).toArray 0):=zV _ rfl
 have I1:Inv X pins σ H { s with heap:=h',toks:=tk }:=I.kept kp
 have kp2:∀ b u,h'.get? b=some u->(h'.push (seqObj "list" (as0.map Value.ref).toArray 0)).get? b=some u:=fun b u e=>zC _ e
 have tT:Paired (fun a k=>TupI (h'.push (seqObj "list" (as0.map Value.ref).toArray 0)) (.ref a) k/\k≠[]) as0 ks:=Paired.mapP hT fun a k z=>⟨(tupI_of I1 z.1).to fun b u _ e=>kp2 b u e,z.2⟩
 have memH:∀ a∈as0,∃ k:List Int,H a=some (.tup (k.map V.int)):=fun a ha=>by
  clear q exs eacc raw gL tT kp2 las hks hne hlen
  induction hT with
  |nil=>cases ha
  |cons r _ ih =>
   rcases zW.mp ha with e | e
   ·rw[e];exact⟨_,r.1⟩
   ·exact ih e
 refine zB (wpAny_holding (wpAny_call_entry slot_list_sort ⟨_,gL,rfl⟩ entry_list_sort (sort_new (X:=X) (s:={ s with heap:=h'.push (seqObj "list" (as0.map Value.ref).toArray 0),toks:=tk }) gL tT las fun bs ns g c pb pn pw pt kp3 gg=>⟨_,rfl,?_⟩) (args_list_sort _)))
 refine zG ⟨_,rfl,.ref h'.objs.size,_,I1.laid (t':=tk) (a:=h'.objs.size) (o:=.lst (bs.map V.ref)) (fun b u e=>kp3 b u (zAG (zQ e)) (kp2 b u e)) (zJ _) (show ObjOk X.prog X.w _ g _ (.lst (bs.map V.ref))from⟨?_,bs.map Value.ref,c,?_,gg⟩),rfl,q _ bs ns (I1.hok.fresh (zJ _)) pn pw ?_⟩
 ·rw[zA,pb.length_eq,sizeLine_eq];exact zl4 las rfl
 ·clear pb pt gg
  induction bs with
  |nil=>exact .nil
  |cons b bs ih=>exact .cons rfl ih
 ·have memB:∀ a∈bs,∃ k:List Int,H a=some (.tup (k.map V.int)):=fun a ha=>memH a (pb.mem_iff.mp ha)
  clear pb gg pn pw
  induction pt with
  |nil=>exact .nil
  | @cons a k l1 l2 r1 _ ih =>
   refine .cons ?_ (ih fun a ha=>memB a (zD _ ha))
   obtain⟨k',e⟩:=memB a (zF ..)
   rw[e,r1.inj ((tupI_of I1 e).to fun b u _ z=>kp2 b u z)]
end
open PySem PySem.W PyProof.Rows
section
variable{X:Cx}
theorem call_sum(hc:X.calm=true):CallR X (.builtin "sum") (fun xs H Q=>∃ (l:Addr) (ns:List Int),xs=[V.ref l]/\SqL X.K H l (ns.map V.int)/\Q (.int ns.sum) H):=by
 intro pins s σ H xs us Q I r h
 obtain⟨l,ns,rfl,hq,q⟩:=h
 obtain⟨u,rfl,rx⟩:=vals1 r
 cases rx
 obtain⟨its,r',pl,hz⟩:=I.list hq
 have hi:=intsAre_of r'
 obtain⟨ys,hx⟩:=hi.allInts.items
 have pl':s.heap.IsList l (intItems ys):=hx▸pl.isList
 refine sum_intListG (I.ok.hd hc) pl' fun h' tk t' hk=>?_
 have e1:ns=ys.toList.map (·.1):=by
  rw[<- nums_intItems,<- hx]
  exact(show numsOf its.toArray.toList=ns from hi.numsOf).symm
 have e2:preSum (numAt ys) ys.size=ns.sum:=by rw[preSum_eq,zAZ (by simp),e1]
 rw[e2]
 exact⟨.int ns.sum,H,I.kept hk,⟨t',rfl⟩,q⟩
theorem call_range(X:Cx):CallR X (.type "range") (fun xs H Q=>∃ j:Int,xs=[V.int j]/\∀ p,H p=none->Q (.ref p) (upd H p (.rng 0 j))):=by
 intro pins s σ H xs us Q I r h
 obtain⟨j,rfl,q⟩:=h
 obtain⟨u,rfl,t,rfl⟩:=vals1 r
 refine call_range_1 ⟨.ref s.heap.objs.size,_,I.laid (t':=s.toks+1+1) (a:=s.heap.objs.size) (o:=.rng 0 j) (fun b o e=>zC _ e) (zJ _) ⟨_,_,_,zV _ rfl⟩,rfl,q _ (I.hok.fresh (zJ _))⟩
noncomputable def upto(n:Nat):List Int:=(List.range n).map fun(i:Nat)=>(i:Int)
theorem upto_length(n:Nat):(upto n).length=n:=by simp[upto]
theorem call_list_rng(hc:X.calm=true):CallR X (.type "list") (fun xs H Q=>∃ p j,xs=[V.ref p]/\H p=some (.rng 0 j)/\-(2 ^ 62)<=j/\j<=1000000/\∀ l,H l=none->Q (.ref l) (upd H l (.lst ((upto j.toNat).map V.int)))):=by
 intro pins s σ H xs us Q I r h
 obtain⟨p,j,rfl,hp,h1,h2,q⟩:=h
 obtain⟨u,rfl,rx⟩:=vals1 r
 cases rx
 obtain⟨t,u,v,e⟩:=I.hok p _ hp
 have rs:Builtin.Range.rangeSize 0 j 1=((j.toNat:Nat):Int):=by rw[rangeSize_one];split <;> lia
 refine call_list_range (I.ok.hd hc) (show IsRange s.heap p 0 j 1 t u v from e) (small_one (by lia) (by lia) h1 (by lia)) rs (by lia) fun h' tk acc c kp hD hI=>?_
 refine⟨.ref s.heap.objs.size,_,I.laid (t':=tk) (a:=s.heap.objs.size) (o:=.lst ((upto j.toNat).map V.int)) kp (zJ _) (show ObjOk X.prog X.w _ h' _ (.lst ((upto j.toNat).map V.int))from⟨?_,acc.toList,c,?_,by rw[Array.toArray_toList];exact hD⟩),rfl,q _ (I.hok.fresh (zJ _))⟩
 ·rw[zA,upto_length,sizeLine_eq];lia
 ·have len:acc.toList.length=j.toNat:=by rw[zBK];exact hI.1
  have key:∀ (n:Nat) (a:List Value) (b:Nat),a.length=n->(∀ i u,a[i]?=some u->∃ t,u=Value.int ((b+i:Nat):Int) t)->Vals (((List.range' b n).map fun(i:Nat)=>(i:Int)).map V.int) a:=by
   intro n
   induction n with
   |zero=>intro a b e _;rw[List.eq_nil_of_length_eq_zero e];exact .nil
   |succ n ih =>
    intro a b e f
    cases a with
    |nil=>simp at e
    |cons u a =>
     rw[List.range'_succ,zN,zN]
     refine .cons (f 0 u rfl) (ih a (b+1) (by simpa using e) fun i u hu=>?_)
     obtain⟨t,z⟩:=f (i+1) u (by simpa using hu)
     exact⟨t,by rw[z];congr 1;lia⟩
  have:=key j.toNat acc.toList 0 len fun i u hu=>by
   obtain⟨t,z⟩:=hI.2 i u (by rw[<- zBC];exact hu)
   exact⟨t,by rw[z];congr 1;lia⟩
  rw[<- List.range_eq_range']at this
  exact this
end
theorem star_sub{a b:Expr}{pos:Pos}{rest:List Expr}{env:Env}:starEach (.Subscript a b pos :: rest) env=(false,eval (.Subscript a b pos) env) :: starEach rest env:=rfl
theorem star_call{f:Expr}{args:List Expr}{ks:List Keyword}{pos:Pos}{rest:List Expr}{env:Env}:starEach (.Call f args ks pos :: rest) env=(false,eval (.Call f args ks pos) env) :: starEach rest env:=rfl
theorem star_bin{a b:Expr}{op:Operator}{pos:Pos}{rest:List Expr}{env:Env}:starEach (.BinOp a op b pos :: rest) env=(false,eval (.BinOp a op b pos) env) :: starEach rest env:=rfl
theorem star_cmp{a:Expr}{ops:List CmpOp}{bs:List Expr}{pos:Pos}{rest:List Expr}{env:Env}:starEach (.Compare a ops bs pos :: rest) env=(false,eval (.Compare a ops bs pos) env) :: starEach rest env:=rfl
theorem star_comp{e:Expr}{gs:List Comprehension}{sc:Scope}{pos:Pos}{rest:List Expr}{env:Env}:starEach (.ListComp e gs sc pos :: rest) env=(false,eval (.ListComp e gs sc pos) env) :: starEach rest env:=rfl
theorem star_lst{es:List Expr}{pos:Pos}{rest:List Expr}{env:Env}:starEach (.List es pos :: rest) env=(false,eval (.List es pos) env) :: starEach rest env:=rfl
theorem star_tup{es:List Expr}{k:Nat}{pos:Pos}{rest:List Expr}{env:Env}:starEach (.Tuple es k pos :: rest) env=(false,eval (.Tuple es k pos) env) :: starEach rest env:=rfl
section
variable{X:Cx}{es:List Expr}{te:TE}{t:TA}{pos:Pos}
theorem pa_sub{a b:Expr}(ha:PE X (.Subscript a b pos) te)(hr:PA X es t):PA X (.Subscript a b pos :: es) (tCons te t):=pa_cons ha hr (hs:=star_sub)
theorem pa_call{f:Expr}{args:List Expr}{ks:List Keyword}(ha:PE X (.Call f args ks pos) te)(hr:PA X es t):PA X (.Call f args ks pos :: es) (tCons te t):=pa_cons ha hr (hs:=star_call)
theorem pa_bin{a b:Expr}{op:Operator}(ha:PE X (.BinOp a op b pos) te)(hr:PA X es t):PA X (.BinOp a op b pos :: es) (tCons te t):=pa_cons ha hr (hs:=star_bin)
theorem pa_cmp{a:Expr}{ops:List CmpOp}{bs:List Expr}(ha:PE X (.Compare a ops bs pos) te)(hr:PA X es t):PA X (.Compare a ops bs pos :: es) (tCons te t):=pa_cons ha hr (hs:=star_cmp)
theorem pa_comp{e:Expr}{gs:List Comprehension}{sc:Scope}(ha:PE X (.ListComp e gs sc pos) te)(hr:PA X es t):PA X (.ListComp e gs sc pos :: es) (tCons te t):=pa_cons ha hr (hs:=star_comp)
theorem pa_lst{xs:List Expr}(ha:PE X (.List xs pos) te)(hr:PA X es t):PA X (.List xs pos :: es) (tCons te t):=pa_cons ha hr (hs:=star_lst)
theorem pa_tup{xs:List Expr}{k:Nat}(ha:PE X (.Tuple xs k pos) te)(hr:PA X es t):PA X (.Tuple xs k pos :: es) (tCons te t):=pa_cons ha hr (hs:=star_tup)
theorem star_cst{c:Const}{k:Nat}{pos:Pos}{rest:List Expr}{env:Env}:starEach (.Constant c k pos :: rest) env=(false,eval (.Constant c k pos) env) :: starEach rest env:=rfl
theorem star_nam{x:Str}{pos:Pos}{rest:List Expr}{env:Env}:starEach (.Name x pos :: rest) env=(false,eval (.Name x pos) env) :: starEach rest env:=rfl
theorem pa_cst{c:Const}{k:Nat}(ha:PE X (.Constant c k pos) te)(hr:PA X es t):PA X (.Constant c k pos :: es) (tCons te t):=pa_cons ha hr (hs:=star_cst)
theorem yac{x:Str}(ha:PE X (.Name x pos) te)(hr:PA X es t):PA X (.Name x pos :: es) (tCons te t):=pa_cons ha hr (hs:=star_nam)
end
end L2
namespace Srt
open PySem PySem.W PyProof.Rows
noncomputable def SeqK(b:Bool)(g:Heap)(l:Addr)(xs:Array Value):Prop:=match b with
 |true=>g.IsTuple l xs
 |false=>g.IsList l xs
noncomputable def ItK(b:Bool)(g:Heap)(it l:Addr)(i:Nat):Prop:=match b with
 |true=>g.IsTupleIter it l i
 |false=>g.IsListIter it l i
noncomputable def itO(b:Bool)(l:Addr):Obj:=match b with
 |true=>{ cls:=.type "tuple_iterator",data:=.fields #[.ref l,.int 0 0] }
 |false=>{ cls:=.type "list_iterator",data:=.fields #[.ref l,.int 0 0] }
theorem SeqK.to{b:Bool}{g g':Heap}{l:Addr}{xs:Array Value}(x:SeqK b g l xs)(k:∀ o,g.get? l=some o->g'.get? l=some o):SeqK b g' l xs:=by
 cases b
 ·exact Heap.IsList.at x k
 ·exact Heap.IsTuple.at x k
theorem ItK.to{b:Bool}{g g':Heap}{it l:Addr}{i:Nat}(x:ItK b g it l i)(k:∀ o,g.get? it=some o->g'.get? it=some o):ItK b g' it l i:=by
 cases b
 ·exact Heap.IsListIter.at x k
 ·obtain⟨o,e,r⟩:=(show g.IsTupleIter it l i from x)
  exact⟨o,k o e,r⟩
theorem ItK.lt{b:Bool}{g:Heap}{it l:Addr}{i:Nat}(x:ItK b g it l i):∃ o,g.get? it=some o/\∀ v,o.data≠.cell v:=by
 cases b
 ·obtain⟨o,e,c,d⟩:=(show g.IsListIter it l i from x)
  exact⟨o,e,fun v z=>by rw[d]at z;cases z⟩
 ·obtain⟨o,e,c,d⟩:=(show g.IsTupleIter it l i from x)
  exact⟨o,e,fun v z=>by rw[d]at z;cases z⟩
section
variable{prog:Program}{w:World}{A:Around}{E:Value->Shared->Prop}{s:Shared}
theorem nextK_item{b:Bool}{it l:Addr}{i:Nat}{xs:Array Value}{x:Value}{Q:Value->Shared->Prop}(hit:ItK b s.heap it l i)(hl:SeqK b s.heap l xs)(hx:xs[i]?=some x)
  (q:∀ g,ItK b g it l (i+1)->Heap.SameBut it s.heap g->Q x { s with heap:=g }):wpAny (model prog w) A (Builtin.SmallTypes.nextOf (.ref it)) Q E s:=by
 cases b
 ·exact wpAny_nextOf_list_item hit hl hx q
 ·have ty:s.TypeIs (.ref it) "tuple_iterator":=by
   obtain⟨o,e,c,_⟩:=(show s.heap.IsTupleIter it l i from hit)
   exact⟨o,e,c⟩
  obtain⟨o,e,c,d⟩:=(show s.heap.IsTupleIter it l i from hit)
  obtain⟨o2,e2,_,n2,d2⟩:=(show s.heap.IsTuple l xs from hl)
  unfold Builtin.SmallTypes.nextOf;refine zB (wpAny_callSpecial?_slot (name:=Str.ofString "__next__") ty F.slot_tuple_iterator_next (wpAny_call_entry F.slot_tuple_iterator_next ty F.entry_tuple_iterator_next ?_ (F.args_tuple_iterator_next_1 _)))
  show wpAny _ _ (field (.ref it) 0 >>= _) _ _ s;refine zB (wpAny_field e d (x:=.ref l) rfl ?_)
  show wpAny _ _ (if(Value.ref l == Value.none)=true then _ else _) _ _ s;rw[if_neg (show ¬((Value.ref l == Value.none)=true)from zT)]
  show wpAny _ _ (field (.ref it) 1 >>= _) _ _ s;refine zB (wpAny_field e d (x:=.int i 0) rfl ?_)
  show wpAny _ _ (seqItems? (.ref l) >>= _) _ _ s;refine zB (wpAny_seqItems e2 d2 ?_)
  simp only[zAC,hx]
  refine zB (wpAny_setField e d (by simp) (zG ⟨x,rfl,zG (q _ ?_ (Heap.SameBut.update ..))⟩))
  exact(show Heap.IsTupleIter _ it l (i+1)from⟨_,Heap.get?_update_self _ e (Obj.isFreed_of_fields (Obj.data_mapFields d _)),(Obj.cls_mapFields ..).trans c,by rw[Obj.data_mapFields d];simp[rawInt]⟩)
theorem nextK_end{b:Bool}{it l:Addr}{i:Nat}{xs:Array Value}{Q:Value->Shared->Prop}(hh:A.handled=none)(hit:ItK b s.heap it l i)(hl:SeqK b s.heap l xs)(hx:xs[i]?=none)
  (q:∀ g e,Heap.ExtBut it s.heap g->(∃ o,g.get? e=some o/\o.cls = .type "StopIteration")->E (.ref e) { s with heap:=g }):wpAny (model prog w) A (Builtin.SmallTypes.nextOf (.ref it)) Q E s:=by
 cases b
 ·exact wpAny_nextOf_list_end hh hit hl hx q
 ·have ty:s.TypeIs (.ref it) "tuple_iterator":=by
   obtain⟨o,e,c,_⟩:=(show s.heap.IsTupleIter it l i from hit)
   exact⟨o,e,c⟩
  obtain⟨o,e,c,d⟩:=(show s.heap.IsTupleIter it l i from hit)
  obtain⟨o2,e2,_,n2,d2⟩:=(show s.heap.IsTuple l xs from hl)
  unfold Builtin.SmallTypes.nextOf;refine zB (wpAny_callSpecial?_slot (name:=Str.ofString "__next__") ty F.slot_tuple_iterator_next (wpAny_call_entry F.slot_tuple_iterator_next ty F.entry_tuple_iterator_next ?_ (F.args_tuple_iterator_next_1 _)))
  show wpAny _ _ (field (.ref it) 0 >>= _) _ _ s;refine zB (wpAny_field e d (x:=.ref l) rfl ?_)
  show wpAny _ _ (if(Value.ref l == Value.none)=true then _ else _) _ _ s;rw[if_neg (show ¬((Value.ref l == Value.none)=true)from zT)]
  show wpAny _ _ (field (.ref it) 1 >>= _) _ _ s;refine zB (wpAny_field e d (x:=.int i 0) rfl ?_)
  show wpAny _ _ (seqItems? (.ref l) >>= _) _ _ s;refine zB (wpAny_seqItems e2 d2 ?_)
  simp only[zAC,hx];refine zB (wpAny_rule (zB (wpAny_setField e d (by simp) ?_)))
  show wpAny _ _ (newExc (.type "StopIteration") [] >>= _) _ _ _;refine zB ?_
  simp only[newExc,newTuple];refine zB (wpAny_newObj_type ?_ (by size_fits))
  refine zB (m:=firstArgMember _ _) (wpAny_of_eq (a:=Value.none) (by first | rfl |(simp only[firstArgMember];rfl)) (wpAny_newObj_type ?_ (by size_fits)))
  simp only[raiseNew];refine zB (wpAny_handled ?_)
  rw[show A.in1.handled=none from hh];refine zB (zG (wpAny_throw ?_))
  exact q _ _ (((Heap.SameBut.update ..).extBut.push _).push _) ⟨_,zV _ rfl,rfl⟩
structure ZA(z ti to i1 i2:Addr):Prop where
 a1:ti≠z
 a2:to≠z
 a3:i1≠z
 a4:i2≠z
 a5:ti≠to
 a6:ti≠i1
 a7:ti≠i2
 a8:to≠i1
 a9:to≠i2
 a10:i1≠i2
noncomputable def Off(z to i1 i2 l:Addr):Prop:=l≠z/\l≠to/\l≠i1/\l≠i2
theorem zipK_item{b1 b2:Bool}{z ti to i1 i2 l1 l2:Addr}{k:Nat}{xs ys:Array Value}{x y a b:Value}{Q:Value->Shared->Prop}(D:ZA z ti to i1 i2)(o1:Off z to i1 i2 l1)(o2:Off z to i1 i2 l2)
  (hz:IsZip s.heap z ti to .none) (hTI:IsPair s.heap ti (.ref i1) (.ref i2)) (hTO:IsPair s.heap to a b) (h1:ItK b1 s.heap i1 l1 k) (h2:ItK b2 s.heap i2 l2 k) (hl1:SeqK b1 s.heap l1 xs) (hl2:SeqK b2 s.heap l2 ys) (hx:xs[k]?=some x) (hy:ys[k]?=some y)
  (q:∀ g,IsZip g z ti to (rawInt s.heap.objs.size)->IsPair g to x y->ItK b1 g i1 l1 (k+1)->ItK b2 g i2 l2 (k+1)->IsPair g s.heap.objs.size x y->(∀ c o,c≠z->c≠to->c≠i1->c≠i2->s.heap.get? c=some o->g.get? c=some o)->Q (.ref s.heap.objs.size) { s with heap:=g }) :
  wpAny (model prog w) A (Builtin.«zip.__next__» ⟨[.ref z],[]⟩) (fun fin s'=>∃ v,fin = .done (.ret v)/\Q v s') E s:=by
 show wpAny _ _ (field (.ref z) 2 >>= _) _ _ _;refine zB (wpAny_field hz rfl (x:=.bool false) rfl ?_)
 show wpAny _ _ (field (.ref z) 3 >>= _) _ _ _;refine zB (wpAny_field hz rfl (x:=.ref ti) rfl (zB (wpAny_seqItems hTI rfl ?_)))
 show wpAny _ _ (Builtin.SmallTypes.ownedTupleIsFree (.ref z) >>= _) _ _ _;refine zB ?_
 unfold Builtin.SmallTypes.ownedTupleIsFree;refine zB (wpAny_field hz rfl (x:=.none) rfl (zG ?_))
 simp only[if_true];refine zB (wpAny_rule (zB (wpAny_field hz rfl (x:=.ref to) rfl (zB (wpAny_setField_rec hz (by simp) fun g1 z1 e1=>?_)))))
 replace z1:IsZip g1 z ti to .ellipsis:=z1
 refine zB ?_;simp only[List.zipIdx_cons,List.zipIdx_nil,List.forIn_cons,List.forIn_nil]
 refine zB (zB (wpAny_onRaise ?_));show wpAny _ _ (Builtin.SmallTypes.nextOf (.ref i1) >>= _) _ _ _
 refine zB (nextK_item (h1.to fun o e=>e1.extBut _ _ D.a3 e) (hl1.to fun o e=>e1.extBut _ _ o1.1 e) hx fun g2 n2 e2=>zG ?_)
 have t2:IsPair g2 to a b:=e2.extBut _ _ D.a8 (e1.extBut _ _ D.a2 hTO)
 refine zB (wpAny_seqItems t2 rfl (zB (wpAny_updateSeq_pair t2 fun g3 t3 e3=>?_)))
 replace t3:IsPair g3 to x b:=t3
 refine zB (wpAny_letGo (zG (zB (zB (wpAny_onRaise ?_)))));show wpAny _ _ (Builtin.SmallTypes.nextOf (.ref i2) >>= _) _ _ _
 refine zB (nextK_item (((h2.to fun o e=>e1.extBut _ _ D.a4 e).to fun o e=>e2.extBut _ _ (Ne.symm D.a10) e).to fun o e=>e3.extBut _ _ (Ne.symm D.a9) e) (((hl2.to fun o e=>e1.extBut _ _ o2.1 e).to fun o e=>e2.extBut _ _ o2.2.2.1 e).to fun o e=>e3.extBut _ _ o2.2.1 e) hy fun g4 n4 e4=>zG ?_)
 have t4:IsPair g4 to x b:=e4.extBut _ _ D.a9 t3
 refine zB (wpAny_seqItems t4 rfl (zB (wpAny_updateSeq_pair t4 fun g5 t5 e5=>?_)))
 replace t5:IsPair g5 to x y:=t5
 refine zB (wpAny_letGo (zG (zG (zB (wpAny_seqItems t5 rfl (zB (wpAny_newTuple ?_)))))))
 have sz:g5.objs.size=s.heap.objs.size:=by rw[e5.1,e4.1,e3.1,e2.1,e1.1]
 have z5:IsZip g5 z ti to .ellipsis:=e5.extBut _ _ (Ne.symm D.a2) (e4.extBut _ _ (Ne.symm D.a4) (e3.extBut _ _ (Ne.symm D.a2) (e2.extBut _ _ (Ne.symm D.a3) z1)))
 have k5:∀ c o,c≠z->c≠to->c≠i1->c≠i2->s.heap.get? c=some o->g5.get? c=some o:=fun c o c1 c2 c3 c4 e=>e5.extBut _ _ c2 (e4.extBut _ _ c4 (e3.extBut _ _ c2 (e2.extBut _ _ c3 (e1.extBut _ _ c1 e))))
 have n15:ItK b1 g5 i1 l1 (k+1):=((n2.to fun o e=>e3.extBut _ _ (Ne.symm D.a8) e).to fun o e=>e4.extBut _ _ D.a10 e).to fun o e=>e5.extBut _ _ (Ne.symm D.a8) e
 have n25:ItK b2 g5 i2 l2 (k+1):=n4.to fun o e=>e5.extBut _ _ (Ne.symm D.a9) e
 show wpAny _ _ (Builtin.SmallTypes.ownedTupleHandOut (.ref z) (.ref g5.objs.size) >>= _) _ _ _;refine zB ?_
 unfold Builtin.SmallTypes.ownedTupleHandOut
 have z6:IsZip (g5.push { cls:=.type "tuple",data:=.seq #[x,y] }) z ti to .ellipsis:=zC _ z5
 refine zB (wpAny_setField_rec z6 (by simp) fun g7 z7 e7=>?_)
 replace z7:IsZip g7 z ti to (rawInt g5.objs.size):=z7
 refine wpAny_setField_rec z7 (by simp) fun g8 z8 e8=>?_
 replace z8:IsZip g8 z ti to (rawInt g5.objs.size):=z8
 have up:∀ c o,c≠z->g5.get? c=some o->g8.get? c=some o:=fun c o c1 e=>e8.extBut _ _ c1 (e7.extBut _ _ c1 (zC _ e))
 have zlt:z<g5.objs.size:=zQ z5
 have p8:IsPair g8 g5.objs.size x y:=e8.extBut _ _ (zBL zlt) (e7.extBut _ _ (zBL zlt) (zV _ rfl))
 rw[sz]at z8 p8
 refine zG ⟨_,rfl,?_⟩
 show Q (.ref g5.objs.size) _;rw[sz]
 exact q g8 z8 (up _ _ D.a2 t5) (n15.to fun o e=>up _ o D.a3 e) (n25.to fun o e=>up _ o D.a4 e) p8 fun c o c1 c2 c3 c4 e=>up c o c1 (k5 c o c1 c2 c3 c4 e)
theorem zipK_end{b1 b2:Bool}{z ti to i1 i2 l1 l2:Addr}{k:Nat}{xs ys:Array Value}{a b:Value}{Q:Fin->Shared->Prop}(hh:A.handled=none)(D:ZA z ti to i1 i2)(o1:Off z to i1 i2 l1)(o2:Off z to i1 i2 l2)
  (hz:IsZip s.heap z ti to .none) (hTI:IsPair s.heap ti (.ref i1) (.ref i2)) (hTO:IsPair s.heap to a b) (h1:ItK b1 s.heap i1 l1 k) (h2:ItK b2 s.heap i2 l2 k) (hl1:SeqK b1 s.heap l1 xs) (hl2:SeqK b2 s.heap l2 ys) (he:xs[k]?=none\/ys[k]?=none)
  (q:∀ g e,(∀ c o,c≠z->c≠to->c≠i1->c≠i2->s.heap.get? c=some o->g.get? c=some o)->(∃ o,g.get? e=some o/\o.cls = .type "StopIteration")->E (.ref e) { s with heap:=g }) :
  wpAny (model prog w) A (Builtin.«zip.__next__» ⟨[.ref z],[]⟩) Q E s:=by
 show wpAny _ _ (field (.ref z) 2 >>= _) _ _ _;refine zB (wpAny_field hz rfl (x:=.bool false) rfl ?_)
 show wpAny _ _ (field (.ref z) 3 >>= _) _ _ _;refine zB (wpAny_field hz rfl (x:=.ref ti) rfl (zB (wpAny_seqItems hTI rfl ?_)))
 show wpAny _ _ (Builtin.SmallTypes.ownedTupleIsFree (.ref z) >>= _) _ _ _;refine zB ?_
 unfold Builtin.SmallTypes.ownedTupleIsFree;refine zB (wpAny_field hz rfl (x:=.none) rfl (zG ?_))
 simp only[if_true];refine zB (wpAny_rule (zB (wpAny_field hz rfl (x:=.ref to) rfl (zB (wpAny_setField_rec hz (by simp) fun g1 z1 e1=>?_)))))
 replace z1:IsZip g1 z ti to .ellipsis:=z1
 refine zB ?_;simp only[List.zipIdx_cons,List.zipIdx_nil,List.forIn_cons,List.forIn_nil]
 refine zB (zB (wpAny_onRaise ?_));show wpAny _ _ (Builtin.SmallTypes.nextOf (.ref i1) >>= _) _ _ _
 cases hx:xs[k]? with
 |none =>
  refine zB (nextK_end hh (h1.to fun o e=>e1.extBut _ _ D.a3 e) (hl1.to fun o e=>e1.extBut _ _ o1.1 e) hx fun g2 e e2 he=>?_)
  obtain⟨oe,hoe,hce⟩:=he
  have z2:IsZip g2 z ti to .ellipsis:=e2 _ _ (Ne.symm D.a3) z1
  have ez:e≠z:=fun x=>by subst x;rw[z2]at hoe;cases hoe;simp at hce
  refine wpAny_setField_rec z2 (by simp) fun g3 _ e3=>q g3 e (fun c o c1 _ c3 _ x=>e3.extBut _ _ c1 (e2 _ _ c3 (e1.extBut _ _ c1 x))) ⟨oe,e3.extBut _ _ ez hoe,hce⟩
 |some x =>
  have hy:ys[k]?=none:=by
   rcases he with h | h
   ·rw[hx]at h;cases h
   ·exact h
  refine zB (nextK_item (h1.to fun o e=>e1.extBut _ _ D.a3 e) (hl1.to fun o e=>e1.extBut _ _ o1.1 e) hx fun g2 n2 e2=>zG ?_)
  have t2:IsPair g2 to a b:=e2.extBut _ _ D.a8 (e1.extBut _ _ D.a2 hTO)
  refine zB (wpAny_seqItems t2 rfl (zB (wpAny_updateSeq_pair t2 fun g3 t3 e3=>zB (wpAny_letGo (zG (zB (zB (wpAny_onRaise ?_))))))))
  show wpAny _ _ (Builtin.SmallTypes.nextOf (.ref i2) >>= _) _ _ _
  refine zB (nextK_end hh (((h2.to fun o e=>e1.extBut _ _ D.a4 e).to fun o e=>e2.extBut _ _ (Ne.symm D.a10) e).to fun o e=>e3.extBut _ _ (Ne.symm D.a9) e) (((hl2.to fun o e=>e1.extBut _ _ o2.1 e).to fun o e=>e2.extBut _ _ o2.2.2.1 e).to fun o e=>e3.extBut _ _ o2.2.1 e) hy fun g4 e e4 he=>?_)
  obtain⟨oe,hoe,hce⟩:=he
  have z4:IsZip g4 z ti to .ellipsis:=e4 _ _ (Ne.symm D.a4) (e3.extBut _ _ (Ne.symm D.a2) (e2.extBut _ _ (Ne.symm D.a3) z1))
  have ez:e≠z:=fun x=>by subst x;rw[z4]at hoe;cases hoe;simp at hce
  refine wpAny_setField_rec z4 (by simp) fun g5 _ e5=>q g5 e (fun c o c1 c2 c3 c4 x=>e5.extBut _ _ c1 (e4 _ _ c4 (e3.extBut _ _ c2 (e2.extBut _ _ c3 (e1.extBut _ _ c1 x))))) ⟨oe,e5.extBut _ _ ez hoe,hce⟩
theorem pyIterK{b:Bool}{l:Addr}{xs:Array Value}{Q:Value->Shared->Prop}(h:SeqK b s.heap l xs)(q:Q (.ref s.heap.objs.size) { s with heap:=s.heap.push (itO b l) }):wpAny (model prog w) A (pyIter (.ref l)) Q E s:=by
 cases b
 ·exact wpAny_pyIter_list h q
 ·exact wpAny_pyIter_tuple h q
theorem ItK.new{b:Bool}{l:Addr}(g:Heap):ItK b (g.push (itO b l)) g.objs.size l 0:=by
 cases b
 ·exact(show Heap.IsListIter _ _ _ _ from⟨_,zV _ rfl,rfl,rfl⟩)
 ·exact(show Heap.IsTupleIter _ _ _ _ from⟨_,zV _ rfl,rfl,rfl⟩)
noncomputable abbrev zK2(g:Heap)(b1 b2:Bool)(l1 l2:Addr):Heap:=(g.push (itO b1 l1)).push (itO b2 l2)
noncomputable abbrev zK3(g:Heap)(b1 b2:Bool)(l1 l2:Addr):Heap:=(zK2 g b1 b2 l1 l2).push { cls:=.type "tuple",data:=.seq #[.ref g.objs.size,.ref (g.push (itO b1 l1)).objs.size] }
noncomputable abbrev zK4(g:Heap)(b1 b2:Bool)(l1 l2:Addr):Heap:=(zK3 g b1 b2 l1 l2).push { cls:=.type "tuple",data:=.seq #[.none,.none] }
noncomputable abbrev zK5(g:Heap)(b1 b2:Bool)(l1 l2:Addr):Heap:=(zK4 g b1 b2 l1 l2).push { cls:=.type "zip",data:=.fields #[.none,.bool false,.bool false,.ref (zK2 g b1 b2 l1 l2).objs.size,.ref (zK3 g b1 b2 l1 l2).objs.size] }
theorem zipK_new(b1 b2:Bool)(l1 l2:Addr)(xs ys:Array Value):Meets (Builtin.«zip.__new__» ⟨[.type "zip",.ref l1,.ref l2],[]⟩) (fun _ R s=>SeqK b1 s.heap l1 xs/\SeqK b2 s.heap l2 ys/\R (.ok (.ret (.ref (zK4 s.heap b1 b2 l1 l2).objs.size))) { s with heap:=zK5 s.heap b1 b2 l1 l2 }) :=
 .of_wp fun prog w A R s h=>by
  obtain⟨hp,g,d,tk,os⟩:=s
  obtain⟨hl1,hl2,h⟩:=h
  have hsub:=sub_zip
  have hL1:SeqK b1 (Shared.heap ⟨hp,g,d,tk,os⟩) l1 xs:=hl1
  have hL2:SeqK b2 (Shared.heap ⟨hp.push (itO b1 l1),g,d,tk,os⟩) l2 ys:=hl2.to fun o e=>zC _ e
  wp_walk using pyIterK hL1,pyIterK hL2
  exact⟨_,rfl,h⟩
end
end Srt
namespace L2
open PySem PySem.W PyProof.Rows Srt
noncomputable def SqB(b:Bool)(K:PySem.W.Frag)(H:Hp)(l:Addr)(xs:List V):Prop:=match b with
 |true=>SqT K H l xs
 |false=>SqL K H l xs
section
variable{X:Cx}{pins:List (Addr×Obj)}{σ:St}{H:Hp}{s:Shared}{h':Heap}
theorem Inv.seqB(I:Inv X pins σ H s){b:Bool}{l:Addr}{xs:List V}(h:SqB b X.K H l xs):∃ its:List Value,Vals xs its/\SeqK b s.heap l its.toArray/\xs.length<=sizeLine:=by
 cases b
 ·obtain⟨its,r,p,z⟩:=I.list h
  exact⟨its,r,p.isList,z⟩
 ·obtain⟨its,r,p,z⟩:=I.tuple h
  exact⟨its,r,p,z⟩
theorem Inv.seqB_inj(I:Inv X pins σ H s){b:Bool}{l:Addr}{xs ys:List V}(h:SqB b X.K H l xs)(h':SqB b X.K H l ys):xs=ys:=by
 cases b
 ·exact I.list_inj h h'
 ·exact I.tuple_inj h h'
theorem Inv.offB(I:Inv X pins σ H s){b:Bool}{l c:Addr}{xs:List V}(h:SqB b X.K H l xs)(f:FpOk X pins H c):l≠c:=by
 intro e
 subst e
 obtain⟨f0,_,_,f3,_,_⟩:=f
 have base:∀ o,X.K.lookup l=some o->False:=fun o hk=>by
  have eb:=I.ok.mod.kin l o hk
  rcases f3 with f3 | f3
  ·exact I.ok.noex l o eb f3
  ·exact absurd (zZ (zQ eb) (zAE I.ok.bsz f3)) (zAM _)
 cases b
 ·rcases(show SqL X.K H l xs from h)with(z |⟨o,z⟩) |⟨o,_,_,hk,_⟩
  ·rw[f0]at z;cases z
  ·rw[f0]at z;cases z
  ·exact base o hk
 ·rcases(show SqT X.K H l xs from h)with(z |⟨o,z⟩) |⟨o,_,_,hk,_⟩
  ·rw[f0]at z;cases z
  ·rw[f0]at z;cases z
  ·exact base o hk
theorem Inv.turnedL{t':Nat}{ch:List Addr}(I:Inv X pins σ H s)(hf:∀ b∈ch,FpOk X pins H b)(k:∀ b o,b∉ch->s.heap.get? b=some o->h'.get? b=some o):Inv X pins σ H { s with heap:=h',toks:=t' }:=by
 have nit:∀ b u,H b=some u->b∉ch:=fun b u e z=>by rw[(hf b z).1]at e;cases e
 have loc:X.env.locals∉ch:=fun z=>(hf _ z).2.1 rfl
 refine I.step (g':=s.gens) (d':=s.drawn) (ch:=ch) (fun b hb=>?_) (fun b o _ _ hc e _=>k b o hc e) (fun b o _ _ hc e _=>⟨o.slots,k b o hc e⟩) (fun _ _ _ _ n=>n) (fun b o hc e=>⟨o,k b o hc e⟩) (fun _ _ e=>e) (fun _ _ _ e=>e) (fun b ps e=>⟨#[],by rw[e];simp⟩) (fun m hm=>?_) (fun b u e=>?_) I.bare
 ·obtain⟨_,f1,_,f3,f4,f5⟩:=hf b hb
  exact⟨f3,f1,f4,f5⟩
 ·obtain⟨o,es,ep,ho,r⟩:=hm
  exact⟨o,es,ep,k _ o loc ho,r⟩
 ·refine(I.hok b u e).stay (fun c v hc q=>k c v ?_ q) (fun _ q=>q) fun _ _ q=>q
  rcases hc with z | z
  ·rw[z];exact nit b u e
  ·exact nit c _ z
theorem Inv.turnedN{t':Nat}{ch:List Addr}{a:Addr}{ob:HO}(I:Inv X pins σ H s)(hf:∀ b∈ch,FpOk X pins H b)(k:∀ b o,b∉ch->s.heap.get? b=some o->h'.get? b=some o)(ha:s.heap.objs.size<=a)(new:ObjOk X.prog X.w (upd H a ob) h' a ob) :
  Inv X pins σ (upd H a ob) { s with heap:=h',toks:=t' }:=by
 have hn:H a=none:=I.hok.fresh ha
 have nit:∀ b u,H b=some u->b∉ch:=fun b u e z=>by rw[(hf b z).1]at e;cases e
 have loc:X.env.locals∉ch:=fun z=>(hf _ z).2.1 rfl
 have old:∀ b o,s.heap.get? b=some o->b≠a:=fun b o e=>zAG (zZ (zQ e) ha)
 refine I.step (g':=s.gens) (d':=s.drawn) (ch:=ch) (fun b hb=>?_) (fun b o _ _ hc e _=>k b o hc e) (fun b o _ _ hc e _=>⟨o.slots,k b o hc e⟩) (fun b o _ e n=>by rw[upd_ne (old b o e)];exact n) (fun b o hc e=>⟨o,k b o hc e⟩)
  (fun b xs e=>by rw[upd_ne (ne_of_none e hn)];exact e) (fun b o u e=>by rw[upd_ne (ne_of_none e hn)];exact e) (fun b ps e=>⟨#[],by rw[upd_ne (ne_of_none e hn),e];simp⟩) (fun m hm=>?_) (fun b u e=>?_) I.bare
 ·obtain⟨_,f1,_,f3,f4,f5⟩:=hf b hb
  exact⟨f3,f1,f4,f5⟩
 ·obtain⟨o,es,ep,ho,r⟩:=hm
  exact⟨o,es,ep,k _ o loc ho,r⟩
 ·by_cases hb:b=a
  ·subst hb
   rw[yaa]at e
   cases e
   exact new
  ·rw[upd_ne hb]at e
   refine(I.hok b u e).stay (fun c v hc q=>k c v ?_ q) (fun c q=>by rw[upd_ne (ne_of_none q hn)];exact q) fun c xs q=>by rw[upd_ne (ne_of_none q hn)];exact q
   rcases hc with z | z
   ·rw[z];exact nit b u e
   ·exact nit c _ z
end
noncomputable def Itz(K:PySem.W.Frag)(b1 b2:Bool)(l1 l2:Addr):It :=
  ⟨fun i H=>∃ xs ys x y,SqB b1 K H l1 xs/\SqB b2 K H l2 ys/\xs[i]?=some x/\ys[i]?=some y,
   fun i H v H'=>∃ T x y,v = .ref T/\H T=none/\H'=upd H T (.tup [x,y])/\(∀ xs,SqB b1 K H l1 xs->xs[i]?=some x)/\∀ ys,SqB b2 K H l2 ys->ys[i]?=some y,
   fun i H=>∃ xs ys,SqB b1 K H l1 xs/\SqB b2 K H l2 ys/\(xs.length<=i\/ys.length<=i)⟩
theorem turn_zip{P:Program}{w:World}{K:PySem.W.Frag}{es:List Expr}{kk:Nat}{pos:Pos}(b1 b2:Bool)(z ti to i1 i2 l1 l2:Addr)(D:ZA z ti to i1 i2):Turn P w K (.Tuple es kk pos) (Itz K b1 b2 l1 l2) [z,ti,to,i1,i2] z
  (fun i h=>IsZip h z ti to .none/\IsPair h ti (.ref i1) (.ref i2)/\(∃ a b,IsPair h to a b)/\ItK b1 h i1 l1 i/\ItK b2 h i2 l2 i)where
 mem:=by simp
 obj:=fun i h st b hb=>by
  obtain⟨hz,hti,⟨a,c,hto⟩,h1,h2⟩:=st
  simp only[zW,List.not_mem_nil,or_false]at hb
  rcases hb with e | e | e | e | e
  ·rw[e];exact⟨_,hz,fun v z=>by cases z⟩
  ·rw[e];exact⟨_,hti,fun v z=>by cases z⟩
  ·rw[e];exact⟨_,hto,fun v z=>by cases z⟩
  ·rw[e];exact h1.lt
  ·rw[e];exact h2.lt
 keep:=fun i h h' st k=>by
  obtain⟨hz,hti,⟨a,c,hto⟩,h1,h2⟩:=st
  exact⟨k z (by simp) _ hz,k ti (by simp) _ hti,⟨a,c,k to (by simp) _ hto⟩,h1.to fun o e=>k i1 (by simp) o e,h2.to fun o e=>k i2 (by simp) o e⟩
 item:=by
  intro X hP hw hK hc i pins s σ H E I hf st hg
  subst hP hw hK
  obtain⟨hz,hti,⟨a,c,hto⟩,h1,h2⟩:=st
  obtain⟨xs,ys,x,y,q1,q2,hx,hy⟩:=hg
  obtain⟨us,r1,p1,_⟩:=I.seqB q1
  obtain⟨ws,r2,p2,_⟩:=I.seqB q2
  obtain⟨u,hu,ru⟩:=r1.get hx
  obtain⟨v,hv,rv⟩:=r2.get hy
  have off1:Off z to i1 i2 l1:=⟨I.offB q1 (hf z (by simp)),I.offB q1 (hf to (by simp)),I.offB q1 (hf i1 (by simp)),I.offB q1 (hf i2 (by simp))⟩
  have off2:Off z to i1 i2 l2:=⟨I.offB q2 (hf z (by simp)),I.offB q2 (hf to (by simp)),I.offB q2 (hf i1 (by simp)),I.offB q2 (hf i2 (by simp))⟩
  have hT:s.TypeIs (.ref z) "zip":=⟨_,hz,rfl⟩
  have hn:H s.heap.objs.size=none:=I.hok.fresh (zJ _)
  unfold pyNext
  refine zB (wpAny_attempt (wpAny_callSpecial?_slot (name:=Str.ofString "__next__") hT F.slot_zip_next (wpAny_call_entry F.slot_zip_next hT F.entry_zip_next
   (zipK_item D off1 off2 hz hti hto h1 h2 p1 p2 (x:=u) (y:=v) (by simpa using hu) (by simpa using hv) fun g z1 t1 n1 n2 pp kp=>zG ⟨_,rfl,?_⟩) (F.args_zip_next_1 _))))
  refine wpAny_letOwnedTupleGo_zip z1 fun g' z2 sb=>?_
  have zlt:z≠s.heap.objs.size:=zAG (zQ hz)
  have kp2:∀ b o,b∉[z,ti,to,i1,i2]->s.heap.get? b=some o->g'.get? b=some o:=fun b o nb e=>by
   simp only[zW,List.not_mem_nil,or_false,not_or]at nb
   exact sb.extBut _ _ nb.1 (kp b o nb.1 nb.2.2.1 nb.2.2.2.1 nb.2.2.2.2 e)
  have I2:Inv X pins σ (upd H s.heap.objs.size (.tup [x,y])) { s with heap:=g' }:=I.turnedN (t':=s.toks) (ch:=[z,ti,to,i1,i2]) (a:=s.heap.objs.size) (ob:=.tup [x,y]) hf kp2 (zJ _) (show ObjOk X.prog X.w _ g' _ (.tup [x,y])from⟨by show 2<=sizeLine;decide,[u,v],.cons ru (.cons rv .nil),⟨_,sb.extBut _ _ (Ne.symm zlt) pp,rfl,0,rfl⟩⟩)
  refine⟨.ref s.heap.objs.size,_,I2,rfl,⟨_,x,y,rfl,hn,rfl,fun xs' h=>by rw[I.seqB_inj h q1];exact hx,fun ys' h=>by rw[I.seqB_inj h q2];exact hy⟩,⟨z2,sb.extBut _ _ D.a1 (kp _ _ D.a1 D.a5 D.a6 D.a7 hti),⟨_,_,sb.extBut _ _ D.a2 t1⟩,n1.to fun o e=>sb.extBut _ _ D.a3 e,n2.to fun o e=>sb.extBut _ _ D.a4 e⟩,fun b hb=>?_⟩
  have bo:∃ o,s.heap.get? b=some o:=by
   simp only[zW,List.not_mem_nil,or_false]at hb
   rcases hb with e | e | e | e | e
   ·rw[e];exact⟨_,hz⟩
   ·rw[e];exact⟨_,hti⟩
   ·rw[e];exact⟨_,hto⟩
   ·rw[e];obtain⟨o,e,_⟩:=h1.lt;exact⟨o,e⟩
   ·rw[e];obtain⟨o,e,_⟩:=h2.lt;exact⟨o,e⟩
  obtain⟨o,e⟩:=bo
  rw[upd_ne (zAG (zQ e))]
  exact(hf b hb).1
 done:=by
  intro X hP hw hK hc i pins s σ H E I hf st hg
  subst hP hw hK
  obtain⟨hz,hti,⟨a,c,hto⟩,h1,h2⟩:=st
  obtain⟨xs,ys,q1,q2,he⟩:=hg
  obtain⟨us,r1,p1,_⟩:=I.seqB q1
  obtain⟨ws,r2,p2,_⟩:=I.seqB q2
  have e1:=r1.length
  have e2:=r2.length
  have off1:Off z to i1 i2 l1:=⟨I.offB q1 (hf z (by simp)),I.offB q1 (hf to (by simp)),I.offB q1 (hf i1 (by simp)),I.offB q1 (hf i2 (by simp))⟩
  have off2:Off z to i1 i2 l2:=⟨I.offB q2 (hf z (by simp)),I.offB q2 (hf to (by simp)),I.offB q2 (hf i1 (by simp)),I.offB q2 (hf i2 (by simp))⟩
  have hT:s.TypeIs (.ref z) "zip":=⟨_,hz,rfl⟩
  unfold pyNext
  refine zB (wpAny_attempt (wpAny_callSpecial?_slot (name:=Str.ofString "__next__") hT F.slot_zip_next (wpAny_call_entry F.slot_zip_next hT F.entry_zip_next (zipK_end (I.ok.hd hc) D off1 off2 hz hti hto h1 h2 p1 p2 ?_ fun g e kp he=>?_) (F.args_zip_next_1 _))))
  ·rcases he with h | h
   ·exact .inl (by simp;exact zh9 h (Eq.symm e1))
   ·exact .inr (by simp;exact zh9 h (Eq.symm e2))
  ·obtain⟨o,ho,hcl⟩:=he
   refine zB (wpAny_isInstance (T:="StopIteration") (b:=true) ⟨o,ho,hcl⟩ isSubtype_stop (zG ⟨rfl,?_⟩))
   refine I.turnedL (t':=s.toks) (ch:=[z,ti,to,i1,i2]) hf fun b o nb e=>?_
   simp only[zW,List.not_mem_nil,or_false,not_or]at nb
   exact kp b o nb.1 nb.2.2.1 nb.2.2.2.1 nb.2.2.2.2 e
 self:=fun _ _ _ _ _ st h=>wpAny_pyIter_zip st.1 h
theorem za_new(n:Addr):ZA (n+4) (n+2) (n+3) n (n+1)where
 a1:=zAG (zCQ (by decide) n)
 a2:=zAG (zCQ (by decide) n)
 a3:=zAG (Nat.lt_add_of_pos_right (by decide))
 a4:=zAG (zCQ (by decide) n)
 a5:=zAG (zCQ (by decide) n)
 a6:=zBL (Nat.lt_add_of_pos_right (by decide))
 a7:=zBL (zCQ (by decide) n)
 a8:=zBL (Nat.lt_add_of_pos_right (by decide))
 a9:=zBL (zCQ (by decide) n)
 a10:=zAG (Nat.lt_add_of_pos_right (by decide))
noncomputable def iZip(b1 b2:Bool)(K:PySem.W.Frag)(ta:TA):TI:=fun σ H R=>ta σ H fun vs H1=>∃ l1 l2,vs=[.ref l1,.ref l2]/\(∃ xs,SqB b1 K H1 l1 xs)/\(∃ ys,SqB b2 K H1 l2 ys)/\R (Itz K b1 b2 l1 l2) H1
theorem pi_zip{X:Cx}{es:List Expr}{kk:Nat}{tpos:Pos}(b1 b2:Bool){a b:Expr}{ta:TA}{p pos:Pos}(hg:Gl X "zip")(hm:X.mg "zip" = none)(ha:PA X [a,b] ta)(hs:starEach [a,b] X.env=[(false,eval a X.env),(false,eval b X.env)]:=by rfl)(hs2:starEach [b] X.env=[(false,eval b X.env)]:=by rfl) :
  PI X (.Tuple es kk tpos) (.Call (.Name "zip" p) [a,b] [] pos) (iZip b1 b2 X.K ta):=by
 intro pins s σ H R I h
 refine Call_ (ld_blt I hg hm boot_zip (PyProof.Rows.callWith_type1 (thn (ha pos pins s σ H _ I h) fun us s1 ⟨vs,H1,I1,r1,q1⟩=>?_) (by rw[hs,hs2]) (by rw[hs2];rfl)))
 obtain⟨l1,l2,e,⟨xs,q1⟩,⟨ys,q2⟩,q⟩:=q1
 subst e
 obtain⟨u,u',rfl,rx,ry⟩:=vals2 r1
 cases rx
 cases ry
 obtain⟨us,_,p1,_⟩:=I1.seqB q1
 obtain⟨ws,_,p2,_⟩:=I1.seqB q2
 have z1:(s1.heap.push (itO b1 l1)).objs.size=s1.heap.objs.size+1:=Heap.size_push ..
 have z2:(zK2 s1.heap b1 b2 l1 l2).objs.size=s1.heap.objs.size+2:=by rw[Heap.size_push,z1]
 have z3:(zK3 s1.heap b1 b2 l1 l2).objs.size=s1.heap.objs.size+3:=by rw[Heap.size_push,z2]
 have z4:(zK4 s1.heap b1 b2 l1 l2).objs.size=s1.heap.objs.size+4:=by rw[Heap.size_push,z3]
 have g5:(zK5 s1.heap b1 b2 l1 l2).get? (zK4 s1.heap b1 b2 l1 l2).objs.size=some _:=zV _ rfl
 have g4:(zK5 s1.heap b1 b2 l1 l2).get? (zK3 s1.heap b1 b2 l1 l2).objs.size=some _:=zC _ (zV _ rfl)
 have g3:(zK5 s1.heap b1 b2 l1 l2).get? (zK2 s1.heap b1 b2 l1 l2).objs.size=some _:=zC _ (zC _ (zV _ rfl))
 have g2:ItK b2 (zK5 s1.heap b1 b2 l1 l2) (s1.heap.push (itO b1 l1)).objs.size l2 0:=(ItK.new (b:=b2) (l:=l2) (s1.heap.push (itO b1 l1))).to fun o e=>zC _ (zC _ (zC _ e))
 have g1:ItK b1 (zK5 s1.heap b1 b2 l1 l2) s1.heap.objs.size l1 0:=(ItK.new (b:=b1) (l:=l1) s1.heap).to fun o e=>zC _ (zC _ (zC _ (zC _ e)))
 rw[z2,z3,z4]at g5
 rw[z1,z2]at g3
 rw[z3]at g4
 rw[z1]at g2
 refine callType_new F.called_zip (by decide) (F.typeCall_zip_2 _ _) (F.newCall_zip_2 _ _) (fun obj=>F.args_object_init_3 obj _ _) F.entry_zip_new (zipK_new b1 b2 l1 l2 us.toArray ws.toArray) ⟨p1,p2,?_⟩
 show _/\_
 rw[z4]
 have kp:∀ c o,s1.heap.get? c=some o->(zK5 s1.heap b1 b2 l1 l2).get? c=some o:=fun c o x=>zC _ (zC _ (zC _ (zC _ (zC _ x))))
 refine⟨⟨_,g5,rfl⟩,wpAny_pyIter_zip g5 ⟨s1.heap.objs.size+4,_,_,_,H1,rfl,I1.kept (t':=s1.toks) kp,turn_zip b1 b2 _ (s1.heap.objs.size+2) (s1.heap.objs.size+3) s1.heap.objs.size (s1.heap.objs.size+1) l1 l2 (za_new _),⟨g5,g3,⟨_,_,g4⟩,g1,g2⟩,fun b hb=>?_,q⟩⟩
 have le:s1.heap.objs.size<=b:=by
  simp only[zW,List.not_mem_nil,or_false]at hb
  rcases hb with e | e | e | e | e
  ·rw[e];exact zAA _ 4
  ·rw[e];exact zAA _ 2
  ·rw[e];exact zAA _ 3
  ·rw[e];exact zJ _
  ·rw[e];exact zAA _ 1
 exact I1.fpOk le (I1.hok.fresh le)
open PySem PySem.W PyProof.Rows Srt
section
variable{X:Cx}{pins:List (Addr×Obj)}{σ:St}{H:Hp}{s:Shared}{a:Addr}{y v:V}{u r:Value}{A:Around}{E:Value->Shared->Prop}
theorem d_set{H':Hp}{Q:Unit->Shared->Prop}(hu:A.units<cLine)(I:Inv X pins σ H s)(g:DPut H a y v H')(ry:RelV y u)(rv:RelV v r)(h:∀ s',Inv X pins σ H' s'->Q () s'):wpAny (model X.prog X.w) A (dictSet a u r) Q E s:=by
 rcases g with⟨kvs,k,e,ey,l,eH⟩ |⟨kvs,k,b,e,ey,eb,l,eH⟩
 ·subst ey eH
  obtain⟨z,hd,vs,rel,dd⟩:=dk_of I.hok e
  have hz:vs.length<=sizeLine:=by rw[<- rel.length];exact z
  have hl:(putK kvs k v).length<=sizeLine:=by have:=length_putK kvs k v;lia
  refine wpAny_dictSet_pairs (hsz:=hz) (kV_is ry) dd fun h' dd' hs=>h _ ?_
  have he:∃ q,h'.get? a=some q:=let ⟨q,_,_,hq,_⟩:=dd';⟨q,hq⟩
  exact d_write I (by rw[e];exact True.intro) hs he (dk_new hl hd (rel.put k rv) dd')
 ·subst ey eH
  cases(show u=Value.ref b from ry)
  obtain⟨z,hd,xs,rel,dd⟩:=dt_of I.hok e
  have hz:xs.length<=sizeLine:=by rw[<- Paired.length rel];exact z
  have hl:(putK kvs k v).length<=sizeLine:=by have:=length_putK kvs k v;lia
  refine wpAny_dictSet_heap (hsz:=hz) (knd:=tupleKind (mixKind X.prog X.w)) hu (key_of I.hok eb) dd fun h' dd' hs=>h _ ?_
  obtain⟨q,es,ep,hq,h2,h3,h4,_,h5⟩:=dd'
  refine d_write I (by rw[e];exact True.intro) hs ⟨q,hq⟩ ⟨hl,hd,_,(rel.put k eb rv).keeps fun c ys ec=>?_,q,es,ep,hq,h2,h3,h4,h5⟩
  rw[upd_ne (ne_of ec e (fun z=>nomatch z))]
  exact ec
theorem Inv.track{D:Addr}{ob:HO}(I:Inv X pins σ H s)(f:FpOk X pins H D)(new:ObjOk X.prog X.w (upd H D ob) s.heap D ob):Inv X pins σ (upd H D ob) s:=by
 have hn:H D=none:=f.1
 have:=I.step (h':=s.heap) (H':=upd H D ob) (g':=s.gens) (t':=s.toks) (d':=s.drawn) (ch:=[D]) (fun b hb=>?_) (fun b o _ _ _ e _=>e) (fun b o _ _ _ e _=>⟨o.slots,e⟩) (fun b o nb _ n=>by
  rw[upd_ne (fun z=>nb (by simp[z]))];exact n) (fun b o _ e=>⟨o,e⟩) (fun b xs e=>by rw[upd_ne (ne_of_none e hn)];exact e) (fun b o u e=>by rw[upd_ne (ne_of_none e hn)];exact e) (fun b ps e=>⟨#[],by rw[upd_ne (ne_of_none e hn),e];simp⟩) (fun m hm=>hm) (fun b u e=>?_) I.bare
 ·exact this
 ·have e:b=D:=by simpa using hb
  subst e
  obtain⟨_,f1,_,f3,f4,f5⟩:=f
  exact⟨f3,f1,f4,f5⟩
 ·by_cases hb:b=D
  ·subst hb;rw[yaa]at e;cases e;exact new
  ·rw[upd_ne hb]at e
   exact(I.hok b u e).stay (fun c v _ q=>q) (fun c q=>by rw[upd_ne (ne_of_none q hn)];exact q) fun c xs q=>by rw[upd_ne (ne_of_none q hn)];exact q
end
section
variable{prog:Program}{w:World}{A:Around}{R:Result->Shared->Prop}{s:Shared}
theorem dcompLoop{kx vx target iter:Expr}{ifs:List Expr}{scope:Scope}{pos:Pos}{it:Value}{D:Addr}{env:Env}(I:Nat->Shared->Prop)
  (turn:∀ n s,I n s->wpAny (model prog w) A (pyNext it) (fun r s₁=>match r with
   |none=>R (.ok .next) s₁
   |some v=>wpAny (model prog w) A (letOwnedTupleGo target it v) (fun _ s₁'=>wpAny (model prog w) A (assign target env v) (fun _ s₂ =>
     wpAny (model prog w) A (forIn ifs true fun c r=>if r=true then do let ok <- isTrue c env (eval c env);pure (ForInStep.yield ok)else pure (ForInStep.yield r)) (fun ok s₃ =>
      if ok=true then wpAny (model prog w) A (eval kx env) (fun kv s₄=>wpAny (model prog w) A (eval vx env) (fun vv s₅=>wpAny (model prog w) A (dictSet D kv vv) (fun _ s₆=>∃ m,m<n/\I m s₆) (fun _ _=>False) s₅) (fun _ _=>False) s₄) (fun _ _=>False) s₃
      else ∃ m,m<n/\I m s₃) (fun _ _=>False) s₂) (fun _ _=>False) s₁') (fun _ _=>False) s₁) (fun _ _=>False) s)
  (n:Nat) (h:I n s):codeAny (model prog w) A (.compLoop (.DictComp kx vx [⟨target,iter,ifs,0⟩] scope pos) 0 it (.ref D) env) R s:=by
 refine codeAny_loop rfl I (fun n s hI=>?_) n h
 show wpAny _ A ((compTurn (.DictComp kx vx [⟨target,iter,ifs,0⟩] scope pos) 0 it (.ref D) env).onRaise (fun x=>do noteFrame x env;theTreesLotGoes x)) _ _ s
 refine wpAny_noted ?_
 rw[compTurn_dict];refine zB (wpAny_standAt (zB (wpAny_mono (turn n s hI) (fun r s₁ h₁=>?_) fun _ _ h'=>h'.elim)))
 cases r with
 |none=>exact zG h₁
 |some v =>
  refine zB (wpAny_mono h₁ (fun _ s₁' h₁'=>?_) fun _ _ h'=>h'.elim);refine zB (wpAny_mono h₁' (fun _ s₂ h₂=>zB (wpAny_mono h₂ (fun ok s₃ h₃=>?_) fun _ _ h'=>h'.elim)) fun _ _ h'=>h'.elim)
  cases ok with
  |false=>exact zG ⟨rfl,h₃⟩
  |true =>
   exact zB (zB (wpAny_mono h₃ (fun kv s₄ h₄=>zB (wpAny_holding (wpAny_mono h₄ (fun vv s₅ h₅=>zB (wpAny_standAt (wpAny_holding (wpAny_mono h₅ (fun _ s₆ h₆=>zG ⟨rfl,h₆⟩) fun _ _ h'=>h'.elim)))) fun _ _ h'=>h'.elim))) fun _ _ h'=>h'.elim))
end
noncomputable def dcompTurns(J:It)(cap:List (Option Nat))(σ:St)(H1:Hp)(D:Addr)(Q:VK)(g:TG)(tc:TT)(tk tv:TE):Prop:=∃ (n:Nat) (P:Nat->Hp->Prop),P 0 H1 /\
 ∀ i H,i<=n->P i H->(J.stop i H/\Q (.ref D) H) \/
  (i<n/\J.go i H/\∀ x H',J.yld i H x H'->g x (capt cap σ) H' fun σ2 H2=>Kp (capt cap σ) σ2/\tc σ2 H2 fun b H3=>if b=true then tk σ2 H3 fun k H4=>tv σ2 H4 fun y H5=>∃ H6,DPut H5 D k y H6/\P (i+1) H6 else P (i+1) H3)
noncomputable def dEmp:Bool->HO
 |true=>.dT []
 |false=>.dK []
noncomputable def tDComp(t:Bool)(cap:List (Option Nat))(wi:TI)(g:TG)(tc:TT)(tk tv:TE):TE:=fun σ H Q=>wi σ H fun J H1=>∀ D,H1 D=none->dcompTurns J cap σ (upd H1 D (dEmp t)) D Q g tc tk tv
section
variable{X:Cx}{kx vx tg iter:Expr}{ifs:List Expr}{scope:Scope}{pos:Pos}{N':List Str}{cap:List (Option Nat)}{wi:TI}{g:TG}{tc:TT}{tk tv:TE}
theorem dcomp_run(t:Bool)(hu:X.A.units<cLine)(hc:X.calm=true)(S:CompScope N' cap X.N X.env.scope scope)(hi:PI X tg iter wi)(hg:∀ C s H fp,PG (cxIn X N' scope C s H fp) tg g)
  (ht:∀ C s H fp,PF (cxIn X N' scope C s H fp) ifs tc) (hk:∀ C s H fp,PE (cxIn X N' scope C s H fp) kx tk) (he:∀ C s H fp,PE (cxIn X N' scope C s H fp) vx tv)
  {pins:List (Addr×Obj)}{s:Shared}{σ:St}{H:Hp}{Q:VK} (I:Inv X pins σ H s) (h:tDComp t cap wi g tc tk tv σ H Q) :
  wpAny (model X.prog X.w) X.A (eval iter X.env) (fun x s₁=>wpAny (model X.prog X.w) X.A (pyIter x) (fun it s₂=>wpAny (model X.prog X.w) X.A newDict (fun acc s₃ =>
   wpAny (model X.prog X.w) X.A (newFunctionEnv scope X.env.globals (closCl X.env.cells scope.names []) [] X.env.qual none .none (some X.env)) (fun cenv s₄ =>
    codeAny (model X.prog X.w) X.A (.compStart (.DictComp kx vx [⟨tg,iter,ifs,0⟩] scope pos) 0 it acc { cenv with scope:=relabel scope X.env }) (CompEnd X pins σ Q acc cenv.locals) s₄) X.xe s₃) X.xe s₂) X.xe s₁) X.xe s:=by
 refine thn (hi pins s σ H _ I h) fun v s1 h1=>thn h1 fun itv s2 h2=>?_
 obtain⟨it,fp,tn,J,H2,e,I2,T,st2,f2,turns⟩:=h2
 subst e
 obtain⟨n,P,p0,turn⟩:=turns s2.heap.objs.size (I2.hok.fresh (zJ _))
 refine wpAny_newObj_type (wpAny_newFunctionEnv S.nocell (by intro y hy;simp at hy) (fun h₁ hns₁ hsb₁=>?_) S.kind)
 dsimp only at hns₁ hsb₁ ⊢
 generalize hHp:s2.heap.push { cls:=.type "dict",dict:=none,data:=.dict #[] } = Hq at hns₁ hsb₁ ⊢
 have hC:Hq.objs.size=s2.heap.objs.size+1:=by rw[<- hHp,Heap.size_push]
 have hDC:s2.heap.objs.size≠Hq.objs.size:=by rw[hC];exact zAG (Nat.lt_succ_self _)
 have hCle:s2.heap.objs.size<=Hq.objs.size:=by rw[hC];exact Nat.le_succ _
 have old:∀ b o,s2.heap.get? b=some o->h₁.get? b=some o:=fun b o e =>
  hsb₁.extBut b o (by rw[hC];exact zAG (zCG (zQ e))) (zC _ (hHp▸zC _ e))
 have hacc:h₁.get? s2.heap.objs.size=some { cls:=.type "dict",dict:=none,data:=.dict #[] }:=hsb₁.extBut _ _ hDC (zC _ (hHp▸zV _ rfl))
 have hfo:∀ b∈fp,∃ o,s2.heap.get? b=some o:=fun b hb=>let ⟨o,e,_⟩:=T.obj _ _ st2 b hb;⟨o,e⟩
 have st4:tn 0 h₁:=T.keep _ _ _ st2 fun b _ o e=>old b o e
 let D:Addr:=s2.heap.objs.size
 let C:Addr:=Hq.objs.size
 let Y:Cx:=cxIn X N' scope C s2 H2 fp
 have hDfp:D∉fp:=fun hb=>by
  obtain⟨o,e⟩:=hfo D hb
  exact zAM _ (zQ e)
 have stat:∀ {H':Hp},(∀ b∈fp,H' b=none)->∀ b∈fp,FpOk Y pins H' b:=fun {H'} hn b hb=>by
  obtain⟨f0,f1,fx,f3,f4,f5⟩:=f2 b hb
  obtain⟨o,e⟩:=hfo b hb
  refine⟨hn b hb,fun z=>?_,fun z=>?_,.inl hb,fun x c e=>f4 x c (closCl_sound _ _ (S.clos I2) (fun y c e=>by simp at e) x c e),f5⟩
  ·have h1:=zZ (zQ e) hCle
   have z:b=Hq.objs.size:=z
   rw[z]at h1
   exact zAM _ h1
  ·rcases zW.mp (I2.stkSub b z)with e | e
   ·exact f1 e
   ·exact fx e
 have loop:∀ s₃:Shared,s₃ = { s2 with heap:=h₁,toks:=s2.toks+([]:List (Str×Value)).length } ->
   codeAny (model X.prog X.w) X.A (.compLoop (.DictComp kx vx [⟨tg,iter,ifs,0⟩] scope pos) 0 (.ref it) (.ref s2.heap.objs.size) (compEnvC scope (closCl X.env.cells scope.names []) Hq.objs.size X.env))
    (CompEnd X pins σ Q (.ref s2.heap.objs.size) Hq.objs.size) s₃:=by
  rintro s₃ rfl
  have inF:∀ {pl:List (Addr×Obj)}{p:Addr×Obj},p∈pl->p∈Y.pn++(pins++pl):=fun {pl p} hp=>zL _ (zL _ hp)
  refine dcompLoop (fun m s'=>∃ i H',m=n-i/\i<=n/\Inv Y pins (capt cap σ) H' s'/\tn i s'.heap/\(∀ b∈fp,H' b=none)/\P i H') ?_ n ?_
  ·rintro m s3 ⟨i,H3,rfl,hin,I3,st3,fr3,p3⟩
   rcases turn i H3 hin p3 with⟨stop,q⟩ |⟨hlt,go,step⟩
   ·refine thn (T.done Y rfl rfl rfl hc i _ s3 _ H3 (fun _ _=>False) I3 (stat fr3) st3 stop) fun r s4 ⟨hr,I4⟩=>?_
    subst hr
    have IX:Inv X pins σ H3 s4:=I2.call' (ch:=fp) I4.os I4.base I4.hok I4.bare fun b hb=>by
     obtain⟨f0,f1,fx,f3,f4,f5⟩:=f2 b hb
     exact⟨f3,f1,f4,f5⟩
    obtain⟨m',hm',_⟩:=I4.loc
    exact⟨.ref D,_,IX,rfl,q,⟨m',hm'⟩,I2.fpOk hCle I4.free⟩
   ·refine thn (T.item Y rfl rfl rfl hc i _ s3 _ H3 (fun _ _=>False) I3 (stat fr3) st3 go) fun r s4 ⟨u,hr,h4⟩=>?_
    subst hr
    refine thn h4 fun _ s5 ⟨x,H5,I5,r5,y5,st5,fr5⟩=>?_
    have I5':=I5.pinned (stat fr5) (T.obj _ _ st5)
    refine thn (hg C s2 H2 fp _ s5 _ H5 x u _ I5' r5 (step x H5 y5)) fun _ s6 ⟨σ6,H6,I6,kp,q6⟩=>?_
    refine thn (ht C s2 H2 fp _ s6 σ6 H6 _ I6 q6) fun b s7 ⟨H7,I7,q7⟩=>?_
    cases b with
    |false =>
     rw[if_neg zT]at q7 ⊢
     refine⟨n-(i+1),zBH n i hlt,i+1,H7,rfl,hlt,I7.unpinned.weak kp.length kp.get,?_,fun b hb=>?_,q7⟩
     ·exact T.keep _ _ _ st5 fun b hb o e=>(I7.pin (b,o) (inF (mem_pinsAt hb e))).1
     ·obtain⟨o,e,d⟩:=T.obj _ _ st5 b hb
      exact(I7.pin (b,o) (inF (mem_pinsAt hb e))).2.1
    |true =>
     rw[if_pos rfl]at q7 ⊢
     refine thn (hk C s2 H2 fp _ s7 σ6 H7 _ I7 q7) fun kv s8 ⟨k,H8,I8,r8,q8⟩=>thn (he C s2 H2 fp _ s8 σ6 H8 _ I8 q8) fun yv s9 ⟨y,H9,I9,r9,H10,dp,q9⟩=>?_
     refine d_set (X:=Y) hu I9 dp r8 r9 fun s10 I10=>?_
     refine⟨n-(i+1),zBH n i hlt,i+1,H10,rfl,hlt,I10.unpinned.weak kp.length kp.get,?_,fun b hb=>?_,q9⟩
     ·exact T.keep _ _ _ st5 fun b hb o e=>(I10.pin (b,o) (inF (mem_pinsAt hb e))).1
     ·obtain⟨o,e,d⟩:=T.obj _ _ st5 b hb
      exact(I10.pin (b,o) (inF (mem_pinsAt hb e))).2.1
  ·have I4:=cxIn_inv (s4:={ s2 with heap:=h₁,toks:=s2.toks+([]:List (Str×Value)).length }) S I2 hCle f2 hfo rfl rfl old hns₁ hacc (zJ _) hDC fun v z=>by cases z
   obtain⟨_,pD1,pD2,pD3,_⟩:=I4.pin (D,{ cls:=.type "dict",dict:=none,data:=.dict #[] }) (zL _ (zL _ (zH.mpr rfl)))
   have I5:Inv Y pins (capt cap σ) H2 { s2 with heap:=h₁,toks:=s2.toks+([]:List (Str×Value)).length }:=I4.pins_of fun p hp=>I4.pin p (zL _ (zAQ _ hp))
   have fD:FpOk Y pins H2 D:=⟨pD1,pD2,pD3,.inr (zJ _),fun x c e z=>by
    obtain⟨v,q⟩:=I2.cell x c (closCl_sound _ _ (S.clos I2) (fun y c e=>by simp at e) x c e)
    have h1:=q.lt
    rw[show c=s2.heap.objs.size from z]at h1
    exact zAM _ h1,fun p hp z=>by
    have h1:=zQ (I2.pin p hp).1
    rw[show p.1=s2.heap.objs.size from z]at h1
    exact zAM _ h1⟩
   have nsys:(D == sysModules)=false:=by
    have:=I2.big
    exact zBU.mpr fun z=>by
     have e:D=sysModules:=by simpa using z
     have h1:sysModules<D:=this
     rw[<- e]at h1
     exact zAM _ h1
   have new:ObjOk X.prog X.w (upd H2 D (dEmp t)) h₁ D (dEmp t):=by
    cases t
    ·exact⟨zAT _,nsys,[],.nil,_,#[],0,hacc,⟨rfl,rfl,rfl⟩,rfl,fun e he=>by simp at he,.nil,zCN⟩
    ·exact⟨zAT _,nsys,[],.nil,_,#[],0,hacc,⟨rfl,rfl,rfl⟩,rfl,rfl,zCN⟩
   refine⟨0,upd H2 D (dEmp t),rfl,zAT _,I5.track fD new,st4,fun b hb=>?_,p0⟩
   rw[upd_ne (fun z=>hDfp (by rw[<- z];exact hb))]
   exact(f2 b hb).1
 exact codeAny_compStart_dict (loop _ rfl) (T.self X.A 0 _ _ _ st4 (loop _ rfl))
theorem pe_dcomp(t:Bool)(hu:X.A.units<cLine)(hc:X.calm=true)(S:CompScope N' cap X.N X.env.scope scope)(hi:PI X tg iter wi)(hg:∀ C s H fp,PG (cxIn X N' scope C s H fp) tg g)
  (ht:∀ C s H fp,PF (cxIn X N' scope C s H fp) ifs tc) (hk:∀ C s H fp,PE (cxIn X N' scope C s H fp) kx tk) (he:∀ C s H fp,PE (cxIn X N' scope C s H fp) vx tv)
  (hs:∀ x,foldedSetIterable iter X.env x=pure x:=by intro _;rfl):PE X (.DictComp kx vx [⟨tg,iter,ifs,0⟩] scope pos) (tDComp t cap wi g tc tk tv):=by
 intro pins s σ H Q I h
 rw[arm_eval_DictComp]
 refine wpAny_comprehension_free (use:=none) rfl hs (closureFor_cells (S.clos I)) S.kind S.loc (thn (dcomp_run (pos:=pos) t hu hc S hi hg ht hk he I h) fun x s1 h1=>thn h1 fun it s2 h2=>thn h2 fun acc s3 h3=>thn h3 fun cenv s4 h4=>?_)
 refine codeAny_mono h4 fun r s' hr=>?_
 cases r with
 |error x=>exact hr.elim
 |ok f =>
  obtain⟨v,H',I',rv,q,⟨m,hn⟩,f0,f1,f2,f3,f4,f5⟩:=hr
  refine⟨m,hn,fun h' sb=>⟨v,H',I'.turned (it:=cenv.locals) (t':=s'.toks) (fun b o hb e=>(sb.2 b hb).trans e) f0 f1 f3 f4 f5,rv,q⟩⟩
end
open PySem PySem.W PyProof.Rows Srt
section
variable{X:Cx}
variable{a b c d:Expr}{ta tb tc td:TE}{pos:Pos}
theorem eqT{A:Around}{s:Shared}{p q:Addr}{ks ns:List Int}(hu:A.units<cLine)(x:TupI s.heap (.ref p) ks)(y:TupI s.heap (.ref q) ns):SeqAt.EqAt A s (.ref p) (.ref q) (decide (ks=ns)):=by
 by_cases e:p=q
 ·subst e
  rw[x.inj y,decide_eq_true rfl]
  exact SeqAt.EqAt.same _
 ·obtain⟨a,o,its,n,e1,g1,c1,d1,p1⟩:=x
  obtain⟨a',o',its',n',e2,g2,c2,d2,p2⟩:=y
  cases e1
  cases e2
  have l1:ks.length=its.size:=by rw[p1.length];simp
  have l2:ns.length=its'.size:=by rw[p2.length];simp
  have at1:∀ {ks:List Int}{us:List Value} (_:IntsV ks us) (j:Nat) (h:j<us.length) (h2:j<ks.length),∃ t,us[j]=Value.int ks[j] t:=by
   intro ks us hp
   induction hp with
   |nil=>intro j h;simp at h
   |cons r _ ih =>
    intro j h h2
    cases j with
    |zero=>exact r
    |succ j=>exact ih j (by simpa using h) (by simpa using h2)
  refine SeqAt.EqAt.of_refs e ?_
  have key:=SeqAt.RcAt.tuples (A:=A) (s:=s) (e:=fun j=>decide (ks[j]?=ns[j]?)) (show s.heap.IsTuple p its from⟨o,g1,c1,n,d1⟩) (show s.heap.IsTuple q its' from⟨o',g2,c2,n',d2⟩) hu fun j h1 h2=>by
   obtain⟨t,q1⟩:=at1 p1 j (by simpa using h1) (by exact zh8 h1 l1)
   obtain⟨t',q2⟩:=at1 p2 j (by simpa using h2) (by exact zh8 h2 l2)
   have q1':its[j]=Value.int (ks[j]'(by exact zh8 h1 l1)) t:=by rw[<- q1];simp
   have q2':its'[j]=Value.int (ns[j]'(by exact zh8 h2 l2)) t':=by rw[<- q2];simp
   rw[q1',q2']
   have e:decide (ks[j]?=ns[j]?)=(ks[j]'(by exact zh8 h1 l1) == ns[j]'(by exact zh8 h2 l2)):=by
    rw[zE (by exact zh8 h1 l1),zE (by exact zh8 h2 l2),Bool.beq_eq_decide_eq]
    simp
   rw[e]
   exact SeqAt.EqAt.int_int _ _ _ _
  have fin:((List.range (min its.size its'.size)).all (fun j=>decide (ks[j]?=ns[j]?)) && its.size == its'.size)=decide (ks=ns):=by
   rw[zCO,zCC,List.all_eq_true,decide_eq_true_eq,beq_iff_eq]
   constructor
   ·rintro⟨h1,h2⟩
    apply List.ext_getElem?
    intro i
    by_cases hi:i<ks.length
    ·exact of_decide_eq_true (h1 i (zBG.mpr (by lia)))
    ·rw[zCJ (by exact zj3 hi),zCJ (by lia)]
   ·rintro rfl
    exact⟨fun i _=>decide_eq_true rfl,by lia⟩
  rw[fin]at key
  exact key
end
open PySem PySem.W PyProof.Rows Srt
noncomputable abbrev TupsAt(H:Hp)(as:List Addr)(ks:List (List Int)):Prop:=Paired (fun a k=>H a=some (.tup (List.map V.int k))) as ks
section
variable{X:Cx}
theorem tups_len{H:Hp}{as:List Addr}{ks:List (List Int)}(h:TupsAt H as ks):as.length=ks.length:=Paired.length h
theorem tups_at{H:Hp}:∀ {as:List Addr}{ks:List (List Int)},TupsAt H as ks->∀ (i:Nat) (h1:i<as.length) (h2:i<ks.length),H as[i]=some (.tup (List.map V.int ks[i])):=by
 intro as ks h
 induction h with
 |nil=>intro i h1;exact absurd h1 (Nat.not_lt_zero _)
 |cons h t ih =>
  intro i h1 h2
  cases i with
  |zero=>exact h
  |succ i=>exact ih i (zBS h1) (zBS h2)
end
open PySem PyProof.Rows
section
variable{K:PySem.W.Frag}{a:Addr}{xs:List V}{g:TG}{tc:TT}{te:TE}{cap:List (Option Nat)}{σ:St}{H1:Hp}{Q:VK}
theorem comp_tup(P:Nat->List V->Hp->Prop)(hz:xs.length<=sizeLine)(p0:P 0 [] H1)(hl:∀ i ys H,i<=xs.length->P i ys H->SqT K H a xs)
  (hs:∀ i x ys H,xs[i]?=some x->P i ys H->g x (capt cap σ) H fun σ2 H2=>Kp (capt cap σ) σ2/\tc σ2 H2 fun b H3=>if b=true then te σ2 H3 fun y H4=>P (i+1) (ys++[y]) H4 else P (i+1) ys H3)
  (hd:∀ ys H,ys.length<=xs.length->P xs.length ys H->∀ D,H D=none->Q (.ref D) (upd H D (.lst ys))):compTurns (Itt K a) cap σ H1 Q g tc te:=by
 refine⟨xs.length,P,hz,p0,fun i ys H yl il p=>?_⟩
 have q:=hl i ys H il p
 by_cases hlt:i<xs.length
 ·refine .inr ⟨hlt,⟨xs,xs[i],q,by simp[hlt]⟩,fun x H' y=>?_⟩
  obtain⟨e,y⟩:=y
  subst e
  exact hs i x ys _ (y xs q) p
 ·have e:i=xs.length:=by exact zj7 il hlt
  subst e
  exact .inl ⟨⟨xs,q,zJ _⟩,hd ys H yl p⟩
theorem comp_list(P:Nat->List V->Hp->Prop)(hz:xs.length<=sizeLine)(p0:P 0 [] H1)(hl:∀ i ys H,i<=xs.length->P i ys H->SqL K H a xs)
  (hs:∀ i x ys H,xs[i]?=some x->P i ys H->g x (capt cap σ) H fun σ2 H2=>Kp (capt cap σ) σ2/\tc σ2 H2 fun b H3=>if b=true then te σ2 H3 fun y H4=>P (i+1) (ys++[y]) H4 else P (i+1) ys H3)
  (hd:∀ ys H,ys.length<=xs.length->P xs.length ys H->∀ D,H D=none->Q (.ref D) (upd H D (.lst ys))):compTurns (Itl K a) cap σ H1 Q g tc te:=by
 refine⟨xs.length,P,hz,p0,fun i ys H yl il p=>?_⟩
 have q:=hl i ys H il p
 by_cases hlt:i<xs.length
 ·refine .inr ⟨hlt,⟨xs,xs[i],q,by simp[hlt]⟩,fun x H' y=>?_⟩
  obtain⟨e,y⟩:=y
  subst e
  exact hs i x ys _ (y xs q) p
 ·have e:i=xs.length:=by exact zj7 il hlt
  subst e
  exact .inl ⟨⟨xs,q,zJ _⟩,hd ys H yl p⟩
theorem comp_range{lo:Int}{n:Nat}(P:Nat->List V->Hp->Prop)(hz:n<=sizeLine)(p0:P 0 [] H1)
  (hs:∀ i ys H,i<n->P i ys H->g (.int (lo+i)) (capt cap σ) H fun σ2 H2=>Kp (capt cap σ) σ2/\tc σ2 H2 fun b H3=>if b=true then te σ2 H3 fun y H4=>P (i+1) (ys++[y]) H4 else P (i+1) ys H3)
  (hd:∀ ys H,ys.length<=n->P n ys H->∀ D,H D=none->Q (.ref D) (upd H D (.lst ys))):compTurns (Itr lo n) cap σ H1 Q g tc te:=by
 refine⟨n,P,hz,p0,fun i ys H yl il p=>?_⟩
 by_cases hlt:i<n
 ·refine .inr ⟨hlt,hlt,fun x H' y=>?_⟩
  obtain⟨e,y⟩:=y
  subst e y
  exact hs i ys _ hlt p
 ·have e:i=n:=by exact zj7 il hlt
  subst e
  exact .inl ⟨zJ _,hd ys H yl p⟩
end
noncomputable def capB(cap:List (Option Nat))(N' N:List Str)(names:List (Str×NameKind)):Bool:=(List.range cap.length).all fun j=>match cap[j]? with
 |some (some i)=>(match N'[j]? with
  |some x=>decide (N[i]?=some x/\names.lookup x=some .free)
  |none=>false)
 | _=>true
theorem capB_ok{cap:List (Option Nat)}{N' N:List Str}{names:List (Str×NameKind)}(h:capB cap N' N names=true):∀ j∈List.range cap.length,match cap[j]? with
  |some (some i)=>match N'[j]? with
   |some x=>N[i]?=some x/\names.lookup x=some .free
   |none=>False
  | _=>True:=by
 intro j hj
 have z:=List.all_eq_true.mp h j hj
 revert z
 cases e1:cap[j]? with
 |none=>intro _;trivial
 |some o =>
  cases o with
  |none=>intro _;trivial
  |some i =>
   cases e2:N'[j]? with
   |none =>
    intro z
    dsimp only at z
    exact absurd z zT
   |some x =>
    intro z
    dsimp only at z
    exact of_decide_eq_true z
theorem op_catTK{X:Cx}(K:PySem.W.Frag)(e:X.K=K):OpR X (binaryOp .Add) (rCatT K):=e▸op_catT
theorem ix_listK{X:Cx}(K:PySem.W.Frag)(e:X.K=K):IxR X (rIxL K):=e▸ix_list
theorem pg_tupK{X:Cx}{pos:Pos}(K:PySem.W.Frag)(e:X.K=K){es:List Expr}{k:Nat}{t:TGs}{n:Nat}(hc:X.calm=true)(h:PGs X es t)
  (hn:(assignEach es X.env).length=n) (hst:(assignEach es X.env).findIdx? (·.1)=none):PG X (.Tuple es k pos) (gTup K n t):=e▸pg_tup hc h hn hst
theorem Paired.at{α β:Type}{F:α->β->Prop}:∀ {l₁:List α}{l₂:List β},Paired F l₁ l₂->∀ (i:Nat) (h1:i<l₁.length) (h2:i<l₂.length),F l₁[i] l₂[i]:=by
 intro l ks h
 induction h with
 |nil=>intro i h1;exact absurd h1 (Nat.not_lt_zero _)
 |cons h t ih =>
  intro i h1 h2
  cases i with
  |zero=>exact h
  |succ i=>exact ih i (zBS h1) (zBS h2)
theorem Same.tupq{K:PySem.W.Frag}{H H':Hp}{a:Addr}{xs:List V}(e:Same H H')(h:SqT K H a xs):SqT K H' a xs:=by
 rcases h with(h |⟨o,h⟩) | h
 ·exact .inl (.inl (e _ _ h))
 ·exact .inl (.inr ⟨o,e _ _ h⟩)
 ·exact .inr h
theorem Same.new{q:Addr}{H:Hp}{o:HO}(h:H q=none):Same H (upd H q o):=fun b u e=>by rw[upd_ne (ne_of_none e h)];exact e
section
variable{K:PySem.W.Frag}{l1 l2:Addr}{xs ys:List V}{b1 b2:Bool}{g:TG}{tc:TT}{te:TE}{cap:List (Option Nat)}{σ:St}{H1:Hp}{Q:VK}
theorem comp_zip(P:Nat->List V->Hp->Prop)(hz:min xs.length ys.length<=sizeLine)(p0:P 0 [] H1)(hl:∀ i zs H,i<=min xs.length ys.length->P i zs H->SqB b1 K H l1 xs/\SqB b2 K H l2 ys)
  (hs:∀ i x y zs H T,xs[i]?=some x->ys[i]?=some y->P i zs H->H T=none->g (.ref T) (capt cap σ) (upd H T (.tup [x,y])) fun σ2 H2=>Kp (capt cap σ) σ2/\tc σ2 H2 fun b H3=>if b=true then te σ2 H3 fun y H4=>P (i+1) (zs++[y]) H4 else P (i+1) zs H3)
  (hd:∀ zs H,zs.length<=min xs.length ys.length->P (min xs.length ys.length) zs H->∀ D,H D=none->Q (.ref D) (upd H D (.lst zs))):compTurns (Itz K b1 b2 l1 l2) cap σ H1 Q g tc te:=by
 refine⟨min xs.length ys.length,P,hz,p0,fun i zs H yl il p=>?_⟩
 obtain⟨q1,q2⟩:=hl i zs H il p
 by_cases hlt:i<min xs.length ys.length
 ·have h1:i<xs.length:=by lia
  have h2:i<ys.length:=by omega
  refine .inr ⟨hlt,⟨xs,ys,xs[i],ys[i],q1,q2,by simp[h1],by simp[h2]⟩,fun v H' y=>?_⟩
  obtain⟨T,x,y,rfl,hT,rfl,f1,f2⟩:=y
  exact hs i x y zs _ T (f1 xs q1) (f2 ys q2) p hT
 ·have e:i=min xs.length ys.length:=by exact zj7 il hlt
  subst e
  exact .inl ⟨⟨xs,ys,q1,q2,by lia⟩,hd zs H yl p⟩
end
open PySem PySem.W PyProof.Rows
noncomputable def tVq(i:Nat):TE:=fun σ H Q=>match σ[i]? with
 |some (some v)=>Q v H
 | _=>False
theorem tVar_of{i:Nat}{σ:St}{H:Hp}{Q:VK}(h:tVq i σ H Q):tVar i σ H Q:=by
 unfold tVq at h
 split at h
 ·exact⟨_,by assumption,h⟩
 ·exact h.elim
section
variable{X:Cx}
theorem pvQ(i:Nat){x:Str}{pos:Pos}(hN:X.N[i]?=some x:=by rfl)(hv:Vis X.env.scope x:=by first | exact Or.inl rfl | exact Or.inr (Or.inl rfl) | exact Or.inr (Or.inr rfl))(hd:(x ==("__debug__":Str))=false:=by decide)
  (hcd:(x ==("__classdict__":Str))=false:=by decide):PE X (.Name x pos) (tVq i):=fun pins s σ H Q I h=>pv i hN hv hd hcd pins s σ H Q I (tVar_of h)
end
end L2
namespace K31
open PySem L2 PyProof.Rows
noncomputable def top(i:Nat):Stmt:=PySem.Challenge.pw_partedweb_k31_rounded_within_the_factor.main.body.getD i (.Pass ⟨0,0,0,0⟩)
noncomputable abbrev sCommonDivisor:Stmt:=top 1
noncomputable abbrev sFraction:Stmt:=top 2
noncomputable abbrev sIsLess:Stmt:=top 3
noncomputable abbrev sOverOne:Stmt:=top 4
noncomputable abbrev sTieWeights:Stmt:=top 6
noncomputable abbrev sWeightOf:Stmt:=top 7
noncomputable abbrev sWithout:Stmt:=top 8
noncomputable abbrev sBesideEach:Stmt:=top 9
noncomputable abbrev sHeadsOf:Stmt:=top 10
noncomputable abbrev sSpread:Stmt:=top 11
noncomputable abbrev sIsParting:Stmt:=top 13
noncomputable abbrev sCutBy:Stmt:=top 14
noncomputable abbrev sCostOf:Stmt:=top 16
noncomputable abbrev sApart:Stmt:=top 17
noncomputable abbrev sCostAt:Stmt:=top 18
noncomputable abbrev sOwnersBy:Stmt:=top 20
noncomputable abbrev sTaker:Stmt:=top 21
noncomputable abbrev sThresholds:Stmt:=top 22
noncomputable abbrev sRounded:Stmt:=top 23
noncomputable abbrev sOrdersFor:Stmt:=top 24
noncomputable abbrev sCell:Stmt:=top 26
noncomputable abbrev sBox:Stmt:=top 27
noncomputable abbrev sTake:Stmt:=top 28
noncomputable abbrev sMany:Stmt:=top 29
noncomputable abbrev sWeight:Stmt:=top 30
noncomputable abbrev sWeb:Stmt:=top 31
noncomputable abbrev sPosts:Stmt:=top 32
noncomputable abbrev sShared:Stmt:=top 33
noncomputable abbrev sFrac:Stmt:=top 34
noncomputable abbrev sPlus:Stmt:=top 35
noncomputable abbrev sTimes:Stmt:=top 36
noncomputable abbrev sLess:Stmt:=top 37
noncomputable abbrev sRow:Stmt:=top 38
noncomputable abbrev sShares:Stmt:=top 39
noncomputable abbrev sWorld:Stmt:=top 40
noncomputable abbrev sMiddle:Stmt:=top 41
noncomputable abbrev sOrderRight:Stmt:=top 42
noncomputable abbrev sLaw:Stmt:=top 43
noncomputable def Kept(p:Addr)(H H':Hp):Prop:=∀ b o,b≠p->H b=some o->H' b=some o
theorem Kept.refl{p:Addr}{H:Hp}:Kept p H H:=fun _ _ _ e=>e
theorem Kept.trans{p:Addr}{H H' H'':Hp}(a:Kept p H H')(b:Kept p H' H''):Kept p H H'':=fun c o n e=>b c o n (a c o n e)
theorem Kept.new{p q:Addr}{H:Hp}{o:HO}(h:H q=none):Kept p H (upd H q o):=fun b u _ e=>by rw[upd_ne (ne_of_none e h)];exact e
theorem Kept.at{p:Addr}{H:Hp}{o:HO}:Kept p H (upd H p o):=fun b u n e=>by rw[upd_ne n];exact e
noncomputable def BoxAt(H:Hp)(p:Addr)(N:Nat):Prop:=∃ a b c:Int,H p=some (.lst [.int a,.int b,.int c])/\0<=a/\0<=c/\c<=(N:Int)
theorem BoxAt.mono{H:Hp}{p:Addr}{N M:Nat}(x:BoxAt H p N)(h:N<=M):BoxAt H p M:=by
 obtain⟨a,b,c,e,h1,h2,h3⟩:=x
 exact⟨a,b,c,e,h1,h2,by lia⟩
theorem BoxAt.new{H:Hp}{p q:Addr}{N:Nat}{o:HO}(x:BoxAt H p N)(h:H q=none):BoxAt (upd H q o) p N:=by
 obtain⟨a,b,c,e,r⟩:=x
 exact⟨a,b,c,by rw[upd_ne (ne_of_none e h)];exact e,r⟩
theorem b01(b:Bool):-(2 ^ 64) <(if b=true then 1 else 0:Int)/\(if b=true then 1 else 0:Int)<2 ^ 64:=by cases b <;> decide
theorem b0(b:Bool):(0:Int)<=(if b=true then 1 else 0:Int):=by cases b <;> decide
inductive spCellI(K:PySem.W.Frag)(vs:List V)(H:Hp)(Q:VK):Prop where
 |mk (a:Addr) (ns:List Int) (k:Nat) (h1:vs=[.ref a,.int k]) (h2:SqL K H a (ns.map V.int)) (h3:∀ z,Q (.int z) H)
noncomputable def spCell(K:PySem.W.Frag):Sp:=fun vs H Q _=>spCellI K vs H Q
inductive spBoxI(K:PySem.W.Frag)(vs:List V)(H:Hp)(Q:VK):Prop where
 |mk (a:Addr) (ns:List Int) (k:Nat) (h1:vs=[.ref a,.int k]) (h2:SqL K H a (ns.map V.int)) (h3:∀ p H',H p=none->BoxAt H' p 0->Kept p H H'->Q (.ref p) H')
noncomputable def spBox(K:PySem.W.Frag):Sp:=fun vs H Q _=>spBoxI K vs H Q
inductive spTakeI(vs:List V)(H:Hp)(Q:VK):Prop where
 |mk (p:Addr) (m:Int) (N:Nat) (h1:vs=[.ref p,.int m]) (h2:BoxAt H p N) (h3:N<2 ^ 40) (h4:0<m) (h5:m<1073741824) (h6:∀ z H',0<=z->z<m->BoxAt H' p (N+1)->Kept p H H'->Q (.int z) H')
noncomputable def spTake:Sp:=fun vs H Q _=>spTakeI vs H Q
inductive spManyI(vs:List V)(H:Hp)(Q:VK):Prop where
 |mk (p:Addr) (l f m:Int) (N:Nat) (h1:vs=[.ref p,.int l,.int f,.int m]) (h2:BoxAt H p N) (h3:N+2<2 ^ 40) (h4:l<=f) (h5:7<=m) (h6:f-l<1000) (h7:m<1000) (h8:∀ z H',(l<=z/\z<=f)\/(7<=z/\z<=m)->BoxAt H' p (N+2)->Kept p H H'->Q (.int z) H')
noncomputable def spMany:Sp:=fun vs H Q _=>spManyI vs H Q
inductive spWeightI(vs:List V)(H:Hp)(Q:VK):Prop where
 |mk (p:Addr) (h:Nat) (N:Nat) (h1:vs=[.ref p,.int h]) (h2:h<4) (h3:BoxAt H p N) (h4:N+2<2 ^ 40) (h5:∀ z H',(1<=z/\z<=1073741824)->BoxAt H' p (N+2)->Kept p H H'->Q (.int z) H')
noncomputable def spWeight:Sp:=fun vs H Q _=>spWeightI vs H Q
structure Txt(mg:Str->Option Value):Prop where
 abs:mg "abs" = none
 int:mg "int" = none
 len:mg "len" = none
 range:mg "range" = none
 min:mg "min" = none
 max:mg "max" = none
 tuple:mg "tuple" = none
 sorted:mg "sorted" = none
 isinst:mg "isinstance" = none
 list:mg "list" = none
 str:mg "str" = none
 bool:mg "bool" = none
 sum:mg "sum" = none
section
variable{P:Program}{w:World}{K:PySem.W.Frag}{mg:Str->Option Value}{base:Heap}
theorem scCell:FnScope ["_law_script","_law_k"] ["_law_script","_law_k"] (defScope sCell):=⟨rfl,rfl,rfl,by decide +kernel,rfl,by decide +kernel,by decide +kernel⟩
theorem ok_cell{f:Addr}{fd:FuncData}(F:Fun K "_law_cell_at" "_law_cell_at" sCell f fd)(T:Txt mg):FnOk P w K mg base CX0 1 f fd ["_law_script","_law_k"] (spCell K):=by
 refine F.ok scCell (fun vs H Q E h=>?_) (fun cdv A outer s H vs Q E hr h=>?_)
 ·obtain⟨a,ns,k,rfl,_⟩:=h
  rfl
 ·obtain⟨a,ns,k,rfl,hS,q⟩:=h
  refine⟨_,yad (ps_if (pt_cmpR op_lt (pvQ 1) (pe_callB call_len_seq (by rfl) T.len PySem.boot_len (pa_cons (pvQ 0) yab)) (nomark _)) (pss_one (ps_ret (pe_ix ix_list (pvQ 0) (pvQ 1) (fun _ _=>rfl)))) pss_nil) (pss_one (ps_ret yae)),?_⟩
  refine⟨a,_,rfl,.inl hS,_,_,rfl,rfl,_,rfl,?_⟩
  refine ite2 (fun hk=>?_) (fun _=>?_)
  ·have hk':k<ns.length:=by
    have:=of_decide_eq_true hk
    rw[zA]at this
    exact zi3 this
   exact⟨a,_,_,_,rfl,rfl,hS,atI_nat (v:=V.int ns[k]) (by rw[zAB,zE hk'];rfl),q _⟩
  ·exact q _
theorem scBox:FnScope ["_law_script","_law_k","_law_cell"] ["_law_script","_law_k"] (defScope sBox):=⟨rfl,rfl,rfl,by decide +kernel,rfl,by decide +kernel,by decide +kernel⟩
theorem ok_box{f g:Addr}{fd gd:FuncData}(F:Fun K "_law_box" "_law_box" sBox f fd)(T:Txt mg)(G:Fun K "_law_cell_at" "_law_cell_at" sCell g gd)(mG:mg "_law_cell_at" = some (.ref g))(bG:Binds K gd ["_law_script","_law_k"] []):FnOk P w K mg base CX0 2 f fd ["_law_script","_law_k"] (spBox K):=by
 refine F.ok scBox (fun vs H Q E h=>?_) (fun cdv A outer s H vs Q E hr h=>?_)
 ·obtain⟨a,ns,k,rfl,_⟩:=h
  rfl
 ·obtain⟨a,ns,k,rfl,hS,q⟩:=h
  have GG:FnOk P w K mg base CX0 1 g gd ["_law_script","_law_k"] (spCell K):=ok_cell G T
  refine⟨_,yad (ps_set (i:=2) scBox.nd rfl (Or.inl rfl) (pe_call GG hr rfl mG G.kp bG .nil pass0 (pa_cons (pv 0) (pa_cons (pv 1) yab))))
   (pss_one (ps_ret (pe_lst (pa_cons (pe_op op_mul (pe_callB call_abs (by rfl) T.abs boot_abs (pa_cons (pv 2) yab)) (pe_callTy call_int1 (by rfl) T.int boot_int (pa_cons (pe_cmpR op_ge (pe_callB call_abs (by rfl) T.abs boot_abs (pa_cons (pv 2) yab)) (pe_op op_pow yae yae) (nomark _)) yab)))
    (pa_cons (pe_op op_add (pe_op op_add (pe_op op_mod (pv 2) yae) (pe_op op_mul yae (pv 1))) yae) (pa_cons yae yab)))))),?_⟩
  refine⟨_,rfl,_,rfl,a,ns,k,rfl,hS,fun z=>?_⟩
  refine⟨_,rfl,_,rfl,_,rfl,_,rfl,_,_,rfl,rfl,⟨by decide,by decide,by decide⟩,_,_,rfl,rfl,.inr ⟨_,rfl,_,_,rfl,rfl,.inr ?_,_,rfl,_,_,rfl,rfl,(by show(0:Int)<2305843009213693951;decide),_,rfl,_,_,rfl,rfl,.inl ⟨by decide,by decide⟩,_,_,rfl,rfl,_,_,rfl,rfl,(by show 3<=sizeLine;decide),fun p hp=>?_⟩⟩
  ·exact b01 _
  ·refine q p _ hp ⟨_,_,_,yaa,?_,by decide,by decide⟩ (Kept.new hp)
   refine Int.mul_nonneg ?_ ?_
   ·split <;> lia
   ·exact b0 _
theorem scTake:FnScope ["_law_box_here","_law_many_here","_law_found","_law_once","_law_twice"] ["_law_box_here","_law_many_here"] (defScope sTake):=⟨rfl,rfl,rfl,by decide +kernel,rfl,by decide +kernel,by decide +kernel⟩
theorem ok_take{f:Addr}{fd:FuncData}(F:Fun K "_law_take" "_law_take" sTake f fd):FnOk P w K mg base CX0 1 f fd ["_law_box_here","_law_many_here"] spTake:=by
 refine F.ok scTake (fun vs H Q E h=>?_) (fun cdv A outer s H vs Q E hr h=>?_)
 ·obtain⟨p,m,N,rfl,_⟩:=h
  rfl
 ·obtain⟨p,m,N,rfl,⟨a,b,c,hp,a0,c0,cN⟩,hN,m0,m1,q⟩:=h
  have hS:∀ {x y z:Int}{G:Hp},G p=some (.lst [.int x,.int y,.int z])->SqL K G p [.int x,.int y,.int z]:=fun e=>SqL.of e
  refine⟨_,yad (ps_if (pt_cmpR op_gt (pe_ix ix_list (pvQ 0) yae (fun _ _=>rfl)) yae (nomark _))
    (yad (ps_set (i:=2) scTake.nd rfl (Or.inl rfl) (pe_op op_mod (pe_ix ix_list (pvQ 0) yae (fun _ _=>rfl)) (pvQ 1)))
     (yad (ps_asg (pe_op op_fdiv (pe_ix ix_list (pvQ 0) yae (fun _ _=>rfl)) (pvQ 1)) (pg_sub (pvQ 0) yae set_list))
     (pss_one (ps_ret (pvQ 2))))) pss_nil)
   (yad (ps_asg (pe_op op_add (pe_ix ix_list (pvQ 0) yae (fun _ _=>rfl)) yae) (pg_sub (pvQ 0) yae set_list))
   (yad (ps_set (i:=3) scTake.nd rfl (Or.inl rfl) (pe_op op_mod (pe_op op_mul (pe_op op_add (pe_ix ix_list (pvQ 0) yae (fun _ _=>rfl)) (pe_op op_mul yae (pe_ix ix_list (pvQ 0) yae (fun _ _=>rfl)))) (pe_op op_add yae (pe_ix ix_list (pvQ 0) yae (fun _ _=>rfl)))) yae))
   (yad (ps_set (i:=4) scTake.nd rfl (Or.inl rfl) (pe_op op_mod (pe_op op_mul (pe_op op_add (pvQ 3) (pe_ix ix_list (pvQ 0) yae (fun _ _=>rfl))) (pe_op op_add (pe_op op_mod (pvQ 3) yae) yae)) yae))
   (pss_one (ps_ret (pe_op op_mod (pe_op op_fdiv (pe_op op_mod (pe_op op_add (pe_op op_mul (pvQ 4) yae) (pvQ 3)) yae) yae) (pvQ 1))))))),?_⟩
  refine⟨p,_,_,_,rfl,rfl,hS hp,rfl,_,_,rfl,rfl,_,rfl,?_⟩
  refine ite2 (fun hk=>?_) (fun _=>?_)
  ·have pos:0<a:=of_decide_eq_true hk
   refine⟨p,_,_,_,rfl,rfl,hS hp,rfl,_,_,rfl,rfl,m0,?_⟩
   refine⟨p,_,_,_,rfl,rfl,hS hp,rfl,_,_,rfl,rfl,⟨m0,m1⟩,p,_,_,_,rfl,rfl,hp,rfl,?_⟩
   refine q _ _ (Int.emod_nonneg _ (by lia)) (Int.emod_lt_of_pos _ m0) ⟨_,_,_,yaa,Int.ediv_nonneg a0 (by lia),c0,by lia⟩ Kept.at
  ·refine⟨p,_,_,_,rfl,rfl,hS hp,rfl,_,_,rfl,rfl,p,_,_,_,rfl,rfl,hp,rfl,?_⟩
   have g1:(upd H p (.lst [.int a,.int b,.int (c+1)])) p=some (.lst [.int a,.int b,.int (c+1)]):=yaa
   refine⟨p,_,_,_,rfl,rfl,hS g1,rfl,p,_,_,_,rfl,rfl,hS g1,rfl,_,_,rfl,rfl,.inl ⟨by decide,by decide⟩,_,_,rfl,rfl,p,_,_,_,rfl,rfl,hS g1,rfl,_,_,rfl,rfl,_,_,rfl,rfl,.inr ⟨by lia,by lia⟩,_,_,rfl,rfl,(by show(0:Int)<2147483647;decide),?_⟩
   generalize ho:(b+48271 * (c+1)) * (39373+(c+1)) % 2147483647=once
   have o0:0<=once:=by rw[<- ho];exact Int.emod_nonneg _ (by decide)
   have o1:once<2147483647:=by rw[<- ho];exact Int.emod_lt_of_pos _ (by decide)
   refine⟨p,_,_,_,rfl,rfl,hS g1,rfl,_,_,rfl,rfl,_,_,rfl,rfl,(by show(0:Int)<40009;decide),_,_,rfl,rfl,_,_,rfl,rfl,.inl ⟨by lia,by lia⟩,_,_,rfl,rfl,(by show(0:Int)<2147483629;decide),?_⟩
   generalize ht:(once+(c+1)) * (once % 40009+7) % 2147483629=twice
   have t0:0<=twice:=by rw[<- ht];exact Int.emod_nonneg _ (by decide)
   have t1:twice<2147483629:=by rw[<- ht];exact Int.emod_lt_of_pos _ (by decide)
   refine⟨_,_,rfl,rfl,.inl ⟨by lia,by lia⟩,_,_,rfl,rfl,_,_,rfl,rfl,(by show(0:Int)<2147483587;decide),_,_,rfl,rfl,⟨by decide,by decide⟩,_,_,rfl,rfl,m0,?_⟩
   exact q _ _ (Int.emod_nonneg _ (by lia)) (Int.emod_lt_of_pos _ m0) ⟨_,_,_,g1,a0,by lia,by lia⟩ Kept.at
theorem scMany:FnScope ["_law_box_here","_law_least","_law_few","_law_most"] ["_law_box_here","_law_least","_law_few","_law_most"] (defScope sMany):=⟨rfl,rfl,rfl,by decide +kernel,rfl,by decide +kernel,by decide +kernel⟩
structure TakeF(P:Program)(w:World)(K:PySem.W.Frag)(mg:Str->Option Value)(base:Heap)(g:Addr)(gd:FuncData):Prop where
 ok:FnOk P w K mg base CX0 1 g gd ["_law_box_here","_law_many_here"] spTake
 mg:mg "_law_take" = some (.ref g)
 kp:PySem.W.keepIn K (.ref g)=true
 bd:Binds K gd ["_law_box_here","_law_many_here"] []
theorem ok_many{f g:Addr}{fd gd:FuncData}(F:Fun K "_law_many" "_law_many" sMany f fd)(G:TakeF P w K mg base g gd):FnOk P w K mg base CX0 2 f fd ["_law_box_here","_law_least","_law_few","_law_most"] spMany:=by
 refine F.ok scMany (fun vs H Q E h=>?_) (fun cdv A outer s H vs Q E hr h=>?_)
 ·obtain⟨p,l,f,m,N,rfl,_⟩:=h
  rfl
 ·obtain⟨p,l,f,m,N,rfl,B,hN,lf,m7,fl,mm,q⟩:=h
  refine⟨_,yad (ps_if (pt_cmpR op_eq (pe_call G.ok hr rfl G.mg G.kp G.bd .nil pass0 (pa_cons (pvQ 0) (pa_cons yae yab))) yae (nomark _))
   (pss_one (ps_ret (pe_op op_add yae (pe_call G.ok hr rfl G.mg G.kp G.bd .nil pass0 (pa_cons (pvQ 0) (pa_cons (pe_op op_sub (pvQ 3) yae) yab)))))) pss_nil)
   (pss_one (ps_ret (pe_op op_add (pvQ 1) (pe_call G.ok hr rfl G.mg G.kp G.bd .nil pass0 (pa_cons (pvQ 0) (pa_cons (pe_op op_add (pe_op op_sub (pvQ 2) (pvQ 1)) yae) yab)))))),?_⟩
  refine⟨p,_,N,rfl,B,by exact zj1 (zj1 hN),by decide,by decide,fun z H1 z0 z1 B1 k1=>⟨rfl,_,rfl,?_⟩⟩
  refine ite2 (fun _=>?_) (fun _=>?_)
  ·refine⟨_,_,rfl,rfl,p,_,N+1,rfl,B1,by exact zj1 hN,by lia,by lia,fun y H2 y0 y1 B2 k2=>⟨_,_,rfl,rfl,?_⟩⟩
   exact q _ _ (.inr ⟨by lia,by lia⟩) B2 (k1.trans k2)
  ·refine⟨_,_,rfl,rfl,_,_,rfl,rfl,p,_,N+1,rfl,B1,by exact zj1 hN,by lia,by lia,fun y H2 y0 y1 B2 k2=>⟨_,_,rfl,rfl,?_⟩⟩
   exact q _ _ (.inl ⟨by lia,by lia⟩) B2 (k1.trans k2)
theorem scWeight:FnScope ["_law_box_here","_law_heavy"] ["_law_box_here","_law_heavy"] (defScope sWeight):=⟨rfl,rfl,rfl,by decide +kernel,rfl,by decide +kernel,by decide +kernel⟩
theorem ok_weight{f g:Addr}{fd gd:FuncData}(F:Fun K "_law_weight" "_law_weight" sWeight f fd)(G:TakeF P w K mg base g gd):FnOk P w K mg base CX0 2 f fd ["_law_box_here","_law_heavy"] spWeight:=by
 refine F.ok scWeight (fun vs H Q E h=>?_) (fun cdv A outer s H vs Q E hr h=>?_)
 ·obtain⟨p,h,N,rfl,_⟩:=h
  rfl
 ·obtain⟨p,h,N,rfl,h4,B,hN,q⟩:=h
  refine⟨_,pss_one (ps_ret (pe_op op_add yae (pe_call G.ok hr rfl G.mg G.kp G.bd .nil pass0 (pa_cons (pvQ 0) (@pa_sub _ _ _ _ _ _ _
   (@pe_ix _ _ _ _ _ _ _ ix_list (@pe_lst _ _ _ _ (@pa_cst _ _ _ _ _ _ _ yae (@pa_cst _ _ _ _ _ _ _ yae (@pa_cst _ _ _ _ _ _ _ yae (@pa_sub _ _ _ _ _ _ _ (@pe_ix _ _ _ _ _ _ _ ix_list (@pe_lst _ _ _ _ (@pa_cst _ _ _ _ _ _ _ yae (@pa_cst _ _ _ _ _ _ _ yae (@pa_bin _ _ _ _ _ _ _ _ (pe_op op_pow yae yae) yab)))) (pe_call G.ok hr rfl G.mg G.kp G.bd .nil pass0 (pa_cons (pvQ 0) (pa_cons yae yab))) (fun _ _=>rfl)) yab))))) (pvQ 1) (fun _ _=>rfl)) yab))))),?_⟩
  refine⟨10,9,rfl,rfl,⟨by decide,by decide,by decide⟩,?_⟩
  refine⟨(by show 3<=sizeLine;decide),fun l hl=>?_⟩
  refine⟨p,_,N,rfl,B.new hl,by exact zj1 (zj1 hN),by decide,by decide,fun z H1 z0 z1 B1 k1=>?_⟩
  have lp:l≠p:=fun e=>by
   obtain⟨a,b,c,e1,_⟩:=B
   rw[e,e1]at hl
   cases hl
  have el:=k1 l _ lp yaa
  obtain⟨zn,rfl⟩:∃ zn:Nat,z=(zn:Int):=⟨z.toNat,by exact zh3 z0⟩
  have e9:((10:Int) ^ (Int.toNat 9))=1000000000:=by decide +kernel
  try dsimp only at el
  rw[e9]at el
  have h3:zn<3:=by lia
  obtain⟨v,hv,v0,v1⟩:∃ v:Int,[V.int 10,V.int 100,V.int 1000000000][zn]?=some (V.int v)/\0<v/\v<1073741824:=by
   match zn,h3 with
   | 0,_=>exact⟨_,rfl,by decide,by decide⟩
   | 1,_=>exact⟨_,rfl,by decide,by decide⟩
   | 2,_=>exact⟨_,rfl,by decide,by decide⟩
  refine⟨l,_,_,_,rfl,rfl,SqL.of el,atI_nat hv,(by show 4<=sizeLine;decide),fun l2 hl2=>?_⟩
  obtain⟨v',hv',v0',v1'⟩:∃ v':Int,[V.int 1,V.int 3,V.int 9,V.int v][h]?=some (V.int v')/\0<v'/\v'<1073741824:=by
   match h,h4 with
   | 0,_=>exact⟨_,rfl,by decide,by decide⟩
   | 1,_=>exact⟨_,rfl,by decide,by decide⟩
   | 2,_=>exact⟨_,rfl,by decide,by decide⟩
   | 3,_=>exact⟨_,rfl,v0,v1⟩
  refine⟨l2,_,_,_,rfl,rfl,SqL.of yaa,atI_nat hv',p,_,N+1,rfl,B1.new hl2,by exact zj1 hN,v0',v1',fun y H2 y0 y1 B2 k2=>⟨_,_,rfl,rfl,?_⟩⟩
  exact q _ _ (by lia) B2 ((Kept.new hl).trans (k1.trans ((Kept.new hl2).trans k2)))
end
noncomputable abbrev Tie:=Int×Int×Int
noncomputable def tieV(x:Tie):List V:=[.int x.1,.int x.2.1,.int x.2.2]
structure WebAt(H:Hp)(t:Addr)(n:Nat)(ties:List Tie):Prop where
 ex:∃ (ts:Addr) (as:List Addr),H t=some (.tup [.int n,.ref ts])/\H ts=some (.tup (as.map V.ref))/\Paired (fun a x=>H a=some (.tup (tieV x))) as ties
 len:ties.length<=120
theorem WebAt.same{H H':Hp}{t:Addr}{n:Nat}{ties:List Tie}(W:WebAt H t n ties)(s:Same H H'):WebAt H' t n ties:=by
 obtain⟨⟨ts,as,h1,h2,h3⟩,l⟩:=W
 exact⟨⟨ts,as,s _ _ h1,s _ _ h2,Paired.mapP h3 fun a x e=>s _ _ e⟩,l⟩
theorem flat_ints(ns:List Int):(ns.map V.int).all flatV=true:=by
 rw[List.all_map,List.all_eq_true]
 intro x _
 rfl
theorem inV_ints(z:Int):∀ ns:List Int,inV (V.int z) (ns.map V.int)=ns.contains z
 |[]=>rfl
 |n :: ns=>by
  have ih:=inV_ints z ns
  unfold inV at ih ⊢
  rw[zN,List.any_cons,ih,List.contains_cons]
  congr 1
  show(n == z)=(z == n)
  exact Bool.beq_comm
theorem Kept.free{p l:Addr}{H H':Hp}{M:Nat}(k:Kept p H H')(B:BoxAt H' p M)(h:H' l=none):H l=none:=by
 cases e:H l with
 |none=>rfl
 |some o =>
  by_cases lp:l=p
  ·obtain⟨a,b,c,e1,_⟩:=B
   rw[lp,e1]at h
   cases h
  ·rw[k l o lp e]at h
   cases h
theorem BoxAt.ne{H:Hp}{p l:Addr}{N:Nat}(B:BoxAt H p N)(h:H l=none):l≠p:=fun e=>by
 obtain⟨a,b,c,e1,_⟩:=B
 rw[e,e1]at h
 cases h
theorem Kept.put{p d:Addr}{H H':Hp}{o:HO}(k:Kept p H H')(h:H d=none):Kept p H (upd H' d o):=fun b u n e=>by
 rw[upd_ne (ne_of_none e h)]
 exact k b u n e
theorem BoxAt.put{H:Hp}{p d:Addr}{N:Nat}{o:HO}(B:BoxAt H p N)(h:d≠p):BoxAt (upd H d o) p N:=by
 obtain⟨a,b,c,e,r⟩:=B
 exact⟨a,b,c,by rw[upd_ne (Ne.symm h)];exact e,r⟩
theorem tTru_if{σ:L2.St}{H:Hp}{A B:Hp->Prop}(h:A H):tTru σ H (fun b H3=>if b=true then A H3 else B H3):=by
 show if true=true then A H else B H
 exact iteT h
theorem Paired.snoc{α β:Type}{F:α->β->Prop}:∀ {l₁:List α}{l₂:List β}{a:α}{b:β},Paired F l₁ l₂->F a b->Paired F (l₁++[a]) (l₂++[b]):=by
 intro l ks a b h r
 induction h with
 |nil=>exact .cons r .nil
 |cons q t ih=>exact .cons q ih
noncomputable def TieOk(n:Nat)(x:Tie):Prop:=0<=x.1/\x.1<x.2.1/\x.2.1<n/\1<=x.2.2/\x.2.2<=1073741824
noncomputable def tieLt(x y:Tie):Prop:=Srt.lexlt [x.1,x.2.1] [y.1,y.2.1]=true
noncomputable def KeyOk(n:Nat)(kv:List Key×V):Prop:=∃ a b c:Int,kv=([Sum.inl a,Sum.inl b],V.int c)/\TieOk n (a,b,c)
noncomputable def DInv(n:Nat)(kvs:List (List Key×V)):Prop:=(∀ kv∈kvs,KeyOk n kv)/\(kvs.map (·.1)).Nodup
theorem DInv.put{n:Nat}{kvs:List (List Key×V)}(h:DInv n kvs){a b c:Int}(ok:TieOk n (a,b,c)):DInv n (putK kvs [Sum.inl a,Sum.inl b] (V.int c))/\(putK kvs [Sum.inl a,Sum.inl b] (V.int c)).length<=kvs.length+1:=by
 unfold putK
 by_cases ex:(kvs.any fun kv=>decide (kv.1=[Sum.inl a,Sum.inl b]))=true
 ·rw[if_pos ex]
  refine⟨⟨fun kv hk=>?_,?_⟩,by rw[zA];exact zAA kvs.length 1⟩
  ·obtain⟨q,hq,e⟩:=zAH.mp hk
   by_cases z:q.1=[Sum.inl a,Sum.inl b]
   ·rw[if_pos z,z]at e
    exact⟨a,b,c,e.symm,ok⟩
   ·rw[if_neg z]at e
    rw[<- e]
    exact h.1 q hq
  ·have e:(kvs.map fun kv=>if kv.1=[Sum.inl a,Sum.inl b]then(kv.1,V.int c)else kv).map (·.1)=kvs.map (·.1):=by
    rw[zAW]
    refine zAP fun q _=>?_
    show(if q.1=[Sum.inl a,Sum.inl b]then(q.1,V.int c)else q).1=q.1
    split <;> rfl
   rw[e]
   exact h.2
 ·rw[if_neg ex]
  refine⟨⟨fun kv hk=>?_,?_⟩,by rw[zO];exact zJ _⟩
  ·rcases zX.mp hk with z | z
   ·exact h.1 kv z
   ·exact⟨a,b,c,zH.mp z,ok⟩
  ·rw[zP,zCH]
   refine⟨h.2,by simp,fun x hx y hy=>?_⟩
   have ey:y=[Sum.inl a,Sum.inl b]:=by simpa using hy
   subst ey
   intro z
   subst z
   obtain⟨q,hq,e⟩:=zAH.mp hx
   exact ex (List.any_eq_true.mpr ⟨q,hq,decide_eq_true e⟩)
noncomputable def unkey(k:List Key):List Int:=k.map fun x=>match x with
 | .inl i=>i
 | .inr _=>0
theorem keys_of{n:Nat}:∀ {kvs:List (List Key×V)},(∀ kv∈kvs,KeyOk n kv)->kvs.map (·.1)=List.map (List.map Sum.inl) (kvs.map fun kv=>unkey kv.1)
 |[],_=>rfl
 |kv :: kvs,h=>by
  obtain⟨a,b,c,e,_⟩:=h kv (zF ..)
  rw[zN,zN,zN,keys_of fun q hq=>h q (zD _ hq),e]
  rfl
theorem DInv.keys{n:Nat}{kvs:List (List Key×V)}(h:DInv n kvs):kvs.map (·.1)=List.map (List.map Sum.inl) (kvs.map fun kv=>unkey kv.1):=keys_of h.1
theorem DInv.nodup{n:Nat}{kvs:List (List Key×V)}(h:DInv n kvs):(kvs.map fun kv=>unkey kv.1).Nodup:=by
 have:=h.2
 rw[h.keys]at this
 unfold List.Nodup at this ⊢
 rw[List.pairwise_map]at this
 exact this.imp fun {x y} z e=>z (by rw[e])
theorem valV_mem{kvs:List (List Key×V)}{k:List Key}(h:k∈kvs.map (·.1)):∃ v,valV kvs k=some v/\(k,v)∈kvs:=by
 induction kvs with
 |nil=>cases h
 |cons q r ih =>
  by_cases e:q.1=k
  ·exact⟨q.2,valV_pos e,by rw[<- e];exact zF ..⟩
  ·rw[zN]at h
   rcases zW.mp h with z | z
   ·exact absurd z.symm e
   ·obtain⟨v,h1,h2⟩:=ih z
    exact⟨v,(valV_neg e).trans h1,zD _ h2⟩
inductive spWebI(vs:List V)(H:Hp)(Q:VK):Prop where
 |mk (p:Addr) (n N:Nat) (h1:vs=[.ref p,.int n]) (h2:BoxAt H p N) (h3:N+1000<2 ^ 40) (h4:1<=n) (h5:n<=30) (h6:∀ (t:Addr) (ties:List Tie) (H':Hp),H t=none->WebAt H' t n ties->(∀ x∈ties,TieOk n x)->ties.Pairwise tieLt->BoxAt H' p (N+1000)->Kept p H H'->Q (.ref t) H')
noncomputable def spWeb:Sp:=fun vs H Q _=>spWebI vs H Q
structure WeightF(P:Program)(w:World)(K:PySem.W.Frag)(mg:Str->Option Value)(base:Heap)(g:Addr)(gd:FuncData):Prop where
 ok:FnOk P w K mg base CX0 2 g gd ["_law_box_here","_law_heavy"] spWeight
 mg:mg "_law_weight" = some (.ref g)
 kp:PySem.W.keepIn K (.ref g)=true
 bd:Binds K gd ["_law_box_here","_law_heavy"] []
structure WI(H:Hp)(p d:Addr)(n M c:Nat)(kvs:List (List Key×V))(H':Hp):Prop where
 box:BoxAt H' p M
 dic:H' d=some (.dT kvs)
 inv:DInv n kvs
 len:kvs.length<=c
 kep:Kept p H H'
theorem WI.keep{H H' H'':Hp}{p d:Addr}{n M M' c:Nat}{kvs:List (List Key×V)}(W:WI H p d n M c kvs H')(dp:d≠p)(k:Kept p H' H'')(B:BoxAt H'' p M'):WI H p d n M' c kvs H'' :=
 ⟨B,k d _ dp W.dic,W.inv,W.len,W.kep.trans k⟩
theorem WI.mono{H H':Hp}{p d:Addr}{n M M' c c':Nat}{kvs:List (List Key×V)}(W:WI H p d n M c kvs H')(h:M<=M')(h2:c<=c'):WI H p d n M' c' kvs H' :=
 ⟨W.box.mono h,W.dic,W.inv,zAE W.len h2,W.kep⟩
theorem WI.new{H H':Hp}{p d q:Addr}{n M c:Nat}{kvs:List (List Key×V)}{o:HO}(W:WI H p d n M c kvs H')(h:H' q=none):WI H p d n M c kvs (upd H' q o) :=
 ⟨W.box.new h,by rw[upd_ne (ne_of_none W.dic h)];exact W.dic,W.inv,W.len,W.kep.trans (Kept.new h)⟩
theorem WI.put{H H':Hp}{p d:Addr}{n M c:Nat}{kvs:List (List Key×V)}(W:WI H p d n M c kvs H')(dp:d≠p)(hd:H d=none){a b x:Int}(ok:TieOk n (a,b,x)):WI H p d n M (c+1) (putK kvs [Sum.inl a,Sum.inl b] (V.int x)) (upd H' d (.dT (putK kvs [Sum.inl a,Sum.inl b] (V.int x)))) :=
 ⟨W.box.put dp,yaa,(W.inv.put ok).1,zAE (W.inv.put ok).2 (Nat.succ_le_succ W.len),W.kep.put hd⟩
section
variable{P:Program}{w:World}{K:PySem.W.Frag}{mg:Str->Option Value}{base:Heap}
noncomputable abbrev nWeb:List Str:=["_law_box_here","_law_many_here","_law_heavy","_law_ties","_law_place","_law_turn","_law_one","_law_other"]
theorem scWeb:FnScope nWeb ["_law_box_here","_law_many_here"] (defScope sWeb):=⟨rfl,rfl,rfl,by decide +kernel,rfl,by decide +kernel,by decide +kernel⟩
theorem csWeb:CompScope ["_law_pair","_law_ties"] [none,some 3] nWeb (defScope sWeb) { kind:=.function,names:=[(".0",.local),("_law_pair",.local),("_law_ties",.free)],isGenerator:=false,isCoroutine:=false } :=
 ⟨rfl,by decide +kernel,by decide +kernel,by decide +kernel,rfl,capB_ok (by decide +kernel)⟩
theorem ndWeb:(["_law_pair","_law_ties"]:List Str).Nodup:=by decide +kernel
theorem ok_web{f g g2:Addr}{fd gd gd2:FuncData}(F:Fun K "_law_web" "_law_web" sWeb f fd)(T:Txt mg)(G:TakeF P w K mg base g gd)(G2:WeightF P w K mg base g2 gd2):FnOk P w K mg base CX0 3 f fd ["_law_box_here","_law_many_here"] spWeb:=by
 refine F.ok scWeb (fun vs H Q E h=>?_) (fun cdv A outer s H vs Q E hr h=>?_)
 ·obtain⟨p,n,N,rfl,_⟩:=h
  rfl
 ·obtain⟨p,n,N,rfl,B,hN,n1,n30,q⟩:=h
  have hu:=hu_of hr
  have hr1:Room 1 _:=hr.mono (by decide)
  refine⟨_,yad (ps_set (i:=2) scWeb.nd rfl (Or.inl rfl) (pe_call G.ok hr1 rfl G.mg G.kp G.bd .nil pass0 (@yac _ _ _ _ _ _ (pv 0) (@pa_cst _ _ _ _ _ _ _ yae yab))))
   (yad (ps_set (i:=3) scWeb.nd rfl (Or.inr rfl) pe_dnewT)
   (yad (ps_for PassesOwn.never rfl (pi_range2 rfl T.range (@pa_cst _ _ _ _ _ _ _ yae (@yac _ _ _ _ _ _ (pv 1) yab))) (pg_name (i:=4) scWeb.nd rfl (Or.inl rfl))
    (pss_one (ps_if (pt_cmpR op_gt (pe_call G.ok hr1 rfl G.mg G.kp G.bd .nil pass0 (@yac _ _ _ _ _ _ (pv 0) (@pa_cst _ _ _ _ _ _ _ yae yab))) yae (nomark _))
     (pss_one (ps_dput hu (pv 3) (@pe_tup _ _ _ _ _ (@pa_call _ _ _ _ _ _ _ _ (pe_call G.ok hr1 rfl G.mg G.kp G.bd .nil pass0 (@yac _ _ _ _ _ _ (pv 0) (@yac _ _ _ _ _ _ (pv 4) yab))) (@yac _ _ _ _ _ _ (pv 4) yab))) (pe_call G2.ok hr rfl G2.mg G2.kp G2.bd .nil pass0 (@yac _ _ _ _ _ _ (pv 0) (@yac _ _ _ _ _ _ (pv 2) yab))) rfl)) pss_nil)))
   (yad (ps_for PassesOwn.never rfl (pi_range1 rfl T.range (@pa_call _ _ _ _ _ _ _ _ (pe_callB (call_min2 rfl) (by rfl) T.min boot_min (@pa_call _ _ _ _ _ _ _ _ (pe_call G.ok hr1 rfl G.mg G.kp G.bd .nil pass0 (@yac _ _ _ _ _ _ (pv 0) (@pa_bin _ _ _ _ _ _ _ _ (pe_op op_add (pe_op op_mul yae (pv 1)) yae) yab))) (@pa_bin _ _ _ _ _ _ _ _ (pe_op op_sub yae (pv 1)) yab))) yab)) (pg_name (i:=5) scWeb.nd rfl (Or.inl rfl))
    (yad (ps_par rfl scWeb.nd (i:=6) (j:=7) rfl rfl (by decide) rfl rfl (@pa_call _ _ _ _ _ _ _ _ (pe_call G.ok hr1 rfl G.mg G.kp G.bd .nil pass0 (@yac _ _ _ _ _ _ (pv 0) (@yac _ _ _ _ _ _ (pv 1) yab))) (@pa_call _ _ _ _ _ _ _ _ (pe_call G.ok hr1 rfl G.mg G.kp G.bd .nil pass0 (@yac _ _ _ _ _ _ (pv 0) (@yac _ _ _ _ _ _ (pv 1) yab))) yab)) rfl)
    (pss_one (ps_if (pt_cmpR op_ne (pv 6) (pv 7) (nomark _)) (pss_one (ps_dput hu (pv 3) (@pe_tup _ _ _ _ _ (@pa_call _ _ _ _ _ _ _ _ (pe_callB (call_min2 rfl) (by rfl) T.min boot_min (@yac _ _ _ _ _ _ (pv 6) (@yac _ _ _ _ _ _ (pv 7) yab))) (@pa_call _ _ _ _ _ _ _ _ (pe_callB (call_max2 rfl) (by rfl) T.max boot_max (@yac _ _ _ _ _ _ (pv 6) (@yac _ _ _ _ _ _ (pv 7) yab))) yab))) (pe_call G2.ok hr rfl G2.mg G2.kp G2.bd .nil pass0 (@yac _ _ _ _ _ _ (pv 0) (@yac _ _ _ _ _ _ (pv 2) yab))) rfl)) pss_nil))))
   (pss_one (ps_ret (@pe_tup _ _ _ _ _ (@yac _ _ _ _ _ _ (pv 1) (@pa_call _ _ _ _ _ _ _ _ (pe_callTy call_tuple_of (by rfl) T.tuple boot_tuple (@pa_comp _ _ _ _ _ _ _ _ (pe_comp rfl csWeb
    (pi_list (pe_callB (call_sortedD rfl) (by rfl) T.sorted boot_sorted (@yac _ _ _ _ _ _ (pv 3) yab)))
    (fun C s H fp=>pg_name (i:=0) ndWeb rfl (Or.inl rfl)) (fun C s H fp=>pf_nil)
    (fun C s H fp=>pe_op (op_catTK K rfl) (pv 0) (@pe_tup _ _ _ _ _ (@pa_sub _ _ _ _ _ _ _ (pe_dget hu (pv 1) (pv 0) (fun _ _=>rfl)) yab)))) yab)) yab)))))))),?_⟩
  refine⟨_,rfl,p,_,N,rfl,B,by exact zAR (zAA N 1000) hN,by decide,by decide,fun z H1 z0 z1 B1 k1=>?_⟩
  obtain⟨hh,rfl⟩:∃ hh:Nat,z=(hh:Int):=⟨z.toNat,by exact zh3 z0⟩
  have h4:hh<4:=by lia
  intro d hd
  have dp:d≠p:=B1.ne hd
  have hd0:H d=none:=k1.free B1 hd
  have W0:WI H p d n (N+1) 0 [] (upd H1 d (.dT [])):=⟨B1.new hd,yaa,⟨fun _ h=>(nomatch h),zCN⟩,zJ _,k1.trans (Kept.new hd)⟩
  refine⟨_,rfl,1,(n:Int),rfl,⟨by decide,by decide,by exact zh1,by exact zm2 n30 rfl⟩,?_⟩
  refine for_range (lo:=1) (n:=((n:Int)-1).toNat) (fun i σ H'=>∃ kvs v,σ=[some (.ref p),some (.int n),some (.int hh),some (.ref d),v,none,none,none]/\WI H p d n (N+1+4 * i) i kvs H') ⟨[],none,rfl,W0⟩ ?_ ?_
  ·rintro i σ H' hi ⟨kvs,v,rfl,W⟩
   have len:=W.len
   refine⟨_,rfl,p,_,_,rfl,W.box,by lia,by decide,by decide,fun z H3 y0 y1 B3 k3=>⟨_,_,rfl,rfl,_,rfl,?_⟩⟩
   have W3:=W.keep dp k3 B3
   refine ite2 (fun _=>?_) (fun _=>?_)
   ·refine⟨_,rfl,_,rfl,p,hh,_,rfl,h4,B3,by lia,fun x H4 x1 B4 k4=>⟨_,rfl,_,rfl,_,rfl,p,_,_,rfl,B4,by lia,by lia,by omega,fun a H5 a0 a1 B5 k5=>⟨_,rfl,(by show 2<=sizeLine;decide),fun tp htp=>?_⟩⟩⟩
    have W5:=((W3.keep dp k4 B4).keep dp k5 B5).new (o:=.tup [.int a,.int (1+(i:Int))]) htp
    refine⟨d,_,rfl,DPut.t (k:=[Sum.inl a,Sum.inl (1+(i:Int))]) W5.dic yaa (by rw[sizeLine_eq];lia),?_⟩
    exact⟨_,_,rfl,(W5.put dp hd0 ⟨a0,by show a<1+(i:Int);exact a1,by show 1+(i:Int) <(n:Int);omega,x1⟩).mono (by lia) (by exact zJ (i+1))⟩
   ·exact⟨_,_,rfl,W3.mono (by lia) (by exact zAA i 1)⟩
  ·rintro σ H' ⟨kvs,v,rfl,W⟩
   have len0:=W.len
   refine⟨_,rfl,_,rfl,_,_,rfl,rfl,.inl ⟨by decide,by decide⟩,_,_,rfl,rfl,p,_,_,rfl,W.box,by lia,by lia,by lia,fun z H3 y0 y1 B3 k3=>⟨_,rfl,_,_,rfl,rfl,_,_,rfl,_,rfl,?_,?_,?_⟩⟩
   ·split <;> lia
   ·split <;> lia
   have W3:=W.keep dp k3 B3
   have cb:(if 91-(n:Int)<z then 91-(n:Int)else z).toNat<=91-n:=by split <;> lia
   generalize (if 91-(n:Int)<z then 91-(n:Int)else z).toNat=cnt at cb
   refine for_range (lo:=0) (n:=cnt) (fun i σ H'=>∃ kvs v4 v5 v6 v7,σ=[some (.ref p),some (.int n),some (.int hh),some (.ref d),v4,v5,v6,v7]/\WI H p d n (N+200+4 * i) (n-1+i) kvs H') ⟨kvs,v,none,none,none,rfl,W3.mono (by lia) (by lia)⟩ ?_ ?_
   ·clear W W3 B3 k3 len0
    rintro i σ H' hi ⟨kvs,v4,v5,v6,v7,rfl,W⟩
    have len:=W.len
    refine⟨_,rfl,_,rfl,p,_,_,rfl,W.box,by lia,by lia,by lia,fun x H4 x0 x1 B4 k4=>⟨_,rfl,_,rfl,p,_,_,rfl,B4,by lia,by lia,by lia,fun y H5 w0 w1 B5 k5=>⟨_,_,rfl,?_⟩⟩⟩
    have W5:=(W.keep dp k4 B4).keep dp k5 B5
    refine⟨_,rfl,_,rfl,rfl,_,rfl,?_⟩
    refine ite2 (fun hxy=>?_) (fun _=>?_)
    ·have xy:x≠y:=fun z=>by rw[z]at hxy;simp at hxy
     refine⟨_,rfl,_,rfl,p,hh,_,rfl,h4,B5,by lia,fun c H6 c1 B6 k6=>⟨_,rfl,_,rfl,_,rfl,_,_,rfl,_,rfl,_,rfl,_,_,rfl,(by show 2<=sizeLine;decide),fun tp htp=>?_⟩⟩
     have W6:=(W5.keep dp k6 B6).new (o:=.tup [.int (if y<x then y else x),.int (if y > x then y else x)]) htp
     refine⟨d,_,rfl,DPut.t (k:=[Sum.inl (if y<x then y else x),Sum.inl (if y > x then y else x)]) W6.dic yaa (by rw[sizeLine_eq];lia),?_⟩
     refine⟨_,_,_,_,_,rfl,(W6.put dp hd0 ⟨?_,?_,?_,c1⟩).mono (by lia) (by exact zn4)⟩
     ·show(0:Int)<=if y<x then y else x
      split <;> omega
     ·show(if y<x then y else x) <(if y > x then y else x)
      split <;> split <;> omega
     ·show(if y > x then y else x) <(n:Int)
      split <;> omega
    ·exact⟨_,_,_,_,_,rfl,W5.mono (by lia) (by exact zj2 zn4)⟩
   ·clear W W3 B3 k3 len0
    rintro σ H' ⟨kvs,v4,v5,v6,v7,rfl,W⟩
    have len:=W.len
    refine⟨_,rfl,_,rfl,d,kvs,kvs.map (fun kv=>unkey kv.1),rfl,W.dic,W.inv.keys,fun k hk=>?_,by lia,fun l as ns hl perm pw pt=>⟨l,rfl,⟨_,SqL.of yaa⟩,?_⟩⟩
    ·obtain⟨kv,hkv,rfl⟩:=zAH.mp hk
     obtain⟨a,b,c,e,_⟩:=W.inv.1 kv hkv
     rw[e]
     exact fun z=>nomatch z
    have W1:=W.new (o:=.lst (as.map V.ref)) hl
    have lenA:as.length=ns.length:=pt.length
    have lenN:ns.length=kvs.length:=by rw[perm.length_eq,zA]
    -- each key is there
    have keyAt:∀ i (h1:i<as.length),∃ a b c:Int,H' as[i]=some (.tup [.int a,.int b])/\valV kvs [Sum.inl a,Sum.inl b]=some (V.int c)/\TieOk n (a,b,c)/\ns[i]?=some [a,b]:=fun i h1=>by
     have h2:i<ns.length:=by exact zh7 h1 lenA
     have e1:=Paired.at pt i h1 h2
     have m1:ns[i]∈kvs.map (fun kv=>unkey kv.1):=perm.mem_iff.mp (zS h2)
     obtain⟨kv,hkv,e2⟩:=zAH.mp m1
     obtain⟨a,b,c,e3,ok⟩:=W.inv.1 kv hkv
     rw[e3]at e2
     have e4:ns[i]=[a,b]:=e2.symm
     rw[e4]at e1
     have m2:[Sum.inl a,Sum.inl b]∈kvs.map (·.1):=zAH.mpr ⟨kv,hkv,by rw[e3]⟩
     obtain⟨v,v1,v2⟩:=valV_mem m2
     obtain⟨a',b',c',e5,ok'⟩:=W.inv.1 _ v2
     cases e5
     exact⟨a,b,c',e1,v1,ok',by rw[zE h2,e4]⟩
    refine comp_list (K:=K) (a:=l) (xs:=as.map V.ref) (fun i ys G=>Same (upd H' l (.lst (as.map V.ref))) G/\∃ (bs:List Addr) (tl:List Tie),ys=bs.map V.ref/\Paired (fun b x=>G b=some (.tup (tieV x))) bs tl/\(∀ x∈tl,TieOk n x)/\tl.map (fun x=>[x.1,x.2.1])=ns.take i) (by rw[zA,sizeLine_eq];lia) ⟨Same.refl _,[],[],rfl,.nil,(fun _ h=>nomatch h),rfl⟩ (fun i ys G _ pp=>pp.1.seq (SqL.of yaa)) ?_ ?_
    ·rintro i x ys G hi ⟨sm,bs,tl,rfl,pr,oks,eks⟩
     obtain⟨il,e⟩:=zI.mp hi
     rw[zA]at il
     rw[zU]at e
     subst e
     obtain⟨a,b,c,ha,hv,ok,nsi⟩:=keyAt i il
     have ha2:G as[i]=some (.tup [.int a,.int b]):=sm _ _ (by rw[upd_ne (ne_of_none ha hl)];exact ha)
     have hd2:G d=some (.dT kvs):=sm _ _ W1.dic
     have g0:DGet G d (V.ref as[i]) (valV kvs [Sum.inl a,Sum.inl b]):=DGet.t hd2 ha2
     rw[hv]at g0
     refine⟨⟨rfl,trivial⟩,tTru_if ?_⟩
     refine⟨_,rfl,_,rfl,_,rfl,d,_,rfl,g0,(by show 1<=sizeLine;decide),fun t1 ht1=>⟨as[i],t1,[.int a,.int b],[.int c],rfl,rfl,SqT.of (by rw[upd_ne (ne_of_none ha2 ht1)];exact ha2),SqT.of yaa,(fun z=>nomatch z),(by show 3<=sizeLine;decide),(fun z=>nomatch z),fun _ t2 ht2=>?_⟩⟩
     have sm2:Same G (upd (upd G t1 (.tup [.int c])) t2 (.tup ([.int a,.int b]++[.int c]))):=(Same.new ht1).trans (Same.new ht2)
     refine⟨sm.trans sm2,bs++[t2],tl++[(a,b,c)],by rw[zP];rfl,?_,fun x hx=>?_,?_⟩
     ·refine Paired.snoc (Paired.mapP pr fun b x e=>sm2 _ _ e) yaa
     ·rcases zX.mp hx with z | z
      ·exact oks x z
      ·rw[zH.mp z];exact ok
     ·obtain⟨ni,ne⟩:=zI.mp nsi
      rw[zP,eks,zK ni,ne]
      rfl
    ·rintro ys G yl ⟨sm,bs,tl,rfl,pr,oks,eks⟩ D hD
     rw[zA]at yl
     refine⟨D,_,rfl,.inl ⟨SqL.of yaa,fun ts hts=>⟨(by show 2<=sizeLine;decide),fun t ht=>?_⟩⟩⟩
     have s1:Same G (upd G D (.lst (bs.map V.ref))):=Same.new hD
     have s2:Same (upd G D (.lst (bs.map V.ref))) (upd (upd G D (.lst (bs.map V.ref))) ts (.tup (bs.map V.ref))):=Same.new hts
     have s3:=Same.new (o:=.tup [.int n,.ref ts]) ht
     have sA:=sm.trans (s1.trans (s2.trans s3))
     have kA:Kept p H (upd (upd (upd G D (.lst (bs.map V.ref))) ts (.tup (bs.map V.ref))) t (.tup [.int n,.ref ts])):=W1.kep.trans fun b o _ e=>sA b o e
     have bA:BoxAt (upd (upd (upd G D (.lst (bs.map V.ref))) ts (.tup (bs.map V.ref))) t (.tup [.int n,.ref ts])) p (N+1000):=by
      obtain⟨a,b,c,e,r1,r2,r3⟩:=W1.box
      exact⟨a,b,c,sA _ _ e,r1,r2,by lia⟩
     refine q t tl _ ?_ ⟨⟨ts,bs,yaa,s3 _ _ yaa,Paired.mapP pr fun b x e=>s3 _ _ (s2 _ _ (s1 _ _ e))⟩,?_⟩ oks ?_ bA kA
     ·have f1:H' t=none:=(Same.new hl).free (sm.free (s1.free (s2.free ht)))
      exact W.kep.free W.box f1
     ·have:=pr.length
      rw[zA]at yl
      lia
     ·rw[zAZ (by rw[zA];exact zBX (Eq.symm lenA))]at eks
      have nd:ns.Nodup:=perm.nodup_iff.mpr W.inv.nodup
      have st:ns.Pairwise (fun x y=>Srt.lexlt x y=true):=(pw.and nd).imp fun {x y} z=>by
       cases e:Srt.lexlt x y with
       |true=>rfl
       |false=>exact absurd (Srt.lexlt_total x y e z.1) z.2
      rw[<- eks,List.pairwise_map]at st
      exact st
end
end K31
namespace L2
open PySem PyProof.Rows
section
variable{K:PySem.W.Frag}{a D:Addr}{xs:List V}{b:Bool}{g:TG}{tc:TT}{tk tv:TE}{cap:List (Option Nat)}{σ:St}{H1:Hp}{Q:VK}
theorem dcomp_tup(P:Nat->Hp->Prop)(p0:P 0 H1)(hl:∀ i H,i<=xs.length->P i H->SqT K H a xs)
  (hs:∀ i x H,xs[i]?=some x->P i H->g x (capt cap σ) H fun σ2 H2=>Kp (capt cap σ) σ2/\tc σ2 H2 fun b H3=>if b=true then tk σ2 H3 fun k H4=>tv σ2 H4 fun y H5=>∃ H6,DPut H5 D k y H6/\P (i+1) H6 else P (i+1) H3)
  (hd:∀ H,P xs.length H->Q (.ref D) H):dcompTurns (Itt K a) cap σ H1 D Q g tc tk tv:=by
 refine⟨xs.length,P,p0,fun i H il p=>?_⟩
 have q:=hl i H il p
 by_cases hlt:i<xs.length
 ·refine .inr ⟨hlt,⟨xs,xs[i],q,by simp[hlt]⟩,fun x H' y=>?_⟩
  obtain⟨e,y⟩:=y
  subst e
  exact hs i x _ (y xs q) p
 ·have e:i=xs.length:=by exact zj7 il hlt
  subst e
  exact .inl ⟨⟨xs,q,zJ _⟩,hd H p⟩
theorem dcomp_list(P:Nat->Hp->Prop)(p0:P 0 H1)(hl:∀ i H,i<=xs.length->P i H->SqL K H a xs)
  (hs:∀ i x H,xs[i]?=some x->P i H->g x (capt cap σ) H fun σ2 H2=>Kp (capt cap σ) σ2/\tc σ2 H2 fun b H3=>if b=true then tk σ2 H3 fun k H4=>tv σ2 H4 fun y H5=>∃ H6,DPut H5 D k y H6/\P (i+1) H6 else P (i+1) H3)
  (hd:∀ H,P xs.length H->Q (.ref D) H):dcompTurns (Itl K a) cap σ H1 D Q g tc tk tv:=by
 refine⟨xs.length,P,p0,fun i H il p=>?_⟩
 have q:=hl i H il p
 by_cases hlt:i<xs.length
 ·refine .inr ⟨hlt,⟨xs,xs[i],q,by simp[hlt]⟩,fun x H' y=>?_⟩
  obtain⟨e,y⟩:=y
  subst e
  exact hs i x _ (y xs q) p
 ·have e:i=xs.length:=by lia
  subst e
  exact .inl ⟨⟨xs,q,zJ _⟩,hd H p⟩
noncomputable def ItB(b:Bool)(K:PySem.W.Frag)(a:Addr):It:=match b with
 |true=>Itt K a
 |false=>Itl K a
noncomputable def iSeq(b:Bool)(K:PySem.W.Frag)(tl:TE):TI:=fun σ H R=>tl σ H fun x H1=>ExS x (fun a=>∃ xs,SqB b K H1 a xs) fun a=>R (ItB b K a) H1
theorem pi_seq{X:Cx}{tg l:Expr}{tl:TE}(b:Bool)(hl:PE X l tl):PI X tg l (iSeq b X.K tl):=by
 cases b
 ·exact pi_list hl
 ·exact pi_tup hl
theorem comp_seq{te:TE}{a:Addr}{xs:List V}(P:Nat->List V->Hp->Prop)(hz:xs.length<=sizeLine)(p0:P 0 [] H1)(hl:∀ i ys H,i<=xs.length->P i ys H->SqB b K H a xs)
  (hs:∀ i x ys H,xs[i]?=some x->P i ys H->g x (capt cap σ) H fun σ2 H2=>Kp (capt cap σ) σ2/\tc σ2 H2 fun b H3=>if b=true then te σ2 H3 fun y H4=>P (i+1) (ys++[y]) H4 else P (i+1) ys H3)
  (hd:∀ ys H,ys.length<=xs.length->P xs.length ys H->∀ D,H D=none->Q (.ref D) (upd H D (.lst ys))):compTurns (ItB b K a) cap σ H1 Q g tc te:=by
 cases b
 ·exact comp_list P hz p0 hl hs hd
 ·exact comp_tup P hz p0 hl hs hd
theorem dcomp_seq(P:Nat->Hp->Prop)(p0:P 0 H1)(hl:∀ i H,i<=xs.length->P i H->SqB b K H a xs)
  (hs:∀ i x H,xs[i]?=some x->P i H->g x (capt cap σ) H fun σ2 H2=>Kp (capt cap σ) σ2/\tc σ2 H2 fun b H3=>if b=true then tk σ2 H3 fun k H4=>tv σ2 H4 fun y H5=>∃ H6,DPut H5 D k y H6/\P (i+1) H6 else P (i+1) H3)
  (hd:∀ H,P xs.length H->Q (.ref D) H):dcompTurns (ItB b K a) cap σ H1 D Q g tc tk tv:=by
 cases b
 ·exact dcomp_list P p0 hl hs hd
 ·exact dcomp_tup P p0 hl hs hd
theorem Same.seqB{H H':Hp}(s:Same H H')(h:SqB b K H a xs):SqB b K H' a xs:=by
 cases b
 ·exact s.seq h
 ·exact s.tupq h
theorem valV_no{κ:Type}[DecidableEq κ]{kvs:List (κ×V)}{k:κ}(h:k∉kvs.map (·.1)):valV kvs k=none:=by
 induction kvs with
 |nil=>rfl
 |cons q r ih =>
  rw[zN,zW,not_or]at h
  exact(valV_neg fun e=>h.1 e.symm).trans (ih h.2)
end
open PySem PySem.W PyProof.Rows Srt
open PySem PySem.Spec PySem.W PyProof.Rows
open PySem PySem.Spec PySem.W PyProof.Rows
open PySem PySem.Spec PySem.W PyProof.Rows
open PySem PySem.Spec PySem.W PyProof.Rows
open PySem PySem.W PyProof.Rows Srt
end L2
namespace Srt
open PySem PySem.W PyProof.Rows
@[reducible] noncomputable def κI:KeyKind where
 α:=Int
 blt a b:=decide (a<b)
 irrefl a:=by simp
 trans a b c h k:=by simp at h k ⊢;lia
 negTrans a b c h:=by simp at h ⊢;lia
 total a b h k:=by simp at h k;lia
 keyOf v:=match v with
  | .int i _=>some i
  | _=>none
 dflt:=(0:Int)
theorem κI_of{v:Value}{i:Int}(h:κI.keyOf v=some i):∃ t,v = .int i t:=by
 cases v with
 |int j t =>
  have e:j=i:=Option.some.inj h
  subst e
  exact⟨t,rfl⟩
 | _=>cases h
theorem ltI_ok{prog:Program}{w:World}{A:Around}{s:Shared}:LtOk κI oneType' prog w A s:=by
 intro E x y a b Q st hk ha hb q
 obtain⟨t,e1⟩:=κI_of ha
 obtain⟨u,e2⟩:=κI_of hb
 rw[lt'_eq]
 refine wpS_bind (wpS_get ?_)
 rw[hk,keyLt'_oneType,e1,e2]
 refine wpS_bind (wpS_lift (wpAny_attempt (oneLt_int ⟨rfl,?_⟩)))
 exact wpS_pure q
end Srt
namespace L2
open PySem PySem.W PyProof.Rows Srt
section
variable{X:Cx}{pins:List (Addr×Obj)}{σ:St}{H:Hp}{s:Shared}
theorem collect_kept{g:Heap}{vs:List Value}:∀ b u,g.get? b=some u->((g.push (seqObj "list" #[] 0)).update g.objs.size (Obj.mapSeq (·++vs.toArray))).get? b=some u:=fun b u e=>by
 rw[Heap.get?_update_ne _ _ _ _ (zAG (zQ e))]
 exact zC _ e
theorem ints_perm:∀ {ws vs:List Value}{ns:List Int},ws.Perm vs->Vals (ns.map V.int) vs->∃ ms:List Int,Vals (ms.map V.int) ws/\ms.Perm ns:=by
 intro ws vs ns hp r
 have hI:=intsAre_of r
 have all:∀ v∈vs,∃ i t,v=Value.int i t:=by
  intro v hv
  obtain⟨j,hj,e⟩:=zBE hv
  have l:=r.length
  rw[zA]at l
  obtain⟨u,e2,t,e3⟩:=r.get (i:=j) (x:=V.int (ns[j]'(by exact zh8 hj l))) (by rw[zAB,zE (by exact zh8 hj l)];rfl)
  rw[zE hj,e]at e2
  cases e2
  exact⟨_,t,e3⟩
 let f:Value->Int:=fun v=>match v with
  | .int i _=>i
  | _=>0
 have key:∀ {us:List Value}{ks:List Int},Vals (ks.map V.int) us->us.map f=ks:=by
  intro us
  induction us with
  |nil=>intro ks r;cases ks with
   |nil=>rfl
   |cons _ _=>cases r
  |cons u us ih=>intro ks r;cases ks with
   |nil=>cases r
   |cons k ks =>
    cases r with
    |cons r1 r2 =>
     obtain⟨t,e⟩:=r1
     rw[zN,ih r2,e]
 refine⟨ws.map f,?_,?_⟩
 ·have all':∀ v∈ws,∃ i t,v=Value.int i t:=fun v hv=>all v (hp.mem_iff.mp hv)
  clear hp
  induction ws with
  |nil=>exact .nil
  |cons w ws ih =>
   obtain⟨i,t,e⟩:=all' w (zF ..)
   refine .cons ⟨t,by rw[e]⟩ (ih fun v hv=>all' v (zD _ hv))
 ·rw[<- key r]
  exact hp.map f
theorem call_sortedI:CallR X (.builtin "sorted") (fun xs H Q=>∃ (l:Addr) (ns:List Int),xs=[V.ref l]/\SqL X.K H l (ns.map V.int)/\ns.length<128 /\
  ∀ (l':Addr) (ms:List Int),H l'=none->ms.Perm ns->ms.Pairwise (·<=·)->Q (.ref l') (upd H l' (.lst (ms.map V.int)))):=by
 intro pins s σ H xs us Q I r h
 obtain⟨l,ns,rfl,hq,hlen,q⟩:=h
 obtain⟨u,rfl,rx⟩:=vals1 r
 cases rx
 obtain⟨its,r',pl,hz⟩:=I.list hq
 have li:=r'.length
 rw[zA]at li
 refine Calls.call_function_entry kind_sorted plain_sorted entry_sorted (args_sorted1 _) ?_
 unfold Builtin.«sorted»
 refine zB (m:=checkCount "sorted" 1 1 _) (zG (zB (collect_list pl.isList ?_ (by rw[sizeLine_eq];exact zh9 (zl4 hlen rfl) (Eq.symm li)))))
 generalize hh':(s.heap.push (seqObj "list" #[] 0)).update s.heap.objs.size (Obj.mapSeq (·++its.toArray))=h'
 have kp:∀ b u,s.heap.get? b=some u->h'.get? b=some u:=hh'▸collect_kept
 refine zB (wpAny_newList ?_ (by rw[sizeLine_eq];exact zh9 (zl4 hlen rfl) (Eq.symm li)))
 have gL:(h'.push (seqObj "list" its.toArray 0)).get? h'.objs.size=some (seqObj "list" its.toArray 0):=zV _ rfl
 have I1:Inv X pins σ H { s with heap:=h' }:=I.kept (t':=s.toks) kp
 have kp2:∀ b u,h'.get? b=some u->(h'.push (seqObj "list" its.toArray 0)).get? b=some u:=fun b u e=>zC _ e
 have hI:=intsAre_of r'
 have keys:KeysOf κI (pairsOf its):=fun p hp=>by
  rw[pairsOf_toList]at hp
  obtain⟨e1,e2⟩:=Srt.mem_zip_self hp
  obtain⟨j,hj,e⟩:=zBE e2
  obtain⟨u,g1,t,g2⟩:=r'.get (i:=j) (x:=V.int (ns[j]'(by exact zh8 hj li))) (by rw[zAB,zE (by exact zh8 hj li)];rfl)
  rw[zE hj,e]at g1
  cases g1
  rw[e1,g2]
  exact⟨_,rfl⟩
 refine zB (wpAny_holding (wpAny_call_entry slot_list_sort ⟨_,gL,rfl⟩ entry_list_sort (sort_at (κ:=κI) (kd:=oneType') gL keys (by lia) (fun l2 g k=>⟨ltI_ok,fun R hR=>?_⟩) fun ws g c pw sw kp3 gg=>⟨_,rfl,?_⟩) (args_list_sort _)))
 ·match its,hI,l2 with
  |v1 :: v2 :: rest,hI,_ =>
   rw[keyKind_ints hI]
   exact zG hR
  |[],_,l2=>simp at l2
  |[_],_,l2=>simp at l2
 ·obtain⟨ms,rm,pm⟩:=ints_perm pw r'
  have lw:=rm.length
  rw[zA]at lw
  refine zG ⟨_,rfl,.ref h'.objs.size,_,I1.laid (t':=s.toks) (a:=h'.objs.size) (o:=.lst (ms.map V.int)) (fun b u e=>kp3 b u (zAG (zQ e)) (kp2 b u e)) (zJ _) (show ObjOk X.prog X.w _ g _ (.lst (ms.map V.int))from⟨?_,ws,c,rm,gg⟩),rfl,q _ ms (I1.hok.fresh (zJ _)) pm ?_⟩
  ·rw[zA,pm.length_eq,sizeLine_eq];exact zl4 hlen rfl
  ·rw[zBR]
   intro i j hi hj ij
   have z:=sw i j (zBB ij) (by exact zh7 hj lw)
   have kk:∀ m (hm:m<ms.length),KK κI (pairsOf ws) m=ms[m]:=fun m hm=>by
    obtain⟨u,g1,t,g2⟩:=rm.get (i:=m) (x:=V.int ms[m]) (by rw[zAB,zE hm];rfl)
    have e:(pairsOf ws)[m]?=some (u,u):=by
     have hm':m<ws.length:=by exact zh7 hm lw
     have:ws[m]=u:=by rw[zE hm']at g1;exact Option.some.inj g1
     simp[pairsOf,hm',this]
    unfold KK
    rw[e,g2]
    rfl
   rw[kk i hi,kk j hj]at z
   have z':decide (ms[j]<ms[i])=false:=z
   have:=of_decide_eq_false z'
   lia
end
open PySem PySem.W PyProof.Rows
section
variable{X:Cx}
theorem best_of{ns:List Int}{ys:Array (Int×Tok)}(e1:ns=ys.toList.map (·.1))(hs:0<ys.size){v:Value}(hv:(intItems ys)[argBest (fun i j=>decide (numAt ys i > numAt ys j)) (ys.size-1)]?=some v) :
  ∃ (m:Int) (t:Tok),v = .int m t/\m∈ns/\∀ a∈ns,a<=m:=by
 obtain⟨tk,rfl⟩:=intItems_at hv
 have best:=argBest_gt (numAt ys) (ys.size-1)
 have len:(ys.toList.map (·.1)).length=ys.size:=by simp
 refine⟨_,tk,rfl,?_,fun a ha=>?_⟩
 ·have:=best.1
  rw[numAt_eq,e1]
  exact getD_mem (by omega)
 ·subst e1
  obtain⟨i,hi,z⟩:=mem_getD ha
  have top:=best.2 i (by exact zi6 (zh7 (zh7 hi len) (zh5 hs)))
  rw[numAt_eq ys i,z]at top
  exact top
theorem call_maxL(hc:X.calm=true):CallR X (.builtin "max") (fun xs H Q=>∃ (l:Addr) (ns:List Int),xs=[V.ref l]/\SqL X.K H l (ns.map V.int)/\ns≠[]/\∀ m:Int,m∈ns->(∀ a∈ns,a<=m)->Q (.int m) H):=by
 intro pins s σ H xs us Q I r h
 obtain⟨l,ns,rfl,hq,hne,q⟩:=h
 obtain⟨u,rfl,rx⟩:=vals1 r
 cases rx
 obtain⟨its,r',pl,hz⟩:=I.list hq
 have hi:=intsAre_of r'
 obtain⟨ys,hx⟩:=hi.allInts.items
 have e1:ns=ys.toList.map (·.1):=by
  rw[<- nums_intItems,<- hx]
  exact(show numsOf its.toArray.toList=ns from hi.numsOf).symm
 have hs:0<ys.size:=by
  have:=List.length_pos_iff.mpr hne
  rw[e1,zA,zBK]at this
  exact this
 refine max_intList (I.ok.hd hc) (hx▸pl.isList) hs fun v h' tk hv hk=>?_
 obtain⟨m,t,rfl,hm,hb⟩:=best_of e1 hs hv
 exact⟨.int m,H,I.kept hk,⟨t,rfl⟩,q m hm hb⟩
end
open PySem PySem.W PyProof.Rows Srt
open PySem PySem.W PyProof.Rows HT
end L2
namespace SetA
open PySem
open PySem
open PySem
open PySem
open PySem
open PySem
open PySem
open PySem
open PySem
open PySem L2
open PySem L2
open PySem L2
section
variable{prog:Program}{w:World}{A:Around}{E:Value->Shared->Prop}{s:Shared}{T:List Addr}
noncomputable abbrev newO(led:Bool):Obj:={ cls:=.type "set",dict:=none,data:=.set #[] 0 (.fresh 0 0 led) }
end
open PySem PySem.W PyProof.Rows
noncomputable abbrev byT(w:World):Bool:=w.params.followText "set-order"
theorem cut_perm{α:Type}:∀ (i:Nat) (l:List α) (h:i<l.length),(l[i] :: l.eraseIdx i).Perm l
 | 0,_ :: _,_=>.refl _
 |i+1,x :: l,h=>by
  show(l[i]'(zBS h) :: x :: l.eraseIdx i).Perm _
  exact(List.Perm.swap _ _ _).trans ((cut_perm i l (zBS h)).cons x)
section
variable{prog:Program}{w:World}{A:Around}{E:Value->Shared->Prop}{s:Shared}{a it:Addr}{es:Array (Int×Value)}{ep i:Nat}{t:SetTable}
theorem setsByText_w{Q:Bool->Shared->Prop}(q:Q (byT w) s):wpAny (model prog w) A setsByText Q E s:=by
 unfold setsByText
 exact zB (wpAny_askSetting (zG q))
end
end SetA
namespace L2
open PySem PySem.W PyProof.Rows Srt SetA
open PySem PySem.W PyProof.Rows Srt
noncomputable abbrev sEmp:HO:=.set (fun _=>false) 0
noncomputable def SPut(H:Hp)(a:Addr)(y:V)(H':Hp):Prop:=∃ S n k,H a=some (.set S n)/\n+1<scanBound/\y = .int k/\H'=upd H a (.set (fun k'=>S k' || decide (k'=k)) (if S k then n else n+1))
section
variable{X:Cx}{pins:List (Addr×Obj)}{σ:St}{H:Hp}{s:Shared}{a:Addr}{y:V}{u:Value}{A:Around}{E:Value->Shared->Prop}
theorem s_add{H':Hp}{Q:Value->Shared->Prop}(I:Inv X pins σ H s)(g:SPut H a y H')(ry:RelV y u)(h:∀ s',Inv X pins σ H' s'->Q .none s'):wpAny (model X.prog X.w) A (call (.builtin "set.add") [.ref a,u]) Q E s:=by
 obtain⟨S,n,k,e,l,ey,eH⟩:=g
 subst ey eH
 obtain⟨t,rfl⟩:=ry
 have hs:s.heap.SetOf (intKind X.prog X.w) a S n:=I.hok a _ e
 refine call_set_add (knd:=intKind X.prog X.w) (k:=k) (by simp[intKind,Value.isInt]) rfl hs l fun h' sb hs'=>h _ ?_
 have he:∃ q,h'.get? a=some q:=let ⟨q,_,_,_,hq,_⟩:=hs';⟨q,hq⟩
 exact d_write I (by rw[e];exact True.intro) sb he hs'
end
section
variable{prog:Program}{w:World}{A:Around}{R:Result->Shared->Prop}{s:Shared}
theorem compTurn_set (vx target iter : Expr) (ifs : List Expr) (scope : Scope) (pos : Pos) (it : Value) (D : Addr) (env : Env) : compTurn (.SetComp vx [⟨target, iter, ifs, 0⟩] scope pos) 0 it (.ref D) env = (do
      standAt iter.pos; match ← pyNext it with
      | none => pure (.done .next)
      | some v => letOwnedTupleGo target it v; assign target env v; let mut ok := true
                  for c in ifs do if ok then ok ← isTrue c env (eval c env)
                  if ok then (do let vv ← eval vx env; standAt vx.pos; let _ ← call (.builtin "set.add") [.ref D, vv])
                  again (.compLoop (.SetComp vx [⟨target, iter, ifs, 0⟩] scope pos) 0 it (.ref D) env)) := by rfl
theorem start_set{prog:Program}{w:World}{A:Around}{R:Result->Shared->Prop}{s:Shared}{vx target iter ifs scope pos it acc env}(h0:codeAny (model prog w) A (.compLoop (.SetComp vx [⟨target,iter,ifs,0⟩] scope pos) 0 it acc env) R s)
  (h:wpAny (model prog w) A (pyIter it) (fun it' s'=>codeAny (model prog w) A (.compLoop (.SetComp vx [⟨target,iter,ifs,0⟩] scope pos) 0 it' acc env) R s') (notedBy (model prog w) A env fun x s'=>R (.error x) s') s):codeAny (model prog w) A (.compStart (.SetComp vx [⟨target,iter,ifs,0⟩] scope pos) 0 it acc env) R s:=by
 refine codeAny_of_tree ?_;show wpAny _ A ((compStart (.SetComp vx [⟨target,iter,ifs,0⟩] scope pos) 0 it acc env).onRaise (fun x=>do noteFrame x env;standAt theWindowsPlace)) _ _ s
 refine wpAny_notedAt ?_;unfold compStart;show wpAny _ A (ask >>= _) _ _ s;refine zB (wpAny_askSetting (wpAny_ite ?_));split
 ·first | exact zB (zG (zG (And.intro rfl h0))) | exact zG (And.intro rfl h0)
 ·refine zB (wpAny_rule ?_);show wpAny _ _ (standAt iter.pos >>= _) _ _ s;refine zB (wpAny_standAt (zB (wpAny_mono h (fun it' s' h'=>zG (And.intro rfl h')) fun _ _ x=>x)))
theorem new_set{prog:Program}{w:World}{A:Around}{E:Value->Shared->Prop}{s:Shared}{Q:Value->Shared->Prop}(h:Q (.ref s.heap.objs.size) { s with heap:=s.heap.push (SetA.newO (!w.params.followText "set-order")) }):wpAny (model prog w) A (newSet (.type "set")) Q E s:=by
 unfold newSet
 refine zB (SetA.setsByText_w ?_)
 dsimp only
 simp only[newObj]
 exact zB (wpAny_alloc (zG h))
theorem scompLoop{vx target iter:Expr}{ifs:List Expr}{scope:Scope}{pos:Pos}{it:Value}{D:Addr}{env:Env}(I:Nat->Shared->Prop)
  (turn:∀ n s,I n s->wpAny (model prog w) A (pyNext it) (fun r s₁=>match r with
   |none=>R (.ok .next) s₁
   |some v=>wpAny (model prog w) A (letOwnedTupleGo target it v) (fun _ s₁'=>wpAny (model prog w) A (assign target env v) (fun _ s₂ =>
     wpAny (model prog w) A (forIn ifs true fun c r=>if r=true then do let ok <- isTrue c env (eval c env);pure (ForInStep.yield ok)else pure (ForInStep.yield r)) (fun ok s₃ =>
      if ok=true then wpAny (model prog w) A (eval vx env) (fun vv s₅=>wpAny (model prog w) A (call (.builtin "set.add") [.ref D,vv]) (fun _ s₆=>∃ m,m<n/\I m s₆) (fun _ _=>False) s₅) (fun _ _=>False) s₃
      else ∃ m,m<n/\I m s₃) (fun _ _=>False) s₂) (fun _ _=>False) s₁') (fun _ _=>False) s₁) (fun _ _=>False) s)
  (n:Nat) (h:I n s):codeAny (model prog w) A (.compLoop (.SetComp vx [⟨target,iter,ifs,0⟩] scope pos) 0 it (.ref D) env) R s:=by
 refine codeAny_loop rfl I (fun n s hI=>?_) n h
 show wpAny _ A ((compTurn (.SetComp vx [⟨target,iter,ifs,0⟩] scope pos) 0 it (.ref D) env).onRaise (fun x=>do noteFrame x env;theTreesLotGoes x)) _ _ s
 refine wpAny_noted ?_
 rw[compTurn_set];refine zB (wpAny_standAt (zB (wpAny_mono (turn n s hI) (fun r s₁ h₁=>?_) fun _ _ h'=>h'.elim)))
 cases r with
 |none=>exact zG h₁
 |some v =>
  refine zB (wpAny_mono h₁ (fun _ s₁' h₁'=>?_) fun _ _ h'=>h'.elim);refine zB (wpAny_mono h₁' (fun _ s₂ h₂=>zB (wpAny_mono h₂ (fun ok s₃ h₃=>?_) fun _ _ h'=>h'.elim)) fun _ _ h'=>h'.elim)
  cases ok with
  |false=>exact zG ⟨rfl,h₃⟩
  |true =>
   refine zB (zB (wpAny_mono h₃ (fun vv s₅ h₅=>zB (wpAny_standAt (zB (wpAny_mono h₅ (fun _ s₆ h₆=>zG (zG ⟨rfl,h₆⟩)) fun _ _ h'=>h'.elim)))) fun _ _ h'=>h'.elim))
end
noncomputable def scompTurns(J:It)(cap:List (Option Nat))(σ:St)(H1:Hp)(D:Addr)(Q:VK)(g:TG)(tc:TT)(tv:TE):Prop:=∃ (n:Nat) (P:Nat->Hp->Prop),P 0 H1 /\
 ∀ i H,i<=n->P i H->(J.stop i H/\Q (.ref D) H) \/
  (i<n/\J.go i H/\∀ x H',J.yld i H x H'->g x (capt cap σ) H' fun σ2 H2=>Kp (capt cap σ) σ2/\tc σ2 H2 fun b H3=>if b=true then tv σ2 H3 fun y H5=>∃ H6,SPut H5 D y H6/\P (i+1) H6 else P (i+1) H3)
noncomputable def tSComp(cap:List (Option Nat))(wi:TI)(g:TG)(tc:TT)(tv:TE):TE:=fun σ H Q=>wi σ H fun J H1=>∀ D,H1 D=none->scompTurns J cap σ (upd H1 D sEmp) D Q g tc tv
section
variable{X:Cx}{vx tg iter:Expr}{ifs:List Expr}{scope:Scope}{pos:Pos}{N':List Str}{cap:List (Option Nat)}{wi:TI}{g:TG}{tc:TT}{tv:TE}
theorem scomp_run(hc:X.calm=true)(S:CompScope N' cap X.N X.env.scope scope)(hi:PI X tg iter wi)(hg:∀ C s H fp,PG (cxIn X N' scope C s H fp) tg g)
  (ht:∀ C s H fp,PF (cxIn X N' scope C s H fp) ifs tc) (he:∀ C s H fp,PE (cxIn X N' scope C s H fp) vx tv)
  {pins:List (Addr×Obj)}{s:Shared}{σ:St}{H:Hp}{Q:VK} (I:Inv X pins σ H s) (h:tSComp cap wi g tc tv σ H Q) :
  wpAny (model X.prog X.w) X.A (eval iter X.env) (fun x s₁=>wpAny (model X.prog X.w) X.A (pyIter x) (fun it s₂=>wpAny (model X.prog X.w) X.A (newSet (.type "set")) (fun acc s₃ =>
   wpAny (model X.prog X.w) X.A (newFunctionEnv scope X.env.globals (closCl X.env.cells scope.names []) [] X.env.qual none .none (some X.env)) (fun cenv s₄ =>
    codeAny (model X.prog X.w) X.A (.compStart (.SetComp vx [⟨tg,iter,ifs,0⟩] scope pos) 0 it acc { cenv with scope:=relabel scope X.env }) (CompEnd X pins σ Q acc cenv.locals) s₄) X.xe s₃) X.xe s₂) X.xe s₁) X.xe s:=by
 refine thn (hi pins s σ H _ I h) fun v s1 h1=>thn h1 fun itv s2 h2=>?_
 obtain⟨it,fp,tn,J,H2,e,I2,T,st2,f2,turns⟩:=h2
 subst e
 obtain⟨n,P,p0,turn⟩:=turns s2.heap.objs.size (I2.hok.fresh (zJ _))
 refine new_set (wpAny_newFunctionEnv S.nocell (by intro y hy;simp at hy) (fun h₁ hns₁ hsb₁=>?_) S.kind)
 dsimp only at hns₁ hsb₁ ⊢
 generalize hHp:s2.heap.push (SetA.newO (!X.w.params.followText "set-order"))=Hq at hns₁ hsb₁ ⊢
 have hC:Hq.objs.size=s2.heap.objs.size+1:=by rw[<- hHp,Heap.size_push]
 have hDC:s2.heap.objs.size≠Hq.objs.size:=by rw[hC];exact zAG (Nat.lt_succ_self _)
 have hCle:s2.heap.objs.size<=Hq.objs.size:=by rw[hC];exact Nat.le_succ _
 have old:∀ b o,s2.heap.get? b=some o->h₁.get? b=some o:=fun b o e =>
  hsb₁.extBut b o (by rw[hC];exact zAG (zCG (zQ e))) (zC _ (hHp▸zC _ e))
 have hacc:h₁.get? s2.heap.objs.size=some (SetA.newO (!X.w.params.followText "set-order")):=hsb₁.extBut _ _ hDC (zC _ (hHp▸zV _ rfl))
 have hfo:∀ b∈fp,∃ o,s2.heap.get? b=some o:=fun b hb=>let ⟨o,e,_⟩:=T.obj _ _ st2 b hb;⟨o,e⟩
 have st4:tn 0 h₁:=T.keep _ _ _ st2 fun b _ o e=>old b o e
 let D:Addr:=s2.heap.objs.size
 let C:Addr:=Hq.objs.size
 let Y:Cx:=cxIn X N' scope C s2 H2 fp
 have hDfp:D∉fp:=fun hb=>by
  obtain⟨o,e⟩:=hfo D hb
  exact zAM _ (zQ e)
 have stat:∀ {H':Hp},(∀ b∈fp,H' b=none)->∀ b∈fp,FpOk Y pins H' b:=fun {H'} hn b hb=>by
  obtain⟨f0,f1,fx,f3,f4,f5⟩:=f2 b hb
  obtain⟨o,e⟩:=hfo b hb
  refine⟨hn b hb,fun z=>?_,fun z=>?_,.inl hb,fun x c e=>f4 x c (closCl_sound _ _ (S.clos I2) (fun y c e=>by simp at e) x c e),f5⟩
  ·have h1:=zZ (zQ e) hCle
   have z:b=Hq.objs.size:=z
   rw[z]at h1
   exact zAM _ h1
  ·rcases zW.mp (I2.stkSub b z)with e | e
   ·exact f1 e
   ·exact fx e
 have loop:∀ s₃:Shared,s₃ = { s2 with heap:=h₁,toks:=s2.toks+([]:List (Str×Value)).length } ->
   codeAny (model X.prog X.w) X.A (.compLoop (.SetComp vx [⟨tg,iter,ifs,0⟩] scope pos) 0 (.ref it) (.ref s2.heap.objs.size) (compEnvC scope (closCl X.env.cells scope.names []) Hq.objs.size X.env))
    (CompEnd X pins σ Q (.ref s2.heap.objs.size) Hq.objs.size) s₃:=by
  rintro s₃ rfl
  have inF:∀ {pl:List (Addr×Obj)}{p:Addr×Obj},p∈pl->p∈Y.pn++(pins++pl):=fun {pl p} hp=>zL _ (zL _ hp)
  refine scompLoop (fun m s'=>∃ i H',m=n-i/\i<=n/\Inv Y pins (capt cap σ) H' s'/\tn i s'.heap/\(∀ b∈fp,H' b=none)/\P i H') ?_ n ?_
  ·rintro m s3 ⟨i,H3,rfl,hin,I3,st3,fr3,p3⟩
   rcases turn i H3 hin p3 with⟨stop,q⟩ |⟨hlt,go,step⟩
   ·refine thn (T.done Y rfl rfl rfl hc i _ s3 _ H3 (fun _ _=>False) I3 (stat fr3) st3 stop) fun r s4 ⟨hr,I4⟩=>?_
    subst hr
    have IX:Inv X pins σ H3 s4:=I2.call' (ch:=fp) I4.os I4.base I4.hok I4.bare fun b hb=>by
     obtain⟨f0,f1,fx,f3,f4,f5⟩:=f2 b hb
     exact⟨f3,f1,f4,f5⟩
    obtain⟨m',hm',_⟩:=I4.loc
    exact⟨.ref D,_,IX,rfl,q,⟨m',hm'⟩,I2.fpOk hCle I4.free⟩
   ·refine thn (T.item Y rfl rfl rfl hc i _ s3 _ H3 (fun _ _=>False) I3 (stat fr3) st3 go) fun r s4 ⟨u,hr,h4⟩=>?_
    subst hr
    refine thn h4 fun _ s5 ⟨x,H5,I5,r5,y5,st5,fr5⟩=>?_
    have I5':=I5.pinned (stat fr5) (T.obj _ _ st5)
    refine thn (hg C s2 H2 fp _ s5 _ H5 x u _ I5' r5 (step x H5 y5)) fun _ s6 ⟨σ6,H6,I6,kp,q6⟩=>?_
    refine thn (ht C s2 H2 fp _ s6 σ6 H6 _ I6 q6) fun b s7 ⟨H7,I7,q7⟩=>?_
    cases b with
    |false =>
     rw[if_neg zT]at q7 ⊢
     refine⟨n-(i+1),zBH n i hlt,i+1,H7,rfl,hlt,I7.unpinned.weak kp.length kp.get,?_,fun b hb=>?_,q7⟩
     ·exact T.keep _ _ _ st5 fun b hb o e=>(I7.pin (b,o) (inF (mem_pinsAt hb e))).1
     ·obtain⟨o,e,d⟩:=T.obj _ _ st5 b hb
      exact(I7.pin (b,o) (inF (mem_pinsAt hb e))).2.1
    |true =>
     rw[if_pos rfl]at q7 ⊢
     refine thn (he C s2 H2 fp _ s7 σ6 H7 _ I7 q7) fun yv s9 ⟨y,H9,I9,r9,H10,dp,q9⟩=>?_
     refine s_add (X:=Y) I9 dp r9 fun s10 I10=>?_
     refine⟨n-(i+1),zBH n i hlt,i+1,H10,rfl,hlt,I10.unpinned.weak kp.length kp.get,?_,fun b hb=>?_,q9⟩
     ·exact T.keep _ _ _ st5 fun b hb o e=>(I10.pin (b,o) (inF (mem_pinsAt hb e))).1
     ·obtain⟨o,e,d⟩:=T.obj _ _ st5 b hb
      exact(I10.pin (b,o) (inF (mem_pinsAt hb e))).2.1
  ·have I4:=cxIn_inv (s4:={ s2 with heap:=h₁,toks:=s2.toks+([]:List (Str×Value)).length }) S I2 hCle f2 hfo rfl rfl old hns₁ hacc (zJ _) hDC fun v z=>by cases z
   obtain⟨_,pD1,pD2,pD3,_⟩:=I4.pin (D,(SetA.newO (!X.w.params.followText "set-order"))) (zL _ (zL _ (zH.mpr rfl)))
   have I5:Inv Y pins (capt cap σ) H2 { s2 with heap:=h₁,toks:=s2.toks+([]:List (Str×Value)).length }:=I4.pins_of fun p hp=>I4.pin p (zL _ (zAQ _ hp))
   have fD:FpOk Y pins H2 D:=⟨pD1,pD2,pD3,.inr (zJ _),fun x c e z=>by
    obtain⟨v,q⟩:=I2.cell x c (closCl_sound _ _ (S.clos I2) (fun y c e=>by simp at e) x c e)
    have h1:=q.lt
    rw[show c=s2.heap.objs.size from z]at h1
    exact zAM _ h1,fun p hp z=>by
    have h1:=zQ (I2.pin p hp).1
    rw[show p.1=s2.heap.objs.size from z]at h1
    exact zAM _ h1⟩
   have new:ObjOk X.prog X.w (upd H2 D sEmp) h₁ D sEmp:=⟨_,#[],0,_,hacc,⟨rfl,rfl,rfl⟩,rfl,(fun e he=>by simp at he),fun k=>by simp,by decide,rfl,rfl⟩
   refine⟨0,upd H2 D sEmp,rfl,zAT _,I5.track fD new,st4,fun b hb=>?_,p0⟩
   rw[upd_ne (fun z=>hDfp (by rw[<- z];exact hb))]
   exact(f2 b hb).1
 exact start_set (loop _ rfl) (T.self X.A 0 _ _ _ st4 (loop _ rfl))
theorem pe_scomp(hc:X.calm=true)(S:CompScope N' cap X.N X.env.scope scope)(hi:PI X tg iter wi)(hg:∀ C s H fp,PG (cxIn X N' scope C s H fp) tg g)
  (ht:∀ C s H fp,PF (cxIn X N' scope C s H fp) ifs tc) (he:∀ C s H fp,PE (cxIn X N' scope C s H fp) vx tv)
  (hs:∀ x,foldedSetIterable iter X.env x=pure x:=by intro _;rfl):PE X (.SetComp vx [⟨tg,iter,ifs,0⟩] scope pos) (tSComp cap wi g tc tv):=by
 intro pins s σ H Q I h
 rw[arm_eval_SetComp]
 refine wpAny_comprehension_free (use:=none) rfl hs (closureFor_cells (S.clos I)) S.kind S.loc (thn (scomp_run (pos:=pos) hc S hi hg ht he I h) fun x s1 h1=>thn h1 fun it s2 h2=>thn h2 fun acc s3 h3=>thn h3 fun cenv s4 h4=>?_)
 refine codeAny_mono h4 fun r s' hr=>?_
 cases r with
 |error x=>exact hr.elim
 |ok f =>
  obtain⟨v,H',I',rv,q,⟨m,hn⟩,f0,f1,f2,f3,f4,f5⟩:=hr
  refine⟨m,hn,fun h' sb=>⟨v,H',I'.turned (it:=cenv.locals) (t':=s'.toks) (fun b o hb e=>(sb.2 b hb).trans e) f0 f1 f3 f4 f5,rv,q⟩⟩
end
open PySem PySem.W PyProof.Rows Srt
noncomputable def nubF(σ:List Int)(ns:List Int):List Int:=ns.foldl step_dedup σ
noncomputable abbrev nub(ns:List Int):List Int:=nubF [] ns
theorem step_nub(σ:List Int)(v:Int):step_dedup σ v=if v∈σ then σ else σ++[v]:=by
 unfold step_dedup
 by_cases h:v∈σ
 ·rw[if_pos h,if_pos (List.any_eq_true.mpr ⟨v,h,by simp⟩)]
 ·rw[if_neg h,if_neg fun z=>by
   obtain⟨x,hx,e⟩:=List.any_eq_true.mp z
   rw[show v=x by simpa using(beq_iff_eq.mp e).symm]at h
   exact h hx]
theorem nubF_snoc{σ ns:List Int}{v:Int}:nubF σ (ns++[v])=if v∈nubF σ ns then nubF σ ns else nubF σ ns++[v]:=by
 unfold nubF
 rw[List.foldl_append,List.foldl_cons,List.foldl_nil,step_nub]
theorem nubF_spec:∀ (ns σ:List Int),σ.Nodup->(nubF σ ns).Nodup/\(∀ x,x∈nubF σ ns↔x∈σ\/x∈ns)/\(nubF σ ns).length<=σ.length+ns.length/\((nubF σ ns).length=σ.length+ns.length↔(σ++ns).Nodup)
 |[],σ,h=>⟨h,fun x=>⟨.inl,fun z=>z.elim id (fun y=>nomatch y)⟩,zJ _,⟨fun _=>by rw[zBP];exact h,fun _=>rfl⟩⟩
 |v :: ns,σ,h=>by
  show(nubF (step_dedup σ v) ns).Nodup/\_
  have e:nubF σ (v :: ns)=nubF (step_dedup σ v) ns:=rfl
  rw[e,step_nub]
  by_cases hv:v∈σ
  ·rw[if_pos hv]
   obtain⟨i1,i2,i3,i4⟩:=nubF_spec ns σ h
   refine⟨i1,fun x=>?_,by rw[zAO];lia,?_⟩
   ·rw[i2 x,zW]
    exact⟨fun z=>z.elim .inl (fun y=>.inr (.inr y)),fun z=>z.elim .inl (fun y=>y.elim (fun q=>.inl (q▸hv)) .inr)⟩
   ·rw[zAO]
    refine⟨fun z=>by lia,fun z=>?_⟩
    exact absurd rfl ((zCH.mp z).2.2 v hv v (zF ..))
  ·rw[if_neg hv]
   have h':(σ++[v]).Nodup:=zCH.mpr ⟨h,by simp,fun a ha b hb=>by
    rw[zH.mp hb]
    exact fun z=>hv (z▸ha)⟩
   obtain⟨i1,i2,i3,i4⟩:=nubF_spec ns (σ++[v]) h'
   rw[zO,List.length_singleton]at i3 i4
   refine⟨i1,fun x=>?_,by rw[zAO];lia,?_⟩
   ·rw[i2 x,zX,zH,zW,or_assoc]
   ·rw[zAO,show σ++v :: ns=σ++[v]++ns by simp,<- i4]
    lia
theorem nub_len(ns:List Int):(nub ns).length=ns.length↔ns.Nodup:=by
 have:=(nubF_spec ns [] zCN).2.2.2
 simpa using this
theorem nub_le(ns:List Int):(nub ns).length<=ns.length:=by
 have:=(nubF_spec ns [] zCN).2.2.1
 simpa using this
noncomputable def setI(ns:List Int):HO:=.set (fun k=>decide (k∈nub ns)) (nub ns).length
theorem setI_snoc(ns:List Int)(v:Int){S:Int->Bool}{n:Nat}(e1:S=fun k=>decide (k∈nub ns))(e2:n=(nub ns).length):HO.set (fun k'=>S k' || decide (k'=v)) (if S v then n else n+1)=setI (ns++[v]):=by
 subst e1 e2
 unfold setI nub
 rw[nubF_snoc]
 by_cases h:v∈nubF [] ns
 ·rw[if_pos h,if_pos (by simpa using h)]
  congr 1
  funext k
  by_cases z:k=v
  ·subst z;simp[h]
  ·simp[z]
 ·rw[if_neg h,if_neg (by simpa using h),zO,List.length_singleton]
  congr 1
  funext k
  by_cases z:k=v
  ·subst z;simp
  ·simp[z]
theorem sput_I{H:Hp}{D:Addr}{ns:List Int}{v:Int}(h:H D=some (setI ns))(l:ns.length+1<scanBound):SPut H D (.int v) (upd H D (setI (ns++[v]))) :=
 ⟨_,_,v,h,zAR (Nat.add_le_add_right (nub_le ns) 1) l,rfl,by rw[setI_snoc ns v rfl rfl]⟩
section
variable{X:Cx}
theorem call_lenS:CallR X (.builtin "len") (fun xs H Q=>∃ a ns,xs=[V.ref a]/\H a=some (setI ns)/\Q (.int (nub ns).length) H):=by
 intro pins s σ H xs us Q I r h
 obtain⟨a,ns,rfl,ha,q⟩:=h
 obtain⟨u,rfl,ru⟩:=vals1 r
 cases ru
 have x:s.heap.SetOf (intKind X.prog X.w) a _ _:=I.hok a _ ha
 obtain⟨o,es,ep,t,ho,hex,hd,_,_,hb,hf,hn⟩:=x
 refine call_len_set ho hex hd hf (by unfold scanBound at hb;lia) ?_
 exact⟨.int (nub ns).length,H,I.tok _,⟨_,by rw[hn]⟩,q⟩
end
open PySem PySem.W PyProof.Rows
noncomputable def sqO:Bool->List V->HO
 |true,xs=>.tup xs
 |false,xs=>.lst xs
theorem sq_or{b:Bool}{K:PySem.W.Frag}{H:Hp}{a:Addr}{xs:List V}(h:H a=some (sqO b xs)):SqL K H a xs\/SqT K H a xs:=by
 cases b
 ·exact .inl (SqL.of h)
 ·exact .inr (SqT.of h)
section
variable{X:Cx}
inductive rIxLhI(x:V)(y:V)(H:Hp)(Q:VK):Prop where
 |mk (p:_) (xs:_) (i:_) (v:_) (h1:x = .ref p) (h2:y = .int i) (h3:H p=some (.lst xs)) (h4:atI xs i=some v) (h5:Q v H)
noncomputable def rIxLh:R2:=fun x y H Q=>rIxLhI x y H Q
inductive rIxThI(x:V)(y:V)(H:Hp)(Q:VK):Prop where
 |mk (p:_) (xs:_) (i:_) (v:_) (h1:x = .ref p) (h2:y = .int i) (h3:H p=some (.tup xs)) (h4:atI xs i=some v) (h5:Q v H)
noncomputable def rIxTh:R2:=fun x y H Q=>rIxThI x y H Q
theorem ix_listH:IxR X rIxLh:=by
 intro value slice pins s σ H x y v u Q I rx ry h hs
 obtain⟨p,xs,i,z,rfl,rfl,hp,he,q⟩:=h
 exact ix_list value slice pins s σ H _ _ v u Q I rx ry ⟨p,xs,i,z,rfl,rfl,SqL.of hp,he,q⟩ hs
theorem ix_tupH:IxR X rIxTh:=by
 intro value slice pins s σ H x y v u Q I rx ry h hs
 obtain⟨p,xs,i,z,rfl,rfl,hp,he,q⟩:=h
 exact ix_tup value slice pins s σ H _ _ v u Q I rx ry ⟨p,xs,i,z,rfl,rfl,SqT.of hp,he,q⟩ hs
theorem call_lenH:CallR X (.builtin "len") (fun xs H Q=>∃ p ys,xs=[.ref p]/\H p=some (.lst ys)/\Q (.int ys.length) H):=by
 intro pins s σ H xs us Q I r h
 obtain⟨p,ys,rfl,hp,q⟩:=h
 exact call_len_seq pins s σ H _ us Q I r ⟨p,ys,rfl,.inl (SqL.of hp),q⟩
theorem call_tupleH:CallR X (.type "tuple") (fun xs H Q=>∃ p ys,xs=[.ref p]/\H p=some (.lst ys)/\∀ l,H l=none->Q (.ref l) (upd H l (.tup ys))):=by
 intro pins s σ H xs us Q I r h
 obtain⟨p,ys,rfl,hp,q⟩:=h
 exact call_tuple_of pins s σ H _ us Q I r ⟨p,ys,rfl,.inl ⟨SqL.of hp,q⟩⟩
theorem call_listH(b:Bool):CallR X (.type "list") (fun xs H Q=>∃ p ys,xs=[.ref p]/\H p=some (sqO b ys)/\∀ l,H l=none->Q (.ref l) (upd H l (.lst ys))):=by
 intro pins s σ H xs us Q I r h
 obtain⟨p,ys,rfl,hp,q⟩:=h
 exact call_list_of pins s σ H _ us Q I r ⟨p,ys,rfl,sq_or hp,q⟩
theorem call_sumH(hc:X.calm=true):CallR X (.builtin "sum") (fun xs H Q=>∃ (l:Addr) (ns:List Int),xs=[V.ref l]/\H l=some (.lst (ns.map V.int))/\Q (.int ns.sum) H):=by
 intro pins s σ H xs us Q I r h
 obtain⟨p,ys,rfl,hp,q⟩:=h
 exact call_sum hc pins s σ H _ us Q I r ⟨p,ys,rfl,SqL.of hp,q⟩
theorem call_maxLH(hc:X.calm=true):CallR X (.builtin "max") (fun xs H Q=>∃ (l:Addr) (ns:List Int),xs=[V.ref l]/\H l=some (.lst (ns.map V.int))/\ns≠[]/\∀ m:Int,m∈ns->(∀ a∈ns,a<=m)->Q (.int m) H):=by
 intro pins s σ H xs us Q I r h
 obtain⟨p,ys,rfl,hp,n0,q⟩:=h
 exact call_maxL hc pins s σ H _ us Q I r ⟨p,ys,rfl,SqL.of hp,n0,q⟩
inductive rInQI(b n:Bool)(x:V)(y:V)(H:Hp)(Q:VK):Prop where
 |mk (p:_) (xs:_) (h1:y = .ref p) (h2:H p=some (sqO b xs)) (h3:flatV x=true) (h4:xs.all flatV=true) (h5:Q (.bl (if n=true then !inV x xs else inV x xs)) H)
noncomputable def rInQ(b n:Bool):R2:=fun x y H Q=>rInQI b n x y H Q
theorem op_inQ(b:Bool):OpR X (compareOp .In) (rInQ b false):=by
 intro pins s σ H x y v u Q I rx ry h
 obtain⟨p,xs,rfl,hp,fx,fs,q⟩:=h
 exact op_in_seq pins s σ H x _ v u Q I rx ry ⟨p,xs,rfl,sq_or hp,fx,fs,q⟩
theorem op_inH:OpR X (compareOp .In) (rInQ false false):=op_inQ false
noncomputable def tBMh(r:V->List V->Hp->VK->Prop)(to:TE)(t:TA):TE:=fun σ H Q=>to σ H fun x H1=>(∃ p xs,x = .ref p/\H1 p=some (.lst xs))/\t σ H1 fun xs H2=>r x xs H2 Q
theorem pe_bmH{id:String}{name:Str}{r:V->List V->Hp->VK->Prop}{o e:Expr}{es:List Expr}{to:TE}{t:TA}{apos cpos:Pos}(slot:Slot "list" name id)(hty:typeOf (.builtin id)=pure (.type "method_descriptor"))(hm:MtR X id r)(ho:PE X o to)(ha:PA X (e :: es) t)(hbase:attributeBase o name X.env (eval o X.env)=eval o X.env:=by rfl)
  (hfew:((backTo cpos (starEach (e :: es) X.env)).all (fun x=>!x.1) && (backToKw cpos (keywordEach [] X.env)).all (fun x=>x.1.isSome) && decide ((e :: es).length+([]:List Keyword).length+(if([]:List Keyword).isEmpty then 0 else 1)<30))=true:=by rfl) (hline:(apos.endLine == cpos.line)=true:=by rfl)
  (hs:starEach (e :: es) X.env=(false,eval e X.env) :: starEach es X.env:=by rfl) (hplain:(backTo cpos (starEach es X.env)).any (·.1)=false:=by rfl):PE X (.Call (.Attribute o name apos) (e :: es) [] cpos) (tBMh r to t):=by
 intro pins s σ H Q I h
 refine wpAny_Call_method_late hbase hfew hline rfl (thn (ho pins s σ H _ I h) fun v s1 ⟨x,H1,I1,r1,⟨p,xs,ex,hx⟩,q1⟩=>?_)
 subst ex
 obtain⟨h1,h2⟩:=tyV_is (T:="list") I1 r1 (.inl ⟨rfl,xs,SqL.of hx⟩)
 refine⟨"list",id,PySem.F.plainAttrs_list,slot,hty,h1,h2,?_⟩;have hA:=ha cpos pins s1 σ H1 _ I1 q1
 rw[hs]at hA ⊢;refine Calls.callWith_builtin (by show(false ||(backTo cpos (starEach es X.env)).any (·.1))=false;rw[hplain] <;> rfl) (Calls.evalArgs_plain (thn hA fun us s2 ⟨vs,H2,I2,r2,q2⟩=>?_))
 exact hm pins s2 σ H2 _ vs v us Q I2 r1 r2 q2
end
open PySem PySem.W PyProof.Rows
theorem star_un{op:UnaryOp}{a:Expr}{pos:Pos}{es:List Expr}{env:Env}:starEach (.UnaryOp op a pos :: es) env=(false,eval (.UnaryOp op a pos) env) :: starEach es env:=rfl
theorem pa_un{X:Cx}{a:Expr}{op:UnaryOp}{pos:Pos}{es:List Expr}{te:TE}{t:TA}(ha:PE X (.UnaryOp op a pos) te)(hr:PA X es t):PA X (.UnaryOp op a pos :: es) (tCons te t):=pa_cons ha hr (hs:=star_un)
open PySem PySem.W PyProof.Rows
open PySem PySem.W PyProof.Rows
open PySem PySem.Spec PyProof.Rows
open PySem PySem.W PyProof.Rows
end L2
namespace Shr
structure Rel(f:Int×Int)(N D:Int):Prop where
 pos:0<f.2
 eq:f.1 * D=N * f.2
structure Is(f:Int×Int)(N D:Int):Prop extends Rel f N D where
 cop:Int.gcd f.1 f.2=1
theorem dvd_cop{a b c:Int}(h:a ∣ b * c)(g:Int.gcd b a=1):a ∣ c:=by
 rw[<- Int.natAbs_dvd_natAbs]at h ⊢
 rw[Int.natAbs_mul]at h
 refine Nat.Coprime.dvd_of_dvd_mul_left ?_ h
 show Nat.gcd a.natAbs b.natAbs=1
 rw[Nat.gcd_comm]
 exact g
theorem Is.one{f g:Int×Int}{N D:Int}(hD:0<D)(a:Is f N D)(b:Is g N D):f=g:=by
 obtain⟨x,y⟩:=f
 obtain⟨u,v⟩:=g
 have y0:0<y:=a.pos
 have v0:0<v:=b.pos
 have e1:x * D=N * y:=a.eq
 have e2:u * D=N * v:=b.eq
 have cr:x * v=u * y:=by
  refine Int.eq_of_mul_eq_mul_right (a:=D) (by lia) ?_
  calc x * v * D=x * D * v:=by rw[zAD,zAX v D,<- zAD]
   _=N * y * v:=by rw[e1]
   _=N * v * y:=by rw[zAD,zAX y v,<- zAD]
   _=u * D * y:=by rw[e2]
   _=u * y * D:=by rw[zAD,zAX D y,<- zAD]
 have d1:y ∣ v:=dvd_cop (b:=x) (by rw[cr];exact Int.dvd_mul_left _ _) a.cop
 have d2:v ∣ y:=dvd_cop (b:=u) (by rw[<- cr];exact Int.dvd_mul_left _ _) b.cop
 have ey:y=v:=Int.dvd_antisymm (by lia) (by lia) d1 d2
 subst ey
 have:x=u:=Int.eq_of_mul_eq_mul_right (a:=y) (by lia) cr
 rw[this]
noncomputable def nf(t b:Int):Int×Int:=(t / (Int.gcd t b:Int),b / (Int.gcd t b:Int))
theorem gcd_pos{t b:Int}(hb:0<b):0<Int.gcd t b:=Int.gcd_pos_of_ne_zero_right t (by lia)
theorem nf_rel{t b N D:Int}(hb:0<b)(e:t * D=N * b):Is (nf t b) N D:=by
 have gp:=gcd_pos (t:=t) hb
 have h1:t / (Int.gcd t b:Int) * (Int.gcd t b:Int)=t:=zCI (zCK t b)
 have h2:b / (Int.gcd t b:Int) * (Int.gcd t b:Int)=b:=zCI (Int.gcd_dvd_right t b)
 have cop:=Int.gcd_ediv_gcd_ediv_gcd gp
 refine⟨⟨?_,?_⟩,cop⟩
 ·show 0<b / (Int.gcd t b:Int)
  generalize (Int.gcd t b)=g at gp h2
  exact Int.ediv_pos_of_pos_of_dvd hb (by exact zAY g) ⟨b / (g:Int),by rw[zAX];exact h2.symm⟩
 ·show t / (Int.gcd t b:Int) * D=N * (b / (Int.gcd t b:Int))
  generalize (t / (Int.gcd t b:Int))=x at h1
  generalize (b / (Int.gcd t b:Int))=y at h2
  generalize (Int.gcd t b)=g at gp h1 h2
  refine Int.eq_of_mul_eq_mul_right (a:=(g:Int)) (by lia) ?_
  calc x * D * g=x * g * D:=by rw[zAD,zAX D,<- zAD]
   _=N * (y * g):=by rw[h1,h2,e]
   _=N * y * g:=by rw[zAD]
noncomputable def plus(f g:Int×Int):Int×Int:=nf (f.1 * g.2+g.1 * f.2) (f.2 * g.2)
theorem Rel.plus{f g:Int×Int}{N M D:Int}(a:Rel f N D)(b:Rel g M D):Is (plus f g) (N+M) D:=by
 refine nf_rel (Int.mul_pos a.pos b.pos) ?_
 have e1:=a.eq
 have e2:=b.eq
 calc (f.1 * g.2+g.1 * f.2) * D=f.1 * D * g.2+g.1 * D * f.2:=by rw[Int.add_mul,zAD,zAX g.2 D,<- zAD,zAD g.1,zAX f.2 D,<- zAD]
  _=N * f.2 * g.2+M * g.2 * f.2:=by rw[e1,e2]
  _=(N+M) * (f.2 * g.2):=by rw[Int.add_mul,zAD,zAD M,zAX g.2 f.2]
theorem Is.below{f:Int×Int}{N D:Int}(hD:0<D)(a:Is f N D):f.2<=D:=Int.le_of_dvd hD (dvd_cop (b:=f.1) (by rw[a.eq];exact Int.dvd_mul_left _ _) a.cop)
theorem Rel.top{f:Int×Int}{N D:Int}(hD:0<D)(a:Rel f N D)(le:f.2<=D):f.1.natAbs<=N.natAbs:=by
 have e:=congrArg Int.natAbs a.eq
 rw[Int.natAbs_mul,Int.natAbs_mul]at e
 have p:=a.pos
 by_cases c:f.1.natAbs<=N.natAbs
 ·exact c
 ·exfalso
  have h1:N.natAbs * f.2.natAbs<=N.natAbs * D.natAbs:=Nat.mul_le_mul_left _ (by omega)
  have h2:N.natAbs * D.natAbs<f.1.natAbs * D.natAbs:=Nat.mul_lt_mul_of_pos_right (by lia) (by omega)
  lia
theorem gcd_step(a b:Int)(ha:0<=a)(hb:0<b):Int.gcd b (a % b)=Int.gcd a b:=by
 obtain⟨a,rfl⟩:∃ n:Nat,a=n:=⟨a.toNat,by exact zh3 ha⟩
 obtain⟨b,rfl⟩:∃ n:Nat,b=n:=⟨b.toNat,by lia⟩
 rw[<- Int.natCast_emod]
 show Nat.gcd b (a % b)=Nat.gcd a b
 rw[Nat.gcd_comm a b,Nat.gcd_rec b a,Nat.gcd_comm]
end Shr
namespace L2
open PySem PySem.W PyProof.Rows
noncomputable def fitsB(k:Nat)(i:Int):Prop:=i.natAbs<2 ^ k
theorem fitsB.mono{j k:Nat}{i:Int}(h:fitsB j i)(l:j<=k):fitsB k i:=zZ h (Nat.pow_le_pow_right (by decide) l)
theorem fitsB.mul{j k:Nat}{x y:Int}(h:fitsB j x)(h':fitsB k y):fitsB (j+k) (x * y):=by
 unfold fitsB at *
 rw[Int.natAbs_mul,Nat.pow_add]
 rcases Nat.eq_zero_or_pos x.natAbs with z | z
 ·rw[z,Nat.zero_mul]
  exact Nat.mul_pos (Nat.pow_pos (by decide)) (Nat.pow_pos (by decide))
 ·exact zZ (Nat.mul_lt_mul_of_pos_left h' z) (Nat.mul_le_mul_right _ (zBB h))
theorem fitsB.add{k:Nat}{x y:Int}(h:fitsB k x)(h':fitsB k y):fitsB (k+1) (x+y):=by
 unfold fitsB at *
 have:=Int.natAbs_add_le x y
 rw[Nat.pow_succ]
 lia
theorem fitsB.le{k:Nat}{x y:Int}(h:fitsB k y)(l:x.natAbs<=y.natAbs):fitsB k x:=zAR l h
theorem log2_fits{k:Nat}{i:Int}(h:fitsB k i)(k0:0<k):i.natAbs.log2<k:=by
 rcases Nat.eq_zero_or_pos i.natAbs with h0 | hp
 ·rw[h0]
  exact k0
 ·exact(Nat.log2_lt (zBL hp)).mpr h
theorem bits_fits{i:Int}(h:fitsB 8000 i):Builtin.Int.intBits i<=2 ^ 20:=by
 unfold Builtin.Int.intBits
 have:=log2_fits h (by decide)
 split
 ·exact zAT _
 ·have e:(8000:Nat)<=2 ^ 20:=by decide
  exact zn5 (zl3 this rfl)
noncomputable def CMulB(i j:Int):Prop:=fitsB 8000 i/\fitsB 8000 j
noncomputable def CDivB(i j:Int):Prop:=0<j/\fitsB 8000 j
section
variable{X:Cx}
theorem op_mulB:OpR X (binaryOp .Mult) (rI CMulB fun i j=>.int (i * j)):=opI fun _ _ _ _ _ _ _ hc q=>mul_int q (IntMulOk.of_bits (bits_fits hc.1) (bits_fits hc.2))
theorem op_fdivB:OpR X (binaryOp .FloorDiv) (rI CDivB fun i j=>.int (i / j)):=opI fun i j _ _ _ _ _ hc q=>by
 have h1:(0:Int)<j:=hc.1
 exact floordiv_int (by lia) (by rw[Int.fdiv_eq_ediv_of_nonneg i (by lia)];exact q) (.inl (PyProof.noPylong_of_log2 (zZ (log2_fits hc.2 (by decide)) (by decide))))
end
end L2
namespace Shr
open L2
noncomputable def lcmS(d u:Int):Int:=d / ((Int.gcd d u:Nat):Int) * u
theorem lcmS_left{d u:Int}(hu:0<u):d ∣ lcmS d u:=by
 have g0:=gcd_pos (t:=d) hu
 obtain⟨k,hk⟩:=Int.gcd_dvd_right d u
 have h1:d / (Int.gcd d u:Int) * (Int.gcd d u:Int)=d:=zCI (zCK d u)
 refine⟨k,?_⟩
 unfold lcmS
 calc d / (Int.gcd d u:Int) * u=d / (Int.gcd d u:Int) * ((Int.gcd d u:Int) * k):=by rw[<- hk]
  _=d * k:=by rw[<- zAD,h1]
theorem lcmS_right(d u:Int):u ∣ lcmS d u:=⟨d / ((Int.gcd d u:Nat):Int),by unfold lcmS;rw[zAX]⟩
theorem div_gcd_pos{d u:Int}(hd:0<d)(hu:0<u):0<d / ((Int.gcd d u:Nat):Int):=by
 have g0:=gcd_pos (t:=d) hu
 exact Int.ediv_pos_of_pos_of_dvd hd (by exact zAY (d.gcd u)) (zCK d u)
theorem lcmS_pos{d u:Int}(hd:0<d)(hu:0<u):0<lcmS d u:=Int.mul_pos (div_gcd_pos hd hu) hu
theorem div_gcd_fits{k:Nat}{d u:Int}(hd:0<d)(hu:0<u)(h:fitsB k d):fitsB k (d / ((Int.gcd d u:Nat):Int)):=by
 have:=div_gcd_pos hd hu
 have le:d / ((Int.gcd d u:Nat):Int)<=d:=Int.ediv_le_self _ (by lia)
 exact h.le (by omega)
theorem lcmS_fits{k j:Nat}{d u:Int}(hd:0<d)(hu:0<u)(h:fitsB k d)(h':fitsB j u):fitsB (k+j) (lcmS d u):=(div_gcd_fits hd hu h).mul h'
noncomputable def lcmA(d:Int)(us:List Int):Int:=us.foldl lcmS d
theorem lcmA_snoc(d:Int)(us:List Int)(u:Int):lcmA d (us++[u])=lcmS (lcmA d us) u:=by
 unfold lcmA
 rw[List.foldl_append]
 rfl
theorem lcmA_app(d:Int)(us vs:List Int):lcmA d (us++vs)=lcmA (lcmA d us) vs:=by
 unfold lcmA
 rw[List.foldl_append]
theorem lcmA_ok{us:List Int}:∀ {d:Int},0<d->(∀ u∈us,0<u)->0<lcmA d us/\d ∣ lcmA d us/\∀ u∈us,u ∣ lcmA d us:=by
 induction us with
 |nil=>exact fun hd _=>⟨hd,Int.dvd_refl _,fun _ h=>nomatch h⟩
 |cons u us ih =>
  intro d hd h
  have hu:=h u (zF ..)
  obtain⟨a,b,c⟩:=ih (lcmS_pos hd hu) fun v hv=>h v (zD _ hv)
  refine⟨a,Int.dvd_trans (lcmS_left hu) b,fun v hv=>?_⟩
  rcases zW.mp hv with e | hv
  ·rw[e];exact Int.dvd_trans (lcmS_right d u) b
  ·exact c v hv
noncomputable abbrev Rows:=List (List (Int×Int))
noncomputable def unders(R:Rows):List Int:=R.flatten.map (·.2)
noncomputable def dn(R:Rows):Int:=lcmA 1 (unders R)
noncomputable def tops(D:Int)(R:Rows):List (List Int):=R.map fun row=>row.map fun f=>f.1 * (D / f.2)
theorem mem_unders{R:Rows}{u:Int}:u∈unders R↔∃ row∈R,∃ f∈row,f.2=u:=by
 unfold unders
 rw[zAH]
 constructor
 ·rintro⟨f,hf,e⟩
  obtain⟨row,hr,hf⟩:=zCD.mp hf
  exact⟨row,hr,f,hf,e⟩
 ·rintro⟨row,hr,f,hf,e⟩
  exact⟨f,zCD.mpr ⟨row,hr,hf⟩,e⟩
theorem dn_snoc{R:Rows}{i:Nat}(h:i<R.length):dn (R.take (i+1))=lcmA (dn (R.take i)) (R[i].map (·.2)):=by
 unfold dn unders
 rw[zK h,List.flatten_append,zP,lcmA_app]
 simp
end Shr
namespace Flw
end Flw
namespace Pul
open L2 Shr
theorem fits_sum{k:Nat}:∀ {l:List Int},(∀ x∈l,fitsB k x)->fitsB (k+l.length) l.sum
 |[],_=>by show(0:Int).natAbs<_;exact Nat.pow_pos (by decide)
 |x :: l,h=>by
  have h1:=h x (zF ..)
  have h2:=fits_sum (l:=l) fun y hy=>h y (zD _ hy)
  rw[zAF,zAO,<- Nat.add_assoc]
  exact(h1.mono (by exact zAA k l.length)).add h2
end Pul
namespace Shp
open L2 Shr
theorem lcmA_fitsK{kk:Nat}{us:List Int}:∀ {d:Int}{k:Nat},0<d->(∀ u∈us,0<u/\fitsB kk u)->fitsB k d->fitsB (k+kk * us.length) (lcmA d us):=by
 induction us with
 |nil=>exact fun _ _ h=>h
 |cons u us ih =>
  intro d k hd h f
  have hu:=h u (zF ..)
  have:=ih (lcmS_pos hd hu.1) (fun v hv=>h v (zD _ hv)) (lcmS_fits hd hu.1 f hu.2)
  rw[zAO]
  exact this.mono (by rw[Nat.mul_succ];lia)
structure ROk(k e:Nat)(R:Rows):Prop where
 pos:∀ row∈R,∀ f∈row,0<f.2
 below:∀ row∈R,∀ f∈row,fitsB k f.2
 top:∀ row∈R,∀ f∈row,fitsB 40 f.1
 few:k * R.flatten.length<=e
 cap:e<=7300
theorem ROk.u{k e:Nat}{R:Rows}(h:ROk k e R):∀ u∈unders R,0<u/\fitsB k u:=fun u hu=>by
 obtain⟨row,hr,f,hf,rfl⟩:=mem_unders.mp hu
 exact⟨h.pos row hr f hf,h.below row hr f hf⟩
theorem flat_take{R:Rows}{i:Nat}(h:i<R.length):(R.take i).flatten.length+R[i].length<=R.flatten.length:=by
 have e:R.flatten=(R.take (i+1)).flatten++(R.drop (i+1)).flatten:=by rw[<- List.flatten_append,zBD]
 rw[e,zO,zK h,List.flatten_append,zO]
 simp
theorem ROk.dn{k e:Nat}{R:Rows}(h:ROk k e R):0<dn R/\fitsB (1+k * R.flatten.length) (dn R)/\∀ row∈R,∀ f∈row,f.2 ∣ dn R:=by
 obtain⟨a,_,c⟩:=lcmA_ok (us:=unders R) (d:=1) (by decide) fun u hu=>(h.u u hu).1
 refine⟨a,?_,fun row hr f hf=>c _ (mem_unders.mpr ⟨row,hr,f,hf,rfl⟩)⟩
 have:=lcmA_fitsK (us:=unders R) (d:=1) (k:=1) (kk:=k) (by decide) h.u (by show(1:Int).natAbs<2 ^ 1;decide)
 refine this.mono ?_
 unfold unders
 rw[zA]
 exact zJ _
theorem ROk.dnE{k e:Nat}{R:Rows}(h:ROk k e R):fitsB (e+1) (Shr.dn R):=h.dn.2.1.mono (by have:=h.few;lia)
end Shp
namespace K31
open PySem L2 PyProof.Rows
structure CalF(P:Program)(w:World)(K:PySem.W.Frag)(mg:Str->Option Value)(base:Heap)(k:Nat)(x:Str)(ps:List Str)(sp:Sp)(g:Addr)(gd:FuncData):Prop where
 ok:FnOk P w K mg base CX0 k g gd ps sp
 mg:mg x=some (.ref g)
 kp:PySem.W.keepIn K (.ref g)=true
 bd:Binds K gd ps []
structure Txt2(mg:Str->Option Value):Prop where
 all:mg "all" = none
 zip:mg "zip" = none
 enum:mg "enumerate" = none
 any:mg "any" = none
 set:mg "set" = none
noncomputable abbrev scO(l:List (Str×NameKind)):Scope:={ kind:=.function,names:=l,isGenerator:=false,isCoroutine:=false }
theorem at0{x:V}{r:List V}:atI (x :: r) 0=some x:=atI_nat (j:=0) rfl
theorem at1{x y:V}{r:List V}:atI (x :: y :: r) 1=some y:=atI_nat (j:=1) rfl
noncomputable abbrev frO(f:Int×Int):HO:=.tup [.int f.1,.int f.2]
theorem gcd_stepZ(a b:Int):Int.gcd b (a % b)=Int.gcd a b:=by
 have e:b * (a / b)+a % b=a:=Int.mul_ediv_add_emod a b
 have h1:=zCK b (a % b)
 have h2:=Int.gcd_dvd_right b (a % b)
 have h3:=zCK a b
 have h4:=Int.gcd_dvd_right a b
 apply Nat.dvd_antisymm
 ·refine Int.dvd_gcd ?_ h1
  have:=Int.dvd_add (Int.dvd_trans h1 (Int.dvd_mul_right _ (a / b))) h2
  rw[e]at this
  exact this
 ·refine Int.dvd_gcd h4 ?_
  have:a % b=a-b * (a / b):=by lia
  rw[this]
  exact Int.dvd_sub h3 (Int.dvd_trans h4 (Int.dvd_mul_right _ _))
inductive spCdI(vs:List V)(H:Hp)(Q:VK):Prop where
 |mk (a b:Int) (h1:vs=[.int a,.int b]) (h2:0<=b) (h3:(0<=a\/0<b)) (h4:Q (.int (Int.gcd a b:Nat)) H)
noncomputable def spCd:Sp:=fun vs H Q _=>spCdI vs H Q
inductive spFrI(vs:List V)(H:Hp)(Q:VK):Prop where
 |mk (t b:Int) (h1:vs=[.int t,.int b]) (h2:0<b) (h3:fitsB 8000 b) (h4:∀ c,H c=none->Q (.ref c) (upd H c (frO (Shr.nf t b))))
noncomputable def spFr:Sp:=fun vs H Q _=>spFrI vs H Q
inductive spFcI(vs:List V)(H:Hp)(Q:VK):Prop where
 |mk (t b:Int) (h1:vs=[.int t,.int b]) (h2:0<b) (h3:fitsB 8000 b) (h4:∀ c,H c=none->Q (.ref c) (upd H c (frO (Shr.nf t b))))
noncomputable def spFc:Sp:=fun vs H Q _=>spFcI vs H Q
inductive spSdI(vs:List V)(H:Hp)(Q:VK):Prop where
 |mk (a b:Int) (h1:vs=[.int a,.int b]) (h2:0<=a) (h3:0<=b) (h4:Q (.int (Int.gcd a b:Nat)) H)
noncomputable def spSd:Sp:=fun vs H Q _=>spSdI vs H Q
inductive spPlI(vs:List V)(H:Hp)(Q:VK):Prop where
 |mk (p q:Addr) (f g:Int×Int) (h1:vs=[.ref p,.ref q]) (h2:H p=some (frO f)) (h3:H q=some (frO g)) (h4:0<f.2) (h5:0<g.2) (h6:fitsB 3900 f.1) (h7:fitsB 3900 f.2) (h8:fitsB 3900 g.1) (h9:fitsB 3900 g.2) (h10:∀ c,H c=none->Q (.ref c) (upd H c (frO (Shr.plus f g))))
noncomputable def spPl:Sp:=fun vs H Q _=>spPlI vs H Q
inductive spTmI(vs:List V)(H:Hp)(Q:VK):Prop where
 |mk (p q:Addr) (f g:Int×Int) (h1:vs=[.ref p,.ref q]) (h2:H p=some (frO f)) (h3:H q=some (frO g)) (h4:0<f.2) (h5:0<g.2) (h6:fitsB 3900 f.1) (h7:fitsB 3900 f.2) (h8:fitsB 3900 g.1) (h9:fitsB 3900 g.2) (h10:∀ c,H c=none->Q (.ref c) (upd H c (frO (Shr.nf (f.1 * g.1) (f.2 * g.2)))))
noncomputable def spTm:Sp:=fun vs H Q _=>spTmI vs H Q
inductive spLsI(vs:List V)(H:Hp)(Q:VK):Prop where
 |mk (p q:Addr) (f g:Int×Int) (h1:vs=[.ref p,.ref q]) (h2:H p=some (frO f)) (h3:H q=some (frO g)) (h4:fitsB 8000 f.1) (h5:fitsB 8000 f.2) (h6:fitsB 8000 g.1) (h7:fitsB 8000 g.2) (h8:Q (.bl (decide (f.1 * g.2<g.1 * f.2))) H)
noncomputable def spLs:Sp:=fun vs H Q _=>spLsI vs H Q
theorem gcd_fits{k:Nat}{t b:Int}(hb:0<b)(h:fitsB k b):fitsB k (Int.gcd t b:Nat):=h.le (by
 have:=Int.le_of_dvd hb (Int.gcd_dvd_right t b)
 omega)
section
variable{P:Program}{w:World}{K:PySem.W.Frag}{mg:Str->Option Value}{base:Heap}
noncomputable abbrev nCd:List Str:=["one","other"]
theorem scCd:FnScope nCd ["one","other"] (defScope sCommonDivisor):=⟨rfl,rfl,rfl,by decide +kernel,rfl,by decide +kernel,by decide +kernel⟩
theorem ok_cd{f:Addr}{fd:FuncData}(F:Fun K "common_divisor" "common_divisor" sCommonDivisor f fd)(T:Txt mg):FnOk P w K mg base CX0 1 f fd ["one","other"] spCd:=by
 refine F.ok scCd (fun vs H Q E h=>?_) (fun cdv A outer s H vs Q E hr h=>?_)
 ·obtain⟨a,b,rfl,_⟩:=h
  rfl
 ·obtain⟨a,b,rfl,b0,a0,fin⟩:=h
  refine⟨_,(yad (ps_while PassesOwn.never (pt_cmpR op_ne (pvQ 1) yae (nomark _)) (pss_one (ps_par (i:=0) (j:=1) rfl scCd.nd rfl rfl (by decide) rfl rfl (@yac _ _ _ _ _ _ (pvQ 1) (@pa_bin _ _ _ _ _ _ _ _ (pe_op op_mod (pvQ 0) (pvQ 1)) yab)) rfl)))
   (pss_one (ps_ret (pe_callB call_abs (by rfl) T.abs boot_abs (@yac _ _ _ _ _ _ (pvQ 0) yab))))),?_⟩
  refine⟨fun m σ G=>∃ x y:Int,σ=[some (.int x),some (.int y)]/\m=y.toNat/\0<=y/\(0<=x\/0<y)/\Int.gcd x y=Int.gcd a b/\G=H,⟨_,a,b,rfl,rfl,b0,a0,rfl,rfl⟩,?_⟩
  rintro m σ G ⟨x,y,rfl,rfl,y0,x0,e,rfl⟩
  refine⟨rfl,_,rfl,ite2 (fun hc=>?_) (fun hc=>?_)⟩
  ·have hc:0<y:=by
    by_cases z:y=0
    ·subst z;simp at hc
    ·lia
   refine⟨fun σ' G'=>∃ m',m'<y.toNat/\∃ x y:Int,σ'=[some (.int x),some (.int y)]/\m'=y.toNat/\0<=y/\(0<=x\/0<y)/\Int.gcd x y=Int.gcd a b/\G'=G,fun _ _ z=>z,?_⟩
   have m0:=Int.emod_nonneg x (show y≠0 by lia)
   have m1:=Int.emod_lt_of_pos x hc
   refine⟨_,_,rfl,rfl,hc,_,_,rfl,?_⟩
   exact⟨_,by lia,y,x % y,rfl,rfl,m0,.inl y0,by rw[gcd_stepZ];exact e,rfl⟩
  ·have hc:y=0:=by simpa using hc
   subst hc
   rw[Int.gcd_zero_right]at e
   refine⟨_,rfl,?_⟩
   rw[if_neg (by lia)]
   rw[<- e,show((x.natAbs:Nat):Int)=x by lia]at fin
   exact fin
noncomputable abbrev nFr:List Str:=["top","below","shared"]
theorem scFr:FnScope nFr ["top","below"] (defScope sFraction):=⟨rfl,rfl,rfl,by decide +kernel,rfl,by decide +kernel,by decide +kernel⟩
theorem ok_fr{f g:Addr}{fd gd:FuncData}(F:Fun K "fraction" "fraction" sFraction f fd)(GC:CalF P w K mg base 1 "common_divisor" ["one","other"] spCd g gd):FnOk P w K mg base CX0 2 f fd ["top","below"] spFr:=by
 refine F.ok scFr (fun vs H Q E h=>?_) (fun cdv A outer s H vs Q E hr h=>?_)
 ·obtain⟨a,b,rfl,_⟩:=h
  rfl
 ·obtain⟨t,b,rfl,b0,fb,fin⟩:=h
  refine⟨_,(yad (ps_set (i:=2) scFr.nd rfl (Or.inl rfl) (pe_call GC.ok hr rfl GC.mg GC.kp GC.bd .nil pass0 (@yac _ _ _ _ _ _ (pvQ 0) (@yac _ _ _ _ _ _ (pvQ 1) yab))))
   (pss_one (ps_ret (@pe_tup _ _ _ _ _ (@pa_bin _ _ _ _ _ _ _ _ (pe_op op_fdivB (pvQ 0) (pvQ 2)) (@pa_bin _ _ _ _ _ _ _ _ (pe_op op_fdivB (pvQ 1) (pvQ 2)) yab)))))),?_⟩
  have gp:(0:Int) <(Int.gcd t b:Nat):=by have:=Shr.gcd_pos (t:=t) b0;lia
  have gf:=gcd_fits (t:=t) b0 fb
  refine⟨t,b,rfl,by lia,.inr b0,?_⟩
  refine⟨_,_,rfl,rfl,⟨gp,gf⟩,_,_,rfl,rfl,⟨gp,gf⟩,(by show 2<=sizeLine;decide),fun c hc=>?_⟩
  exact fin c hc
noncomputable abbrev nSd:List Str:=["_law_one","_law_other"]
theorem scSd:FnScope nSd ["_law_one","_law_other"] (defScope sShared):=⟨rfl,rfl,rfl,by decide +kernel,rfl,by decide +kernel,by decide +kernel⟩
theorem ok_sd{f:Addr}{fd:FuncData}(F:Fun K "_law_shared" "_law_shared" sShared f fd):FnOk P w K mg base CX0 1 f fd ["_law_one","_law_other"] spSd:=by
 refine F.ok scSd (fun vs H Q E h=>?_) (fun cdv A outer s H vs Q E hr h=>?_)
 ·obtain⟨a,b,rfl,_⟩:=h
  rfl
 ·obtain⟨a,b,rfl,a0,b0,fin⟩:=h
  refine⟨_,(yad (ps_while PassesOwn.never (pt_cmpR op_gt (pvQ 1) yae (nomark _)) (pss_one (ps_par (i:=0) (j:=1) rfl scSd.nd rfl rfl (by decide) rfl rfl (@yac _ _ _ _ _ _ (pvQ 1) (@pa_bin _ _ _ _ _ _ _ _ (pe_op op_mod (pvQ 0) (pvQ 1)) yab)) rfl)))
   (pss_one (ps_ret (pvQ 0)))),?_⟩
  refine⟨fun m σ G=>∃ x y:Int,σ=[some (.int x),some (.int y)]/\m=y.toNat/\0<=x/\0<=y/\Int.gcd x y=Int.gcd a b/\G=H,⟨_,a,b,rfl,rfl,a0,b0,rfl,rfl⟩,?_⟩
  rintro m σ G ⟨x,y,rfl,rfl,x0,y0,e,rfl⟩
  refine⟨_,_,rfl,rfl,_,rfl,ite2 (fun hc=>?_) (fun hc=>?_)⟩
  ·have hc:0<y:=of_decide_eq_true hc
   refine⟨fun σ' G'=>∃ m',m'<y.toNat/\∃ x y:Int,σ'=[some (.int x),some (.int y)]/\m'=y.toNat/\0<=x/\0<=y/\Int.gcd x y=Int.gcd a b/\G'=G,fun _ _ z=>z,?_⟩
   have m0:=Int.emod_nonneg x (show y≠0 by lia)
   have m1:=Int.emod_lt_of_pos x hc
   refine⟨_,_,rfl,rfl,hc,_,_,rfl,?_⟩
   exact⟨_,by lia,y,x % y,rfl,rfl,y0,m0,by rw[Shr.gcd_step x y x0 hc];exact e,rfl⟩
  ·have hc:y=0:=by
    have:¬ 0<y:=fun z=>hc (decide_eq_true z)
    lia
   subst hc
   rw[Int.gcd_zero_right]at e
   rw[<- e,show((x.natAbs:Nat):Int)=x by lia]at fin
   exact fin
noncomputable abbrev nFc:List Str:=["_law_top","_law_below","_law_by"]
theorem scFc:FnScope nFc ["_law_top","_law_below"] (defScope sFrac):=⟨rfl,rfl,rfl,by decide +kernel,rfl,by decide +kernel,by decide +kernel⟩
theorem ok_fc{f g:Addr}{fd gd:FuncData}(F:Fun K "_law_frac" "_law_frac" sFrac f fd)(T:Txt mg)(GC:CalF P w K mg base 1 "_law_shared" ["_law_one","_law_other"] spSd g gd):FnOk P w K mg base CX0 2 f fd ["_law_top","_law_below"] spFc:=by
 refine F.ok scFc (fun vs H Q E h=>?_) (fun cdv A outer s H vs Q E hr h=>?_)
 ·obtain⟨a,b,rfl,_⟩:=h
  rfl
 ·obtain⟨t,b,rfl,b0,fb,fin⟩:=h
  refine⟨_,(yad (ps_set (i:=2) scFc.nd rfl (Or.inl rfl) (pe_call GC.ok hr rfl GC.mg GC.kp GC.bd .nil pass0 (@pa_call _ _ _ _ _ _ _ _ (pe_callB call_abs (by rfl) T.abs boot_abs (@yac _ _ _ _ _ _ (pvQ 0) yab)) (@yac _ _ _ _ _ _ (pvQ 1) yab))))
   (pss_one (ps_ret (@pe_tup _ _ _ _ _ (@pa_bin _ _ _ _ _ _ _ _ (pe_op op_fdivB (pvQ 0) (pvQ 2)) (@pa_bin _ _ _ _ _ _ _ _ (pe_op op_fdivB (pvQ 1) (pvQ 2)) yab)))))),?_⟩
  have gp:(0:Int) <(Int.gcd t b:Nat):=by have:=Shr.gcd_pos (t:=t) b0;lia
  have gf:=gcd_fits (t:=t) b0 fb
  refine⟨_,rfl,_,b,rfl,by split <;> lia,by lia,?_⟩
  have eg:Int.gcd (if t<0 then -t else t) b=Int.gcd t b:=by
   split
   ·exact Int.neg_gcd
   ·rfl
  rw[eg]
  refine⟨_,_,rfl,rfl,⟨gp,gf⟩,_,_,rfl,rfl,⟨gp,gf⟩,(by show 2<=sizeLine;decide),fun c hc=>?_⟩
  exact fin c hc
noncomputable abbrev nPl:List Str:=["_law_one","_law_other"]
theorem scPl:FnScope nPl ["_law_one","_law_other"] (defScope sPlus):=⟨rfl,rfl,rfl,by decide +kernel,rfl,by decide +kernel,by decide +kernel⟩
theorem ok_pl{f g:Addr}{fd gd:FuncData}(F:Fun K "_law_plus" "_law_plus" sPlus f fd)(GF:CalF P w K mg base 2 "_law_frac" ["_law_top","_law_below"] spFc g gd):FnOk P w K mg base CX0 3 f fd ["_law_one","_law_other"] spPl:=by
 refine F.ok scPl (fun vs H Q E h=>?_) (fun cdv A outer s H vs Q E hr h=>?_)
 ·obtain⟨p,q,x,y,rfl,_⟩:=h
  rfl
 ·obtain⟨p,q,⟨x,y⟩,⟨u,v⟩,rfl,hp,hq,y0,v0,fx,fy,fu,fv,fin⟩:=h
  refine⟨_,(pss_one (ps_ret (pe_call GF.ok hr rfl GF.mg GF.kp GF.bd .nil pass0 (@pa_bin _ _ _ _ _ _ _ _ (pe_op op_add (pe_op op_mulB (@pe_ix _ _ _ _ _ _ _ ix_tupH (pvQ 0) yae (fun _ _=>rfl)) (@pe_ix _ _ _ _ _ _ _ ix_tupH (pvQ 1) yae (fun _ _=>rfl))) (pe_op op_mulB (@pe_ix _ _ _ _ _ _ _ ix_tupH (pvQ 1) yae (fun _ _=>rfl)) (@pe_ix _ _ _ _ _ _ _ ix_tupH (pvQ 0) yae (fun _ _=>rfl)))) (@pa_bin _ _ _ _ _ _ _ _ (pe_op op_mulB (@pe_ix _ _ _ _ _ _ _ ix_tupH (pvQ 0) yae (fun _ _=>rfl)) (@pe_ix _ _ _ _ _ _ _ ix_tupH (pvQ 1) yae (fun _ _=>rfl))) yab))))),?_⟩
  have m1:∀ {i:Int},fitsB 3900 i->fitsB 8000 i:=fun h=>h.mono (by decide)
  have fyv:fitsB 8000 (y * v):=(fy.mul fv).mono (by decide)
  refine⟨p,_,_,_,rfl,rfl,hp,at0,q,_,_,_,rfl,rfl,hq,at1,_,_,rfl,rfl,⟨m1 fx,m1 fv⟩,?_⟩
  refine⟨q,_,_,_,rfl,rfl,hq,at0,p,_,_,_,rfl,rfl,hp,at1,_,_,rfl,rfl,⟨m1 fu,m1 fy⟩,_,_,rfl,rfl,?_⟩
  refine⟨p,_,_,_,rfl,rfl,hp,at1,q,_,_,_,rfl,rfl,hq,at1,_,_,rfl,rfl,⟨m1 fy,m1 fv⟩,?_⟩
  exact⟨_,_,rfl,Int.mul_pos y0 v0,fyv,fin⟩
noncomputable abbrev nTm:List Str:=["_law_one","_law_other"]
theorem scTm:FnScope nTm ["_law_one","_law_other"] (defScope sTimes):=⟨rfl,rfl,rfl,by decide +kernel,rfl,by decide +kernel,by decide +kernel⟩
theorem ok_tm{f g:Addr}{fd gd:FuncData}(F:Fun K "_law_times" "_law_times" sTimes f fd)(GF:CalF P w K mg base 2 "_law_frac" ["_law_top","_law_below"] spFc g gd):FnOk P w K mg base CX0 3 f fd ["_law_one","_law_other"] spTm:=by
 refine F.ok scTm (fun vs H Q E h=>?_) (fun cdv A outer s H vs Q E hr h=>?_)
 ·obtain⟨p,q,x,y,rfl,_⟩:=h
  rfl
 ·obtain⟨p,q,⟨x,y⟩,⟨u,v⟩,rfl,hp,hq,y0,v0,fx,fy,fu,fv,fin⟩:=h
  refine⟨_,(pss_one (ps_ret (pe_call GF.ok hr rfl GF.mg GF.kp GF.bd .nil pass0 (@pa_bin _ _ _ _ _ _ _ _ (pe_op op_mulB (@pe_ix _ _ _ _ _ _ _ ix_tupH (pvQ 0) yae (fun _ _=>rfl)) (@pe_ix _ _ _ _ _ _ _ ix_tupH (pvQ 1) yae (fun _ _=>rfl))) (@pa_bin _ _ _ _ _ _ _ _ (pe_op op_mulB (@pe_ix _ _ _ _ _ _ _ ix_tupH (pvQ 0) yae (fun _ _=>rfl)) (@pe_ix _ _ _ _ _ _ _ ix_tupH (pvQ 1) yae (fun _ _=>rfl))) yab))))),?_⟩
  have m1:∀ {i:Int},fitsB 3900 i->fitsB 8000 i:=fun h=>h.mono (by decide)
  have fyv:fitsB 8000 (y * v):=(fy.mul fv).mono (by decide)
  refine⟨p,_,_,_,rfl,rfl,hp,at0,q,_,_,_,rfl,rfl,hq,at0,_,_,rfl,rfl,⟨m1 fx,m1 fu⟩,?_⟩
  refine⟨p,_,_,_,rfl,rfl,hp,at1,q,_,_,_,rfl,rfl,hq,at1,_,_,rfl,rfl,⟨m1 fy,m1 fv⟩,?_⟩
  exact⟨_,_,rfl,Int.mul_pos y0 v0,fyv,fin⟩
noncomputable abbrev nLs:List Str:=["_law_one","_law_other"]
theorem scLs:FnScope nLs ["_law_one","_law_other"] (defScope sLess):=⟨rfl,rfl,rfl,by decide +kernel,rfl,by decide +kernel,by decide +kernel⟩
theorem ok_ls{f:Addr}{fd:FuncData}(F:Fun K "_law_less" "_law_less" sLess f fd):FnOk P w K mg base CX0 1 f fd ["_law_one","_law_other"] spLs:=by
 refine F.ok scLs (fun vs H Q E h=>?_) (fun cdv A outer s H vs Q E hr h=>?_)
 ·obtain⟨p,q,x,y,rfl,_⟩:=h
  rfl
 ·obtain⟨p,q,⟨x,y⟩,⟨u,v⟩,rfl,hp,hq,fx,fy,fu,fv,fin⟩:=h
  refine⟨_,(pss_one (ps_ret (pe_cmpR op_lt (pe_op op_mulB (@pe_ix _ _ _ _ _ _ _ ix_tupH (pvQ 0) yae (fun _ _=>rfl)) (@pe_ix _ _ _ _ _ _ _ ix_tupH (pvQ 1) yae (fun _ _=>rfl))) (pe_op op_mulB (@pe_ix _ _ _ _ _ _ _ ix_tupH (pvQ 1) yae (fun _ _=>rfl)) (@pe_ix _ _ _ _ _ _ _ ix_tupH (pvQ 0) yae (fun _ _=>rfl))) (nomark _)))),?_⟩
  refine⟨p,_,_,_,rfl,rfl,hp,at0,q,_,_,_,rfl,rfl,hq,at1,_,_,rfl,rfl,⟨fx,fv⟩,?_⟩
  refine⟨q,_,_,_,rfl,rfl,hq,at0,p,_,_,_,rfl,rfl,hp,at1,_,_,rfl,rfl,⟨fu,fy⟩,_,_,rfl,rfl,?_⟩
  exact fin
end
end K31
namespace Rnd
noncomputable abbrev Fr:=Int×Int
noncomputable def ltF(f g:Fr):Bool:=decide (f.1 * g.2<g.1 * f.2)
structure Lo(f:Fr):Prop where
 pos:0<f.2
 cop:Int.gcd f.1 f.2=1
theorem ltF_irrefl(f:Fr):ltF f f=false:=by unfold ltF;simp
theorem ltF_iff{f g:Fr}:ltF f g=true↔f.1 * g.2<g.1 * f.2:=by unfold ltF;simp
theorem ltF_trans{f g h:Fr}(pf:0<f.2)(pg:0<g.2)(ph:0<h.2)(a:ltF f g=true)(b:ltF g h=true):ltF f h=true:=by
 rw[ltF_iff]at *
 refine Int.lt_of_mul_lt_mul_right (a:=g.2) ?_ (zBN pg)
 calc f.1 * h.2 * g.2=(f.1 * g.2) * h.2:=by ac_rfl
  _ <(g.1 * f.2) * h.2:=zBJ a ph
  _=(g.1 * h.2) * f.2:=by ac_rfl
  _ <(h.1 * g.2) * f.2:=zBJ b pf
  _=h.1 * f.2 * g.2:=by ac_rfl
theorem eq_of{f g:Fr}(lf:Lo f)(lg:Lo g)(a:ltF f g=false)(b:ltF g f=false):f=g:=by
 have e:f.1 * g.2=g.1 * f.2:=by
  have h1:¬ f.1 * g.2<g.1 * f.2:=fun z=>by rw[ltF_iff.mpr z]at a;cases a
  have h2:¬ g.1 * f.2<f.1 * g.2:=fun z=>by rw[ltF_iff.mpr z]at b;cases b
  lia
 exact Shr.Is.one (N:=f.1) (D:=f.2) lf.pos ⟨⟨lf.pos,rfl⟩,lf.cop⟩ ⟨⟨lg.pos,e.symm⟩,lg.cop⟩
theorem tri{f g:Fr}(lf:Lo f)(lg:Lo g)(ne:f≠g)(a:ltF g f=false):ltF f g=true:=by
 cases h:ltF f g with
 |true=>rfl
 |false=>exact absurd (eq_of lf lg h a) ne
structure ThrOf(fs L:List Fr):Prop where
 ris:L.Pairwise fun x y=>ltF x y=true
 mem:∀ f,f∈L↔f∈fs/\0<f.1
theorem ris_one:∀ {L M:List Fr},(∀ f∈L,Lo f)->(∀ f∈M,Lo f)->L.Pairwise (fun x y=>ltF x y=true)->M.Pairwise (fun x y=>ltF x y=true)->(∀ f,f∈L↔f∈M)->L=M
 |[],[],_,_,_,_,_=>rfl
 |[],m :: M,_,_,_,_,h=>absurd ((h m).mpr (zF ..)) (by simp)
 |l :: L,[],_,_,_,_,h=>absurd ((h l).mp (zF ..)) (by simp)
 |l :: L,m :: M,gl,gm,pl,pm,h=>by
  rw[List.pairwise_cons]at pl pm
  have e:l=m:=by
   rcases zW.mp ((h l).mp (zF ..))with e | hl
   ·exact e
   ·rcases zW.mp ((h m).mpr (zF ..))with e | hm
    ·exact e.symm
    ·have a:=pm.1 l hl
     have b:=pl.1 m hm
     have c:=ltF_trans (gl l (zF ..)).pos (gm m (zF ..)).pos (gl l (zF ..)).pos b a
     rw[ltF_irrefl]at c
     cases c
  subst e
  congr 1
  refine ris_one (fun f hf=>gl f (zD _ hf)) (fun f hf=>gm f (zD _ hf)) pl.2 pm.2 fun f=>?_
  constructor
  ·intro hf
   rcases zW.mp ((h f).mp (zD _ hf))with e | hm
   ·have:=pl.1 f hf
    rw[e,ltF_irrefl]at this
    cases this
   ·exact hm
  ·intro hf
   rcases zW.mp ((h f).mpr (zD _ hf))with e | hm
   ·have:=pm.1 f hf
    rw[e,ltF_irrefl]at this
    cases this
   ·exact hm
theorem ThrOf.one{fs L M:List Fr}(lo:∀ f∈fs,Lo f)(a:ThrOf fs L)(b:ThrOf fs M):L=M :=
 ris_one (fun f hf=>lo f ((a.mem f).mp hf).1) (fun f hf=>lo f ((b.mem f).mp hf).1) a.ris b.ris fun f=>(a.mem f).trans (b.mem f).symm
theorem ThrOf.put{fs L:List Fr}{f:Fr}(lo:∀ g∈fs,Lo g)(lf:Lo f)(h:ThrOf fs L)(f0:0<f.1)(nf:f∉L):ThrOf (fs++[f]) (L.take (L.filter fun g=>ltF g f).length++f :: L.drop (L.filter fun g=>ltF g f).length):=by
 have lL:∀ g∈L,Lo g:=fun g hg=>lo g ((h.mem g).mp hg).1
 have cut:∀ M:List Fr,M.Pairwise (fun x y=>ltF x y=true)->(∀ g∈M,Lo g)->f∉M->(∀ g∈M.take (M.filter fun g=>ltF g f).length,ltF g f=true)/\∀ g∈M.drop (M.filter fun g=>ltF g f).length,ltF f g=true:=by
  intro M
  induction M with
  |nil=>exact fun _ _ _=>⟨fun _ h=>(nomatch h),fun _ h=>(nomatch h)⟩
  |cons m M ih =>
   intro pm gm nm
   rw[List.pairwise_cons]at pm
   obtain⟨i1,i2⟩:=ih pm.2 (fun g hg=>gm g (zD _ hg)) fun z=>nm (zD _ z)
   have lm:=gm m (zF ..)
   cases c:ltF m f with
   |true =>
    rw[zBV (by exact c),zAO,List.take_succ_cons,List.drop_succ_cons]
    refine⟨fun g hg=>?_,i2⟩
    rcases zW.mp hg with e | hg
    ·rw[e];exact c
    ·exact i1 g hg
   |false =>
    have fm:ltF f m=true:=tri lf lm (fun e=>nm (by rw[e];exact zF)) c
    have none:(M.filter fun g=>ltF g f)=[]:=by
     rw[List.filter_eq_nil_iff]
     intro g hg z
     have a:=pm.1 g hg
     have b:=ltF_trans lm.pos (gm g (zD _ hg)).pos lf.pos a z
     rw[c]at b
     cases b
    rw[zCE (by rw[c];exact zT),none]
    refine⟨fun _ h=>(nomatch h),fun g hg=>?_⟩
    rcases zW.mp hg with e | hg
    ·rw[e];exact fm
    ·exact ltF_trans lf.pos lm.pos (gm g (zD _ hg)).pos fm (pm.1 g hg)
 obtain⟨c1,c2⟩:=cut L h.ris lL nf
 generalize (L.filter fun g=>ltF g f).length=k at c1 c2
 have tl:∀ g,g∈L↔g∈L.take k\/g∈L.drop k:=fun g=>by
  conv=>lhs;rw[<- zBD k L]
  exact zX
 have pa:=h.ris
 rw[<- zBD k L,zAJ]at pa
 obtain⟨p1,p2,p3⟩:=pa
 refine⟨?_,fun g=>?_⟩
 ·rw[zAJ]
  refine⟨p1,List.pairwise_cons.mpr ⟨c2,p2⟩,fun x hx y hy=>?_⟩
  rcases zW.mp hy with e | hy
  ·rw[e];exact c1 x hx
  ·exact p3 x hx y hy
 ·rw[zX,zW,zX,zH]
  constructor
  ·rintro(hg | e | hg)
   ·obtain⟨a,b⟩:=(h.mem g).mp ((tl g).mpr (.inl hg))
    exact⟨.inl a,b⟩
   ·exact⟨.inr e,e▸f0⟩
   ·obtain⟨a,b⟩:=(h.mem g).mp ((tl g).mpr (.inr hg))
    exact⟨.inl a,b⟩
  ·rintro⟨a | e,b⟩
   ·rcases(tl g).mp ((h.mem g).mpr ⟨a,b⟩)with z | z
    ·exact .inl z
    ·exact .inr (.inr z)
   ·exact .inr (.inl e)
theorem ThrOf.skip{fs L:List Fr}{f:Fr}(h:ThrOf fs L)(no:¬ 0<f.1\/f∈L):ThrOf (fs++[f]) L:=by
 refine⟨h.ris,fun g=>?_⟩
 rw[h.mem g,zX,zH]
 constructor
 ·rintro⟨a,b⟩
  exact⟨.inl a,b⟩
 ·rintro⟨a | e,b⟩
  ·exact⟨a,b⟩
  ·subst e
   rcases no with z | z
   ·exact absurd b z
   ·exact⟨((h.mem g).mp z).1,b⟩
noncomputable def uq(U:List Fr)(f:Fr):List Fr:=if 0<f.1/\f∉U then U++[f]else U
noncomputable def uqs(fs:List Fr):List Fr:=fs.foldl uq []
theorem uqs_snoc(fs:List Fr)(f:Fr):uqs (fs++[f])=uq (uqs fs) f:=by unfold uqs;rw[List.foldl_append];rfl
theorem uq_mem(U:List Fr)(f g:Fr):g∈uq U f↔g∈U\/(g=f/\0<f.1):=by
 unfold uq
 split
 ·rename_i h
  rw[zX,zH]
  constructor
  ·rintro(a | a)
   ·exact .inl a
   ·exact .inr ⟨a,h.1⟩
  ·rintro(a | a)
   ·exact .inl a
   ·exact .inr a.1
 ·rename_i h
  constructor
  ·exact .inl
  ·rintro(a |⟨e,p⟩)
   ·exact a
   ·subst e
    by_cases z:g∈U
    ·exact z
    ·exact absurd ⟨p,z⟩ h
theorem uq_nodup{U:List Fr}(f:Fr)(h:U.Nodup):(uq U f).Nodup:=by
 unfold uq
 split
 ·rename_i c
  rw[zCH]
  refine⟨h,by simp,fun a ha b hb=>?_⟩
  rw[zH.mp hb]
  exact fun e=>c.2 (e▸ha)
 ·exact h
theorem foldl_mem:∀ (fs U:List Fr) (g:Fr),g∈fs.foldl uq U↔g∈U\/(g∈fs/\0<g.1)
 |[],U,g=>by simp
 |f :: fs,U,g=>by
  rw[List.foldl_cons,foldl_mem fs,uq_mem,zW]
  constructor
  ·rintro((a |⟨a,b⟩) |⟨a,b⟩)
   ·exact .inl a
   ·exact .inr ⟨.inl a,a▸b⟩
   ·exact .inr ⟨.inr a,b⟩
  ·rintro(a |⟨a | a,b⟩)
   ·exact .inl (.inl a)
   ·exact .inl (.inr ⟨a,a▸b⟩)
   ·exact .inr ⟨a,b⟩
theorem foldl_nodup:∀ (fs U:List Fr),U.Nodup->(fs.foldl uq U).Nodup
 |[],_,h=>h
 |f :: fs,U,h=>foldl_nodup fs _ (uq_nodup f h)
theorem foldl_len:∀ (fs U:List Fr),(fs.foldl uq U).length<=U.length+fs.length
 |[],U=>by simp
 |f :: fs,U=>by
  have h:=foldl_len fs (uq U f)
  have h2:(uq U f).length<=U.length+1:=by unfold uq;split <;> simp
  rw[List.foldl_cons,zAO]
  lia
theorem uqs_mem(fs:List Fr)(g:Fr):g∈uqs fs↔g∈fs/\0<g.1:=by unfold uqs;rw[foldl_mem];simp
theorem uqs_nodup(fs:List Fr):(uqs fs).Nodup:=foldl_nodup fs [] (by simp)
theorem uqs_len(fs:List Fr):(uqs fs).length<=fs.length:=by
 unfold uqs
 have:=foldl_len fs []
 simpa using this
noncomputable def kf(D:Int)(f:Fr):List Int:=[f.1 * (D / f.2),f.1,f.2]
noncomputable def bk(z:List Int):Fr:=(z.getD 1 0,z.getD 2 0)
theorem top_lt{D:Int}{f g:Fr}(D0:0<D)(pf:0<f.2)(pg:0<g.2)(df:f.2 ∣ D)(dg:g.2 ∣ D):(f.1 * (D / f.2)<g.1 * (D / g.2))↔ltF f g=true:=by
 obtain⟨a,ha⟩:=df
 obtain⟨b,hb⟩:=dg
 have e1:D / f.2=a:=by rw[ha];exact zCM a (by lia)
 have e2:D / g.2=b:=by rw[hb];exact zCM b (by lia)
 rw[e1,e2,ltF_iff]
 have q1:f.1 * a * (f.2 * g.2)=f.1 * g.2 * D:=by rw[ha];ac_rfl
 have q2:g.1 * b * (f.2 * g.2)=g.1 * f.2 * D:=by rw[hb];ac_rfl
 have pp:0<f.2 * g.2:=Int.mul_pos pf pg
 constructor
 ·intro h
  have:=zBJ h pp
  rw[q1,q2]at this
  exact Int.lt_of_mul_lt_mul_right this (zBN D0)
 ·intro h
  have:=zBJ h D0
  rw[<- q1,<- q2]at this
  exact Int.lt_of_mul_lt_mul_right this (zBN pp)
theorem thr_sorted{fs:List Fr}{D:Int}{zs:List (List Int)}(lo:∀ f∈fs,Lo f)(D0:0<D)(dv:∀ f∈uqs fs,f.2 ∣ D)(pm:zs.Perm ((uqs fs).map (kf D)))(pw:zs.Pairwise fun x y=>∀ a b r r',x=a :: r->y=b :: r'->¬ b<a) :
  zs=(zs.map bk).map (kf D)/\ThrOf fs (zs.map bk):=by
 have bkk:∀ z∈zs,∃ f∈uqs fs,z=kf D f/\bk z=f:=fun z hz=>by
  obtain⟨f,hf,e⟩:=zAH.mp (pm.mem_iff.mp hz)
  exact⟨f,hf,e.symm,by rw[<- e];rfl⟩
 have pL:(zs.map bk).Perm (uqs fs):=by
  have:=pm.map bk
  rw[zAW,show(bk ∘ kf D)=id from rfl,List.map_id]at this
  exact this
 refine⟨?_,?_,fun f=>?_⟩
 ·rw[zAW]
  conv=>lhs;rw[<- List.map_id zs]
  apply zAP
  intro z hz
  obtain⟨f,_,e1,e2⟩:=bkk z hz
  show z=kf D (bk z)
  rw[e2]
  exact e1
 ·have nd:(zs.map bk).Nodup:=pL.nodup_iff.mpr (uqs_nodup fs)
  rw[List.pairwise_map]
  unfold List.Nodup at nd
  rw[List.pairwise_map]at nd
  refine(pw.and nd).imp_of_mem fun {x y} hx hy h=>?_
  obtain⟨f,hf,e1,e2⟩:=bkk x hx
  obtain⟨g,hg,e3,e4⟩:=bkk y hy
  rw[e2,e4]at h ⊢
  have lf:=lo f ((uqs_mem fs f).mp hf).1
  have lg:=lo g ((uqs_mem fs g).mp hg).1
  refine tri lf lg h.2 ?_
  cases c:ltF g f with
  |false=>rfl
  |true=>exact absurd ((top_lt D0 lg.pos lf.pos (dv g hg) (dv f hf)).mpr c) (h.1 _ _ _ _ e1 e3)
 ·rw[pL.mem_iff]
  exact uqs_mem fs f
noncomputable def tkr(row:List Fr)(t:Fr):List Int->Int
 |[]=>0
 |[a]=>a
 |a :: b :: r=>if ltF (row.getD a.toNat (0,1)) t=true then tkr row t (b :: r)else a
theorem tkr_mem(row:List Fr)(t:Fr):∀ {od:List Int},od≠[]->tkr row t od∈od
 |[],h=>absurd rfl h
 |[a],_=>zF
 |a :: b :: r,_=>by
  unfold tkr
  split
  ·exact zD _ (tkr_mem row t (by simp))
  ·exact zF
theorem tkr_all{row:List Fr}{t:Fr}:∀ {pre:List Int}{z:Int},(∀ a∈pre,ltF (row.getD a.toNat (0,1)) t=true)->tkr row t (pre++[z])=z
 |[],z,_=>rfl
 |a :: pre,z,h=>by
  have e:tkr row t (a :: (pre++[z]))=if ltF (row.getD a.toNat (0,1)) t=true then tkr row t (pre++[z])else a:=by
   cases pre with
   |nil=>rfl
   |cons b pre=>rfl
  rw[List.cons_append,e,if_pos (h a (zF ..)),tkr_all fun b hb=>h b (zD _ hb)]
theorem tkr_at{row:List Fr}{t:Fr}:∀ {pre:List Int}{a z:Int}{r:List Int},(∀ b∈pre,ltF (row.getD b.toNat (0,1)) t=true)->ltF (row.getD a.toNat (0,1)) t=false->tkr row t (pre++a :: (r++[z]))=a
 |[],a,z,r,_,h=>by
  have e:tkr row t (a :: (r++[z]))=if ltF (row.getD a.toNat (0,1)) t=true then tkr row t (r++[z])else a:=by
   cases r with
   |nil=>rfl
   |cons b r=>rfl
  rw[List.nil_append,e,if_neg (by rw[h];exact zT)]
 |b :: pre,a,z,r,h,h'=>by
  have e:tkr row t (b :: (pre++a :: (r++[z])))=if ltF (row.getD b.toNat (0,1)) t=true then tkr row t (pre++a :: (r++[z]))else b:=by
   cases pre with
   |nil=>rfl
   |cons c pre=>rfl
  rw[List.cons_append,e,if_pos (h b (zF ..)),tkr_at (fun c hc=>h c (zD _ hc)) h']
end Rnd
namespace K31
open PySem L2 PyProof.Rows
theorem for_seq{K:PySem.W.Frag}{a:Addr}{xs:List V}{g:TG}{tb:TS}{D:Ends}{σ:L2.St}{H:Hp}(b:Bool)(Pv:Nat->L2.St->Hp->Prop)(h0:Pv 0 σ H)(hl:∀ i σ H,i<=xs.length->Pv i σ H->SqB b K H a xs)
  (hs:∀ i x σ H,xs[i]?=some x->Pv i σ H->g x σ H fun σ2 H2=>tb { D with nx:=Pv (i+1),ct:=Pv (i+1),bk:=D.nx } σ2 H2) (hd:∀ σ H,Pv xs.length σ H->D.nx σ H) :
  ∃ W:Nat->Nat->L2.St->Hp->Prop,(∃ m,W 0 m σ H)/\∀ i m σ H,W i m σ H ->
   ((ItB b K a).stop i H/\D.nx σ H)\/((ItB b K a).go i H/\∃ N:L2.St->Hp->Prop,(∀ σ' H',N σ' H'->∃ m',m'<m/\W (i+1) m' σ' H')/\∀ x H',(ItB b K a).yld i H x H'->g x σ H' fun σ2 H2=>tb { D with nx:=N,ct:=N,bk:=D.nx } σ2 H2):=by
 cases b
 ·exact for_list Pv h0 hl hs hd
 ·exact for_tup Pv h0 hl hs hd
theorem sqB_of{b:Bool}{K:PySem.W.Frag}{H:Hp}{a:Addr}{xs:List V}(h:H a=some (sqO b xs)):SqB b K H a xs:=by
 cases b
 ·exact SqL.of h
 ·exact SqT.of h
noncomputable def RowAt(H:Hp)(b:Bool)(a:Addr)(row:List (Int×Int)):Prop:=∃ cs:List Addr,H a=some (sqO b (cs.map V.ref))/\Paired (fun c f=>H c=some (frO f)) cs row
noncomputable def RowsAt(H:Hp)(b:Bool)(o:Addr)(R:Shr.Rows):Prop:=∃ as:List Addr,H o=some (sqO b (as.map V.ref))/\Paired (RowAt H b) as R
theorem RowAt.same{H H':Hp}{b:Bool}{a:Addr}{row:List (Int×Int)}(h:RowAt H b a row)(s:Same H H'):RowAt H' b a row:=by
 obtain⟨cs,h1,h2⟩:=h
 exact⟨cs,s _ _ h1,Paired.mapP h2 fun _ _ z=>s _ _ z⟩
theorem RowsAt.same{H H':Hp}{b:Bool}{o:Addr}{R:Shr.Rows}(h:RowsAt H b o R)(s:Same H H'):RowsAt H' b o R:=by
 obtain⟨as,h1,h2⟩:=h
 exact⟨as,s _ _ h1,Paired.mapP h2 fun _ _ z=>z.same s⟩
noncomputable def IntsAt(H:Hp)(as:List Addr)(Ls:List (List Int)):Prop:=Paired (fun a (L:List Int)=>H a=some (.lst (L.map V.int))) as Ls
theorem IntsAt.same{H H':Hp}{as:List Addr}{Ls:List (List Int)}(h:IntsAt H as Ls)(s:Same H H'):IntsAt H' as Ls:=Paired.mapP h fun _ _ z=>s _ _ z
theorem PairedApp{α β:Type}{F:α->β->Prop}{a a':List α}{b b':List β}(h:Paired F a b)(h':Paired F a' b'):Paired F (a++a') (b++b'):=by
 induction h with
 |nil=>exact h'
 |cons r _ ih=>exact .cons r ih
noncomputable def FrK(K:PySem.W.Frag)(H:Hp)(c:Addr)(f:Int×Int):Prop:=SqT K H c [.int f.1,.int f.2]
noncomputable def RowK(K:PySem.W.Frag)(H:Hp)(b:Bool)(a:Addr)(row:List (Int×Int)):Prop:=∃ cs:List Addr,H a=some (sqO b (cs.map V.ref))/\Paired (FrK K H) cs row
noncomputable def RowsK(K:PySem.W.Frag)(H:Hp)(b:Bool)(o:Addr)(R:Shr.Rows):Prop:=∃ as:List Addr,H o=some (sqO b (as.map V.ref))/\Paired (RowK K H b) as R
theorem RowK.same{K:PySem.W.Frag}{H H':Hp}{b:Bool}{a:Addr}{row:List (Int×Int)}(h:RowK K H b a row)(s:Same H H'):RowK K H' b a row:=by
 obtain⟨cs,h1,h2⟩:=h
 exact⟨cs,s _ _ h1,Paired.mapP h2 fun _ _ z=>s.tupq z⟩
theorem RowAt.k{K:PySem.W.Frag}{H:Hp}{b:Bool}{a:Addr}{row:List (Int×Int)}(h:RowAt H b a row):RowK K H b a row:=by
 obtain⟨cs,h1,h2⟩:=h
 exact⟨cs,h1,Paired.mapP h2 fun _ _ z=>SqT.of z⟩
theorem RowsAt.k{K:PySem.W.Frag}{H:Hp}{b:Bool}{o:Addr}{R:Shr.Rows}(h:RowsAt H b o R):RowsK K H b o R:=by
 obtain⟨as,h1,h2⟩:=h
 exact⟨as,h1,Paired.mapP h2 fun _ _ z=>z.k⟩
structure BOk(R:Shr.Rows):Prop where
 ex:∃ D:Int,0<D/\fitsB 7301 D/\∀ row∈R,∀ f∈row,0<f.2/\f.2 ∣ D/\fitsB 7301 f.1
theorem lcmS_dvd{d u D:Int}(hu:0<u)(h1:d ∣ D)(h2:u ∣ D):Shr.lcmS d u ∣ D:=by
 unfold Shr.lcmS
 have g0:=Shr.gcd_pos (t:=d) hu
 have e:=Int.gcd_mul_lcm d u
 have h:Int.lcm d u ∣ D.natAbs:=Nat.lcm_dvd (Int.natAbs_dvd_natAbs.mpr h1) (Int.natAbs_dvd_natAbs.mpr h2)
 have k:(d / ((Int.gcd d u:Nat):Int) * u).natAbs=Int.lcm d u:=by
  have h3:d / ((Int.gcd d u:Nat):Int) * ((Int.gcd d u:Nat):Int)=d:=zCI (zCK d u)
  have h4:(d / ((Int.gcd d u:Nat):Int) * u).natAbs * Int.gcd d u=(d * u).natAbs:=by
   have:d * u=(d / ((Int.gcd d u:Nat):Int) * u) * ((Int.gcd d u:Nat):Int):=by
    rw[zAD,zAX u,<- zAD,h3]
   rw[this,Int.natAbs_mul _ ((Int.gcd d u:Nat):Int),Int.natAbs_natCast]
  rw[Int.natAbs_mul d u,<- e,Nat.mul_comm]at h4
  exact Nat.eq_of_mul_eq_mul_left g0 h4
 exact Int.natAbs_dvd_natAbs.mp (by rw[k];exact h)
theorem lcmA_dvd{D:Int}:∀ {us:List Int}{d:Int},d ∣ D->(∀ u∈us,0<u/\u ∣ D)->Shr.lcmA d us ∣ D
 |[],_,h,_=>h
 |u :: us,d,h,g=>lcmA_dvd (us:=us) (lcmS_dvd (g u (zF ..)).1 h (g u (zF ..)).2) fun v hv=>g v (zD _ hv)
theorem fits_dvd{k:Nat}{d D:Int}(h0:0<D)(hd:0<d)(h:d ∣ D)(f:fitsB k D):fitsB k d:=by
 have f:D.natAbs<2 ^ k:=f
 show d.natAbs<2 ^ k
 have:=Int.le_of_dvd h0 h
 have:d.natAbs<=D.natAbs:=by lia
 exact zAR this f
theorem bok_of{k e:Nat}{R:Shr.Rows}(h:Shp.ROk k e R):BOk R:=⟨_,h.dn.1,h.dnE.mono (by have:=h.cap;exact zn5 (zl2 this rfl)),fun row hr f hf=>⟨h.pos row hr f hf,h.dn.2.2 row hr f hf,(h.top row hr f hf).mono (by decide)⟩⟩
inductive spOoI(K:PySem.W.Frag)(vs:List V)(H:Hp)(Q:VK):Prop where
 |mk (o:Addr) (b:Bool) (R:Shr.Rows) (h1:vs=[.ref o]) (h2:RowsK K H b o R) (h3:BOk R) (h4:R.length<=1000) (h5:(∀ row∈R,row.length<=1000)) (h6:∀ (t l:Addr) (as:List Addr) (H':Hp),H' t=some (.tup [.int (Shr.dn R),.ref l])->H' l=some (.lst (as.map V.ref))->IntsAt H' as (Shr.tops (Shr.dn R) R)->Same H H'->Q (.ref t) H')
noncomputable def spOo(K:PySem.W.Frag):Sp:=fun vs H Q _=>spOoI K vs H Q
section
variable{P:Program}{w:World}{K:PySem.W.Frag}{mg:Str->Option Value}{base:Heap}{b:Bool}
noncomputable abbrev nOo:List Str:=["rows","below","row","top","under"]
theorem scOo:FnScope nOo ["rows"] (defScope sOverOne):=⟨rfl,rfl,rfl,by decide +kernel,rfl,by decide +kernel,by decide +kernel⟩
theorem csOo1:CompScope ["row","below"] [none,some 1] nOo (defScope sOverOne) (scO [(".0",.local),("row",.local),("below",.free)]):=⟨rfl,by decide +kernel,by decide +kernel,by decide +kernel,rfl,capB_ok (by decide +kernel)⟩
theorem ndOo1:(["row","below"]:List Str).Nodup:=by decide +kernel
theorem csOo2:CompScope ["top","under","below"] [none,none,some 1] ["row","below"] (scO [(".0",.local),("row",.local),("below",.cell)]) (scO [(".0",.local),("top",.local),("under",.local),("below",.free)]):=⟨rfl,by decide +kernel,by decide +kernel,by decide +kernel,rfl,capB_ok (by decide +kernel)⟩
theorem ndOo2:(["top","under","below"]:List Str).Nodup:=by decide +kernel
noncomputable abbrev teOo2(K:PySem.W.Frag)(b:Bool):TE:=tComp [none,none,some 1] (iSeq b K (tVq 0)) (gTup K 2 (gCons (gName 0) (gCons (gName 1) gNil))) tTru (tOp (rI CMulB fun i j=>.int (i * j)) (tVq 0) (tOp (rI CDivB fun i j=>.int (i / j)) (tVq 2) (tVq 1)))
theorem ok_oo{f g:Addr}{fd gd:FuncData}(F:Fun K "over_one" "over_one" sOverOne f fd)(GC:CalF P w K mg base 1 "common_divisor" ["one","other"] spCd g gd):FnOk P w K mg base CX0 2 f fd ["rows"] (spOo K):=by
 refine F.ok scOo (fun vs H Q E h=>?_) (fun cdv A outer s H vs Q E hr h=>?_)
 ·obtain⟨o,b,R,rfl,_⟩:=h
  rfl
 ·obtain⟨o,b,R,rfl,⟨as,ho,hR⟩,⟨Dx,Dx0,Dxf,ok⟩,rl,rwl,fin⟩:=h
  have al:as.length=R.length:=hR.length
  have dnd:∀ {S:Shr.Rows},(∀ row∈S,row∈R)->0<Shr.dn S/\Shr.dn S ∣ Dx:=fun {S} hS=>by
   have hu:∀ u∈Shr.unders S,0<u/\u ∣ Dx:=fun u hu=>by
    obtain⟨row,hr,f,hf,rfl⟩:=Shr.mem_unders.mp hu
    exact⟨(ok row (hS row hr) f hf).1,(ok row (hS row hr) f hf).2.1⟩
   exact⟨(Shr.lcmA_ok (us:=Shr.unders S) (d:=1) (by decide) fun u h=>(hu u h).1).1,lcmA_dvd ⟨Dx,by lia⟩ hu⟩
  obtain⟨D0,DD0⟩:=dnd (S:=R) fun _ h=>h
  have DF:fitsB 7301 (Shr.dn R):=fits_dvd Dx0 D0 DD0 Dxf
  refine⟨_,(yad (ps_set (i:=1) scOo.nd rfl (Or.inr rfl) yae)
   (yad (ps_for PassesOwn.never rfl (pi_seq b (pvQ 0)) (pg_name (i:=2) scOo.nd rfl (Or.inl rfl))
   (pss_one (ps_for PassesOwn.never rfl (pi_seq b (pvQ 2)) (pg_tup (n:=2) rfl (pgs_cons (pg_name (i:=3) scOo.nd rfl (Or.inl rfl)) (pgs_cons (pg_name (i:=4) scOo.nd rfl (Or.inl rfl)) pgs_nil)))
   (pss_one (ps_set (i:=1) scOo.nd rfl (Or.inr rfl) (pe_op op_mulB (pe_op op_fdivB (pvQ 1) (pe_call GC.ok hr rfl GC.mg GC.kp GC.bd .nil pass0 (@yac _ _ _ _ _ _ (pvQ 1) (@yac _ _ _ _ _ _ (pvQ 4) yab)))) (pvQ 4)))))))
   (pss_one (ps_ret (@pe_tup _ _ _ _ _ (@yac _ _ _ _ _ _ (pvQ 1) (@pa_comp _ _ _ _ _ _ _ _ (pe_comp rfl csOo1 (pi_seq b (pvQ 0)) (fun C s H fp=>(pg_name (i:=0) ndOo1 rfl (Or.inl rfl))) (fun C s H fp=>pf_nil) (fun C s H fp=>(show PE _ _ (teOo2 K b)from pe_comp rfl csOo2 (pi_seq b (pvQ 0)) (fun C s H fp=>(pg_tupK K rfl (n:=2) rfl (pgs_cons (pg_name (i:=0) ndOo2 rfl (Or.inl rfl)) (pgs_cons (pg_name (i:=1) ndOo2 rfl (Or.inl rfl)) pgs_nil)) rfl rfl)) (fun C s H fp=>pf_nil) (fun C s H fp=>(pe_op op_mulB (pvQ 0) (pe_op op_fdivB (pvQ 2) (pvQ 1))))))) yab))))))),?_⟩
  refine⟨o,rfl,⟨_,sqB_of ho⟩,?_⟩
  refine for_seq (K:=K) (a:=o) (xs:=as.map V.ref) b (fun i σ G=>∃ v2 v3 v4:Option V,σ=[some (.ref o),some (.int (Shr.dn (R.take i))),v2,v3,v4]/\G=H) ⟨_,_,_,rfl,rfl⟩ (fun i σ G _ z=>by obtain⟨_,_,_,_,rfl⟩:=z;exact sqB_of ho) ?_ ?_
  ·rintro i x σ G hx ⟨v2,v3,v4,rfl,rfl⟩
   obtain⟨il,e⟩:=zI.mp hx
   rw[zA]at il
   rw[zU]at e
   subst e
   have iR:i<R.length:=by exact zh7 il al
   obtain⟨cs,hc,hrow⟩:=Paired.at hR i il iR
   have cl:cs.length=R[i].length:=hrow.length
   obtain⟨d0,dd⟩:=dnd (S:=R.take i) fun _ h=>List.mem_of_mem_take h
   have okr:∀ f∈R[i],0<f.2/\f.2 ∣ Dx:=fun f hf=>⟨(ok _ (zS iR) f hf).1,(ok _ (zS iR) f hf).2.1⟩
   refine⟨as[i],rfl,⟨_,sqB_of hc⟩,?_⟩
   refine for_seq (K:=K) (a:=as[i]) (xs:=cs.map V.ref) b (fun j σ G'=>∃ v3 v4:Option V,σ=[some (.ref o),some (.int (Shr.lcmA (Shr.dn (R.take i)) ((R[i].take j).map (·.2)))),some (.ref as[i]),v3,v4]/\G'=G) ⟨_,_,rfl,rfl⟩ (fun i σ G _ z=>by obtain⟨_,_,_,rfl⟩:=z;exact sqB_of hc) ?_ ?_
   ·rintro j x σ G' hx ⟨v3,v4,rfl,rfl⟩
    obtain⟨jl,e⟩:=zI.mp hx
    rw[zA]at jl
    rw[zU]at e
    subst e
    have jR:j<R[i].length:=by exact zh7 jl cl
    have hf:SqT K _ _ _:=Paired.at hrow j jl jR
    have fu:=okr _ (zS jR)
    have fuf:fitsB 7301 R[i][j].2:=fits_dvd Dx0 fu.1 fu.2 Dxf
    have ld:=Shr.lcmA_ok (us:=(R[i].take j).map (·.2)) d0 fun u hu=>by
     obtain⟨f,hf,rfl⟩:=zAH.mp hu
     exact(okr f (List.mem_of_mem_take hf)).1
    have lf:fitsB 7301 _:=fits_dvd Dx0 ld.1 (lcmA_dvd (us:=(R[i].take j).map (·.2)) dd fun u hu=>by
     obtain⟨f,hf,rfl⟩:=zAH.mp hu
     exact okr f (List.mem_of_mem_take hf)) Dxf
    have en:Shr.lcmA (Shr.dn (R.take i)) ((R[i].take (j+1)).map (·.2))=Shr.lcmS (Shr.lcmA (Shr.dn (R.take i)) ((R[i].take j).map (·.2))) R[i][j].2:=by
     rw[zK jR,zP]
     exact Shr.lcmA_snoc _ _ _
    generalize Shr.lcmA (Shr.dn (R.take i)) ((R[i].take j).map (·.2))=d at ld lf en
    have gp:=Shr.gcd_pos (t:=d) fu.1
    have gf:fitsB 8000 ((Int.gcd d R[i][j].2:Nat):Int):=(gcd_fits (t:=d) fu.1 fuf).mono (by decide)
    refine⟨cs[j],_,rfl,hf,rfl,_,_,rfl,_,_,rfl,rfl,?_⟩
    refine⟨d,R[i][j].2,rfl,by lia,by lia,_,_,rfl,rfl,⟨by lia,gf⟩,_,_,rfl,rfl,⟨(Shr.div_gcd_fits ld.1 fu.1 lf).mono (by decide),fuf.mono (by decide)⟩,?_⟩
    exact⟨_,_,by rw[en];rfl,rfl⟩
   ·rintro σ G' ⟨v3,v4,rfl,rfl⟩
    exact⟨some (.ref as[i]),v3,v4,by rw[zA,cl,zAN,Shr.dn_snoc iR],rfl⟩
  ·rintro σ G ⟨v2,v3,v4,rfl,rfl⟩
   rw[zA,al,zAN]
   refine⟨o,rfl,⟨_,sqB_of ho⟩,?_⟩
   refine comp_seq (K:=K) (b:=b) (a:=o) (xs:=as.map V.ref) (fun i ys G2=>Same G G2/\∃ ls:List Addr,ys=ls.map V.ref/\IntsAt G2 ls (Shr.tops (Shr.dn R) (R.take i))) (by rw[zA,sizeLine_eq];exact zh9 (zl1 rl rfl) al) ⟨Same.refl _,[],rfl,.nil⟩ (fun i ys G2 _ z=>sqB_of (z.1 _ _ ho)) ?_ ?_
   ·rintro i x ys G2 hx ⟨s2,ls,rfl,IA⟩
    obtain⟨il,e⟩:=zI.mp hx
    rw[zA]at il
    rw[zU]at e
    subst e
    have iR:i<R.length:=by exact zh7 il al
    obtain⟨cs,hc,hrow⟩:=RowK.same (Paired.at hR i il iR) s2
    have cl:cs.length=R[i].length:=hrow.length
    have rw1:=rwl _ (zS iR)
    refine⟨⟨rfl,trivial⟩,tTru_if ?_⟩
    refine⟨as[i],rfl,⟨_,sqB_of hc⟩,?_⟩
    refine comp_seq (K:=K) (b:=b) (a:=as[i]) (xs:=cs.map V.ref) (fun j ys G3=>Same G2 G3/\ys=((R[i].take j).map fun f=>f.1 * (Shr.dn R / f.2)).map V.int) (by rw[zA,sizeLine_eq];exact zh9 (zl1 rw1 rfl) cl) ⟨Same.refl _,rfl⟩ (fun j ys G3 _ z=>sqB_of (z.1 _ _ hc)) ?_ ?_
    ·rintro j x ys G3 hx ⟨s3,rfl⟩
     obtain⟨jl,e⟩:=zI.mp hx
     rw[zA]at jl
     rw[zU]at e
     subst e
     have jR:j<R[i].length:=by exact zh7 jl cl
     have hf:SqT K _ _ _:=s3.tupq (Paired.at hrow j jl jR)
     obtain⟨p0,pd,tf⟩:=ok _ (zS iR) _ (zS jR)
     have pf:fitsB 7301 R[i][j].2:=fits_dvd Dx0 p0 pd Dxf
     have qf:fitsB 8000 (Shr.dn R / R[i][j].2):=by
      have h1:=Int.ediv_nonneg (a:=Shr.dn R) (b:=R[i][j].2) (by lia) (by lia)
      have h2:=Int.ediv_le_self (a:=Shr.dn R) R[i][j].2 (by lia)
      exact(DF.le (by lia)).mono (by decide)
     refine⟨cs[j],_,rfl,hf,rfl,_,_,rfl,_,_,rfl,rfl,⟨rfl,trivial⟩,tTru_if ?_⟩
     refine⟨_,_,rfl,rfl,⟨p0,pf.mono (by decide)⟩,_,_,rfl,rfl,⟨tf.mono (by decide),qf⟩,s3,?_⟩
     rw[zK jR,zP,zP]
     rfl
    ·rintro ys G3 yl ⟨s3,rfl⟩ D hD
     rw[zA,cl,zAN]
     have s4:=Same.new (o:=.lst ((R[i].map fun f=>f.1 * (Shr.dn R / f.2)).map V.int)) hD
     refine⟨s2.trans (s3.trans s4),ls++[D],by rw[zP];rfl,?_⟩
     unfold Shr.tops
     rw[zK iR,zP]
     exact PairedApp (IA.same (s3.trans s4)) (.cons yaa .nil)
   ·rintro ys G2 yl ⟨s2,ls,rfl,IA⟩ l hl
    rw[zA,al,zAN]at IA
    have s3:=Same.new (o:=.lst (ls.map V.ref)) hl
    refine⟨(by show 2<=sizeLine;decide),fun t ht=>?_⟩
    have s4:=Same.new (o:=.tup [.int (Shr.dn R),.ref l]) ht
    exact fin t l ls _ yaa (s4 _ _ yaa) (IA.same (s3.trans s4)) (s2.trans (s3.trans s4))
end
open PySem L2 PyProof.Rows
noncomputable def aI(i:Int):Int:=if i<0 then -i else i
theorem aI_nn(i:Int):0<=aI i:=by unfold aI;split <;> lia
noncomputable def dists(xs ys:List Int):List Int:=(xs.zip ys).map fun z=>aI (z.1-z.2)
noncomputable def far(xs ys:List Int):Int:=(dists xs ys).sum
theorem dists_get{xs ys:List Int}{i:Nat}(h1:i<xs.length)(h2:i<ys.length):∃ h:i <(dists xs ys).length,(dists xs ys)[i]=aI (xs[i]-ys[i]):=by
 refine⟨by unfold dists;rw[zA,List.length_zip];lia,?_⟩
 unfold dists
 rw[zU,List.getElem_zip]
theorem sum_nn:∀ {l:List Int},(∀ x∈l,0<=x)->0<=l.sum
 |[],_=>zBI _
 |x :: l,h=>by
  rw[zAF]
  have:=h x (zF ..)
  have:=sum_nn fun y hy=>h y (zD _ hy)
  lia
theorem far_nn(xs ys:List Int):0<=far xs ys:=sum_nn fun x hx=>by
 obtain⟨z,_,rfl⟩:=zAH.mp hx
 exact aI_nn _
noncomputable def rowOf(L:List (List Int))(v:Int):List Int:=L.getD v.toNat []
noncomputable def cOf(L:List (List Int))(x:Tie):Int:=x.2.2 * far (rowOf L x.1) (rowOf L x.2.1)
noncomputable def cAt(L:List (List Int))(l:Nat)(x:Tie):Int:=x.2.2 * aI ((rowOf L x.1).getD l 0-(rowOf L x.2.1).getD l 0)
structure ShOk(k e n m:Nat)(R:Shr.Rows):Prop where
 ok:Shp.ROk k e R
 len:R.length=n
 row:∀ r∈R,r.length=m
 nb:n<=1000
 mb:m<=1000
theorem tops_len(D:Int)(R:Shr.Rows):(Shr.tops D R).length=R.length:=by unfold Shr.tops;rw[zA]
theorem tops_row{k e n m:Nat}{R:Shr.Rows}(h:ShOk k e n m R)(D:Int):∀ L∈Shr.tops D R,L.length=m:=fun L hL=>by
 obtain⟨r,hr,rfl⟩:=zAH.mp hL
 rw[zA]
 exact h.row r hr
theorem rowOf_nat{L:List (List Int)}{v:Nat}(h:v<L.length):rowOf L (v:Int)=L[v]:=by
 unfold rowOf
 rw[zAC,zAL,zE h]
 rfl
inductive spApI(vs:List V)(H:Hp)(Q:VK):Prop where
 |mk (p q:Addr) (xs ys:List Int) (h1:vs=[.ref p,.ref q]) (h2:H p=some (.lst (xs.map V.int))) (h3:H q=some (.lst (ys.map V.int))) (h4:xs.length=ys.length) (h5:xs.length<=1000) (h6:∀ H',Same H H'->Q (.int (far xs ys)) H')
noncomputable def spAp:Sp:=fun vs H Q _=>spApI vs H Q
inductive spCoI(K:PySem.W.Frag)(vs:List V)(H:Hp)(Q:VK):Prop where
 |mk (t o:Addr) (n m k e:Nat) (ties:List Tie) (b:Bool) (R:Shr.Rows) (h1:vs=[.ref t,.ref o]) (h2:WebAt H t n ties) (h3:(∀ x∈ties,TieOk n x)) (h4:RowsK K H b o R) (h5:ShOk k e n m R) (h6:∀ (c:Addr) (H':Hp),H' c=some (frO (Shr.nf (ties.map (cOf (Shr.tops (Shr.dn R) R))).sum (2 * Shr.dn R)))->Same H H'->Q (.ref c) H')
noncomputable def spCo(K:PySem.W.Frag):Sp:=fun vs H Q _=>spCoI K vs H Q
inductive spCaI(K:PySem.W.Frag)(vs:List V)(H:Hp)(Q:VK):Prop where
 |mk (t o:Addr) (l n m k e:Nat) (ties:List Tie) (b:Bool) (R:Shr.Rows) (h1:vs=[.ref t,.ref o,.int l]) (h2:l<m) (h3:WebAt H t n ties) (h4:(∀ x∈ties,TieOk n x)) (h5:RowsK K H b o R) (h6:ShOk k e n m R) (h7:∀ (c:Addr) (H':Hp),H' c=some (frO (Shr.nf (ties.map (cAt (Shr.tops (Shr.dn R) R) l)).sum (Shr.dn R)))->Same H H'->Q (.ref c) H')
noncomputable def spCa(K:PySem.W.Frag):Sp:=fun vs H Q _=>spCaI K vs H Q
section
variable{P:Program}{w:World}{K:PySem.W.Frag}{mg:Str->Option Value}{base:Heap}
noncomputable abbrev nAp:List Str:=["one","other"]
theorem scAp:FnScope nAp ["one","other"] (defScope sApart):=⟨rfl,rfl,rfl,by decide +kernel,rfl,by decide +kernel,by decide +kernel⟩
theorem csAp1:CompScope ["here","there"] [none,none] nAp (defScope sApart) (scO [(".0",.local),("here",.local),("there",.local),("abs",.globalImplicit)]):=⟨rfl,by decide +kernel,by decide +kernel,by decide +kernel,rfl,capB_ok (by decide +kernel)⟩
theorem ndAp1:(["here","there"]:List Str).Nodup:=by decide +kernel
theorem ok_ap{f:Addr}{fd:FuncData}(F:Fun K "apart" "apart" sApart f fd)(T:Txt mg)(T2:Txt2 mg):FnOk P w K mg base CX0 1 f fd ["one","other"] spAp:=by
 refine F.ok scAp (fun vs H Q E h=>?_) (fun cdv A outer s H vs Q E hr h=>?_)
 ·obtain⟨p,q,xs,ys,rfl,_⟩:=h
  rfl
 ·obtain⟨p,q,xs,ys,rfl,hp,hq,el,xl,fin⟩:=h
  have dl:(dists xs ys).length=xs.length:=by unfold dists;rw[zA,List.length_zip];lia
  refine⟨_,(pss_one (ps_ret (pe_callB (call_sumH rfl) (by rfl) T.sum boot_sum (@pa_comp _ _ _ _ _ _ _ _ (pe_comp rfl csAp1 (pi_zip false false (by rfl) T2.zip (@yac _ _ _ _ _ _ (pvQ 0) (@yac _ _ _ _ _ _ (pvQ 1) yab))) (fun C s H fp=>(pg_tupK K rfl (n:=2) rfl (pgs_cons (pg_name (i:=0) ndAp1 rfl (Or.inl rfl)) (pgs_cons (pg_name (i:=1) ndAp1 rfl (Or.inl rfl)) pgs_nil)) rfl rfl)) (fun C s H fp=>pf_nil) (fun C s H fp=>(pe_callB call_abs (by rfl) T.abs boot_abs (@pa_bin _ _ _ _ _ _ _ _ (pe_op op_sub (pvQ 0) (pvQ 1)) yab)))) yab)))),?_⟩
  refine⟨p,q,rfl,⟨_,SqL.of hp⟩,⟨_,SqL.of hq⟩,?_⟩
  refine comp_zip (K:=K) (b1:=false) (b2:=false) (l1:=p) (l2:=q) (xs:=xs.map V.int) (ys:=ys.map V.int) (fun i zs G=>Same H G/\zs=((dists xs ys).take i).map V.int) (by rw[zA,zA,sizeLine_eq];lia) ⟨Same.refl _,rfl⟩ (fun i zs G _ z=>⟨SqL.of (z.1 _ _ hp),SqL.of (z.1 _ _ hq)⟩) ?_ ?_
  ·rintro i u v zs G U hx hy ⟨sG,rfl⟩ hU
   obtain⟨il',e⟩:=zI.mp hx
   rw[zA]at il'
   rw[zU]at e
   subst e
   obtain⟨il,e⟩:=zI.mp hy
   rw[zA]at il
   rw[zU]at e
   subst e
   obtain⟨dh,de⟩:=dists_get il' il
   have sU:=Same.new (o:=.tup [V.int xs[i],V.int ys[i]]) hU
   refine⟨U,_,rfl,SqT.of yaa,rfl,_,_,rfl,_,_,rfl,rfl,trivial,tTru_if ⟨_,_,rfl,rfl,_,rfl,sG.trans sU,?_⟩⟩
   rw[zK dh,zP,de]
   rfl
  rintro zs G zl ⟨sG,rfl⟩ D hD
  rw[zA,zA,show min xs.length ys.length=(dists xs ys).length by lia,zAN]
  exact⟨D,_,rfl,yaa,fin _ (sG.trans (Same.new hD))⟩
noncomputable abbrev nCo:List Str:=["web","shares","below","rows"]
theorem scCo:FnScope nCo ["web","shares"] (defScope sCostOf):=⟨rfl,rfl,rfl,by decide +kernel,rfl,by decide +kernel,by decide +kernel⟩
theorem csCo1:CompScope ["a","b","weight","rows"] [none,none,none,some 3] nCo (defScope sCostOf) (scO [(".0",.local),("a",.local),("b",.local),("weight",.local),("apart",.globalImplicit),("rows",.free)]):=⟨rfl,by decide +kernel,by decide +kernel,by decide +kernel,rfl,capB_ok (by decide +kernel)⟩
theorem ndCo1:(["a","b","weight","rows"]:List Str).Nodup:=by decide +kernel
theorem ok_co{f g1 g2 g3:Addr}{fd d1 d2 d3:FuncData}(F:Fun K "cost_of" "cost_of" sCostOf f fd)(T:Txt mg)(GO:CalF P w K mg base 2 "over_one" ["rows"] (spOo K) g1 d1)(GA:CalF P w K mg base 1 "apart" ["one","other"] spAp g2 d2)(GF:CalF P w K mg base 2 "fraction" ["top","below"] spFr g3 d3):FnOk P w K mg base CX0 3 f fd ["web","shares"] (spCo K):=by
 refine F.ok scCo (fun vs H Q E h=>?_) (fun cdv A outer s H vs Q E hr h=>?_)
 ·obtain⟨t,o,n,m,kb,eb,ties,b,R,rfl,_⟩:=h
  rfl
 ·obtain⟨t,o,n,m,kb,eb,ties,b,R,rfl,W,ok,RA,sh,fin⟩:=h
  obtain⟨⟨ts,bs,h1,h2,h3⟩,len⟩:=id W
  have h3l:bs.length=ties.length:=h3.length
  have hr1:Room 1 _:=hr.mono (by decide)
  have hr2:Room 2 _:=hr
  obtain⟨D0,_,DD⟩:=sh.ok.dn
  have DF:=sh.ok.dnE
  have cap:=sh.ok.cap
  have rl:=sh.len
  have nb:=sh.nb
  have mb:=sh.mb
  refine⟨_,(yad (ps_asg (pe_call GO.ok hr2 rfl GO.mg GO.kp GO.bd .nil pass0 (@yac _ _ _ _ _ _ (pvQ 1) yab)) (pg_tup (n:=2) rfl (pgs_cons (pg_name (i:=2) scCo.nd rfl (Or.inl rfl)) (pgs_cons (pg_name (i:=3) scCo.nd rfl (Or.inr rfl)) pgs_nil))))
   (pss_one (ps_ret (pe_call GF.ok hr2 rfl GF.mg GF.kp GF.bd .nil pass0 (@pa_call _ _ _ _ _ _ _ _ (pe_callB (call_sumH rfl) (by rfl) T.sum boot_sum (@pa_comp _ _ _ _ _ _ _ _ (pe_comp rfl csCo1 (pi_tup (@pe_ix _ _ _ _ _ _ _ ix_tupH (pvQ 0) yae (fun _ _=>rfl))) (fun C s H fp=>(pg_tupK K rfl (n:=3) rfl (pgs_cons (pg_name (i:=0) ndCo1 rfl (Or.inl rfl)) (pgs_cons (pg_name (i:=1) ndCo1 rfl (Or.inl rfl)) (pgs_cons (pg_name (i:=2) ndCo1 rfl (Or.inl rfl)) pgs_nil))) rfl rfl)) (fun C s H fp=>pf_nil) (fun C s H fp=>(pe_op op_mul (pvQ 2) (pe_call GA.ok hr1 rfl GA.mg GA.kp GA.bd .nil pass0 (@pa_sub _ _ _ _ _ _ _ (@pe_ix _ _ _ _ _ _ _ ix_listH (pvQ 3) (pvQ 0) (fun _ _=>rfl)) (@pa_sub _ _ _ _ _ _ _ (@pe_ix _ _ _ _ _ _ _ ix_listH (pvQ 3) (pvQ 1) (fun _ _=>rfl)) yab)))))) yab)) (@pa_bin _ _ _ _ _ _ _ _ (pe_op op_mul yae (pvQ 2)) yab)))))),?_⟩
  refine⟨o,b,R,rfl,RA,bok_of sh.ok,by exact zh9 nb rl,fun r hr=>by rw[sh.row r hr];exact mb,fun tp l as H1 gt gl IA s1=>?_⟩
  refine⟨tp,_,rfl,SqT.of gt,rfl,_,_,rfl,_,_,rfl,rfl,?_⟩
  have tl:=tops_len (Shr.dn R) R
  have tr:=tops_row sh (Shr.dn R)
  generalize eL:Shr.tops (Shr.dn R) R=L at IA tl tr fin
  have al:as.length=L.length:=IA.length
  refine⟨t,_,_,_,rfl,rfl,s1 _ _ h1,rfl,ts,rfl,⟨_,SqT.of (s1 _ _ h2)⟩,?_⟩
  refine comp_tup (K:=K) (a:=ts) (xs:=bs.map V.ref) (fun j ys G=>Same H1 G/\ys=((ties.take j).map (cOf L)).map V.int) (by rw[zA,sizeLine_eq];exact zh9 (zl1 len rfl) h3l) ⟨Same.refl _,rfl⟩ (fun j ys G _ z=>SqT.of (z.1 _ _ (s1 _ _ h2))) ?_ ?_
  ·rintro j x ys G hx ⟨sG,rfl⟩
   obtain⟨il,e⟩:=zI.mp hx
   rw[zA]at il
   rw[zU]at e
   subst e
   have it:j<ties.length:=by exact zh7 il h3l
   have hx:=sG _ _ (s1 _ _ (Paired.at h3 j il it))
   obtain⟨o1,o2,o3,o4,o5⟩:=ok _ (zS it)
   rw[zK it,zP,zP]
   generalize ties[j]=x at *
   obtain⟨u,v,c⟩:=x
   have o1:0<=u:=o1
   have o2:u<v:=o2
   have o3:v<n:=o3
   have o4:1<=c:=o4
   have o5:c<=1073741824:=o5
   obtain⟨u,rfl⟩:∃ a':Nat,u=(a':Int):=⟨u.toNat,by lia⟩
   obtain⟨v,rfl⟩:∃ b':Nat,v=(b':Int):=⟨v.toNat,by lia⟩
   have uL:u<L.length:=by lia
   have vL:v<L.length:=by lia
   have gl':=sG _ _ gl
   have atu:atI (as.map V.ref) (u:Int)=some (V.ref (as[u]'(by exact zh8 uL al))):=atI_nat (by rw[zAB,zE (by exact zh8 uL al)];rfl)
   have atv:atI (as.map V.ref) (v:Int)=some (V.ref (as[v]'(by lia))):=atI_nat (by rw[zAB,zE (by lia)];rfl)
   have lu:=tr _ (zS uL)
   have lv:=tr _ (zS vL)
   refine⟨bs[j],_,rfl,SqT.of hx,rfl,_,_,rfl,_,_,rfl,_,_,rfl,rfl,⟨rfl,trivial⟩,tTru_if ?_⟩
   refine⟨l,_,_,_,rfl,rfl,gl',atu,l,_,_,_,rfl,rfl,gl',atv,_,_,L[u],L[v],rfl,sG _ _ (Paired.at IA u (by exact zh8 uL al) uL),sG _ _ (Paired.at IA v (by exact zh8 vL al) vL),by lia,by exact zh9 mb lu,fun G' s'=>⟨_,_,rfl,rfl,.inl ⟨by lia,by lia⟩,sG.trans s',?_⟩⟩
   show _++[V.int (c * far L[u] L[v])]=_++[V.int (c * far (rowOf L u) (rowOf L v))]
   rw[rowOf_nat uL,rowOf_nat vL]
  rintro ys G yl ⟨sG,rfl⟩ D hD
  rw[zA,h3l,zAN]
  have s2:=s1.trans (sG.trans (Same.new (o:=.lst ((ties.map (cOf L)).map V.int)) hD))
  have nn:0<=(ties.map (cOf L)).sum:=sum_nn fun x hx=>by
   obtain⟨y,hy,rfl⟩:=zAH.mp hx
   have:=(ok y hy).2.2.2.1
   exact Int.mul_nonneg (by lia) (far_nn _ _)
  have f2:fitsB 8000 (2 * Shr.dn R):=((show fitsB 2 2 by show(2:Int).natAbs<2 ^ 2;decide).mul DF).mono (by lia)
  refine⟨D,_,rfl,yaa,_,_,rfl,rfl,.inl ⟨by decide,by decide⟩,_,_,rfl,by exact zn3 D0,f2,fun c hc=>?_⟩
  exact fin c _ yaa (s2.trans (Same.new hc))
noncomputable abbrev nCa:List Str:=["web","shares","l","below","rows"]
theorem scCa:FnScope nCa ["web","shares","l"] (defScope sCostAt):=⟨rfl,rfl,rfl,by decide +kernel,rfl,by decide +kernel,by decide +kernel⟩
theorem csCa1:CompScope ["a","b","weight","rows","l"] [none,none,none,some 4,some 2] nCa (defScope sCostAt) (scO [(".0",.local),("a",.local),("b",.local),("weight",.local),("abs",.globalImplicit),("l",.free),("rows",.free)]):=⟨rfl,by decide +kernel,by decide +kernel,by decide +kernel,rfl,capB_ok (by decide +kernel)⟩
theorem ndCa1:(["a","b","weight","rows","l"]:List Str).Nodup:=by decide +kernel
theorem ok_ca{f g1 g3:Addr}{fd d1 d3:FuncData}(F:Fun K "cost_at" "cost_at" sCostAt f fd)(T:Txt mg)(GO:CalF P w K mg base 2 "over_one" ["rows"] (spOo K) g1 d1)(GF:CalF P w K mg base 2 "fraction" ["top","below"] spFr g3 d3):FnOk P w K mg base CX0 3 f fd ["web","shares","l"] (spCa K):=by
 refine F.ok scCa (fun vs H Q E h=>?_) (fun cdv A outer s H vs Q E hr h=>?_)
 ·obtain⟨t,o,l,n,m,kb,eb,ties,b,R,rfl,_⟩:=h
  rfl
 ·obtain⟨t,o,k,n,m,kb,eb,ties,b,R,rfl,km,W,ok,RA,sh,fin⟩:=h
  obtain⟨⟨ts,bs,h1,h2,h3⟩,len⟩:=id W
  have h3l:bs.length=ties.length:=h3.length
  have hr2:Room 2 _:=hr
  obtain⟨D0,_,DD⟩:=sh.ok.dn
  have DF:=sh.ok.dnE
  have cap:=sh.ok.cap
  have rl:=sh.len
  have nb:=sh.nb
  have mb:=sh.mb
  refine⟨_,(yad (ps_asg (pe_call GO.ok hr2 rfl GO.mg GO.kp GO.bd .nil pass0 (@yac _ _ _ _ _ _ (pvQ 1) yab)) (pg_tup (n:=2) rfl (pgs_cons (pg_name (i:=3) scCa.nd rfl (Or.inl rfl)) (pgs_cons (pg_name (i:=4) scCa.nd rfl (Or.inr rfl)) pgs_nil))))
   (pss_one (ps_ret (pe_call GF.ok hr2 rfl GF.mg GF.kp GF.bd .nil pass0 (@pa_call _ _ _ _ _ _ _ _ (pe_callB (call_sumH rfl) (by rfl) T.sum boot_sum (@pa_comp _ _ _ _ _ _ _ _ (pe_comp rfl csCa1 (pi_tup (@pe_ix _ _ _ _ _ _ _ ix_tupH (pvQ 0) yae (fun _ _=>rfl))) (fun C s H fp=>(pg_tupK K rfl (n:=3) rfl (pgs_cons (pg_name (i:=0) ndCa1 rfl (Or.inl rfl)) (pgs_cons (pg_name (i:=1) ndCa1 rfl (Or.inl rfl)) (pgs_cons (pg_name (i:=2) ndCa1 rfl (Or.inl rfl)) pgs_nil))) rfl rfl)) (fun C s H fp=>pf_nil) (fun C s H fp=>(pe_op op_mul (pvQ 2) (pe_callB call_abs (by rfl) T.abs boot_abs (@pa_bin _ _ _ _ _ _ _ _ (pe_op op_sub (@pe_ix _ _ _ _ _ _ _ ix_listH (@pe_ix _ _ _ _ _ _ _ ix_listH (pvQ 3) (pvQ 0) (fun _ _=>rfl)) (pvQ 4) (fun _ _=>rfl)) (@pe_ix _ _ _ _ _ _ _ ix_listH (@pe_ix _ _ _ _ _ _ _ ix_listH (pvQ 3) (pvQ 1) (fun _ _=>rfl)) (pvQ 4) (fun _ _=>rfl))) yab))))) yab)) (@yac _ _ _ _ _ _ (pvQ 3) yab)))))),?_⟩
  refine⟨o,b,R,rfl,RA,bok_of sh.ok,by exact zh9 nb rl,fun r hr=>by rw[sh.row r hr];exact mb,fun tp l as H1 gt gl IA s1=>?_⟩
  refine⟨tp,_,rfl,SqT.of gt,rfl,_,_,rfl,_,_,rfl,rfl,?_⟩
  have tl:=tops_len (Shr.dn R) R
  have tr:=tops_row sh (Shr.dn R)
  generalize eL:Shr.tops (Shr.dn R) R=L at IA tl tr fin
  have al:as.length=L.length:=IA.length
  refine⟨t,_,_,_,rfl,rfl,s1 _ _ h1,rfl,ts,rfl,⟨_,SqT.of (s1 _ _ h2)⟩,?_⟩
  refine comp_tup (K:=K) (a:=ts) (xs:=bs.map V.ref) (fun j ys G=>Same H1 G/\ys=((ties.take j).map (cAt L k)).map V.int) (by rw[zA,sizeLine_eq];exact zh9 (zl1 len rfl) h3l) ⟨Same.refl _,rfl⟩ (fun j ys G _ z=>SqT.of (z.1 _ _ (s1 _ _ h2))) ?_ ?_
  ·rintro j x ys G hx ⟨sG,rfl⟩
   obtain⟨il,e⟩:=zI.mp hx
   rw[zA]at il
   rw[zU]at e
   subst e
   have it:j<ties.length:=by exact zh7 il h3l
   have hx:=sG _ _ (s1 _ _ (Paired.at h3 j il it))
   obtain⟨o1,o2,o3,o4,o5⟩:=ok _ (zS it)
   rw[zK it,zP,zP]
   generalize ties[j]=x at *
   obtain⟨u,v,c⟩:=x
   have o1:0<=u:=o1
   have o2:u<v:=o2
   have o3:v<n:=o3
   have o4:1<=c:=o4
   have o5:c<=1073741824:=o5
   obtain⟨u,rfl⟩:∃ a':Nat,u=(a':Int):=⟨u.toNat,by lia⟩
   obtain⟨v,rfl⟩:∃ b':Nat,v=(b':Int):=⟨v.toNat,by lia⟩
   have uL:u<L.length:=by lia
   have vL:v<L.length:=by lia
   have gl':=sG _ _ gl
   have atu:atI (as.map V.ref) (u:Int)=some (V.ref (as[u]'(by exact zh8 uL al))):=atI_nat (by rw[zAB,zE (by exact zh8 uL al)];rfl)
   have atv:atI (as.map V.ref) (v:Int)=some (V.ref (as[v]'(by lia))):=atI_nat (by rw[zAB,zE (by lia)];rfl)
   have lu:=tr _ (zS uL)
   have lv:=tr _ (zS vL)
   have eu:atI (L[u].map V.int) (k:Int)=some (V.int (L[u].getD k 0)):=atI_nat (by rw[zAB,zAL,zE (by exact zh8 km lu)];rfl)
   have ev:atI (L[v].map V.int) (k:Int)=some (V.int (L[v].getD k 0)):=atI_nat (by rw[zAB,zAL,zE (by exact zh8 km lv)];rfl)
   refine⟨bs[j],_,rfl,SqT.of hx,rfl,_,_,rfl,_,_,rfl,_,_,rfl,rfl,⟨rfl,rfl,trivial⟩,tTru_if ?_⟩
   refine⟨l,_,_,_,rfl,rfl,gl',atu,_,_,_,_,rfl,rfl,sG _ _ (Paired.at IA u (by exact zh8 uL al) uL),eu,l,_,_,_,rfl,rfl,gl',atv,_,_,_,_,rfl,rfl,sG _ _ (Paired.at IA v (by exact zh8 vL al) vL),ev,_,_,rfl,rfl,_,rfl,_,_,rfl,rfl,.inl ⟨by lia,by lia⟩,sG,?_⟩
   show _++[V.int (c * aI (L[u].getD k 0-L[v].getD k 0))]=_++[V.int (c * aI ((rowOf L u).getD k 0-(rowOf L v).getD k 0))]
   rw[rowOf_nat uL,rowOf_nat vL]
  rintro ys G yl ⟨sG,rfl⟩ D hD
  rw[zA,h3l,zAN]
  have s2:=s1.trans (sG.trans (Same.new (o:=.lst ((ties.map (cAt L k)).map V.int)) hD))
  have nn:0<=(ties.map (cAt L k)).sum:=sum_nn fun x hx=>by
   obtain⟨y,hy,rfl⟩:=zAH.mp hx
   have:=(ok y hy).2.2.2.1
   exact Int.mul_nonneg (by lia) (aI_nn _)
  refine⟨D,_,rfl,yaa,_,_,rfl,by exact D0,DF.mono (by exact zn5 (zl2 cap rfl)),fun c hc=>?_⟩
  exact fin c _ yaa (s2.trans (Same.new hc))
end
end K31
namespace L2
open PySem PySem.W PyProof.Rows
theorem pe_bmK{X:Cx}(K:PySem.W.Frag)(eK:X.K=K){T id:String}{name:Str}{r:V->List V->Hp->VK->Prop}{o e:Expr}{es:List Expr}{to:TE}{t:TA}{apos cpos:Pos}(pa:PlainAttrs T)(slot:Slot T name id)(hty:typeOf (.builtin id)=pure (.type "method_descriptor"))(hm:MtR X id r)(ho:PE X o to)(ha:PA X (e :: es) t)
  (hbase:attributeBase o name X.env (eval o X.env)=eval o X.env:=by rfl)
  (hfew:((backTo cpos (starEach (e :: es) X.env)).all (fun x=>!x.1) && (backToKw cpos (keywordEach [] X.env)).all (fun x=>x.1.isSome) && decide ((e :: es).length+([]:List Keyword).length+(if([]:List Keyword).isEmpty then 0 else 1)<30))=true:=by rfl)
  (hline:(apos.endLine == cpos.line)=true:=by rfl) (hs:starEach (e :: es) X.env=(false,eval e X.env) :: starEach es X.env:=by rfl) (hplain:(backTo cpos (starEach es X.env)).any (·.1)=false:=by rfl):PE X (.Call (.Attribute o name apos) (e :: es) [] cpos) (tBM K T r to t):=by
 subst eK
 exact pe_bm pa slot hty hm ho ha hbase hfew hline hs hplain
theorem call_len_seqK{X:Cx}(K:PySem.W.Frag)(e:X.K=K):CallR X (.builtin "len") (fun xs H Q=>∃ p ys,xs=[.ref p]/\(SqL K H p ys\/SqT K H p ys)/\Q (.int ys.length) H):=e▸call_len_seq
theorem map_eraseI:∀ (l:List Int) (k:Nat),(l.map V.int).eraseIdx k=(l.eraseIdx k).map V.int
 |[],k=>by cases k <;> rfl
 |x :: r,0=>rfl
 |x :: r,k+1=>by
  show V.int x :: (r.map V.int).eraseIdx k=V.int x :: (r.eraseIdx k).map V.int
  rw[map_eraseI r k]
end L2
namespace K31
open PySem L2 PyProof.Rows
theorem BoxAt.same{H H':Hp}{p:Addr}{N:Nat}(B:BoxAt H p N)(s:Same H H'):BoxAt H' p N:=by
 obtain⟨a,b,c,e,r⟩:=B
 exact⟨a,b,c,s _ _ e,r⟩
theorem upto_nodup(n:Nat):(upto n).Nodup:=by
 unfold upto List.Nodup
 rw[List.pairwise_map]
 exact(List.nodup_range (n:=n)).imp fun {a b} ne e=>ne (by lia)
structure PostOk(n:Nat)(ps:List Int):Prop where
 nd:ps.Nodup
 rg:∀ x∈ps,0<=x/\x<n
 lo:1<=ps.length
 hi:ps.length<=6
inductive spPoI(vs:List V)(H:Hp)(Q:VK):Prop where
 |mk (p:Addr) (n N:Nat) (mo:Int) (h1:vs=[.ref p,.int n,.int mo]) (h2:BoxAt H p N) (h3:N+100<2 ^ 40) (h4:2<=n) (h5:n<=30) (h6:2<=mo) (h7:mo<=6) (h8:∀ (l:Addr) (ps:List Int) (H':Hp),H l=none->H' l=some (.lst (ps.map V.int))->l≠p->PostOk n ps->BoxAt H' p (N+20)->Kept p H H'->Q (.ref l) H')
noncomputable def spPo:Sp:=fun vs H Q _=>spPoI vs H Q
section
variable{P:Program}{w:World}{K:PySem.W.Frag}{mg:Str->Option Value}{base:Heap}
noncomputable abbrev nPo:List Str:=["_law_box_here","_law_many_here","_law_most","_law_some","_law_found"]
theorem scPo:FnScope nPo ["_law_box_here","_law_many_here","_law_most"] (defScope sPosts):=⟨rfl,rfl,rfl,by decide +kernel,rfl,by decide +kernel,by decide +kernel⟩
theorem csPo:CompScope ["_law_turn","_law_box_here","_law_some"] [none,some 0,some 3] nPo (defScope sPosts) (scO [(".0",.local),("_law_turn",.local),("_law_take",.globalImplicit),("len",.globalImplicit),("_law_box_here",.free),("_law_some",.free)]):=⟨rfl,by decide +kernel,by decide +kernel,by decide +kernel,rfl,capB_ok (by decide +kernel)⟩
theorem ndPo:(["_law_turn","_law_box_here","_law_some"]:List Str).Nodup:=by decide +kernel
theorem ok_po{f g:Addr}{fd gd:FuncData}(F:Fun K "_law_posts" "_law_posts" sPosts f fd)(T:Txt mg)(G:TakeF P w K mg base g gd):FnOk P w K mg base CX0 2 f fd ["_law_box_here","_law_many_here","_law_most"] spPo:=by
 refine F.ok scPo (fun vs H Q E h=>?_) (fun cdv A outer s H vs Q E hr h=>?_)
 ·obtain⟨p,n,N,mo,rfl,_⟩:=h
  rfl
 ·obtain⟨p,n,N,mo,rfl,B,hN,n1,n30,mo0,mo6,q⟩:=h
  refine⟨_,yad (ps_set (i:=3) scPo.nd rfl (Or.inr rfl) (pe_callTy (call_list_rng rfl) (by rfl) T.list boot_list (@pa_call _ _ _ _ _ _ _ _ (pe_callTy (call_range _) (by rfl) T.range boot_range (@yac _ _ _ _ _ _ (pvQ 1) yab)) yab)))
   (yad (ps_comp (i:=4) scPo.nd rfl (Or.inl rfl) rfl csPo (pi_range1 rfl T.range (@pa_call _ _ _ _ _ _ _ _ (pe_callB (call_min2 rfl) (by rfl) T.min boot_min (@yac _ _ _ _ _ _ (pvQ 1) (@pa_bin _ _ _ _ _ _ _ _ (pe_op op_add yae (pe_call G.ok hr rfl G.mg G.kp G.bd .nil pass0 (@yac _ _ _ _ _ _ (pvQ 0) (@pa_bin _ _ _ _ _ _ _ _ (pe_op op_sub (pvQ 2) yae) yab)))) yab))) yab))
    (fun C s H fp=>pg_name (i:=0) ndPo rfl (Or.inl rfl)) (fun C s H fp=>pf_nil)
    (fun C s H fp=>pe_bmK K rfl PySem.F.plainAttrs_list PySem.F.slot_list_pop PySem.F.type_list_pop mt_popAt (pvQ 2) (@pa_call _ _ _ _ _ _ _ _ (pe_call G.ok hr rfl G.mg G.kp G.bd .nil pass0 (@yac _ _ _ _ _ _ (pvQ 1) (@pa_call _ _ _ _ _ _ _ _ (pe_callB (call_len_seqK K rfl) (by rfl) T.len PySem.boot_len (@yac _ _ _ _ _ _ (pvQ 2) yab)) yab))) yab)))
   (pss_one (ps_ret (pe_callB call_sortedI (by rfl) T.sorted boot_sorted (@yac _ _ _ _ _ _ (pvQ 4) yab))))),?_⟩
  refine⟨_,rfl,fun r hr=>⟨r,_,rfl,yaa,by exact zh1,by exact zm3 n30 rfl,fun so hso=>?_⟩⟩
  rw[show((n:Int)).toNat=n by exact zAC n]
  have so0:H so=none:=(Same.new (o:=.rng 0 (n:Int)) hr).free hso
  have sop:so≠p:=B.ne so0
  have s1:=(Same.new (o:=.rng 0 (n:Int)) hr).trans (Same.new (o:=.lst ((upto n).map V.int)) hso)
  have gs:(upd (upd H r (.rng 0 (n:Int))) so (.lst ((upto n).map V.int))) so=some (.lst ((upto n).map V.int)):=yaa
  generalize (upd (upd H r (.rng 0 (n:Int))) so (.lst ((upto n).map V.int)))=H1 at s1 gs
  have B1:=B.same s1
  refine⟨_,_,rfl,rfl,p,_,N,rfl,B1,by exact zAR (zAA N 100) hN,by lia,by lia,fun z H2 z0 z1 B2 k2=>?_⟩
  refine⟨_,_,rfl,rfl,_,_,rfl,_,rfl,by split <;> lia,by split <;> lia,?_⟩
  obtain⟨ct,ec,c1,c2,c3⟩:∃ ct:Nat,(if 2+z <(n:Int)then 2+z else(n:Int)).toNat=ct/\ct<=n/\ct<=6/\2<=ct:=⟨_,rfl,by split <;> lia,by split <;> lia,by split <;> lia⟩
  rw[ec]
  have k1:Kept p H H1:=fun b o _ e=>s1 b o e
  refine comp_range (lo:=0) (n:=ct) (fun j ys G2=>BoxAt G2 p (N+1+j)/\Kept p H G2/\∃ (rs qs:List Int),G2 so=some (.lst (rs.map V.int))/\ys=qs.map V.int/\(qs++rs).Perm (upto n)/\qs.length=j) (by rw[sizeLine_eq];exact zl1 c2 rfl)
   ⟨B2,k1.trans k2,upto n,[],k2 _ _ sop gs,rfl,.refl _,rfl⟩ ?_ ?_
  ·rintro j ys G2 hj ⟨B3,k3,rs,qs,gs3,rfl,pm,ql⟩
   have rl:qs.length+rs.length=n:=by
    have:=pm.length_eq
    rw[zO,upto_length]at this
    exact this
   refine⟨⟨rfl,rfl,trivial⟩,tTru_if ⟨.inl ⟨rfl,_,SqL.of gs3⟩,so,_,rfl,.inl (SqL.of gs3),p,_,_,rfl,B3,by lia,by rw[zA];lia,by rw[zA];lia,fun y G3 y0 y1 B4 k4=>?_⟩⟩
   rw[zA]at y1
   obtain⟨k,rfl⟩:∃ k:Nat,y=(k:Int):=⟨y.toNat,by exact zh3 y0⟩
   have kl:k<rs.length:=by exact zi3 y1
   have gs4:=k4 _ _ sop gs3
   refine⟨so,rs.map V.int,(k:Int),k,V.int rs[k],rfl,rfl,gs4,by exact zh2,by lia,?_,by rw[zAB,zE kl];rfl,?_⟩
   ·unfold seqIndex?
    rw[zA]
    simp
    exact zi1 y1
   rw[map_eraseI]
   refine⟨(B4.put sop).mono (by exact zn4),(k3.trans k4).put so0,rs.eraseIdx k,qs++[rs[k]],yaa,by rw[zP];rfl,?_,by rw[zO,ql];rfl⟩
   rw[zAI]
   exact(List.Perm.append_left _ (SetA.cut_perm k rs kl)).trans pm
  ·rintro ys G2 yl ⟨B3,k3,rs,qs,gs3,rfl,pm,ql⟩ D hD
   have sD:=Same.new (o:=.lst (qs.map V.int)) hD
   refine⟨D,qs,rfl,SqL.of yaa,by exact zAR (zBX ql) (zl2 c2 rfl),fun l ms hl pq _=>?_⟩
   have hl2:=sD.free hl
   have sL:=Same.new (o:=.lst (ms.map V.int)) hl
   refine q l ms _ (k3.free B3 hl2) yaa (B3.ne hl2) ?_ (((B3.same sD).same sL).mono (by lia)) (k3.trans (fun b o _ e=>sL b o (sD b o e)))
   have nd:=upto_nodup n
   have ndq:(qs++rs).Nodup:=pm.nodup_iff.mpr nd
   refine⟨pq.nodup_iff.mpr (zCH.mp ndq).1,fun x hx=>?_,by rw[pq.length_eq];exact zm1 (zj2 c3) (Eq.symm ql),by rw[pq.length_eq];exact zh9 c2 ql⟩
   have hx:x∈upto n:=pm.mem_iff.mp (zAQ _ (pq.mem_iff.mp hx))
   unfold upto at hx
   obtain⟨i,hi,e⟩:=zAH.mp hx
   have:=zBG.mp hi
   exact zi4 this e
end
open PySem L2 PyProof.Rows
theorem some_pos:∀ {l:List Int},(∀ d∈l,0<=d)->0<l.sum->∃ d∈l,0<d
 |[],_,h=>by simp at h
 |x :: l,g,h=>by
  rw[zAF]at h
  rcases(show 0<x\/x<=0 by lia)with z | z
  ·exact⟨x,zF,z⟩
  ·obtain⟨d,hd,d0⟩:=some_pos (l:=l) (fun d hd=>g d (zD _ hd)) (by lia)
   exact⟨d,zD _ hd,d0⟩
theorem nf_sum{S D:Int}(S0:0<S):∀ {ds:List Int},(∀ f∈ds.map (fun d=>Shr.nf d S),f.2 ∣ D)->S * ((ds.map fun d=>Shr.nf d S).map fun f=>f.1 * (D / f.2)).sum=ds.sum * D
 |[],_=>by simp
 |d :: ds,h=>by
  have ih:=nf_sum S0 (ds:=ds) fun f hf=>h f (zD _ hf)
  have z:=(Shr.nf_rel (t:=d) (b:=S) (N:=d) (D:=S) S0 rfl).eq
  have dv:=h (Shr.nf d S) (zF ..)
  rw[zN,zN,zAF,zAF,Int.mul_add,ih,Int.add_mul]
  congr 1
  obtain⟨q,hq⟩:=dv
  have p0:=(Shr.nf_rel (t:=d) (b:=S) (N:=d) (D:=S) S0 rfl).pos
  generalize Shr.nf d S=f at *
  rw[hq,zCM q (by lia),<- zAD,zAX S,z,zAD]
structure GoodRow(m:Nat)(row:List (Int×Int)):Prop where
 len:row.length=m
 ok:∀ f∈row,0<f.2/\fitsB 16 f.2/\fitsB 16 f.1
 cop:∀ f∈row,Int.gcd f.1 f.2=1
 pos:∃ f∈row,0<f.1
 nn:∀ f∈row,0<=f.1
 one:∀ D:Int,0<D->(∀ f∈row,f.2 ∣ D)->(row.map fun f=>f.1 * (D / f.2)).sum=D
theorem skept{p:Addr}{H H':Hp}(s:Same H H'):Kept p H H':=fun b o _ e=>s b o e
theorem rep_c(n:Nat)(c:Int):(List.replicate n [V.int c]).flatten=(List.replicate n c).map V.int:=by
 induction n with
 |zero=>rfl
 |succ n ih=>rw[zBM,zBM,zCF,ih];rfl
theorem List.sum_replicate_int{n:Nat}{c:Int}:(List.replicate n c).sum=n * c:=by
 induction n with
 |zero=>simp
 |succ n ih=>rw[zBM,zAF,ih,Int.natCast_add,Int.add_mul];simp;lia
theorem map_setI{gs:List Int}{j:Nat}{x:Int}:(gs.map V.int).set j (.int x)=(gs.set j x).map V.int:=by rw[List.map_set]
theorem ixN_nat{n j:Nat}(h:j<n):ixN n (j:Int)=some j:=by
 unfold ixN
 rw[if_pos (by exact zAY j),if_pos (by exact zi2 h),zAC]
theorem sum_le{c:Int}:∀ {l:List Int},(∀ x∈l,x<=c)->l.sum<=c * l.length
 |[],_=>by simp
 |x :: l,h=>by
  rw[zAF,zAO]
  have:=h x (zF ..)
  have:=sum_le fun y hy=>h y (zD _ hy)
  have e:c * ((l.length+1:Nat):Int)=c * l.length+c:=by rw[Int.natCast_add,Int.mul_add];simp
  lia
structure SmOk(m:Nat)(p:Addr)(M:Nat)(H G:Hp)(sm:Addr)(ds:List Int):Prop where
 gs:G sm=some (.lst (ds.map V.int))
 len:ds.length=m
 rg:∀ d∈ds,0<=d/\d<9973
 box:BoxAt G p M
 kp:Kept p H G
 ne:sm≠p
theorem SmOk.mono{m:Nat}{p:Addr}{M M':Nat}{H G:Hp}{sm:Addr}{ds:List Int}(h:SmOk m p M H G sm ds)(l:M<=M'):SmOk m p M' H G sm ds:=⟨h.gs,h.len,h.rg,h.box.mono l,h.kp,h.ne⟩
theorem cut_rest{C T:Addr->List Int->Hp->Prop}{G:Prop}(k:(∀ sm ds HG,C sm ds HG->T sm ds HG)->G)(r:∀ sm ds HG,C sm ds HG->T sm ds HG):G:=k r
theorem way_at{wy:Nat}(h:wy<5):∃ c:Int,atI [V.int 2,V.int 2,V.int 3,V.int 13,V.int 9973] (wy:Int)=some (V.int c)/\0<c/\c<=9973:=by
 match wy,h with
 | 0,_=>exact⟨2,rfl,by decide,by decide⟩
 | 1,_=>exact⟨2,rfl,by decide,by decide⟩
 | 2,_=>exact⟨3,rfl,by decide,by decide⟩
 | 3,_=>exact⟨13,rfl,by decide,by decide⟩
 | 4,_=>exact⟨9973,rfl,by decide,by decide⟩
theorem fr_good{d S:Int}(h0:0<=d)(h1:d<9973)(s0:0<S)(s1:S<65536):0 <(Shr.nf d S).2/\fitsB 16 (Shr.nf d S).2/\fitsB 16 (Shr.nf d S).1:=by
 have is:=Shr.nf_rel (t:=d) (b:=S) (N:=d) (D:=S) s0 rfl
 have le:=is.below s0
 have tp:=is.top s0 le
 have ps:=is.pos
 have e16:(2:Nat) ^ 16=65536:=by decide
 refine⟨ps,?_,?_⟩ <;> show _<2 ^ 16 <;> rw[e16] <;> lia
inductive spRwI(vs:List V)(H:Hp)(Q:VK):Prop where
 |mk (p:Addr) (m N:Nat) (h1:vs=[.ref p,.int m]) (h2:BoxAt H p N) (h3:N+100<2 ^ 40) (h4:1<=m) (h5:m<=6) (h6:∀ (r:Addr) (row:List (Int×Int)) (H':Hp),H r=none->RowAt H' false r row->GoodRow m row->BoxAt H' p (N+10)->Kept p H H'->Q (.ref r) H')
noncomputable def spRw:Sp:=fun vs H Q _=>spRwI vs H Q
section
variable{P:Program}{w:World}{K:PySem.W.Frag}{mg:Str->Option Value}{base:Heap}
noncomputable abbrev nRw:List Str:=["_law_box_here","_law_many_here","_law_way","_law_some"]
theorem scRw:FnScope nRw ["_law_box_here","_law_many_here"] (defScope sRow):=⟨rfl,rfl,rfl,by decide +kernel,rfl,by decide +kernel,by decide +kernel⟩
theorem csRw1:CompScope ["_law_k","_law_box_here","_law_way"] [none,some 0,some 2] nRw (defScope sRow) (scO [(".0",.local),("_law_k",.local),("_law_take",.globalImplicit),("_law_box_here",.free),("_law_way",.free)]):=⟨rfl,by decide +kernel,by decide +kernel,by decide +kernel,rfl,capB_ok (by decide +kernel)⟩
theorem ndRw1:(["_law_k","_law_box_here","_law_way"]:List Str).Nodup:=by decide +kernel
theorem csRw2:CompScope ["_law_one","_law_some"] [none,some 3] nRw (defScope sRow) (scO [(".0",.local),("_law_one",.local),("_law_frac",.globalImplicit),("sum",.globalImplicit),("_law_some",.free)]):=⟨rfl,by decide +kernel,by decide +kernel,by decide +kernel,rfl,capB_ok (by decide +kernel)⟩
theorem ndRw2:(["_law_one","_law_some"]:List Str).Nodup:=by decide +kernel
theorem ok_rw{f g1 g2:Addr}{fd d1 d2:FuncData}(F:Fun K "_law_row" "_law_row" sRow f fd)(T:Txt mg)(G:TakeF P w K mg base g1 d1)(GF:CalF P w K mg base 2 "_law_frac" ["_law_top","_law_below"] spFc g2 d2):FnOk P w K mg base CX0 3 f fd ["_law_box_here","_law_many_here"] spRw:=by
 refine F.ok scRw (fun vs H Q E h=>?_) (fun cdv A outer s H vs Q E hr h=>?_)
 ·obtain⟨p,m,N,rfl,_⟩:=h
  rfl
 ·obtain⟨p,m,N,rfl,B,NB,m1,m6,fin⟩:=h
  have hr1:Room 1 _:=hr.mono (by decide)
  have hr2:Room 2 _:=hr
  refine⟨_,(yad (ps_set (i:=2) scRw.nd rfl (Or.inr rfl) (pe_call G.ok hr1 rfl G.mg G.kp G.bd .nil pass0 (@yac _ _ _ _ _ _ (pvQ 0) (@pa_cst _ _ _ _ _ _ _ yae yab))))
   (yad (ps_set (i:=3) scRw.nd rfl (Or.inr rfl) (pe_comp rfl csRw1 (pi_range1 rfl T.range (@yac _ _ _ _ _ _ (pvQ 1) yab)) (fun C s H fp=>(pg_name (i:=0) ndRw1 rfl (Or.inl rfl))) (fun C s H fp=>pf_nil) (fun C s H fp=>(pe_call G.ok hr1 rfl G.mg G.kp G.bd .nil pass0 (@yac _ _ _ _ _ _ (pvQ 1) (@pa_sub _ _ _ _ _ _ _ (@pe_ix _ _ _ _ _ _ _ ix_listH (@pe_lst _ _ _ _ (@pa_cst _ _ _ _ _ _ _ yae (@pa_cst _ _ _ _ _ _ _ yae (@pa_cst _ _ _ _ _ _ _ yae (@pa_cst _ _ _ _ _ _ _ yae (@pa_cst _ _ _ _ _ _ _ yae yab)))))) (pvQ 2) (fun _ _=>rfl)) yab))))))
   (yad (ps_if (pt_cmpR op_eq (pvQ 2) yae (nomark _)) (yad (ps_set (i:=3) scRw.nd rfl (Or.inr rfl) (pe_op op_rep (@pe_lst _ _ _ _ (@pa_cst _ _ _ _ _ _ _ yae yab)) (pvQ 1)))
   (pss_one (ps_asg yae (pg_sub (pvQ 3) (pe_call G.ok hr1 rfl G.mg G.kp G.bd .nil pass0 (@yac _ _ _ _ _ _ (pvQ 0) (@yac _ _ _ _ _ _ (pvQ 1) yab))) set_list)))) pss_nil)
   (yad (ps_if (pt_cmpR op_eq (pe_callB (call_sumH rfl) (by rfl) T.sum boot_sum (@yac _ _ _ _ _ _ (pvQ 3) yab)) yae (nomark _)) (pss_one (ps_set (i:=3) scRw.nd rfl (Or.inr rfl) (pe_op op_rep (@pe_lst _ _ _ _ (@pa_cst _ _ _ _ _ _ _ yae yab)) (pvQ 1)))) pss_nil)
   (pss_one (ps_ret (pe_comp rfl csRw2 (pi_list (pvQ 3)) (fun C s H fp=>(pg_name (i:=0) ndRw2 rfl (Or.inl rfl))) (fun C s H fp=>pf_nil) (fun C s H fp=>(pe_call GF.ok hr2 rfl GF.mg GF.kp GF.bd .nil pass0 (@yac _ _ _ _ _ _ (pvQ 0) (@pa_call _ _ _ _ _ _ _ _ (pe_callB (call_sumH rfl) (by rfl) T.sum boot_sum (@yac _ _ _ _ _ _ (pvQ 1) yab)) yab))))))))))),?_⟩
  refine⟨p,_,_,rfl,B,by exact zAR (zAA N 100) NB,by decide,by decide,fun z H1 z0 z1 B1 k1=>?_⟩
  obtain⟨wy,rfl⟩:∃ n:Nat,z=(n:Int):=⟨z.toNat,by exact zh3 z0⟩
  obtain⟨c,ec,c0,c1⟩:=way_at (wy:=wy) (by lia)
  refine⟨(m:Int),rfl,by exact zh1,by exact zm2 m6 rfl,?_⟩
  rw[show((m:Int)).toNat=m by exact zAC m]
  refine comp_range (lo:=0) (n:=m) (fun j ys G=>∃ ds:List Int,ys=ds.map V.int/\ds.length=j/\(∀ d∈ds,0<=d/\d<9973)/\BoxAt G p (N+1+j)/\Kept p H1 G) (by rw[sizeLine_eq];exact zl1 m6 rfl) ⟨[],rfl,rfl,(fun _ h=>nomatch h),B1,Kept.refl⟩ ?_ ?_
  ·rintro j ys G hj ⟨ds,rfl,dl,dr,BG,kG⟩
   refine⟨⟨rfl,rfl,trivial⟩,tTru_if ?_⟩
   refine⟨(by show 5<=sizeLine;decide),fun al hal=>?_⟩
   have sA:=Same.new (o:=.lst [V.int 2,V.int 2,V.int 3,V.int 13,V.int 9973]) hal
   refine⟨al,_,_,_,rfl,rfl,yaa,ec,p,c,_,rfl,BG.same sA,by lia,c0,by lia,fun d G2 d0 d1 B2 k2=>?_⟩
   refine⟨ds++[d],by rw[zP];rfl,by rw[zO,dl];rfl,fun x hx=>?_,B2.mono (by exact zn4),kG.trans ((skept sA).trans k2)⟩
   rcases zX.mp hx with hx | hx
   ·exact dr x hx
   ·rw[zH.mp hx];lia
  apply cut_rest (C:=fun sm ds HG=>SmOk m p (N+10) H HG sm ds)
  ·intro rest
   rintro ys G yl ⟨ds,rfl,dl,dr,BG,kG⟩ sm hsm
   have sS:=Same.new (o:=.lst (ds.map V.int)) hsm
   have S1:SmOk m p (N+9) H (upd G sm (.lst (ds.map V.int))) sm ds:=⟨yaa,dl,dr,(BG.same sS).mono (by lia),k1.trans (kG.trans (skept sS)),BG.ne hsm⟩
   generalize (upd G sm (.lst (ds.map V.int)))=HG at S1
   clear sS hsm BG kG dl dr
   refine⟨rfl,_,rfl,ite2 (fun h=>?_) (fun h=>rest sm ds HG (S1.mono (by exact Nat.le_succ (N+9))))⟩
   ·refine⟨(by show 1<=sizeLine;decide),fun l hl=>?_⟩
    have sl:=Same.new (o:=.lst [V.int 0]) hl
    refine⟨l,_,_,rfl,rfl,yaa,by exact zh2,by lia,by show 1 * _<=_;rw[sizeLine_eq];lia,fun s2 hs2=>?_⟩
    rw[show((m:Int)).toNat=m by exact zAC m,rep_c]
    have sl2:=Same.new (o:=.lst ((List.replicate m (0:Int)).map V.int)) hs2
    have BL:=(S1.box.same sl).same sl2
    have s2p:s2≠p:=(S1.box.same sl).ne hs2
    have g2:(upd (upd HG l (.lst [V.int 0])) s2 (.lst ((List.replicate m (0:Int)).map V.int))) s2=some (.lst ((List.replicate m (0:Int)).map V.int)):=yaa
    have k2:=S1.kp.trans (skept (sl.trans sl2))
    have fr:∀ b o,b≠p->H b=some o->b≠s2:=fun b o nb e z=>by
     have:=sl _ _ (S1.kp b o nb e)
     rw[z,hs2]at this
     cases this
    generalize (upd (upd HG l (.lst [V.int 0])) s2 (.lst ((List.replicate m (0:Int)).map V.int)))=H2 at BL g2 k2
    refine⟨p,m,_,rfl,BL,by lia,by lia,by lia,fun z G z0 z1 BG kG=>?_⟩
    obtain⟨zi,rfl⟩:∃ n:Nat,z=(n:Int):=⟨z.toNat,by exact zh3 z0⟩
    have g3:=kG _ _ s2p g2
    refine⟨s2,_,_,zi,rfl,rfl,g3,ixN_nat (by rw[zA,List.length_replicate];exact zi3 z1),?_⟩
    rw[map_setI]
    refine rest s2 ((List.replicate m (0:Int)).set zi 1) _ ⟨yaa,by rw[List.length_set,List.length_replicate],fun d hd=>?_,?_,fun b o nb e=>?_,s2p⟩
    ·rcases List.mem_or_eq_of_mem_set hd with h | h
     ·have:=List.eq_of_mem_replicate h;lia
     ·lia
    ·obtain⟨x,y,u,e,r⟩:=BG
     exact⟨x,y,u,by rw[upd_ne (Ne.symm s2p)];exact e,r.1,r.2.1,by lia⟩
    ·rw[upd_ne (fr b o nb e)]
     exact kG _ _ nb (k2 _ _ nb e)
  apply cut_rest (C:=fun sm ds HG=>SmOk m p (N+10) H HG sm ds/\0<ds.sum)
  ·skip
   intro rest sm ds HG S1
   refine⟨sm,_,rfl,S1.gs,rfl,_,rfl,ite2 (fun h=>?_) (fun h=>rest sm ds HG ⟨S1,?_⟩)⟩
   ·refine⟨(by show 1<=sizeLine;decide),fun l hl=>?_⟩
    have sl:=Same.new (o:=.lst [V.int 1]) hl
    refine⟨l,_,_,rfl,rfl,yaa,by exact zh2,by lia,by show 1 * _<=_;rw[sizeLine_eq];lia,fun s2 hs2=>?_⟩
    rw[show((m:Int)).toNat=m by exact zAC m,rep_c]
    have sl2:=Same.new (o:=.lst ((List.replicate m (1:Int)).map V.int)) hs2
    refine rest s2 (List.replicate m (1:Int)) _ ⟨⟨yaa,List.length_replicate,fun d hd=>?_,(S1.box.same sl).same sl2,S1.kp.trans (skept (sl.trans sl2)),(S1.box.same sl).ne hs2⟩,?_⟩
    ·have:=List.eq_of_mem_replicate hd
     lia
    ·rw[List.sum_replicate_int]
     lia
   ·have h0:0<=ds.sum:=sum_nn fun d hd=>(S1.rg d hd).1
    have h1:¬ ds.sum=0:=fun z=>h (by rw[z];rfl)
    lia
  rintro sm ds HG ⟨S1,pos⟩
  have Sle:ds.sum<=9972 * ds.length:=sum_le fun d hd=>by have:=(S1.rg d hd).2;lia
  have dl:=S1.len
  have S65:ds.sum<65536:=by lia
  refine⟨sm,rfl,⟨_,SqL.of S1.gs⟩,?_⟩
  refine comp_list (K:=K) (a:=sm) (xs:=ds.map V.int) (fun j ys G=>Same HG G/\∃ cs:List Addr,ys=cs.map V.ref/\Paired (fun c f=>G c=some (frO f)) cs ((ds.take j).map fun d=>Shr.nf d ds.sum)) (by rw[zA,sizeLine_eq];exact zh9 (zl1 m6 rfl) dl) ⟨Same.refl _,[],rfl,.nil⟩ (fun j ys G _ z=>SqL.of (z.1 _ _ S1.gs)) ?_ ?_
  ·rintro j x ys G hx ⟨sG,cs,rfl,PC⟩
   obtain⟨jl,e⟩:=zI.mp hx
   rw[zA]at jl
   rw[zU]at e
   subst e
   refine⟨⟨rfl,trivial⟩,tTru_if ⟨sm,_,rfl,sG _ _ S1.gs,_,_,rfl,pos,?_,fun c hc=>?_⟩⟩
   ·have e16:(2:Nat) ^ 16=65536:=by decide
    exact fitsB.mono (j:=16) (show ds.sum.natAbs<2 ^ 16 by rw[e16];omega) (by decide)
   ·have sc:=Same.new (o:=frO (Shr.nf ds[j] ds.sum)) hc
    refine⟨sG.trans sc,cs++[c],by rw[zP];rfl,?_⟩
    rw[zK jl,zP]
    exact PairedApp (Paired.mapP PC fun _ _ z=>sc _ _ z) (.cons yaa .nil)
  rintro ys G yl ⟨sG,cs,rfl,PC⟩ r hr
  rw[zA,zAN]at PC
  have sr:=Same.new (o:=.lst (cs.map V.ref)) hr
  have sE:=sG.trans sr
  refine fin r (ds.map fun d=>Shr.nf d ds.sum) _ ?_ ⟨cs,yaa,Paired.mapP PC fun _ _ z=>sr _ _ z⟩ ⟨by rw[zA];exact dl,fun f hf=>?_,fun f hf=>?_,?_,fun f hf=>?_,fun D D0 dv=>?_⟩ (S1.box.same sE) (S1.kp.trans (skept sE))
  ·cases e:H r with
   |none=>rfl
   |some o =>
    exfalso
    by_cases z:r=p
    ·obtain⟨x,y,u,e',_⟩:=S1.box
     rw[z,sG _ _ e']at hr
     cases hr
    ·rw[sG _ _ (S1.kp _ _ z e)]at hr
     cases hr
  ·obtain⟨d,hd,rfl⟩:=zAH.mp hf
   exact fr_good (S1.rg d hd).1 (S1.rg d hd).2 pos S65
  ·obtain⟨d,hd,rfl⟩:=zAH.mp hf
   exact(Shr.nf_rel (t:=d) (b:=ds.sum) (N:=d) (D:=ds.sum) pos rfl).cop
  ·obtain⟨d,hd,d0⟩:=some_pos (fun d hd=>(S1.rg d hd).1) pos
   refine⟨_,zBO hd,?_⟩
   show 0<d / (Int.gcd d ds.sum:Int)
   have g0:0 <(Int.gcd d ds.sum:Int):=by
    have:=Shr.gcd_pos (t:=d) pos
    lia
   have dv:(Int.gcd d ds.sum:Int) ∣ d:=zCK ..
   obtain⟨q,hq⟩:=dv
   have q0:0<q:=by
    rcases(show 0<q\/q<=0 by lia)with z | z
    ·exact z
    ·have:=Int.mul_nonpos_of_nonneg_of_nonpos (zBN g0) z
     lia
   generalize (Int.gcd d ds.sum:Int)=gg at *
   rw[hq,zCM q (by lia)]
   exact q0
  ·obtain⟨d,hd,rfl⟩:=zAH.mp hf
   exact Int.ediv_nonneg (S1.rg d hd).1 (by exact zAY (d.gcd ds.sum))
  ·have:=nf_sum pos dv
   rw[zAX,zAX ds.sum D]at this
   exact Int.eq_of_mul_eq_mul_right (by lia) this
end
open PySem L2 PyProof.Rows
theorem RowAt.two{H H':Hp}{p q a:Addr}{row:List (Int×Int)}(h:RowAt H false a row)(k:∀ b o,b≠p->b≠q->H b=some o->H' b=some o)(hp:∀ xs,H p≠some (.tup xs))(hq:∀ xs,H q≠some (.tup xs))(ap:a≠p)(aq:a≠q):RowAt H' false a row:=by
 obtain⟨cs,h1,h2⟩:=h
 exact⟨cs,k _ _ ap aq h1,Paired.mapP h2 fun c f z=>k _ _ (fun e=>hp _ (e▸z)) (fun e=>hq _ (e▸z)) z⟩
theorem RowAt.kept{H H':Hp}{p a:Addr}{N:Nat}{row:List (Int×Int)}(h:RowAt H false a row)(B:BoxAt H p N)(k:Kept p H H')(ap:a≠p):RowAt H' false a row:=by
 obtain⟨x,y,z,e,_⟩:=B
 have np:∀ xs,H p≠some (.tup xs):=fun xs w=>by rw[e]at w;cases w
 exact h.two (q:=p) (fun b o n _ e=>k b o n e) np np ap ap
theorem inV_dec(z:Int)(ns:List Int):inV (V.int z) (ns.map V.int)=decide (z∈ns):=by
 rw[inV_ints]
 exact zCO.mpr (by rw[List.contains_iff_mem,decide_eq_true_iff])
theorem cut3{α β γ:Type}{C T:α->β->γ->Prop}{G:Prop}(k:(∀ a b c,C a b c->T a b c)->G)(r:∀ a b c,C a b c->T a b c):G:=k r
noncomputable def UnR(ps:List Int)(i:Nat):List (Int×Int):=ps.map fun v=>((if v=0+(i:Int)then 1 else 0:Int),(1:Int))
theorem unr_sum(c:Int):∀ {ps:List Int}{i:Nat},ps.Nodup->((UnR ps i).map fun f=>f.1 * c).sum=if(0+(i:Int))∈ps then c else 0
 |[],_,_=>by simp[UnR]
 |v :: ps,i,nd=>by
  have ih:=unr_sum c (ps:=ps) (i:=i) (zCP.mp nd).2
  show(if v=0+(i:Int)then 1 else 0:Int) * c+((UnR ps i).map fun f=>f.1 * c).sum=_
  rw[ih]
  by_cases e:v=0+(i:Int)
  ·have no:¬(0+(i:Int))∈ps:=fun z=>(zCP.mp nd).1 (e▸z)
   rw[if_pos e,if_neg no,if_pos (by rw[e];exact zF ..)]
   lia
  ·rw[if_neg e]
   by_cases m:(0+(i:Int))∈ps
   ·rw[if_pos m,if_pos (zD _ m)];lia
   ·rw[if_neg m,if_neg (fun z=>(zW.mp z).elim (fun w=>e w.symm) m)];lia
structure ShI(ps:List Int)(m:Nat)(p fo:Addr)(M i:Nat)(H G:Hp)(as:List Addr)(R:Shr.Rows):Prop where
 gf:G fo=some (.lst (as.map V.ref))
 pr:Paired (RowAt G false) as R
 len:R.length=i
 good:∀ row∈R,GoodRow m row
 unit:∀ (j:Nat) (h:j<R.length),(0+(j:Int))∈ps->R[j]=UnR ps j
 ne:∀ a∈as,a≠p/\a≠fo
 box:BoxAt G p M
 kp:Kept p H G
theorem ShI.step{ps:List Int}{m:Nat}{p fo:Addr}{M M' i:Nat}{H G G':Hp}{as:List Addr}{R:Shr.Rows}(I:ShI ps m p fo M i H G as R)(k:Kept p G G')(B:BoxAt G' p M')(fp:fo≠p):ShI ps m p fo M' i H G' as R:=by
 refine⟨k _ _ fp I.gf,?_,I.len,I.good,I.unit,I.ne,B,I.kp.trans k⟩
 have gen:∀ {l:List Addr}{S:Shr.Rows},Paired (RowAt G false) l S->(∀ a∈l,a≠p)->Paired (RowAt G' false) l S:=by
  intro l S h
  induction h with
  |nil=>exact fun _=>.nil
  | @cons a r _ _ x _ ih=>exact fun n=>.cons (x.kept I.box k (n a (zF ..))) (ih fun b hb=>n b (zD _ hb))
 exact gen I.pr fun a ha=>(I.ne a ha).1
theorem ShI.snoc{ps:List Int}{m:Nat}{p fo r:Addr}{M i:Nat}{H G:Hp}{as:List Addr}{R:Shr.Rows}{row:List (Int×Int)}(I:ShI ps m p fo M i H G as R)(fp:fo≠p)(hf:H fo=none)(ra:RowAt G false r row)(gr:GoodRow m row)(rp:r≠p)(rf:r≠fo)(ur:(0+(i:Int))∈ps->row=UnR ps i):ShI ps m p fo M (i+1) H (upd G fo (.lst (as.map V.ref++[V.ref r]))) (as++[r]) (R++[row]):=by
 have nf:∀ xs,G fo≠some (.tup xs):=fun xs w=>by rw[I.gf]at w;cases w
 have k:∀ b o,b≠fo->b≠fo->G b=some o->(upd G fo (.lst (as.map V.ref++[V.ref r]))) b=some o:=fun b o n _ e=>by rw[upd_ne n];exact e
 have gen:∀ {l:List Addr}{S:Shr.Rows},Paired (RowAt G false) l S->(∀ a∈l,a≠fo)->Paired (RowAt (upd G fo (.lst (as.map V.ref++[V.ref r]))) false) l S:=by
  intro l S h
  induction h with
  |nil=>exact fun _=>.nil
  | @cons a r _ _ x _ ih=>exact fun n=>.cons (x.two k nf nf (n a (zF ..)) (n a (zF ..))) (ih fun b hb=>n b (zD _ hb))
 refine⟨by rw[yaa,zP];rfl,PairedApp (gen I.pr fun a ha=>(I.ne a ha).2) (.cons (ra.two k nf nf rf rf) .nil),by rw[zO,I.len];rfl,fun x hx=>?_,fun j hj hm=>?_,fun a ha=>?_,?_,fun b o nb e=>?_⟩
 ·rcases zX.mp hx with hx | hx
  ·exact I.good x hx
  ·rw[zH.mp hx];exact gr
 ·have il:=I.len
  rw[zO]at hj
  have hj:j<R.length+1:=hj
  by_cases e:j<R.length
  ·rw[List.getElem_append_left e]
   exact I.unit j e hm
  ·have e2:j=i:=by lia
   subst e2
   rw[List.getElem_append_right (by exact zj3 e),List.getElem_singleton]
   exact ur hm
 ·rcases zX.mp ha with ha | ha
  ·exact I.ne a ha
  ·rw[zH.mp ha];exact⟨rp,rf⟩
 ·obtain⟨x,y,z,e,r⟩:=I.box
  exact⟨x,y,z,by rw[upd_ne (Ne.symm fp)];exact e,r⟩
 ·rw[upd_ne (ne_of_none e hf)]
  exact I.kp _ _ nb e
theorem flat_len{m:Nat}:∀ {R:Shr.Rows},(∀ r∈R,r.length=m)->R.flatten.length=m * R.length
 |[],_=>by simp
 |r :: R,h=>by
  rw[zCF,zO,h r (zF ..),flat_len fun x hx=>h x (zD _ hx),zAO,Nat.mul_succ]
  lia
theorem good_sh{m n:Nat}{R:Shr.Rows}(g:∀ row∈R,GoodRow m row)(l:R.length=n)(n30:n<=30)(m6:m<=6):ShOk 16 2880 n m R:=by
 refine⟨⟨fun r hr f hf=>((g r hr).ok f hf).1,fun r hr f hf=>((g r hr).ok f hf).2.1,fun r hr f hf=>((g r hr).ok f hf).2.2.mono (by decide),?_,by decide⟩,l,fun r hr=>(g r hr).len,by exact zl1 n30 rfl,by exact zl1 m6 rfl⟩
 rw[flat_len fun r hr=>(g r hr).len]
 have:=Nat.mul_le_mul m6 (show R.length<=30 by exact zh9 n30 l)
 lia
inductive spShI(vs:List V)(H:Hp)(Q:VK):Prop where
 |mk (p t q:Addr) (n N:Nat) (ties:List Tie) (ps:List Int) (h1:vs=[.ref p,.ref t,.ref q]) (h2:BoxAt H p N) (h3:N+1000<2 ^ 40) (h4:WebAt H t n ties) (h5:n<=30) (h6:H q=some (.lst (ps.map V.int))) (h7:q≠p) (h8:1<=ps.length) (h9:ps.length<=6) (h10:ps.Nodup) (h11:∀ (o:Addr) (R:Shr.Rows) (H':Hp),H o=none->RowsAt H' false o R->ShOk 16 2880 n ps.length R->(∀ row∈R,GoodRow ps.length row)->(∀ (j:Nat) (h:j<R.length),(0+(j:Int))∈ps->R[j]=UnR ps j)->BoxAt H' p (N+400)->Kept p H H'->Q (.ref o) H')
noncomputable def spSh:Sp:=fun vs H Q _=>spShI vs H Q
section
variable{P:Program}{w:World}{K:PySem.W.Frag}{mg:Str->Option Value}{base:Heap}
noncomputable abbrev nSh:List Str:=["_law_box_here","_law_web_here","_law_posts_here","_law_found","_law_place","_law_row_here"]
theorem scSh:FnScope nSh ["_law_box_here","_law_web_here","_law_posts_here"] (defScope sShares):=⟨rfl,rfl,rfl,by decide +kernel,rfl,by decide +kernel,by decide +kernel⟩
theorem csSh1:CompScope ["_law_post","_law_place"] [none,some 4] nSh (defScope sShares) (scO [(".0",.local),("_law_post",.local),("int",.globalImplicit),("_law_place",.free)]):=⟨rfl,by decide +kernel,by decide +kernel,by decide +kernel,rfl,capB_ok (by decide +kernel)⟩
theorem ndSh1:(["_law_post","_law_place"]:List Str).Nodup:=by decide +kernel
theorem ok_sh{f g1 g2:Addr}{fd d1 d2:FuncData}(F:Fun K "_law_shares" "_law_shares" sShares f fd)(T:Txt mg)(G:TakeF P w K mg base g1 d1)(GR:CalF P w K mg base 3 "_law_row" ["_law_box_here","_law_many_here"] spRw g2 d2):FnOk P w K mg base CX0 4 f fd ["_law_box_here","_law_web_here","_law_posts_here"] spSh:=by
 refine F.ok scSh (fun vs H Q E h=>?_) (fun cdv A outer s H vs Q E hr h=>?_)
 ·obtain⟨p,t,q,n,N,ties,ps,rfl,_⟩:=h
  rfl
 ·obtain⟨p,t,q,n,N,ties,ps,rfl,B,NB,W,n30,hq,qp,l1,l6,pnd,fin⟩:=h
  obtain⟨⟨ts,bs,h1,h2,h3⟩,len⟩:=id W
  have hr1:Room 1 _:=hr.mono (by decide)
  have hr3:Room 3 _:=hr
  refine⟨_,(yad (ps_set (i:=3) scSh.nd rfl (Or.inl rfl) (@pe_lst _ _ _ _ yab))
   (yad (ps_for PassesOwn.never rfl (pi_range1 rfl T.range (@pa_sub _ _ _ _ _ _ _ (@pe_ix _ _ _ _ _ _ _ ix_tupH (pvQ 1) yae (fun _ _=>rfl)) yab)) (pg_name (i:=4) scSh.nd rfl (Or.inr rfl))
   (yad (ps_set (i:=5) scSh.nd rfl (Or.inl rfl) (pe_call GR.ok hr3 rfl GR.mg GR.kp GR.bd .nil pass0 (@yac _ _ _ _ _ _ (pvQ 0) (@pa_call _ _ _ _ _ _ _ _ (pe_callB call_lenH (by rfl) T.len PySem.boot_len (@yac _ _ _ _ _ _ (pvQ 2) yab)) yab))))
   (yad (ps_if (PW.pt (pw_and (pt_cmpR op_gt (pvQ 4) yae (nomark _)) (pw_and1 (pt_cmpR op_eq (pe_call G.ok hr1 rfl G.mg G.kp G.bd .nil pass0 (@yac _ _ _ _ _ _ (pvQ 0) (@pa_cst _ _ _ _ _ _ _ yae yab))) yae (nomark _))))) (pss_one (ps_set (i:=5) scSh.nd rfl (Or.inl rfl) (pe_callTy (call_listH false) (by rfl) T.list boot_list (@pa_sub _ _ _ _ _ _ _ (@pe_ix _ _ _ _ _ _ _ ix_listH (pvQ 3) (pe_call G.ok hr1 rfl G.mg G.kp G.bd .nil pass0 (@yac _ _ _ _ _ _ (pvQ 0) (@yac _ _ _ _ _ _ (pvQ 4) yab))) (fun _ _=>rfl)) yab)))) pss_nil)
   (yad (ps_if (pt_cmpR op_inH (pvQ 4) (pvQ 2) rfl) (pss_one (ps_comp (i:=5) scSh.nd rfl (Or.inl rfl) rfl csSh1 (pi_list (pvQ 2)) (fun C s H fp=>(pg_name (i:=0) ndSh1 rfl (Or.inl rfl))) (fun C s H fp=>pf_nil) (fun C s H fp=>(@pe_tup _ _ _ _ _ (@pa_call _ _ _ _ _ _ _ _ (pe_callTy call_int1 (by rfl) T.int boot_int (@pa_cmp _ _ _ _ _ _ _ _ (pe_cmpR op_eq (pvQ 0) (pvQ 1) (nomark _)) yab)) (@pa_cst _ _ _ _ _ _ _ yae yab)))))) pss_nil)
   (pss_one (ps_expr (pe_bmH PySem.F.slot_list_append PySem.F.type_list_append mt_append (pvQ 3) (@yac _ _ _ _ _ _ (pvQ 5) yab))))))))
   (pss_one (ps_ret (pvQ 3))))),?_⟩
  refine⟨(by show 0<=sizeLine;decide),fun fo hfo=>?_⟩
  have s1:=Same.new (o:=.lst []) hfo
  have fp:fo≠p:=B.ne hfo
  refine⟨t,_,_,_,rfl,rfl,s1 _ _ h1,rfl,(n:Int),rfl,by exact zh1,by exact zm2 n30 rfl,?_⟩
  rw[show((n:Int)).toNat=n by exact zAC n]
  refine for_range (lo:=0) (n:=n) (fun i σ G=>Ex4 fun(v4 v5:Option V) (as:List Addr) (R:Shr.Rows)=>σ=[some (.ref p),some (.ref t),some (.ref q),some (.ref fo),v4,v5]/\ShI ps ps.length p fo (N+13 * i) i H G as R) ⟨_,_,[],[],rfl,yaa,.nil,rfl,(fun _ h=>nomatch h),(fun j h=>absurd h (Nat.not_lt_zero j)),(fun _ h=>nomatch h),B.same s1,skept s1⟩ ?_ ?_
  ·rintro i σ G hi ⟨v4,v5,as,R,rfl,I⟩
   have gq:=I.kp _ _ qp hq
   have al:as.length=i:=by rw[I.pr.length,I.len]
   apply cut3 (α:=Addr) (β:=List (Int×Int)) (γ:=Hp) (C:=fun r row G1=>RowAt G1 false r row/\GoodRow ps.length row/\r≠p/\r≠fo/\ShI ps ps.length p fo (N+13 * i+12) i H G1 as R)
   ·intro rest
    refine⟨q,_,rfl,gq,p,ps.length,_,by rw[zA];rfl,I.box,by lia,l1,l6,fun r row G1 hr RA GR B1 k1=>?_⟩
    have I1:=I.step k1 B1 fp
    have rp:r≠p:=I.box.ne hr
    have rf:r≠fo:=fun z=>by rw[z,I.gf]at hr;cases hr
    refine⟨_,_,rfl,rfl,_,rfl,ite2 (fun h=>?_) (fun h=>rest r row G1 ⟨RA,GR,rp,rf,I1.step Kept.refl (B1.mono (by exact zj2 (Nat.le_succ (N+13 * i+10+1)))) fp⟩)⟩
    have i0:0<i:=by
     have:=of_decide_eq_true h
     lia
    refine⟨p,_,_,rfl,B1,by lia,by decide,by decide,fun z G2 z0 z1 B2 k2=>?_⟩
    have I2:=I1.step k2 B2 fp
    have RA2:=RA.kept B1 k2 rp
    refine⟨rfl,_,rfl,ite2 (fun h'=>?_) (fun h'=>rest r row G2 ⟨RA2,GR,rp,rf,I2.step Kept.refl (B2.mono (by exact Nat.le_succ (N+13 * i+10+1))) fp⟩)⟩
    refine⟨p,_,_,rfl,B2,by lia,by lia,by lia,fun y G3 y0 y1 B3 k3=>?_⟩
    have I3:=I2.step k3 B3 fp
    obtain⟨y,rfl⟩:∃ k:Nat,y=(k:Int):=⟨y.toNat,by exact zh3 y0⟩
    have yl:y<as.length:=by lia
    have yR:y<R.length:=by rw[I.len];lia
    obtain⟨cs,ga,hc⟩:=Paired.at I3.pr y yl yR
    refine⟨fo,_,_,_,rfl,rfl,I3.gf,atI_nat (v:=V.ref as[y]) (by rw[zAB,zE yl];rfl),as[y],_,rfl,ga,fun r2 hr2=>?_⟩
    have s4:=Same.new (o:=.lst (cs.map V.ref)) hr2
    exact rest r2 R[y] _ ⟨⟨cs,yaa,Paired.mapP hc fun _ _ z=>s4 _ _ z⟩,I.good _ (zS yR),I3.box.ne hr2,(fun z=>by rw[z,I3.gf]at hr2;cases hr2),I3.step (skept s4) ((B3.same s4).mono (by exact zn4)) fp⟩
   apply cut3 (α:=Addr) (β:=List (Int×Int)) (γ:=Hp) (C:=fun r row G1=>RowAt G1 false r row/\GoodRow ps.length row/\r≠p/\r≠fo/\((0+(i:Int))∈ps->row=UnR ps i)/\ShI ps ps.length p fo (N+13 * i+12) i H G1 as R)
   ·rintro rest r row G1 ⟨RA,GR,rp,rf,I1⟩
    have gq1:=I1.kp _ _ qp hq
    refine⟨q,_,rfl,gq1,rfl,flat_ints _,_,rfl,ite2 (fun h=>?_) (fun h=>rest r row G1 ⟨RA,GR,rp,rf,fun z=>absurd (show inV (V.int (0+(i:Int))) (ps.map V.int)=true by rw[inV_dec];exact decide_eq_true z) h,I1⟩)⟩
    refine⟨q,rfl,⟨_,SqL.of gq1⟩,?_⟩
    refine comp_list (K:=K) (a:=q) (xs:=ps.map V.int) (fun j ys G2=>Same G1 G2/\∃ cs:List Addr,ys=cs.map V.ref/\Paired (fun c f=>G2 c=some (frO f)) cs ((ps.take j).map fun v=>((if v=0+(i:Int)then 1 else 0:Int),(1:Int)))) (by rw[zA,sizeLine_eq];exact zl1 l6 rfl) ⟨Same.refl _,[],rfl,.nil⟩ (fun j ys G2 _ z=>SqL.of (z.1 _ _ gq1)) ?_ ?_
    ·rintro j x ys G2 hx ⟨s2,cs,rfl,PC⟩
     obtain⟨jl,e⟩:=zI.mp hx
     rw[zA]at jl
     rw[zU]at e
     subst e
     refine⟨⟨rfl,trivial⟩,tTru_if ⟨rfl,.inr ⟨_,rfl,(by show 2<=sizeLine;decide),fun c hc=>?_⟩⟩⟩
     have ei:(if decide (V.int ps[j]=V.int (0+(i:Int)))=true then 1 else 0:Int)=if ps[j]=0+(i:Int)then 1 else 0:=by
      by_cases z:ps[j]=0+(i:Int)
      ·rw[if_pos z,if_pos (decide_eq_true (by rw[z]))]
      ·rw[if_neg z,if_neg (fun w=>z (by have:=of_decide_eq_true w;injection this))]
     rw[ei]
     have sc:=Same.new (o:=frO ((if ps[j]=0+(i:Int)then 1 else 0:Int),(1:Int))) hc
     refine⟨s2.trans sc,cs++[c],by rw[zP];rfl,?_⟩
     rw[zK jl,zP]
     exact PairedApp (Paired.mapP PC fun _ _ z=>sc _ _ z) (.cons yaa .nil)
    ·rintro ys G2 yl ⟨s2,cs,rfl,PC⟩ r2 hr2
     rw[zA,zAN]at PC
     have s4:=Same.new (o:=.lst (cs.map V.ref)) hr2
     have s24:=s2.trans s4
     refine rest r2 (ps.map fun v=>((if v=0+(i:Int)then 1 else 0:Int),(1:Int))) _ ⟨⟨cs,yaa,Paired.mapP PC fun _ _ z=>s4 _ _ z⟩,⟨by rw[zA],fun f hf=>?_,fun f hf=>?_,?_,fun f hf=>?_,fun D D0 _=>?_⟩,(I1.box.same s2).ne hr2,(fun z=>by rw[z,s2 _ _ I1.gf]at hr2;cases hr2),(fun _=>rfl),I1.step (skept s24) (I1.box.same s24) fp⟩
     ·obtain⟨v,_,rfl⟩:=zAH.mp hf
      have e16:(2:Nat) ^ 16=65536:=by decide
      refine⟨by show(0:Int)<1;decide,by show(1:Int).natAbs<2 ^ 16;decide,?_⟩
      show(if v=0+(i:Int)then 1 else 0:Int).natAbs<2 ^ 16
      rw[e16]
      split <;> decide
     ·obtain⟨v,_,rfl⟩:=zAH.mp hf
      show Int.gcd (if v=0+(i:Int)then 1 else 0:Int) 1=1
      exact Int.gcd_one_right _
     ·have hm:(0+(i:Int))∈ps:=by
       have:inV (V.int (0+(i:Int))) (ps.map V.int)=true:=h
       rw[inV_dec]at this
       exact of_decide_eq_true this
      exact⟨_,zBO hm,by show(0:Int) <(if 0+(i:Int)=0+(i:Int)then 1 else 0);rw[if_pos rfl];decide⟩
     ·obtain⟨v,_,rfl⟩:=zAH.mp hf
      show(0:Int)<=(if v=0+(i:Int)then 1 else 0)
      split <;> decide
     ·have hm:(0+(i:Int))∈ps:=by
       have:inV (V.int (0+(i:Int))) (ps.map V.int)=true:=h
       rw[inV_dec]at this
       exact of_decide_eq_true this
      have e:=unr_sum (D / 1) (ps:=ps) (i:=i) pnd
      rw[if_pos hm,Int.ediv_one]at e
      refine Eq.trans ?_ e
      congr 1
      refine zAP fun f hf=>?_
      obtain⟨v,_,rfl⟩:=zAH.mp hf
      show _ * (D / 1)=_ * D
      rw[Int.ediv_one]
   rintro r row G1 ⟨RA,GR,rp,rf,ur,I1⟩
   refine⟨⟨_,_,rfl,I1.gf⟩,fo,_,_,rfl,rfl,I1.gf,by rw[zA,sizeLine_eq];lia,?_⟩
   have I2:=I1.snoc fp hfo RA GR rp rf ur
   exact⟨_,_,as++[r],R++[row],rfl,I2.gf,I2.pr,I2.len,I2.good,I2.unit,I2.ne,I2.box.mono (by lia),I2.kp⟩
  ·rintro σ G ⟨v4,v5,as,R,rfl,I⟩
   exact fin fo R G hfo ⟨as,I.gf,I.pr⟩ (good_sh I.good I.len n30 l6) I.good I.unit (I.box.mono (by lia)) I.kp
end
open PySem L2 PyProof.Rows
theorem WebAt.keptB{p:Addr}{H H':Hp}{t:Addr}{n N:Nat}{ties:List Tie}(W:WebAt H t n ties)(B:BoxAt H p N)(k:Kept p H H'):WebAt H' t n ties:=by
 obtain⟨a,b,c,e,_⟩:=B
 have np:∀ {x:Addr}{xs:List V},H x=some (.tup xs)->H' x=some (.tup xs):=fun {x xs} h=>k _ _ (ne_of h e (by intro z;cases z)) h
 obtain⟨⟨ts,as,h1,h2,h3⟩,l⟩:=W
 exact⟨⟨ts,as,np h1,np h2,Paired.mapP h3 fun _ _ z=>np z⟩,l⟩
theorem RowsAt.kept{p o:Addr}{H H':Hp}{N n m kb eb:Nat}{R:Shr.Rows}(h:RowsAt H false o R)(B:BoxAt H p N)(k:Kept p H H')(op:o≠p)(sh:ShOk kb eb n m R)(m1:1<=m):RowsAt H' false o R:=by
 obtain⟨as,h1,h2⟩:=h
 refine⟨as,k _ _ op h1,?_⟩
 have gen:∀ {l:List Addr}{S:Shr.Rows},Paired (RowAt H false) l S->(∀ r∈S,r.length=m)->Paired (RowAt H' false) l S:=by
  intro l S hp
  induction hp with
  |nil=>exact fun _=>.nil
  | @cons a r _ _ x _ ih =>
   intro g
   refine .cons (x.kept B k fun e=>?_) (ih fun s hs=>g s (zD _ hs))
   obtain⟨cs,hc,pc⟩:=x
   obtain⟨b1,b2,b3,hb,_⟩:=B
   rw[e,hb]at hc
   have rl:=g r (zF ..)
   have cl:cs.length=r.length:=pc.length
   cases cs with
   |nil=>simp at cl;lia
   |cons c cs =>
    have hc:HO.lst [V.int b1,V.int b2,V.int b3]=HO.lst (V.ref c :: cs.map V.ref):=Option.some.inj hc
    injection hc with hc
    injection hc with hc
    cases hc
 exact gen h2 sh.row
inductive spWoI(vs:List V)(H:Hp)(Q:VK):Prop where
 |mk (p:Addr) (N:Nat) (h1:vs=[.ref p]) (h2:BoxAt H p N) (h3:N+3000<2 ^ 40) (h4:∀ (r t l o:Addr) (n:Nat) (ties:List Tie) (ps:List Int) (R:Shr.Rows) (H':Hp),H' r=some (.tup [.ref t,.ref l,.ref o])->WebAt H' t n ties->(∀ x∈ties,TieOk n x)->ties.Pairwise tieLt->n<=30->H' l=some (.lst (ps.map V.int))->l≠p->PostOk n ps->RowsAt H' false o R->o≠p->ShOk 16 2880 n ps.length R->(∀ row∈R,GoodRow ps.length row)->(∀ (j:Nat) (h:j<R.length),(0+(j:Int))∈ps->R[j]=UnR ps j)->BoxAt H' p (N+2000)->Kept p H H'->Q (.ref r) H')
noncomputable def spWo:Sp:=fun vs H Q _=>spWoI vs H Q
section
variable{P:Program}{w:World}{K:PySem.W.Frag}{mg:Str->Option Value}{base:Heap}
noncomputable abbrev nWo:List Str:=["_law_box_here","_law_web_here","_law_posts_here"]
theorem scWo:FnScope nWo ["_law_box_here"] (defScope sWorld):=⟨rfl,rfl,rfl,by decide +kernel,rfl,by decide +kernel,by decide +kernel⟩
theorem ok_wo{f g1 g2 g3 g4:Addr}{fd d1 d2 d3 d4:FuncData}(F:Fun K "_law_world" "_law_world" sWorld f fd)(GM:CalF P w K mg base 2 "_law_many" ["_law_box_here","_law_least","_law_few","_law_most"] spMany g1 d1)(GW:CalF P w K mg base 3 "_law_web" ["_law_box_here","_law_many_here"] spWeb g2 d2)(GP:CalF P w K mg base 2 "_law_posts" ["_law_box_here","_law_many_here","_law_most"] spPo g3 d3)(GS:CalF P w K mg base 4 "_law_shares" ["_law_box_here","_law_web_here","_law_posts_here"] spSh g4 d4):FnOk P w K mg base CX0 5 f fd ["_law_box_here"] spWo:=by
 refine F.ok scWo (fun vs H Q E h=>?_) (fun cdv A outer s H vs Q E hr h=>?_)
 ·obtain⟨p,N,rfl,_⟩:=h
  rfl
 ·obtain⟨p,N,rfl,B,NB,fin⟩:=h
  have hr2:Room 2 _:=hr.mono (by decide)
  have hr3:Room 3 _:=hr.mono (by decide)
  have hr4:Room 4 _:=hr
  refine⟨_,(yad (ps_set (i:=1) scWo.nd rfl (Or.inl rfl) (pe_call GW.ok hr3 rfl GW.mg GW.kp GW.bd .nil pass0 (@yac _ _ _ _ _ _ (pvQ 0) (@pa_call _ _ _ _ _ _ _ _ (pe_call GM.ok hr2 rfl GM.mg GM.kp GM.bd .nil pass0 (@yac _ _ _ _ _ _ (pvQ 0) (@pa_cst _ _ _ _ _ _ _ yae (@pa_cst _ _ _ _ _ _ _ yae (@pa_cst _ _ _ _ _ _ _ yae yab))))) yab))))
   (yad (ps_set (i:=2) scWo.nd rfl (Or.inl rfl) (pe_call GP.ok hr2 rfl GP.mg GP.kp GP.bd .nil pass0 (@yac _ _ _ _ _ _ (pvQ 0) (@pa_sub _ _ _ _ _ _ _ (@pe_ix _ _ _ _ _ _ _ ix_tupH (pvQ 1) yae (fun _ _=>rfl)) (@pa_cst _ _ _ _ _ _ _ yae yab)))))
   (pss_one (ps_ret (@pe_tup _ _ _ _ _ (@yac _ _ _ _ _ _ (pvQ 1) (@yac _ _ _ _ _ _ (pvQ 2) (@pa_call _ _ _ _ _ _ _ _ (pe_call GS.ok hr4 rfl GS.mg GS.kp GS.bd .nil pass0 (@yac _ _ _ _ _ _ (pvQ 0) (@yac _ _ _ _ _ _ (pvQ 1) (@yac _ _ _ _ _ _ (pvQ 2) yab)))) yab)))))))),?_⟩
  refine⟨p,2,6,30,N,rfl,B,by lia,by decide,by decide,by decide,by decide,fun z H2 hz B2 k2=>?_⟩
  obtain⟨n,rfl⟩:∃ n:Nat,z=(n:Int):=⟨z.toNat,by lia⟩
  refine⟨p,n,_,rfl,B2,by lia,by omega,by omega,fun t ties H3 ht W3 ok pw B3 k3=>?_⟩
  obtain⟨⟨ts,bs,h1,h2,h3⟩,len⟩:=id W3
  refine⟨t,_,_,_,rfl,rfl,h1,rfl,p,n,_,6,rfl,B3,by lia,by omega,by omega,by decide,by decide,fun l ps H4 hl gl lp po B4 k4=>?_⟩
  have W4:=W3.keptB B3 k4
  refine⟨p,t,l,n,_,ties,ps,rfl,B4,by lia,W4,by omega,gl,lp,by have:=po.lo;exact this,po.hi,po.nd,fun o R H5 ho RA sh gd un B5 k5=>?_⟩
  refine⟨(by show 3<=sizeLine;decide),fun r hr=>?_⟩
  have s6:=Same.new (o:=.tup [.ref t,.ref l,.ref o]) hr
  exact fin r t l o n ties ps R _ yaa ((W4.keptB B4 k5).same s6) ok pw (by omega) (s6 _ _ (k5 _ _ lp gl)) lp po (RA.same s6) (B4.ne ho) sh gd un ((B5.same s6).mono (by lia)) (k2.trans (k3.trans (k4.trans (k5.trans (skept s6)))))
end
end K31
namespace L2
open PySem PySem.W PyProof.Rows
theorem dcomp_tup'{K:PySem.W.Frag}{a D:Addr}{xs:List V}{cap:List (Option Nat)}{σ:St}{H1:Hp}{Q:VK}{g:TG}{tc:TT}{tk tv:TE}(P:Nat->Hp->Prop)(p0:P 0 H1)(hl:∀ i H,i<=xs.length->P i H->SqT K H a xs)
  (hs:∀ i x H,xs[i]?=some x->P i H->g x (capt cap σ) H fun σ2 H2=>Kp (capt cap σ) σ2/\tc σ2 H2 fun b H3=>if b=true then tk σ2 H3 fun k H4=>tv σ2 H4 fun y H5=>∃ H6,DPut H5 D k y H6/\P (i+1) H6 else P (i+1) H3)
  (hd:∀ H,P xs.length H->Q (.ref D) H):dcompTurns (Itt K a) cap σ H1 D Q g tc tk tv:=by
 refine⟨xs.length,P,p0,fun i H il p=>?_⟩
 have q:=hl i H il p
 by_cases hlt:i<xs.length
 ·refine .inr ⟨hlt,⟨xs,xs[i],q,by simp[hlt]⟩,fun x H' y=>?_⟩
  obtain⟨e,y⟩:=y
  subst e
  exact hs i x _ (y xs q) p
 ·have e:i=xs.length:=by exact zj7 il hlt
  subst e
  exact .inl ⟨⟨xs,q,by simp⟩,hd _ p⟩
end L2
namespace K31
open PySem L2 PyProof.Rows
noncomputable abbrev pairO(x:Tie):HO:=.tup [.int x.1,.int x.2.1]
noncomputable def PairT(H:Hp)(cs:List Addr)(ts:List Tie):Prop:=Paired (fun c x=>H c=some (pairO x)) cs ts
theorem PairT.same{H H':Hp}{cs:List Addr}{ts:List Tie}(h:PairT H cs ts)(s:Same H H'):PairT H' cs ts:=Paired.mapP h fun _ _ z=>s _ _ z
noncomputable def dif(ows:List Int)(x:Tie):Bool:=!decide (ows.getD x.1.toNat 0=ows.getD x.2.1.toNat 0)
theorem atI_getD{gs:List Int}{j:Nat}(h:j<gs.length):atI (gs.map V.int) (j:Int)=some (V.int (gs.getD j 0)):=atI_nat (by rw[zAB,zE h,zAL,zE h];rfl)
noncomputable def keyT(x:Tie):List Key:=[Sum.inl x.1,Sum.inl x.2.1]
inductive spCbI(vs:List V)(H:Hp)(Q:VK):Prop where
 |mk (t o:Addr) (n:Nat) (ties:List Tie) (ows:List Int) (h1:vs=[.ref t,.ref o]) (h2:WebAt H t n ties) (h3:(∀ x∈ties,TieOk n x)) (h4:H o=some (.tup (ows.map V.int))) (h5:ows.length=n) (h6:∀ (l:Addr) (as:List Addr) (H':Hp),H l=none->H' l=some (.lst (as.map V.ref))->PairT H' as (ties.filter (dif ows))->Same H H'->Q (.ref l) H')
noncomputable def spCb:Sp:=fun vs H Q _=>spCbI vs H Q
inductive spTwI(vs:List V)(H:Hp)(Q:VK):Prop where
 |mk (t:Addr) (n:Nat) (ties:List Tie) (h1:vs=[.ref t]) (h2:WebAt H t n ties) (h3:ties.Pairwise tieLt) (h4:∀ (d:Addr) (kvs:List (List Key×V)) (H':Hp),H' d=some (.dT kvs)->(∀ x∈ties,valV kvs (keyT x)=some (.int x.2.2))->Same H H'->Q (.ref d) H')
noncomputable def spTw:Sp:=fun vs H Q _=>spTwI vs H Q
inductive spWgI(vs:List V)(H:Hp)(Q:VK):Prop where
 |mk (t c:Addr) (n:Nat) (ties ts:List Tie) (as:List Addr) (h1:vs=[.ref t,.ref c]) (h2:WebAt H t n ties) (h3:ties.Pairwise tieLt) (h4:H c=some (.lst (as.map V.ref))) (h5:PairT H as ts) (h6:ts.length<=120) (h7:(∀ x∈ts,x∈ties)) (h8:∀ H',Same H H'->Q (.int (ts.map (·.2.2)).sum) H')
noncomputable def spWg:Sp:=fun vs H Q _=>spWgI vs H Q
section
variable{P:Program}{w:World}{K:PySem.W.Frag}{mg:Str->Option Value}{base:Heap}
noncomputable abbrev nCb:List Str:=["web","owners"]
theorem scCb:FnScope nCb ["web","owners"] (defScope sCutBy):=⟨rfl,rfl,rfl,by decide +kernel,rfl,by decide +kernel,by decide +kernel⟩
theorem csCb1:CompScope ["a","b","weight","owners"] [none,none,none,some 1] nCb (defScope sCutBy) (scO [(".0",.local),("a",.local),("b",.local),("weight",.local),("owners",.free)]):=⟨rfl,by decide +kernel,by decide +kernel,by decide +kernel,rfl,capB_ok (by decide +kernel)⟩
theorem ndCb1:(["a","b","weight","owners"]:List Str).Nodup:=by decide +kernel
theorem ok_cb{f:Addr}{fd:FuncData}(F:Fun K "cut_by" "cut_by" sCutBy f fd):FnOk P w K mg base CX0 1 f fd ["web","owners"] spCb:=by
 refine F.ok scCb (fun vs H Q E h=>?_) (fun cdv A outer s H vs Q E hr h=>?_)
 ·obtain⟨t,o,n,ties,ows,rfl,_⟩:=h
  rfl
 ·obtain⟨t,o,n,ties,ows,rfl,W,ok,go,ol,fin⟩:=h
  obtain⟨⟨ts,bs,h1,h2,h3⟩,len⟩:=id W
  have h3l:bs.length=ties.length:=h3.length
  refine⟨_,(pss_one (ps_ret (pe_comp rfl csCb1 (pi_tup (@pe_ix _ _ _ _ _ _ _ ix_tupH (pvQ 0) yae (fun _ _=>rfl))) (fun C s H fp=>(pg_tupK K rfl (n:=3) rfl (pgs_cons (pg_name (i:=0) ndCb1 rfl (Or.inl rfl)) (pgs_cons (pg_name (i:=1) ndCb1 rfl (Or.inl rfl)) (pgs_cons (pg_name (i:=2) ndCb1 rfl (Or.inl rfl)) pgs_nil))) rfl rfl)) (fun C s H fp=>(pf_one (pt_cmpR op_ne (@pe_ix _ _ _ _ _ _ _ ix_tupH (pvQ 3) (pvQ 0) (fun _ _=>rfl)) (@pe_ix _ _ _ _ _ _ _ ix_tupH (pvQ 3) (pvQ 1) (fun _ _=>rfl)) (nomark _)))) (fun C s H fp=>(@pe_tup _ _ _ _ _ (@yac _ _ _ _ _ _ (pvQ 0) (@yac _ _ _ _ _ _ (pvQ 1) yab))))))),?_⟩
  refine⟨t,_,_,_,rfl,rfl,h1,rfl,ts,rfl,⟨_,SqT.of h2⟩,?_⟩
  refine comp_tup (K:=K) (a:=ts) (xs:=bs.map V.ref) (fun j ys G=>Same H G/\∃ cs:List Addr,ys=cs.map V.ref/\PairT G cs ((ties.take j).filter (dif ows))) (by rw[zA,sizeLine_eq];exact zh9 (zl1 len rfl) h3l) ⟨Same.refl _,[],rfl,.nil⟩ (fun j ys G _ z=>SqT.of (z.1 _ _ h2)) ?_ ?_
  ·rintro j x ys G hx ⟨sG,cs,rfl,TC⟩
   obtain⟨il,e⟩:=zI.mp hx
   rw[zA]at il
   rw[zU]at e
   subst e
   have it:j<ties.length:=by exact zh7 il h3l
   have hx:=sG _ _ (Paired.at h3 j il it)
   obtain⟨o1,o2,o3,o4,o5⟩:=ok _ (zS it)
   have go':=sG _ _ go
   rw[zK it,List.filter_append]
   generalize ties[j]=x at *
   obtain⟨u,v,c⟩:=x
   have o1:0<=u:=o1
   have o2:u<v:=o2
   have o3:v <(n:Int):=o3
   obtain⟨u,rfl⟩:∃ a':Nat,u=(a':Int):=⟨u.toNat,by lia⟩
   obtain⟨v,rfl⟩:∃ b':Nat,v=(b':Int):=⟨v.toNat,by lia⟩
   have ed:dif ows ((u:Int),(v:Int),c) = !decide (ows.getD u 0=ows.getD v 0):=rfl
   refine⟨bs[j],_,rfl,SqT.of hx,rfl,_,_,rfl,_,_,rfl,_,_,rfl,rfl,⟨rfl,trivial⟩,?_⟩
   refine⟨o,_,_,_,rfl,rfl,go',atI_getD (by lia),o,_,_,_,rfl,rfl,go',atI_getD (by lia),rfl,_,rfl,?_⟩
   refine ite2 (fun hc=>?_) (fun hc=>?_)
   ·have ne:¬ ows.getD u 0=ows.getD v 0:=fun z=>by rw[z]at hc;simp at hc
    refine⟨(by show 2<=sizeLine;decide),fun tp htp=>?_⟩
    have sT:=Same.new (o:=pairO ((u:Int),(v:Int),c)) htp
    refine⟨sG.trans sT,cs++[tp],by rw[zP];rfl,PairedApp (TC.same sT) ?_⟩
    rw[zBV (by rw[ed,decide_eq_false ne];rfl)]
    exact .cons yaa .nil
   ·have ne:ows.getD u 0=ows.getD v 0:=by simpa using hc
    refine⟨sG,cs,rfl,?_⟩
    rw[zCE (by rw[ed,decide_eq_true ne];decide),List.filter_nil,zBP]
    exact TC
  rintro ys G yl ⟨sG,cs,rfl,TC⟩ D hD
  rw[zA,h3l,zAN]at TC
  have sD:=Same.new (o:=.lst (cs.map V.ref)) hD
  exact fin D cs _ (sG.free hD) yaa (TC.same sD) (sG.trans sD)
noncomputable abbrev nTw:List Str:=["web"]
theorem scTw:FnScope nTw ["web"] (defScope sTieWeights):=⟨rfl,rfl,rfl,by decide +kernel,rfl,by decide +kernel,by decide +kernel⟩
theorem csTw1:CompScope ["a","b","weight"] [none,none,none] nTw (defScope sTieWeights) (scO [(".0",.local),("a",.local),("b",.local),("weight",.local)]):=⟨rfl,by decide +kernel,by decide +kernel,by decide +kernel,rfl,capB_ok (by decide +kernel)⟩
theorem ndTw1:(["a","b","weight"]:List Str).Nodup:=by decide +kernel
theorem ok_tw{f:Addr}{fd:FuncData}(F:Fun K "tie_weights" "tie_weights" sTieWeights f fd):FnOk P w K mg base CX0 1 f fd ["web"] spTw:=by
 refine F.ok scTw (fun vs H Q E h=>?_) (fun cdv A outer s H vs Q E hr h=>?_)
 ·obtain⟨t,n,ties,rfl,_⟩:=h
  rfl
 ·obtain⟨t,n,ties,rfl,W,pw,q⟩:=h
  obtain⟨⟨ts,as,h1,h2,h3⟩,len⟩:=id W
  have h3l:as.length=ties.length:=h3.length
  have hu0:_<cLine:=hr.units0
  refine⟨_,(pss_one (ps_ret (pe_dcomp true hu0 rfl csTw1 (pi_tup (@pe_ix _ _ _ _ _ _ _ ix_tupH (pvQ 0) yae (fun _ _=>rfl))) (fun C s H fp=>(pg_tupK K rfl (n:=3) rfl (pgs_cons (pg_name (i:=0) ndTw1 rfl (Or.inl rfl)) (pgs_cons (pg_name (i:=1) ndTw1 rfl (Or.inl rfl)) (pgs_cons (pg_name (i:=2) ndTw1 rfl (Or.inl rfl)) pgs_nil))) rfl rfl)) (fun C s H fp=>pf_nil) (fun C s H fp=>(@pe_tup _ _ _ _ _ (@yac _ _ _ _ _ _ (pvQ 0) (@yac _ _ _ _ _ _ (pvQ 1) yab)))) (fun C s H fp=>(pvQ 2))))),?_⟩
  refine⟨t,_,_,_,rfl,rfl,h1,rfl,ts,rfl,⟨_,SqT.of h2⟩,fun D hD=>?_⟩
  refine dcomp_tup' (K:=K) (a:=ts) (xs:=as.map V.ref) (fun i G=>Same H G/\∃ kvs,G D=some (.dT kvs)/\kvs.length<=i/\∀ x∈ties.take i,valV kvs (keyT x)=some (.int x.2.2)) ⟨Same.new hD,[],yaa,zJ _,fun _ h=>nomatch h⟩ (fun i G _ z=>z.1.tupq (SqT.of h2)) ?_ ?_
  ·rintro i x G hx ⟨sm,kvs,gD,kl,kv⟩
   obtain⟨il,e⟩:=zI.mp hx
   rw[zA]at il
   rw[zU]at e
   subst e
   have it:i<ties.length:=by exact zh7 il h3l
   have hx:=sm _ _ (Paired.at h3 i il it)
   refine⟨as[i],_,rfl,SqT.of hx,rfl,_,_,rfl,_,_,rfl,_,_,rfl,rfl,trivial,tTru_if ⟨(by show 2<=sizeLine;decide),fun tp htp=>?_⟩⟩
   have sT:=Same.new (o:=pairO ties[i]) htp
   have gD2:=sT _ _ gD
   refine⟨_,DPut.t (k:=keyT ties[i]) gD2 yaa (by rw[sizeLine_eq];lia),fun b o e=>?_,_,yaa,?_,fun x hx=>?_⟩
   ·have n1:b≠D:=ne_of_none e hD
    rw[upd_ne n1]
    exact sT _ _ (sm _ _ e)
   ·have:=length_putK kvs (keyT ties[i]) (V.int ties[i].2.2)
    lia
   ·rw[valV_put]
    rw[zK it]at hx
    rcases zX.mp hx with hx | hx
    ·obtain⟨j,hj,e⟩:=zBE hx
     rw[zAS]at hj
     rw[List.getElem_take]at e
     have lt:=zBR.mp pw j i (by lia) it (by lia)
     rw[if_neg,kv x hx]
     intro z
     have z:keyT x=keyT ties[i]:=z
     rw[<- e]at z
     have z':([ties[j].1,ties[j].2.1]:List Int)=[ties[i].1,ties[i].2.1]:=by
      unfold keyT at z
      simp only[List.cons.injEq,Sum.inl.injEq,and_true]at z
      rw[z.1,z.2]
     unfold tieLt at lt
     rw[z']at lt
     have ir:∀ l:List Int,Srt.lexlt l l=false:=fun l=>by
      induction l with
      |nil=>rfl
      |cons a l ih=>simp[Srt.lexlt,ih]
     rw[ir]at lt
     cases lt
    ·have e:=zH.mp hx
     subst e
     rw[if_pos rfl]
  ·rintro G ⟨sm,kvs,gD,kl,kv⟩
   rw[zA,h3l,zAN]at kv
   exact q D kvs G gD kv sm
noncomputable abbrev nWg:List Str:=["web","cut","weights"]
theorem scWg:FnScope nWg ["web","cut"] (defScope sWeightOf):=⟨rfl,rfl,rfl,by decide +kernel,rfl,by decide +kernel,by decide +kernel⟩
theorem csWg1:CompScope ["pair","weights"] [none,some 2] nWg (defScope sWeightOf) (scO [(".0",.local),("pair",.local),("weights",.free)]):=⟨rfl,by decide +kernel,by decide +kernel,by decide +kernel,rfl,capB_ok (by decide +kernel)⟩
theorem ndWg1:(["pair","weights"]:List Str).Nodup:=by decide +kernel
theorem ok_wg{f g:Addr}{fd gd:FuncData}(F:Fun K "weight_of" "weight_of" sWeightOf f fd)(T:Txt mg)(GT:CalF P w K mg base 1 "tie_weights" ["web"] spTw g gd):FnOk P w K mg base CX0 2 f fd ["web","cut"] spWg:=by
 refine F.ok scWg (fun vs H Q E h=>?_) (fun cdv A outer s H vs Q E hr h=>?_)
 ·obtain⟨t,c,n,ties,tt,as,rfl,_⟩:=h
  rfl
 ·obtain⟨t,c,n,ties,tt,as,rfl,W,pw,hc,pt,tl,sub,fin⟩:=h
  have hu:=hu_of hr
  have al:as.length=tt.length:=Paired.length pt
  refine⟨_,(yad (ps_set (i:=2) scWg.nd rfl (Or.inr rfl) (pe_call GT.ok hr rfl GT.mg GT.kp GT.bd .nil pass0 (@yac _ _ _ _ _ _ (pvQ 0) yab)))
   (pss_one (ps_ret (pe_callB (call_sumH rfl) (by rfl) T.sum boot_sum (@pa_comp _ _ _ _ _ _ _ _ (pe_comp rfl csWg1 (pi_list (pvQ 1)) (fun C s H fp=>(pg_name (i:=0) ndWg1 rfl (Or.inl rfl))) (fun C s H fp=>pf_nil) (fun C s H fp=>(pe_dget hu (pvQ 1) (pvQ 0) (fun _ _=>rfl)))) yab))))),?_⟩
  refine⟨t,n,ties,rfl,W,pw,fun d kvs H1 gd kv s1=>?_⟩
  refine⟨c,rfl,⟨_,SqL.of (s1 _ _ hc)⟩,?_⟩
  refine comp_list (K:=K) (a:=c) (xs:=as.map V.ref) (fun i ys G=>Same H1 G/\ys=((tt.take i).map (·.2.2)).map V.int) (by rw[zA,sizeLine_eq];exact zh9 (zl1 tl rfl) al) ⟨Same.refl _,rfl⟩ (fun i ys G _ z=>SqL.of (z.1 _ _ (s1 _ _ hc))) ?_ ?_
  ·rintro i x ys G hx ⟨sm,rfl⟩
   obtain⟨il,e⟩:=zI.mp hx
   rw[zA]at il
   rw[zU]at e
   subst e
   have it:i<tt.length:=by exact zh7 il al
   have a1:=(s1.trans sm) _ _ (Paired.at pt i il it)
   have g0:DGet G d (V.ref as[i]) (valV kvs (keyT tt[i])):=DGet.t (sm _ _ gd) a1
   rw[kv _ (sub _ (zS it))]at g0
   refine⟨⟨rfl,trivial⟩,tTru_if ⟨d,_,rfl,g0,sm,?_⟩⟩
   rw[zK it,zP,zP]
   rfl
  ·rintro ys G _ ⟨sm,rfl⟩ D hD
   rw[zA,al,zAN]
   exact⟨D,_,rfl,yaa,fin _ (s1.trans (sm.trans (Same.new hD)))⟩
end
open PySem L2 PyProof.Rows
theorem sc_rel{f:Int×Int}{D:Int}(h0:0<f.2)(h:f.2 ∣ D):Shr.Rel f (f.1 * (D / f.2)) D:=⟨h0,by
 rw[zAD,zCI h]⟩
theorem aI_abs(i:Int):(aI i).natAbs=i.natAbs:=by unfold aI;split <;> lia
theorem sum_fits{k:Nat}:∀ {l:List Int},(∀ x∈l,fitsB k x)->fitsB (k+l.length) l.sum
 |[],_=>by show(0:Int).natAbs<_;exact Nat.pow_pos (by decide)
 |x :: l,h=>by
  rw[zAF,zAO]
  have h1:=(h x (zF ..)).mono (show k<=k+l.length by exact zAA k l.length)
  exact h1.add (sum_fits fun y hy=>h y (zD _ hy))
theorem sub_fits{k:Nat}{x y:Int}(h:fitsB k x)(h':fitsB k y):fitsB (k+1) (x-y):=by
 have:fitsB k (-y):=h'.le (by omega)
 have:=h.add this
 rwa [show x + -y=x-y by lia]at this
theorem w_fits{c:Int}(h0:1<=c)(h1:c<=1073741824):fitsB 31 c:=by
 show c.natAbs<2 ^ 31
 have:(2:Nat) ^ 31=2147483648:=by decide
 omega
noncomputable def shr(R:Shr.Rows)(v l:Nat):Int×Int:=(R.getD v []).getD l (0,1)
theorem getD_at{α:Type}{l:List α}{i:Nat}(h:i<l.length)(d:α):l.getD i d=l[i]:=by
 rw[zAL,zE h]
 rfl
theorem shr_at{n m:Nat}{R:Shr.Rows}(h:ShOk 16 2880 n m R){v l:Nat}(hv:v<n)(hl:l<m):∃ (hv':v<R.length) (hl':l<R[v].length),shr R v l=R[v][l]:=by
 have hv':v<R.length:=by rw[h.len];exact hv
 have hm:=h.row _ (zS hv')
 have hl':l<R[v].length:=by exact zh8 hl hm
 refine⟨hv',hl',?_⟩
 unfold shr
 rw[getD_at hv',getD_at hl']
theorem shr_mem{n m:Nat}{R:Shr.Rows}(h:ShOk 16 2880 n m R){v l:Nat}(hv:v<n)(hl:l<m):∃ row∈R,shr R v l∈row:=by
 obtain⟨hv',hl',e⟩:=shr_at h hv hl
 exact⟨R[v],zS hv',by rw[e];exact zS hl'⟩
theorem tops_get{R:Shr.Rows}{v:Nat}(D:Int)(h:v<R.length)(h':v <(Shr.tops D R).length):(Shr.tops D R)[v]=R[v].map fun f=>f.1 * (D / f.2):=by
 simp only[Shr.tops,zU]
theorem tops_at{n m:Nat}{R:Shr.Rows}(h:ShOk 16 2880 n m R){v l:Nat}(hv:v<n)(hl:l<m)(D:Int):(rowOf (Shr.tops D R) (v:Int)).getD l 0=(shr R v l).1 * (D / (shr R v l).2):=by
 obtain⟨hv',hl',e⟩:=shr_at h hv hl
 have ht:v <(Shr.tops D R).length:=by rw[tops_len];exact hv'
 rw[rowOf_nat ht,tops_get D hv' ht,getD_at (by rw[zA];exact hl'),zU,e]
theorem shr_rel{n m:Nat}{R:Shr.Rows}(h:ShOk 16 2880 n m R){v l:Nat}(hv:v<n)(hl:l<m):Shr.Rel (shr R v l) ((rowOf (Shr.tops (Shr.dn R) R) (v:Int)).getD l 0) (Shr.dn R)/\fitsB 40 (shr R v l).1/\fitsB 16 (shr R v l).2/\fitsB 3017 ((rowOf (Shr.tops (Shr.dn R) R) (v:Int)).getD l 0):=by
 obtain⟨row,hr,hf⟩:=shr_mem h hv hl
 obtain⟨D0,_,DD⟩:=h.ok.dn
 have DF:=h.ok.dnE
 have p0:=h.ok.pos row hr _ hf
 rw[tops_at h hv hl]
 have qf:fitsB 2881 (Shr.dn R / (shr R v l).2):=by
  have h1:=Int.ediv_nonneg (a:=Shr.dn R) (b:=(shr R v l).2) (by lia) (by lia)
  have h2:=Int.ediv_le_self (a:=Shr.dn R) (shr R v l).2 (by lia)
  exact DF.le (by lia)
 exact⟨sc_rel p0 (DD row hr _ hf),h.ok.top row hr _ hf,h.ok.below row hr _ hf,((h.ok.top row hr _ hf).mul qf).mono (by decide)⟩
theorem cAt_fits{n m:Nat}{R:Shr.Rows}(h:ShOk 16 2880 n m R){x:Tie}(ok:TieOk n x){l:Nat}(hl:l<m):fitsB 3060 (cAt (Shr.tops (Shr.dn R) R) l x):=by
 obtain⟨u,v,c⟩:=x
 obtain⟨o1,o2,o3,o4,o5⟩:=ok
 have o1:0<=u:=o1
 have o2:u<v:=o2
 have o3:v<n:=o3
 obtain⟨u,rfl⟩:∃ a:Nat,u=(a:Int):=⟨u.toNat,by lia⟩
 obtain⟨v,rfl⟩:∃ a:Nat,v=(a:Int):=⟨v.toNat,by lia⟩
 have fu:=(shr_rel h (v:=u) (l:=l) (by lia) hl).2.2.2
 have fv:=(shr_rel h (v:=v) (l:=l) (by lia) hl).2.2.2
 have fa:fitsB 3018 (aI ((rowOf (Shr.tops (Shr.dn R) R) (u:Int)).getD l 0-(rowOf (Shr.tops (Shr.dn R) R) (v:Int)).getD l 0)):=by
  exact(sub_fits fu fv).le (by rw[aI_abs];exact zJ _)
 exact((w_fits o4 o5).mul fa).mono (by decide)
end K31
namespace Srt
open PySem PySem.W PyProof.Rows
open PySem.AutoSeq1 (wpAny_loadPart')
theorem lexlt_nil(ns:List Int):lexlt ns []=false:=by
 cases ns <;> rfl
theorem lexlt_drop{ns ms:List Int}:lexlt (ns.drop (min ns.length ms.length)) (ms.drop (min ns.length ms.length))=decide (ns.length<ms.length):=by
 by_cases h:ns.length<ms.length
 ·rw[Nat.min_eq_left (zBB h),List.drop_length,decide_eq_true h]
  cases e:ms.drop ns.length with
  |nil =>
   have:=congrArg List.length e
   rw[zCB]at this
   simp at this
   lia
  |cons x r=>rfl
 ·rw[Nat.min_eq_right (by exact zj3 h),List.drop_length,lexlt_nil,decide_eq_false h]
theorem IntsV.at{ns:List Int}{us:List Value}(h:IntsV ns us):∀ (i:Nat) (h1:i<ns.length) (h2:i<us.length),∃ t,us[i]=Value.int ns[i] t:=by
 induction h with
 |nil=>intro i h1;simp at h1
 |cons r _ ih =>
  intro i h1 h2
  cases i with
  |zero=>exact r
  |succ i=>exact ih i (by simpa using h1) (by simpa using h2)
theorem rcLt{prog:Program}{w:World}{A:Around}{E:Value->Shared->Prop}{s:Shared}{a b:Int}{t u:Tok}{Q:Value->Shared->Prop}(h:Q (.bool (decide (a<b))) s):wpAny (model prog w) A (richCompare .Lt (.int a t) (.int b u)) Q E s:=lt_int h
theorem tuple_lt_meets(l b:Addr)(its its2:Array Value)(ns ms:List Int)(n n2:Nat)(dd dd2:Option Addr)(sl sl2:Array (Option Value))(p1:IntsV ns its.toList)(p2:IntsV ms its2.toList) :
  Meets (Builtin.«tuple.__lt__» ⟨[.ref l,.ref b],[]⟩)
   (fun A R s=>s.heap.get? l=some { cls:=.type "tuple",dict:=dd,data:=.seq its n,slots:=sl }/\s.heap.get? b=some { cls:=.type "tuple",dict:=dd2,data:=.seq its2 n2,slots:=sl2 } /\
    R (.ok (.ret (.bool (lexlt ns ms)))) s) :=
 .of_wp fun prog w A R s h=>by
  obtain⟨hp,g,d,tk,os⟩:=s
  obtain⟨hl,hb,h⟩:=h
  have f2:=AutoSeq1.sub_tuple_tuple
  have e1:its.size=ns.length:=by rw[p1.length];simp
  have e2:its2.size=ms.length:=by rw[p2.length];simp
  have hZ:(its.toList.zip its2.toList).length=min ns.length ms.length:=by simp[e1,e2]
  wp_walk using wpAny_loadPart' hl,wpAny_loadPart' hb,wpAny_forIn_list _ (fun rest q s'=>q.1=none/\s'=⟨hp,g,d,tk,os⟩/\∃ i,i<=min ns.length ms.length/\rest=(its.toList.zip its2.toList).drop i /\
   R (.ok (.ret (.bool (lexlt (ns.drop i) (ms.drop i))))) ⟨hp,g,d,tk,os⟩) _
  case turn =>
   rintro⟨y,x⟩ rest q s' ⟨hq,rfl,i,hi,hz,hR⟩
   have lt:i <(its.toList.zip its2.toList).length:=by
    rcases Nat.lt_or_ge i (its.toList.zip its2.toList).length with z | z
    ·exact z
    ·rw[List.drop_of_length_le z]at hz;cases hz
   have a1:i<ns.length:=by omega
   have a2:i<ms.length:=by omega
   obtain⟨t1,q1⟩:=p1.at i a1 (by simp;exact zh8 a1 e1)
   obtain⟨t2,q2⟩:=p2.at i a2 (by simp;exact zh8 a2 e2)
   rw[zBF lt]at hz
   injection hz with hyx hrest
   have hy:y = .int ns[i] t1:=by have:=congrArg Prod.fst hyx;rw[<- q1];simpa using this
   have hx:x = .int ms[i] t2:=by have:=congrArg Prod.snd hyx;rw[<- q2];simpa using this
   subst hy hx
   rw[zBF a1,zBF a2]at hR
   refine zB (SeqAt.EqAt.int_int _ _ _ _ prog w _ _ ?_)
   by_cases z:ns[i]=ms[i]
   ·have zb:(ns[i] == ms[i])=true:=by simpa using z
    rw[zb]
    have l1:lexlt (ns[i] :: ns.drop (i+1)) (ms[i] :: ms.drop (i+1))=lexlt (ns.drop (i+1)) (ms.drop (i+1)):=by simp[lexlt,z]
    rw[l1]at hR
    wp_walk
    exact⟨rfl,rfl,i+1,by exact zn5 (zh7 lt hZ),hrest,hR⟩
   ·have zb:(ns[i] == ms[i])=false:=by simpa using z
    rw[zb]
    have l1:lexlt (ns[i] :: ns.drop (i+1)) (ms[i] :: ms.drop (i+1))=decide (ns[i]<ms[i]):=by simp[lexlt,z]
    rw[l1]at hR
    wp_walk using rcLt
    exact⟨_,rfl,hR⟩
  case fin =>
   rintro⟨b1,b2⟩ s' ⟨hb',rfl,i,hi,hz,hR⟩
   simp only at hb'
   subst hb'
   have ge:min ns.length ms.length<=i:=by
    rcases Nat.lt_or_ge i (its.toList.zip its2.toList).length with z | z
    ·rw[zBF z]at hz;cases hz
    ·exact hZ▸z
   obtain rfl:i=min ns.length ms.length:=by lia
   rw[lexlt_drop]at hR
   wp_walk
   exact⟨_,rfl,by simpa[Builtin.Tuple.tupleCompareSizes,e1,e2]using hR⟩
  case h =>
   exact⟨rfl,rfl,0,zAT _,rfl,by simpa using h⟩
section
variable{prog:Program}{w:World}{A:Around}{E:Value->Shared->Prop}{s:Shared}
theorem lt_tups{p q:Addr}{ns ms:List Int}{Q:Value->Shared->Prop}(hu:A.units<cLine)(x:TupI s.heap (.ref p) ns)(y:TupI s.heap (.ref q) ms)(h:Q (.bool (lexlt ns ms)) s):wpAny (model prog w) A (compareOp .Lt (.ref p) (.ref q)) Q E s:=by
 obtain⟨a,⟨cls,dd,data,sl⟩,its,n,e1,g1,c1,d1,p1⟩:=x
 obtain⟨a',⟨cls2,dd2,data2,sl2⟩,its2,n2,e2,g2,c2,d2,p2⟩:=y
 cases e1
 cases e2
 simp only at c1 d1 c2 d2
 subst c1 d1 c2 d2
 exact richCompare_meets_room (op:=.Lt) ⟨_,g1,rfl⟩ ⟨_,g2,rfl⟩ F.slot_tuple_lt F.entry_tuple_lt (F.args_tuple_lt_2 _ _) (tuple_lt_meets p q its its2 ns ms n n2 dd dd2 sl sl2 p1 p2)
  ⟨g1,g2,show Value.bool (lexlt ns ms)≠Value.notImplemented/\Q (.bool (lexlt ns ms)) s from⟨(fun x=>nomatch x),h⟩⟩ hu
end
noncomputable def TupN(g:Heap)(v:Value)(ks:List Int):Prop:=∃ a ob t n x tk ns,v=Value.ref a/\g.get? a=some ob/\ob.cls = .type "tuple"/\ob.data = .seq #[.int x tk,.ref t] n/\TupI g (.ref t) ns/\ks=x :: ns
theorem TupN.inj{g:Heap}{v:Value}{ks js:List Int}(x:TupN g v ks)(y:TupN g v js):ks=js:=by
 obtain⟨a,ob,t,n,i,tk,ns,rfl,g1,_,d1,p1,rfl⟩:=x
 obtain⟨a',ob',t',n',i',tk',ns',e,g2,_,d2,p2,rfl⟩:=y
 cases e
 rw[g1]at g2
 cases g2
 rw[d1]at d2
 cases d2
 rw[p1.inj p2]
theorem TupN.to{g g':Heap}{v:Value}{ks:List Int}(x:TupN g v ks)(k:∀ b u,g.get? b=some u->u.cls = .type "tuple"->g'.get? b=some u):TupN g' v ks:=by
 obtain⟨a,ob,t,n,i,tk,ns,rfl,g1,c1,d1,⟨b,o,its,m,e,g2,c2,r⟩,rfl⟩:=x
 exact⟨a,ob,t,n,i,tk,ns,rfl,k _ _ g1 c1,c1,d1,⟨b,o,its,m,e,k _ _ g2 c2,c2,r⟩,rfl⟩
open Classical in
@[reducible] noncomputable def κN(g:Heap):KeyKind where
 α:=List Int
 blt:=lexlt
 irrefl:=lexlt_irrefl
 trans:=lexlt_trans
 negTrans:=lexlt_neg
 total:=lexlt_total
 keyOf v:=if h:∃ ks,TupN g v ks then some h.choose else none
 dflt:=([]:List Int)
open Classical in
theorem κN_key{g:Heap}{v:Value}{ks:List Int}(x:TupN g v ks):(κN g).keyOf v=some ks:=by
 have h:∃ js,TupN g v js:=⟨ks,x⟩
 show(if h:∃ js,TupN g v js then some h.choose else none)=some ks
 rw[dif_pos h,h.choose_spec.inj x]
open Classical in
theorem κN_of{g:Heap}{v:Value}{ks:List Int}(e:(κN g).keyOf v=some ks):TupN g v ks:=by
 have e':(if h:∃ js,TupN g v js then some h.choose else none)=some ks:=e
 by_cases h:∃ js,TupN g v js
 ·rw[dif_pos h]at e'
  rw[<- Option.some.inj e']
  exact h.choose_spec
 ·rw[dif_neg h]at e'
  cases e'
section
variable{prog:Program}{w:World}{A:Around}{E:Value->Shared->Prop}{s:Shared}
theorem ltN_ok{h₁:Heap}(hu:A.units<cLine)(kp:∀ v ks,TupN h₁ v ks->TupN s.heap v ks):LtOk (κN h₁) (tuples' true) prog w A s:=by
 intro E x y ka kb Q st hk ha hb q
 obtain⟨a,ob,t,n,i,tk,ns,e1,g1,_,d1,p1,rfl⟩:=kp _ _ (κN_of ha)
 obtain⟨a',ob',t',n',j,tk',ms,e2,g2,_,d2,p2,rfl⟩:=kp _ _ (κN_of hb)
 rw[lt'_eq]
 refine wpS_bind (wpS_get ?_)
 rw[hk,e1,e2]
 refine wpS_bind (wpS_lift (wpAny_attempt (kat_lt g1 d1 g2 d2 ?_)))
 have q:Q (some (lexlt (i :: ns) (j :: ms))) st:=q
 show KatLex prog w A true (decide (2<2)) _ [(.int i tk,.int j tk'),(.ref t,.ref t')] 0 s
 refine kat_cons (wpAny_eqBool_int (kat_go (fun z=>kat_yes ?_) fun z=>kat_no ?_))
 ·have z':i=j:=by simpa using z
  have l:lexlt (i :: ns) (j :: ms)=lexlt ns ms:=by simp[lexlt,z']
  refine kat_cons (L2.eqT hu p1 p2 prog w _ _ (kat_go (fun z=>kat_yes (kat_nil ?_)) fun z=>kat_no ?_))
  ·have z2:ns=ms:=of_decide_eq_true z
   refine⟨rfl,?_⟩
   rw[l,z2,lexlt_irrefl]at q
   exact wpS_pure q
  ·refine kat_one _ _ (lt_tups hu p1 p2 ?_)
   refine⟨rfl,?_⟩
   rw[l]at q
   exact wpS_pure q
 ·have z':i≠j:=by simpa using z
  have l:lexlt (i :: ns) (j :: ms)=decide (i<j):=by simp[lexlt,z']
  rw[l]at q
  exact oneLt_int ⟨rfl,wpS_pure q⟩
theorem tupsN_of{g:Heap}:∀ {us:List Value}{ks:List (List Int)},Paired (TupN g) us ks->∃ fs:List Value,KatTups g us fs/\fs.length=us.length/\∀ v∈fs,∃ i t,v=Value.int i t:=by
 intro us ks h
 induction h with
 |nil=>exact⟨[],trivial,rfl,fun _ h=>nomatch h⟩
 |cons h r ih =>
  obtain⟨a,ob,t,n,i,tk,ns,e,g1,c,d,_⟩:=h
  subst e
  obtain⟨fs,t',l,z⟩:=ih
  refine⟨.int i tk :: fs,KatTups.cons g1 c d rfl t',by simp[l],fun v hv=>?_⟩
  rcases zW.mp hv with e | e
  ·exact⟨i,tk,e⟩
  ·exact z v e
theorem kindN{us:List Value}{ks:List (List Int)}{Q:SortKind->Shared->Prop}(h:Paired (TupN s.heap) us ks)(h2:2<=us.length)(q:Q (tuples' true) s):wpAny (model prog w) A (keyKind' us.toArray) Q E s:=by
 obtain⟨fs,t,l,z⟩:=tupsN_of h
 refine kat_kind (T:=Value.type "int") t (by lia) (fun v hv=>?_) (by decide) ?_
 ·obtain⟨i,tk,rfl⟩:=z v hv
  exact Looks.now
 ·have e:(Value.type "int" != Value.type "tuple")=true:=by decide
  rw[e]
  exact q
end
end Srt
namespace L2
open PySem PySem.W PyProof.Rows Srt
open PySem PySem.W PyProof.Rows Srt
noncomputable def keyV(g:Heap)(v:Value):List Int:=(show Option (List Int)from(κN g).keyOf v).getD []
theorem keyV_eq{g:Heap}{v:Value}{k:List Int}(x:TupN g v k):keyV g v=k:=by
 unfold keyV
 rw[κN_key x]
 rfl
noncomputable def KeyAt(G:Hp)(a:Addr)(k:List Int):Prop:=∃ (t:Addr) (z:Int) (ns:List Int),G a=some (.tup [.int z,.ref t])/\G t=some (.tup (ns.map V.int))/\k=z :: ns
theorem KeyAt.same{G G':Hp}{a:Addr}{k:List Int}(h:KeyAt G a k)(s:Same G G'):KeyAt G' a k:=by
 obtain⟨t,z,ns,h1,h2,e⟩:=h
 exact⟨t,z,ns,s _ _ h1,s _ _ h2,e⟩
section
variable{X:Cx}{c P:Addr}{params:Arguments}{body e:Expr}{scope:Scope}{lpos p pos kpos:Pos}{N':List Str}{cap:List (Option Nat)}{x:Str}{t:TA}{te:TE}
theorem tupN_of{pins:List (Addr×Obj)}{σ:St}{H:Hp}{s:Shared}(I:Inv X pins σ H s){a:Addr}{k:List Int}(h:KeyAt H a k):TupN s.heap (.ref a) k:=by
 obtain⟨tt,z,ns,h1,h2,rfl⟩:=h
 obtain⟨its,r,⟨o,e,c,n,d⟩,_⟩:=I.tuple (SqT.of h1)
 cases r with
 |cons r1 r2 =>
  cases r2 with
  |cons r2 r3 =>
   cases r3
   obtain⟨tk,rfl⟩:=r1
   cases r2
   exact⟨a,o,tt,n,z,tk,ns,rfl,e,c,d,tupI_of I h2,rfl⟩
theorem tupsN_at{pins:List (Addr×Obj)}{σ:St}{H:Hp}{s:Shared}(I:Inv X pins σ H s){as:List Addr}{ks:List (List Int)}(h:Paired (KeyAt H) as ks):Paired (TupN s.heap) (as.map Value.ref) ks:=by
 induction h with
 |nil=>exact .nil
 |cons r _ ih=>exact .cons (tupN_of I r) ih
end
open PySem PySem.W PyProof.Rows Srt
open PySem PySem.W PyProof.Rows Srt
section
variable{X:Cx}
theorem keyN_back{pins:List (Addr×Obj)}{σ:St}{H:Hp}{s:Shared}{g:Heap}(I:Inv X pins σ H s)(kp:∀ b u,s.heap.get? b=some u->g.get? b=some u){bs kas:List Addr}{keys:List (List Int)}(pk:Paired (KeyAt H) kas keys)(sub:∀ b∈bs,b∈kas) :
  Paired (KeyAt H) bs (bs.map fun b=>keyV g (.ref b)):=by
 have mem:∀ b∈kas,∃ k,KeyAt H b k:=by
  clear sub
  induction pk with
  |nil=>intro b hb;cases hb
  |cons r _ ih =>
   intro b hb
   rcases zW.mp hb with e | e
   ·rw[e];exact⟨_,r⟩
   ·exact ih b e
 induction bs with
 |nil=>exact .nil
 |cons b bs ih =>
  obtain⟨k,hk⟩:=mem b (sub b (zF ..))
  refine .cons ?_ (ih fun c hc=>sub c (zD _ hc))
  have e:keyV g (.ref b)=k:=keyV_eq ((tupN_of I hk).to fun c u e _=>kp c u e)
  show KeyAt H b (keyV g (.ref b))
  rw[e]
  exact hk
theorem keys_eq{g:Heap}{as:List Addr}{keys:List (List Int)}(h:Paired (TupN g) (as.map Value.ref) keys):keys=as.map fun a=>keyV g (.ref a):=by
 generalize hus:as.map Value.ref=us at h
 induction h generalizing as with
 |nil=>cases as with
  |nil=>rfl
  |cons a as=>cases hus
 |cons r _ ih =>
  cases as with
  |nil=>cases hus
  |cons a as =>
   rw[zN]at hus
   injection hus with h1 h2
   subst h1
   rw[zN,keyV_eq r,<- ih h2]
end
end L2
namespace Srt
open PySem PySem.W PyProof.Rows
section
variable{d it:Addr}{ks:List Value}{ep i:Nat}{g g':Heap}{prog:Program}{w:World}{A:Around}{E:Value->Shared->Prop}{s:Shared}
theorem nextD_item{v:Value}{Q:Value->Shared->Prop}(hI:s.heap.IsKeyIter it d i ks.length ep)(x:RawD d ks ep s.heap)(hv:ks[i]?=some v)
  (q:∀ g',g'.IsKeyIter it d (i+1) ks.length ep->Heap.SameBut it s.heap g'->Q v { s with heap:=g' }):wpAny (model prog w) A (Builtin.SmallTypes.nextOf (.ref it)) Q E s:=by
 obtain⟨io,a0,c0,d0⟩:=id hI
 obtain⟨ob,en,a,c,dt,ke⟩:=x
 have len:en.size=ks.length:=by rw[<- ke];simp
 unfold Builtin.SmallTypes.nextOf;refine zB (wpAny_callSpecial?_slot (name:=Str.ofString "__next__") hI.typeIs F.slot_dict_keyiterator_next (wpAny_call_entry F.slot_dict_keyiterator_next hI.typeIs F.entry_dict_keyiterator_next ?_ (F.args_dict_keyiterator_next_1 _)))
 refine zB (zG (zB (zB ?_)))
 first | refine zB (wpAny_typeNameOfWhole_keyiter hI.typeIs (zG ?_)) | refine zB (wpAny_typeNameOf_keyiter hI.typeIs (zG ?_))
 refine zB (wpAny_fieldsOf a0 d0 ?_);have own:Builtin.Dict_items.ownsTuple "dict_keyiterator" = false:=by decide
 simp only[own,zBW,if_false];show wpAny _ _ (if(Value.ref d == Value.none)=true then _ else _) _ _ s
 rw[if_neg (show ¬((Value.ref d == Value.none)=true)from zT)];refine zB (zG (zB (wpAny_dictEntries a dt ?_)))
 rw[if_neg (by rw[len];simp)];refine zB (zG (zB (wpAny_dictEpoch a dt ?_)))
 rw[if_neg (by simp)];refine zG ?_
 have il:i<en.size:=by rw[len];exact(zI.mp hv).1
 have iv:en[i].key=v:=by
  have z:(en.toList.map (fun r=>r.key))[i]?=some en[i].key:=by rw[zAB,zBC,zAK il];rfl
  rw[ke,hv]at z
  exact(Option.some.inj z).symm
 simp only[show ¬((i:Int)<0)from by lia,if_false,zAC,zAK il];refine zB ?_
 first | refine zB (wpAny_typeNameOfWhole_keyiter hI.typeIs (zG ?_)) | refine zB (wpAny_typeNameOf_keyiter hI.typeIs (zG ?_))
 refine zB (wpAny_isOneOf_keyiter hI.typeIs ?_);show wpAny _ _ (setField (.ref it) 1 (rawInt ((i:Int)+1)) >>= _) _ _ s
 refine zB (wpAny_setField a0 d0 (by simp) ?_)
 have hI':(s.heap.update it (Obj.mapFields (·.setIfInBounds 1 (rawInt ((i:Int)+1))))).IsKeyIter it d (i+1) ks.length ep:=⟨_,Heap.get?_update_self _ a0 (Obj.isFreed_of_fields (Obj.data_mapFields d0 _)),(Obj.cls_mapFields ..).trans c0,by rw[Obj.data_mapFields d0];simp[rawInt]⟩
 refine zB (wpAny_holding (zB (wpAny_isOneOf_keyiter (s:={ s with heap:=s.heap.update it (Obj.mapFields (·.setIfInBounds 1 (rawInt ((i:Int)+1)))) }) hI'.typeIs ?_)))
 show wpAny _ _ (pure en[i].key) _ _ _;rw[iv]
 exact zG (zG ⟨_,rfl,zG (q _ hI' (Heap.SameBut.update ..))⟩)
noncomputable def ZipF(g:Heap)(z ti to:Addr)(m:Value)(fl:Bool):Prop:=g.get? z=some { cls:=.type "zip",dict:=none,data:=.fields #[m,.bool fl,.bool false,.ref ti,.ref to],slots:=#[] }
variable{z ti to i1 i2 l1 l2:Addr}{k:Nat}{xs:Array Value}{x y a b:Value}
theorem zipD_first{Q:Value->Shared->Prop}(D:ZA z ti to i1 i2)(o1:Off z to i1 i2 l1)(o2:Off z to i1 i2 l2)
  (hz:IsZip s.heap z ti to .none) (hTI:IsPair s.heap ti (.ref i1) (.ref i2)) (hTO:IsPair s.heap to a b) (h1:s.heap.IsListIter i1 l1 k) (h2:s.heap.IsKeyIter i2 l2 k ks.length ep) (hl1:s.heap.IsList l1 xs) (hl2:RawD l2 ks ep s.heap) (hx:xs[k]?=some x) (hy:ks[k]?=some y)
  (q:∀ g,IsZip g z ti to (rawInt s.heap.objs.size)->IsPair g to x y->g.IsListIter i1 l1 (k+1)->g.IsKeyIter i2 l2 (k+1) ks.length ep->IsPair g s.heap.objs.size x y->(∀ c o,c≠z->c≠to->c≠i1->c≠i2->s.heap.get? c=some o->g.get? c=some o)->Q (.ref s.heap.objs.size) { s with heap:=g }) :
  wpAny (model prog w) A (Builtin.«zip.__next__» ⟨[.ref z],[]⟩) (fun fin s'=>∃ v,fin = .done (.ret v)/\Q v s') E s:=by
 have kt:∀ {g g':Heap}{j:Nat},g.IsKeyIter i2 l2 j ks.length ep->(∀ o,g.get? i2=some o->g'.get? i2=some o)->g'.IsKeyIter i2 l2 j ks.length ep:=fun {g g' j} h f=>h.at f
 show wpAny _ _ (field (.ref z) 2 >>= _) _ _ _;refine zB (wpAny_field hz rfl (x:=.bool false) rfl ?_)
 show wpAny _ _ (field (.ref z) 3 >>= _) _ _ _;refine zB (wpAny_field hz rfl (x:=.ref ti) rfl (zB (wpAny_seqItems hTI rfl ?_)))
 show wpAny _ _ (Builtin.SmallTypes.ownedTupleIsFree (.ref z) >>= _) _ _ _;refine zB ?_
 unfold Builtin.SmallTypes.ownedTupleIsFree;refine zB (wpAny_field hz rfl (x:=.none) rfl (zG ?_))
 simp only[if_true];refine zB (wpAny_rule (zB (wpAny_field hz rfl (x:=.ref to) rfl (zB (wpAny_setField_rec hz (by simp) fun g1 z1 e1=>?_)))))
 replace z1:IsZip g1 z ti to .ellipsis:=z1
 refine zB ?_;simp only[List.zipIdx_cons,List.zipIdx_nil,List.forIn_cons,List.forIn_nil]
 refine zB (zB (wpAny_onRaise ?_));show wpAny _ _ (Builtin.SmallTypes.nextOf (.ref i1) >>= _) _ _ _
 refine zB (wpAny_nextOf_list_item (h1.at fun o e=>e1.extBut _ _ D.a3 e) (hl1.at fun o e=>e1.extBut _ _ o1.1 e) hx fun g2 n2 e2=>zG ?_)
 have t2:IsPair g2 to a b:=e2.extBut _ _ D.a8 (e1.extBut _ _ D.a2 hTO)
 refine zB (wpAny_seqItems t2 rfl (zB (wpAny_updateSeq_pair t2 fun g3 t3 e3=>?_)))
 replace t3:IsPair g3 to x b:=t3
 refine zB (wpAny_letGo (zG (zB (zB (wpAny_onRaise ?_)))));show wpAny _ _ (Builtin.SmallTypes.nextOf (.ref i2) >>= _) _ _ _
 refine zB (nextD_item (kt (kt (kt h2 fun o e=>e1.extBut _ _ D.a4 e) fun o e=>e2.extBut _ _ (Ne.symm D.a10) e) fun o e=>e3.extBut _ _ (Ne.symm D.a9) e) (((hl2.to fun o e=>e1.extBut _ _ o2.1 e).to fun o e=>e2.extBut _ _ o2.2.2.1 e).to fun o e=>e3.extBut _ _ o2.2.1 e) hy fun g4 n4 e4=>zG ?_)
 have t4:IsPair g4 to x b:=e4.extBut _ _ D.a9 t3
 refine zB (wpAny_seqItems t4 rfl (zB (wpAny_updateSeq_pair t4 fun g5 t5 e5=>?_)))
 replace t5:IsPair g5 to x y:=t5
 refine zB (wpAny_letGo (zG (zG (zB (wpAny_seqItems t5 rfl (zB (wpAny_newTuple ?_)))))))
 have sz:g5.objs.size=s.heap.objs.size:=by rw[e5.1,e4.1,e3.1,e2.1,e1.1]
 have z5:IsZip g5 z ti to .ellipsis:=e5.extBut _ _ (Ne.symm D.a2) (e4.extBut _ _ (Ne.symm D.a4) (e3.extBut _ _ (Ne.symm D.a2) (e2.extBut _ _ (Ne.symm D.a3) z1)))
 have k5:∀ c o,c≠z->c≠to->c≠i1->c≠i2->s.heap.get? c=some o->g5.get? c=some o:=fun c o c1 c2 c3 c4 e=>e5.extBut _ _ c2 (e4.extBut _ _ c4 (e3.extBut _ _ c2 (e2.extBut _ _ c3 (e1.extBut _ _ c1 e))))
 have n15:g5.IsListIter i1 l1 (k+1):=((n2.at fun o e=>e3.extBut _ _ (Ne.symm D.a8) e).at fun o e=>e4.extBut _ _ D.a10 e).at fun o e=>e5.extBut _ _ (Ne.symm D.a8) e
 have n25:g5.IsKeyIter i2 l2 (k+1) ks.length ep:=kt n4 fun o e=>e5.extBut _ _ (Ne.symm D.a9) e
 show wpAny _ _ (Builtin.SmallTypes.ownedTupleHandOut (.ref z) (.ref g5.objs.size) >>= _) _ _ _;refine zB ?_
 unfold Builtin.SmallTypes.ownedTupleHandOut
 have z6:IsZip (g5.push { cls:=.type "tuple",data:=.seq #[x,y] }) z ti to .ellipsis:=zC _ z5
 refine zB (wpAny_setField_rec z6 (by simp) fun g7 z7 e7=>?_)
 replace z7:IsZip g7 z ti to (rawInt g5.objs.size):=z7
 refine wpAny_setField_rec z7 (by simp) fun g8 z8 e8=>?_
 replace z8:IsZip g8 z ti to (rawInt g5.objs.size):=z8
 have up:∀ c o,c≠z->g5.get? c=some o->g8.get? c=some o:=fun c o c1 e=>e8.extBut _ _ c1 (e7.extBut _ _ c1 (zC _ e))
 have zlt:z<g5.objs.size:=zQ z5
 have p8:IsPair g8 g5.objs.size x y:=e8.extBut _ _ (zBL zlt) (e7.extBut _ _ (zBL zlt) (zV _ rfl))
 rw[sz]at z8 p8
 refine zG ⟨_,rfl,?_⟩
 show Q (.ref g5.objs.size) _;rw[sz]
 exact q g8 z8 (up _ _ D.a2 t5) (n15.at fun o e=>up _ o D.a3 e) (kt n25 fun o e=>up _ o D.a4 e) p8 fun c o c1 c2 c3 c4 e=>up c o c1 (k5 c o c1 c2 c3 c4 e)
theorem wpAny_alive{M:Model}{a:Addr}{Q:Option Obj->Shared->Prop}(h:Q (s.heap.get? a) s):wpAny M A (loadIfAlive a) Q E s:=fun Γ p _=>by
 unfold loadIfAlive
 rw[Sem.wp_loadIfAlive]
 exact Sem.wp_pure .. |>.mpr h
theorem zip_busy{m:Addr}{fl:Bool}{Q:Bool->Shared->Prop}(hz:ZipF s.heap z ti to (rawInt m) fl)(hm:∃ o,s.heap.get? m=some o)(q:∀ g,ZipF g z ti to (rawInt m) true->Heap.SameBut z s.heap g->Q false { s with heap:=g }):wpAny (model prog w) A (Builtin.SmallTypes.ownedTupleIsFree (.ref z)) Q E s:=by
 obtain⟨o,ho⟩:=hm
 unfold Builtin.SmallTypes.ownedTupleIsFree
 refine zB (wpAny_field hz rfl (x:=rawInt m) rfl ?_)
 show wpAny _ _ (loadIfAlive ((m:Int).toNat) >>= _) _ _ s
 refine zB (wpAny_alive ?_)
 rw[zAC,ho]
 show wpAny _ _ (field (.ref z) 1 >>= _) _ _ s
 refine zB (wpAny_field hz rfl (x:=.bool fl) rfl ?_)
 cases fl with
 |true=>exact zG (q s.heap hz ⟨rfl,fun b hb=>rfl⟩)
 |false=>exact zB (wpAny_setField_rec hz (by simp) fun g1 z1 e1=>zG (q g1 z1 e1))
theorem zipD_more{m:Addr}{fl:Bool}{Q:Value->Shared->Prop}(D:ZA z ti to i1 i2)(o1:Off z to i1 i2 l1)(o2:Off z to i1 i2 l2)
  (hz:ZipF s.heap z ti to (rawInt m) fl) (hm:∃ o,s.heap.get? m=some o) (hTI:IsPair s.heap ti (.ref i1) (.ref i2)) (h1:s.heap.IsListIter i1 l1 k) (h2:s.heap.IsKeyIter i2 l2 k ks.length ep) (hl1:s.heap.IsList l1 xs) (hl2:RawD l2 ks ep s.heap) (hx:xs[k]?=some x) (hy:ks[k]?=some y)
  (q:∀ g,ZipF g z ti to (rawInt m) true->g.IsListIter i1 l1 (k+1)->g.IsKeyIter i2 l2 (k+1) ks.length ep->IsPair g s.heap.objs.size x y->(∀ c o,c≠z->c≠i1->c≠i2->s.heap.get? c=some o->g.get? c=some o)->Q (.ref s.heap.objs.size) { s with heap:=g }) :
  wpAny (model prog w) A (Builtin.«zip.__next__» ⟨[.ref z],[]⟩) (fun fin s'=>∃ v,fin = .done (.ret v)/\Q v s') E s:=by
 have kt:∀ {g g':Heap}{j:Nat},g.IsKeyIter i2 l2 j ks.length ep->(∀ o,g.get? i2=some o->g'.get? i2=some o)->g'.IsKeyIter i2 l2 j ks.length ep:=fun {g g' j} h f=>h.at f
 show wpAny _ _ (field (.ref z) 2 >>= _) _ _ _;refine zB (wpAny_field hz rfl (x:=.bool false) rfl ?_)
 show wpAny _ _ (field (.ref z) 3 >>= _) _ _ _;refine zB (wpAny_field hz rfl (x:=.ref ti) rfl (zB (wpAny_seqItems hTI rfl ?_)))
 show wpAny _ _ (Builtin.SmallTypes.ownedTupleIsFree (.ref z) >>= _) _ _ _
 refine zB (zip_busy hz hm fun g1 z1 e1=>?_)
 simp only[zBW,if_false]
 refine zB ?_
 simp only[<- Array.forIn_toList,List.forIn_cons,List.forIn_nil]
 refine zB (zB (wpAny_holding ?_));show wpAny _ _ (Builtin.SmallTypes.nextOf (.ref i1) >>= _) _ _ _
 refine zB (wpAny_nextOf_list_item (h1.at fun o e=>e1.extBut _ _ D.a3 e) (hl1.at fun o e=>e1.extBut _ _ o1.1 e) hx fun g2 n2 e2=>zG ?_)
 refine zG (zB (zB (wpAny_holding ?_)));show wpAny _ _ (Builtin.SmallTypes.nextOf (.ref i2) >>= _) _ _ _
 refine zB (nextD_item (kt (kt h2 fun o e=>e1.extBut _ _ D.a4 e) fun o e=>e2.extBut _ _ (Ne.symm D.a10) e) ((hl2.to fun o e=>e1.extBut _ _ o2.1 e).to fun o e=>e2.extBut _ _ o2.2.2.1 e) hy fun g3 n3 e3=>zG ?_)
 refine zG (zG (zB (wpAny_newTuple (zG ⟨_,rfl,?_⟩) (by show 2<=sizeLine;decide))))
 have sz:g3.objs.size=s.heap.objs.size:=by rw[e3.1,e2.1,e1.1]
 show Q (.ref g3.objs.size) _
 rw[sz]
 have up:∀ c o,c≠z->c≠i1->c≠i2->s.heap.get? c=some o->g3.get? c=some o:=fun c o c1 c2 c3 e=>e3.extBut _ _ c3 (e2.extBut _ _ c2 (e1.extBut _ _ c1 e))
 have pp:=zV g3 (o:={ cls:=.type "tuple",data:=.seq #[x,y] }) rfl
 rw[sz]at pp
 exact q _ (zC _ (e3.extBut _ _ (Ne.symm D.a4) (e2.extBut _ _ (Ne.symm D.a3) z1))) ((n2.at fun o e=>e3.extBut _ _ D.a10 e).at fun o e=>zC _ e) (kt n3 fun o e=>zC _ e) pp fun c o c1 c2 c3 e=>zC _ (up c o c1 c2 c3 e)
theorem zipD_end{m:Addr}{fl:Bool}{Q:Fin->Shared->Prop}(hh:A.handled=none)(D:ZA z ti to i1 i2)(o1:Off z to i1 i2 l1)
  (hz:ZipF s.heap z ti to (rawInt m) fl) (hm:∃ o,s.heap.get? m=some o) (hTI:IsPair s.heap ti (.ref i1) (.ref i2)) (h1:s.heap.IsListIter i1 l1 k) (hl1:s.heap.IsList l1 xs) (hx:xs[k]?=none)
  (q:∀ g e,(∀ c o,c≠z->c≠i1->s.heap.get? c=some o->g.get? c=some o)->(∃ o,g.get? e=some o/\o.cls = .type "StopIteration")->E (.ref e) { s with heap:=g }) :
  wpAny (model prog w) A (Builtin.«zip.__next__» ⟨[.ref z],[]⟩) Q E s:=by
 show wpAny _ _ (field (.ref z) 2 >>= _) _ _ _;refine zB (wpAny_field hz rfl (x:=.bool false) rfl ?_)
 show wpAny _ _ (field (.ref z) 3 >>= _) _ _ _;refine zB (wpAny_field hz rfl (x:=.ref ti) rfl (zB (wpAny_seqItems hTI rfl ?_)))
 show wpAny _ _ (Builtin.SmallTypes.ownedTupleIsFree (.ref z) >>= _) _ _ _
 refine zB (zip_busy hz hm fun g1 z1 e1=>?_)
 simp only[zBW,if_false]
 refine zB ?_
 simp only[<- Array.forIn_toList,List.forIn_cons,List.forIn_nil]
 refine zB (zB (wpAny_holding ?_));show wpAny _ _ (Builtin.SmallTypes.nextOf (.ref i1) >>= _) _ _ _
 refine zB (wpAny_nextOf_list_end hh (h1.at fun o e=>e1.extBut _ _ D.a3 e) (hl1.at fun o e=>e1.extBut _ _ o1.1 e) hx fun g2 e e2 he=>?_)
 exact q g2 e (fun c o c1 c2 x=>e2 _ _ c2 (e1.extBut _ _ c1 x)) he
noncomputable abbrev zD2(g:Heap)(l1 l2:Addr)(n ep:Nat):Heap:=(g.push (itO false l1)).push { cls:=.type "dict_keyiterator",data:=.fields #[.ref l2,.int 0 0,.int n 0,.int ep 0] }
noncomputable abbrev zD3(g:Heap)(l1 l2:Addr)(n ep:Nat):Heap:=(zD2 g l1 l2 n ep).push { cls:=.type "tuple",data:=.seq #[.ref g.objs.size,.ref (g.push (itO false l1)).objs.size] }
noncomputable abbrev zD4(g:Heap)(l1 l2:Addr)(n ep:Nat):Heap:=(zD3 g l1 l2 n ep).push { cls:=.type "tuple",data:=.seq #[.none,.none] }
noncomputable abbrev zD5(g:Heap)(l1 l2:Addr)(n ep:Nat):Heap:=(zD4 g l1 l2 n ep).push { cls:=.type "zip",data:=.fields #[.none,.bool false,.bool false,.ref (zD2 g l1 l2 n ep).objs.size,.ref (zD3 g l1 l2 n ep).objs.size] }
theorem zipD_new(l1 l2:Addr)(nd:(l2 == sysModules)=false)(xs:Array Value)(ks:List Value)(ep:Nat):Meets (Builtin.«zip.__new__» ⟨[.type "zip",.ref l1,.ref l2],[]⟩) (fun _ R s=>s.heap.IsList l1 xs/\RawD l2 ks ep s.heap/\R (.ok (.ret (.ref (zD4 s.heap l1 l2 ks.length ep).objs.size))) { s with heap:=zD5 s.heap l1 l2 ks.length ep }) :=
 .of_wp fun prog w A R s h=>by
  obtain⟨hp,g,d,tk,os⟩:=s
  obtain⟨hl1,hl2,h⟩:=h
  have hsub:=sub_zip
  have hL1:SeqK false (Shared.heap ⟨hp,g,d,tk,os⟩) l1 xs:=hl1
  have hL2:RawD l2 ks ep (Shared.heap ⟨hp.push (itO false l1),g,d,tk,os⟩):=hl2.to fun o e=>zC _ e
  wp_walk using pyIterK hL1,rawIter nd hL2
  exact⟨_,rfl,h⟩
end
open PySem PySem.W PyProof.Rows
theorem zip_no_len:typeLookup (.type "zip") "__len__" = pure none:=by rw[typeLookup_type,builtinLookup_eq_fast];kernel_rfl
theorem zip_no_hint:typeLookup (.type "zip") "__length_hint__" = pure none:=by rw[typeLookup_type,builtinLookup_eq_fast];kernel_rfl
structure ZS(z ti to i1 i2 l d:Addr)(xs:Array Value)(ks:List Value)(ep k:Nat)(g:Heap):Prop where
 st:(k=0/\IsZip g z ti to .none/\∃ a b,IsPair g to a b)\/(0<k/\∃ (m:Addr) (fl:Bool) (x y:Value),ZipF g z ti to (rawInt m) fl/\IsPair g m x y)
 ti:IsPair g ti (.ref i1) (.ref i2)
 i1:g.IsListIter i1 l k
 i2:g.IsKeyIter i2 d k ks.length ep
 l:g.IsList l xs
 d:RawD d ks ep g
section
variable{z ti to i1 i2 l d S:Addr}{xs:Array Value}{ks:List Value}{ep k:Nat}{g g':Heap}
theorem ZS.keep(h:ZS z ti to i1 i2 l d xs ks ep k g)(ss:∃ a n,g.get? S=some (seqObj "list" a n))(nS:S≠z/\S≠i1/\S≠i2/\S≠l/\S≠d)(kp:∀ b o,b≠S->g.get? b=some o->g'.get? b=some o):ZS z ti to i1 i2 l d xs ks ep k g':=by
 obtain⟨n1,n2,n3,n4,n5⟩:=nS
 obtain⟨a,n,eS⟩:=ss
 have pr:∀ {m:Addr}{x y:Value},IsPair g m x y->IsPair g' m x y:=fun {m x y} e=>kp _ _ (fun w=>by
  have e':g.get? S=_:=w▸e
  rw[eS]at e'
  exact absurd (show Value.type "list" = Value.type "tuple" from congrArg Obj.cls (Option.some.inj e')) (by decide)) e
 refine⟨?_,pr h.ti,h.i1.at fun o e=>kp _ _ (Ne.symm n2) e,h.i2.at fun o e=>kp _ _ (Ne.symm n3) e,h.l.at fun o e=>kp _ _ (Ne.symm n4) e,h.d.to fun o e=>kp _ _ (Ne.symm n5) e⟩
 rcases h.st with⟨e,h1,a,b,h2⟩ |⟨e,m,fl,x,y,h1,h2⟩
 ·exact .inl ⟨e,kp _ _ (Ne.symm n1) h1,a,b,pr h2⟩
 ·exact .inr ⟨e,m,fl,x,y,kp _ _ (Ne.symm n1) h1,pr h2⟩
theorem ZS.all(h:ZS z ti to i1 i2 l d xs ks ep k g)(kp:∀ b o,g.get? b=some o->g'.get? b=some o):ZS z ti to i1 i2 l d xs ks ep k g':=by
 refine⟨?_,kp _ _ h.ti,h.i1.at fun o e=>kp _ _ e,h.i2.at fun o e=>kp _ _ e,h.l.at fun o e=>kp _ _ e,h.d.to fun o e=>kp _ _ e⟩
 rcases h.st with⟨e,h1,a,b,h2⟩ |⟨e,m,fl,x,y,h1,h2⟩
 ·exact .inl ⟨e,kp _ _ h1,a,b,kp _ _ h2⟩
 ·exact .inr ⟨e,m,fl,x,y,kp _ _ h1,kp _ _ h2⟩
theorem ZS.ty{s:Shared}(h:ZS z ti to i1 i2 l d xs ks ep k s.heap):s.TypeIs (.ref z) "zip":=by
 rcases h.st with⟨_,h1,_⟩ |⟨_,_,_,_,_,h1,_⟩
 ·exact⟨_,h1,rfl⟩
 ·exact⟨_,h1,rfl⟩
end
section
variable{prog:Program}{w:World}{A:Around}{E:Value->Shared->Prop}{z ti to i1 i2 l d:Addr}{xs:Array Value}{ks:List Value}{ep:Nat}
theorem zs_item{s:Shared}{k:Nat}{x y:Value}{Q:Option Value->Shared->Prop}(D:ZA z ti to i1 i2)(o1:Off z to i1 i2 l)(o2:Off z to i1 i2 d)(hs:ZS z ti to i1 i2 l d xs ks ep k s.heap)(hx:xs[k]?=some x)(hy:ks[k]?=some y)
  (q:∀ g,ZS z ti to i1 i2 l d xs ks ep (k+1) g->IsPair g s.heap.objs.size x y->(∀ c o,c≠z->c≠to->c≠i1->c≠i2->s.heap.get? c=some o->g.get? c=some o)->Q (some (.ref s.heap.objs.size)) { s with heap:=g }) :
  wpAny (model prog w) A (pyNext (.ref z)) Q E s:=by
 have hT:=hs.ty
 unfold pyNext
 refine zB (wpAny_attempt (wpAny_callSpecial?_slot (name:=Str.ofString "__next__") hT F.slot_zip_next (wpAny_call_entry F.slot_zip_next hT F.entry_zip_next ?_ (F.args_zip_next_1 _))))
 rcases hs.st with⟨e,h1,a,b,h2⟩ |⟨e,m,fl,a,b,h1,h2⟩
 ·refine zipD_first (a:=a) (b:=b) D o1 o2 h1 hs.ti h2 hs.i1 hs.i2 hs.l hs.d hx hy fun g z1 t1 n1 n2 pp kp=>zG (q g ⟨.inr ⟨by exact Nat.succ_pos k,_,false,x,y,z1,pp⟩,?_,n1,n2,?_,?_⟩ pp kp)
  ·exact kp _ _ D.a1 D.a5 D.a6 D.a7 hs.ti
  ·exact hs.l.at fun o e=>kp _ _ o1.1 o1.2.1 o1.2.2.1 o1.2.2.2 e
  ·exact hs.d.to fun o e=>kp _ _ o2.1 o2.2.1 o2.2.2.1 o2.2.2.2 e
 ·have mz:m≠z:=fun w=>by
   have e1:s.heap.get? z=_:=h1
   have e2:s.heap.get? z=_:=w▸h2
   rw[e1]at e2
   exact absurd (show Value.type "zip" = Value.type "tuple" from congrArg Obj.cls (Option.some.inj e2)) (by decide)
  have mi1:m≠i1:=fun w=>by
   obtain⟨o,e1,c1,_⟩:=hs.i1
   have e2:s.heap.get? i1=_:=w▸h2
   rw[e1]at e2
   exact absurd (show Value.type "list_iterator" = Value.type "tuple" from c1.symm.trans (congrArg Obj.cls (Option.some.inj e2))) (by decide)
  have mi2:m≠i2:=fun w=>by
   obtain⟨o,e1,c1,_⟩:=hs.i2
   have e2:s.heap.get? i2=_:=w▸h2
   rw[e1]at e2
   exact absurd (show Value.type "dict_keyiterator" = Value.type "tuple" from c1.symm.trans (congrArg Obj.cls (Option.some.inj e2))) (by decide)
  refine zipD_more D o1 o2 h1 ⟨_,h2⟩ hs.ti hs.i1 hs.i2 hs.l hs.d hx hy fun g z1 n1 n2 pp kp=>zG (q g ⟨.inr ⟨by exact Nat.succ_pos k,m,true,a,b,z1,kp _ _ mz mi1 mi2 h2⟩,?_,n1,n2,?_,?_⟩ pp fun c o c1 c2 c3 c4 e=>kp c o c1 c3 c4 e)
  ·exact kp _ _ D.a1 D.a6 D.a7 hs.ti
  ·exact hs.l.at fun o e=>kp _ _ o1.1 o1.2.2.1 o1.2.2.2 e
  ·exact hs.d.to fun o e=>kp _ _ o2.1 o2.2.2.1 o2.2.2.2 e
theorem zs_done{s:Shared}{k:Nat}{Q:Option Value->Shared->Prop}(hh:A.handled=none)(D:ZA z ti to i1 i2)(o1:Off z to i1 i2 l)(hs:ZS z ti to i1 i2 l d xs ks ep k s.heap)(k0:0<k)(hx:xs[k]?=none)
  (q:∀ g,(∀ c o,c≠z->c≠i1->s.heap.get? c=some o->g.get? c=some o)->Q none { s with heap:=g }):wpAny (model prog w) A (pyNext (.ref z)) Q E s:=by
 have hT:=hs.ty
 unfold pyNext
 rcases hs.st with⟨e,_⟩ |⟨e,m,fl,a,b,h1,h2⟩
 ·lia
 ·refine zB (wpAny_attempt (wpAny_callSpecial?_slot (name:=Str.ofString "__next__") hT F.slot_zip_next (wpAny_call_entry F.slot_zip_next hT F.entry_zip_next (zipD_end hh D o1 h1 ⟨_,h2⟩ hs.ti hs.i1 hs.l hx fun g e kp he=>?_) (F.args_zip_next_1 _))))
  obtain⟨o,ho,hcl⟩:=he
  exact zB (wpAny_isInstance (T:="StopIteration") (b:=true) ⟨o,ho,hcl⟩ isSubtype_stop (zG (q g kp)))
structure ZT(B:Nat)(xs:Array Value)(ks:List Value)(Ts:List Addr)(g:Heap):Prop where
 pr:∀ (i:Nat) (T:Addr) (x y:Value),Ts[i]?=some T->xs[i]?=some x->ks[i]?=some y->IsPair g T x y
 ge:∀ T∈Ts,B<=T/\T<g.objs.size
 nd:Ts.Nodup
theorem zip_loop{R:Result->Shared->Prop}{n B:Nat}(hh:A.handled=none)(D:ZA z ti to i1 i2)(o1:Off z to i1 i2 l)(o2:Off z to i1 i2 d)(S:Addr)(nS:S≠z/\S≠i1/\S≠i2/\S≠l/\S≠d)(So:S≠to)(hx:xs.size=n)(hy:ks.length=n)(n0:0<n)(hn:n<=sizeLine)
  (lt:z<B/\to<B/\i1<B/\i2<B/\S<B) (res:Value) :
  ∀ (j k:Nat) (s:Shared) (Ts:List Addr) (c:Nat),n-k=j->k<=n->ZS z ti to i1 i2 l d xs ks ep k s.heap->s.heap.get? S=some (seqObj "list" (Ts.map Value.ref).toArray c)->Ts.length=k->ZT B xs ks Ts s.heap->B<=s.heap.objs.size ->
  (∀ (h':Heap) (Ts':List Addr) (c':Nat),(∀ b o,b≠S->b≠z->b≠to->b≠i1->b≠i2->s.heap.get? b=some o->h'.get? b=some o)->h'.get? S=some (seqObj "list" (Ts'.map Value.ref).toArray c')->Ts'.length=n->ZT B xs ks Ts' h'->R (.ok (.ret res)) { s with heap:=h' }) ->
  codeAny (model prog w) A (.builtin "list.extend.loop" ⟨[.ref S,.ref z,res],[]⟩) R s:=by
 obtain⟨lz,lo,l1,l2,lS⟩:=lt
 intro j
 induction j with
 |zero =>
  intro k s Ts c hj hk hs hS hT zt hB hR
  have e:k=n:=by lia
  subst e
  refine codeAny_builtin F.entry_extend_loop ?_
  rw[Around.under_plainId F.plain_extend_loop _]
  show wpAny _ A.in1 (pyNext (.ref z) >>= _) _ _ s
  refine zB (zs_done (A:=A.in1) hh D o1 hs n0 (by rw[Array.getElem?_eq_none (by exact zBX hx)]) fun g kp=>?_)
  refine zG (hR g Ts c (fun b o b1 b2 b3 b4 b5 e=>kp b o b2 b4 e) (kp _ _ nS.1 nS.2.1 hS) hT ⟨fun i T x y h1 h2 h3=>?_,fun T hT'=>⟨(zt.ge T hT').1,?_⟩,zt.nd⟩)
  ·have ge:=(zt.ge T (List.mem_of_getElem? h1)).1
   exact kp _ _ (fun w=>by rw[w]at ge;exact absurd lz (Nat.not_lt.mpr ge)) (fun w=>by rw[w]at ge;exact absurd l1 (Nat.not_lt.mpr ge)) (zt.pr i T x y h1 h2 h3)
  ·obtain⟨i,hi,e⟩:=zBE hT'
   have ge:=(zt.ge T hT').1
   have h1:Ts[i]?=some T:=by rw[zE hi,e]
   have:=kp _ _ (fun w=>by rw[w]at ge;exact absurd lz (Nat.not_lt.mpr ge)) (fun w=>by rw[w]at ge;exact absurd l1 (Nat.not_lt.mpr ge)) (zt.pr i T xs[i] ks[i] h1 (zAK (by exact zh7 (zh7 hi hT) (Eq.symm hx))) (zE (by exact zh7 (zh7 hi hT) (Eq.symm hy))))
   exact zQ this
 |succ j ih =>
  intro k s Ts c hj hk hs hS hT zt hB hR
  have hlt:k<n:=by lia
  refine codeAny_builtin F.entry_extend_loop ?_
  rw[Around.under_plainId F.plain_extend_loop _]
  show wpAny _ A.in1 (pyNext (.ref z) >>= _) _ _ s
  have hx':xs[k]?=some xs[k]:=zAK (by exact zh8 hlt hx)
  have hy':ks[k]?=some ks[k]:=zE (by exact zh8 hlt hy)
  refine zB (zs_item (A:=A.in1) D o1 o2 hs hx' hy' fun g hs' pp kp=>?_)
  have hS':=kp _ _ nS.1 So nS.2.1 nS.2.2.1 hS
  show wpAny _ A.in1 (updateSeq S (·.push (.ref s.heap.objs.size)) >>= _) _ _ _
  refine zB ?_
  obtain⟨c3,g3⟩:∃ c3,(g.update S (Obj.mapSeq (·.push (.ref s.heap.objs.size)))).get? S=some (seqObj "list" ((Ts.map Value.ref).toArray.push (.ref s.heap.objs.size)) c3):=⟨_,get?_update_seq hS' _⟩
  have oth:∀ b o,b≠S->g.get? b=some o->(g.update S (Obj.mapSeq (·.push (.ref s.heap.objs.size)))).get? b=some o:=fun b o nb e=>by rw[Heap.get?_update_ne _ _ _ _ nb];exact e
  have eT:(Ts.map Value.ref).toArray.push (.ref s.heap.objs.size)=((Ts++[s.heap.objs.size]).map Value.ref).toArray:=by simp
  rw[eT]at g3
  have TS:s.heap.objs.size≠S:=zBL (zZ lS hB)
  have hs2:=hs'.keep ⟨_,_,hS'⟩ nS oth
  have pT:∀ {T:Addr}{x y:Value},B<=T->IsPair s.heap T x y->IsPair (g.update S (Obj.mapSeq (·.push (.ref s.heap.objs.size)))) T x y:=fun {T x y} ge e =>
   oth _ _ (fun w=>absurd lS (Nat.not_lt.mpr (w▸ge))) (kp _ _ (fun w=>absurd lz (Nat.not_lt.mpr (w▸ge))) (fun w=>absurd lo (Nat.not_lt.mpr (w▸ge))) (fun w=>absurd l1 (Nat.not_lt.mpr (w▸ge))) (fun w=>absurd l2 (Nat.not_lt.mpr (w▸ge))) e)
  have ppT:=oth _ _ TS pp
  have sT:s.heap.objs.size <(g.update S (Obj.mapSeq (·.push (.ref s.heap.objs.size)))).objs.size:=zQ ppT
  have zt2:ZT B xs ks (Ts++[s.heap.objs.size]) (g.update S (Obj.mapSeq (·.push (.ref s.heap.objs.size)))):=by
   refine⟨fun i T x y h1 h2 h3=>?_,fun T hT'=>?_,?_⟩
   ·by_cases hi:i<Ts.length
    ·rw[List.getElem?_append_left hi]at h1
     exact pT (zt.ge T (List.mem_of_getElem? h1)).1 (zt.pr i T x y h1 h2 h3)
    ·have hi':i=k:=by
      have:=(zI.mp h1).1
      rw[zO,List.length_singleton]at this
      lia
     subst hi'
     rw[List.getElem?_append_right (by exact zBX hT),hT,Nat.sub_self]at h1
     cases h1
     rw[hx']at h2
     rw[hy']at h3
     cases h2
     cases h3
     exact ppT
   ·rcases zX.mp hT' with h | h
    ·exact⟨(zt.ge T h).1,Nat.lt_trans (zt.ge T h).2 sT⟩
    ·rw[zH.mp h]
     exact⟨hB,sT⟩
   ·rw[zCH]
    refine⟨zt.nd,by simp,fun a ha b hb=>?_⟩
    rw[zH.mp hb]
    exact zAG (zt.ge a ha).2
  refine wpAny_updateSeq hS' rfl (zG ⟨plainId_quiet F.plain_extend_loop _,ih (k+1) _ (Ts++[s.heap.objs.size]) c3 (by lia) hlt hs2 g3 (by rw[zO,hT];rfl) zt2 (zAE hB (zBB sT)) fun h' Ts' c' kp' hS'' hl' zt'=>?_⟩)
   (by show(Ts.map Value.ref).toArray.size<=_;rw[zY,zA];lia) (by show((Ts.map Value.ref).toArray.push _).size<=sizeLine+1;rw[Array.size_push,zY,zA];lia)
  exact hR h' Ts' c' (fun b o b1 b2 b3 b4 b5 e=>kp' b o b1 b2 b3 b4 b5 (oth b o b1 (kp b o b2 b3 b4 b5 e))) hS'' hl' zt'
theorem zip_collect{n:Nat}{s:Shared}{Q:List Value->Shared->Prop}(hh:A.handled=none)(D:ZA z ti to i1 i2)(o1:Off z to i1 i2 l)(o2:Off z to i1 i2 d)(hs:ZS z ti to i1 i2 l d xs ks ep 0 s.heap)(hx:xs.size=n)(hy:ks.length=n)(n0:0<n)(hn:n<=sizeLine)
  (hQ:∀ (h':Heap) (Ts:List Addr),(∀ b o,b≠z->b≠to->b≠i1->b≠i2->s.heap.get? b=some o->h'.get? b=some o)->Ts.length=n->ZT (s.heap.objs.size+1) xs ks Ts h'->Q (Ts.map Value.ref) { s with heap:=h' }):wpAny (model prog w) A (collect (.ref z)) Q E s:=by
 have hz:IsZip s.heap z ti to .none:=by
  rcases hs.st with⟨_,h,_⟩ |⟨h,_⟩
  ·exact h
  ·lia
 have lto:to<s.heap.objs.size:=by
  rcases hs.st with⟨_,_,a,b,h⟩ |⟨h,_⟩
  ·exact zQ h
  ·lia
 have li1:i1<s.heap.objs.size:=by obtain⟨o,e,_⟩:=hs.i1;exact zQ e
 have li2:i2<s.heap.objs.size:=by obtain⟨o,e,_⟩:=hs.i2;exact zQ e
 have ll:l<s.heap.objs.size:=by obtain⟨o,e,_⟩:=hs.l;exact zQ e
 have ld:d<s.heap.objs.size:=hs.d.lt
 have lz:=zQ hz
 have nS:s.heap.objs.size≠z/\s.heap.objs.size≠i1/\s.heap.objs.size≠i2/\s.heap.objs.size≠l/\s.heap.objs.size≠d:=⟨zBL lz,zBL li1,zBL li2,zBL ll,zBL ld⟩
 unfold collect
 refine zB (wpAny_runValue (codeAny_builtin F.entry_proto_collect ?_))
 rw[Around.under_plainId F.plain_proto_collect _]
 show wpAny _ A.in1 (newList [] >>= fun l=>again (.builtin "list.__iadd__" ⟨[l,.ref z],[]⟩)) _ _ s
 refine zB (wpAny_newObj_type ?_)
 refine zG ⟨plainId_quiet F.plain_list_iadd _,codeAny_builtin F.entry_list_iadd ?_⟩
 rw[Around.under_plainId F.plain_list_iadd _]
 have p1:∀ b o,s.heap.get? b=some o->(s.heap.push (seqObj "list" #[] 0)).get? b=some o:=fun b o e=>zC _ e
 have hS₁:(s.heap.push (seqObj "list" #[] 0)).get? s.heap.objs.size=some (seqObj "list" #[] 0):=zV _ rfl
 show wpAny _ A.in1 (Builtin.List.listExtendWith (.ref s.heap.objs.size) (.ref z) (.ref s.heap.objs.size)) _ _ { s with heap:=s.heap.push (seqObj "list" #[] 0) }
 have hz1:IsZip (s.heap.push (seqObj "list" #[] 0)) z ti to .none:=p1 _ _ hz
 have hT:Shared.TypeIs { s with heap:=s.heap.push (seqObj "list" #[] 0) } (.ref z) "zip":=⟨_,hz1,rfl⟩
 unfold Builtin.List.listExtendWith
 refine zB (wpAny_typeOf hT ?_)
 have h1:Builtin.List.listSameRef (.ref s.heap.objs.size) (.ref z)=false:=by simp[Builtin.List.listSameRef,nS.1]
 have h2:(Value.type "zip" == Value.type "list")=false:=by decide
 have h3:(Value.type "zip" == Value.type "tuple")=false:=by decide
 simp only[h1,h2,h3,Bool.or_false,zBW,if_false]
 refine zB (wpAny_pyIter_zip (s:={ s with heap:=s.heap.push (seqObj "list" #[] 0) }) hz1 ?_)
 refine zB (wpAny_holding ?_)
 unfold Builtin.List.listLengthHint
 refine zB (wpAny_specialOf hT zip_no_len ?_)
 show wpAny _ A.in1 (specialOf (Value.ref z) (Str.ofString "__length_hint__") >>= _) _ _ _
 refine zB (wpAny_specialOf hT zip_no_hint ?_)
 refine zG ?_
 show wpAny _ A.in1 (rule "list.extend.makes-room" >>= fun _=>Builtin.List.listTouch (.ref s.heap.objs.size) >>= fun _ =>
  again (.builtin "list.extend.loop" ⟨[.ref s.heap.objs.size,.ref z,.ref s.heap.objs.size],[]⟩)) _ _ _
 refine zB (wpAny_rule ?_)
 refine zB ?_
 show wpAny _ A.in1 (updateSeq s.heap.objs.size (·.push .none) >>= fun _=>updateSeq s.heap.objs.size (·.pop)) _ _ _
 refine zB (wpAny_updateSeq hS₁ rfl ?_)
 have hS₂:=Heap.get?_update_self (Obj.mapSeq (·.push Value.none)) hS₁ rfl
 refine wpAny_updateSeq hS₂ rfl ?_
 have hS₃:=Heap.get?_update_self (Obj.mapSeq (·.pop)) hS₂ rfl
 have oth:∀ b o,b≠s.heap.objs.size->(s.heap.push (seqObj "list" #[] 0)).get? b=some o ->
   (((s.heap.push (seqObj "list" #[] 0)).update s.heap.objs.size (Obj.mapSeq (·.push Value.none))).update s.heap.objs.size (Obj.mapSeq (·.pop))).get? b=some o :=
  fun b o hb e=>(Heap.get?_update_other _ _ (Ne.symm hb)).trans ((Heap.get?_update_other _ _ (Ne.symm hb)).trans e)
 have sz:(((s.heap.push (seqObj "list" #[] 0)).update s.heap.objs.size (Obj.mapSeq (·.push Value.none))).update s.heap.objs.size (Obj.mapSeq (·.pop))).objs.size=s.heap.objs.size+1:=by
  have e:=(Heap.SameBut.update ((s.heap.push (seqObj "list" #[] 0)).update s.heap.objs.size (Obj.mapSeq (·.push Value.none))) s.heap.objs.size (Obj.mapSeq (·.pop))).1
  have e2:=(Heap.SameBut.update (s.heap.push (seqObj "list" #[] 0)) s.heap.objs.size (Obj.mapSeq (·.push Value.none))).1
  rw[e,e2,Heap.size_push]
 generalize hG:((s.heap.push (seqObj "list" #[] 0)).update s.heap.objs.size (Obj.mapSeq (·.push Value.none))).update s.heap.objs.size (Obj.mapSeq (·.pop))=G at oth sz hS₃ ⊢
 have hs1:ZS z ti to i1 i2 l d xs ks ep 0 G:=hs.all fun b o e=>oth b o (zAG (zQ e)) (p1 b o e)
 refine zG ⟨plainId_quiet F.plain_extend_loop _,zip_loop (B:=s.heap.objs.size+1) hh D o1 o2 _ nS (zBL lto) hx hy n0 hn ⟨zCG lz,zCG lto,zCG li1,zCG li2,Nat.lt_succ_self _⟩ _ n 0 _ [] _ rfl (zAT _) hs1 hS₃ rfl ⟨fun i T x y h=>(nomatch h),fun T h=>(nomatch h),.nil⟩ (zBX sz.symm) fun h' Ts' c' kp hS' hl zt=>?_⟩
 show wpAny _ A (load s.heap.objs.size >>= _) _ _ _
 refine zB (wpAny_load hS' ?_)
 refine zG ?_
 have:=hQ h' Ts' (fun b o b2 b3 b4 b5 e=>kp b o (zAG (zQ e)) b2 b3 b4 b5 (oth b o (zAG (zQ e)) (p1 b o e))) hl zt
 simpa using this
end
end Srt
namespace L2
open PySem PySem.W PyProof.Rows Srt
section
variable{X:Cx}{pins:List (Addr×Obj)}{σ:St}{H:Hp}{s:Shared}
theorem dT_keys{d:Addr}{kvs:List (List Key×V)}{ks:List (List Int)}(I:Inv X pins σ H s)(hd:H d=some (.dT kvs))(hks:kvs.map (·.1)=List.map (List.map Sum.inl) ks) :
  ∃ (as:List Addr) (ep:Nat),(d == sysModules)=false/\TupsAt H as ks/\RawD d (as.map Value.ref) ep s.heap:=by
 obtain⟨z,nsys,xs,pr,o,es,ep,go,ex,dt,ee,nd⟩:=I.hok d _ hd
 refine⟨xs.map fun q=>q.2.1,ep,nsys,?_,o,es,go,ex,dt,by rw[ee,zAW,zAW];rfl⟩
 clear go ex dt ee nd z hd
 induction pr generalizing ks with
 |nil =>
  cases ks with
  |nil=>exact .nil
  |cons _ _=>simp at hks
 | @cons p x l1 l2 r1 r2 ih =>
  cases ks with
  |nil=>simp at hks
  |cons k ks =>
   simp only[zN,List.cons.injEq]at hks
   refine .cons ?_ (ih hks.2)
   show H x.2.1=some (.tup (k.map V.int))
   rw[r1.2.1,hks.1,zAW]
   rfl
theorem refs_vals:∀ as:List Addr,Vals (as.map V.ref) (as.map Value.ref)
 |[]=>.nil
 | _ :: as=>.cons rfl (refs_vals as)
theorem call_listD(hc:X.calm=true):CallR X (.type "list") (fun xs H Q=>∃ d kvs ks,xs=[V.ref d]/\H d=some (.dT kvs)/\kvs.map (·.1)=List.map (List.map Sum.inl) ks/\∀ (l:Addr) (as:List Addr),H l=none->TupsAt H as ks->Q (.ref l) (upd H l (.lst (as.map V.ref)))):=by
 intro pins s σ H xs us Q I r h
 obtain⟨d,kvs,ks,rfl,hd,hks,q⟩:=h
 obtain⟨u,rfl,rx⟩:=vals1 r
 cases rx
 have zl:=(I.hok d _ hd).1
 obtain⟨as,ep,nsys,ta,raw⟩:=dT_keys I hd hks
 have al:as.length=ks.length:=ta.length
 have kl:kvs.length=ks.length:=by
  have:=congrArg List.length hks
  rwa [zA,zA]at this
 refine kdl_call (rawSrc nsys) (I.ok.hd hc) raw (by rw[zA];lia) fun h' tk acc c hk hS hacc=>?_
 have eacc:acc.toList=as.map Value.ref:=by
  apply List.ext_getElem?
  intro i
  by_cases hi:i<acc.size
  ·have e1:acc.toList[i]?=some acc[i]:=by rw[zBC,zAK hi]
   have e2:=hacc.2 i acc[i] (zAK hi)
   rw[e1]
   exact e2.symm
  ·have l0:=hacc.1
   rw[zCJ (by rw[zBK];lia),zCJ (by lia)]
 refine⟨.ref _,_,I.laid (t':=tk) hk (zJ _) (show ObjOk X.prog X.w _ h' _ (.lst (as.map V.ref))from⟨by rw[zA];lia,as.map Value.ref,c,refs_vals as,by rw[<- eacc,Array.toArray_toList];exact hS⟩),rfl,q _ as (I.hok.fresh (zJ _)) ta⟩
theorem sorted_col{u:Value}{C:Hp->List (List Int)->Prop}{Q:VK}(hu:X.A.units+64<cLine)
  (col:∀ (R:List Value->Shared->Prop),(∀ (s1:Shared) (H1:Hp) (as:List Addr) (keys:List (List Int)),Inv X pins σ H1 s1->Paired (KeyAt H1) as keys->as.length<5000->C H1 keys->R (as.map Value.ref) s1)->wpAny (model X.prog X.w) X.A.in1 (collect u) R X.xe s)
  (q:∀ (H1:Hp) (keys:List (List Int)),C H1 keys->∀ (l':Addr) (bs:List Addr) (ns:List (List Int)),H1 l'=none->ns.Perm keys->ns.Pairwise (fun x y=>lexlt y x=false)->Paired (KeyAt H1) bs ns->Q (.ref l') (upd H1 l' (.lst (bs.map V.ref)))) :
  wpAny (model X.prog X.w) X.A (call (.builtin "sorted") [u]) (EP X pins σ Q) X.xe s:=by
 refine Calls.call_function_entry kind_sorted plain_sorted entry_sorted (args_sorted1 _) ?_
 unfold Builtin.«sorted»
 refine zB (m:=checkCount "sorted" 1 1 _) (zG (zB (col _ fun s1 H as keys I1 pk hlen hC=>?_)))
 replace q:=q H keys hC
 refine zB (wpAny_newList ?_ (by rw[zA,sizeLine_eq];lia))
 have gL:(s1.heap.push (seqObj "list" (as.map Value.ref).toArray 0)).get? s1.heap.objs.size=some (seqObj "list" (as.map Value.ref).toArray 0):=zV _ rfl
 have kp2:∀ b u,s1.heap.get? b=some u->(s1.heap.push (seqObj "list" (as.map Value.ref).toArray 0)).get? b=some u:=fun b u e=>zC _ e
 generalize hg0:s1.heap.push (seqObj "list" (as.map Value.ref).toArray 0)=g0 at gL kp2
 have PT:Paired (TupN g0) (as.map Value.ref) keys:=by
  have:=tupsN_at I1 pk
  exact Paired.mapP this fun v k z=>z.to fun b u e _=>kp2 b u e
 have keep:∀ g:Heap,(∀ b u,b≠s1.heap.objs.size->g0.get? b=some u->g.get? b=some u)->∀ v ks,TupN g0 v ks->TupN g v ks:=fun g k v ks z=>z.to fun b u e c=>k b u (fun zz=>by
  rw[zz,gL]at e
  cases e
  exact absurd (show Value.type "list" = Value.type "tuple" from c) (by decide)) e
 refine zB (wpAny_holding (wpAny_call_entry slot_list_sort ⟨_,gL,rfl⟩ entry_list_sort (sort_gen (κ:=κN g0) (kd:=tuples' true) (s:={ s1 with heap:=g0 }) gL (fun p hp=>?_) (by rw[zA];exact hlen) (fun l2 g k=>⟨ltN_ok (by show X.A.units+1+1<cLine;lia) (keep g k),fun R hR=>?_⟩) fun ws g c pw sw kp3 gg=>⟨_,rfl,?_⟩) (args_list_sort _)))
 ·rw[pairsOf_toList]at hp
  obtain⟨e1,e2⟩:=Srt.mem_zip_self hp
  rw[e1]
  clear pk hp e1 gL
  have:∀ {us:List Value}{ks:List (List Int)},Paired (TupN g0) us ks->p.2∈us->∃ a,(κN g0).keyOf p.2=some a:=by
   intro us ks h
   induction h with
   |nil=>intro m;cases m
   |cons r _ ih =>
    intro m
    rcases zW.mp m with e | e
    ·rw[e];exact⟨_,κN_key r⟩
    ·exact ih e
  exact this PT e2
 ·exact kindN (s:={ s1 with heap:=g }) (Paired.mapP PT fun v ks z=>keep g k v ks z) l2 hR
 ·have unr:∀ l:List Value,(∀ v∈l,∃ a,v=Value.ref a)->(l.map unref).map Value.ref=l:=fun l hl=>by
   induction l with
   |nil=>rfl
   |cons v l ih =>
    obtain⟨a,rfl⟩:=hl v (zF ..)
    rw[zN,zN,ih fun v hv=>hl v (zD _ hv)]
    rfl
  have eb:(ws.map unref).map Value.ref=ws:=unr ws fun v hv=>by
   obtain⟨a,_,rfl⟩:=zAH.mp (pw.mem_iff.mp hv)
   exact⟨a,rfl⟩
  have pb:(ws.map unref).Perm as:=by
   have:=pw.map unref
   rw[zAW,show(unref ∘ Value.ref)=id from rfl,List.map_id]at this
   exact this
  generalize ws.map unref=bs at eb pb
  subst eb
  have ek:keys=as.map fun a=>keyV g0 (.ref a):=keys_eq PT
  have pk2:=keyN_back (bs:=bs) I1 (fun b u e=>kp2 b u e) pk fun b hb=>pb.mem_iff.mp hb
  refine zG ⟨_,rfl,.ref s1.heap.objs.size,_,I1.laid (t':=s1.toks) (a:=s1.heap.objs.size) (o:=.lst (bs.map V.ref)) (fun b u e=>kp3 b u (zAG (zQ e)) (kp2 b u e)) (zJ _) (show ObjOk X.prog X.w _ g _ (.lst (bs.map V.ref))from⟨?_,bs.map Value.ref,c,refs_vals bs,gg⟩),rfl,q _ bs _ (I1.hok.fresh (zJ _)) (by rw[ek];exact pb.map _) ?_ pk2⟩
  ·rw[zA,pb.length_eq,sizeLine_eq];lia
  ·rw[zBR]
   intro i j hi hj ij
   rw[zA]at hi hj
   have z:=sw i j (zBB ij) (by rw[zA];exact hj)
   have kk:∀ m (hm:m<bs.length),KK (κN g0) (pairsOf (bs.map Value.ref)) m=keyV g0 (.ref bs[m]):=fun m hm=>by
    have e:(pairsOf (bs.map Value.ref))[m]?=some (Value.ref bs[m],Value.ref bs[m]):=by simp[pairsOf,hm]
    unfold KK
    rw[e]
    rfl
   rw[kk i hi,kk j hj]at z
   rw[zU,zU]
   exact z
noncomputable def putT(H:Hp):List (Addr×List V)->Hp
 |[]=>H
 |z :: l=>putT (upd H z.1 (.tup z.2)) l
theorem putT_same:∀ {l:List (Addr×List V)}{H:Hp},(∀ z∈l,H z.1=none)->(l.map (·.1)).Nodup->Same H (putT H l)/\∀ z∈l,putT H l z.1=some (.tup z.2)
 |[],H,_,_=>⟨Same.refl _,fun _ h=>nomatch h⟩
 |z :: l,H,hn,nd=>by
  rw[zN,zCP]at nd
  obtain⟨s1,s2⟩:=putT_same (l:=l) (H:=upd H z.1 (.tup z.2)) (fun y hy=>by rw[upd_ne (fun e=>nd.1 (by rw[<- e];exact zBO hy))];exact hn y (zD _ hy)) nd.2
  refine⟨(Same.new (hn z (zF ..))).trans s1,fun y hy=>?_⟩
  rcases zW.mp hy with e | hy
  ·rw[e];exact s1 _ _ yaa
  ·exact s2 y hy
theorem Inv.trackL:∀ {l:List (Addr×List V)}{H:Hp},Inv X pins σ H s->(∀ z∈l,FpOk X pins H z.1)->(l.map (·.1)).Nodup->(∀ z∈l,z.2.length<=sizeLine/\∃ its:List Value,Vals z.2 its/\IsTup s.heap z.1 its.toArray)->Inv X pins σ (putT H l) s
 |[],H,I,_,_,_=>I
 |z :: l,H,I,hf,nd,ok=>by
  rw[zN,zCP]at nd
  refine Inv.trackL (l:=l) (I.track (D:=z.1) (ob:=.tup z.2) (hf z (zF ..)) (ok z (zF ..))) (fun y hy=>?_) nd.2 fun y hy=>ok y (zD _ hy)
  obtain⟨f0,f1⟩:=hf y (zD _ hy)
  exact⟨by rw[upd_ne (fun e=>nd.1 (by rw[<- e];exact zBO hy))];exact f0,f1⟩
end
noncomputable def tSortZip(ta:TA):TE:=fun σ H Q=>ta σ H fun vs H1=>∃ (l d:Addr) (ns:List Int) (kvs:List (List Key×V)) (ks:List (List Int)),vs=[.ref l,.ref d]/\H1 l=some (.lst (ns.map V.int))/\H1 d=some (.dT kvs)/\kvs.map (·.1)=List.map (List.map Sum.inl) ks/\ns.length=ks.length/\0<ns.length/\ns.length<5000 /\
 ∀ (l':Addr) (H2:Hp) (bs:List Addr) (zs:List (List Int)),Same H1 H2->H2 l'=some (.lst (bs.map V.ref))->zs.Perm ((ns.zip ks).map fun z=>z.1 :: z.2)->zs.Pairwise (fun x y=>lexlt y x=false)->Paired (KeyAt H2) bs zs->Q (.ref l') H2
section
variable{X:Cx}{a b:Expr}{ta:TA}{p1 pos1 p2 pos2:Pos}
theorem pe_sortZip(hc:X.calm=true)(hu:X.A.units+64<cLine)(hgs:Gl X "sorted")(hms:X.mg "sorted" = none)(hgz:Gl X "zip")(hmz:X.mg "zip" = none)(ha:PA X [a,b] ta)
  (hs:starEach [.Call (.Name "zip" p2) [a,b] [] pos2] X.env=[(false,eval (.Call (.Name "zip" p2) [a,b] [] pos2) X.env)]:=by rfl) (hs1:starEach [a,b] X.env=[(false,eval a X.env),(false,eval b X.env)]:=by rfl) (hs2:starEach [b] X.env=[(false,eval b X.env)]:=by rfl) :
  PE X (.Call (.Name "sorted" p1) [.Call (.Name "zip" p2) [a,b] [] pos2] [] pos1) (tSortZip ta):=by
 intro pins s σ H Q I h
 refine wpAny_Call_Name_kw (ld_blt I hgs hms boot_sorted ?_ (by decide) (by decide))
 refine PyProof.Rows.callWith_builtin1 ?_ (by rw[hs];rfl) (by rfl)
 rw[hs]
 refine Calls.spliced_cons ?_
 refine wpAny_Call_Name_kw (ld_blt I hgz hmz boot_zip (PyProof.Rows.callWith_type1 (thn (ha pos2 pins s σ H _ I h) fun us s1 ⟨vs,H1,I1,r1,q1⟩=>?_) (by rw[hs1,hs2]) (by rw[hs2];rfl)) (by decide) (by decide))
 obtain⟨l,d,ns,kvs,ks,e,hl,hd,hks,hlen,n0,n5,q⟩:=q1
 subst e
 obtain⟨u,u',rfl,rx,ry⟩:=vals2 r1
 cases rx
 cases ry
 obtain⟨its,rv,pl,_⟩:=I1.list (SqL.of hl)
 obtain⟨as,ep,nsys,ta',raw⟩:=dT_keys I1 hd hks
 have al:as.length=ks.length:=ta'.length
 have il:=rv.length
 rw[zA]at il
 have ll:(as.map Value.ref).length=as.length:=zA _
 have z1:(s1.heap.push (itO false l)).objs.size=s1.heap.objs.size+1:=Heap.size_push ..
 have z2:(zD2 s1.heap l d (as.map Value.ref).length ep).objs.size=s1.heap.objs.size+2:=by rw[Heap.size_push,z1]
 have z3:(zD3 s1.heap l d (as.map Value.ref).length ep).objs.size=s1.heap.objs.size+3:=by rw[Heap.size_push,z2]
 have z4:(zD4 s1.heap l d (as.map Value.ref).length ep).objs.size=s1.heap.objs.size+4:=by rw[Heap.size_push,z3]
 have g5:(zD5 s1.heap l d (as.map Value.ref).length ep).get? (zD4 s1.heap l d (as.map Value.ref).length ep).objs.size=some _:=zV _ rfl
 have g4:(zD5 s1.heap l d (as.map Value.ref).length ep).get? (zD3 s1.heap l d (as.map Value.ref).length ep).objs.size=some _:=zC _ (zV _ rfl)
 have g3:(zD5 s1.heap l d (as.map Value.ref).length ep).get? (zD2 s1.heap l d (as.map Value.ref).length ep).objs.size=some _:=zC _ (zC _ (zV _ rfl))
 have g2:(zD5 s1.heap l d (as.map Value.ref).length ep).IsKeyIter (s1.heap.push (itO false l)).objs.size d 0 (as.map Value.ref).length ep:=⟨_,zC _ (zC _ (zC _ (zV _ rfl))),rfl,rfl⟩
 have g1:(zD5 s1.heap l d (as.map Value.ref).length ep).IsListIter s1.heap.objs.size l 0:=⟨_,zC _ (zC _ (zC _ (zC _ (zV _ rfl)))),rfl,rfl⟩
 rw[z2,z3,z4]at g5
 rw[z1,z2]at g3
 rw[z3]at g4
 rw[z1]at g2
 refine callType_new F.called_zip (by decide) (F.typeCall_zip_2 _ _) (F.newCall_zip_2 _ _) (fun obj=>F.args_object_init_3 obj _ _) F.entry_zip_new (zipD_new l d nsys its.toArray (as.map Value.ref) ep) ⟨pl.isList,raw,?_⟩
 show _/\_
 rw[z4]
 have kp:∀ c o,s1.heap.get? c=some o->(zD5 s1.heap l d (as.map Value.ref).length ep).get? c=some o:=fun c o x=>zC _ (zC _ (zC _ (zC _ (zC _ x))))
 refine⟨⟨_,g5,rfl⟩,Calls.spliced_nil ?_⟩
 have sz5:(zD5 s1.heap l d (as.map Value.ref).length ep).objs.size=s1.heap.objs.size+5:=by rw[Heap.size_push,z4]
 generalize zD5 s1.heap l d (as.map Value.ref).length ep=g at g1 g2 g3 g4 g5 kp sz5 ⊢
 have I2:Inv X pins σ H1 { s1 with heap:=g }:=I1.kept (t':=s1.toks) kp
 have fp:∀ {c:Addr},s1.heap.objs.size<=c->FpOk X pins H1 c:=fun le=>I1.fpOk le (I1.hok.fresh le)
 have lB:l<s1.heap.objs.size:=by obtain⟨o,e,_⟩:=pl.isList;exact zQ e
 have dB:d<s1.heap.objs.size:=raw.lt
 have off:∀ {c:Addr},c<s1.heap.objs.size->Off (s1.heap.objs.size+4) (s1.heap.objs.size+3) s1.heap.objs.size (s1.heap.objs.size+1) c:=fun {c} h =>
  ⟨zAG (zZ h (zAA _ _)),zAG (zZ h (zAA _ _)),zAG h,zAG (zZ h (zAA _ _))⟩
 have zs:ZS (s1.heap.objs.size+4) (s1.heap.objs.size+2) (s1.heap.objs.size+3) s1.heap.objs.size (s1.heap.objs.size+1) l d its.toArray (as.map Value.ref) ep 0 g:=⟨.inl ⟨rfl,g5,_,_,g4⟩,g3,g1,g2,pl.isList.at fun o e=>kp _ _ e,raw.to fun o e=>kp _ _ e⟩
 refine sorted_col (X:=X) (s:={ s1 with heap:=g }) (C:=fun H2 keys=>Same H1 H2/\keys=(ns.zip ks).map fun z=>z.1 :: z.2) hu (fun R hR=>?_) fun H2 keys ⟨sm,ek⟩ l' bs ms hl' pm pw pk=>?_
 ·refine zip_collect (n:=ns.length) (A:=X.A.in1) (s:={ s1 with heap:=g }) (show X.A.handled=none from I1.ok.hd hc) (za_new _) (off lB) (off dB) zs (by rw[zY];exact Eq.symm il) (by rw[zA];lia) n0 (by rw[sizeLine_eq];exact zl4 n5 rfl) fun h' Ts kp2 tl zt=>?_
  have B5:∀ T∈Ts,s1.heap.objs.size<=T:=fun T hT=>zAE (by show _<=g.objs.size+1;rw[sz5];exact zAE (zAA _ 5) (Nat.le_succ _)) (zt.ge T hT).1
  have I3:Inv X pins σ H1 { s1 with heap:=h' }:=Inv.turnedL (s:={ s1 with heap:=g }) (h':=h') (t':=s1.toks) (ch:=[s1.heap.objs.size+4,s1.heap.objs.size+3,s1.heap.objs.size,s1.heap.objs.size+1]) I2 (fun c hc'=>fp (by
    simp only[zW,List.not_mem_nil,or_false]at hc'
    rcases hc' with e | e | e | e <;> rw[e]
    ·exact zAA _ _
    ·exact zAA _ _
    ·exact zJ _
    ·exact zAA _ _)) fun c o nc e=>by
    simp only[zW,List.not_mem_nil,or_false,not_or]at nc
    exact kp2 c o nc.1 nc.2.1 nc.2.2.1 nc.2.2.2 e
  have getT:∀ (i:Nat) (h1:i<Ts.length) (h2:i<ns.length) (h3:i<as.length),∃ u,RelV (.int ns[i]) u/\IsPair h' Ts[i] u (.ref as[i]):=fun i h1 h2 h3=>by
   obtain⟨u,hu',ru⟩:=rv.get (i:=i) (x:=V.int ns[i]) (by rw[zAB,zE h2];rfl)
   exact⟨u,ru,zt.pr i _ _ _ (zE h1) (by simpa using hu') (by rw[zAB,zE h3];rfl)⟩
  -- what is tracked now
  have key:∀ (Ts':List Addr) (ns':List Int) (as':List Addr) (ks':List (List Int)),Ts'.length=ns'.length->as'.length=ns'.length->Paired (fun a k=>H1 a=some (.tup (k.map V.int))) as' ks' ->
    (∀ (i:Nat) (h1:i<Ts'.length) (h2:i<ns'.length) (h3:i<as'.length),∃ u,RelV (.int ns'[i]) u/\IsPair h' Ts'[i] u (.ref as'[i])) ->
    ∃ L:List (Addr×List V),L.map (·.1)=Ts'/\(∀ z∈L,z.2.length<=sizeLine/\∃ its:List Value,Vals z.2 its/\IsTup h' z.1 its.toArray)/\∀ H2,Same H1 H2->(∀ z∈L,H2 z.1=some (.tup z.2))->Paired (KeyAt H2) Ts' ((ns'.zip ks').map fun z=>z.1 :: z.2):=by
   intro Ts'
   induction Ts' with
   |nil =>
    intro ns' as' ks' e1 e2 p _
    cases ns' with
    |nil=>exact⟨[],rfl,(fun _ h=>nomatch h),fun _ _ _=>.nil⟩
    |cons _ _=>cases e1
   |cons T Ts' ih =>
    intro ns' as' ks' e1 e2 p gt
    cases ns' with
    |nil=>cases e1
    |cons n ns' =>
     cases p with
     |nil=>cases e2
     | @cons a1 k1 as1 ks1 r p' =>
      obtain⟨u,ru,pp⟩:=gt 0 (Nat.zero_lt_succ _) (Nat.zero_lt_succ _) (Nat.zero_lt_succ _)
      obtain⟨L,l1,l2,l3⟩:=ih ns' as1 ks1 (Nat.succ.inj e1) (Nat.succ.inj e2) p' fun i h1 h2 h3=>gt (i+1) (Nat.succ_lt_succ h1) (Nat.succ_lt_succ h2) (Nat.succ_lt_succ h3)
      refine⟨(T,[V.int n,V.ref a1]) :: L,by rw[zN,l1],fun z hz=>?_,fun H2 sm hz=>?_⟩
      ·rcases zW.mp hz with e | hz
       ·rw[e]
        exact⟨(by show 2<=sizeLine;decide),[u,.ref a1],.cons ru (.cons rfl .nil),⟨_,pp,rfl,0,rfl⟩⟩
       ·exact l2 z hz
      ·exact .cons ⟨a1,n,k1,hz _ (zF ..),sm _ _ r,rfl⟩ (l3 H2 sm fun z h=>hz z (zD _ h))
  obtain⟨L,l1,l2,l3⟩:=key Ts ns as ks tl (by lia) ta' getT
  have nd:(L.map (·.1)).Nodup:=by rw[l1];exact zt.nd
  have memL:∀ z∈L,z.1∈Ts:=fun z hz=>by rw[<- l1];exact zBO hz
  have fL:∀ z∈L,FpOk X pins H1 z.1:=fun z hz=>fp (B5 _ (memL z hz))
  obtain⟨sm,all⟩:=putT_same (l:=L) (H:=H1) (fun z hz=>(fL z hz).1) nd
  have I4:=Inv.trackL (l:=L) I3 fL nd l2
  exact hR _ (putT H1 L) Ts _ I4 (l3 _ sm all) (by exact zAR (zBX tl) n5) ⟨sm,rfl⟩
 ·rw[ek]at pm
  have sn:=Same.new (o:=.lst (bs.map V.ref)) hl'
  exact q l' _ bs ms (sm.trans sn) yaa pm pw (Paired.mapP pk fun _ _ z=>z.same sn)
end
open PySem PySem.W PyProof.Rows Srt
section
variable{prog:Program}{w:World}{A:Around}{R:Result->Shared->Prop}{s:Shared}
variable{kx vx target iter i' t':Expr}{ifs f':List Expr}{gens:List Comprehension}{scope:Scope}{pos:Pos}{it:Value}{D:Addr}{d:Nat}{env:Env}
theorem dloop_last(hd:gens[d]?=some ⟨target,iter,ifs,0⟩)(hn:gens[d+1]?=none)(I:Nat->Shared->Prop)
  (turn:∀ n s,I n s->wpAny (model prog w) A (pyNext it) (fun r s₁=>match r with
   |none=>R (.ok .next) s₁
   |some v=>wpAny (model prog w) A (letOwnedTupleGo target it v) (fun _ s₁'=>wpAny (model prog w) A (assign target env v) (fun _ s₂ =>
     wpAny (model prog w) A (forIn ifs true fun c r=>if r=true then do let ok <- isTrue c env (eval c env);pure (ForInStep.yield ok)else pure (ForInStep.yield r)) (fun ok s₃ =>
      if ok=true then wpAny (model prog w) A (eval kx env) (fun kv s₄=>wpAny (model prog w) A (eval vx env) (fun vv s₅=>wpAny (model prog w) A (dictSet D kv vv) (fun _ s₆=>∃ m,m<n/\I m s₆) (fun _ _=>False) s₅) (fun _ _=>False) s₄) (fun _ _=>False) s₃
      else ∃ m,m<n/\I m s₃) (fun _ _=>False) s₂) (fun _ _=>False) s₁') (fun _ _=>False) s₁) (fun _ _=>False) s)
  (n:Nat) (h:I n s):codeAny (model prog w) A (.compLoop (.DictComp kx vx gens scope pos) d it (.ref D) env) R s:=by
 refine codeAny_loop rfl I (fun n s hI=>?_) n h
 show wpAny _ A ((compTurn (.DictComp kx vx gens scope pos) d it (.ref D) env).onRaise (fun x=>do noteFrame x env;theTreesLotGoes x)) _ _ s
 refine wpAny_noted ?_
 unfold compTurn
 dsimp only
 rw[hd]
 dsimp only
 refine zB (wpAny_standAt ?_)
 refine zB (wpAny_mono (turn n s hI) (fun r s₁ h₁=>?_) fun _ _ h'=>h'.elim)
 cases r with
 |none=>exact zG h₁
 |some v =>
  refine zB (wpAny_mono h₁ (fun _ s₁' h₁'=>?_) fun _ _ h'=>h'.elim);refine zB (wpAny_mono h₁' (fun _ s₂ h₂=>zB (wpAny_mono h₂ (fun ok s₃ h₃=>?_) fun _ _ h'=>h'.elim)) fun _ _ h'=>h'.elim)
  cases ok with
  |false=>exact zG ⟨rfl,h₃⟩
  |true =>
   rw[if_pos rfl,hn]
   exact zB (zB (wpAny_mono h₃ (fun kv s₄ h₄=>zB (wpAny_holding (wpAny_mono h₄ (fun vv s₅ h₅=>zB (wpAny_standAt (wpAny_holding (wpAny_mono h₅ (fun _ s₆ h₆=>zG ⟨rfl,h₆⟩) fun _ _ h'=>h'.elim)))) fun _ _ h'=>h'.elim))) fun _ _ h'=>h'.elim))
theorem dloop_more(hd:gens[d]?=some ⟨target,iter,ifs,0⟩)(hn:gens[d+1]?=some ⟨t',i',f',0⟩)(hs:∀ x,foldedSetIterable i' env x=pure x)(I:Nat->Shared->Prop)
  (turn:∀ n s,I n s->wpAny (model prog w) A (pyNext it) (fun r s₁=>match r with
   |none=>R (.ok .next) s₁
   |some v=>wpAny (model prog w) A (letOwnedTupleGo target it v) (fun _ s₁'=>wpAny (model prog w) A (assign target env v) (fun _ s₂ =>
     wpAny (model prog w) A (forIn ifs true fun c r=>if r=true then do let ok <- isTrue c env (eval c env);pure (ForInStep.yield ok)else pure (ForInStep.yield r)) (fun ok s₃ =>
      if ok=true then wpAny (model prog w) A (eval i' env) (fun x s₅=>wpAny (model prog w) A (pyIter x) (fun it' s₆=>codeAny (model prog w) A (.compStart (.DictComp kx vx gens scope pos) (d+1) it' (.ref D) env) (fun r s'=>match r with
       | .ok _=>∃ m,m<n/\I m s'
       | .error _=>False) s₆) (fun _ _=>False) s₅) (fun _ _=>False) s₃
      else ∃ m,m<n/\I m s₃) (fun _ _=>False) s₂) (fun _ _=>False) s₁') (fun _ _=>False) s₁) (fun _ _=>False) s)
  (n:Nat) (h:I n s):codeAny (model prog w) A (.compLoop (.DictComp kx vx gens scope pos) d it (.ref D) env) R s:=by
 refine codeAny_loop rfl I (fun n s hI=>?_) n h
 show wpAny _ A ((compTurn (.DictComp kx vx gens scope pos) d it (.ref D) env).onRaise (fun x=>do noteFrame x env;theTreesLotGoes x)) _ _ s
 refine wpAny_noted ?_
 unfold compTurn
 dsimp only
 rw[hd]
 dsimp only
 refine zB (wpAny_standAt ?_)
 refine zB (wpAny_mono (turn n s hI) (fun r s₁ h₁=>?_) fun _ _ h'=>h'.elim)
 cases r with
 |none=>exact zG h₁
 |some v =>
  refine zB (wpAny_mono h₁ (fun _ s₁' h₁'=>?_) fun _ _ h'=>h'.elim);refine zB (wpAny_mono h₁' (fun _ s₂ h₂=>zB (wpAny_mono h₂ (fun ok s₃ h₃=>?_) fun _ _ h'=>h'.elim)) fun _ _ h'=>h'.elim)
  cases ok with
  |false=>exact zG ⟨rfl,h₃⟩
  |true =>
   rw[if_pos rfl,hn]
   dsimp only
   refine zB (wpAny_mono h₃ (fun x s₅ h₅=>zB (wpAny_standAt ?_)) fun _ _ h'=>h'.elim)
   rw[hs x]
   refine zB (zG (zB (wpAny_holding (wpAny_mono h₅ (fun it' s₆ h₆=>zB (wpAny_runOwn (codeAny_mono h₆ fun r s' hr=>?_))) fun _ _ h'=>h'.elim))))
   cases r with
   |ok f=>exact zG ⟨rfl,hr⟩
   |error x=>exact hr.elim
theorem dstart{it acc:Value}(hd:gens[d]?=some ⟨target,iter,ifs,0⟩)(h0:codeAny (model prog w) A (.compLoop (.DictComp kx vx gens scope pos) d it acc env) R s)
  (h:wpAny (model prog w) A (pyIter it) (fun it' s'=>codeAny (model prog w) A (.compLoop (.DictComp kx vx gens scope pos) d it' acc env) R s') (notedBy (model prog w) A env fun x s'=>R (.error x) s') s):codeAny (model prog w) A (.compStart (.DictComp kx vx gens scope pos) d it acc env) R s:=by
 refine codeAny_of_tree ?_;show wpAny _ A ((compStart (.DictComp kx vx gens scope pos) d it acc env).onRaise (fun x=>do noteFrame x env;standAt theWindowsPlace)) _ _ s
 refine wpAny_notedAt ?_;unfold compStart
 have hc:(clausesOf (.DictComp kx vx gens scope pos))[d]?=some ⟨target,iter,ifs,0⟩:=hd
 rw[hc]
 show wpAny _ A (ask >>= _) _ _ s;refine zB (wpAny_askSetting (wpAny_ite ?_));split
 ·first | exact zB (zG (zG (And.intro rfl h0))) | exact zG (And.intro rfl h0)
 ·refine zB (wpAny_rule ?_);show wpAny _ _ (standAt iter.pos >>= _) _ _ s;refine zB (wpAny_standAt (zB (wpAny_mono h (fun it' s' h'=>zG (And.intro rfl h')) fun _ _ x=>x)))
end
noncomputable abbrev TB:=St->Hp->(Hp->Prop)->Prop
noncomputable def tLoop(wi:TI)(g:TG)(tc:TT)(body:TB):TB:=fun σ H Q=>wi σ H fun J H1=>∃ (n:Nat) (P:Nat->Hp->Prop),P 0 H1 /\
 ∀ i H,i<=n->P i H->(J.stop i H/\Q H)\/(i<n/\J.go i H/\∀ x H',J.yld i H x H'->g x σ H' fun σ2 H2=>Kp σ σ2/\tc σ2 H2 fun b H3=>if b=true then body σ2 H3 (P (i+1))else P (i+1) H3)
noncomputable def tEmitD(D:Addr)(tk tv:TE):TB:=fun σ H Q=>tk σ H fun k H4=>tv σ H4 fun y H5=>∃ H6,DPut H5 D k y H6/\Q H6
noncomputable def PN(Y:Cx)(e:Expr)(d:Nat)(iter:Expr)(D:Addr)(b:TB):Prop:=∀ (pins:List (Addr×Obj)) (s:Shared) (σ:St) (H:Hp) (Q:Hp->Prop),Inv Y pins σ H s->b σ H Q ->
 wpAny (model Y.prog Y.w) Y.A (eval iter Y.env) (fun x s1=>wpAny (model Y.prog Y.w) Y.A (pyIter x) (fun it s2=>codeAny (model Y.prog Y.w) Y.A (.compStart e d it (.ref D) Y.env) (fun r s'=>match r with
  | .ok _=>∃ H',Inv Y pins σ H' s'/\Q H'
  | .error _=>False) s2) (fun _ _=>False) s1) (fun _ _=>False) s
section
variable{Y:Cx}{kx vx tg iter i' t':Expr}{ifs f':List Expr}{gens:List Comprehension}{scope:Scope}{pos:Pos}{D:Addr}{d:Nat}{wi:TI}{g:TG}{tc:TT}{tk tv:TE}{b:TB}
theorem pn_last(hx:∀ v s,Y.xe v s->False)(hc:Y.calm=true)(hu:Y.A.units<cLine)(hd:gens[d]?=some ⟨tg,iter,ifs,0⟩)(hn:gens[d+1]?=none)(hi:PI Y tg iter wi)(hg:PG Y tg g)(ht:PF Y ifs tc)(hk:PE Y kx tk)(he:PE Y vx tv) :
  PN Y (.DictComp kx vx gens scope pos) d iter D (tLoop wi g tc (tEmitD D tk tv)):=by
 intro pins s σ H Q I h
 refine wpAny_mono (hi pins s σ H _ I h) (fun v s1 h1=>wpAny_mono h1 (fun itv s2 h2=>?_) fun _ _ z=>hx _ _ z) fun _ _ z=>hx _ _ z
 obtain⟨it,fp,tn,J,H2,e,I2,T,st2,f2,n,P,p0,turn⟩:=h2
 subst e
 have stat:∀ {H':Hp},(∀ b∈fp,H' b=none)->∀ b∈fp,FpOk Y pins H' b:=fun hn b hb=>⟨hn b hb,(f2 b hb).2⟩
 have inF:∀ {pl:List (Addr×Obj)}{p:Addr×Obj},p∈pl->p∈Y.pn++(pins++pl):=fun {pl p} hp=>zL _ (zL _ hp)
 have loop:codeAny (model Y.prog Y.w) Y.A (.compLoop (.DictComp kx vx gens scope pos) d (.ref it) (.ref D) Y.env) (fun r s'=>match r with
  | .ok _=>∃ H',Inv Y pins σ H' s'/\Q H'
  | .error _=>False) s2:=by
  refine dloop_last hd hn (fun m s'=>∃ i H',m=n-i/\i<=n/\Inv Y pins σ H' s'/\tn i s'.heap/\(∀ b∈fp,H' b=none)/\P i H') ?_ n ⟨0,H2,rfl,zAT _,I2,st2,fun b hb=>(f2 b hb).1,p0⟩
  rintro m s3 ⟨i,H3,rfl,hin,I3,st3,fr3,p3⟩
  rcases turn i H3 hin p3 with⟨stop,q⟩ |⟨hlt,go,step⟩
  ·refine thn (T.done Y rfl rfl rfl hc i _ s3 _ H3 (fun _ _=>False) I3 (stat fr3) st3 stop) fun r s4 ⟨hr,I4⟩=>?_
   subst hr
   exact⟨H3,I4,q⟩
  ·refine thn (T.item Y rfl rfl rfl hc i _ s3 _ H3 (fun _ _=>False) I3 (stat fr3) st3 go) fun r s4 ⟨u,hr,h4⟩=>?_
   subst hr
   refine thn h4 fun _ s5 ⟨x,H5,I5,r5,y5,st5,fr5⟩=>?_
   have I5':=I5.pinned (stat fr5) (T.obj _ _ st5)
   refine wpAny_mono (hg _ s5 _ H5 x u _ I5' r5 (step x H5 y5)) (fun _ s6 ⟨σ6,H6,I6,kp,q6⟩=>?_) fun _ _ z=>hx _ _ z
   refine wpAny_mono (ht _ s6 σ6 H6 _ I6 q6) (fun b s7 ⟨H7,I7,q7⟩=>?_) fun _ _ z=>hx _ _ z
   cases b with
   |false =>
    rw[if_neg zT]at q7 ⊢
    refine⟨n-(i+1),zBH n i hlt,i+1,H7,rfl,hlt,I7.unpinned.weak kp.length kp.get,?_,fun b hb=>?_,q7⟩
    ·exact T.keep _ _ _ st5 fun b hb o e=>(I7.pin (b,o) (inF (mem_pinsAt hb e))).1
    ·obtain⟨o,e,d⟩:=T.obj _ _ st5 b hb
     exact(I7.pin (b,o) (inF (mem_pinsAt hb e))).2.1
   |true =>
    rw[if_pos rfl]at q7 ⊢
    refine wpAny_mono (hk _ s7 σ6 H7 _ I7 q7) (fun kv s8 ⟨k,H8,I8,r8,q8⟩=>wpAny_mono (he _ s8 σ6 H8 _ I8 q8) (fun yv s9 ⟨y,H9,I9,r9,H10,dp,q9⟩=>?_) fun _ _ z=>hx _ _ z) fun _ _ z=>hx _ _ z
    refine d_set (X:=Y) hu I9 dp r8 r9 fun s10 I10=>?_
    refine⟨n-(i+1),zBH n i hlt,i+1,_,rfl,hlt,I10.unpinned.weak kp.length kp.get,?_,fun b hb=>?_,q9⟩
    ·exact T.keep _ _ _ st5 fun b hb o e=>(I10.pin (b,o) (inF (mem_pinsAt hb e))).1
    ·obtain⟨o,e,d⟩:=T.obj _ _ st5 b hb
     exact(I10.pin (b,o) (inF (mem_pinsAt hb e))).2.1
 exact dstart hd loop (T.self Y.A 0 _ _ _ st2 loop)
end
noncomputable def tDCompN(t:Bool)(cap:List (Option Nat))(wi:TI)(g:TG)(tc:TT)(bN:Addr->TB):TE:=fun σ H Q=>wi σ H fun J H1=>∀ D,H1 D=none->∃ (n:Nat) (P:Nat->Hp->Prop),P 0 (upd H1 D (dEmp t)) /\
 ∀ i H,i<=n->P i H->(J.stop i H/\Q (.ref D) H) \/
  (i<n/\J.go i H/\∀ x H',J.yld i H x H'->g x (capt cap σ) H' fun σ2 H2=>Kp (capt cap σ) σ2/\tc σ2 H2 fun b H3=>if b=true then bN D σ2 H3 (P (i+1))else P (i+1) H3)
section
variable{X:Cx}{kx vx tg iter i' t':Expr}{ifs f':List Expr}{gs:List Comprehension}{scope:Scope}{pos:Pos}{N':List Str}{cap:List (Option Nat)}{wi:TI}{g:TG}{tc:TT}{bN:Addr->TB}
theorem dcompN_run(t:Bool)(hc:X.calm=true)(S:CompScope N' cap X.N X.env.scope scope)(hi:PI X tg iter wi)(hg:∀ C s H fp,PG (cxIn X N' scope C s H fp) tg g)
  (ht:∀ C s H fp,PF (cxIn X N' scope C s H fp) ifs tc) (hb:∀ C s H fp D,PN (cxIn X N' scope C s H fp) (.DictComp kx vx (⟨tg,iter,ifs,0⟩ :: ⟨t',i',f',0⟩ :: gs) scope pos) 1 i' D (bN D)) (hs':∀ C s H fp x,foldedSetIterable i' (cxIn X N' scope C s H fp).env x=pure x)
  {pins:List (Addr×Obj)}{s:Shared}{σ:St}{H:Hp}{Q:VK} (I:Inv X pins σ H s) (h:tDCompN t cap wi g tc bN σ H Q) :
  wpAny (model X.prog X.w) X.A (eval iter X.env) (fun x s₁=>wpAny (model X.prog X.w) X.A (pyIter x) (fun it s₂=>wpAny (model X.prog X.w) X.A newDict (fun acc s₃ =>
   wpAny (model X.prog X.w) X.A (newFunctionEnv scope X.env.globals (closCl X.env.cells scope.names []) [] X.env.qual none .none (some X.env)) (fun cenv s₄ =>
    codeAny (model X.prog X.w) X.A (.compStart (.DictComp kx vx (⟨tg,iter,ifs,0⟩ :: ⟨t',i',f',0⟩ :: gs) scope pos) 0 it acc { cenv with scope:=relabel scope X.env }) (CompEnd X pins σ Q acc cenv.locals) s₄) X.xe s₃) X.xe s₂) X.xe s₁) X.xe s:=by
 refine thn (hi pins s σ H _ I h) fun v s1 h1=>thn h1 fun itv s2 h2=>?_
 obtain⟨it,fp,tn,J,H2,e,I2,T,st2,f2,turns⟩:=h2
 subst e
 obtain⟨n,P,p0,turn⟩:=turns s2.heap.objs.size (I2.hok.fresh (zJ _))
 refine wpAny_newObj_type (wpAny_newFunctionEnv S.nocell (by intro y hy;simp at hy) (fun h₁ hns₁ hsb₁=>?_) S.kind)
 dsimp only at hns₁ hsb₁ ⊢
 generalize hHp:s2.heap.push { cls:=.type "dict",dict:=none,data:=.dict #[] } = Hq at hns₁ hsb₁ ⊢
 have hC:Hq.objs.size=s2.heap.objs.size+1:=by rw[<- hHp,Heap.size_push]
 have hDC:s2.heap.objs.size≠Hq.objs.size:=by rw[hC];exact zAG (Nat.lt_succ_self _)
 have hCle:s2.heap.objs.size<=Hq.objs.size:=by rw[hC];exact Nat.le_succ _
 have old:∀ b o,s2.heap.get? b=some o->h₁.get? b=some o:=fun b o e =>
  hsb₁.extBut b o (by rw[hC];exact zAG (zCG (zQ e))) (zC _ (hHp▸zC _ e))
 have hacc:h₁.get? s2.heap.objs.size=some { cls:=.type "dict",dict:=none,data:=.dict #[] }:=hsb₁.extBut _ _ hDC (zC _ (hHp▸zV _ rfl))
 have hfo:∀ b∈fp,∃ o,s2.heap.get? b=some o:=fun b hb=>let ⟨o,e,_⟩:=T.obj _ _ st2 b hb;⟨o,e⟩
 have st4:tn 0 h₁:=T.keep _ _ _ st2 fun b _ o e=>old b o e
 let D:Addr:=s2.heap.objs.size
 let C:Addr:=Hq.objs.size
 let Y:Cx:=cxIn X N' scope C s2 H2 fp
 have hDfp:D∉fp:=fun hb=>by
  obtain⟨o,e⟩:=hfo D hb
  exact zAM _ (zQ e)
 have stat:∀ {H':Hp},(∀ b∈fp,H' b=none)->∀ b∈fp,FpOk Y pins H' b:=fun {H'} hn b hb=>by
  obtain⟨f0,f1,fx,f3,f4,f5⟩:=f2 b hb
  obtain⟨o,e⟩:=hfo b hb
  refine⟨hn b hb,fun z=>?_,fun z=>?_,.inl hb,fun x c e=>f4 x c (closCl_sound _ _ (S.clos I2) (fun y c e=>by simp at e) x c e),f5⟩
  ·have h1:=zZ (zQ e) hCle
   have z:b=Hq.objs.size:=z
   rw[z]at h1
   exact zAM _ h1
  ·rcases zW.mp (I2.stkSub b z)with e | e
   ·exact f1 e
   ·exact fx e
 have loop:∀ s₃:Shared,s₃ = { s2 with heap:=h₁,toks:=s2.toks+([]:List (Str×Value)).length } ->
   codeAny (model X.prog X.w) X.A (.compLoop (.DictComp kx vx (⟨tg,iter,ifs,0⟩ :: ⟨t',i',f',0⟩ :: gs) scope pos) 0 (.ref it) (.ref s2.heap.objs.size) (compEnvC scope (closCl X.env.cells scope.names []) Hq.objs.size X.env))
    (CompEnd X pins σ Q (.ref s2.heap.objs.size) Hq.objs.size) s₃:=by
  rintro s₃ rfl
  have inF:∀ {pl:List (Addr×Obj)}{p:Addr×Obj},p∈pl->p∈Y.pn++(pins++pl):=fun {pl p} hp=>zL _ (zL _ hp)
  refine dloop_more rfl rfl (hs' C s2 H2 fp) (fun m s'=>∃ i H',m=n-i/\i<=n/\Inv Y pins (capt cap σ) H' s'/\tn i s'.heap/\(∀ b∈fp,H' b=none)/\P i H') ?_ n ?_
  ·rintro m s3 ⟨i,H3,rfl,hin,I3,st3,fr3,p3⟩
   rcases turn i H3 hin p3 with⟨stop,q⟩ |⟨hlt,go,step⟩
   ·refine thn (T.done Y rfl rfl rfl hc i _ s3 _ H3 (fun _ _=>False) I3 (stat fr3) st3 stop) fun r s4 ⟨hr,I4⟩=>?_
    subst hr
    have IX:Inv X pins σ H3 s4:=I2.call' (ch:=fp) I4.os I4.base I4.hok I4.bare fun b hb=>by
     obtain⟨f0,f1,fx,f3,f4,f5⟩:=f2 b hb
     exact⟨f3,f1,f4,f5⟩
    obtain⟨m',hm',_⟩:=I4.loc
    exact⟨.ref D,_,IX,rfl,q,⟨m',hm'⟩,I2.fpOk hCle I4.free⟩
   ·refine thn (T.item Y rfl rfl rfl hc i _ s3 _ H3 (fun _ _=>False) I3 (stat fr3) st3 go) fun r s4 ⟨u,hr,h4⟩=>?_
    subst hr
    refine thn h4 fun _ s5 ⟨x,H5,I5,r5,y5,st5,fr5⟩=>?_
    have I5':=I5.pinned (stat fr5) (T.obj _ _ st5)
    refine thn (hg C s2 H2 fp _ s5 _ H5 x u _ I5' r5 (step x H5 y5)) fun _ s6 ⟨σ6,H6,I6,kp,q6⟩=>?_
    refine thn (ht C s2 H2 fp _ s6 σ6 H6 _ I6 q6) fun b s7 ⟨H7,I7,q7⟩=>?_
    cases b with
    |false =>
     rw[if_neg zT]at q7 ⊢
     refine⟨n-(i+1),zBH n i hlt,i+1,H7,rfl,hlt,I7.unpinned.weak kp.length kp.get,?_,fun b hb=>?_,q7⟩
     ·exact T.keep _ _ _ st5 fun b hb o e=>(I7.pin (b,o) (inF (mem_pinsAt hb e))).1
     ·obtain⟨o,e,d⟩:=T.obj _ _ st5 b hb
      exact(I7.pin (b,o) (inF (mem_pinsAt hb e))).2.1
    |true =>
     rw[if_pos rfl]at q7 ⊢
     refine thn (hb C s2 H2 fp D _ s7 σ6 H7 _ I7 q7) fun x s8 h8=>thn h8 fun it' s9 h9=>codeAny_mono h9 fun r s10 hr=>?_
     cases r with
     |error x=>exact hr
     |ok f =>
      obtain⟨H10,I10,q9⟩:=hr
      refine⟨n-(i+1),zBH n i hlt,i+1,H10,rfl,hlt,I10.unpinned.weak kp.length kp.get,?_,fun b hb=>?_,q9⟩
      ·exact T.keep _ _ _ st5 fun b hb o e=>(I10.pin (b,o) (inF (mem_pinsAt hb e))).1
      ·obtain⟨o,e,d⟩:=T.obj _ _ st5 b hb
       exact(I10.pin (b,o) (inF (mem_pinsAt hb e))).2.1
  ·have I4:=cxIn_inv (s4:={ s2 with heap:=h₁,toks:=s2.toks+([]:List (Str×Value)).length }) S I2 hCle f2 hfo rfl rfl old hns₁ hacc (zJ _) hDC fun v z=>by cases z
   obtain⟨_,pD1,pD2,pD3,_⟩:=I4.pin (D,{ cls:=.type "dict",dict:=none,data:=.dict #[] }) (zL _ (zL _ (zH.mpr rfl)))
   have I5:Inv Y pins (capt cap σ) H2 { s2 with heap:=h₁,toks:=s2.toks+([]:List (Str×Value)).length }:=I4.pins_of fun p hp=>I4.pin p (zL _ (zAQ _ hp))
   have fD:FpOk Y pins H2 D:=⟨pD1,pD2,pD3,.inr (zJ _),fun x c e z=>by
    obtain⟨v,q⟩:=I2.cell x c (closCl_sound _ _ (S.clos I2) (fun y c e=>by simp at e) x c e)
    have h1:=q.lt
    rw[show c=s2.heap.objs.size from z]at h1
    exact zAM _ h1,fun p hp z=>by
    have h1:=zQ (I2.pin p hp).1
    rw[show p.1=s2.heap.objs.size from z]at h1
    exact zAM _ h1⟩
   have nsys:(D == sysModules)=false:=by
    have:=I2.big
    exact zBU.mpr fun z=>by
     have e:D=sysModules:=by simpa using z
     have h1:sysModules<D:=this
     rw[<- e]at h1
     exact zAM _ h1
   have new:ObjOk X.prog X.w (upd H2 D (dEmp t)) h₁ D (dEmp t):=by
    cases t
    ·exact⟨zAT _,nsys,[],.nil,_,#[],0,hacc,⟨rfl,rfl,rfl⟩,rfl,fun e he=>by simp at he,.nil,zCN⟩
    ·exact⟨zAT _,nsys,[],.nil,_,#[],0,hacc,⟨rfl,rfl,rfl⟩,rfl,rfl,zCN⟩
   refine⟨0,upd H2 D (dEmp t),rfl,zAT _,I5.track fD new,st4,fun b hb=>?_,p0⟩
   rw[upd_ne (fun z=>hDfp (by rw[<- z];exact hb))]
   exact(f2 b hb).1
 exact dstart rfl (loop _ rfl) (T.self X.A 0 _ _ _ st4 (loop _ rfl))
end
section
variable{K:PySem.W.Frag}{a:Addr}{xs:List V}{b:Bool}{g:TG}{tc:TT}{body:TB}{σ:St}{H1:Hp}{Q:Hp->Prop}
theorem seq_loop(P:Nat->Hp->Prop)(p0:P 0 H1)(hl:∀ i H,i<=xs.length->P i H->SqB b K H a xs)
  (hs:∀ i x H,xs[i]?=some x->P i H->g x σ H fun σ2 H2=>Kp σ σ2/\tc σ2 H2 fun b H3=>if b=true then body σ2 H3 (P (i+1))else P (i+1) H3)
  (hd:∀ H,P xs.length H->Q H):∃ (n:Nat) (P:Nat->Hp->Prop),P 0 H1/\∀ i H,i<=n->P i H->((ItB b K a).stop i H/\Q H)\/(i<n/\(ItB b K a).go i H/\∀ x H',(ItB b K a).yld i H x H'->g x σ H' fun σ2 H2=>Kp σ σ2/\tc σ2 H2 fun b H3=>if b=true then body σ2 H3 (P (i+1))else P (i+1) H3):=by
 refine⟨xs.length,P,p0,fun i H il p=>?_⟩
 have q:=hl i H il p
 by_cases hlt:i<xs.length
 ·cases b
  all_goals
   refine .inr ⟨hlt,⟨xs,xs[i],q,by simp[hlt]⟩,fun x H' y=>?_⟩
   obtain⟨e,y⟩:=y
   subst e
   exact hs i x _ (y xs q) p
 ·have e:i=xs.length:=by exact zj7 il hlt
  subst e
  cases b
  all_goals exact .inl ⟨⟨xs,q,zJ _⟩,hd H p⟩
noncomputable def iAny(K:PySem.W.Frag)(tl:TE):TI:=fun σ H R=>tl σ H fun x H1=>∃ a b,x = .ref a/\(∃ xs,SqB b K H1 a xs)/\R (ItB b K a) H1
theorem pi_any{X:Cx}{tg l:Expr}{tl:TE}(hl:PE X l tl):PI X tg l (iAny X.K tl):=by
 intro pins s σ H R I h
 refine thn (hl pins s σ H _ I h) fun v s1 ⟨x,H1,I1,r1,q1⟩=>?_
 obtain⟨a,b,e,⟨xs,hq⟩,q⟩:=q1
 subst e
 cases r1
 cases b
 ·obtain⟨its,rv,p,hz⟩:=I1.list hq
  refine wpAny_pyIter_list p.isList ?_
  refine⟨s1.heap.objs.size,[s1.heap.objs.size],_,_,H1,rfl,I1.kept (t':=s1.toks) fun b o e=>zC _ e,turn_list a _,⟨_,zV _ rfl,rfl,rfl⟩,fun b hb=>?_,q⟩
  have e:b=s1.heap.objs.size:=by simpa using hb
  subst e
  exact I1.fpOk (zJ _) (I1.hok.fresh (zJ _))
 ·obtain⟨its,rv,p,hz⟩:=I1.tuple hq
  refine wpAny_pyIter_tuple (show s1.heap.IsTuple a its.toArray from p) ?_
  refine⟨s1.heap.objs.size,[s1.heap.objs.size],_,_,H1,rfl,I1.kept (t':=s1.toks) fun b o e=>zC _ e,turn_tuple a _,⟨_,zV _ rfl,rfl,rfl⟩,fun b hb=>?_,q⟩
  have e:b=s1.heap.objs.size:=by simpa using hb
  subst e
  exact I1.fpOk (zJ _) (I1.hok.fresh (zJ _))
theorem pi_anyK{X:Cx}(K:PySem.W.Frag)(e:X.K=K){tg l:Expr}{tl:TE}(hl:PE X l tl):PI X tg l (iAny K tl):=e▸pi_any hl
end
section
variable{X:Cx}{kx vx tg iter i' t':Expr}{ifs f':List Expr}{gs:List Comprehension}{scope:Scope}{pos:Pos}{N':List Str}{cap:List (Option Nat)}{wi:TI}{g:TG}{tc:TT}{bN:Addr->TB}
theorem ps_dcompN{i:Nat}{x:Str}{pos' spos:Pos}(hN:X.N.Nodup)(hx:X.N[i]?=some x)(hl:Loc X.env.scope x)(t:Bool)(hc:X.calm=true)(S:CompScope N' cap X.N X.env.scope scope)(hi:PI X tg iter wi)(hg:∀ C s H fp,PG (cxIn X N' scope C s H fp) tg g)
  (ht:∀ C s H fp,PF (cxIn X N' scope C s H fp) ifs tc) (hb:∀ C s H fp D,PN (cxIn X N' scope C s H fp) (.DictComp kx vx (⟨tg,iter,ifs,0⟩ :: ⟨t',i',f',0⟩ :: gs) scope pos) 1 i' D (bN D)) (hs':∀ C s H fp x,foldedSetIterable i' (cxIn X N' scope C s H fp).env x=pure x)
  (hs:∀ x,foldedSetIterable iter X.env x=pure x:=by intro _;rfl) (hsw:swapsWith (.DictComp kx vx (⟨tg,iter,ifs,0⟩ :: ⟨t',i',f',0⟩ :: gs) scope pos) (some (.Name x pos')) spos.line X.env=pure true:=by rfl)
  (hf:X.fn x=true\/X.env.scope.names.lookup x=some .local:=by first | exact .inl rfl | exact .inr rfl | assumption) :
  PS X (.Assign [.Name x pos'] (.DictComp kx vx (⟨tg,iter,ifs,0⟩ :: ⟨t',i',f',0⟩ :: gs) scope pos) spos) (tAsg (tDCompN t cap wi g tc bN) (gName i)):=by
 intro pins s σ H D I h
 rw[exec_Assign_Name_used _ _ _ _ hsw]
 refine zB (wpAny_standAt (zB ?_))
 show wpAny _ _ (do let _ <- comprehension (.DictComp kx vx (⟨tg,iter,ifs,0⟩ :: ⟨t',i',f',0⟩ :: gs) scope pos) scope X.env _ newDict false (eval iter X.env) (some (assign (.Name x pos') X.env))) _ _ s
 refine zB (wpAny_mono (wpAny_comprehension_free (use:=some (assign (.Name x pos') X.env)) (Q:=fun _ s'=>SP X pins D .next s') rfl hs (closureFor_cells (S.clos I)) S.kind S.loc
  (thn (dcompN_run (pos:=pos) t hc S hi hg ht hb hs' I h) fun x s1 h1=>thn h1 fun it s2 h2=>thn h2 fun acc s3 h3=>thn h3 fun cenv s4 h4=>?_)) (fun _ s' hq=>zG (zG hq)) fun _ _ e=>e)
 refine codeAny_mono h4 fun r s' hr=>?_
 cases r with
 |error x=>exact hr.elim
 |ok f =>
  obtain⟨v,H',I',rv,q,⟨m,hn⟩,f0,f1,f2,f3,f4,f5⟩:=hr
  show wpAny _ _ (assign (.Name _ pos') X.env acc) _ _ _
  refine wpAny_assign_Name (store_ok2 I' hN hx hl rv (fun s'' I'' ⟨a,sb,ha⟩=>?_) hf)
  have hac:cenv.locals≠a:=by
   rcases ha with ha | ha
   ·rw[ha];exact f1
   ·exact Ne.symm (f4 _ a ha)
  refine⟨m,hn.sameBut sb hac,fun h' sb'=>⟨_,H',I''.turned (it:=cenv.locals) (t':=s''.toks) (fun b o hb e=>(sb'.2 b hb).trans e) f0 f1 f3 f4 f5,q⟩⟩
end
theorem cutV_last(xs:List V):cutV xs none (some (-1))=xs.take (xs.length-1):=by
 unfold cutV HT.sIx
 simp only[Nat.sub_zero,List.drop_zero]
 rw[if_pos (by decide)]
 congr 1
 exact zn7
noncomputable def rIxQ:Bool->R2
 |false=>rIxLh
 |true=>rIxTh
theorem ix_Q{X:Cx}:∀ b:Bool,IxR X (rIxQ b)
 |false=>ix_listH
 |true=>ix_tupH
theorem rIxQ_of{b:Bool}{r:PySem.Addr}{xs:List V}{i:Int}{v:V}{H:Hp}{Q:VK}(h:H r=some (sqO b xs))(e:atI xs i=some v)(q:Q v H):rIxQ b (.ref r) (.int i) H Q:=by
 cases b
 ·exact⟨r,xs,i,v,rfl,rfl,h,e,q⟩
 ·exact⟨r,xs,i,v,rfl,rfl,h,e,q⟩
theorem putK_stay{κ:Type}[DecidableEq κ]{kvs:List (κ×V)}{k:κ}{v:V}(h:∀ z∈kvs,z.2=v)(hk:k∈kvs.map (·.1)):putK kvs k v=kvs:=by
 unfold putK
 rw[if_pos (by
  obtain⟨z,hz,e⟩:=zAH.mp hk
  exact List.any_eq_true.mpr ⟨z,hz,decide_eq_true e⟩)]
 conv=>rhs;rw[<- List.map_id kvs]
 apply zAP
 intro z hz
 split
 ·show(z.1,v)=z
  rw[<- h z hz]
 ·rfl
end L2
namespace K31
open PySem L2 PyProof.Rows
open Rnd (ltF tkr ThrOf uq uqs Lo)
structure RwOk(m:Nat)(row:List (Int×Int)):Prop where
 len:row.length=m
 fit:∀ f∈row,fitsB 16 f.1/\fitsB 16 f.2
structure OdOk(m:Nat)(od:List Int):Prop where
 ne:0<od.length
 le:od.length<=1000
 rg:∀ a∈od,0<=a/\a<m
inductive spTkI(vs:List V)(H:Hp)(Q:VK):Prop where
 |mk (b:Bool) (r o t:Addr) (m:Nat) (row:List (Int×Int)) (od:List Int) (th:Int×Int) (h1:vs=[.ref r,.ref o,.ref t]) (h2:RowAt H b r row) (h3:H o=some (.lst (od.map V.int))) (h4:H t=some (frO th)) (h5:RwOk m row) (h6:OdOk m od) (h7:fitsB 100 th.1) (h8:fitsB 100 th.2) (h9:∀ H',Same H H'->Q (.int (tkr row th od)) H')
noncomputable def spTk:Sp:=fun vs H Q _=>spTkI vs H Q
inductive spObQI(vs:List V)(H:Hp)(Q:VK):Prop where
 |mk (b:Bool) (q o d t:Addr) (ps:List Int) (R:Shr.Rows) (od:List Int) (th:Int×Int) (h1:vs=[.ref q,.ref o,.ref d,.ref t]) (h2:H q=some (.lst (ps.map V.int))) (h3:RowsAt H b o R) (h4:H d=some (.lst (od.map V.int))) (h5:H t=some (frO th)) (h6:(∀ row∈R,RwOk ps.length row)) (h7:R.length<=1000) (h8:OdOk ps.length od) (h9:fitsB 100 th.1) (h10:fitsB 100 th.2) (h11:∀ (u:Addr) (H':Hp),H' u=some (.tup ((R.map fun row=>ps.getD (tkr row th od).toNat 0).map V.int))->Same H H'->Q (.ref u) H')
noncomputable def spObQ:Sp:=fun vs H Q _=>spObQI vs H Q
noncomputable def FrsAt(H:Hp)(l:Addr)(L:List (Int×Int)):Prop:=∃ ts:List Addr,H l=some (.lst (ts.map V.ref))/\Paired (fun c f=>H c=some (frO f)) ts L
theorem FrsAt.same{H H':Hp}{l:Addr}{L:List (Int×Int)}(h:FrsAt H l L)(s:Same H H'):FrsAt H' l L:=by
 obtain⟨ts,h1,h2⟩:=h
 exact⟨ts,s _ _ h1,Paired.mapP h2 fun _ _ z=>s _ _ z⟩
structure FrR(R:Shr.Rows):Prop where
 lo:∀ f∈R.flatten,Lo f
 fit:∀ f∈R.flatten,fitsB 16 f.1/\fitsB 16 f.2
 few:R.flatten.length<=180
 one:∃ f∈R.flatten,0<f.1
 len:R.length<=1000
 row:∀ r∈R,r.length<=1000
inductive spThQI(vs:List V)(H:Hp)(Q:VK):Prop where
 |mk (b:Bool) (o:Addr) (R:Shr.Rows) (h1:vs=[.ref o]) (h2:RowsAt H b o R) (h3:FrR R) (h4:∀ (l:Addr) (L:List (Int×Int)) (H':Hp),H l=none->FrsAt H' l L->ThrOf R.flatten L->Same H H'->Q (.ref l) H')
noncomputable def spThQ:Sp:=fun vs H Q _=>spThQI vs H Q
noncomputable def kvU(U:List (Int×Int)):List (List Key×V):=U.map fun f=>([Sum.inl f.1,Sum.inl f.2],V.bl true)
theorem kvU_put(U:List (Int×Int))(f:Int×Int)(h:0<f.1):putK (kvU U) [Sum.inl f.1,Sum.inl f.2] (V.bl true)=kvU (uq U f):=by
 have key:∀ g∈U,([Sum.inl g.1,Sum.inl g.2]:List Key)=[Sum.inl f.1,Sum.inl f.2]->g=f:=fun g _ e=>by
  simp only[List.cons.injEq,Sum.inl.injEq,and_true]at e
  exact Prod.ext e.1 e.2
 unfold uq
 by_cases c:f∈U
 ·rw[if_neg (fun z=>z.2 c)]
  refine putK_stay (fun z hz=>?_) ?_
  ·obtain⟨g,_,rfl⟩:=zAH.mp hz
   rfl
  ·unfold kvU
   rw[zAW]
   exact zAH.mpr ⟨f,c,rfl⟩
 ·rw[if_pos ⟨h,c⟩,putK_new]
  ·unfold kvU
   rw[zP]
   rfl
  ·refine valV_no fun z=>?_
   unfold kvU at z
   rw[zAW]at z
   obtain⟨g,hg,e⟩:=zAH.mp z
   exact c (key g hg e▸hg)
theorem kvU_len(U:List (Int×Int)):(kvU U).length=U.length:=zA _
noncomputable def ksU(U:List (Int×Int)):List (List Int):=U.map fun f=>[f.1,f.2]
theorem kvU_keys(U:List (Int×Int)):(kvU U).map (·.1)=List.map (List.map Sum.inl) (ksU U):=by
 unfold kvU ksU
 rw[zAW,zAW]
 rfl
theorem zip_kf(D:Int):∀ U:List (Int×Int),((U.map fun f=>f.1 * (D / f.2)).zip (ksU U)).map (fun z=>z.1 :: z.2)=U.map (Rnd.kf D)
 |[]=>rfl
 |f :: U=>by
  have ih:=zip_kf D U
  unfold ksU at ih ⊢
  rw[zN,zN,List.zip_cons_cons,zN,ih,zN]
  rfl
theorem frs_of{H:Hp}:∀ {as:List Addr}{U:List (Int×Int)},TupsAt H as (ksU U)->Paired (fun c f=>H c=some (frO f)) as U
 | _,[],h=>by cases h;exact .nil
 | _,f :: U,h=>by
  cases h with
  |cons a r=>exact .cons a (frs_of r)
theorem ite_pos'{c A B:Prop}[Decidable c](h:c)(a:A):if c then A else B:=by rw[if_pos h];exact a
theorem ite_neg'{c A B:Prop}[Decidable c](h:¬ c)(b:B):if c then A else B:=by rw[if_neg h];exact b
section
variable{P:Program}{w:World}{K:PySem.W.Frag}{mg:Str->Option Value}{base:Heap}
noncomputable abbrev nIl:List Str:=["one","other"]
theorem scIl:FnScope nIl ["one","other"] (defScope sIsLess):=⟨rfl,rfl,rfl,by decide +kernel,rfl,by decide +kernel,by decide +kernel⟩
theorem ok_il{f:Addr}{fd:FuncData}(F:Fun K "is_less" "is_less" sIsLess f fd):FnOk P w K mg base CX0 1 f fd ["one","other"] spLs:=by
 refine F.ok scIl (fun vs H Q E h=>?_) (fun cdv A outer s H vs Q E hr h=>?_)
 ·obtain⟨p,q,x,y,rfl,_⟩:=h
  rfl
 ·obtain⟨p,q,⟨x,y⟩,⟨u,v⟩,rfl,hp,hq,fx,fy,fu,fv,fin⟩:=h
  refine⟨_,(pss_one (ps_ret (pe_cmpR op_lt (pe_op op_mulB (@pe_ix _ _ _ _ _ _ _ ix_tupH (pvQ 0) yae (fun _ _=>rfl)) (@pe_ix _ _ _ _ _ _ _ ix_tupH (pvQ 1) yae (fun _ _=>rfl))) (pe_op op_mulB (@pe_ix _ _ _ _ _ _ _ ix_tupH (pvQ 1) yae (fun _ _=>rfl)) (@pe_ix _ _ _ _ _ _ _ ix_tupH (pvQ 0) yae (fun _ _=>rfl))) (nomark _)))),?_⟩
  refine⟨p,_,_,_,rfl,rfl,hp,at0,q,_,_,_,rfl,rfl,hq,at1,_,_,rfl,rfl,⟨fx,fv⟩,?_⟩
  refine⟨q,_,_,_,rfl,rfl,hq,at0,p,_,_,_,rfl,rfl,hp,at1,_,_,rfl,rfl,⟨fu,fy⟩,_,_,rfl,rfl,?_⟩
  exact fin
noncomputable abbrev nTk:List Str:=["row","order","threshold","at"]
theorem scTk:FnScope nTk ["row","order","threshold"] (defScope sTaker):=⟨rfl,rfl,rfl,by decide +kernel,rfl,by decide +kernel,by decide +kernel⟩
theorem ok_tk{f g:Addr}{fd gd:FuncData}(F:Fun K "taker" "taker" sTaker f fd)(GI:CalF P w K mg base 1 "is_less" ["one","other"] spLs g gd):FnOk P w K mg base CX0 2 f fd ["row","order","threshold"] spTk:=by
 refine F.ok scTk (fun vs H Q E h=>?_) (fun cdv A outer s H vs Q E hr h=>?_)
 ·obtain⟨b,r,o,t,m,row,od,th,rfl,_⟩:=h
  rfl
 ·obtain⟨b,r,o,t,m,row,od,th,rfl,hrow,ho,ht,rw_,oo,f1,f2,fin⟩:=h
  obtain⟨cs,hr1,hc⟩:=hrow
  have cl:cs.length=m:=by rw[hc.length];exact rw_.len
  refine⟨_,(yad (ps_for PassesOwn.never rfl (pi_list (pe_slice sl_list (pvQ 1) po_none (po_some (pe_un un_neg yae)))) (pg_name (i:=3) scTk.nd rfl (Or.inl rfl))
   (pss_one (ps_if (pt_not (pt_val (pe_call GI.ok hr rfl GI.mg GI.kp GI.bd .nil pass0 (@pa_sub _ _ _ _ _ _ _ (@pe_ix _ _ _ _ _ _ _ (ix_Q b) (pvQ 0) (pvQ 3) (fun _ _=>rfl)) (@yac _ _ _ _ _ _ (pvQ 2) yab))))) (pss_one (ps_ret (pvQ 3))) pss_nil)))
   (pss_one (ps_ret (@pe_ix _ _ _ _ _ _ _ ix_listH (pvQ 1) (pe_un un_neg yae) (fun _ _=>rfl))))),?_⟩
  refine⟨_,rfl,_,rfl,o,_,rfl,SqL.of ho,fun p hp=>?_⟩
  have e0:=oo.ne
  have eo:=oo.le
  have ec:cutV (od.map V.int) none (some (-1))=(od.take (od.length-1)).map V.int:=by rw[cutV_last,zA,List.map_take]
  rw[ec]
  have s1:=Same.new (o:=.lst ((od.take (od.length-1)).map V.int)) hp
  have gp:(upd H p (.lst ((od.take (od.length-1)).map V.int))) p=some (.lst ((od.take (od.length-1)).map V.int)):=yaa
  generalize (upd H p (.lst ((od.take (od.length-1)).map V.int)))=H1 at *
  obtain⟨z,ez⟩:∃ z,od=od.take (od.length-1)++[z]:=⟨od[od.length-1]'(by exact zh4 e0),by
   rw[<- zK (by exact zh4 e0),zAZ (by exact zBX (zh5 e0))]⟩
  have pl:(od.take (od.length-1)).length=od.length-1:=by rw[zAS];exact zn8
  generalize hpre:od.take (od.length-1)=pre at *
  refine⟨p,rfl,⟨_,SqL.of gp⟩,?_⟩
  refine for_list (K:=K) (a:=p) (xs:=pre.map V.int) (fun i σ G=>∃ v3:Option V,σ=[some (.ref r),some (.ref o),some (.ref t),v3]/\G=H1/\∀ a∈pre.take i,ltF (row.getD a.toNat (0,1)) th=true) ⟨_,rfl,rfl,fun _ h=>nomatch h⟩ (fun i σ G _ z=>by obtain⟨_,_,e,_⟩:=z;rw[e];exact SqL.of gp) ?_ ?_
  ·rintro i x σ G hx ⟨v3,rfl,rfl,all⟩
   obtain⟨il,e⟩:=zI.mp hx
   rw[zA]at il
   rw[zU]at e
   subst e
   have am:pre[i]∈od:=by rw[ez];exact zAQ _ (zS il)
   obtain⟨a0,a1⟩:=oo.rg _ am
   obtain⟨k,ek⟩:∃ k:Nat,pre[i]=(k:Int):=⟨pre[i].toNat,by exact zh3 a0⟩
   have kc:k<cs.length:=by exact zm5 (zn1 ek a1) cl
   have kr:k<row.length:=by rw[rw_.len];exact zi3 (zn1 ek a1)
   have gc:=s1 _ _ (Paired.at hc k kc kr)
   obtain⟨r1,r2⟩:=rw_.fit _ (zS kr)
   have eg:row.getD pre[i].toNat (0,1)=row[k]:=by rw[ek,zAC,zAL,zE kr];rfl
   refine rIxQ_of (v:=V.ref cs[k]) (s1 _ _ hr1) (by rw[ek];exact atI_nat (v:=V.ref cs[k]) (by rw[zAB,zE kc];rfl)) ⟨cs[k],t,row[k],th,rfl,gc,s1 _ _ ht,r1.mono (by decide),r2.mono (by decide),f1.mono (by decide),f2.mono (by decide),?_⟩
   refine⟨_,rfl,?_⟩
   have ed:decide (row[k].1 * th.2<th.1 * row[k].2)=ltF (row.getD pre[i].toNat (0,1)) th:=by rw[eg];rfl
   rw[ed]
   cases c:ltF (row.getD pre[i].toNat (0,1)) th with
   |true =>
    refine iteF ⟨_,rfl,rfl,fun a ha=>?_⟩
    rw[zK il]at ha
    rcases zX.mp ha with ha | ha
    ·exact all a ha
    ·rw[zH.mp ha];exact c
   |false =>
    refine iteT ?_
    have e:tkr row th od=pre[i]:=by
     have e2:od=pre.take i++pre[i] :: (pre.drop (i+1)++[z]):=by
      rw[ez]
      have e3:pre=pre.take i++pre[i] :: pre.drop (i+1):=by
       rw[<- zBF il,zBD]
      exact(congrArg (·++[z]) e3).trans (by rw[zAI];rfl)
     rw[e2]
     exact Rnd.tkr_at all c
    rw[<- e]
    exact fin _ s1
  ·rintro σ G ⟨v3,rfl,rfl,all⟩
   rw[zA,zAN]at all
   refine⟨_,rfl,o,_,_,_,rfl,rfl,s1 _ _ ho,(by rw[ez,zP];exact atI_last _ (V.int z)),?_⟩
   have e:tkr row th od=z:=by rw[ez];exact Rnd.tkr_all all
   rw[<- e]
   exact fin _ s1
noncomputable abbrev nOb:List Str:=["posts","shares","order","threshold"]
theorem scOb:FnScope nOb ["posts","shares","order","threshold"] (defScope sOwnersBy):=⟨rfl,rfl,rfl,by decide +kernel,rfl,by decide +kernel,by decide +kernel⟩
theorem csOb1:CompScope ["row","posts","order","threshold"] [none,some 0,some 2,some 3] nOb (defScope sOwnersBy) (scO [(".0",.local),("row",.local),("taker",.globalImplicit),("order",.free),("posts",.free),("threshold",.free)]):=⟨rfl,by decide +kernel,by decide +kernel,by decide +kernel,rfl,capB_ok (by decide +kernel)⟩
theorem ndOb1:(["row","posts","order","threshold"]:List Str).Nodup:=by decide +kernel
theorem ok_ob{f g:Addr}{fd gd:FuncData}(F:Fun K "owners_by" "owners_by" sOwnersBy f fd)(T:Txt mg)(GT:CalF P w K mg base 2 "taker" ["row","order","threshold"] spTk g gd):FnOk P w K mg base CX0 3 f fd ["posts","shares","order","threshold"] spObQ:=by
 refine F.ok scOb (fun vs H Q E h=>?_) (fun cdv A outer s H vs Q E hr h=>?_)
 ·obtain⟨b,q,o,d,t,ps,R,od,th,rfl,_⟩:=h
  rfl
 ·obtain⟨b,q,o,d,t,ps,R,od,th,rfl,hq,hR,hd,ht,rk,Rl,oo,f1,f2,fin⟩:=h
  obtain⟨as,ho,pr⟩:=hR
  have al:as.length=R.length:=pr.length
  refine⟨_,(pss_one (ps_ret (pe_callTy call_tupleH (by rfl) T.tuple boot_tuple (@pa_comp _ _ _ _ _ _ _ _ (pe_comp rfl csOb1 (pi_seq b (pvQ 1)) (fun C s H fp=>(pg_name (i:=0) ndOb1 rfl (Or.inl rfl))) (fun C s H fp=>pf_nil) (fun C s H fp=>(@pe_ix _ _ _ _ _ _ _ ix_listH (pvQ 1) (pe_call GT.ok hr rfl GT.mg GT.kp GT.bd .nil pass0 (@yac _ _ _ _ _ _ (pvQ 0) (@yac _ _ _ _ _ _ (pvQ 2) (@yac _ _ _ _ _ _ (pvQ 3) yab)))) (fun _ _=>rfl)))) yab)))),?_⟩
  refine⟨o,rfl,⟨_,sqB_of ho⟩,?_⟩
  refine comp_seq (K:=K) (b:=b) (a:=o) (xs:=as.map V.ref) (fun i ys G=>Same H G/\ys=((R.take i).map fun row=>ps.getD (tkr row th od).toNat 0).map V.int) (by rw[zA,sizeLine_eq];exact zh9 (zl1 Rl rfl) al) ⟨Same.refl _,rfl⟩ (fun i ys G _ z=>sqB_of (z.1 _ _ ho)) ?_ ?_
  ·rintro i x ys G hx ⟨sG,rfl⟩
   obtain⟨il,e⟩:=zI.mp hx
   rw[zA]at il
   rw[zU]at e
   subst e
   have iR:i<R.length:=by exact zh7 il al
   have oe:od≠[]:=fun z=>by have:=oo.ne;rw[z]at this;simp at this
   obtain⟨t0,t1⟩:=oo.rg _ (Rnd.tkr_mem R[i] th oe)
   refine⟨⟨rfl,rfl,rfl,trivial⟩,tTru_if ⟨b,as[i],d,t,ps.length,R[i],od,th,rfl,(Paired.at pr i il iR).same sG,sG _ _ hd,sG _ _ ht,rk _ (zS iR),oo,f1,f2,fun G2 s2=>?_⟩⟩
   obtain⟨k,ek⟩:∃ k:Nat,tkr R[i] th od=(k:Int):=⟨(tkr R[i] th od).toNat,by exact zh3 t0⟩
   have kp:k<ps.length:=by exact zi3 (zn1 ek t1)
   refine⟨q,_,_,_,rfl,rfl,s2 _ _ (sG _ _ hq),by rw[ek];exact atI_nat (v:=V.int ps[k]) (by rw[zAB,zE kp];rfl),sG.trans s2,?_⟩
   rw[zK iR,zP,zP]
   show _=_++[V.int (ps.getD (tkr R[i] th od).toNat 0)]
   rw[ek,zAC,zAL,zE kp]
   rfl
  ·rintro ys G yl ⟨sG,rfl⟩ D hD
   rw[zA,al,zAN]at *
   refine⟨D,_,rfl,yaa,fun u hu=>?_⟩
   exact fin u _ yaa (sG.trans ((Same.new hD).trans (Same.new hu)))
noncomputable abbrev nTh0:List Str:=["shares","unlike","below","rows"]
theorem csThD:CompScope ["row","share"] [none,none] nTh0 (defScope sThresholds) (scO [(".0",.local),("row",.local),("share",.local)]):=⟨rfl,by decide +kernel,by decide +kernel,by decide +kernel,rfl,capB_ok (by decide +kernel)⟩
theorem ndThD:(["row","share"]:List Str).Nodup:=by decide +kernel
noncomputable abbrev nTh:List Str:=["shares","unlike","below","rows"]
theorem scTh:FnScope nTh ["shares"] (defScope sThresholds):=⟨rfl,rfl,rfl,by decide +kernel,rfl,by decide +kernel,by decide +kernel⟩
theorem csTh1:CompScope ["top","share"] [none,none] nTh (defScope sThresholds) (scO [(".0",.local),("top",.local),("share",.local)]):=⟨rfl,by decide +kernel,by decide +kernel,by decide +kernel,rfl,capB_ok (by decide +kernel)⟩
theorem ndTh1:(["top","share"]:List Str).Nodup:=by decide +kernel
theorem ok_th{f g:Addr}{fd gd:FuncData}(F:Fun K "thresholds" "thresholds" sThresholds f fd)(T:Txt mg)(T2:Txt2 mg)(GO:CalF P w K mg base 2 "over_one" ["rows"] (spOo K) g gd):FnOk P w K mg base CX0 3 f fd ["shares"] spThQ:=by
 refine F.ok scTh (fun vs H Q E h=>?_) (fun cdv A outer s H vs Q E hr h=>?_)
 ·obtain⟨b,o,R,rfl,_⟩:=h
  rfl
 ·obtain⟨b,o,R,rfl,hR,fr,fin⟩:=h
  obtain⟨as,ho,pr⟩:=id hR
  have al:as.length=R.length:=pr.length
  have Rl:=fr.len
  have hu0:_<cLine:=hr.units0
  refine⟨_,(yad (ps_dcompN (i:=1) scTh.nd rfl (Or.inl rfl) true rfl csThD (pi_seq b (pvQ 0)) (fun C s H fp=>pg_name (i:=0) ndThD rfl (Or.inl rfl)) (fun C s H fp=>pf_nil) (fun C s H fp D=>pn_last (fun _ _ h=>h) rfl hu0 rfl rfl (pi_anyK K rfl (pvQ 0)) (pg_name (i:=1) ndThD rfl (Or.inl rfl)) (pf_one (pt_cmpR op_gt (@pe_ix _ _ _ _ _ _ _ ix_tupH (pvQ 1) yae (fun _ _=>rfl)) yae (nomark _))) (pvQ 1) pe_bl) (fun C s H fp x=>rfl))
   (yad (ps_asg (pe_call GO.ok hr rfl GO.mg GO.kp GO.bd .nil pass0 (@pa_lst _ _ _ _ _ _ (@pe_lst _ _ _ _ (@pa_call _ _ _ _ _ _ _ _ (pe_callTy (call_listD rfl) (by rfl) T.list boot_list (@yac _ _ _ _ _ _ (pvQ 1) yab)) yab)) yab)) (pg_tup (n:=2) rfl (pgs_cons (pg_name (i:=2) scTh.nd rfl (Or.inl rfl)) (pgs_cons (pg_name (i:=3) scTh.nd rfl (Or.inl rfl)) pgs_nil))))
   (pss_one (ps_ret (pe_comp rfl csTh1 (pi_list (pe_sortZip rfl hr.units (by rfl) T.sorted (by rfl) T2.zip (@pa_sub _ _ _ _ _ _ _ (@pe_ix _ _ _ _ _ _ _ ix_listH (pvQ 3) yae (fun _ _=>rfl)) (@yac _ _ _ _ _ _ (pvQ 1) yab)))) (fun C s H fp=>(pg_tupK K rfl (n:=2) rfl (pgs_cons (pg_name (i:=0) ndTh1 rfl (Or.inl rfl)) (pgs_cons (pg_name (i:=1) ndTh1 rfl (Or.inl rfl)) pgs_nil)) rfl rfl)) (fun C s H fp=>pf_nil) (fun C s H fp=>(pvQ 1))))))),?_⟩
  refine⟨o,rfl,⟨_,sqB_of ho⟩,fun D hD=>?_⟩
  refine seq_loop (b:=b) (K:=K) (a:=o) (xs:=as.map V.ref) (fun i G=>Same H G/\G D=some (.dT (kvU (uqs (R.take i).flatten)))) ⟨Same.new hD,yaa⟩ (fun i G _ z=>sqB_of (z.1 _ _ ho)) ?_ ?_
  ·rintro i x G hx ⟨sG,gD⟩
   obtain⟨il,e⟩:=zI.mp hx
   rw[zA]at il
   rw[zU]at e
   subst e
   have iR:i<R.length:=by exact zh7 il al
   obtain⟨cs,hc,pc⟩:=Paired.at pr i il iR
   have cl:cs.length=R[i].length:=pc.length
   have ef:(R.take (i+1)).flatten=(R.take i).flatten++R[i]:=by rw[zK iR,List.flatten_append];simp
   refine⟨trivial,tTru_if ⟨as[i],b,rfl,⟨_,sqB_of (sG _ _ hc)⟩,?_⟩⟩
   refine seq_loop (b:=b) (K:=K) (a:=as[i]) (xs:=cs.map V.ref) (fun j G2=>Same H G2/\G2 D=some (.dT (kvU (uqs ((R.take i).flatten++R[i].take j))))) ⟨sG,by rw[List.take_zero,zBP];exact gD⟩ (fun j G2 _ z=>sqB_of (z.1 _ _ hc)) ?_ ?_
   ·rintro j x G2 hx ⟨s2,g2⟩
    obtain⟨jl,e⟩:=zI.mp hx
    rw[zA]at jl
    rw[zU]at e
    subst e
    have jR:j<R[i].length:=by exact zh7 jl cl
    have gc:=s2 _ _ (Paired.at pc j jl jR)
    have eu:uqs ((R.take i).flatten++R[i].take (j+1))=uq (uqs ((R.take i).flatten++R[i].take j)) R[i][j]:=by rw[zK jR,<- zAI,Rnd.uqs_snoc]
    refine⟨⟨rfl,trivial⟩,?_⟩
    refine⟨cs[j],_,_,_,rfl,rfl,gc,at0,_,_,rfl,rfl,_,rfl,?_⟩
    by_cases c:0<R[i][j].1
    ·refine ite_pos' (decide_eq_true c) ?_
     refine⟨_,DPut.t (k:=[Sum.inl R[i][j].1,Sum.inl R[i][j].2]) g2 gc (by
      rw[kvU_len,sizeLine_eq]
      have h1:=Rnd.uqs_len ((R.take i).flatten++R[i].take j)
      have h2:((R.take i).flatten++R[i].take j).length<=R.flatten.length:=by
       have e1:=Shp.flat_take iR
       rw[zO,zAS]
       lia
      have:=fr.few
      exact zAR (zAE h1 h2) (zl2 this rfl)),?_,?_⟩
     ·exact fun b ob hb=>by rw[upd_ne (ne_of_none hb hD)];exact s2 _ _ hb
     ·rw[yaa,eu,kvU_put _ _ c]
    ·refine ite_neg' (fun z=>c (of_decide_eq_true z)) ⟨s2,?_⟩
     have e0:uq (uqs ((R.take i).flatten++R[i].take j)) R[i][j]=uqs ((R.take i).flatten++R[i].take j):=by
      unfold uq
      rw[if_neg (fun z=>c z.1)]
     rw[eu,e0]
     exact g2
   ·rintro G2 ⟨s2,g2⟩
    rw[zA,cl,zAN,<- ef]at g2
    exact⟨s2,g2⟩
  rintro G ⟨sG,gD⟩
  rw[zA,al,zAN]at gD
  generalize hU:uqs R.flatten=U at gD
  have Um:∀ f,f∈U↔f∈R.flatten/\0<f.1:=fun f=>by rw[<- hU];exact Rnd.uqs_mem _ f
  have Ul:U.length<=180:=by
   rw[<- hU]
   exact zAE (Rnd.uqs_len _) fr.few
  have U0:0<U.length:=by
   obtain⟨f,h1,h2⟩:=fr.one
   exact List.length_pos_of_mem ((Um f).mpr ⟨h1,h2⟩)
  -- over one denominator
  refine⟨D,_,ksU U,rfl,gD,kvU_keys U,fun l2 bs hl2 tb=>?_⟩
  have s1:=Same.new (o:=.lst (bs.map V.ref)) hl2
  have gl2:(upd G l2 (.lst (bs.map V.ref))) l2=some (.lst (bs.map V.ref)):=yaa
  have pb:=frs_of tb
  refine⟨(by show 1<=sizeLine;decide),fun l3 hl3=>?_⟩
  have s2:=Same.new (o:=.lst [V.ref l2]) hl3
  have s12:=s1.trans s2
  have RU:RowsAt (upd (upd G l2 (.lst (bs.map V.ref))) l3 (.lst [V.ref l2])) false l3 [U]:=⟨[l2],yaa,.cons ⟨bs,s2 _ _ gl2,Paired.mapP pb fun _ _ z=>s12 _ _ z⟩ .nil⟩
  have gD2:=s12 _ _ gD
  have sH2:=sG.trans s12
  generalize (upd (upd G l2 (.lst (bs.map V.ref))) l3 (.lst [V.ref l2]))=H2 at *
  have rok:Shp.ROk 16 2880 [U]:=by
   refine⟨fun row hr' f hf=>?_,fun row hr' f hf=>?_,fun row hr' f hf=>?_,?_,by decide⟩
   ·rw[zH.mp hr']at hf
    exact(fr.lo f ((Um f).mp hf).1).pos
   ·rw[zH.mp hr']at hf
    exact(fr.fit f ((Um f).mp hf).1).2
   ·rw[zH.mp hr']at hf
    exact(fr.fit f ((Um f).mp hf).1).1.mono (by decide)
   ·simp only[zCF,List.flatten_nil,zBP]
    lia
  obtain⟨D0,_,DD⟩:=rok.dn
  refine⟨l3,false,[U],rfl,RU.k,bok_of rok,by show 1<=1000;decide,fun row hr'=>by rw[zH.mp hr'];exact zl1 Ul rfl,fun t l4 ts H3 ht gl4 it s3=>?_⟩
  refine⟨t,_,rfl,SqT.of ht,rfl,_,_,rfl,_,_,rfl,rfl,?_⟩
  cases it with
  | @cons t0 L0 ts' Ls' it0 it1 =>
   cases it1
   have it0:H3 t0=some (.lst ((U.map fun f=>f.1 * (Shr.dn [U] / f.2)).map V.int)):=it0
   refine⟨l4,_,_,_,rfl,rfl,gl4,at0,?_⟩
   refine⟨t0,D,U.map fun f=>f.1 * (Shr.dn [U] / f.2),kvU U,ksU U,rfl,it0,s3 _ _ gD2,kvU_keys U,by unfold ksU;rw[zA,zA],by rw[zA];exact U0,by rw[zA];exact zl2 Ul rfl,fun l5 H4 cs zs s4 gl5 pm pw pk=>?_⟩
   rw[zip_kf,<- hU]at pm
   obtain⟨eb,thr⟩:=Rnd.thr_sorted fr.lo D0 (fun f hf=>DD U (zH.mpr rfl) f (by rw[hU]at hf;exact hf)) (by rw[hU]at pm ⊢;exact pm) (pw.imp fun {x y} h a b r r' ex ey lt=>by
    rw[ex,ey]at h
    unfold Srt.lexlt at h
    simp[lt]at h)
   have cl:cs.length=zs.length:=pk.length
   have zl:zs.length<=180:=by
    have:=pm.length_eq
    rw[zA,hU]at this
    exact zh9 Ul this
   refine⟨l5,rfl,⟨_,SqL.of gl5⟩,?_⟩
   refine comp_list (K:=K) (a:=l5) (xs:=cs.map V.ref) (fun j ys G5=>Same H4 G5/\∃ us:List Addr,ys=us.map V.ref/\Paired (fun c f=>H4 c=some (frO f)) us ((zs.map Rnd.bk).take j)) (by rw[zA,sizeLine_eq];exact zh9 (zl1 zl rfl) cl) ⟨Same.refl _,[],rfl,.nil⟩ (fun j ys G5 _ z=>SqL.of (z.1 _ _ gl5)) ?_ ?_
   ·rintro j x ys G5 hx ⟨s5,us,rfl,pu⟩
    obtain⟨jl,e⟩:=zI.mp hx
    rw[zA]at jl
    rw[zU]at e
    subst e
    have jz:j<zs.length:=by exact zh7 jl cl
    obtain⟨tt,zz,nn,g1,g2,ek⟩:=Paired.at pk j jl jz
    have ekf:zs[j]=Rnd.kf (Shr.dn [U]) (Rnd.bk zs[j]):=by
     have h1:zs[j]?=((zs.map Rnd.bk).map (Rnd.kf (Shr.dn [U])))[j]?:=congrArg (fun l:List (List Int)=>l[j]?) eb
     rw[zAB,zAB,zE jz]at h1
     exact Option.some.inj h1
    have en:nn=[(Rnd.bk zs[j]).1,(Rnd.bk zs[j]).2]:=by
     exact(List.cons.inj (ek.symm.trans ekf)).2
    refine⟨cs[j],_,rfl,SqT.of (s5 _ _ g1),rfl,_,_,rfl,_,_,rfl,rfl,trivial,tTru_if ⟨s5,us++[tt],by rw[zP];rfl,?_⟩⟩
    rw[zK (by rw[zA];exact jz)]
    refine PairedApp pu (.cons ?_ .nil)
    rw[zU,g2,en]
    rfl
   ·rintro ys G5 yl ⟨s5,us,rfl,pu⟩ lf hlf
    rw[zA,cl,show zs.length=(zs.map Rnd.bk).length by rw[zA],zAN]at pu
    have s6:=Same.new (o:=.lst (us.map V.ref)) hlf
    have sA:=sH2.trans (s3.trans (s4.trans s5))
    exact fin lf (zs.map Rnd.bk) _ (sA.free hlf) ⟨us,yaa,Paired.mapP pu fun _ _ z=>s6 _ _ (s5 _ _ z)⟩ thr (sA.trans s6)
end
end K31
namespace L2
open PySem PySem.W PyProof.Rows
theorem vals_at:∀ {xs:List V}{us:List Value},Vals xs us->∀ (i:Nat) (h:i<xs.length) (h':i<us.length),RelV xs[i] us[i]
 | _,_,.nil,i,h,_=>absurd h (Nat.not_lt_zero _)
 | _,_,.cons r t,0,_,_=>r
 | _,_,.cons r t,i+1,h,h'=>vals_at t i (zBS h) (zBS h')
noncomputable def unint:Value->Int
 | .int i _=>i
 | _=>0
inductive rIndexII(x:V)(vs:List V)(H:Hp)(Q:VK):Prop where
 |mk (l:Addr) (ns:List Int) (n:Int) (j:Nat) (h1:x = .ref l) (h2:vs=[.int n]) (h3:H l=some (.lst (ns.map V.int))) (h4:ns[j]?=some n) (h5:(∀ m,m<j->ns[m]?≠some n)) (h6:Q (.int j) H)
noncomputable def rIndexI:V->List V->Hp->VK->Prop:=fun x vs H Q=>rIndexII x vs H Q
theorem mt_indexI{X:Cx}:MtM X "list.index" rIndexI:=by
 intro pins s σ H x vs v us Q I rx rv h
 obtain⟨l,ns,n,j,rfl,rfl,hl,hj,hno,q⟩:=h
 cases rx
 obtain⟨u,rfl,ru⟩:=rv.one
 obtain⟨t,rfl⟩:=ru
 obtain⟨z,its,n',r,hln,e⟩:=I.lstM hl
 rw[zA,sizeLine_eq]at z
 have jl:j<ns.length:=(zI.mp hj).1
 have il:its.length=ns.length:=by rw[<- r.length,zA]
 have ky:∀ (m:Nat) (hm:m<ns.length),∃ t,its[m]'(by exact zh8 hm il) = .int ns[m] t:=fun m hm=>by
  obtain⟨t,e⟩:RelV (V.int ns[m]) (its[m]'(by exact zh8 hm il)):=by
   have:=vals_at r m (by rw[zA];exact hm) (by exact zh8 hm il)
   rw[zU]at this
   exact this
  exact⟨t,e⟩
 refine call_meets F.slot_list_index ⟨_,e,rfl⟩ F.entry_list_index (F.args_list_index_2 _ _) (PySem.SeqAt.list_indexAt l its.toArray n' _ _ (.int n t) (fun u=>unint u == n) j (by simp;exact zh8 jl il) ?_ ?_ ?_) ⟨e,fun y hy=>?_,?_⟩
 ·lia
 ·obtain⟨t',e'⟩:=ky j jl
  rw[List.getElem_toArray,e']
  show(ns[j] == n)=true
  rw[(zI.mp hj).2]
  simp
 ·intro m hm lt
  obtain⟨t',e'⟩:=ky m (by exact zi9 lt (zBB jl))
  rw[List.getElem_toArray,e']
  show(ns[m] == n)=false
  refine zBU.mpr fun w=>hno m lt ?_
  rw[zE (by exact zi9 lt (zBB jl)),eq_of_beq w]
 ·obtain⟨i,hi,e'⟩:=zBE (show y∈its by simpa using hy)
  obtain⟨t',e2⟩:=ky i (by exact zh7 hi il)
  rw[<- e',e2]
  exact SeqAt.EqAt.int_int _ _ _ _
 ·exact⟨.int j,H,I.tok _,⟨_,rfl⟩,q⟩
end L2
namespace HT
open PySem PySem.Spec PyProof.Rows
end HT
namespace L2
open PySem PySem.W PyProof.Rows
variable{X:Cx}
open PySem PySem.W PyProof.Rows Srt HT
section
variable{X:Cx}
noncomputable def tRev(K:PySem.W.Frag)(te ts:TE):TE:=fun σ H Q=>te σ H fun x H1=>ts σ H1 fun y H2=>∃ a xs,x = .ref a/\y = .int (-1)/\SqL K H2 a xs/\∀ p,H2 p=none->Q (.ref p) (upd H2 p (.lst xs.reverse))
theorem pick_rev(its:List Value):slicePick its.toArray none none (some (-1))=its.reverse.toArray:=by
 have e:sliceBounds none none (some (-1)) its.toArray.size=((its.length:Int)-1,-1,-1):=by
  simp[sliceBounds]
 unfold slicePick
 rw[e]
 congr 1
 have r:sliceRange ((its.length:Int)-1) (-1) (-1)=(List.range its.length).map fun k=>its.length-1-k:=by
  unfold sliceRange
  have c:(if(-1:Int) > 0 then(if((its.length:Int)-1) < -1 then(-1-((its.length:Int)-1) + -1-1) / -1 else 0)else(if((its.length:Int)-1) > -1 then(((its.length:Int)-1) - -1 - -1-1) / (- -1)else 0)).toNat=its.length:=by
   rw[if_neg (by decide)]
   split
   ·have:(((its.length:Int)-1) - -1 - -1-1) / (- -1)=its.length:=by
     rw[show(- (-1:Int))=1 from rfl,Int.ediv_one]
     lia
    rw[this]
    exact zAC _
   ·lia
  dsimp only
  rw[c]
  apply zAP
  intro k hk
  have:=zBG.mp hk
  lia
 dsimp only
 rw[r]
 rw[List.filterMap_map]
 have fm:∀ (l:List Nat) (f:Nat->Option Value) (g:Nat->Value),(∀ k∈l,f k=some (g k))->l.filterMap f=l.map g:=by
  intro l f g
  induction l with
  |nil=>intro _;rfl
  |cons k l ih =>
   intro h
   rw[List.filterMap_cons,h k (zF ..),zN,ih fun k hk=>h k (zD _ hk)]
 rw[fm _ _ (fun k=>its.getD (its.length-1-k) .none) fun k hk=>?_]
 ·apply List.ext_getElem
  ·simp
  ·intro i h1 h2
   rw[zA,zBQ]at h1
   rw[zU,List.getElem_range,List.getElem_reverse,zAL,zE (by omega)]
   rfl
 ·have:=zBG.mp hk
  show its.toArray[its.length-1-k]?=_
  rw[List.getElem?_toArray,zAL,zE (by omega)]
  rfl
theorem Vals.rev:∀ {xs:List V}{us:List Value},Vals xs us->Vals xs.reverse us.reverse
 | _,_,.nil=>.nil
 | _,_,.cons h t=>by
  rw[List.reverse_cons,List.reverse_cons]
  exact(Vals.rev t).append (.cons h .nil)
theorem pe_rev{e st:Expr}{te ts:TE}{p2 pos:Pos}(he:PE X e te)(hst:PE X st ts):PE X (.Subscript e (.Slice none none (some st) p2) pos) (tRev X.K te ts):=by
 intro pins s σ H Q I h
 refine Subscript_ (thn (he pins s σ H _ I h) fun v s1 ⟨x,H1,I1,r1,q1⟩=>?_)
 refine wpAny_Slice ?_
 rw[evalPart_none,evalPart_some]
 refine zG (zG (thn (hst pins s1 σ H1 _ I1 q1) fun w' s3 ⟨y,H3,I3,r3,q3⟩=>?_))
 obtain⟨a,xs,rfl,rfl,hx,q⟩:=q3
 cases r1
 obtain⟨tk,rfl⟩:=r3
 have I4:Inv X pins σ H3 { s3 with heap:=s3.heap.push { cls:=.type "slice",data:=.fields #[.none,.none,.int (-1) tk] } }:=I3.kept (t':=s3.toks) fun b ob q=>zC _ q
 obtain⟨its,r,ht,hz⟩:=I4.list hx
 show wpAny (model X.prog X.w) X.A (subscriptTail e (.Slice none none (some st) p2) (.ref a) (.ref s3.heap.objs.size)) (EP X pins σ Q) X.xe { s3 with heap:=s3.heap.push { cls:=.type "slice",data:=.fields #[.none,.none,.int (-1) tk] } }
 refine tail_any (ops:=[.ref a,.ref s3.heap.objs.size]) ht.isList.typeIs slot_list_getitem.lookup ?_ (by with_unfolding_all rfl)
 have hlen:=r.length
 refine wpAny_getItem_list_slice ht.isList (Heap.IsSliceOf.new ..) .none .none (.int (-1) tk) (by decide) ?_ (by rw[zY] <;> lia)
 rw[pick_rev its]
 refine⟨.ref _,_,I4.laid (t':=s3.toks) (o:=.lst xs.reverse) (fun b ob q=>zC _ q) (zJ _) ?_,rfl,q _ (I4.hok.fresh (zJ _))⟩
 refine⟨by rw[List.length_reverse];exact hz,its.reverse,0,?_,zV _ rfl⟩
 exact r.rev
end
end L2
namespace K31
open PySem L2 PyProof.Rows
open Rnd (ltF tkr ThrOf uq uqs Lo)
noncomputable def nAt(L:List (List Int))(ties:List Tie)(l:Nat):Int:=(ties.map (cAt L l)).sum
theorem nAt_fits{n m:Nat}{R:Shr.Rows}(h:ShOk 16 2880 n m R){ties:List Tie}(ok:∀ x∈ties,TieOk n x)(len:ties.length<=120){l:Nat}(hl:l<m):fitsB 3180 (nAt (Shr.tops (Shr.dn R) R) ties l):=by
 have:=sum_fits (k:=3060) (l:=ties.map (cAt (Shr.tops (Shr.dn R) R) l)) fun y hy=>by
  obtain⟨x,hx,rfl⟩:=zAH.mp hy
  exact cAt_fits h (ok x hx) hl
 refine this.mono ?_
 rw[zA]
 lia
noncomputable def csts(ties:List Tie)(R:Shr.Rows)(m:Nat):List (Int×Int):=(List.range m).map fun l=>Shr.nf (nAt (Shr.tops (Shr.dn R) R) ties l) (Shr.dn R)
theorem csts_len(ties:List Tie)(R:Shr.Rows)(m:Nat):(csts ties R m).length=m:=by unfold csts;rw[zA,zBQ]
theorem csts_get(ties:List Tie)(R:Shr.Rows){m l:Nat}(h:l <(csts ties R m).length):(csts ties R m)[l]=Shr.nf (nAt (Shr.tops (Shr.dn R) R) ties l) (Shr.dn R):=by
 simp only[csts,zU,List.getElem_range]
theorem csts_ok{n m:Nat}{R:Shr.Rows}(sh:ShOk 16 2880 n m R){ties:List Tie}(ok:∀ x∈ties,TieOk n x)(len:ties.length<=120):∀ f∈csts ties R m,0<f.2/\f.2 ∣ Shr.dn R/\fitsB 3180 f.1/\fitsB 3180 f.2:=fun f hf=>by
 obtain⟨l,hl,rfl⟩:=zAH.mp hf
 have hl:=zBG.mp hl
 obtain⟨D0,_,_⟩:=sh.ok.dn
 have Df:=sh.ok.dnE
 have z:=Shr.nf_rel (t:=nAt (Shr.tops (Shr.dn R) R) ties l) (b:=Shr.dn R) (N:=nAt (Shr.tops (Shr.dn R) R) ties l) (D:=Shr.dn R) D0 rfl
 have dv:(Shr.nf (nAt (Shr.tops (Shr.dn R) R) ties l) (Shr.dn R)).2 ∣ Shr.dn R:=by
  have g0:(Int.gcd (nAt (Shr.tops (Shr.dn R) R) ties l) (Shr.dn R):Int) ∣ Shr.dn R:=Int.gcd_dvd_right ..
  exact⟨_,(zCI g0).symm⟩
 have nf:=nAt_fits sh ok len hl
 refine⟨z.pos,dv,?_,(fits_dvd D0 z.pos dv Df).mono (by decide)⟩
 refine nf.le ?_
 show(_ / _:Int).natAbs<=_
 rw[Int.natAbs_ediv_of_dvd (zCK ..)]
 exact Nat.div_le_self _ _
structure Dear(c:List (Int×Int))(k:Nat):Prop where
 lt:k<c.length
 top:∀ f∈c,ltF (c.getD k (0,1)) f=false
 fst:∀ f∈c.take k,ltF f (c.getD k (0,1))=true
noncomputable def oth(m k:Nat):List Int:=(upto m).filter fun a=>!decide (a=(k:Int))
noncomputable def od1(m k:Nat):List Int:=oth m k++[(k:Int)]
noncomputable def od2(m k:Nat):List Int:=(oth m k).reverse++[(k:Int)]
theorem upto_rg{m:Nat}{a:Int}(h:a∈upto m):0<=a/\a<m:=by
 unfold upto at h
 obtain⟨i,hi,e⟩:=zAH.mp h
 have:=zBG.mp hi
 exact zi4 this e
theorem oth_len(m k:Nat):(oth m k).length<=m:=by
 unfold oth
 exact zAE (zCA ..) (by rw[upto_length];exact zJ _)
theorem od1_ok{m k:Nat}(h:k<m)(hm:m<=900):OdOk m (od1 m k):=by
 have:=oth_len m k
 unfold od1
 refine⟨by rw[zO];show 0<_+1;exact Nat.succ_pos (oth m k).length,by rw[zO];show _+1<=_;lia,fun a ha=>?_⟩
 rcases zX.mp ha with ha | ha
 ·exact upto_rg (zBA.mp ha).1
 ·rw[zH.mp ha];exact zi5 h
theorem od2_ok{m k:Nat}(h:k<m)(hm:m<=900):OdOk m (od2 m k):=by
 have:=oth_len m k
 unfold od2
 refine⟨by rw[zO];show 0<_+1;lia,by rw[zO,List.length_reverse];show _+1<=_;lia,fun a ha=>?_⟩
 rcases zX.mp ha with ha | ha
 ·exact upto_rg (zBA.mp (List.mem_reverse.mp ha)).1
 ·rw[zH.mp ha];lia
theorem dear_tops{c:List (Int×Int)}{D:Int}{k:Nat}{mx:Int}(D0:0<D)(ok:∀ f∈c,0<f.2/\f.2 ∣ D)(hk:(c.map fun f=>f.1 * (D / f.2))[k]?=some mx)(no:∀ j,j<k->(c.map fun f=>f.1 * (D / f.2))[j]?≠some mx)(top:∀ a∈c.map (fun f=>f.1 * (D / f.2)),a<=mx):Dear c k:=by
 obtain⟨kl,e⟩:=zI.mp hk
 rw[zA]at kl
 rw[zU]at e
 have ek:c.getD k (0,1)=c[k]:=by rw[zAL,zE kl];rfl
 have okk:=ok _ (zS kl)
 refine⟨kl,fun f hf=>?_,fun f hf=>?_⟩
 ·rw[ek]
  have:=top _ (zBO hf)
  rw[<- e]at this
  have h2:=(Rnd.top_lt D0 okk.1 (ok f hf).1 okk.2 (ok f hf).2).mpr
  cases h:ltF c[k] f with
  |false=>rfl
  |true=>exact absurd (h2 h) (by omega)
 ·rw[ek]
  obtain⟨j,jl,ej⟩:=List.mem_iff_getElem.mp hf
  rw[zAS]at jl
  have jc:j<c.length:=by lia
  have ej:c[j]=f:=by rw[<- ej];exact(List.getElem_take ..).symm
  subst ej
  have okj:=ok _ (zS jc)
  refine(Rnd.top_lt D0 okj.1 okk.1 okj.2 okk.2).mp ?_
  have h1:=top _ (zBO (zS jc))
  have h2:=no j (by lia)
  rw[zAB,zE jc]at h2
  have h3:c[j].1 * (D / c[j].2)≠mx:=fun z=>h2 (congrArg some z)
  rw[e]
  lia
theorem first_at:∀ {l:List Int}{x:Int},x∈l->∃ j:Nat,l[j]?=some x/\∀ m,m<j->l[m]?≠some x
 |y :: l,x,h=>by
  by_cases e:y=x
  ·exact⟨0,by rw[e];rfl,fun m hm=>absurd hm (by lia)⟩
  ·have h':x∈l:=by
    rcases zW.mp h with z | z
    ·exact absurd z.symm e
    ·exact z
   obtain⟨j,h1,h2⟩:=first_at h'
   refine⟨j+1,h1,fun m hm=>?_⟩
   cases m with
   |zero=>exact fun z=>e (Option.some.inj z)
   |succ m=>exact h2 m (by exact zn6 hm)
theorem upto_snoc(m:Nat):upto (m+1)=upto m++[(m:Int)]:=by
 unfold upto
 rw[List.range_succ,zP]
 simp
inductive spOfI(vs:List V)(H:Hp)(Q:VK):Prop where
 |mk (b:Bool) (t q o:Addr) (n:Nat) (ties:List Tie) (ps:List Int) (R:Shr.Rows) (h1:vs=[.ref t,.ref q,.ref o]) (h2:WebAt H t n ties) (h3:(∀ x∈ties,TieOk n x)) (h4:H q=some (.lst (ps.map V.int))) (h5:RowsAt H b o R) (h6:ShOk 16 2880 n ps.length R) (h7:1<=ps.length) (h8:ps.length<=6) (h9:∀ (l a1 a2:Addr) (k:Nat) (H':Hp),Dear (csts ties R ps.length) k->H a1=none->H a2=none->H' l=some (.lst [.ref a1,.ref a2])->H' a1=some (.lst ((od1 ps.length k).map V.int))->H' a2=some (.lst ((od2 ps.length k).map V.int))->Same H H'->Q (.ref l) H')
noncomputable def spOf:Sp:=fun vs H Q _=>spOfI vs H Q
section
variable{P:Program}{w:World}{K:PySem.W.Frag}{mg:Str->Option Value}{base:Heap}{b:Bool}
noncomputable abbrev nOf:List Str:=["web","posts","shares","below","rows","dearest","others"]
theorem scOf:FnScope nOf ["web","posts","shares"] (defScope sOrdersFor):=⟨rfl,rfl,rfl,by decide +kernel,rfl,by decide +kernel,by decide +kernel⟩
theorem csOf1:CompScope ["at","web","shares"] [none,some 0,some 2] nOf (defScope sOrdersFor) (scO [(".0",.local),("at",.local),("cost_at",.globalImplicit),("shares",.free),("web",.free)]):=⟨rfl,by decide +kernel,by decide +kernel,by decide +kernel,rfl,capB_ok (by decide +kernel)⟩
theorem ndOf1:(["at","web","shares"]:List Str).Nodup:=by decide +kernel
theorem csOf2:CompScope ["at","dearest"] [none,some 5] nOf (defScope sOrdersFor) (scO [(".0",.local),("at",.local),("dearest",.free)]):=⟨rfl,by decide +kernel,by decide +kernel,by decide +kernel,rfl,capB_ok (by decide +kernel)⟩
theorem ndOf2:(["at","dearest"]:List Str).Nodup:=by decide +kernel
theorem ok_of{f g1 g2:Addr}{fd d1 d2:FuncData}(F:Fun K "orders_for" "orders_for" sOrdersFor f fd)(T:Txt mg)(GA:CalF P w K mg base 3 "cost_at" ["web","shares","l"] (spCa K) g1 d1)(GO:CalF P w K mg base 2 "over_one" ["rows"] (spOo K) g2 d2):FnOk P w K mg base CX0 4 f fd ["web","posts","shares"] spOf:=by
 refine F.ok scOf (fun vs H Q E h=>?_) (fun cdv A outer s H vs Q E hr h=>?_)
 ·obtain⟨b,t,q,o,n,ties,ps,R,rfl,_⟩:=h
  rfl
 ·obtain⟨b,t,q,o,n,ties,ps,R,rfl,W,ok,hq,RA,sh,p1,p6,fin⟩:=h
  have hr2:Room 2 _:=hr.mono (by decide)
  refine⟨_,(yad (ps_asg (pe_call GO.ok hr2 rfl GO.mg GO.kp GO.bd .nil pass0 (@pa_lst _ _ _ _ _ _ (@pe_lst _ _ _ _ (@pa_comp _ _ _ _ _ _ _ _ (pe_comp rfl csOf1 (pi_range1 rfl T.range (@pa_call _ _ _ _ _ _ _ _ (pe_callB call_lenH (by rfl) T.len PySem.boot_len (@yac _ _ _ _ _ _ (pvQ 1) yab)) yab)) (fun C s H fp=>(pg_name (i:=0) ndOf1 rfl (Or.inl rfl))) (fun C s H fp=>pf_nil) (fun C s H fp=>(pe_call GA.ok hr rfl GA.mg GA.kp GA.bd .nil pass0 (@yac _ _ _ _ _ _ (pvQ 1) (@yac _ _ _ _ _ _ (pvQ 2) (@yac _ _ _ _ _ _ (pvQ 0) yab)))))) yab)) yab)) (pg_tup (n:=2) rfl (pgs_cons (pg_name (i:=3) scOf.nd rfl (Or.inl rfl)) (pgs_cons (pg_name (i:=4) scOf.nd rfl (Or.inl rfl)) pgs_nil))))
   (yad (ps_set (i:=5) scOf.nd rfl (Or.inr rfl) (pe_bmH PySem.F.slot_list_index PySem.F.type_list_index mt_indexI (@pe_ix _ _ _ _ _ _ _ ix_listH (pvQ 4) yae (fun _ _=>rfl)) (@pa_call _ _ _ _ _ _ _ _ (pe_callB (call_maxLH rfl) (by rfl) T.max boot_max (@pa_sub _ _ _ _ _ _ _ (@pe_ix _ _ _ _ _ _ _ ix_listH (pvQ 4) yae (fun _ _=>rfl)) yab)) yab)))
   (yad (ps_comp (i:=6) scOf.nd rfl (Or.inl rfl) rfl csOf2 (pi_range1 rfl T.range (@pa_call _ _ _ _ _ _ _ _ (pe_callB call_lenH (by rfl) T.len PySem.boot_len (@yac _ _ _ _ _ _ (pvQ 1) yab)) yab)) (fun C s H fp=>(pg_name (i:=0) ndOf2 rfl (Or.inl rfl))) (fun C s H fp=>(pf_one (pt_cmpR op_ne (pvQ 0) (pvQ 1) (nomark _)))) (fun C s H fp=>(pvQ 0)))
   (pss_one (ps_ret (@pe_lst _ _ _ _ (@pa_bin _ _ _ _ _ _ _ _ (pe_op op_cat (pvQ 6) (@pe_lst _ _ _ _ (@yac _ _ _ _ _ _ (pvQ 5) yab))) (@pa_bin _ _ _ _ _ _ _ _ (pe_op op_cat (pe_rev (pvQ 6) (pe_un un_neg yae)) (@pe_lst _ _ _ _ (@yac _ _ _ _ _ _ (pvQ 5) yab))) yab)))))))),?_⟩
  refine⟨q,_,rfl,hq,_,rfl,by rw[zA];exact zh1,by rw[zA];exact zm2 p6 rfl,?_⟩
  rw[zA,show((ps.length:Int)).toNat=ps.length by exact zAC ps.length]
  generalize em:ps.length=m at *
  have cl:=csts_len ties R m
  refine comp_range (lo:=0) (n:=m) (fun j ys G=>Same H G/\∃ cs:List Addr,ys=cs.map V.ref/\Paired (fun c f=>G c=some (frO f)) cs ((csts ties R m).take j)) (by rw[sizeLine_eq];exact zl1 p6 rfl) ⟨Same.refl _,[],rfl,.nil⟩ ?_ ?_
  ·rintro j ys G hj ⟨sG,cs,rfl,pc⟩
   refine⟨⟨rfl,rfl,trivial⟩,tTru_if ⟨t,o,j,n,m,16,2880,ties,b,R,by rw[Int.zero_add];rfl,hj,W.same sG,ok,(RA.same sG).k,sh,fun c H1 gc s1=>?_⟩⟩
   refine⟨sG.trans s1,cs++[c],by rw[zP];rfl,?_⟩
   rw[zK (by exact zh8 hj cl)]
   refine PairedApp (Paired.mapP pc fun _ _ z=>s1 _ _ z) (.cons ?_ .nil)
   rw[csts_get]
   exact gc
  ·rintro ys G yl ⟨sG,cs,rfl,pc⟩ l1 hl1
   rw[zAZ (by exact zBX cl)]at pc
   have cl':=pc.length
   have s1:=Same.new (o:=.lst (cs.map V.ref)) hl1
   refine⟨(by show 1<=sizeLine;decide),fun l2 hl2=>?_⟩
   have s2:=Same.new (o:=.lst [V.ref l1]) hl2
   have s12:=s1.trans s2
   have len:ties.length<=120:=W.2
   have co:=csts_ok sh ok len
   have c0:csts ties R m≠[]:=fun z=>by rw[z]at cl;simp at cl;lia
   have bk:BOk [csts ties R m]:=⟨_,sh.ok.dn.1,sh.ok.dnE.mono (by decide),fun row hr' f hf=>by
    rw[zH.mp hr']at hf
    obtain⟨x1,x2,x3,_⟩:=co f hf
    exact⟨x1,x2,x3.mono (by decide)⟩⟩
   have RU:RowsAt (upd (upd G l1 (.lst (cs.map V.ref))) l2 (.lst [V.ref l1])) false l2 [csts ties R m]:=⟨[l1],yaa,.cons ⟨cs,s2 _ _ yaa,Paired.mapP pc fun _ _ z=>s12 _ _ z⟩ .nil⟩
   have sH2:=sG.trans s12
   generalize (upd (upd G l1 (.lst (cs.map V.ref))) l2 (.lst [V.ref l1]))=H2 at *
   obtain⟨D0,_,DD⟩:=Shr.lcmA_ok (us:=Shr.unders [csts ties R m]) (d:=1) (by decide) fun u hu=>by
    obtain⟨row,hr',f,hf,rfl⟩:=Shr.mem_unders.mp hu
    rw[zH.mp hr']at hf
    exact(co f hf).1
   have dk:∀ f∈csts ties R m,0<f.2/\f.2 ∣ Shr.dn [csts ties R m]:=fun f hf=>⟨(co f hf).1,DD _ (Shr.mem_unders.mpr ⟨_,zH.mpr rfl,f,hf,rfl⟩)⟩
   refine⟨l2,false,[csts ties R m],rfl,RU.k,bk,by show 1<=1000;decide,fun row hr'=>by rw[zH.mp hr'];exact zh9 (zl1 p6 rfl) cl,fun tp l4 ts H3 ht gl4 it s3=>?_⟩
   refine⟨tp,_,rfl,SqT.of ht,rfl,_,_,rfl,_,_,rfl,rfl,?_⟩
   cases it with
   | @cons t0 L0 ts' Ls' it0 it1 =>
    cases it1
    have it0:H3 t0=some (.lst (((csts ties R m).map fun f=>f.1 * (Shr.dn [csts ties R m] / f.2)).map V.int)):=it0
    have D0:0<Shr.dn [csts ties R m]:=D0
    generalize Shr.dn [csts ties R m]=B at *
    have sH3:=sH2.trans s3
    refine⟨l4,_,_,_,rfl,rfl,gl4,at0,⟨t0,_,rfl,it0⟩,l4,_,_,_,rfl,rfl,gl4,at0,t0,_,rfl,it0,fun z=>c0 (List.map_eq_nil_iff.mp z),fun mx mm mt=>?_⟩
    obtain⟨k,k1,k2⟩:=first_at mm
    have dr:Dear (csts ties R m) k:=dear_tops D0 dk k1 k2 mt
    have km:k<m:=by have:=dr.lt;exact zh7 this cl
    refine⟨t0,_,mx,k,rfl,rfl,it0,k1,k2,?_⟩
    refine⟨q,_,rfl,sH3 _ _ hq,_,rfl,by rw[zA];exact zh1,by rw[zA];exact zm2 (zh9 p6 em) rfl,?_⟩
    rw[zA,em,show((m:Int)).toNat=m by exact zAC m]
    refine comp_range (lo:=0) (n:=m) (fun j ys G=>G=H3/\ys=((upto j).filter fun a=>!decide (a=(k:Int))).map V.int) (by rw[sizeLine_eq];exact zl1 p6 rfl) ⟨rfl,rfl⟩ ?_ ?_
    ·rintro j ys G4 hj ⟨rfl,rfl⟩
     refine⟨⟨rfl,trivial⟩,rfl,_,rfl,ite2 (fun hc=>?_) (fun hc=>?_)⟩
     ·refine⟨rfl,?_⟩
      have hc':(!decide ((0+(j:Int))=(k:Int)))=true:=by simpa using hc
      rw[upto_snoc,List.filter_append,zP]
      rw[Int.zero_add]at hc'
      rw[zBV (by exact hc')]
      rw[show(0:Int)+(j:Int)=j from Int.zero_add _]
      rfl
     ·refine⟨rfl,?_⟩
      have hc':¬(!decide ((0+(j:Int))=(k:Int)))=true:=by simpa using hc
      rw[Int.zero_add]at hc'
      rw[upto_snoc,List.filter_append,zP,zCE (by exact hc')]
      simp
    ·rintro ys G4 yl ⟨rfl,rfl⟩ l6 hl6
     have s6:=Same.new (o:=.lst (((upto m).filter fun a=>!decide (a=(k:Int))).map V.int)) hl6
     have g6:(upd G4 l6 (.lst (((upto m).filter fun a=>!decide (a=(k:Int))).map V.int))) l6=some (.lst ((oth m k).map V.int)):=yaa
     generalize (upd G4 l6 (.lst (((upto m).filter fun a=>!decide (a=(k:Int))).map V.int)))=H6 at *
     have sH6:=sH3.trans s6
     have ol:=oth_len m k
     refine⟨(by show 1<=sizeLine;decide),fun e1 he1=>?_⟩
     have s7:=Same.new (o:=.lst [V.int (k:Int)]) he1
     refine⟨l6,e1,_,_,rfl,rfl,s7 _ _ g6,yaa,by rw[zA,sizeLine_eq];show _+1<=_;lia,fun a1 ha1=>?_⟩
     have s8:=Same.new (o:=.lst ((oth m k).map V.int++[V.int (k:Int)])) ha1
     have s68:=s7.trans s8
     have a10:H a1=none:=(sH6.trans s7).free ha1
     have g1:(upd (upd H6 e1 (.lst [V.int (k:Int)])) a1 (.lst ((oth m k).map V.int++[V.int (k:Int)]))) a1=some (.lst ((od1 m k).map V.int)):=by rw[yaa];unfold od1;rw[zP];rfl
     have g68:=s68 _ _ g6
     have sH8:=sH6.trans s68
     generalize (upd (upd H6 e1 (.lst [V.int (k:Int)])) a1 (.lst ((oth m k).map V.int++[V.int (k:Int)])))=H8 at *
     refine⟨_,rfl,l6,_,rfl,rfl,SqL.of g68,fun r1 hr1=>?_⟩
     have s9:=Same.new (o:=.lst ((oth m k).map V.int).reverse) hr1
     refine⟨(by show 1<=sizeLine;decide),fun e2 he2=>?_⟩
     have s10:=Same.new (o:=.lst [V.int (k:Int)]) he2
     refine⟨r1,e2,_,_,rfl,rfl,s10 _ _ yaa,yaa,by rw[List.length_reverse,zA,sizeLine_eq];show _+1<=_;lia,fun a2 ha2=>?_⟩
     have s11:=Same.new (o:=.lst (((oth m k).map V.int).reverse++[V.int (k:Int)])) ha2
     have a20:H a2=none:=(sH8.trans (s9.trans s10)).free ha2
     refine⟨(by show 2<=sizeLine;decide),fun l hl=>?_⟩
     have s12':=Same.new (o:=.lst [V.ref a1,V.ref a2]) hl
     refine fin l a1 a2 k _ dr a10 a20 yaa (s12' _ _ (s11 _ _ (s10 _ _ (s9 _ _ g1)))) (s12' _ _ ?_) (sH8.trans (s9.trans (s10.trans (s11.trans s12'))))
     rw[yaa]
     unfold od2
     rw[zP,List.map_reverse]
     rfl
end
open PySem L2 PyProof.Rows
open Rnd (ltF tkr ThrOf uq uqs Lo)
noncomputable abbrev Cn:=List Int×(Int×Int)
noncomputable def ows(ps:List Int)(R:Shr.Rows)(c:Cn):List Int:=R.map fun row=>ps.getD (tkr row c.2 c.1).toNat 0
noncomputable def cutL(ties:List Tie)(ps:List Int)(R:Shr.Rows)(c:Cn):List Tie:=ties.filter (dif (ows ps R c))
noncomputable def wt(ties:List Tie)(ps:List Int)(R:Shr.Rows)(c:Cn):Int:=((cutL ties ps R c).map (·.2.2)).sum
noncomputable def stp(W:Cn->Int)(b:Option Cn)(c:Cn):Option Cn :=
 match b with
 |none=>some c
 |some x=>if W c<W x then some c else some x
noncomputable def turn(W:Cn->Int)(o:List Int)(L:List (Int×Int))(b:Option Cn):Option Cn:=L.foldl (fun b th=>stp W b (o,th)) b
noncomputable def best(W:Cn->Int)(os:List (List Int))(L:List (Int×Int)):Option Cn:=os.foldl (fun b o=>turn W o L b) none
theorem turn_snoc(W:Cn->Int)(o:List Int)(L:List (Int×Int))(th:Int×Int)(b:Option Cn):turn W o (L++[th]) b=stp W (turn W o L b) (o,th):=by
 unfold turn
 rw[List.foldl_append]
 rfl
theorem best_snoc(W:Cn->Int)(os:List (List Int))(o:List Int)(L:List (Int×Int)):best W (os++[o]) L=turn W o L (best W os L):=by
 unfold best
 rw[List.foldl_append]
 rfl
theorem stp_some(W:Cn->Int)(b:Option Cn)(c:Cn):(stp W b c).isSome=true:=by
 unfold stp
 cases b with
 |none=>rfl
 |some x=>dsimp only;split <;> rfl
theorem turn_some(W:Cn->Int)(o:List Int):∀ (L:List (Int×Int)) (b:Option Cn),b.isSome=true\/0<L.length->(turn W o L b).isSome=true
 |[],b,h=>by
  rcases h with h | h
  ·exact h
  ·exact absurd h (by simp)
 |th :: L,b,_=>turn_some W o L _ (.inl (stp_some W b (o,th)))
theorem best_two(W:Cn->Int)(o o':List Int){L:List (Int×Int)}(h:0<L.length):∃ c,best W [o,o'] L=some c:=by
 have:(best W [o,o'] L).isSome=true:=turn_some W o' L _ (.inr h)
 exact Option.isSome_iff_exists.mp this
theorem thr_ex1:∀ {gs fs L:List (Int×Int)},(∀ f∈fs++gs,Lo f)->ThrOf fs L->∃ L',ThrOf (fs++gs) L'
 |[],fs,L,_,h=>⟨L,by rw[zBP];exact h⟩
 |g :: gs,fs,L,lo,h=>by
  have e:fs++g :: gs=(fs++[g])++gs:=by rw[zAI];rfl
  have lo':=lo
  rw[e]at lo ⊢
  by_cases c:0<g.1/\g∉L
  ·exact thr_ex1 lo (h.put (fun x hx=>lo' x (zAQ _ hx)) (lo' g (zL _ (zF ..))) c.1 c.2)
  ·refine thr_ex1 lo (h.skip ?_)
   rcases Decidable.not_and_iff_or_not.mp c with z | z
   ·exact .inl z
   ·exact .inr (Decidable.not_not.mp z)
theorem thr_ex{fs:List (Int×Int)}(lo:∀ f∈fs,Lo f):∃ L,ThrOf fs L:=thr_ex1 (fs:=[]) (L:=[]) lo ⟨.nil,fun f=>by simp⟩
noncomputable def BestAt(H G:Hp)(ties:List Tie)(ps:List Int)(R:Shr.Rows)(v:V):Option Cn->Prop
 |none=>v = .non
 |some c=>Ex5 fun(r cu od ta:Addr) (as:List Addr)=>v = .ref r/\G r=some (.tup [.int (wt ties ps R c),.ref cu,.ref od,.ref ta])/\G cu=some (.lst (as.map V.ref))/\PairT G as (cutL ties ps R c)/\G od=some (.lst (c.1.map V.int))/\G ta=some (frO c.2)/\H cu=none/\H od=none/\OdOk ps.length c.1
theorem BestAt.same{H G G':Hp}{ties:List Tie}{ps:List Int}{R:Shr.Rows}{v:V}{c:Option Cn}(h:BestAt H G ties ps R v c)(s:Same G G'):BestAt H G' ties ps R v c:=by
 cases c with
 |none=>exact h
 |some c =>
  obtain⟨r,cu,od,ta,as,e,h1,h2,h3,h4,h5,h6,h7,h8⟩:=h
  exact⟨r,cu,od,ta,as,e,s _ _ h1,s _ _ h2,h3.same s,s _ _ h4,s _ _ h5,h6,h7,h8⟩
inductive spRdI(vs:List V)(H:Hp)(Q:VK):Prop where
 |mk (b:Bool) (t q o:Addr) (n:Nat) (ties:List Tie) (ps:List Int) (R:Shr.Rows) (h1:vs=[.ref t,.ref q,.ref o]) (h2:WebAt H t n ties) (h3:(∀ x∈ties,TieOk n x)) (h4:ties.Pairwise tieLt) (h5:H q=some (.lst (ps.map V.int))) (h6:RowsAt H b o R) (h7:ShOk 16 2880 n ps.length R) (h8:FrR R) (h9:(∀ row∈R,RwOk ps.length row)) (h10:1<=ps.length) (h11:ps.length<=6) (h12:∀ (v:V) (k:Nat) (L:List (Int×Int)) (H':Hp),Dear (csts ties R ps.length) k->ThrOf R.flatten L->BestAt H H' ties ps R v (best (wt ties ps R) [od1 ps.length k,od2 ps.length k] L)->Same H H'->Q v H')
noncomputable def spRd:Sp:=fun vs H Q _=>spRdI vs H Q
section
variable{P:Program}{w:World}{K:PySem.W.Frag}{mg:Str->Option Value}{base:Heap}{b:Bool}
noncomputable abbrev nRd:List Str:=["web","posts","shares","best","order","threshold","cut","weight"]
theorem scRd:FnScope nRd ["web","posts","shares"] (defScope sRounded):=⟨rfl,rfl,rfl,by decide +kernel,rfl,by decide +kernel,by decide +kernel⟩
theorem ok_rd{f g1 g2 g3 g4 g5:Addr}{fd d1 d2 d3 d4 d5:FuncData}(F:Fun K "rounded" "rounded" sRounded f fd)(GD:CalF P w K mg base 4 "orders_for" ["web","posts","shares"] spOf g1 d1)(GT:CalF P w K mg base 3 "thresholds" ["shares"] spThQ g2 d2)(GC:CalF P w K mg base 1 "cut_by" ["web","owners"] spCb g3 d3)(GB:CalF P w K mg base 3 "owners_by" ["posts","shares","order","threshold"] spObQ g4 d4)(GW:CalF P w K mg base 2 "weight_of" ["web","cut"] spWg g5 d5):FnOk P w K mg base CX0 5 f fd ["web","posts","shares"] spRd:=by
 refine F.ok scRd (fun vs H Q E h=>?_) (fun cdv A outer s H vs Q E hr h=>?_)
 ·obtain⟨b,t,q,o,n,ties,ps,R,rfl,_⟩:=h
  rfl
 ·obtain⟨b,t,q,o,n,ties,ps,R,rfl,W,ok,pw,hq,RA,sh,fr,rwk,p1,p6,fin⟩:=h
  have hr1:Room 1 _:=hr.mono (by decide)
  have hr2:Room 2 _:=hr.mono (by decide)
  have hr3:Room 3 _:=hr.mono (by decide)
  have hr4:Room 4 _:=hr
  obtain⟨L,tL⟩:=thr_ex fr.lo
  have Lf:∀ f∈L,fitsB 16 f.1/\fitsB 16 f.2:=fun f hf=>fr.fit f ((tL.mem f).mp hf).1
  have len:ties.length<=120:=W.2
  have Rl:=sh.len
  have nb:=sh.nb
  refine⟨_,(yad (ps_set (i:=3) scRd.nd rfl (Or.inl rfl) pe_non)
   (yad (ps_for PassesOwn.never rfl (pi_list (pe_call GD.ok hr4 rfl GD.mg GD.kp GD.bd .nil pass0 (@yac _ _ _ _ _ _ (pvQ 0) (@yac _ _ _ _ _ _ (pvQ 1) (@yac _ _ _ _ _ _ (pvQ 2) yab))))) (pg_name (i:=4) scRd.nd rfl (Or.inl rfl))
   (pss_one (ps_for PassesOwn.never rfl (pi_list (pe_call GT.ok hr3 rfl GT.mg GT.kp GT.bd .nil pass0 (@yac _ _ _ _ _ _ (pvQ 2) yab))) (pg_name (i:=5) scRd.nd rfl (Or.inl rfl))
   (yad (ps_set (i:=6) scRd.nd rfl (Or.inl rfl) (pe_call GC.ok hr1 rfl GC.mg GC.kp GC.bd .nil pass0 (@yac _ _ _ _ _ _ (pvQ 0) (@pa_call _ _ _ _ _ _ _ _ (pe_call GB.ok hr3 rfl GB.mg GB.kp GB.bd .nil pass0 (@yac _ _ _ _ _ _ (pvQ 1) (@yac _ _ _ _ _ _ (pvQ 2) (@yac _ _ _ _ _ _ (pvQ 4) (@yac _ _ _ _ _ _ (pvQ 5) yab))))) yab))))
   (yad (ps_set (i:=7) scRd.nd rfl (Or.inl rfl) (pe_call GW.ok hr2 rfl GW.mg GW.kp GW.bd .nil pass0 (@yac _ _ _ _ _ _ (pvQ 0) (@yac _ _ _ _ _ _ (pvQ 6) yab))))
   (pss_one (ps_if (PW.pt (pw_or (pt_cmp (pc_isN (pvQ 3))) (pw_or1 (pt_cmpR op_lt (pvQ 7) (@pe_ix _ _ _ _ _ _ _ ix_tupH (pvQ 3) yae (fun _ _=>rfl)) (nomark _))))) (pss_one (ps_set (i:=3) scRd.nd rfl (Or.inl rfl) (@pe_tup _ _ _ _ _ (@yac _ _ _ _ _ _ (pvQ 7) (@yac _ _ _ _ _ _ (pvQ 6) (@yac _ _ _ _ _ _ (pvQ 4) (@yac _ _ _ _ _ _ (pvQ 5) yab))))))) pss_nil)))))))
   (pss_one (ps_ret (pvQ 3))))),?_⟩
  refine⟨b,t,q,o,n,ties,ps,R,rfl,W,ok,hq,RA,sh,p1,p6,fun l a1 a2 k H1 dr a10 a20 gl ga1 ga2 s1=>?_⟩
  have km:k<ps.length:=by have:=dr.lt;rw[csts_len]at this;exact this
  have pO:Paired (fun a od=>H1 a=some (.lst (od.map V.int))/\H a=none/\OdOk ps.length od) [a1,a2] [od1 ps.length k,od2 ps.length k]:=.cons ⟨ga1,a10,od1_ok km (by exact zl1 p6 rfl)⟩ (.cons ⟨ga2,a20,od2_ok km (by exact zl1 p6 rfl)⟩ .nil)
  replace fin:=fun v H'=>fin v k L H' dr tL
  generalize eo:[od1 ps.length k,od2 ps.length k]=os at pO fin
  generalize ea:[a1,a2]=aa at pO
  have gl:H1 l=some (.lst (aa.map V.ref)):=by rw[<- ea];exact gl
  have al:=pO.length
  have a2l:aa.length=2:=by rw[<- ea];rfl
  refine⟨l,rfl,⟨_,SqL.of gl⟩,?_⟩
  refine for_list (K:=K) (a:=l) (xs:=aa.map V.ref) (fun i σ G=>Ex5 fun(v:V) (v4 v5 v6 v7:Option V)=>σ=[some (.ref t),some (.ref q),some (.ref o),some v,v4,v5,v6,v7]/\Same H1 G/\BestAt H G ties ps R v (best (wt ties ps R) (os.take i) L)) ⟨_,_,_,_,_,rfl,Same.refl _,rfl⟩ (fun i σ G _ z=>by obtain⟨_,_,_,_,_,_,z,_⟩:=z;exact SqL.of (z _ _ gl)) ?_ ?_
  ·rintro i x σ G hx ⟨v,v4,v5,v6,v7,rfl,sG,bG⟩
   obtain⟨il,e⟩:=zI.mp hx
   rw[zA]at il
   rw[zU]at e
   subst e
   have io:i<os.length:=by exact zh7 il al
   obtain⟨gai,ai0,oo⟩:=Paired.at pO i il io
   have sHG:=s1.trans sG
   refine⟨b,o,R,rfl,RA.same sHG,fr,fun l5 L5 G2 hl5 fL5 tL5 s2=>?_⟩
   have eL:L5=L:=tL5.one fr.lo tL
   subst eL
   obtain⟨ts,gl5,pts⟩:=fL5
   have tl:=pts.length
   refine⟨l5,rfl,⟨_,SqL.of gl5⟩,?_⟩
   refine for_list (K:=K) (a:=l5) (xs:=ts.map V.ref) (fun j σ G'=>Ex4 fun(v:V) (v5 v6 v7:Option V)=>σ=[some (.ref t),some (.ref q),some (.ref o),some v,some (.ref aa[i]),v5,v6,v7]/\Same G2 G'/\BestAt H G' ties ps R v (turn (wt ties ps R) os[i] (L5.take j) (best (wt ties ps R) (os.take i) L5))) ⟨_,_,_,_,rfl,Same.refl _,bG.same s2⟩ (fun j σ G' _ z=>by obtain⟨_,_,_,_,_,z,_⟩:=z;exact SqL.of (z _ _ gl5)) ?_ ?_
   ·rintro j x σ G' hx ⟨v,v5,v6,v7,rfl,s3,b3⟩
    obtain⟨jl,e⟩:=zI.mp hx
    rw[zA]at jl
    rw[zU]at e
    subst e
    have jL:j<L5.length:=by exact zh7 jl tl
    have gth:=s3 _ _ (Paired.at pts j jl jL)
    have sH3:=(sHG.trans s2).trans s3
    obtain⟨f1,f2⟩:=Lf _ (zS jL)
    have hst:turn (wt ties ps R) os[i] (L5.take (j+1)) (best (wt ties ps R) (os.take i) L5)=stp (wt ties ps R) (turn (wt ties ps R) os[i] (L5.take j) (best (wt ties ps R) (os.take i) L5)) (os[i],L5[j]):=by rw[zK jL,turn_snoc]
    generalize turn (wt ties ps R) os[i] (L5.take j) (best (wt ties ps R) (os.take i) L5)=bb at b3 hst
    refine⟨b,q,o,aa[i],ts[j],ps,R,os[i],L5[j],rfl,sH3 _ _ hq,RA.same sH3,s3 _ _ (s2 _ _ (sG _ _ gai)),gth,rwk,by exact zh9 nb Rl,oo,f1.mono (by decide),f2.mono (by decide),fun u G3 gu su=>?_⟩
    have sH4:=sH3.trans su
    refine⟨t,u,n,ties,ows ps R (os[i],L5[j]),rfl,W.same sH4,ok,gu,by unfold ows;rw[zA];exact Rl,fun l6 as6 G4 hl6 gl6 pt6 s4=>?_⟩
    have sH5:=sH4.trans s4
    refine⟨t,l6,n,ties,cutL ties ps R (os[i],L5[j]),as6,rfl,W.same sH5,pw,gl6,pt6,zAE (zCA ..) len,fun x hx=>(zBA.mp hx).1,fun G5 s5=>?_⟩
    have sH6:=sH5.trans s5
    have b5:=((b3.same su).same s4).same s5
    have new:∀ r,G5 r=none->BestAt H (upd G5 r (.tup [V.int (wt ties ps R (os[i],L5[j])),V.ref l6,V.ref aa[i],V.ref ts[j]])) ties ps R (.ref r) (some (os[i],L5[j])):=fun r hr=>by
     have sr:=Same.new (o:=.tup [V.int (wt ties ps R (os[i],L5[j])),V.ref l6,V.ref aa[i],V.ref ts[j]]) hr
     exact⟨r,l6,aa[i],ts[j],as6,rfl,yaa,sr _ _ (s5 _ _ gl6),(pt6.same s5).same sr,sr _ _ (s5 _ _ (s4 _ _ (su _ _ (s3 _ _ (s2 _ _ (sG _ _ gai)))))),sr _ _ (s5 _ _ (s4 _ _ (su _ _ gth))),sH4.free hl6,ai0,oo⟩
    have s35:=((s3.trans su).trans s4).trans s5
    rw[hst]
    cases bb with
    |none =>
     have b5:v = .non:=b5
     subst b5
     refine⟨_,rfl,ite2 (fun _=>?_) (fun hc=>absurd rfl hc)⟩
     refine⟨(by show 4<=sizeLine;decide),fun r hr=>?_⟩
     exact⟨_,_,_,_,rfl,s35.trans (Same.new hr),new r hr⟩
    |some c =>
     obtain⟨r,cu,od,ta,as,rfl,h1,h2,h3,h4,h5,h6,h7,h8⟩:=id b5
     refine⟨_,rfl,ite2 (fun hc=>?_) (fun _=>?_)⟩
     ·exfalso
      simp at hc
     refine⟨r,_,_,_,rfl,rfl,h1,at0,_,_,rfl,rfl,_,rfl,ite2 (fun hc=>?_) (fun hc=>?_)⟩
     ·have hc:wt ties ps R (os[i],L5[j])<wt ties ps R c:=of_decide_eq_true hc
      refine⟨(by show 4<=sizeLine;decide),fun r hr=>?_⟩
      refine⟨_,_,_,_,rfl,s35.trans (Same.new hr),?_⟩
      show BestAt _ _ _ _ _ _ (if wt ties ps R (os[i],L5[j])<wt ties ps R c then some (os[i],L5[j])else some c)
      rw[if_pos hc]
      exact new r hr
     ·have hc:¬ wt ties ps R (os[i],L5[j])<wt ties ps R c:=fun z=>hc (decide_eq_true z)
      refine⟨_,_,_,_,rfl,s35,?_⟩
      show BestAt _ _ _ _ _ _ (if wt ties ps R (os[i],L5[j])<wt ties ps R c then some (os[i],L5[j])else some c)
      rw[if_neg hc]
      exact b5
   ·rintro σ G' ⟨v,v5,v6,v7,rfl,s3,b3⟩
    rw[zA,tl,zAN]at b3
    refine⟨v,_,_,_,_,rfl,sG.trans (s2.trans s3),?_⟩
    rw[zK io,best_snoc]
    exact b3
  ·rintro σ G ⟨v,v4,v5,v6,v7,rfl,sG,bG⟩
   rw[zA,al,zAN]at bG
   exact fin v _ bG (s1.trans sG)
end
open PySem L2 PyProof.Rows
inductive Rch(ties:List Tie):Int->Int->Prop
 |refl (a:Int):Rch ties a a
 |up {a b c w:Int}:(a,b,w)∈ties->Rch ties b c->Rch ties a c
 |dn {a b c w:Int}:(a,b,w)∈ties->Rch ties a c->Rch ties b c
theorem Rch.trans{ties:List Tie}{a b c:Int}(h:Rch ties a b):Rch ties b c->Rch ties a c:=by
 induction h with
 |refl=>exact id
 |up m _ ih=>exact fun z=>.up m (ih z)
 |dn m _ ih=>exact fun z=>.dn m (ih z)
theorem Rch.symm{ties:List Tie}{a b:Int}(h:Rch ties a b):Rch ties b a:=by
 induction h with
 |refl=>exact .refl _
 |up m _ ih=>exact ih.trans (.dn m (.refl _))
 |dn m _ ih=>exact ih.trans (.up m (.refl _))
theorem Rch.inv{ties:List Tie}{α:Type}{f:Int->α}(h:∀ a b w,(a,b,w)∈ties->f a=f b){a b:Int}(r:Rch ties a b):f a=f b:=by
 induction r with
 |refl=>rfl
 |up m _ ih=>exact(h _ _ _ m).trans ih
 |dn m _ ih=>exact(h _ _ _ m).symm.trans ih
theorem Rch.range{ties:List Tie}{n:Nat}(ok:∀ x∈ties,TieOk n x){a b:Int}(r:Rch ties a b):0<=a->a<n->0<=b/\b<n:=by
 induction r with
 |refl=>exact fun h1 h2=>⟨h1,h2⟩
 | @up a b c w m _ ih =>
  obtain⟨o1,o2,o3,_⟩:=ok _ m
  have o1:0<=a:=o1
  have o2:a<b:=o2
  intro _ _
  exact ih (by lia) o3
 | @dn a b c w m _ ih =>
  obtain⟨o1,o2,o3,_⟩:=ok _ m
  have o2:a<b:=o2
  have o3:b <(n:Int):=o3
  intro _ _
  exact ih o1 (by lia)
noncomputable def hAt(hs:List Int)(i:Int):Int:=hs.getD i.toNat 0
theorem hAt_nat{hs:List Int}{i:Nat}(h:i<hs.length):hAt hs (i:Int)=hs[i]:=by
 unfold hAt
 rw[zAC,zAL,zE h]
 rfl
structure IsHeads(n:Nat)(ties:List Tie)(hs:List Int):Prop where
 len:hs.length=n
 rch:∀ i:Int,0<=i->i<n->Rch ties i (hAt hs i)
 least:∀ i:Int,0<=i->i<n->∀ j,Rch ties i j->hAt hs i<=j
noncomputable def besideOf(ties:List Tie)(i:Int):List (Int×Int):=ties.flatMap fun x=>if x.1=i then [(x.2.1,x.2.2)]else if x.2.1=i then [(x.1,x.2.2)]else []
theorem besideOf_snoc{ties:List Tie}{x:Tie}{i:Int}:besideOf (ties++[x]) i=besideOf ties i++if x.1=i then [(x.2.1,x.2.2)]else if x.2.1=i then [(x.1,x.2.2)]else []:=by
 unfold besideOf
 rw[List.flatMap_append,List.flatMap_cons,List.flatMap_nil,zBP]
theorem mem_beside{ties:List Tie}{n:Nat}(ok:∀ x∈ties,TieOk n x){i f w:Int}:(f,w)∈besideOf ties i↔(i,f,w)∈ties\/(f,i,w)∈ties:=by
 unfold besideOf
 rw[List.mem_flatMap]
 refine⟨fun⟨x,hx,h⟩=>?_,fun h=>?_⟩
 ·obtain⟨a,b,c⟩:=x
  by_cases e:a=i
  ·rw[if_pos e]at h
   have:=zH.mp h
   injection this with e1 e2
   left
   rw[<- e,e1,e2]
   exact hx
  ·rw[if_neg e]at h
   by_cases e':b=i
   ·rw[if_pos e']at h
    have:=zH.mp h
    injection this with e1 e2
    right
    rw[<- e',e1,e2]
    exact hx
   ·rw[if_neg e']at h
    cases h
 ·rcases h with h | h
  ·exact⟨_,h,by rw[if_pos rfl];exact zH.mpr rfl⟩
  ·have:=(ok _ h).2.1
   have ne:f≠i:=by
    intro z
    rw[z]at this
    exact absurd this (Int.lt_irrefl _)
   exact⟨_,h,by rw[if_neg ne,if_pos rfl];exact zH.mpr rfl⟩
theorem beside_len:∀ (ties:List Tie) (i:Int),(besideOf ties i).length<=ties.length
 |[],_=>zJ _
 |x :: r,i=>by
  unfold besideOf
  rw[List.flatMap_cons,zO]
  have:=beside_len r i
  unfold besideOf at this
  have h2:(if x.1=i then [(x.2.1,x.2.2)]else if x.2.1=i then [(x.1,x.2.2)]else []).length<=1:=by
   split
   ·exact zJ _
   ·split
    ·exact zJ _
    ·exact zAT _
  simp only[zAO]
  lia
noncomputable def oV:Option Int->V
 |none=>.non
 |some i=>.int i
noncomputable def oAt(hv:List (Option Int))(i:Int):Option Int:=(hv[i.toNat]?).join
theorem oAt_set{hv:List (Option Int)}{j:Nat}{x:Option Int}(hj:j<hv.length)(i:Int)(h0:0<=i):oAt (hv.set j x) i=if i=(j:Int)then x else oAt hv i:=by
 unfold oAt
 by_cases e:i=(j:Int)
 ·subst e
  rw[if_pos rfl,zAC,List.getElem?_set_self hj]
  rfl
 ·rw[if_neg e,List.getElem?_set_ne (by lia)]
theorem oAt_get{hv:List (Option Int)}{j:Nat}(hj:j<hv.length):hv[j]?=some (oAt hv j):=by
 unfold oAt
 rw[zAC,zE hj]
 rfl
theorem nones_set:∀ {hv:List (Option Int)}{j:Nat}{x:Int},hv[j]?=some none->(hv.set j (some x)).countP (·.isNone)+1=hv.countP (·.isNone)
 |[],_,_,h=>by simp at h
 |a :: r,0,x,h=>by
  have e:a=none:=by simpa using h
  subst e
  simp
 |a :: r,j+1,x,h=>by
  have ih:=nones_set (hv:=r) (j:=j) (x:=x) (by simpa using h)
  rw[List.set_cons_succ,List.countP_cons,List.countP_cons]
  lia
noncomputable def Clo(ties:List Tie)(hv:List (Option Int)):Prop:=∀ a b w,(a,b,w)∈ties->oAt hv a=oAt hv b
structure SI(n:Nat)(ties:List Tie)(h0 hv:List (Option Int))(head:Int)(ws:List Int):Prop where
 len:hv.length=n
 old:∀ v:Int,0<=v->v<n->oAt h0 v≠none->oAt hv v=oAt h0 v
 new:∀ v:Int,0<=v->v<n->oAt h0 v=none->oAt hv v=none\/(oAt hv v=some head/\Rch ties head v)
 hd:oAt hv head=some head
 wait:∀ w∈ws,0<=w/\w<n/\oAt h0 w=none/\oAt hv w=some head
noncomputable def Done(ties:List Tie)(hv:List (Option Int))(v:Int):Prop:=∀ x∈besideOf ties v,oAt hv x.1≠none
structure Sprd(n:Nat)(ties:List Tie)(h0 hv:List (Option Int))(head:Int):Prop where
 si:SI n ties h0 hv head []
 clo:Clo ties hv
theorem SI.fin{n:Nat}{ties:List Tie}{h0 hv:List (Option Int)}{head:Int}(S:SI n ties h0 hv head [])(ok:∀ x∈ties,TieOk n x)(cl:Clo ties h0)(dn:∀ v:Int,0<=v->v<n->oAt h0 v=none->oAt hv v≠none->Done ties hv v):Sprd n ties h0 hv head:=by
 refine⟨S,fun a b w m=>?_⟩
 obtain⟨o1,o2,o3,_⟩:=ok _ m
 have o2:a<b:=o2
 have o3:b <(n:Int):=o3
 have o1:0<=a:=o1
 have c:=cl a b w m
 by_cases z:oAt h0 a=none
 ·have zb:oAt h0 b=none:=by rw[<- c];exact z
  rcases S.new a o1 (by lia) z with p |⟨p,_⟩
  ·rcases S.new b (by lia) o3 zb with q |⟨q,_⟩
   ·rw[p,q]
   ·exact absurd p (dn b (by lia) o3 zb (by rw[q];exact fun z=>nomatch z) (a,w) ((mem_beside ok).mpr (.inr m)))
  ·rcases S.new b (by lia) o3 zb with q |⟨q,_⟩
   ·exact absurd q (dn a o1 (by lia) z (by rw[p];exact fun z=>nomatch z) (b,w) ((mem_beside ok).mpr (.inl m)))
   ·rw[p,q]
 ·rw[S.old a o1 (by lia) z,S.old b (by lia) o3 (by rw[<- c];exact z),c]
theorem SI.put{n:Nat}{ties:List Tie}{h0 hv:List (Option Int)}{head:Int}{ws:List Int}{j:Nat}(S:SI n ties h0 hv head ws)(hj:j<n)(z:oAt hv j=none)(r:Rch ties head j):SI n ties h0 (hv.set j (some head)) head (ws++[(j:Int)]):=by
 have hl:j<hv.length:=by rw[S.len];exact hj
 have z0:oAt h0 j=none:=by
  cases e:oAt h0 j with
  |none=>rfl
  |some y =>
   have:=S.old j (by exact zAY j) (by exact zi2 hj) (by rw[e];exact fun z=>nomatch z)
   rw[z,e]at this
   cases this
 refine⟨by rw[List.length_set];exact S.len,fun v v0 v1 hv'=>?_,fun v v0 v1 hv'=>?_,?_,fun w hw=>?_⟩
 ·rw[oAt_set hl v v0]
  split
  ·rename_i e
   rw[e]at hv'
   exact absurd z0 hv'
  ·exact S.old v v0 v1 hv'
 ·rw[oAt_set hl v v0]
  split
  ·rename_i e
   subst e
   exact .inr ⟨rfl,r⟩
  ·exact S.new v v0 v1 hv'
 ·by_cases h0':0<=head
  ·rw[oAt_set hl head h0']
   split
   ·rfl
   ·exact S.hd
  ·have hd:=S.hd
   have t:head.toNat=0:=by lia
   unfold oAt at hd ⊢
   rw[t]at hd ⊢
   by_cases j0:j=0
   ·subst j0
    rw[List.getElem?_set_self hl]
    rfl
   ·rw[List.getElem?_set_ne j0]
    exact hd
 ·rcases zX.mp hw with m | m
  ·obtain⟨a,b,c,d⟩:=S.wait w m
   refine⟨a,b,c,?_⟩
   rw[oAt_set hl w a]
   split
   ·rfl
   ·exact d
  ·have e:=zH.mp m
   subst e
   exact⟨by exact zAY j,by exact zi2 hj,z0,by rw[oAt_set hl _ (by exact zAY j),if_pos rfl]⟩
theorem Done.mono{ties:List Tie}{hv:List (Option Int)}{n:Nat}{head:Int}{j:Nat}(ok:∀ x∈ties,TieOk n x)(hj:j<hv.length){v:Int}(d:Done ties hv v):Done ties (hv.set j (some head)) v:=fun x hx=>by
 have x0:0<=x.1:=by
  obtain⟨f,w⟩:=x
  rcases(mem_beside ok).mp hx with m | m
  ·obtain⟨o1,o2,_⟩:=ok _ m
   have o1:0<=v:=o1
   have o2:v<f:=o2
   show 0<=f
   lia
  ·exact(ok _ m).1
 rw[oAt_set hj _ x0]
 split
 ·exact fun z=>nomatch z
 ·exact d x hx
structure HI(n:Nat)(ties:List Tie)(hv:List (Option Int))(k:Nat):Prop where
 len:hv.length=n
 clo:Clo ties hv
 rch:∀ v h:Int,0<=v->v<n->oAt hv v=some h->Rch ties v h/\∀ j,Rch ties v j->h<=j
 all:∀ v:Int,0<=v->v<k->oAt hv v≠none
theorem HI.skip{n:Nat}{ties:List Tie}{hv:List (Option Int)}{k:Nat}(S:HI n ties hv k)(h:oAt hv k≠none):HI n ties hv (k+1) :=
 ⟨S.len,S.clo,S.rch,fun v v0 v1=>by
  by_cases e:v=(k:Int)
  ·rw[e];exact h
  ·exact S.all v v0 (by lia)⟩
theorem HI.next{n:Nat}{ties:List Tie}{h0 hv:List (Option Int)}{k:Nat}(ok:∀ x∈ties,TieOk n x)(S:HI n ties h0 k)(kn:k<n)(D:Sprd n ties h0 hv k):HI n ties hv (k+1):=by
 refine⟨D.si.len,D.clo,fun v h v0 v1 e=>?_,fun v v0 v1=>?_⟩
 ·by_cases z:oAt h0 v=none
  ·rcases D.si.new v v0 v1 z with q |⟨q,r⟩
   ·rw[q]at e
    cases e
   ·rw[q]at e
    injection e with e
    subst e
    refine⟨r.symm,fun j hj=>?_⟩
    obtain⟨j0,j1⟩:=hj.range ok v0 v1
    have c:oAt h0 v=oAt h0 j:=Rch.inv S.clo hj
    rw[z]at c
    by_cases lt:j <(k:Int)
    ·exact absurd c.symm (S.all j j0 lt)
    ·lia
  ·rw[D.si.old v v0 v1 z]at e
   exact S.rch v h v0 v1 e
 ·by_cases e:v=(k:Int)
  ·rw[e,D.si.hd]
   exact fun z=>nomatch z
  ·have:=S.all v v0 (by lia)
   rw[D.si.old v v0 (by lia) this]
   exact this
theorem HI.fin{n:Nat}{ties:List Tie}{hv:List (Option Int)}(S:HI n ties hv n):∃ hs:List Int,hv=hs.map some/\IsHeads n ties hs:=by
 have all:∀ x∈hv,x≠none:=fun x hx=>by
  obtain⟨i,hi,e⟩:=zBE hx
  have:=S.all i (by exact zAY i) (by have:=S.len;exact zi2 (zh7 hi this))
  have g:=oAt_get hi
  rw[zE hi]at g
  injection g with g
  rw[<- e,g]
  exact this
 have ex:hv=(hv.map (·.getD 0)).map some:=by
  rw[zAW]
  have:hv.map (some ∘ fun x=>x.getD 0)=hv.map id:=zAP fun x hx=>by
   cases e:x with
   |none=>exact absurd e (all x hx)
   |some y=>rfl
  rw[this,List.map_id]
 have at':∀ i:Int,0<=i->i<n->oAt hv i=some (hAt (hv.map (·.getD 0)) i):=fun i i0 i1=>by
  obtain⟨j,rfl⟩:∃ j:Nat,i=(j:Int):=⟨i.toNat,by exact zh3 i0⟩
  have jl:j <(hv.map (·.getD 0)).length:=by rw[zA,S.len];exact zi3 i1
  rw[hAt_nat jl]
  have e2:(hv.map (·.getD 0))[j]=(oAt hv j).getD 0:=by
   rw[zU]
   have jl2:j<hv.length:=by rw[S.len];exact zi3 i1
   have g:=oAt_get jl2
   rw[zE jl2]at g
   injection g with g
   rw[g]
  rw[e2]
  cases e:oAt hv j with
  |none=>exact absurd e (S.all j (by exact i0) (by exact i1))
  |some y=>rfl
 exact⟨_,ex,by rw[zA];exact S.len,fun i i0 i1=>(S.rch i _ i0 i1 (at' i i0 i1)).1,fun i i0 i1=>(S.rch i _ i0 i1 (at' i i0 i1)).2⟩
open PySem L2 PyProof.Rows
noncomputable def pairOf(x:Tie):List Int:=[x.1,x.2.1]
theorem sl_tupK{X:Cx}(K:PySem.W.Frag)(e:X.K=K):SlR X (rSlT K):=e▸sl_tup
noncomputable def BesAt(H:Hp)(as:List Addr)(ties:List Tie):Prop:=∀ (i:Nat) (h:i<as.length),∃ cs:List Addr,H as[i]=some (.lst (cs.map V.ref))/\Paired (fun c (x:Int×Int)=>H c=some (.tup [.int x.1,.int x.2])) cs (besideOf ties i)
theorem BesAt.same{H H':Hp}{as:List Addr}{ties:List Tie}(B:BesAt H as ties)(s:Same H H'):BesAt H' as ties:=fun i h=>by
 obtain⟨cs,e,p⟩:=B i h
 exact⟨cs,s _ _ e,Paired.mapP p fun c x z=>s _ _ z⟩
theorem BesAt.kept{H H':Hp}{as:List Addr}{ties:List Tie}{p:Addr}{hv:List (Option Int)}(B:BesAt H as ties)(k:Kept p H H')(hp:H p=some (.lst (hv.map oV)))(na:p∉as):BesAt H' as ties:=fun i h=>by
 obtain⟨cs,e,q⟩:=B i h
 exact⟨cs,k _ _ (fun z=>na (z▸zS h)) e,Paired.mapP q fun c x z=>k _ _ (ne_of z hp (by intro z;cases z)) z⟩
theorem BesAt.put{H:Hp}{as:List Addr}{g:Int->List (Int×Int)}{j:Nat}{y:Int×Int}{tp:Addr}{cs0:List Addr}(nd:as.Nodup)(hj:j<as.length)
  (B:∀ (i:Nat) (h:i<as.length),∃ cs:List Addr,H as[i]=some (.lst (cs.map V.ref))/\Paired (fun c (x:Int×Int)=>H c=some (.tup [.int x.1,.int x.2])) cs (g i)) (e0:H as[j]=some (.lst (cs0.map V.ref))) (ht:H tp=some (.tup [.int y.1,.int y.2])) :
  ∀ (i:Nat) (h:i<as.length),∃ cs:List Addr,(upd H as[j] (.lst (cs0.map V.ref++[.ref tp]))) as[i]=some (.lst (cs.map V.ref))/\Paired (fun c (x:Int×Int)=>(upd H as[j] (.lst (cs0.map V.ref++[.ref tp]))) c=some (.tup [.int x.1,.int x.2])) cs (g i++if(i:Int)=j then [y]else []):=fun i h=>by
 obtain⟨cs,e,p⟩:=B i h
 have p2:Paired (fun c (x:Int×Int)=>(upd H as[j] (.lst (cs0.map V.ref++[.ref tp]))) c=some (.tup [.int x.1,.int x.2])) cs (g i):=Paired.mapP p fun c x z=>by rw[upd_ne (ne_of z e0 (by intro z;cases z))];exact z
 by_cases ij:i=j
 ·subst ij
  rw[e]at e0
  have ec:cs0=cs:=by
   injection e0 with e0
   injection e0 with e0
   have:=congrArg (List.map (fun v=>match v with | V.ref a=>a | _=>0)) e0
   rw[zAW,zAW]at this
   have idl:∀ l:List Addr,l.map ((fun v=>match v with | V.ref a=>a | _=>0) ∘ V.ref)=l:=fun l=>by
    induction l with
    |nil=>rfl
    |cons a r ih=>rw[zN,ih];rfl
   rw[idl,idl]at this
   exact this.symm
  subst ec
  refine⟨cs0++[tp],by rw[yaa,zP];rfl,?_⟩
  rw[if_pos rfl]
  exact Paired.snoc p2 (by rw[upd_ne (ne_of ht e (by intro z;cases z))];exact ht)
 ·have ne:as[i]≠as[j]:=fun z=>ij ((List.getElem_inj nd).mp z)
  refine⟨cs,by rw[upd_ne ne];exact e,?_⟩
  rw[if_neg (by lia),zBP]
  exact p2
inductive spBesI(vs:List V)(H:Hp)(Q:VK):Prop where
 |mk (t:Addr) (n:Nat) (ties:List Tie) (h1:vs=[.ref t]) (h2:WebAt H t n ties) (h3:(∀ x∈ties,TieOk n x)) (h4:n<=1000) (h5:∀ (b:Addr) (as:List Addr) (H':Hp),H' b=some (.lst (as.map V.ref))->as.length=n->BesAt H' as ties->Same H H'->Q (.ref b) H')
noncomputable def spBes:Sp:=fun vs H Q _=>spBesI vs H Q
section
variable{P:Program}{w:World}{K:PySem.W.Frag}{mg:Str->Option Value}{base:Heap}
noncomputable abbrev nBes:List Str:=["web","many","ties","beside","a","b","weight"]
theorem scBes:FnScope nBes ["web"] (defScope sBesideEach):=⟨rfl,rfl,rfl,by decide +kernel,rfl,by decide +kernel,by decide +kernel⟩
theorem csBes:CompScope ["place"] [none] nBes (defScope sBesideEach) (scO [(".0",.local),("place",.local)]):=⟨rfl,by decide +kernel,by decide +kernel,by decide +kernel,rfl,capB_ok (by decide +kernel)⟩
theorem ndBes:(["place"]:List Str).Nodup:=by decide +kernel
theorem ok_bes{f:Addr}{fd:FuncData}(F:Fun K "beside_each" "beside_each" sBesideEach f fd)(T:Txt mg):FnOk P w K mg base CX0 1 f fd ["web"] spBes:=by
 refine F.ok scBes (fun vs H Q E h=>?_) (fun cdv A outer s H vs Q E hr h=>?_)
 ·obtain⟨t,n,ties,rfl,_⟩:=h
  rfl
 ·obtain⟨t,n,ties,rfl,W,ok,nb,q⟩:=h
  obtain⟨⟨ts,bs,h1,h2,h3⟩,len⟩:=id W
  have h3l:bs.length=ties.length:=h3.length
  refine⟨_,yad (ps_asg (pvQ 0) (pg_tup (n:=2) rfl (pgs_cons (pg_name (i:=1) scBes.nd rfl (Or.inl rfl)) (pgs_cons (pg_name (i:=2) scBes.nd rfl (Or.inl rfl)) pgs_nil))))
   (yad (ps_comp (i:=3) scBes.nd rfl (Or.inl rfl) rfl csBes (pi_range1 rfl T.range (@yac _ _ _ _ _ _ (pvQ 1) yab)) (fun C s H fp=>pg_name (i:=0) ndBes rfl (Or.inl rfl)) (fun C s H fp=>pf_nil) (fun C s H fp=>@pe_lst _ _ _ _ yab))
   (yad (ps_for PassesOwn.never rfl (pi_tup (pvQ 2)) (pg_tup (n:=3) rfl (pgs_cons (pg_name (i:=4) scBes.nd rfl (Or.inl rfl)) (pgs_cons (pg_name (i:=5) scBes.nd rfl (Or.inl rfl)) (pgs_cons (pg_name (i:=6) scBes.nd rfl (Or.inl rfl)) pgs_nil))))
    (yad (ps_expr (pe_bm PySem.F.plainAttrs_list PySem.F.slot_list_append PySem.F.type_list_append mt_append (pe_ix ix_list (pvQ 3) (pvQ 4) (fun _ _=>rfl)) (@pa_tup _ _ _ _ _ _ _ (@pe_tup _ _ _ _ _ (@yac _ _ _ _ _ _ (pvQ 5) (@yac _ _ _ _ _ _ (pvQ 6) yab))) yab)))
    (pss_one (ps_expr (pe_bm PySem.F.plainAttrs_list PySem.F.slot_list_append PySem.F.type_list_append mt_append (pe_ix ix_list (pvQ 3) (pvQ 5) (fun _ _=>rfl)) (@pa_tup _ _ _ _ _ _ _ (@pe_tup _ _ _ _ _ (@yac _ _ _ _ _ _ (pvQ 4) (@yac _ _ _ _ _ _ (pvQ 6) yab))) yab))))))
   (pss_one (ps_ret (pvQ 3))))),?_⟩
  refine⟨t,_,rfl,SqT.of h1,rfl,_,_,rfl,_,_,rfl,rfl,?_⟩
  refine⟨_,rfl,by exact zh1,by exact zm2 nb rfl,?_⟩
  rw[show((n:Int)).toNat=n by exact zAC n]
  refine comp_range (lo:=0) (n:=n) (fun i ys G=>Same H G/\∃ as:List Addr,ys=as.map V.ref/\as.length=i/\as.Nodup/\∀ a∈as,H a=none/\G a=some (.lst [])) (by rw[sizeLine_eq];exact zl1 nb rfl) ⟨Same.refl _,[],rfl,rfl,zCN,fun _ h=>nomatch h⟩ ?_ ?_
  ·rintro i ys G hi ⟨sm,as,rfl,al,nd,ha⟩
   refine⟨trivial,tTru_if ⟨(by show 0<=sizeLine;decide),fun l hl=>⟨sm.trans (Same.new hl),as++[l],by rw[zP];rfl,by rw[zO,al];rfl,?_,fun a m=>?_⟩⟩⟩
   ·rw[zCH]
    refine⟨nd,by simp,fun x hx y hy z=>?_⟩
    rw[zH.mp hy]at z
    have:=(ha x hx).2
    rw[z,hl]at this
    cases this
   ·rcases zX.mp m with m | m
    ·exact⟨(ha a m).1,(Same.new hl) _ _ (ha a m).2⟩
    ·rw[zH.mp m]
     exact⟨sm.free hl,yaa⟩
  ·rintro ys G yl ⟨sm,as,rfl,al,nd,ha⟩ D hD
   have sD:=Same.new (o:=.lst (as.map V.ref)) hD
   have hD0:H D=none:=sm.free hD
   have smD:=sm.trans sD
   refine⟨ts,rfl,⟨_,SqT.of (smD _ _ h2)⟩,?_⟩
   refine for_tup (K:=K) (a:=ts) (xs:=bs.map V.ref) (fun i σ G2=>∃ v4 v5 v6,σ=[some (.ref t),some (.int n),some (.ref ts),some (.ref D),v4,v5,v6]/\Same H G2/\G2 D=some (.lst (as.map V.ref))/\BesAt G2 as (ties.take i)) ⟨none,none,none,rfl,smD,yaa,fun i h=>⟨[],sD _ _ (ha _ (zS h)).2,.nil⟩⟩ (fun i σ G2 _ z=>by obtain⟨v4,v5,v6,_,s2,_⟩:=z;exact SqT.of (s2 _ _ h2)) ?_ ?_
   ·rintro i x σ G2 hx ⟨v4,v5,v6,rfl,s2,gD,B⟩
    obtain⟨il,e⟩:=zI.mp hx
    rw[zA]at il
    rw[zU]at e
    subst e
    have it:i<ties.length:=by exact zh7 il h3l
    have hx:=s2 _ _ (Paired.at h3 i il it)
    obtain⟨o1,o2,o3,o4⟩:=ok _ (zS it)
    generalize ex:ties[i]=x at *
    obtain⟨a,b,c⟩:=x
    have o1:0<=a:=o1
    have o2:a<b:=o2
    have o3:b <(n:Int):=o3
    obtain⟨a,rfl⟩:∃ a':Nat,a=(a':Int):=⟨a.toNat,by lia⟩
    obtain⟨b,rfl⟩:∃ b':Nat,b=(b':Int):=⟨b.toNat,by lia⟩
    have aL:a<as.length:=by lia
    have bL:b<as.length:=by lia
    refine⟨bs[i],_,rfl,SqT.of hx,rfl,_,_,rfl,_,_,rfl,_,_,rfl,rfl,?_⟩
    obtain⟨ca,ea,pa⟩:=B a aL
    refine⟨D,_,_,_,rfl,rfl,SqL.of gD,atI_nat (v:=V.ref as[a]) (by rw[zAB,zE aL];rfl),.inl ⟨rfl,_,SqL.of ea⟩,(by show 2<=sizeLine;decide),fun tp htp=>?_⟩
    have sT:=Same.new (o:=.tup [.int (b:Int),.int c]) htp
    have lca:(ca.map V.ref).length<sizeLine:=by
     have l1:=pa.length
     have l2:=beside_len (ties.take i) a
     rw[zAS]at l2
     rw[zA,sizeLine_eq]
     lia
    refine⟨as[a],_,_,rfl,rfl,sT _ _ ea,lca,?_⟩
    have B1:=BesAt.put (g:=fun i'=>besideOf (ties.take i) i') (y:=((b:Int),c)) nd aL (B.same sT) (sT _ _ ea) yaa
    have na:∀ (u:Addr) (o:HO),H u=some o->u≠as[a]:=fun u o e z=>by rw[z,(ha _ (zS aL)).1]at e;cases e
    have nb':∀ (u:Addr) (o:HO),H u=some o->u≠as[b]:=fun u o e z=>by rw[z,(ha _ (zS bL)).1]at e;cases e
    have nD:∀ (j:Nat) (h:j<as.length),D≠as[j]:=fun j h z=>by
     have:=(ha _ (zS h)).2
     rw[<- z,hD]at this
     cases this
    have gD1:(upd (upd G2 tp (.tup [.int (b:Int),.int c])) as[a] (.lst (ca.map V.ref++[.ref tp]))) D=some (.lst (as.map V.ref)):=by rw[upd_ne (nD a aL)];exact sT _ _ gD
    have s3:Same H (upd (upd G2 tp (.tup [.int (b:Int),.int c])) as[a] (.lst (ca.map V.ref++[.ref tp]))):=fun u o e=>by rw[upd_ne (na u o e)];exact sT _ _ (s2 _ _ e)
    generalize (upd (upd G2 tp (.tup [.int (b:Int),.int c])) as[a] (.lst (ca.map V.ref++[.ref tp])))=G3 at B1 gD1 s3
    obtain⟨cb,eb,pb⟩:=B1 b bL
    refine⟨D,_,_,_,rfl,rfl,SqL.of gD1,atI_nat (v:=V.ref as[b]) (by rw[zAB,zE bL];rfl),.inl ⟨rfl,_,SqL.of eb⟩,(by show 2<=sizeLine;decide),fun tp2 htp2=>?_⟩
    have sT2:=Same.new (o:=.tup [.int (a:Int),.int c]) htp2
    have lcb:(cb.map V.ref).length<sizeLine:=by
     have l1:=pb.length
     rw[zO]at l1
     have l2:=beside_len (ties.take i) b
     rw[zAS]at l2
     have l3:(if(b:Int)=(a:Int)then [((b:Int),c)]else []).length<=1:=by split <;> simp
     rw[zA,sizeLine_eq]
     lia
    refine⟨as[b],_,_,rfl,rfl,sT2 _ _ eb,lcb,?_⟩
    have B1':∀ (i':Nat) (h:i'<as.length),∃ cs:List Addr,(upd G3 tp2 (.tup [.int (a:Int),.int c])) as[i']=some (.lst (cs.map V.ref))/\Paired (fun c' (x:Int×Int)=>(upd G3 tp2 (.tup [.int (a:Int),.int c])) c'=some (.tup [.int x.1,.int x.2])) cs ((fun i'':Int=>besideOf (ties.take i) i''++if i''=(a:Int)then [((b:Int),c)]else []) i'):=fun i' h=>by
     obtain⟨cs,e,p⟩:=B1 i' h
     exact⟨cs,sT2 _ _ e,Paired.mapP p fun c x z=>sT2 _ _ z⟩
    have B2:=BesAt.put (g:=fun i'':Int=>besideOf (ties.take i) i''++if i''=(a:Int)then [((b:Int),c)]else []) (y:=((a:Int),c)) nd bL B1' (sT2 _ _ eb) yaa
    refine⟨_,_,_,rfl,fun u o e=>by rw[upd_ne (nb' u o e)];exact sT2 _ _ (s3 _ _ e),by rw[upd_ne (nD b bL)];exact sT2 _ _ gD1,fun i' h'=>?_⟩
    obtain⟨cs,e,p⟩:=B2 i' h'
    refine⟨cs,e,?_⟩
    have eq:besideOf (ties.take (i+1)) i'=(besideOf (ties.take i) i'++if(i':Int)=(a:Int)then [((b:Int),c)]else [])++if(i':Int)=(b:Int)then [((a:Int),c)]else []:=by
     rw[zK it,besideOf_snoc,ex,zAI]
     congr 1
     show(if(a:Int)=(i':Int)then _ else if(b:Int)=(i':Int)then _ else _)=_
     by_cases e1:(i':Int)=(a:Int)
     ·rw[if_pos e1,if_pos e1.symm,if_neg (by lia)]
      rfl
     ·rw[if_neg e1,if_neg (fun z=>e1 z.symm)]
      by_cases e2:(i':Int)=(b:Int)
      ·rw[if_pos e2,if_pos e2.symm]
       rfl
      ·rw[if_neg e2,if_neg (fun z=>e2 z.symm)]
       rfl
    rw[eq]
    exact p
   ·rintro σ G2 ⟨v4,v5,v6,rfl,s2,gD,B⟩
    rw[zA,h3l,zAN]at B
    exact q D as G2 gD al B s2
end
open PySem L2 PyProof.Rows
inductive spSprI(vs:List V)(H:Hp)(Q:VK):Prop where
 |mk (b p:Addr) (as:List Addr) (n k:Nat) (ties:List Tie) (h0:List (Option Int)) (h1:vs=[.ref b,.ref p,.int k]) (h2:H b=some (.lst (as.map V.ref))) (h3:as.length=n) (h4:BesAt H as ties) (h5:(∀ x∈ties,TieOk n x)) (h6:n<=1000) (h7:H p=some (.lst (h0.map oV))) (h8:h0.length=n) (h9:b≠p) (h10:p∉as) (h11:k<n) (h12:oAt h0 k=none) (h13:Clo ties h0) (h14:∀ (hv:List (Option Int)) (H':Hp),H' p=some (.lst (hv.map oV))->Sprd n ties h0 hv k->Kept p H H'->Q .non H')
noncomputable def spSpr:Sp:=fun vs H Q _=>spSprI vs H Q
theorem oV_get{hv:List (Option Int)}{j:Nat}(hj:j<hv.length):atI (hv.map oV) (j:Int)=some (oV (oAt hv j)):=atI_nat (by rw[zAB,oAt_get hj];rfl)
theorem set_oV{hv:List (Option Int)}{j:Nat}{x:Int}:(hv.map oV).set j (.int x)=(hv.set j (some x)).map oV:=by rw[List.map_set];rfl
theorem nones_le(hv:List (Option Int)):hv.countP (·.isNone)<=hv.length:=List.countP_le_length
structure WlI(H:Hp)(p wl:Addr)(n k:Nat)(ties:List Tie)(h0 hv:List (Option Int))(ws:List Int)(G:Hp):Prop where
 hp:G p=some (.lst (hv.map oV))
 hw:G wl=some (.lst (ws.map V.int))
 si:SI n ties h0 hv k ws
 kp:Kept p H G
section
variable{P:Program}{w:World}{K:PySem.W.Frag}{mg:Str->Option Value}{base:Heap}
noncomputable abbrev nSpr:List Str:=["beside","heads","head","waiting","place","far","weight"]
theorem scSpr:FnScope nSpr ["beside","heads","head"] (defScope sSpread):=⟨rfl,rfl,rfl,by decide +kernel,rfl,by decide +kernel,by decide +kernel⟩
theorem ok_spr{f:Addr}{fd:FuncData}(F:Fun K "spread" "spread" sSpread f fd):FnOk P w K mg base CX0 1 f fd ["beside","heads","head"] spSpr:=by
 refine F.ok scSpr (fun vs H Q E h=>?_) (fun cdv A outer s H vs Q E hr h=>?_)
 ·obtain⟨b,p,as,n,k,ties,h0,rfl,_⟩:=h
  rfl
 ·obtain⟨b,p,as,n,k,ties,h0,rfl,hb,al,B,ok,nb,hp,l0,bp,pa,kn,kz,cl,q⟩:=h
  refine⟨_,yad (ps_asg (pvQ 2) (pg_sub (pvQ 1) (pvQ 2) set_list))
   (yad (ps_set (i:=3) scSpr.nd rfl (Or.inl rfl) (@pe_lst _ _ _ _ (@yac _ _ _ _ _ _ (pvQ 2) yab)))
   (pss_one (ps_while PassesOwn.never (pt_truth (pvQ 3) (fun _=>rfl))
    (yad (ps_set (i:=4) scSpr.nd rfl (Or.inl rfl) (pe_bm0 PySem.F.plainAttrs_list PySem.F.slot_list_pop PySem.F.type_list_pop mt_pop (pvQ 3)))
    (pss_one (ps_for PassesOwn.never rfl (pi_list (pe_ix ix_list (pvQ 0) (pvQ 4) (fun _ _=>rfl))) (pg_tup (n:=2) rfl (pgs_cons (pg_name (i:=5) scSpr.nd rfl (Or.inl rfl)) (pgs_cons (pg_name (i:=6) scSpr.nd rfl (Or.inl rfl)) pgs_nil)))
     (pss_one (ps_if (pt_cmp (pc_isN (pe_ix ix_list (pvQ 1) (pvQ 5) (fun _ _=>rfl))))
      (yad (ps_asg (pvQ 2) (pg_sub (pvQ 1) (pvQ 5) set_list))
      (pss_one (ps_expr (pe_bm PySem.F.plainAttrs_list PySem.F.slot_list_append PySem.F.type_list_append mt_append (pvQ 3) (@yac _ _ _ _ _ _ (pvQ 5) yab))))) pss_nil)))))))),?_⟩
  have kl:k<h0.length:=by exact zh8 kn l0
  refine⟨p,_,_,k,rfl,rfl,hp,by rw[zA];exact ixN_nat kl,?_⟩
  rw[set_oV]
  refine⟨(by show 1<=sizeLine;decide),fun wl hwl=>?_⟩
  have wp:wl≠p:=fun z=>by rw[z,yaa]at hwl;cases hwl
  have wl0:H wl=none:=by rw[upd_ne wp]at hwl;exact hwl
  have S0:SI n ties h0 (h0.set k (some (k:Int))) k [(k:Int)]:=by
   refine⟨by rw[List.length_set];exact l0,fun v v0 v1 z=>?_,fun v v0 v1 z=>?_,?_,fun x hx=>?_⟩
   ·rw[oAt_set kl v v0,if_neg (fun e=>z (by rw[e];exact kz))]
   ·rw[oAt_set kl v v0]
    split
    ·rename_i e
     exact .inr ⟨rfl,by rw[e];exact .refl _⟩
    ·exact .inl z
   ·rw[oAt_set kl _ (by exact zAY k),if_pos rfl]
   ·rw[zH.mp hx]
    exact⟨by exact zAY k,by exact zi2 kn,kz,by rw[oAt_set kl _ (by exact zAY k),if_pos rfl]⟩
  have c0:(h0.set k (some (k:Int))).countP (·.isNone)+1=h0.countP (·.isNone):=nones_set (by rw[oAt_get kl,kz])
  have c1:=nones_le h0
  refine⟨fun m σ G=>∃ hv ws v4 v5 v6,σ=[some (.ref b),some (.ref p),some (.int k),some (.ref wl),v4,v5,v6]/\m=2 * hv.countP (·.isNone)+ws.length/\m<=2 * n/\WlI H p wl n k ties h0 hv ws G/\∀ v:Int,0<=v->v<n->oAt h0 v=none->oAt hv v≠none->v∉ws->Done ties hv v,
   ⟨_,h0.set k (some (k:Int)),[(k:Int)],none,none,none,rfl,rfl,by simp;lia,⟨by rw[upd_ne (Ne.symm wp),yaa],yaa,S0,(Kept.at).put wl0⟩,fun v v0 v1 z z2 z3=>?_⟩,?_⟩
  ·exfalso
   rw[oAt_set kl v v0]at z2
   split at z2
   ·rename_i e
    exact z3 (by rw[e];exact zH.mpr rfl)
   ·exact z2 z
  clear S0 c0 c1 hwl
  rintro m σ G ⟨hv,ws,v4,v5,v6,rfl,em,mn,I,dn⟩
  refine⟨_,.inl ⟨_,SqL.of I.hw,rfl⟩,ite2 (fun hc=>?_) (fun hc=>?_)⟩
  ·have r0:ws≠[]:=fun z=>by rw[z]at hc;exact absurd hc (by decide)
   obtain⟨w1,pl,rfl⟩:∃ w1 pl,ws=w1++[pl]:=⟨ws.dropLast,ws.getLast r0,(List.dropLast_concat_getLast r0).symm⟩
   refine⟨fun σ' G'=>∃ m',m'<m/\∃ hv ws v4 v5 v6,σ'=[some (.ref b),some (.ref p),some (.int k),some (.ref wl),v4,v5,v6]/\m'=2 * hv.countP (·.isNone)+ws.length/\m'<=2 * n/\WlI H p wl n k ties h0 hv ws G'/\∀ v:Int,0<=v->v<n->oAt h0 v=none->oAt hv v≠none->v∉ws->Done ties hv v,fun σ' G' z=>z,?_⟩
   refine⟨.inl ⟨rfl,_,SqL.of I.hw⟩,wl,_,V.int pl,rfl,rfl,I.hw,by simp,?_⟩
   have edl:(List.map V.int (w1++[pl])).dropLast=w1.map V.int:=by rw[zP];simp
   rw[edl]
   obtain⟨p0,p1,pz,pk⟩:=I.si.wait pl (zL _ (zH.mpr rfl))
   obtain⟨pl,rfl⟩:∃ j:Nat,pl=(j:Int):=⟨pl.toNat,by exact zh3 p0⟩
   have pL:pl<as.length:=by exact zm5 p1 al
   have rp:Rch ties k pl:=by
    rcases I.si.new pl p0 p1 pz with z | z
    ·rw[pk]at z;cases z
    ·exact z.2
   have I1:WlI H p wl n k ties h0 hv w1 (upd G wl (.lst (w1.map V.int))):=⟨by rw[upd_ne (Ne.symm wp)];exact I.hp,yaa,⟨I.si.len,I.si.old,I.si.new,I.si.hd,fun x hx=>I.si.wait x (zAQ _ hx)⟩,I.kp.put wl0⟩
   have hbG:∀ {G':Hp},Kept p H G'->G' b=some (.lst (as.map V.ref)):=fun k'=>k' _ _ bp hb
   have BG:∀ {G':Hp},Kept p H G'->BesAt G' as ties:=fun k'=>B.kept k' hp pa
   obtain⟨cs,ec,pc⟩:=(BG I1.kp) pl pL
   have ecG:∀ {G':Hp},Kept p H G'->G' as[pl]=some (.lst (cs.map V.ref)):=fun k'=>by
    obtain⟨cs',e',_⟩:=B pl pL
    have apl:as[pl]≠p:=fun z=>pa (z▸zS pL)
    have e1:=I1.kp _ _ apl e'
    have e2:=k' _ _ apl e'
    rw[ec]at e1
    rw[e2,<- e1]
   have pcG:∀ {G':Hp},Kept p H G'->Paired (fun c (x:Int×Int)=>G' c=some (.tup [.int x.1,.int x.2])) cs (besideOf ties pl):=fun {G'} k'=>by
    obtain⟨cs',e',p'⟩:=(BG k') pl pL
    rw[ecG k']at e'
    have:cs=cs':=by
     injection e' with e'
     injection e' with e'
     exact List.map_inj_right (fun _ _ h=>by injection h) |>.mp e'
    rw[this]
    exact p'
   refine⟨b,_,_,_,rfl,rfl,SqL.of (hbG I1.kp),atI_nat (v:=V.ref as[pl]) (by rw[zAB,zE pL];rfl),as[pl],rfl,⟨_,SqL.of ec⟩,?_⟩
   refine for_list (K:=K) (a:=as[pl]) (xs:=cs.map V.ref) (fun j σ' G'=>∃ hv ws v5 v6,σ'=[some (.ref b),some (.ref p),some (.int k),some (.ref wl),some (.int pl),v5,v6]/\2 * hv.countP (·.isNone)+ws.length<m/\WlI H p wl n k ties h0 hv ws G' /\
    (∀ v:Int,0<=v->v<n->oAt h0 v=none->oAt hv v≠none->v∉ws->v≠pl->Done ties hv v)/\∀ x∈(besideOf ties pl).take j,oAt hv x.1≠none)
    ⟨hv,w1,v5,v6,rfl,by rw[em,zO];show 2 * _+w1.length<2 * _+(w1.length+1);exact zAV zn4,I1,fun v v0 v1 z z2 z3 z4=>dn v v0 v1 z z2 (fun z5=>by rcases zX.mp z5 with y | y;exact z3 y;exact z4 (zH.mp y)),fun _ h=>by rw[List.take_zero]at h;cases h⟩
    (fun j σ' G' _ z=>by obtain⟨hv,ws,v5,v6,_,_,I',_⟩:=z;exact SqL.of (ecG I'.kp)) ?_ ?_
   ·clear I1 dn I em hc r0 edl v4 v5 v6 ec pc
    rintro j x σ' G' hx ⟨hv,ws,v5,v6,rfl,lt,I,dn,fs⟩
    obtain⟨il,e⟩:=zI.mp hx
    rw[zA]at il
    rw[zU]at e
    subst e
    have pcI:=pcG I.kp
    have jl:j <(besideOf ties pl).length:=by rw[<- pcI.length];exact il
    have hc:=Paired.at pcI j il jl
    have mem:(besideOf ties pl)[j]∈besideOf ties pl:=zS jl
    have tk:(besideOf ties pl).take (j+1)=(besideOf ties pl).take j++[(besideOf ties pl)[j]]:=zK jl
    generalize (besideOf ties pl)[j]=y at hc mem tk
    obtain⟨fa,wt⟩:=y
    have fr:0<=fa/\fa<n/\Rch ties pl fa:=by
     rcases(mem_beside ok).mp mem with m1 | m1
     ·obtain⟨o1,o2,o3,_⟩:=ok _ m1
      have o1:0<=(pl:Int):=o1
      have o2:(pl:Int)<fa:=o2
      exact⟨by lia,o3,.up m1 (.refl _)⟩
     ·obtain⟨o1,o2,o3,_⟩:=ok _ m1
      have o2:fa <(pl:Int):=o2
      exact⟨o1,by lia,.dn m1 (.refl _)⟩
    obtain⟨f0,f1,fr⟩:=fr
    obtain⟨fa,rfl⟩:∃ j:Nat,fa=(j:Int):=⟨fa.toNat,by exact zh3 f0⟩
    have fL:fa<hv.length:=by rw[I.si.len];exact zi3 f1
    refine⟨cs[j],_,rfl,SqT.of hc,rfl,_,_,rfl,_,_,rfl,rfl,?_⟩
    refine⟨p,_,_,_,rfl,rfl,SqL.of I.hp,oV_get fL,_,rfl,ite2 (fun hz=>?_) (fun hz=>?_)⟩
    ·have z:oAt hv fa=none:=by
      cases e:oAt hv fa with
      |none=>rfl
      |some y=>rw[e]at hz;exact absurd hz (by simp[oV])
     refine⟨p,_,_,fa,rfl,rfl,I.hp,by rw[zA];exact ixN_nat fL,?_⟩
     rw[set_oV]
     have hw1:(upd G' p (.lst ((hv.set fa (some (k:Int))).map oV))) wl=some (.lst (ws.map V.int)):=by rw[upd_ne wp];exact I.hw
     refine⟨.inl ⟨rfl,_,SqL.of hw1⟩,wl,_,_,rfl,rfl,hw1,by rw[zA,sizeLine_eq];lia,?_⟩
     have ea:ws.map V.int++[V.int (fa:Int)]=(ws++[(fa:Int)]).map V.int:=by rw[zP];rfl
     rw[ea]
     have cz:=nones_set (x:=(k:Int)) (show hv[fa]?=some none by rw[oAt_get fL,z])
     refine⟨hv.set fa (some (k:Int)),ws++[(fa:Int)],_,_,rfl,by rw[zO];show 2 * _+(ws.length+1)<m;lia,⟨by rw[upd_ne (Ne.symm wp),yaa],yaa,I.si.put (by exact zi3 f1) z (rp.trans fr),(I.kp.trans Kept.at).put wl0⟩,fun v v0 v1 y1 y2 y3 y4=>?_,fun x hx=>?_⟩
     ·have y5:v∉ws:=fun h=>y3 (zAQ _ h)
      have y6:v≠(fa:Int):=fun h=>y3 (zL _ (zH.mpr h))
      rw[oAt_set fL v v0,if_neg y6]at y2
      exact(dn v v0 v1 y1 y2 y5 y4).mono ok fL
     ·rw[tk]at hx
      rcases zX.mp hx with hx | hx
      ·have d:∀ x∈(besideOf ties pl).take j,oAt (hv.set fa (some (k:Int))) x.1≠none:=fun x hx=>by
        have x0:0<=x.1:=by
         obtain⟨f,w⟩:=x
         rcases(mem_beside ok).mp (List.mem_of_mem_take hx)with m | m
         ·obtain⟨o1,o2,_⟩:=ok _ m
          have o1:0<=(pl:Int):=o1
          have o2:(pl:Int)<f:=o2
          show 0<=f
          lia
         ·exact(ok _ m).1
        rw[oAt_set fL _ x0]
        split
        ·exact fun z=>nomatch z
        ·exact fs x hx
       exact d x hx
      ·rw[zH.mp hx]
       show oAt _ (fa:Int)≠none
       rw[oAt_set fL _ f0,if_pos rfl]
       exact fun z=>nomatch z
    ·have z:oAt hv fa≠none:=fun e=>by rw[e]at hz;exact hz rfl
     refine⟨hv,ws,_,_,rfl,lt,I,dn,fun x hx=>?_⟩
     rw[tk]at hx
     rcases zX.mp hx with hx | hx
     ·exact fs x hx
     ·rw[zH.mp hx]
      exact z
   ·rintro σ' G' ⟨hv,ws,v5,v6,rfl,lt,I',dn',fs⟩
    refine⟨_,lt,hv,ws,_,_,_,rfl,rfl,by exact zBB (zi9 lt mn),I',fun v v0 v1 z z2 z3=>?_⟩
    by_cases e:v=pl
    ·subst e
     intro x hx
     exact fs x (by rw[zA,(pcG I'.kp).length,zAN];exact hx)
    ·exact dn' v v0 v1 z z2 z3 e
  ·have r0:ws=[]:=by
    cases ws with
    |nil=>rfl
    |cons a r=>exact absurd rfl hc
   subst r0
   exact q hv G I.hp (I.si.fin ok cl fun v v0 v1 z z2=>dn v v0 v1 z z2 (fun h=>nomatch h)) I.kp
end
open PySem L2 PyProof.Rows
inductive spHdsI(vs:List V)(H:Hp)(Q:VK):Prop where
 |mk (t:Addr) (n:Nat) (ties:List Tie) (h1:vs=[.ref t]) (h2:WebAt H t n ties) (h3:(∀ x∈ties,TieOk n x)) (h4:n<=1000) (h5:∀ (p:Addr) (hs:List Int) (H':Hp),H p=none->H' p=some (.lst (hs.map V.int))->IsHeads n ties hs->Same H H'->Q (.ref p) H')
noncomputable def spHds:Sp:=fun vs H Q _=>spHdsI vs H Q
theorem rep_non:∀ n:Nat,(List.replicate n [V.non]).flatten=(List.replicate n (none:Option Int)).map oV
 | 0=>rfl
 |n+1=>by
  rw[zBM,zBM,zCF,rep_non n]
  rfl
section
variable{P:Program}{w:World}{K:PySem.W.Frag}{mg:Str->Option Value}{base:Heap}
noncomputable abbrev nHds:List Str:=["web","beside","heads","place"]
theorem scHds:FnScope nHds ["web"] (defScope sHeadsOf):=⟨rfl,rfl,rfl,by decide +kernel,rfl,by decide +kernel,by decide +kernel⟩
theorem ok_hds{f g1 g2:Addr}{fd d1 d2:FuncData}(F:Fun K "heads_of" "heads_of" sHeadsOf f fd)(T:Txt mg)(GB:CalF P w K mg base 1 "beside_each" ["web"] spBes g1 d1)(GS:CalF P w K mg base 1 "spread" ["beside","heads","head"] spSpr g2 d2):FnOk P w K mg base CX0 2 f fd ["web"] spHds:=by
 refine F.ok scHds (fun vs H Q E h=>?_) (fun cdv A outer s H vs Q E hr h=>?_)
 ·obtain⟨t,n,ties,rfl,_⟩:=h
  rfl
 ·obtain⟨t,n,ties,rfl,W,ok,nb,q⟩:=h
  obtain⟨⟨ts,bs,h1,h2,h3⟩,len⟩:=id W
  refine⟨_,yad (ps_set (i:=1) scHds.nd rfl (Or.inl rfl) (pe_call GB.ok hr rfl GB.mg GB.kp GB.bd .nil pass0 (@yac _ _ _ _ _ _ (pvQ 0) yab)))
   (yad (ps_set (i:=2) scHds.nd rfl (Or.inl rfl) (pe_op op_rep (@pe_lst _ _ _ _ (@pa_cst _ _ _ _ _ _ _ pe_non yab)) (@pe_ix _ _ _ _ _ _ _ ix_tup (pvQ 0) yae (fun _ _=>rfl))))
   (yad (ps_for PassesOwn.never rfl (pi_range1 rfl T.range (@pa_sub _ _ _ _ _ _ _ (@pe_ix _ _ _ _ _ _ _ ix_tup (pvQ 0) yae (fun _ _=>rfl)) yab)) (pg_name (i:=3) scHds.nd rfl (Or.inl rfl))
    (pss_one (ps_if (pt_cmp (pc_isN (pe_ix ix_list (pvQ 2) (pvQ 3) (fun _ _=>rfl))))
     (pss_one (ps_expr (pe_call GS.ok hr rfl GS.mg GS.kp GS.bd .nil pass0 (@yac _ _ _ _ _ _ (pvQ 1) (@yac _ _ _ _ _ _ (pvQ 2) (@yac _ _ _ _ _ _ (pvQ 3) yab)))))) pss_nil)))
   (pss_one (ps_ret (pvQ 2))))),?_⟩
  refine⟨t,n,ties,rfl,W,ok,nb,fun b as H1 hb al B s1=>?_⟩
  have h1':=s1 _ _ h1
  refine⟨(by show 1<=sizeLine;decide),fun l hl=>⟨t,_,_,_,rfl,rfl,SqT.of ((Same.new hl) _ _ h1'),rfl,l,_,_,rfl,rfl,yaa,by exact zh2,by lia,by show 1 * _<=_;rw[sizeLine_eq];lia,fun p hp=>?_⟩⟩
  rw[show((n:Int)).toNat=n by exact zAC n,rep_non]
  have sl:=Same.new (o:=.lst [V.non]) hl
  have sp:=Same.new (o:=.lst ((List.replicate n (none:Option Int)).map oV)) hp
  have s2:=s1.trans (sl.trans sp)
  have hp1:H1 p=none:=sl.free hp
  have hp0:H p=none:=s1.free hp1
  have bp:b≠p:=fun z=>by rw[z,hp1]at hb;cases hb
  have pa:p∉as:=fun m=>by
   obtain⟨i,hi,e⟩:=zBE m
   obtain⟨cs,ec,_⟩:=B i hi
   rw[e,hp1]at ec
   cases ec
  have B2:=B.same (sl.trans sp)
  have hb2:=(sl.trans sp) _ _ hb
  have hpU:(upd (upd H1 l (.lst [V.non])) p (.lst ((List.replicate n (none:Option Int)).map oV))) p=_:=yaa
  generalize (upd (upd H1 l (.lst [V.non])) p (.lst ((List.replicate n (none:Option Int)).map oV)))=H2 at s2 B2 hb2 hpU
  refine⟨t,_,_,_,rfl,rfl,SqT.of (s2 _ _ h1),rfl,_,rfl,by exact zh1,by exact zm2 nb rfl,?_⟩
  rw[show((n:Int)).toNat=n by exact zAC n]
  have at0:∀ v:Int,oAt (List.replicate n none) v=none:=fun v=>by
   unfold oAt
   rw[List.getElem?_replicate]
   split <;> rfl
  refine for_range (lo:=0) (n:=n) (fun i σ G=>∃ hv v3,σ=[some (.ref t),some (.ref b),some (.ref p),v3]/\G p=some (.lst (hv.map oV))/\HI n ties hv i/\Kept p H2 G) ⟨_,none,rfl,hpU,⟨List.length_replicate,fun a b w _=>(by rw[at0,at0]),fun v h _ _ e=>(by rw[at0]at e;cases e),fun v v0 v1=>absurd v1 (by lia)⟩,Kept.refl⟩ ?_ ?_
  ·rintro i σ G hi ⟨hv,v3,rfl,gp,S,kG⟩
   have il:i<hv.length:=by rw[S.len];exact hi
   rw[show(0:Int)+(i:Int)=(i:Int) by lia]
   refine⟨p,_,_,_,rfl,rfl,SqL.of gp,oV_get il,_,rfl,ite2 (fun hz=>?_) (fun hz=>?_)⟩
   ·have z:oAt hv i=none:=by
     cases e:oAt hv i with
     |none=>rfl
     |some y=>rw[e]at hz;exact absurd hz (by simp[oV])
    refine⟨b,p,as,n,i,ties,hv,rfl,kG _ _ bp hb2,al,B2.kept kG hpU pa,ok,nb,gp,S.len,bp,pa,hi,z,S.clo,fun hv' G' gp' D k'=>?_⟩
    exact⟨hv',_,rfl,gp',S.next ok hi D,kG.trans k'⟩
   ·have z:oAt hv i≠none:=fun e=>by rw[e]at hz;exact hz rfl
    exact⟨hv,_,rfl,gp,S.skip z,kG⟩
  ·rintro σ G ⟨hv,v3,rfl,gp,S,kG⟩
   obtain⟨hs,e,IH⟩:=S.fin
   subst e
   rw[zAW]at gp
   refine q p hs G hp0 gp IH fun u o e=>kG u o (ne_of_none e hp0) (s2 _ _ e)
end
end K31
namespace L2
open PySem PyProof.Rows
theorem star_scomp{e:Expr}{gs:List Comprehension}{sc:Scope}{pos:Pos}{rest:List Expr}{env:Env}:starEach (.SetComp e gs sc pos :: rest) env=(false,eval (.SetComp e gs sc pos) env) :: starEach rest env:=rfl
theorem pa_scomp{X:Cx}{es:List Expr}{pos:Pos}{te:TE}{t:TA}{e:Expr}{gs:List Comprehension}{sc:Scope}(ha:PE X (.SetComp e gs sc pos) te)(hr:PA X es t):PA X (.SetComp e gs sc pos :: es) (tCons te t):=pa_cons ha hr (hs:=star_scomp)
section
variable{K:PySem.W.Frag}{a D:Addr}{xs:List V}{b:Bool}{g:TG}{tc:TT}{tv:TE}{cap:List (Option Nat)}{σ:St}{H1:Hp}{Q:VK}
theorem scomp_seq(P:Nat->Hp->Prop)(p0:P 0 H1)(hl:∀ i H,i<=xs.length->P i H->SqB b K H a xs)
  (hs:∀ i x H,xs[i]?=some x->P i H->g x (capt cap σ) H fun σ2 H2=>Kp (capt cap σ) σ2/\tc σ2 H2 fun b H3=>if b=true then tv σ2 H3 fun y H5=>∃ H6,SPut H5 D y H6/\P (i+1) H6 else P (i+1) H3)
  (hd:∀ H,P xs.length H->Q (.ref D) H):scompTurns (ItB b K a) cap σ H1 D Q g tc tv:=by
 refine⟨xs.length,P,p0,fun i H il p=>?_⟩
 have q:=hl i H il p
 by_cases hlt:i<xs.length
 ·cases b
  all_goals
   refine .inr ⟨hlt,⟨xs,xs[i],q,by simp[hlt]⟩,fun x H' y=>?_⟩
   obtain⟨e,y⟩:=y
   subst e
   exact hs i x _ (y xs q) p
 ·have e:i=xs.length:=by exact zj7 il hlt
  subst e
  cases b
  all_goals exact .inl ⟨⟨xs,q,zJ _⟩,hd H p⟩
end
end L2
namespace K31
open PySem L2 PyProof.Rows
noncomputable def rest(ties:List Tie)(ks:List (List Int)):List Tie:=ties.filter fun x=>!decide (pairOf x∈ks)
theorem mem_rest{ties:List Tie}{ks:List (List Int)}{x:Tie}:x∈rest ties ks↔x∈ties/\pairOf x∉ks:=by
 unfold rest
 rw[zBA]
 simp
theorem inl_inj:∀ {a b:List Int},a.map (Sum.inl:Int->Key)=b.map Sum.inl->a=b
 |[],[],_=>rfl
 |[],_ :: _,h=>by cases h
 | _ :: _,[],h=>by cases h
 |i :: a,j :: b,h=>by
  simp only[zN,List.cons.injEq,Sum.inl.injEq]at h
  rw[h.1,inl_inj h.2]
noncomputable def CutIn(K:PySem.W.Frag)(H:Hp)(c:Addr)(ks:List (List Int)):Prop:=∃ (b:Bool) (as:List Addr),SqB b K H c (as.map V.ref)/\TupsAt H as ks/\ks.length<=1000
inductive spWoutI(K:PySem.W.Frag)(vs:List V)(H:Hp)(Q:VK):Prop where
 |mk (t c:Addr) (n:Nat) (ties:List Tie) (ks:List (List Int)) (h1:vs=[.ref t,.ref c]) (h2:WebAt H t n ties) (h3:CutIn K H c ks) (h4:∀ (t':Addr) (H':Hp),H t'=none->Same H H'->WebAt H' t' n (rest ties ks)->Q (.ref t') H')
noncomputable def spWout(K:PySem.W.Frag):Sp:=fun vs H Q _=>spWoutI K vs H Q
section
variable{P:Program}{w:World}{K:PySem.W.Frag}{mg:Str->Option Value}{base:Heap}
noncomputable abbrev nWout:List Str:=["web","cut","many","ties","gone"]
theorem scWout:FnScope nWout ["web","cut"] (defScope sWithout):=⟨rfl,rfl,rfl,by decide +kernel,rfl,by decide +kernel,by decide +kernel⟩
theorem csWout1:CompScope ["pair"] [none] nWout (defScope sWithout) (scO [(".0",.local),("pair",.local)]):=⟨rfl,by decide +kernel,by decide +kernel,by decide +kernel,rfl,capB_ok (by decide +kernel)⟩
theorem ndWout1:(["pair"]:List Str).Nodup:=by decide +kernel
theorem csWout2:CompScope ["tie","gone"] [none,some 4] nWout (defScope sWithout) (scO [(".0",.local),("tie",.local),("gone",.free)]):=⟨rfl,by decide +kernel,by decide +kernel,by decide +kernel,rfl,capB_ok (by decide +kernel)⟩
theorem ndWout2:(["tie","gone"]:List Str).Nodup:=by decide +kernel
theorem ok_wout{f:Addr}{fd:FuncData}(F:Fun K "without" "without" sWithout f fd)(T:Txt mg):FnOk P w K mg base CX0 1 f fd ["web","cut"] (spWout K):=by
 refine F.ok scWout (fun vs H Q E h=>?_) (fun cdv A outer s H vs Q E hr h=>?_)
 ·obtain⟨t,c,n,ties,ks,rfl,_⟩:=h
  rfl
 ·obtain⟨t,c,n,ties,ks,rfl,W,⟨b,as,sc,tc,lk⟩,q⟩:=h
  obtain⟨⟨ts,bs,h1,h2,h3⟩,len⟩:=id W
  have h3l:bs.length=ties.length:=h3.length
  have hu:=hu_of hr
  have hu0:_<cLine:=hr.units0
  have ll:=tups_len tc
  refine⟨_,yad (ps_asg (pvQ 0) (pg_tup (n:=2) rfl (pgs_cons (pg_name (i:=2) scWout.nd rfl (Or.inl rfl)) (pgs_cons (pg_name (i:=3) scWout.nd rfl (Or.inl rfl)) pgs_nil))))
   (yad (ps_set (i:=4) scWout.nd rfl (Or.inr rfl) (pe_dcomp true hu0 rfl csWout1 (pi_seq b (pvQ 1)) (fun C s H fp=>pg_name (i:=0) ndWout1 rfl (Or.inl rfl)) (fun C s H fp=>pf_nil) (fun C s H fp=>pv 0) (fun C s H fp=>pe_bl)))
   (pss_one (ps_ret (@pe_tup _ _ _ _ _ (@yac _ _ _ _ _ _ (pvQ 2) (@pa_call _ _ _ _ _ _ _ _ (pe_callTy call_tuple_of (by rfl) T.tuple boot_tuple (@pa_comp _ _ _ _ _ _ _ _ (pe_comp rfl csWout2 (pi_tup (pvQ 3)) (fun C s H fp=>pg_name (i:=0) ndWout2 rfl (Or.inl rfl))
    (fun C s H fp=>pf_one (pt_cmp (pc_dnotin hu (pe_slice (sl_tupK K rfl) (pvQ 0) po_none (po_some yae)) (pvQ 1)))) (fun C s H fp=>pv 0)) yab)) yab)))))),?_⟩
  refine⟨t,_,rfl,SqT.of h1,rfl,_,_,rfl,_,_,rfl,rfl,?_⟩
  refine⟨c,rfl,⟨_,sc⟩,fun D hD=>?_⟩
  refine dcomp_seq (b:=b) (K:=K) (a:=c) (xs:=as.map V.ref) (fun i G=>Same H G/\∃ kvs,G D=some (.dT kvs)/\kvs.length<=i/\∀ k:List Int,(valV kvs (k.map Sum.inl)).isSome=decide (k∈ks.take i)) ⟨Same.new hD,[],yaa,zJ _,fun k=>by simp[valV_nil]⟩ (fun i G _ z=>z.1.seqB sc) ?_ ?_
  ·rintro i x G hx ⟨sm,kvs,gD,kl,kv⟩
   obtain⟨il,e⟩:=zI.mp hx
   rw[zA]at il
   rw[zU]at e
   subst e
   have hk:i<ks.length:=by exact zh7 il ll
   have a1:=sm _ _ (tups_at tc i il hk)
   refine⟨trivial,tTru_if ⟨_,rfl,_,DPut.t (k:=ks[i].map Sum.inl) gD (by rw[a1,zAW];rfl) (by rw[sizeLine_eq];lia),fun b o e=>?_,_,yaa,?_,fun k=>?_⟩⟩
   ·rw[upd_ne (ne_of_none e hD)]
    exact sm _ _ e
   ·have:=length_putK kvs (ks[i].map Sum.inl) (V.bl true)
    lia
   ·rw[valV_put,zK hk]
    by_cases ek:k.map Sum.inl=ks[i].map (Sum.inl:Int->Key)
    ·rw[if_pos ek,inl_inj ek]
     exact(decide_eq_true (zL _ (zH.mpr rfl))).symm
    ·rw[if_neg ek,kv k]
     have nk:k≠ks[i]:=fun z=>ek (by rw[z])
     rw[zCO,decide_eq_true_eq,decide_eq_true_eq,zX,zH]
     exact⟨.inl,fun z=>z.resolve_right nk⟩
  ·rintro G ⟨sm,kvs,gD,kl,kv⟩
   rw[zAZ (by rw[zA];exact zBX (Eq.symm ll))]at kv
   have h2G:=sm _ _ h2
   refine⟨ts,rfl,⟨_,SqT.of h2G⟩,?_⟩
   refine comp_tup (K:=K) (a:=ts) (xs:=bs.map V.ref) (fun i ys G2=>Same G G2/\∃ cs:List Addr,ys=cs.map V.ref/\Paired (fun a x=>G2 a=some (.tup (tieV x))) cs (rest (ties.take i) ks)) (by rw[zA,sizeLine_eq];exact zh9 (zl1 len rfl) h3l) ⟨Same.refl _,[],rfl,.nil⟩ (fun i ys G2 _ z=>z.1.tupq (SqT.of h2G)) ?_ ?_
   ·rintro i x ys G2 hx ⟨sm2,cs,rfl,pc⟩
    obtain⟨il,e⟩:=zI.mp hx
    rw[zA]at il
    rw[zU]at e
    subst e
    have it:i<ties.length:=by exact zh7 il h3l
    have hx:=(sm.trans sm2) _ _ (Paired.at h3 i il it)
    refine⟨⟨rfl,trivial⟩,2,rfl,bs[i],_,rfl,SqT.of hx,(fun z=>absurd (show HT.sIx 3 3 (some 2)=3 from z.2) (by decide)),fun pp hpp=>⟨D,_,rfl,DGet.t (kvs:=kvs) (k:=(pairOf ties[i]).map Sum.inl) ((sm2.trans (Same.new hpp)) _ _ gD) (by rw[yaa];rfl),_,rfl,?_⟩⟩
    have rs:rest (ties.take (i+1)) ks=rest (ties.take i) ks++(if pairOf ties[i]∈ks then []else [ties[i]]):=by
     unfold rest
     rw[zK it,List.filter_append]
     congr 1
     by_cases z:pairOf ties[i]∈ks <;> simp[z]
    rw[rs]
    rw[kv (pairOf ties[i])]
    have pc2:Paired (fun a x=>(upd G2 pp (.tup (cutV (tieV ties[i]) none (some 2)))) a=some (.tup (tieV x))) cs (rest (ties.take i) ks):=Paired.mapP pc fun a x e=>(Same.new hpp) _ _ e
    by_cases z:pairOf ties[i]∈ks
    ·rw[decide_eq_true z,if_pos z,zBP]
     exact iteF ⟨sm2.trans (Same.new hpp),cs,rfl,pc2⟩
    ·rw[decide_eq_false z,if_neg z]
     refine iteT ⟨_,rfl,sm2.trans (Same.new hpp),cs++[bs[i]],by rw[zP];rfl,Paired.snoc pc2 ((Same.new hpp) _ _ hx)⟩
   ·rintro ys G2 yl ⟨sm2,cs,rfl,pc⟩ D2 hD2
    rw[zAZ (by rw[zA,h3l];exact zJ _)]at pc
    refine⟨D2,_,rfl,.inl ⟨SqL.of yaa,fun ts2 hts2=>⟨(by show 2<=sizeLine;decide),fun t2 ht2=>?_⟩⟩⟩
    have s1:Same G2 (upd G2 D2 (.lst (cs.map V.ref))):=Same.new hD2
    have s2:Same (upd G2 D2 (.lst (cs.map V.ref))) (upd (upd G2 D2 (.lst (cs.map V.ref))) ts2 (.tup (cs.map V.ref))):=Same.new hts2
    have s3:=Same.new (o:=.tup [.int n,.ref ts2]) ht2
    refine q t2 _ ((sm.trans sm2).free (s1.free (s2.free ht2))) (sm.trans (sm2.trans (s1.trans (s2.trans s3)))) ⟨⟨ts2,cs,yaa,s3 _ _ yaa,Paired.mapP pc fun a x e=>s3 _ _ (s2 _ _ (s1 _ _ e))⟩,?_⟩
    have:(rest ties ks).length<=ties.length:=zCA _ _
    exact zAE this len
end
noncomputable def parted(hs ps:List Int):Bool:=decide ((nub (ps.map (hAt hs))).length=ps.length)
inductive spIPI(K:PySem.W.Frag)(vs:List V)(H:Hp)(Q:VK):Prop where
 |mk (t q c:Addr) (n:Nat) (ties:List Tie) (b:Bool) (ps:List Int) (ks:List (List Int)) (h1:vs=[.ref t,.ref q,.ref c]) (h2:WebAt H t n ties) (h3:(∀ x∈ties,TieOk n x)) (h4:n<=1000) (h5:SqB b K H q (ps.map V.int)) (h6:(∀ x∈ps,0<=x/\x<n)) (h7:ps.length<=1000) (h8:CutIn K H c ks) (h9:∀ (hs:List Int) (H':Hp),IsHeads n (rest ties ks) hs->Same H H'->Q (.bl (parted hs ps)) H')
noncomputable def spIP(K:PySem.W.Frag):Sp:=fun vs H Q _=>spIPI K vs H Q
theorem at_hs{n:Nat}{ties:List Tie}{hs:List Int}(IH:IsHeads n ties hs)(j:Int)(j0:0<=j)(j1:j<n):atI (hs.map V.int) j=some (V.int (hAt hs j)):=by
 obtain⟨j,rfl⟩:∃ j':Nat,j=(j':Int):=⟨j.toNat,by exact zh3 j0⟩
 have jl:j<hs.length:=by rw[IH.len];exact zi3 j1
 exact atI_nat (by rw[zAB,zE jl,hAt_nat jl];rfl)
theorem eq_bl{m k:Nat}{hs ps:List Int}(e1:m=(nub (ps.map (hAt hs))).length)(e2:k=ps.length):decide (V.int (m:Nat)=V.int (k:Nat))=parted hs ps:=by
 subst e1 e2
 unfold parted
 rw[zCO,decide_eq_true_eq,decide_eq_true_eq]
 exact⟨fun h=>by injection h with h;lia,fun h=>by rw[h]⟩
section
variable{P:Program}{w:World}{K:PySem.W.Frag}{mg:Str->Option Value}{base:Heap}
noncomputable abbrev nIP:List Str:=["web","posts","cut","heads"]
theorem scIP:FnScope nIP ["web","posts","cut"] (defScope sIsParting):=⟨rfl,rfl,rfl,by decide +kernel,rfl,by decide +kernel,by decide +kernel⟩
theorem csIP:CompScope ["post","heads"] [none,some 3] nIP (defScope sIsParting) (scO [(".0",.local),("post",.local),("heads",.free)]):=⟨rfl,by decide +kernel,by decide +kernel,by decide +kernel,rfl,capB_ok (by decide +kernel)⟩
theorem ndIP:(["post","heads"]:List Str).Nodup:=by decide +kernel
theorem ok_ip{f g1 g2:Addr}{fd d1 d2:FuncData}(F:Fun K "is_parting" "is_parting" sIsParting f fd)(T:Txt mg)(GO:CalF P w K mg base 1 "without" ["web","cut"] (spWout K) g1 d1)(GH:CalF P w K mg base 2 "heads_of" ["web"] spHds g2 d2):FnOk P w K mg base CX0 3 f fd ["web","posts","cut"] (spIP K):=by
 refine F.ok scIP (fun vs H Q E h=>?_) (fun cdv A outer s H vs Q E hr h=>?_)
 ·obtain⟨t,q,c,n,ties,b,ps,ks,rfl,_⟩:=h
  rfl
 ·obtain⟨t,q,c,n,ties,b,ps,ks,rfl,W,ok,nb,sq,pr,pl,cu,fin⟩:=h
  have hr1:Room 1 _:=hr.mono (by decide)
  refine⟨_,yad (ps_set (i:=3) scIP.nd rfl (Or.inr rfl) (pe_call GH.ok hr rfl GH.mg GH.kp GH.bd .nil pass0 (@pa_call _ _ _ _ _ _ _ _ (pe_call GO.ok hr1 rfl GO.mg GO.kp GO.bd .nil pass0 (@yac _ _ _ _ _ _ (pvQ 0) (@yac _ _ _ _ _ _ (pvQ 2) yab))) yab)))
   (pss_one (ps_ret (pe_cmpR op_eq (pe_callB call_lenS (by rfl) T.len PySem.boot_len (@pa_scomp _ _ _ _ _ _ _ _ (pe_scomp rfl csIP (pi_seq b (pvQ 1)) (fun C s H fp=>pg_name (i:=0) ndIP rfl (Or.inl rfl)) (fun C s H fp=>pf_nil)
    (fun C s H fp=>pe_ix (ix_listK K rfl) (pvQ 1) (pvQ 0) (fun _ _=>rfl))) yab)) (pe_callB call_len_seq (by rfl) T.len PySem.boot_len (@yac _ _ _ _ _ _ (pvQ 1) yab)) (nomark _)))),?_⟩
  refine⟨t,c,n,ties,ks,rfl,W,cu,fun t' H1 ht' s1 W1=>?_⟩
  refine⟨t',n,rest ties ks,rfl,W1,fun x hx=>ok x (mem_rest.mp hx).1,nb,fun p hs H2 hp gp IH s2=>?_⟩
  have s12:=s1.trans s2
  refine⟨q,rfl,⟨_,s12.seqB sq⟩,fun D hD=>?_⟩
  have sD:=Same.new (o:=sEmp) hD
  refine scomp_seq (b:=b) (K:=K) (a:=q) (xs:=ps.map V.int) (fun i G=>Same H2 G/\G D=some (setI ((ps.take i).map (hAt hs)))) ⟨sD,yaa⟩ (fun i G _ z=>(s12.trans z.1).seqB sq) ?_ ?_
  ·rintro i x G hx ⟨sG,gD⟩
   obtain⟨il,e⟩:=zI.mp hx
   rw[zA]at il
   rw[zU]at e
   subst e
   obtain⟨o1,o2⟩:=pr _ (zS il)
   refine⟨⟨rfl,trivial⟩,tTru_if ?_⟩
   refine⟨p,_,_,_,rfl,rfl,SqL.of (sG _ _ gp),at_hs IH _ o1 o2,_,sput_I gD (by rw[zA,zAS];unfold scanBound;lia),?_,?_⟩
   ·intro u o e
    rw[upd_ne (ne_of_none e hD)]
    exact sG _ _ e
   ·rw[yaa,zK il,zP]
    rfl
  ·rintro G ⟨sG,gD⟩
   rw[zAZ (by rw[zA];exact zJ ps.length)]at gD
   refine⟨D,_,rfl,gD,?_⟩
   refine⟨q,ps.map V.int,rfl,?_,rfl,?_⟩
   ·have:=(s12.trans sG).seqB sq
    cases b
    ·exact .inl this
    ·exact .inr this
   ·rw[eq_bl (hs:=hs) (ps:=ps) rfl (by rw[zA])]
    exact fin hs _ IH (s12.trans sG)
end
end K31
namespace Rnd
noncomputable def gs(g:Int->Int):Int->List Int->Int
 | _,[]=>0
 |p,t :: ts=>(t-p) * g t+gs g t ts
noncomputable def Ris(p:Int):List Int->Prop
 |[]=>True
 |t :: ts=>p<t/\Ris t ts
theorem Ris.lt{p:Int}{ts:List Int}(h:Ris p ts):∀ t∈ts,p<t:=by
 induction ts generalizing p with
 |nil=>exact fun t ht=>absurd ht (by simp)
 |cons a ts ih =>
  intro t ht
  rcases zW.mp ht with rfl | ht
  ·exact h.1
  ·have:=ih h.2 t ht
   have:=h.1
   lia
theorem gs_le{f g:Int->Int}{p:Int}{ts:List Int}(r:Ris p ts)(h:∀ t∈ts,f t<=g t):gs f p ts<=gs g p ts:=by
 induction ts generalizing p with
 |nil=>exact zBI _
 |cons a ts ih =>
  have h1:=ih r.2 fun t ht=>h t (zD _ ht)
  have h2:(a-p) * f a<=(a-p) * g a:=zAU (h a (zF ..)) (by have:=r.1;lia)
  show(a-p) * f a+_<=(a-p) * g a+_
  omega
theorem gs_add(f g:Int->Int)(p:Int)(ts:List Int):gs (fun t=>f t+g t) p ts=gs f p ts+gs g p ts:=by
 induction ts generalizing p with
 |nil=>rfl
 |cons a ts ih =>
  show(a-p) * (f a+g a)+_=((a-p) * f a+_)+((a-p) * g a+_)
  rw[ih,Int.mul_add]
  lia
theorem gs_mul(c:Int)(g:Int->Int)(p:Int)(ts:List Int):gs (fun t=>c * g t) p ts=c * gs g p ts:=by
 induction ts generalizing p with
 |nil=>exact(Int.mul_zero c).symm
 |cons a ts ih =>
  show(a-p) * (c * g a)+_=c * ((a-p) * g a+_)
  rw[ih,Int.mul_add,<- zAD,zAX (a-p) c,zAD]
theorem gs_zero{g:Int->Int}{p:Int}{ts:List Int}(h:∀ t∈ts,g t=0):gs g p ts=0:=by
 induction ts generalizing p with
 |nil=>rfl
 |cons a ts ih =>
  show(a-p) * g a+_=0
  rw[h a (zF ..),Int.mul_zero,ih fun t ht=>h t (zD _ ht)]
  rfl
theorem gs_sum{α:Type}(F:α->Int->Int)(l:List α)(p:Int)(ts:List Int):gs (fun t=>(l.map fun e=>F e t).sum) p ts=(l.map fun e=>gs (F e) p ts).sum:=by
 induction l with
 |nil=>exact gs_zero fun _ _=>rfl
 |cons e l ih =>
  rw[zN,zAF,<- ih,<- gs_add]
  congr 1
noncomputable def up(h t:Int):Int:=if t<=h then 1 else 0
theorem gs_up{h p:Int}{ts:List Int}(r:Ris p ts)(m:h∈p :: ts):gs (up h) p ts=h-p:=by
 induction ts generalizing p with
 |nil =>
  rw[zH.mp m]
  show(0:Int)=p-p
  lia
 |cons a ts ih =>
  show(a-p) * up h a+_=_
  rcases zW.mp m with rfl | m
  ·rw[gs_zero fun t ht=>?_]
   ·unfold up
    rw[if_neg (by have:=r.1;lia)]
    lia
   ·unfold up
    have:=r.2.lt t ht
    have:=r.1
    rw[if_neg (by lia)]
  ·have ah:a<=h:=by
    rcases zW.mp m with rfl | m
    ·exact zBI _
    ·exact zBN (r.2.lt h m)
   rw[ih r.2 m]
   unfold up
   rw[if_pos ah]
   lia
noncomputable def ci(x y:Int->Int)(t a:Int):Int:=if(t<=x a↔t<=y a)then 0 else 1
theorem ci_nn(x y:Int->Int)(t a:Int):0<=ci x y t a:=by unfold ci;split <;> lia
noncomputable def ab(i:Int):Int:=if i<0 then -i else i
theorem gs_ci{x y:Int->Int}{a:Int}{ts:List Int}(r:Ris 0 ts)(hx:x a∈0 :: ts)(hy:y a∈0 :: ts):gs (fun t=>ci x y t a) 0 ts=ab (x a-y a):=by
 have e:(fun t=>ci x y t a)=fun t=>(if y a<=x a then(up (x a) t+(-1) * up (y a) t)else(up (y a) t+(-1) * up (x a) t)):=by
  funext t
  unfold ci up
  by_cases h1:t<=x a <;> by_cases h2:t<=y a <;> by_cases h3:y a<=x a <;> simp[h1,h2,h3] <;> lia
 rw[e]
 by_cases h:y a<=x a
 ·simp only[if_pos h]
  rw[gs_add,gs_mul,gs_up r hx,gs_up r hy]
  unfold ab
  split <;> lia
 ·simp only[if_neg h]
  rw[gs_add,gs_mul,gs_up r hx,gs_up r hy]
  unfold ab
  split <;> lia
noncomputable def fs(x:Int->Int)(t:Int)(z:Int):List Int->Int
 |[]=>z
 |a :: r=>if t<=x a then a else fs x t z r
noncomputable def sep(x y:Int->Int)(t z:Int)(pre:List Int):Int:=if fs x t z pre=fs y t z pre then 0 else 1
noncomputable def stl(x y:Int->Int)(t:Int)(a:Int):Bool:=decide (t<=x a) || decide (t<=y a)
noncomputable def hd0(f:Int->Int):List Int->Int
 |[]=>0
 |a :: _=>f a
theorem sep_le(x y:Int->Int)(t z:Int):∀ pre:List Int,sep x y t z pre<=hd0 (ci x y t) (pre.filter (stl x y t))
 |[]=>by unfold sep fs;simp[hd0]
 |a :: r=>by
  have ih:=sep_le x y t z r
  by_cases h1:t<=x a
  ·have s:stl x y t a=true:=by unfold stl;simp[h1]
   rw[zBV s]
   show _<=ci x y t a
   by_cases h2:t<=y a
   ·unfold sep fs
    rw[if_pos h1,if_pos h2,if_pos rfl]
    exact ci_nn ..
   ·unfold ci
    rw[if_neg (fun z=>h2 (z.mp h1))]
    unfold sep
    split <;> lia
  ·by_cases h2:t<=y a
   ·have s:stl x y t a=true:=by unfold stl;simp[h2]
    rw[zBV s]
    show _<=ci x y t a
    unfold ci
    rw[if_neg (fun z=>h1 (z.mpr h2))]
    unfold sep
    split <;> lia
   ·have s:¬ stl x y t a=true:=by unfold stl;simp[h1,h2]
    rw[zCE s]
    have e:sep x y t z (a :: r)=sep x y t z r:=by
     unfold sep
     show(if(if t<=x a then a else fs x t z r)=(if t<=y a then a else fs y t z r)then(0:Int)else 1)=_
     rw[if_neg h1,if_neg h2]
    rw[e]
    exact ih
theorem sum_nn':∀ {l:List Int},(∀ x∈l,0<=x)->0<=l.sum
 |[],_=>zBI _
 |x :: l,h=>by
  rw[zAF]
  have:=h x (zF ..)
  have:=sum_nn' fun y hy=>h y (zD _ hy)
  lia
theorem mem_le_sum{f:Int->Int}(nn:∀ a,0<=f a):∀ {l:List Int}{a:Int},a∈l->f a<=(l.map f).sum
 |b :: l,a,h=>by
  rw[zN,zAF]
  have n0:0<=(l.map f).sum:=sum_nn' fun x hx=>by
   obtain⟨c,_,rfl⟩:=zAH.mp hx
   exact nn c
  rcases zW.mp h with rfl | h
  ·lia
  ·have:=mem_le_sum nn h
   have:=nn b
   lia
theorem filter_sum_le{f:Int->Int}(nn:∀ a,0<=f a)(p:Int->Bool):∀ l:List Int,((l.filter p).map f).sum<=(l.map f).sum
 |[]=>zBI _
 |a :: l=>by
  have ih:=filter_sum_le nn p l
  have:=nn a
  by_cases h:p a=true
  ·rw[zBV h,zN,zN,zAF,zAF]
   lia
  ·rw[zCE h,zN,zAF]
   lia
theorem two_le{x y:Int->Int}{t z m:Int}{pre:List Int}(hm:m∈pre)(top:∀ a∈pre,x a<=x m\/x a<=y m)(top':∀ a∈pre,y a<=x m\/y a<=y m):sep x y t z pre+sep x y t z pre.reverse<=(pre.map (ci x y t)).sum+ci x y t m:=by
 have h1:=sep_le x y t z pre
 have h2:=sep_le x y t z pre.reverse
 rw[List.filter_reverse]at h2
 have h3:=filter_sum_le (ci_nn x y t) (stl x y t) pre
 have hS:∀ a∈pre.filter (stl x y t),m∈pre.filter (stl x y t):=fun a ha=>by
  obtain⟨a1,a2⟩:=zBA.mp ha
  refine zBA.mpr ⟨hm,?_⟩
  unfold stl at a2 ⊢
  simp only[Bool.or_eq_true,decide_eq_true_eq]at a2 ⊢
  have t1:=top a a1
  have t2:=top' a a1
  lia
 generalize pre.filter (stl x y t)=S at *
 have n0:=ci_nn x y t m
 match S with
 |[] =>
  have:hd0 (ci x y t) ([]:List Int).reverse=0:=rfl
  rw[this]at h2
  have h1:sep x y t z pre<=0:=h1
  have h3:(0:Int)<=(pre.map (ci x y t)).sum:=h3
  lia
 |[a] =>
  have e:m=a:=zH.mp (hS a (zH.mpr rfl))
  subst e
  have h1:sep x y t z pre<=ci x y t m:=h1
  have h2:sep x y t z pre.reverse<=ci x y t m:=h2
  have:=mem_le_sum (ci_nn x y t) hm
  lia
 |a :: b :: r =>
  have h1:sep x y t z pre<=ci x y t a:=h1
  obtain⟨e,he,hl⟩:∃ e,e∈b :: r/\hd0 (ci x y t) (a :: b :: r).reverse=ci x y t e:=by
   refine⟨(b :: r).getLast (by simp),List.getLast_mem _,?_⟩
   have q:(a :: b :: r).reverse=(b :: r).getLast (by simp) :: ((b :: r).dropLast.reverse++[a]):=by
    rw[List.reverse_cons]
    conv=>lhs;rw[<- List.dropLast_concat_getLast (l:=b :: r) (by simp)]
    rw[List.reverse_append]
    rfl
   rw[q]
   rfl
  rw[hl]at h2
  have h4:=mem_le_sum (ci_nn x y t) he
  rw[zN,zAF]at h3
  lia
theorem ab_sum:∀ l:List Int,ab l.sum<=(l.map ab).sum
 |[]=>by decide
 |a :: l=>by
  have ih:=ab_sum l
  rw[zAF,zN,zAF]
  unfold ab at *
  split <;> split at ih <;> split <;> lia
theorem half_le{f:Int->Int}{l:List Int}{a:Int}(h:a∈l)(z:(l.map f).sum=0):2 * ab (f a)<=(l.map fun b=>ab (f b)).sum:=by
 obtain⟨s,t,rfl⟩:=List.append_of_mem h
 rw[zP,List.sum_append,zN,zAF]at z ⊢
 have h1:=ab_sum (s.map f)
 have h2:=ab_sum (t.map f)
 rw[zAW]at h1 h2
 have e1:(s.map (ab ∘ f))=s.map fun b=>ab (f b):=rfl
 have e2:(t.map (ab ∘ f))=t.map fun b=>ab (f b):=rfl
 rw[e1]at h1
 rw[e2]at h2
 unfold ab at *
 split <;> split at h1 <;> split at h2 <;> lia
theorem top_ex(g:Int->Int):∀ {l:List Int},l≠[]->∃ m∈l,∀ a∈l,g a<=g m
 |[a],_=>⟨a,zH.mpr rfl,fun b hb=>by rw[zH.mp hb];exact zBI _⟩
 |a :: b :: l,_=>by
  obtain⟨m,hm,top⟩:=top_ex g (l:=b :: l) (by simp)
  by_cases h:g a<=g m
  ·refine⟨m,zD _ hm,fun c hc=>?_⟩
   rcases zW.mp hc with rfl | hc
   ·exact h
   ·exact top c hc
  ·refine⟨a,zF ..,fun c hc=>?_⟩
   rcases zW.mp hc with rfl | hc
   ·exact zBI _
   ·have:=top c hc
    lia
theorem tie_mid{x y:Int->Int}{z:Int}{pre ts:List Int}(r:Ris 0 ts)(hx:∀ a∈pre,x a∈0 :: ts)(hy:∀ a∈pre,y a∈0 :: ts)(hs:((pre++[z]).map x).sum=((pre++[z]).map y).sum) :
  2 * gs (fun t=>sep x y t z pre+sep x y t z pre.reverse) 0 ts<=3 * ((pre++[z]).map fun a=>ab (x a-y a)).sum-2 * ab (x z-y z):=by
 cases pre with
 |nil =>
  rw[gs_zero fun t _=>by unfold sep fs;simp]
  have e1:((([]:List Int)++[z]).map fun a=>ab (x a-y a)).sum=ab (x z-y z):=by simp
  rw[e1]
  have:0<=ab (x z-y z):=by unfold ab;split <;> lia
  lia
 |cons p0 pr =>
  generalize hp:p0 :: pr=pre at *
  obtain⟨m,hm,top⟩:=top_ex (fun a=>if x a<=y a then y a else x a) (l:=pre) (by rw[<- hp];simp)
  have t1:∀ a∈pre,x a<=x m\/x a<=y m:=fun a ha=>by
   have:=top a ha
   split at this <;> split at this <;> lia
  have t2:∀ a∈pre,y a<=x m\/y a<=y m:=fun a ha=>by
   have:=top a ha
   split at this <;> split at this <;> lia
  have h1:=gs_le r (f:=fun t=>sep x y t z pre+sep x y t z pre.reverse) (g:=fun t=>(pre.map fun a=>ci x y t a).sum+ci x y t m) fun t _=>two_le hm t1 t2
  rw[gs_add (fun t=>(pre.map fun a=>ci x y t a).sum) (fun t=>ci x y t m),gs_sum (fun a t=>ci x y t a) pre,gs_ci r (hx m hm) (hy m hm)]at h1
  have e:(pre.map fun a=>gs (fun t=>ci x y t a) 0 ts)=pre.map fun a=>ab (x a-y a):=zAP fun a ha=>gs_ci r (hx a ha) (hy a ha)
  rw[e]at h1
  have sub:((pre++[z]).map fun a=>x a-y a).sum=0:=by
   have:∀ l:List Int,(l.map fun a=>x a-y a).sum=(l.map x).sum-(l.map y).sum:=fun l=>by
    induction l with
    |nil=>rfl
    |cons a l ih=>rw[zN,zN,zN,zAF,zAF,zAF,ih];lia
   rw[this,hs]
   lia
  have h2:=half_le (f:=fun a=>x a-y a) (zAQ [z] hm) sub
  have e2:((pre++[z]).map fun a=>ab (x a-y a)).sum=(pre.map fun a=>ab (x a-y a)).sum+ab (x z-y z):=by
   rw[zP,List.sum_append]
   simp
  rw[e2]at h2 ⊢
  lia
theorem sum_mono{α:Type}{f g:α->Int}:∀ {l:List α},(∀ e∈l,f e<=g e)->(l.map f).sum<=(l.map g).sum
 |[],_=>zBI _
 |e :: l,h=>by
  rw[zN,zN,zAF,zAF]
  have:=h e (zF ..)
  have:=sum_mono (l:=l) fun d hd=>h d (zD _ hd)
  lia
theorem sum_scale{α:Type}(c:Int)(f:α->Int):∀ l:List α,(l.map fun e=>c * f e).sum=c * (l.map f).sum
 |[]=>(Int.mul_zero c).symm
 |e :: l=>by
  rw[zN,zN,zAF,zAF,sum_scale c f l,Int.mul_add]
theorem sum_plus{α:Type}(f g:α->Int):∀ l:List α,(l.map fun e=>f e+g e).sum=(l.map f).sum+(l.map g).sum
 |[]=>rfl
 |e :: l=>by
  rw[zN,zN,zN,zAF,zAF,zAF,sum_plus f g l]
  lia
theorem ties_mid{α:Type}{l:List α}{w:α->Int}{x y:α->Int->Int}{z:Int}{pre ts:List Int}(r:Ris 0 ts)(w0:∀ e∈l,0<=w e)(hx:∀ e∈l,∀ a∈pre,x e a∈0 :: ts)(hy:∀ e∈l,∀ a∈pre,y e a∈0 :: ts)(hs:∀ e∈l,((pre++[z]).map (x e)).sum=((pre++[z]).map (y e)).sum) :
  2 * gs (fun t=>(l.map fun e=>w e * sep (x e) (y e) t z pre).sum+(l.map fun e=>w e * sep (x e) (y e) t z pre.reverse).sum) 0 ts<=3 * (l.map fun e=>w e * ((pre++[z]).map fun a=>ab (x e a-y e a)).sum).sum-2 * (l.map fun e=>w e * ab (x e z-y e z)).sum:=by
 have e1:(fun t=>(l.map fun e=>w e * sep (x e) (y e) t z pre).sum+(l.map fun e=>w e * sep (x e) (y e) t z pre.reverse).sum)=fun t=>(l.map fun e=>w e * (sep (x e) (y e) t z pre+sep (x e) (y e) t z pre.reverse)).sum:=by
  funext t
  rw[<- sum_plus]
  congr 1
  exact zAP fun e _=>by rw[Int.mul_add]
 rw[e1,gs_sum (fun e t=>w e * (sep (x e) (y e) t z pre+sep (x e) (y e) t z pre.reverse)) l]
 have e2:(l.map fun e=>gs (fun t=>w e * (sep (x e) (y e) t z pre+sep (x e) (y e) t z pre.reverse)) 0 ts)=l.map fun e=>w e * gs (fun t=>sep (x e) (y e) t z pre+sep (x e) (y e) t z pre.reverse) 0 ts:=zAP fun e _=>gs_mul _ _ _ _
 rw[e2,<- sum_scale,<- sum_scale 3,<- sum_scale 2]
 have h:=sum_mono (l:=l) (f:=fun e=>2 * (w e * gs (fun t=>sep (x e) (y e) t z pre+sep (x e) (y e) t z pre.reverse) 0 ts)) (g:=fun e=>w e * (3 * ((pre++[z]).map fun a=>ab (x e a-y e a)).sum-2 * ab (x e z-y e z))) fun e he=>by
  have:=zAU (tie_mid r (hx e he) (hy e he) (hs e he)) (w0 e he)
  rw[<- zAD,zAX (w e) 2,zAD]at this
  exact this
 refine Int.le_trans h (Int.le_of_eq ?_)
 have e3:(l.map fun e=>w e * (3 * ((pre++[z]).map fun a=>ab (x e a-y e a)).sum-2 * ab (x e z-y e z)))=l.map fun e=>3 * (w e * ((pre++[z]).map fun a=>ab (x e a-y e a)).sum)+(-1) * (2 * (w e * ab (x e z-y e z))):=zAP fun e _=>by
  rw[Int.mul_sub,<- zAD,<- zAD,zAX (w e) 3,zAX (w e) 2,zAD,zAD]
  lia
 rw[e3,sum_plus,sum_scale (-1)]
 lia
noncomputable def ky(D:Int)(f:Fr):Int:=f.1 * (D / f.2)
noncomputable def kx(D:Int)(row:List Fr)(a:Int):Int:=ky D (row.getD a.toNat (0,1))
theorem tkr_fs{D:Int}{row:List Fr}{th:Fr}{z:Int}(D0:0<D)(ht:0<th.2/\th.2 ∣ D):∀ {pre:List Int},(∀ a∈pre,0 <(row.getD a.toNat (0,1)).2/\(row.getD a.toNat (0,1)).2 ∣ D)->tkr row th (pre++[z])=fs (kx D row) (ky D th) z pre
 |[],_=>rfl
 |a :: pre,h=>by
  have e:tkr row th (a :: (pre++[z]))=if ltF (row.getD a.toNat (0,1)) th=true then tkr row th (pre++[z])else a:=by
   cases pre with
   |nil=>rfl
   |cons b pre=>rfl
  have ha:=h a (zF ..)
  have k:=top_lt D0 ha.1 ht.1 ha.2 ht.2
  rw[List.cons_append,e,tkr_fs D0 ht fun b hb=>h b (zD _ hb)]
  show _=if ky D th<=kx D row a then a else fs (kx D row) (ky D th) z pre
  by_cases c:ltF (row.getD a.toNat (0,1)) th=true
  ·rw[if_pos c,if_neg (by have:=k.mpr c;unfold kx ky;lia)]
  ·rw[if_neg c,if_pos (by
    have:¬ _<_:=fun z=>c (k.mp z)
    unfold kx ky
    lia)]
theorem thr_ris{fs L:List Fr}{D:Int}(D0:0<D)(ok:∀ f∈fs,0<f.2/\f.2 ∣ D)(t:ThrOf fs L):Ris 0 (L.map (ky D)):=by
 have mem:∀ f∈L,0<f.2/\f.2 ∣ D/\0<f.1:=fun f hf=>by
  have:=(t.mem f).mp hf
  exact⟨(ok f this.1).1,(ok f this.1).2,this.2⟩
 have kp:∀ f∈L,0<ky D f:=fun f hf=>by
  obtain⟨h1,h2,h3⟩:=mem f hf
  refine Int.mul_pos h3 ?_
  exact Int.ediv_pos_of_pos_of_dvd D0 (by lia) h2
 have main:∀ (M:List Fr) (p:Int),(∀ f∈M,p<ky D f)->M.Pairwise (fun x y=>ltF x y=true)->(∀ f∈M,f∈L)->Ris p (M.map (ky D)):=by
  intro M
  induction M with
  |nil=>exact fun _ _ _ _=>trivial
  |cons f M ih =>
   intro p h1 h2 h3
   refine⟨h1 f (zF ..),ih _ (fun g hg=>?_) (List.pairwise_cons.mp h2).2 fun g hg=>h3 g (zD _ hg)⟩
   have mf:=mem f (h3 f (zF ..))
   have mg:=mem g (h3 g (zD _ hg))
   exact(top_lt D0 mf.1 mg.1 mf.2.1 mg.2.1).mpr ((List.pairwise_cons.mp h2).1 g hg)
 exact main L 0 kp t.ris fun _ h=>h
theorem key_in{fs L:List Fr}{D:Int}(t:ThrOf fs L){f:Fr}(hf:f∈fs)(f0:0<=f.1):ky D f∈0 :: L.map (ky D):=by
 by_cases h:0<f.1
 ·exact zD _ (zBO ((t.mem f).mpr ⟨hf,h⟩))
 ·have:f.1=0:=by lia
  unfold ky
  rw[this,Int.zero_mul]
  exact zF
noncomputable def gl(D:Int)(G:Fr->Int):Int->List Fr->Int
 | _,[]=>0
 |p,th :: L=>(ky D th-p) * G th+gl D G (ky D th) L
theorem gl_le{D:Int}{G:Fr->Int}{g:Int->Int}:∀ {L:List Fr}{p:Int},Ris p (L.map (ky D))->(∀ th∈L,G th<=g (ky D th))->gl D G p L<=gs g p (L.map (ky D))
 |[],_,_,_=>zBI _
 |th :: L,p,r,h=>by
  have h1:=gl_le (L:=L) r.2 fun t ht=>h t (zD _ ht)
  have h2:(ky D th-p) * G th<=(ky D th-p) * g (ky D th):=zAU (h th (zF ..)) (by have:=r.1;lia)
  show(ky D th-p) * G th+_<=(ky D th-p) * g (ky D th)+_
  omega
theorem gl_add(D:Int)(f g:Fr->Int):∀ (L:List Fr) (p:Int),gl D (fun t=>f t+g t) p L=gl D f p L+gl D g p L
 |[],_=>rfl
 |th :: L,p=>by
  show(ky D th-p) * (f th+g th)+_=((ky D th-p) * f th+_)+((ky D th-p) * g th+_)
  rw[gl_add D f g L,Int.mul_add]
  lia
theorem gl_ge{D c:Int}{G:Fr->Int}:∀ {L:List Fr}{p:Int},Ris p (L.map (ky D))->(∀ th∈L,c<=G th)->c * ((p :: L.map (ky D)).getLast (by simp)-p)<=gl D G p L
 |[],p,_,_=>by
  show c * (p-p)<=0
  rw[Int.sub_self,Int.mul_zero]
  exact zBI _
 |th :: L,p,r,h=>by
  have h1:=gl_ge (L:=L) (p:=ky D th) r.2 fun t ht=>h t (zD _ ht)
  have h2:(ky D th-p) * c<=(ky D th-p) * G th:=zAU (h th (zF ..)) (by have:=r.1;lia)
  have e:(p :: (th :: L).map (ky D)).getLast (by simp)=(ky D th :: L.map (ky D)).getLast (by simp):=List.getLast_cons (by simp)
  rw[e]
  show _<=(ky D th-p) * G th+_
  have e2:c * ((ky D th :: L.map (ky D)).getLast (by simp)-p)=(ky D th-p) * c+c * ((ky D th :: L.map (ky D)).getLast (by simp)-ky D th):=by
   rw[zAX (ky D th-p) c,<- Int.mul_add]
   congr 1
   lia
  rw[e2]
  lia
theorem ris_last{D:Int}:∀ {ts:List Int}{p:Int},Ris p ts->p<=D->(∀ t∈ts,t<=D)->D∈p :: ts->(p :: ts).getLast (by simp)=D
 |[],p,_,_,_,m=>(zH.mp m).symm
 |t :: ts,p,r,hp,h,m=>by
  rw[List.getLast_cons (List.cons_ne_nil t ts)]
  refine ris_last r.2 (h t (zF ..)) (fun s hs=>h s (zD _ hs)) ?_
  rcases zW.mp m with e | m
  ·have:=h t (zF ..)
   have:=r.1
   lia
  ·exact m
end Rnd
namespace K31
open PySem L2 PyProof.Rows
open Rnd (ltF tkr ThrOf uq uqs Lo ky kx gl sep fs ab gs Ris)
theorem tkr_unit{row:List (Int×Int)}{th:Int×Int}{k:Int}(th0:0<th.1)(th1:th.1<=th.2)(hk:row.getD k.toNat (0,1)=(1,1)):∀ {od:List Int},k∈od->(∀ a∈od,a≠k->row.getD a.toNat (0,1)=(0,1))->tkr row th od=k
 |[],h,_=>nomatch h
 |[a],h,_=>(zH.mp h).symm
 |a :: b :: r,h,g=>by
  unfold tkr
  by_cases e:a=k
  ·subst e
   have:ltF (row.getD a.toNat (0,1)) th=false:=by
    rw[hk]
    unfold ltF
    exact decide_eq_false (by show ¬(1 * th.2<th.1 * 1);lia)
   rw[this]
   rfl
  ·have:ltF (row.getD a.toNat (0,1)) th=true:=by
    rw[g a (zF ..) e]
    unfold ltF
    exact decide_eq_true (by show 0 * th.2<th.1 * 1;lia)
   rw[this,if_pos rfl]
   refine tkr_unit th0 th1 hk ?_ fun c hc=>g c (zD _ hc)
   rcases zW.mp h with z | z
   ·exact absurd z.symm e
   ·exact z
theorem unr_get{ps:List Int}{v:Nat}{a:Nat}(h:a<ps.length):(UnR ps v).getD a (0,1)=((if ps[a]=0+(v:Int)then 1 else 0:Int),(1:Int)):=by
 unfold UnR
 rw[zAL,zAB,zE h]
 rfl
noncomputable def Cov(ows:List Int)(ties:List Tie)(ks:List (List Int)):Prop:=∀ x∈ties,hAt ows x.1≠hAt ows x.2.1->pairOf x∈ks
theorem parted_of{n:Nat}{ties:List Tie}{ks:List (List Int)}{hs ps ows:List Int}(IH:IsHeads n (rest ties ks) hs)(po:PostOk n ps)(oo:∀ x∈ps,hAt ows x=x)(cv:Cov ows ties ks):parted hs ps=true:=by
 unfold parted
 rw[decide_eq_true_eq]
 have key:(ps.map (hAt hs)).Nodup:=by
  unfold List.Nodup
  rw[List.pairwise_map]
  refine List.Pairwise.imp_of_mem (fun {a b} ha hb ne e=>ne ?_) po.nd
  obtain⟨a0,a1⟩:=po.rg a ha
  obtain⟨b0,b1⟩:=po.rg b hb
  have r:Rch (rest ties ks) a b:=(IH.rch a a0 a1).trans (by rw[e];exact(IH.rch b b0 b1).symm)
  have:=Rch.inv (f:=hAt ows) (fun x y v m=>by
   obtain⟨m1,m2⟩:=mem_rest.mp m
   exact Classical.byContradiction fun ne=>m2 (cv _ m1 ne)) r
  rw[oo a ha,oo b hb]at this
  exact this
 have:=(nub_len _).mpr key
 rw[zA]at this
 exact this
structure Wld(n:Nat)(ties:List Tie)(ps:List Int)(R:Shr.Rows):Prop where
 ok:∀ x∈ties,TieOk n x
 po:PostOk n ps
 sh:ShOk 16 2880 n ps.length R
 gd:∀ row∈R,GoodRow ps.length row
 un:∀ (j:Nat) (h:j<R.length),(0+(j:Int))∈ps->R[j]=UnR ps j
structure Ord(m:Nat)(od:List Int):Prop where
 pm:od.Perm (upto m)
theorem Ord.mem{m:Nat}{od:List Int}(o:Ord m od){a:Int}:a∈od↔0<=a/\a<m:=by
 rw[o.pm.mem_iff]
 unfold upto
 rw[zAH]
 constructor
 ·rintro⟨i,hi,rfl⟩
  have:=zBG.mp hi
  exact zi5 this
 ·rintro⟨h0,h1⟩
  exact⟨a.toNat,zBG.mpr (by exact zi3 (zn1 (zh3 h0) h1)),by exact Eq.symm (zh3 h0)⟩
theorem ows_get{ps:List Int}{R:Shr.Rows}{c:Cn}{v:Nat}(h:v<R.length){h':v <(ows ps R c).length}:(ows ps R c)[v]=ps.getD (tkr R[v] c.2 c.1).toNat 0:=by
 simp only[ows,zU]
theorem own_post{n:Nat}{ties:List Tie}{ps:List Int}{R:Shr.Rows}{od:List Int}{th:Int×Int}(W:Wld n ties ps R)(o:Ord ps.length od)(th0:0<th.1)(th1:th.1<=th.2):∀ x∈ps,hAt (ows ps R (od,th)) x=x:=fun x hx=>by
 obtain⟨x0,x1⟩:=W.po.rg x hx
 obtain⟨k,hk,e⟩:=zBE hx
 obtain⟨v,rfl⟩:∃ v:Nat,x=(v:Int):=⟨x.toNat,by exact zh3 x0⟩
 have vR:v<R.length:=by rw[W.sh.len];exact zi3 x1
 have er:R[v]=UnR ps v:=W.un v vR (by rw[Int.zero_add];exact hx)
 have vo:v <(ows ps R (od,th)).length:=by unfold ows;rw[zA];exact vR
 rw[hAt_nat vo,ows_get vR,er]
 have t:tkr (UnR ps v) th od=(k:Int):=by
  refine tkr_unit th0 th1 ?_ (o.mem.mpr ⟨by exact zAY k,by exact zi2 hk⟩) fun a ha ne=>?_
  ·rw[zAC,unr_get hk,e,if_pos (by lia)]
  ·obtain⟨a0,a1⟩:=o.mem.mp ha
   rw[unr_get (by lia),if_neg fun z=>ne ?_]
   have:a.toNat=k:=(List.getElem_inj (h₀:=by lia) (h₁:=hk) W.po.nd).mp (by rw[z,e];lia)
   lia
 rw[t,zAC,zAL,zE hk,Option.getD_some,e]
theorem cov_cut{ties:List Tie}{ows:List Int}:Cov ows ties ((ties.filter (dif ows)).map pairOf):=fun x hx ne=>zBO (zBA.mpr ⟨hx,by
 have ne:¬(ows.getD x.1.toNat 0=ows.getD x.2.1.toNat 0):=ne
 unfold dif
 rw[decide_eq_false ne]
 rfl⟩)
theorem cut_parts{n:Nat}{ties:List Tie}{ps:List Int}{R:Shr.Rows}{od hs:List Int}{th:Int×Int}(W:Wld n ties ps R)(o:Ord ps.length od)(th0:0<th.1)(th1:th.1<=th.2)(IH:IsHeads n (rest ties ((cutL ties ps R (od,th)).map pairOf)) hs):parted hs ps=true :=
 parted_of IH W.po (own_post W o th0 th1) cov_cut
theorem perm_sum{l l':List Int}(h:l.Perm l'):l.sum=l'.sum:=by
 induction h with
 |nil=>rfl
 |cons x _ ih=>rw[zAF,zAF,ih]
 |swap x y l=>rw[zAF,zAF,zAF,zAF];lia
 |trans _ _ a b=>rw[a,b]
theorem Wld.D0{n:Nat}{ties:List Tie}{ps:List Int}{R:Shr.Rows}(W:Wld n ties ps R):0<Shr.dn R:=W.sh.ok.dn.1
theorem Wld.dv{n:Nat}{ties:List Tie}{ps:List Int}{R:Shr.Rows}(W:Wld n ties ps R):∀ f∈R.flatten,0<f.2/\f.2 ∣ Shr.dn R:=fun f hf=>by
 obtain⟨row,hr,h⟩:=zCD.mp hf
 exact⟨((W.gd row hr).ok f h).1,W.sh.ok.dn.2.2 row hr f h⟩
theorem Wld.nn{n:Nat}{ties:List Tie}{ps:List Int}{R:Shr.Rows}(W:Wld n ties ps R):∀ f∈R.flatten,0<=f.1:=fun f hf=>by
 obtain⟨row,hr,h⟩:=zCD.mp hf
 exact(W.gd row hr).nn f h
theorem row_mem{m:Nat}{row:List (Int×Int)}(g:GoodRow m row){a:Int}(h:0<=a/\a<m):row.getD a.toNat (0,1)∈row:=by
 have hl:a.toNat<row.length:=by rw[g.len];omega
 rw[getD_at hl]
 exact zS hl
noncomputable def xs(R:Shr.Rows)(v:Int)(a:Int):Int:=kx (Shr.dn R) (R.getD v.toNat []) a
theorem row_at{n:Nat}{ties:List Tie}{ps:List Int}{R:Shr.Rows}(W:Wld n ties ps R){v:Int}(h:0<=v/\v<n):R.getD v.toNat []∈R:=by
 have hl:v.toNat<R.length:=by rw[W.sh.len];omega
 rw[getD_at hl]
 exact zS hl
theorem xs_sum{n:Nat}{ties:List Tie}{ps:List Int}{R:Shr.Rows}{od:List Int}(W:Wld n ties ps R)(o:Ord ps.length od){v:Int}(h:0<=v/\v<n):(od.map (xs R v)).sum=Shr.dn R:=by
 have g:=W.gd _ (row_at W h)
 have e1:(od.map (xs R v)).sum=((upto ps.length).map (xs R v)).sum:=perm_sum (o.pm.map _)
 have e2:(upto ps.length).map (xs R v)=(R.getD v.toNat []).map fun f=>f.1 * (Shr.dn R / f.2):=by
  apply List.ext_getElem
  ·rw[zA,zA,g.len]
   unfold upto
   rw[zA,zBQ]
  ·intro i h1 h2
   rw[zA]at h2
   rw[zU,zU]
   unfold upto
   rw[zU,List.getElem_range]
   unfold xs kx ky
   rw[zAC,getD_at h2]
 rw[e1,e2]
 exact g.one _ W.D0 fun f hf=>W.sh.ok.dn.2.2 _ (row_at W h) f hf
theorem wt_sep{n:Nat}{ties:List Tie}{ps:List Int}{R:Shr.Rows}{pre:List Int}{z:Int}{th:Int×Int}(W:Wld n ties ps R)(hp:∀ a∈pre,0<=a/\a<ps.length)(ht:0<th.2/\th.2 ∣ Shr.dn R) :
  wt ties ps R (pre++[z],th)<=(ties.map fun e=>e.2.2 * sep (xs R e.1) (xs R e.2.1) (ky (Shr.dn R) th) z pre).sum:=by
 unfold wt cutL
 have key:∀ {l:List Tie},(∀ x∈l,TieOk n x)->((l.filter (dif (ows ps R (pre++[z],th)))).map (·.2.2)).sum<=(l.map fun e=>e.2.2 * sep (xs R e.1) (xs R e.2.1) (ky (Shr.dn R) th) z pre).sum:=by
  intro l
  induction l with
  |nil=>exact fun _=>zBI _
  |cons e l ih =>
   intro hl
   have ih:=ih fun x hx=>hl x (zD _ hx)
   obtain⟨e0,e1,e2,e3,_⟩:=hl e (zF ..)
   rw[zN,zAF]
   by_cases d:dif (ows ps R (pre++[z],th)) e=true
   ·rw[zBV d,zN,zAF]
    have s1:sep (xs R e.1) (xs R e.2.1) (ky (Shr.dn R) th) z pre=1:=by
     unfold sep
     rw[if_neg fun eq=>?_]
     unfold dif at d
     have own:∀ v:Int,0<=v->v<n->(ows ps R (pre++[z],th)).getD v.toNat 0=ps.getD (fs (xs R v) (ky (Shr.dn R) th) z pre).toNat 0:=fun v v0 v1=>by
      have vR:v.toNat<R.length:=by rw[W.sh.len];exact zi3 (zn1 (zh3 v0) v1)
      have vo:v.toNat <(ows ps R (pre++[z],th)).length:=by unfold ows;rw[zA];exact vR
      have g:=W.gd _ (zS vR)
      rw[getD_at vo,ows_get vR,Rnd.tkr_fs W.D0 ht (fun a ha=>?_)]
      ·unfold xs
       rw[getD_at vR]
      ·have hm:=row_mem g (hp a ha)
       exact⟨(g.ok _ hm).1,W.sh.ok.dn.2.2 _ (zS vR) _ hm⟩
     rw[own e.1 (by exact e0) (by lia),own e.2.1 (by lia) (by exact e2),eq,decide_eq_true rfl]at d
     cases d
    rw[s1]
    show e.2.2+_<=e.2.2 * 1+_
    lia
   ·rw[zCE (by simpa using d)]
    have s0:0<=sep (xs R e.1) (xs R e.2.1) (ky (Shr.dn R) th) z pre:=by unfold sep;split <;> decide
    have:=Int.mul_nonneg (show 0<=e.2.2 by lia) s0
    lia
 exact key W.ok
theorem xs_tops{n:Nat}{ties:List Tie}{ps:List Int}{R:Shr.Rows}(W:Wld n ties ps R){v:Int}(h:0<=v/\v<n){a:Nat}(ha:a<ps.length):(rowOf (Shr.tops (Shr.dn R) R) v).getD a 0=xs R v (a:Int):=by
 have vR:v.toNat<R.length:=by rw[W.sh.len];omega
 have vT:v.toNat <(Shr.tops (Shr.dn R) R).length:=by rw[tops_len];exact vR
 have g:=W.gd _ (zS vR)
 have al:a<R[v.toNat].length:=by rw[g.len];exact ha
 unfold rowOf
 rw[getD_at vT]
 unfold xs kx ky
 rw[getD_at vR,zAC,getD_at al]
 simp only[Shr.tops,zU]
 rw[getD_at (by rw[zA];exact al),zU]
theorem range_sum_mul(c:Int)(f:Nat->Int):∀ m:Nat,((List.range m).map fun l=>c * f l).sum=c * ((List.range m).map f).sum
 | 0=>by simp
 |m+1=>by
  rw[List.range_succ,zP,zP,List.sum_append,List.sum_append,range_sum_mul c f m,Int.mul_add]
  simp
theorem far_range{xs ys:List Int}{m:Nat}(hx:xs.length=m)(hy:ys.length=m):far xs ys=((List.range m).map fun l=>aI (xs.getD l 0-ys.getD l 0)).sum:=by
 unfold far
 congr 1
 apply List.ext_getElem
 ·unfold dists
  rw[zA,List.length_zip,zA,zBQ]
  lia
 ·intro i h1 h2
  rw[zA,zBQ]at h2
  obtain⟨h,e⟩:=dists_get (xs:=xs) (ys:=ys) (i:=i) (by exact zh8 h2 hx) (by exact zh8 h2 hy)
  rw[e,zU,List.getElem_range,getD_at (by exact zh8 h2 hx),getD_at (by exact zh8 h2 hy)]
theorem far_eq{n:Nat}{ties:List Tie}{ps:List Int}{R:Shr.Rows}{od:List Int}(W:Wld n ties ps R)(o:Ord ps.length od){u v:Int}(hu:0<=u/\u<n)(hv:0<=v/\v<n):far (rowOf (Shr.tops (Shr.dn R) R) u) (rowOf (Shr.tops (Shr.dn R) R) v)=(od.map fun a=>ab (xs R u a-xs R v a)).sum:=by
 have e1:(od.map fun a=>ab (xs R u a-xs R v a)).sum=((upto ps.length).map fun a=>ab (xs R u a-xs R v a)).sum:=perm_sum (o.pm.map _)
 have hl:∀ w:Int,0<=w/\w<n->(rowOf (Shr.tops (Shr.dn R) R) w).length=ps.length:=fun w hw=>by
  have vT:w.toNat <(Shr.tops (Shr.dn R) R).length:=by rw[tops_len,W.sh.len];lia
  unfold rowOf
  rw[getD_at vT]
  exact tops_row W.sh _ _ (zS vT)
 rw[e1,far_range (hl u hu) (hl v hv)]
 unfold upto
 rw[zAW]
 congr 1
 refine zAP fun a ha=>?_
 have ha:=zBG.mp ha
 rw[xs_tops W hu ha,xs_tops W hv ha]
 rfl
theorem mid_le{n:Nat}{ties:List Tie}{ps:List Int}{R:Shr.Rows}{L:List (Int×Int)}{pre:List Int}{z:Int}(W:Wld n ties ps R)(t:ThrOf R.flatten L)(o:Ord ps.length (pre++[z])) :
  2 * (gl (Shr.dn R) (fun th=>wt ties ps R (pre++[z],th)) 0 L+gl (Shr.dn R) (fun th=>wt ties ps R (pre.reverse++[z],th)) 0 L)<=3 * (ties.map (cOf (Shr.tops (Shr.dn R) R))).sum-2 * (ties.map (cAt (Shr.tops (Shr.dn R) R) z.toNat)).sum:=by
 have ri:=Rnd.thr_ris W.D0 W.dv t
 have hp:∀ a∈pre,0<=a/\a<ps.length:=fun a ha=>o.mem.mp (zAQ _ ha)
 have hz:0<=z/\z<ps.length:=o.mem.mp (zL _ (zH.mpr rfl))
 have tp:∀ th∈L,0<th.2/\th.2 ∣ Shr.dn R:=fun th hth=>W.dv th ((t.mem th).mp hth).1
 have key:∀ v:Int,0<=v/\v<n->∀ a∈pre,xs R v a∈0 :: L.map (ky (Shr.dn R)):=fun v hv a ha=>by
  have hr:=row_at W hv
  have hm:=row_mem (W.gd _ hr) (hp a ha)
  have hf:(R.getD v.toNat []).getD a.toNat (0,1)∈R.flatten:=zCD.mpr ⟨_,hr,hm⟩
  exact Rnd.key_in t hf (W.nn _ hf)
 have rg:∀ e∈ties,(0<=e.1/\e.1<n)/\(0<=e.2.1/\e.2.1<n)/\1<=e.2.2:=fun e he=>by
  obtain⟨e0,e1,e2,e3,_⟩:=W.ok e he
  lia
 have m:=Rnd.ties_mid (l:=ties) (w:=fun e=>e.2.2) (x:=fun e=>xs R e.1) (y:=fun e=>xs R e.2.1) (z:=z) (pre:=pre) ri (fun e he=>by have:=(rg e he).2.2;lia) (fun e he=>key _ (rg e he).1) (fun e he=>key _ (rg e he).2.1) (fun e he=>by rw[xs_sum W o (rg e he).1,xs_sum W o (rg e he).2.1])
 rw[<- Rnd.gl_add]
 have le:=Rnd.gl_le (G:=fun th=>wt ties ps R (pre++[z],th)+wt ties ps R (pre.reverse++[z],th)) (g:=fun t=>(ties.map fun e=>e.2.2 * sep (xs R e.1) (xs R e.2.1) t z pre).sum+(ties.map fun e=>e.2.2 * sep (xs R e.1) (xs R e.2.1) t z pre.reverse).sum) ri fun th hth=>Int.add_le_add (wt_sep W hp (tp th hth) (z:=z)) (wt_sep W (pre:=pre.reverse) (fun a ha=>hp a (List.mem_reverse.mp ha)) (tp th hth) (z:=z))
 have e1:(ties.map fun e=>e.2.2 * ((pre++[z]).map fun a=>ab (xs R e.1 a-xs R e.2.1 a)).sum)=ties.map (cOf (Shr.tops (Shr.dn R) R)):=zAP fun e he=>by
  unfold cOf
  rw[far_eq W o (rg e he).1 (rg e he).2.1]
 have e2:(ties.map fun e=>e.2.2 * ab (xs R e.1 z-xs R e.2.1 z))=ties.map (cAt (Shr.tops (Shr.dn R) R) z.toNat):=zAP fun e he=>by
  unfold cAt
  rw[xs_tops W (rg e he).1 (by lia),xs_tops W (rg e he).2.1 (by lia),show((z.toNat:Nat):Int)=z by lia]
  rfl
 rw[e1,e2]at m
 exact Int.le_trans (zAU le (by decide)) m
theorem sum_swap{α:Type}(f:α->Nat->Int)(m:Nat):∀ l:List α,((List.range m).map fun k=>(l.map fun e=>f e k).sum).sum=(l.map fun e=>((List.range m).map fun k=>f e k).sum).sum
 |[]=>by
  have:∀ m:Nat,((List.range m).map fun _=>(0:Int)).sum=0:=fun m=>by
   induction m with
   |zero=>rfl
   |succ m ih=>rw[List.range_succ,zP,List.sum_append,ih];rfl
  exact this m
 |e :: l=>by
  rw[zN,zAF,<- sum_swap f m l,<- Rnd.sum_plus]
  rfl
theorem range_le{f:Nat->Int}{c:Int}:∀ {m:Nat},(∀ k,k<m->f k<=c)->((List.range m).map f).sum<=m * c
 | 0,_=>by simp
 |m+1,h=>by
  have ih:=range_le (m:=m) fun k hk=>h k (by exact zi9 hk (zAA m 1))
  have:=h m (Nat.lt_succ_self m)
  rw[List.range_succ,zP,List.sum_append]
  show _+(f m+0)<=((m+1:Nat):Int) * c
  rw[Int.natCast_add,Int.add_mul]
  show _+(f m+0)<=(m:Int) * c+1 * c
  lia
theorem nf_le{a b D:Int}(D0:0<D)(h:ltF (Shr.nf a D) (Shr.nf b D)=false):b<=a:=by
 have ra:=Shr.nf_rel (t:=a) (b:=D) (N:=a) (D:=D) D0 rfl
 have rb:=Shr.nf_rel (t:=b) (b:=D) (N:=b) (D:=D) D0 rfl
 rcases(show b<=a\/a<b by lia)with z | z
 ·exact z
 ·have:ltF (Shr.nf a D) (Shr.nf b D)=true:=by
   rw[Rnd.ltF_iff]
   have e1:=ra.eq
   have e2:=rb.eq
   have pa:=ra.pos
   have pb:=rb.pos
   generalize Shr.nf a D=f at *
   generalize Shr.nf b D=g at *
   refine Int.lt_of_mul_lt_mul_right (a:=D) ?_ (zBN D0)
   have h1:f.1 * g.2 * D=a * (f.2 * g.2):=by rw[zCL,e1,zAD]
   have h2:g.1 * f.2 * D=b * (f.2 * g.2):=by rw[zCL,e2,zAD,zAX g.2]
   rw[h1,h2]
   exact zBJ z (Int.mul_pos pa pb)
  rw[this]at h
  cases h
theorem dear_mid{n:Nat}{ties:List Tie}{ps:List Int}{R:Shr.Rows}{k:Nat}(W:Wld n ties ps R)(d:Dear (csts ties R ps.length) k):(ties.map (cOf (Shr.tops (Shr.dn R) R))).sum<=ps.length * (ties.map (cAt (Shr.tops (Shr.dn R) R) k)).sum:=by
 have kl:k<ps.length:=by have:=d.lt;rw[csts_len]at this;exact this
 have le:∀ l,l<ps.length->(ties.map (cAt (Shr.tops (Shr.dn R) R) l)).sum<=(ties.map (cAt (Shr.tops (Shr.dn R) R) k)).sum:=fun l hl=>by
  have ll:l <(csts ties R ps.length).length:=by rw[csts_len];exact hl
  have:=d.top _ (zS ll)
  rw[getD_at d.lt,csts_get,csts_get]at this
  exact nf_le W.D0 this
 have o:Ord ps.length (upto ps.length):=⟨.refl _⟩
 have e:(ties.map (cOf (Shr.tops (Shr.dn R) R))).sum=((List.range ps.length).map fun l=>(ties.map (cAt (Shr.tops (Shr.dn R) R) l)).sum).sum:=by
  rw[sum_swap (fun e l=>cAt (Shr.tops (Shr.dn R) R) l e)]
  congr 1
  refine zAP fun e he=>?_
  obtain⟨e0,e1,e2,e3,_⟩:=W.ok e he
  unfold cOf cAt
  rw[far_eq W o (by lia) (by lia),range_sum_mul]
  congr 2
  unfold upto
  rw[zAW]
  refine zAP fun a ha=>?_
  have ha:=zBG.mp ha
  rw[xs_tops W (by lia) ha,xs_tops W (by lia) ha]
  rfl
 rw[e]
 exact range_le le
open PySem L2 PyProof.Rows
open Rnd (ltF tkr ThrOf uq uqs Lo ky kx gl sep fs ab gs Ris)
theorem elem_le{x:Int}:∀ {l:List Int},(∀ y∈l,0<=y)->x∈l->x<=l.sum
 |[],_,h=>nomatch h
 |y :: l,n,h=>by
  have s:=sum_nn fun z hz=>n z (zD _ hz)
  have y0:=n y (zF ..)
  rw[zAF]
  rcases zW.mp h with rfl | h
  ·lia
  ·have:=elem_le (fun z hz=>n z (zD _ hz)) h
   lia
theorem ky_le{n:Nat}{ties:List Tie}{ps:List Int}{R:Shr.Rows}(W:Wld n ties ps R){f:Int×Int}(hf:f∈R.flatten):ky (Shr.dn R) f<=Shr.dn R:=by
 obtain⟨row,hr,h⟩:=zCD.mp hf
 have g:=W.gd row hr
 have e:=g.one _ W.D0 fun f hf=>W.sh.ok.dn.2.2 _ hr f hf
 have:=elem_le (l:=row.map fun f=>f.1 * (Shr.dn R / f.2)) (fun y hy=>by
  obtain⟨f,hf,rfl⟩:=zAH.mp hy
  exact Int.mul_nonneg (g.nn f hf) (Int.ediv_nonneg (zBN W.D0) (zBN (g.ok f hf).1))) (zBO (f:=fun f=>f.1 * (Shr.dn R / f.2)) h)
 rw[e]at this
 exact this
theorem th_one{n:Nat}{ties:List Tie}{ps:List Int}{R:Shr.Rows}(W:Wld n ties ps R){f:Int×Int}(hf:f∈R.flatten):f.1<=f.2:=by
 have h:=ky_le W hf
 obtain⟨p,d⟩:=W.dv f hf
 have D0:=W.D0
 obtain⟨q,hq⟩:=d
 unfold ky at h
 rw[hq,zCM q (by lia)]at h
 have q0:0<q:=by
  rcases(show 0<q\/q<=0 by lia)with z | z
  ·exact z
  ·have:=Int.mul_nonpos_of_nonneg_of_nonpos (zBN p) z
   omega
 exact Int.le_of_mul_le_mul_right h q0
theorem one_mem{n:Nat}{ties:List Tie}{ps:List Int}{R:Shr.Rows}{L:List (Int×Int)}(W:Wld n ties ps R)(t:ThrOf R.flatten L):((1:Int),(1:Int))∈L:=by
 have p0:0<ps.length:=by have:=W.po.lo;exact zAV this
 have hm:=zS p0
 obtain⟨x0,x1⟩:=W.po.rg _ hm
 have vR:(ps[0]).toNat<R.length:=by rw[W.sh.len];exact zi3 (zn1 (zh3 x0) x1)
 have er:=W.un _ vR (by rw[Int.zero_add,show(((ps[0]).toNat:Nat):Int)=ps[0] by exact Eq.symm (zh3 x0)];exact hm)
 refine(t.mem _).mpr ⟨zCD.mpr ⟨_,zS vR,?_⟩,by decide⟩
 rw[er]
 unfold UnR
 refine zAH.mpr ⟨ps[0],hm,?_⟩
 rw[if_pos (by lia)]
theorem last_D{n:Nat}{ties:List Tie}{ps:List Int}{R:Shr.Rows}{L:List (Int×Int)}(W:Wld n ties ps R)(t:ThrOf R.flatten L):(0 :: L.map (ky (Shr.dn R))).getLast (by simp)=Shr.dn R:=by
 refine Rnd.ris_last (Rnd.thr_ris W.D0 W.dv t) (zBN W.D0) (fun x hx=>?_) ?_
 ·obtain⟨f,hf,rfl⟩:=zAH.mp hx
  exact ky_le W ((t.mem f).mp hf).1
 ·refine zD _ (zAH.mpr ⟨_,one_mem W t,?_⟩)
  show 1 * (Shr.dn R / 1)=Shr.dn R
  rw[Int.ediv_one,Int.one_mul]
theorem stp_le{W:Cn->Int}{b:Option Cn}{c y:Cn}(h:stp W b c=some y):W y<=W c/\(∀ x,b=some x->W y<=W x)/\(b=some y\/y=c):=by
 unfold stp at h
 cases b with
 |none =>
  have h:some c=some y:=h
  injection h with h
  subst h
  exact⟨zBI _,(fun x z=>(nomatch z)),.inr rfl⟩
 |some x =>
  have h:(if W c<W x then some c else some x)=some y:=h
  split at h
  ·injection h with h
   subst h
   exact⟨zBI _,fun z e=>by injection e with e;subst e;lia,.inr rfl⟩
  ·injection h with h
   subst h
   exact⟨by omega,fun z e=>by injection e with e;subst e;exact zBI _,.inl rfl⟩
theorem turn_le{W:Cn->Int}{o:List Int}:∀ {L:List (Int×Int)}{b:Option Cn}{c:Cn},turn W o L b=some c->(∀ x,b=some x->W c<=W x)/\(∀ th∈L,W c<=W (o,th))/\(b=some c\/∃ th∈L,c=(o,th))
 |[],b,c,h=>by
  have h:b=some c:=h
  subst h
  exact⟨fun x e=>by injection e with e;subst e;exact zBI _,(fun _ z=>(nomatch z)),.inl rfl⟩
 |th :: L,b,c,h=>by
  have h:turn W o L (stp W b (o,th))=some c:=h
  obtain⟨y,hy⟩:=Option.isSome_iff_exists.mp (stp_some W b (o,th))
  rw[hy]at h
  obtain⟨s1,s2,s3⟩:=stp_le hy
  obtain⟨t1,t2,t3⟩:=turn_le h
  have cy:=t1 y rfl
  refine⟨fun x e=>Int.le_trans cy (s2 x e),fun z hz=>?_,?_⟩
  ·rcases zW.mp hz with rfl | hz
   ·exact Int.le_trans cy s1
   ·exact t2 z hz
  ·rcases t3 with e |⟨z,hz,e⟩
   ·injection e with e
    subst e
    rcases s3 with e | e
    ·exact .inl e
    ·exact .inr ⟨th,zF ..,e⟩
   ·exact .inr ⟨z,zD _ hz,e⟩
theorem best_le{W:Cn->Int}{o o':List Int}{L:List (Int×Int)}{c:Cn}(h:best W [o,o'] L=some c):(∀ th∈L,W c<=W (o,th))/\(∀ th∈L,W c<=W (o',th))/\(c.1=o\/c.1=o')/\c.2∈L:=by
 have h:turn W o' L (turn W o L none)=some c:=h
 obtain⟨t1,t2,t3⟩:=turn_le h
 cases e:turn W o L none with
 |none =>
  cases L with
  |nil =>
   rw[e]at t3
   rcases t3 with z |⟨z,hz,_⟩
   ·cases z
   ·cases hz
  |cons th L =>
   have:=turn_some W o (th :: L) none (.inr (by simp))
   rw[e]at this
   cases this
 |some y =>
  obtain⟨u1,u2,u3⟩:=turn_le e
  have cy:=t1 y e
  refine⟨fun th hth=>Int.le_trans cy (u2 th hth),t2,?_⟩
  rcases t3 with z |⟨z,hz,rfl⟩
  ·rw[e]at z
   injection z with z
   subst z
   rcases u3 with z |⟨z,hz,rfl⟩
   ·cases z
   ·exact⟨.inl rfl,hz⟩
  ·exact⟨.inr rfl,hz⟩
theorem upto_nd(m:Nat):(upto m).Nodup:=upto_nodup m
theorem oth_ord{m k:Nat}(h:k<m):(oth m k++[(k:Int)]).Perm (upto m):=by
 refine(List.perm_ext_iff_of_nodup ?_ (upto_nd m)).mpr fun a=>?_
 ·refine zCH.mpr ⟨(upto_nd m).sublist List.filter_sublist,by simp,fun a ha b hb e=>?_⟩
  have:=(zBA.mp ha).2
  rw[e,zH.mp hb,decide_eq_true rfl]at this
  cases this
 ·rw[zX,zH]
  unfold oth
  rw[zBA]
  have km:(k:Int)∈upto m:=by unfold upto;exact zAH.mpr ⟨k,zBG.mpr h,rfl⟩
  by_cases e:a=(k:Int)
  ·rw[e];exact⟨fun _=>km,fun _=>.inr rfl⟩
  ·rw[decide_eq_false e]
   exact⟨fun z=>z.elim (fun y=>y.1) (fun y=>absurd y e),fun z=>.inl ⟨z,rfl⟩⟩
theorem od1_ord{m k:Nat}(h:k<m):Ord m (od1 m k):=⟨oth_ord h⟩
theorem od2_ord{m k:Nat}(h:k<m):Ord m (od2 m k):=⟨((List.reverse_perm _).append_right _).trans (oth_ord h)⟩
theorem factor{n:Nat}{ties:List Tie}{ps:List Int}{R:Shr.Rows}{L:List (Int×Int)}{k:Nat}{c:Cn}(W:Wld n ties ps R)(t:ThrOf R.flatten L)(d:Dear (csts ties R ps.length) k)(hb:best (wt ties ps R) [od1 ps.length k,od2 ps.length k] L=some c) :
  2 * ps.length * wt ties ps R c * (2 * Shr.dn R)<=(3 * ps.length-2) * (ties.map (cOf (Shr.tops (Shr.dn R) R))).sum:=by
 have kl:k<ps.length:=by have:=d.lt;rw[csts_len]at this;exact this
 obtain⟨b1,b2,_,_⟩:=best_le hb
 have m:=mid_le (pre:=oth ps.length k) (z:=(k:Int)) W t (od1_ord kl)
 have dm:=dear_mid W d
 have ri:=Rnd.thr_ris W.D0 W.dv t
 have g1:=Rnd.gl_ge (c:=wt ties ps R c) (G:=fun th=>wt ties ps R (oth ps.length k++[(k:Int)],th)) ri b1
 have g2:=Rnd.gl_ge (c:=wt ties ps R c) (G:=fun th=>wt ties ps R ((oth ps.length k).reverse++[(k:Int)],th)) ri b2
 rw[last_D W t,Int.sub_zero]at g1 g2
 rw[zAC]at m
 generalize gl (Shr.dn R) (fun th=>wt ties ps R (oth ps.length k++[(k:Int)],th)) 0 L=x at *
 generalize gl (Shr.dn R) (fun th=>wt ties ps R ((oth ps.length k).reverse++[(k:Int)],th)) 0 L=y at *
 generalize (ties.map (cOf (Shr.tops (Shr.dn R) R))).sum=C at *
 generalize (ties.map (cAt (Shr.tops (Shr.dn R) R) k)).sum=A at *
 generalize wt ties ps R c=w at *
 generalize Shr.dn R=D at *
 have m0:(0:Int)<=ps.length:=by lia
 generalize (ps.length:Int)=p at *
 -- 4 w D <= 3 C-2 A,C <= p A
 have h1:4 * (w * D)<=3 * C-2 * A:=by lia
 have h2:=zAU h1 m0
 have e1:2 * p * w * (2 * D)=p * (4 * (w * D)):=by
  rw[show(4:Int)=2 * 2 from rfl]
  simp only[zAD,zAX,Int.mul_left_comm]
 have e2:p * (3 * C-2 * A)=3 * (p * C)-2 * (p * A):=by
  rw[Int.mul_sub,Int.mul_left_comm p 3,Int.mul_left_comm p 2]
 have e3:(3 * p-2) * C=3 * (p * C)-2 * C:=by rw[Int.sub_mul,zAD]
 rw[e1,e3]
 lia
noncomputable def lk(D:Int):Int->List (Int×Int)->Int
 |p,[]=>p
 | _,th :: L=>lk D (ky D th) L
theorem lk_snoc(D:Int)(th:Int×Int):∀ (L:List (Int×Int)) (p:Int),lk D p (L++[th])=ky D th
 |[],_=>rfl
 | _ :: L,_=>lk_snoc D th L _
theorem gl_snoc(D:Int)(G:Int×Int->Int)(th:Int×Int):∀ (L:List (Int×Int)) (p:Int),gl D G p (L++[th])=gl D G p L+(ky D th-lk D p L) * G th
 |[],p=>by
  show(ky D th-p) * G th+0=0+(ky D th-p) * G th
  lia
 |a :: L,p=>by
  show(ky D a-p) * G a+gl D G (ky D a) (L++[th])=(ky D a-p) * G a+gl D G (ky D a) L+(ky D th-lk D (ky D a) L) * G th
  rw[gl_snoc D G th L]
  lia
theorem gl_ub{D c:Int}{G:Int×Int->Int}(c0:0<=c):∀ {L:List (Int×Int)}{p:Int},Ris p (L.map (ky D))->(∀ th∈L,0<=G th/\G th<=c)->p<=lk D p L/\0<=gl D G p L/\gl D G p L<=c * (lk D p L-p)
 |[],p,_,_=>⟨zBI _,zBI _,by show(0:Int)<=c * (p-p);rw[Int.sub_self,Int.mul_zero];exact zBI _⟩
 |a :: L,p,r,h=>by
  obtain⟨r1,r2⟩:=(show p<ky D a/\Ris (ky D a) (L.map (ky D))from r)
  obtain⟨i0,i1,i2⟩:=gl_ub c0 (L:=L) (p:=ky D a) r2 fun th hth=>h th (zD _ hth)
  obtain⟨a0,a1⟩:=h a (zF ..)
  have z1:=Int.mul_nonneg (show 0<=ky D a-p by lia) a0
  have z2:=zAU a1 (show 0<=ky D a-p by lia)
  show p<=lk D (ky D a) L/\0<=(ky D a-p) * G a+gl D G (ky D a) L/\(ky D a-p) * G a+gl D G (ky D a) L<=c * (lk D (ky D a) L-p)
  have e:c * (lk D (ky D a) L-p)=(ky D a-p) * c+c * (lk D (ky D a) L-ky D a):=by
   rw[zAX (ky D a-p) c,<- Int.mul_add]
   congr 1
   lia
  lia
theorem ris_take:∀ {ts:List Int}{p:Int},Ris p ts->∀ j:Nat,Ris p (ts.take j)
 |[],_,_,j=>by rw[List.take_nil];trivial
 | _ :: _,_,_,0=>trivial
 | _ :: _,_,h,j+1=>⟨h.1,ris_take h.2 j⟩
theorem lk_le{D:Int}:∀ {L:List (Int×Int)}{p:Int},p<=D->(∀ th∈L,ky D th<=D)->lk D p L<=D
 |[],_,h,_=>h
 |a :: L,_,_,g=>lk_le (L:=L) (g a (zF ..)) fun th hth=>g th (zD _ hth)
theorem wt_rg{n:Nat}{ties:List Tie}{ps:List Int}{R:Shr.Rows}(W:Wld n ties ps R)(len:ties.length<=120)(c:Cn):0<=wt ties ps R c/\wt ties ps R c<=120 * 1073741824:=by
 unfold wt
 have key:∀ {l:List Tie},(∀ x∈l,TieOk n x)->0<=(l.map (·.2.2)).sum/\(l.map (·.2.2)).sum<=l.length * 1073741824:=by
  intro l
  induction l with
  |nil=>exact fun _=>⟨zBI _,zBI _⟩
  |cons e l ih =>
   intro h
   obtain⟨i1,i2⟩:=ih fun x hx=>h x (zD _ hx)
   obtain⟨_,_,_,e3,e4⟩:=h e (zF ..)
   rw[zN,zAF,zAO]
   lia
 obtain⟨k1,k2⟩:=key (l:=cutL ties ps R c) fun x hx=>W.ok x (zBA.mp hx).1
 have:(cutL ties ps R c).length<=ties.length:=zCA ..
 lia
theorem is_fits{f:Int×Int}{N D:Int}{k:Nat}(D0:0<D)(I:Shr.Is f N D)(fN:fitsB k N)(fD:fitsB k D):fitsB k f.1/\fitsB k f.2:=by
 have le:=I.below D0
 exact⟨fN.le (I.toRel.top D0 le),fD.le (by have:=I.pos;lia)⟩
theorem times_is{f:Int×Int}{N D w:Int}(D0:0<D)(I:Shr.Is f N D):Shr.Is (Shr.nf (f.1 * w) (f.2 * 1)) (N * w) D:=Shr.nf_rel (by have:=I.pos;lia) (by
 have:=I.eq
 rw[Int.mul_one,zCL,this,zCL])
open PySem L2 PyProof.Rows
open Rnd (ltF tkr ThrOf uq uqs Lo ky kx gl sep fs ab gs Ris)
theorem pair_tups{H:Hp}{as:List Addr}{ts:List Tie}(h:PairT H as ts):TupsAt H as (ts.map pairOf):=by
 induction h with
 |nil=>exact .nil
 |cons a _ ih=>exact .cons a ih
theorem fz0:fitsB 1 0:=by show Int.natAbs 0<2 ^ 1;decide
theorem fz1:fitsB 1 1:=by show Int.natAbs 1<2 ^ 1;decide
inductive spMiI(vs:List V)(H:Hp)(Q:VK):Prop where
 |mk (t q o d l:Addr) (n:Nat) (ties:List Tie) (ps:List Int) (R:Shr.Rows) (od:List Int) (L:List (Int×Int)) (h1:vs=[.ref t,.ref q,.ref o,.ref d,.ref l]) (h2:WebAt H t n ties) (h3:ties.Pairwise tieLt) (h4:H q=some (.lst (ps.map V.int))) (h5:RowsAt H false o R) (h6:H d=some (.lst (od.map V.int))) (h7:FrsAt H l L) (h8:Wld n ties ps R) (h9:FrR R) (h10:Ord ps.length od) (h11:ThrOf R.flatten L) (h12:∀ (c:Addr) (f:Int×Int) (H':Hp),H' c=some (frO f)->Shr.Is f (gl (Shr.dn R) (fun th=>wt ties ps R (od,th)) 0 L) (Shr.dn R)->Same H H'->Q (.ref c) H')
noncomputable def spMi:Sp:=fun vs H Q _=>spMiI vs H Q
theorem Ord.ok{m:Nat}{od:List Int}(o:Ord m od)(m0:1<=m)(m6:m<=6):OdOk m od:=by
 have l:od.length=m:=by rw[o.pm.length_eq];unfold upto;rw[zA,zBQ]
 exact⟨by exact zh7 (zAV m0) (Eq.symm l),by exact zh9 (zl1 m6 rfl) l,fun a ha=>o.mem.mp ha⟩
section
variable{P:Program}{w:World}{K:PySem.W.Frag}{mg:Str->Option Value}{base:Heap}
noncomputable abbrev nMi:List Str:=["_law_web_here","_law_posts_here","_law_shares_here","_law_order","_law_some","_law_total","_law_ahead","_law_threshold","_law_cut","_law_long"]
theorem scMi:FnScope nMi ["_law_web_here","_law_posts_here","_law_shares_here","_law_order","_law_some"] (defScope sMiddle):=⟨rfl,rfl,rfl,by decide +kernel,rfl,by decide +kernel,by decide +kernel⟩
theorem ok_mi{f g1 g2 g3 g4 g5 g6:Addr}{fd d1 d2 d3 d4 d5 d6:FuncData}(F:Fun K "_law_middle" "_law_middle" sMiddle f fd)(GC:CalF P w K mg base 1 "cut_by" ["web","owners"] spCb g1 d1)(GB:CalF P w K mg base 3 "owners_by" ["posts","shares","order","threshold"] spObQ g2 d2)(GI:CalF P w K mg base 3 "is_parting" ["web","posts","cut"] (spIP K) g3 d3)(GP:CalF P w K mg base 3 "_law_plus" ["_law_one","_law_other"] spPl g4 d4)(GM:CalF P w K mg base 3 "_law_times" ["_law_one","_law_other"] spTm g5 d5)(GW:CalF P w K mg base 2 "weight_of" ["web","cut"] spWg g6 d6):FnOk P w K mg base CX0 4 f fd ["_law_web_here","_law_posts_here","_law_shares_here","_law_order","_law_some"] spMi:=by
 refine F.ok scMi (fun vs H Q E h=>?_) (fun cdv A outer s H vs Q E hr h=>?_)
 ·obtain⟨t,q,o,d,l,n,ties,ps,R,od,L,rfl,_⟩:=h
  rfl
 ·obtain⟨t,q,o,d,l,n,ties,ps,R,od,L,rfl,W,pw,hq,RA,hd,⟨ts,hl,pts⟩,Wl,fr,oo,tL,fin⟩:=h
  have hr1:Room 1 _:=hr.mono (by decide)
  have hr2:Room 2 _:=hr.mono (by decide)
  have hr3:Room 3 _:=hr
  have ok:=Wl.ok
  have po:=Wl.po
  have sh:=Wl.sh
  have len:ties.length<=120:=W.2
  have D0:=Wl.D0
  have DF:=sh.ok.dnE
  have Rl:=sh.len
  have nb:=sh.nb
  have p1:=po.lo
  have p6:=po.hi
  have odk:=oo.ok p1 p6
  have rwk:∀ row∈R,RwOk ps.length row:=fun row hr=>⟨(Wl.gd row hr).len,fun f hf=>⟨((Wl.gd row hr).ok f hf).2.2,((Wl.gd row hr).ok f hf).2.1⟩⟩
  have tl:=pts.length
  have Lf:∀ f∈L,f∈R.flatten/\0<f.1:=fun f hf=>(tL.mem f).mp hf
  have wr:=wt_rg Wl len
  have ub:=fun j:Nat=>gl_ub (D:=Shr.dn R) (c:=120 * 1073741824) (G:=fun th=>wt ties ps R (od,th)) (by decide) (L:=L.take j) (p:=0) (by
   have r:=Rnd.thr_ris D0 Wl.dv tL
   rw[List.map_take]
   exact ris_take r j) fun th _=>wr (od,th)
  have kle:=fun j:Nat=>lk_le (D:=Shr.dn R) (L:=L.take j) (p:=0) (zBN D0) fun th hth=>ky_le Wl (Lf th (List.mem_of_mem_take hth)).1
  have glf:∀ j,fitsB 3900 (gl (Shr.dn R) (fun th=>wt ties ps R (od,th)) 0 (L.take j)):=fun j=>by
   obtain⟨u0,u1,u2⟩:=ub j
   have u3:=kle j
   generalize gl (Shr.dn R) (fun th=>wt ties ps R (od,th)) 0 (L.take j)=y at u1 u2 ⊢
   have:fitsB 2918 (120 * 1073741824 * Shr.dn R):=(show fitsB 37 (120 * 1073741824) by show Int.natAbs _<2 ^ 37;decide).mul DF
   refine(this.le ?_).mono (by decide)
   have:=zAU (show lk (Shr.dn R) 0 (L.take j)-0<=Shr.dn R by lia) (show(0:Int)<=120 * 1073741824 by decide)
   lia
  refine⟨_,(yad (ps_asg (@pe_tup _ _ _ _ _ (@pa_tup _ _ _ _ _ _ _ (@pe_tup _ _ _ _ _ (@pa_cst _ _ _ _ _ _ _ yae (@pa_cst _ _ _ _ _ _ _ yae yab))) (@pa_tup _ _ _ _ _ _ _ (@pe_tup _ _ _ _ _ (@pa_cst _ _ _ _ _ _ _ yae (@pa_cst _ _ _ _ _ _ _ yae yab))) yab))) (pg_tup (n:=2) rfl (pgs_cons (pg_name (i:=5) scMi.nd rfl (Or.inl rfl)) (pgs_cons (pg_name (i:=6) scMi.nd rfl (Or.inl rfl)) pgs_nil))))
   (yad (ps_for PassesOwn.never rfl (pi_list (pvQ 4)) (pg_name (i:=7) scMi.nd rfl (Or.inl rfl))
   (yad (ps_set (i:=8) scMi.nd rfl (Or.inl rfl) (pe_call GC.ok hr1 rfl GC.mg GC.kp GC.bd .nil pass0 (@yac _ _ _ _ _ _ (pvQ 0) (@pa_call _ _ _ _ _ _ _ _ (pe_call GB.ok hr3 rfl GB.mg GB.kp GB.bd .nil pass0 (@yac _ _ _ _ _ _ (pvQ 1) (@yac _ _ _ _ _ _ (pvQ 2) (@yac _ _ _ _ _ _ (pvQ 3) (@yac _ _ _ _ _ _ (pvQ 7) yab))))) yab))))
   (yad (ps_if (pt_not (pt_val (pe_call GI.ok hr3 rfl GI.mg GI.kp GI.bd .nil pass0 (@yac _ _ _ _ _ _ (pvQ 0) (@yac _ _ _ _ _ _ (pvQ 1) (@yac _ _ _ _ _ _ (pvQ 8) yab)))))) pss_never pss_nil)
   (yad (ps_set (i:=9) scMi.nd rfl (Or.inl rfl) (pe_call GP.ok hr3 rfl GP.mg GP.kp GP.bd .nil pass0 (@yac _ _ _ _ _ _ (pvQ 7) (@pa_tup _ _ _ _ _ _ _ (@pe_tup _ _ _ _ _ (@pa_un _ _ _ _ _ _ _ (pe_un un_neg (@pe_ix _ _ _ _ _ _ _ ix_tupH (pvQ 6) yae (fun _ _=>rfl))) (@pa_sub _ _ _ _ _ _ _ (@pe_ix _ _ _ _ _ _ _ ix_tupH (pvQ 6) yae (fun _ _=>rfl)) yab))) yab))))
   (yad (ps_set (i:=5) scMi.nd rfl (Or.inl rfl) (pe_call GP.ok hr3 rfl GP.mg GP.kp GP.bd .nil pass0 (@yac _ _ _ _ _ _ (pvQ 5) (@pa_call _ _ _ _ _ _ _ _ (pe_call GM.ok hr3 rfl GM.mg GM.kp GM.bd .nil pass0 (@yac _ _ _ _ _ _ (pvQ 9) (@pa_tup _ _ _ _ _ _ _ (@pe_tup _ _ _ _ _ (@pa_call _ _ _ _ _ _ _ _ (pe_call GW.ok hr2 rfl GW.mg GW.kp GW.bd .nil pass0 (@yac _ _ _ _ _ _ (pvQ 0) (@yac _ _ _ _ _ _ (pvQ 8) yab))) (@pa_cst _ _ _ _ _ _ _ yae yab))) yab))) yab))))
   (pss_one (ps_set (i:=6) scMi.nd rfl (Or.inl rfl) (pvQ 7))))))))
   (pss_one (ps_ret (pvQ 5))))),?_⟩
  refine⟨(by show 2<=sizeLine;decide),fun a1 h1=>⟨(by show 2<=sizeLine;decide),fun a2 h2=>⟨(by show 2<=sizeLine;decide),fun a3 h3=>⟨a3,_,rfl,SqT.of yaa,rfl,_,_,rfl,_,_,rfl,rfl,?_⟩⟩⟩⟩
  have sA:=Same.new (o:=.tup [V.int 0,V.int 1]) h1
  have sB:=Same.new (o:=.tup [V.int 0,V.int 1]) h2
  have sC:=Same.new (o:=.tup [V.ref a1,V.ref a2]) h3
  have ga1:(upd (upd (upd H a1 (.tup [V.int 0,V.int 1])) a2 (.tup [V.int 0,V.int 1])) a3 (.tup [V.ref a1,V.ref a2])) a1=some (frO (0,1)):=sC _ _ (sB _ _ yaa)
  have ga2:(upd (upd (upd H a1 (.tup [V.int 0,V.int 1])) a2 (.tup [V.int 0,V.int 1])) a3 (.tup [V.ref a1,V.ref a2])) a2=some (frO (0,1)):=sC _ _ yaa
  have s0:=(sA.trans sB).trans sC
  generalize (upd (upd (upd H a1 (.tup [V.int 0,V.int 1])) a2 (.tup [V.int 0,V.int 1])) a3 (.tup [V.ref a1,V.ref a2]))=H0 at s0 ga1 ga2
  refine⟨l,rfl,⟨_,SqL.of (s0 _ _ hl)⟩,?_⟩
  refine for_list (K:=K) (a:=l) (xs:=ts.map V.ref) (fun j σ G=>Ex7 fun(ta aa:Addr) (f g:Int×Int) (v7 v8 v9:Option V)=>σ=[some (.ref t),some (.ref q),some (.ref o),some (.ref d),some (.ref l),some (.ref ta),some (.ref aa),v7,v8,v9]/\Same H G/\G ta=some (frO f)/\G aa=some (frO g)/\Shr.Is f (gl (Shr.dn R) (fun th=>wt ties ps R (od,th)) 0 (L.take j)) (Shr.dn R)/\Shr.Rel g (lk (Shr.dn R) 0 (L.take j)) (Shr.dn R)/\fitsB 100 g.1/\fitsB 100 g.2) ⟨a1,a2,(0,1),(0,1),_,_,_,rfl,s0,ga1,ga2,⟨⟨by decide,by show 0 * _=0 * 1;lia⟩,by decide⟩,⟨by decide,by show 0 * _=0 * 1;lia⟩,fz0.mono (by decide),fz1.mono (by decide)⟩ (fun j σ G _ z=>by obtain⟨_,_,_,_,_,_,_,_,z,_⟩:=z;exact SqL.of (z _ _ hl)) ?_ ?_
  ·rintro j x σ G hx ⟨ta,aa,f,g,v7,v8,v9,rfl,sG,gta,gaa,If,Rg,fg1,fg2⟩
   obtain⟨jl,e⟩:=zI.mp hx
   rw[zA]at jl
   rw[zU]at e
   subst e
   have jL:j<L.length:=by exact zh7 jl tl
   have gth:=sG _ _ (Paired.at pts j jl jL)
   have mL:=zS jL
   obtain⟨mf,t0⟩:=Lf _ mL
   have t1:=th_one Wl mf
   obtain⟨tp,td⟩:=Wl.dv _ mf
   obtain⟨tf1,tf2⟩:=fr.fit _ mf
   have tk:L.take (j+1)=L.take j++[L[j]]:=zK jL
   have uj:=ub j
   have kj:=kle j
   have gj:=glf j
   have gj1:=glf (j+1)
   have ej:=gl_snoc (Shr.dn R) (fun th=>wt ties ps R (od,th)) L[j] (L.take j) 0
   have ek:=lk_snoc (Shr.dn R) L[j] (L.take j) 0
   rw[tk]at gj1
   rw[ej]at gj1
   have kyl:=ky_le Wl mf
   have kyn:0<=ky (Shr.dn R) L[j]:=Int.mul_nonneg (zBN t0) (Int.ediv_nonneg (zBN D0) (zBN tp))
   rw[tk,ej,ek]
   have wj:=wr (od,L[j])
   have relT:Shr.Rel L[j] (ky (Shr.dn R) L[j]) (Shr.dn R):=⟨tp,by unfold ky;rw[zAD,zCI td]⟩
   refine⟨false,q,o,d,ts[j],ps,R,od,L[j],rfl,sG _ _ hq,RA.same sG,sG _ _ hd,gth,rwk,by exact zh9 nb Rl,odk,tf1.mono (by decide),tf2.mono (by decide),fun u G1 gu su=>?_⟩
   have s1:=sG.trans su
   refine⟨t,u,n,ties,ows ps R (od,L[j]),rfl,W.same s1,ok,gu,by unfold ows;rw[zA];exact Rl,fun l6 as6 G2 hl6 gl6 pt6 s2'=>?_⟩
   have s2:=s1.trans s2'
   have sG2:=su.trans s2'
   have cl:(cutL ties ps R (od,L[j])).length<=120:=zAE (zCA ..) len
   refine⟨t,q,l6,n,ties,false,ps,(cutL ties ps R (od,L[j])).map pairOf,rfl,W.same s2,ok,nb,SqL.of (s2 _ _ hq),po.rg,by exact zl1 p6 rfl,⟨false,as6,SqL.of gl6,pair_tups pt6,by rw[zA];exact zl1 cl rfl⟩,fun hs G3 IH s3'=>⟨_,rfl,?_⟩⟩
   rw[cut_parts Wl oo t0 t1 IH]
   refine iteF ?_
   have s3:=s2.trans s3'
   have sG3:=sG2.trans s3'
   have ga3:=sG3 _ _ gaa
   refine⟨aa,_,_,_,rfl,rfl,ga3,at0,_,rfl,aa,_,_,_,rfl,rfl,ga3,at1,(by show 2<=sizeLine;decide),fun b1 hb1=>?_⟩
   have sb:=Same.new (o:=.tup [V.int (-g.1),V.int g.2]) hb1
   have gb1:(upd G3 b1 (.tup [V.int (-g.1),V.int g.2])) b1=some (frO (-g.1,g.2)):=yaa
   generalize (upd G3 b1 (.tup [V.int (-g.1),V.int g.2]))=G4 at sb gb1
   have sG4:=sG3.trans sb
   have relN:Shr.Rel (-g.1,g.2) (-(lk (Shr.dn R) 0 (L.take j))) (Shr.dn R):=⟨Rg.pos,by have:=Rg.eq;show -g.1 * _ = -_ * g.2;rw[Int.neg_mul,Int.neg_mul,this]⟩
   have Il:=relT.plus relN
   refine⟨ts[j],b1,L[j],(-g.1,g.2),rfl,sG4 _ _ gth,gb1,tp,Rg.pos,tf1.mono (by decide),tf2.mono (by decide),(show fitsB 3900 (-g.1)from(fg1.le (by rw[Int.natAbs_neg];exact zJ _)).mono (by decide)),fg2.mono (by decide),fun c1 hc1=>?_⟩
   have sc:=Same.new (o:=frO (Shr.plus L[j] (-g.1,g.2))) hc1
   have gc1:(upd G4 c1 (frO (Shr.plus L[j] (-g.1,g.2)))) c1=some (frO (Shr.plus L[j] (-g.1,g.2))):=yaa
   generalize (upd G4 c1 (frO (Shr.plus L[j] (-g.1,g.2))))=G5 at sc gc1
   have sG5:=sG4.trans sc
   generalize Shr.plus L[j] (-g.1,g.2)=lg at Il gc1
   have dfits:fitsB 3900 (ky (Shr.dn R) L[j] + -lk (Shr.dn R) 0 (L.take j)):=(DF.le (by lia)).mono (by decide)
   obtain⟨lf1,lf2⟩:=is_fits D0 Il dfits (DF.mono (by decide))
   have s5:=sG.trans sG5
   have g25:=(s3'.trans sb).trans sc
   refine⟨t,l6,n,ties,cutL ties ps R (od,L[j]),as6,rfl,W.same s5,pw,g25 _ _ gl6,Paired.mapP pt6 fun _ _ z=>g25 _ _ z,cl,fun x hx=>(zBA.mp hx).1,fun G6 s6'=>⟨(by show 2<=sizeLine;decide),fun b2 hb2=>?_⟩⟩
   have sb2:=Same.new (o:=.tup [V.int (wt ties ps R (od,L[j])),V.int 1]) hb2
   have gb2:(upd G6 b2 (.tup [V.int (wt ties ps R (od,L[j])),V.int 1])) b2=some (frO (wt ties ps R (od,L[j]),1)):=yaa
   generalize eG7:(upd G6 b2 (.tup [V.int (wt ties ps R (od,L[j])),V.int 1]))=G7 at sb2 gb2
   have eG7':upd G6 b2 (.tup [V.int ((cutL ties ps R (od,L[j])).map (·.2.2)).sum,V.int 1])=G7:=eG7
   rw[eG7']
   have sG7:=sG5.trans (s6'.trans sb2)
   have w39:fitsB 3900 (wt ties ps R (od,L[j])):=(show fitsB 40 _ by show Int.natAbs _<2 ^ 40;lia).mono (by decide)
   refine⟨c1,b2,lg,(wt ties ps R (od,L[j]),1),rfl,(s6'.trans sb2) _ _ gc1,gb2,Il.pos,Int.one_pos,lf1,lf2,w39,fz1.mono (by decide),fun c2 hc2=>?_⟩
   have It:=times_is (w:=wt ties ps R (od,L[j])) D0 Il
   have sc2:=Same.new (o:=frO (Shr.nf (lg.1 * wt ties ps R (od,L[j])) (lg.2 * 1))) hc2
   have gc2:(upd G7 c2 (frO (Shr.nf (lg.1 * wt ties ps R (od,L[j])) (lg.2 * 1)))) c2=some (frO (Shr.nf (lg.1 * wt ties ps R (od,L[j])) (lg.2 * 1))):=yaa
   generalize (upd G7 c2 (frO (Shr.nf (lg.1 * wt ties ps R (od,L[j])) (lg.2 * 1))))=G8 at sc2 gc2
   generalize Shr.nf (lg.1 * wt ties ps R (od,L[j])) (lg.2 * 1)=pr at It gc2
   have sG8:=sG7.trans sc2
   have pfits:fitsB 3900 ((ky (Shr.dn R) L[j] + -lk (Shr.dn R) 0 (L.take j)) * wt ties ps R (od,L[j])):=((DF.le (show Int.natAbs (ky (Shr.dn R) L[j] + -lk (Shr.dn R) 0 (L.take j))<=_ by omega)).mul (show fitsB 40 _ by show Int.natAbs _<2 ^ 40;lia)).mono (by decide)
   obtain⟨pf1,pf2⟩:=is_fits D0 It pfits (DF.mono (by decide))
   obtain⟨ff1,ff2⟩:=is_fits D0 If gj (DF.mono (by decide))
   refine⟨ta,c2,f,pr,rfl,sG8 _ _ gta,gc2,If.pos,It.pos,ff1,ff2,pf1,pf2,fun c3 hc3=>?_⟩
   have nx:=If.toRel.plus It.toRel
   have s8:=sG.trans (sG8.trans (Same.new (o:=frO (Shr.plus f pr)) hc3))
   refine⟨c3,ts[j],_,L[j],_,_,_,rfl,s8,yaa,(sG8.trans (Same.new hc3)) _ _ gth,?_,relT,tf1.mono (by decide),tf2.mono (by decide)⟩
   rw[<- Int.sub_eq_add_neg]at nx
   exact nx
  ·rintro σ G ⟨ta,aa,f,g,v7,v8,v9,rfl,sG,gta,gaa,If,Rg,fg1,fg2⟩
   rw[zA,tl,zAN]at If
   exact fin ta f _ gta If sG
end
open PySem L2 PyProof.Rows
open Rnd (ltF tkr ThrOf uq uqs Lo ky kx gl sep fs ab gs Ris)
theorem cutV_tail1(pre:List Int)(z:Int):cutV ((pre++[z]).map V.int) (some (-1)) none=[V.int z]:=by
 unfold cutV
 have e:HT.sIx ((pre++[z]).map V.int).length 0 (some (-1))=pre.length:=by
  rw[zA,zO]
  unfold HT.sIx
  simp
  lia
 rw[e,zP,List.drop_left' (by rw[zA])]
 have e2:HT.sIx (pre.map V.int++[z].map V.int).length (pre.map V.int++[z].map V.int).length none=pre.length+1:=by
  rw[zO,zA]
  rfl
 rw[e2,show pre.length+1-pre.length=1 by lia]
 rfl
theorem cutV_pre1(pre:List Int)(z:Int):cutV ((pre++[z]).map V.int) none (some (-1))=pre.map V.int:=by
 rw[cutV_last,zA,zO,<- List.map_take]
 show((pre++[z]).take (pre.length+1-1)).map V.int=_
 rw[Nat.add_sub_cancel,List.take_left' rfl]
theorem rel_le{f g:Int×Int}{N M D:Int}(D0:0<D)(a:Shr.Rel f N D)(b:Shr.Rel g M D)(h:M<=N):¬ f.1 * g.2<g.1 * f.2:=fun z=>by
 have z:=zBJ z D0
 have e1:f.1 * g.2 * D=N * (f.2 * g.2):=by rw[zCL,a.eq,zAD]
 have e2:g.1 * f.2 * D=M * (f.2 * g.2):=by rw[zCL,b.eq,zAD,zAX g.2]
 rw[e1,e2]at z
 have:=Int.mul_le_mul_of_nonneg_right h (zBN (Int.mul_pos a.pos b.pos))
 lia
theorem cof_sum{n:Nat}{ties:List Tie}{ps:List Int}{R:Shr.Rows}(W:Wld n ties ps R):(ties.map (cOf (Shr.tops (Shr.dn R) R))).sum=((List.range ps.length).map fun l=>nAt (Shr.tops (Shr.dn R) R) ties l).sum:=by
 have o:Ord ps.length (upto ps.length):=⟨.refl _⟩
 show _=((List.range ps.length).map fun l=>(ties.map (cAt (Shr.tops (Shr.dn R) R) l)).sum).sum
 rw[sum_swap (fun e l=>cAt (Shr.tops (Shr.dn R) R) l e)]
 congr 1
 refine zAP fun e he=>?_
 obtain⟨e0,e1,e2,e3,_⟩:=W.ok e he
 unfold cOf cAt
 rw[far_eq W o (by lia) (by lia),range_sum_mul]
 congr 2
 unfold upto
 rw[zAW]
 refine zAP fun a ha=>?_
 have ha:=zBG.mp ha
 rw[xs_tops W (by lia) ha,xs_tops W (by lia) ha]
 rfl
theorem cof_fits{n:Nat}{ties:List Tie}{ps:List Int}{R:Shr.Rows}(W:Wld n ties ps R)(len:ties.length<=120):fitsB 3200 (ties.map (cOf (Shr.tops (Shr.dn R) R))).sum:=by
 rw[cof_sum W]
 refine(Pul.fits_sum (k:=3180) fun x hx=>?_).mono ?_
 ·obtain⟨l,hl,rfl⟩:=zAH.mp hx
  exact nAt_fits W.sh W.ok len (zBG.mp hl)
 ·rw[zA,zBQ]
  have:=W.po.hi
  lia
inductive spOrI(vs:List V)(H:Hp)(Q:VK):Prop where
 |mk (t q o d l:Addr) (n:Nat) (ties:List Tie) (ps:List Int) (R:Shr.Rows) (od:List Int) (L:List (Int×Int)) (h1:vs=[.ref t,.ref q,.ref o,.ref d,.ref l]) (h2:WebAt H t n ties) (h3:ties.Pairwise tieLt) (h4:H q=some (.lst (ps.map V.int))) (h5:RowsAt H false o R) (h6:H d=some (.lst (od.map V.int))) (h7:FrsAt H l L) (h8:Wld n ties ps R) (h9:FrR R) (h10:Ord ps.length od) (h11:ThrOf R.flatten L) (h12:∀ H',Same H H'->Q (.bl true) H')
noncomputable def spOr:Sp:=fun vs H Q _=>spOrI vs H Q
section
variable{P:Program}{w:World}{K:PySem.W.Frag}{mg:Str->Option Value}{base:Heap}
noncomputable abbrev nOr:List Str:=["_law_web_here","_law_posts_here","_law_shares_here","_law_order","_law_some","_law_cost","_law_last","_law_one","_law_other","_law_both","_law_bound"]
theorem scOr:FnScope nOr ["_law_web_here","_law_posts_here","_law_shares_here","_law_order","_law_some"] (defScope sOrderRight):=⟨rfl,rfl,rfl,by decide +kernel,rfl,by decide +kernel,by decide +kernel⟩
theorem ok_or{f g1 g2 g3 g4 g5:Addr}{fd d1 d2 d3 d4 d5:FuncData}(F:Fun K "_law_order_right" "_law_order_right" sOrderRight f fd)(GO:CalF P w K mg base 3 "cost_of" ["web","shares"] (spCo K) g1 d1)(GA:CalF P w K mg base 3 "cost_at" ["web","shares","l"] (spCa K) g2 d2)(GM:CalF P w K mg base 4 "_law_middle" ["_law_web_here","_law_posts_here","_law_shares_here","_law_order","_law_some"] spMi g3 d3)(GP:CalF P w K mg base 3 "_law_plus" ["_law_one","_law_other"] spPl g4 d4)(GL:CalF P w K mg base 1 "_law_less" ["_law_one","_law_other"] spLs g5 d5):FnOk P w K mg base CX0 5 f fd ["_law_web_here","_law_posts_here","_law_shares_here","_law_order","_law_some"] spOr:=by
 refine F.ok scOr (fun vs H Q E h=>?_) (fun cdv A outer s H vs Q E hr h=>?_)
 ·obtain⟨t,q,o,d,l,n,ties,ps,R,od,L,rfl,_⟩:=h
  rfl
 ·obtain⟨t,q,o,d,l,n,ties,ps,R,od,L,rfl,W,pw,hq,RA,hd,FA,Wl,fr,oo,tL,fin⟩:=h
  have hr1:Room 1 _:=hr.mono (by decide)
  have hr3:Room 3 _:=hr.mono (by decide)
  have hr4:Room 4 _:=hr
  have ok:=Wl.ok
  have sh:=Wl.sh
  have D0:=Wl.D0
  have DF:=sh.ok.dnE
  have len:ties.length<=120:=W.2
  have ol:od.length=ps.length:=by rw[oo.pm.length_eq];unfold upto;rw[zA,zBQ]
  have p1:=Wl.po.lo
  have p6:=Wl.po.hi
  obtain⟨pre,z,rfl⟩:∃ pre z,od=pre++[z]:=⟨od.dropLast,od.getLast (by intro e;rw[e]at ol;simp at ol;lia),(List.dropLast_concat_getLast _).symm⟩
  have zr:=oo.mem.mp (zL pre (zH.mpr rfl))
  obtain⟨zn,rfl⟩:∃ zn:Nat,z=(zn:Int):=⟨z.toNat,by lia⟩
  have or':Ord ps.length (pre.reverse++[(zn:Int)]):=⟨((List.reverse_perm _).append_right _).trans oo.pm⟩
  have mid:=mid_le Wl tL oo
  rw[zAC]at mid
  have atz:atI ((pre++[(zn:Int)]).map V.int) (-1)=some (V.int zn):=by rw[zP];exact atI_last _ (V.int zn)
  refine⟨_,(yad (ps_par (i:=5) (j:=6) rfl scOr.nd rfl rfl (by decide) rfl rfl (@pa_call _ _ _ _ _ _ _ _ (pe_call GO.ok hr3 rfl GO.mg GO.kp GO.bd .nil pass0 (@yac _ _ _ _ _ _ (pvQ 0) (@yac _ _ _ _ _ _ (pvQ 2) yab))) (@pa_call _ _ _ _ _ _ _ _ (pe_call GA.ok hr3 rfl GA.mg GA.kp GA.bd .nil pass0 (@yac _ _ _ _ _ _ (pvQ 0) (@yac _ _ _ _ _ _ (pvQ 2) (@pa_sub _ _ _ _ _ _ _ (@pe_ix _ _ _ _ _ _ _ ix_listH (pvQ 3) (pe_un un_neg yae) (fun _ _=>rfl)) yab)))) yab)) rfl)
   (yad (ps_set (i:=7) scOr.nd rfl (Or.inl rfl) (pe_call GM.ok hr4 rfl GM.mg GM.kp GM.bd .nil pass0 (@yac _ _ _ _ _ _ (pvQ 0) (@yac _ _ _ _ _ _ (pvQ 1) (@yac _ _ _ _ _ _ (pvQ 2) (@yac _ _ _ _ _ _ (pvQ 3) (@yac _ _ _ _ _ _ (pvQ 4) yab)))))))
   (yad (ps_set (i:=8) scOr.nd rfl (Or.inl rfl) (pe_call GM.ok hr4 rfl GM.mg GM.kp GM.bd .nil pass0 (@yac _ _ _ _ _ _ (pvQ 0) (@yac _ _ _ _ _ _ (pvQ 1) (@yac _ _ _ _ _ _ (pvQ 2) (@pa_bin _ _ _ _ _ _ _ _ (pe_op op_cat (pe_rev (pe_slice sl_list (pvQ 3) po_none (po_some (pe_un un_neg yae))) (pe_un un_neg yae)) (pe_slice sl_list (pvQ 3) (po_some (pe_un un_neg yae)) po_none)) (@yac _ _ _ _ _ _ (pvQ 4) yab)))))))
   (yad (ps_if (PW.pt (pw_or (pt_cmp (pc_isN (pvQ 7))) (pw_or1 (pt_cmp (pc_isN (pvQ 8)))))) pss_never pss_nil)
   (yad (ps_set (i:=9) scOr.nd rfl (Or.inl rfl) (pe_call GP.ok hr3 rfl GP.mg GP.kp GP.bd .nil pass0 (@yac _ _ _ _ _ _ (pvQ 7) (@yac _ _ _ _ _ _ (pvQ 8) yab))))
   (yad (ps_set (i:=10) scOr.nd rfl (Or.inl rfl) (pe_call GP.ok hr3 rfl GP.mg GP.kp GP.bd .nil pass0 (@pa_tup _ _ _ _ _ _ _ (@pe_tup _ _ _ _ _ (@pa_bin _ _ _ _ _ _ _ _ (pe_op op_mulB yae (@pe_ix _ _ _ _ _ _ _ ix_tupH (pvQ 5) yae (fun _ _=>rfl))) (@pa_sub _ _ _ _ _ _ _ (@pe_ix _ _ _ _ _ _ _ ix_tupH (pvQ 5) yae (fun _ _=>rfl)) yab))) (@pa_tup _ _ _ _ _ _ _ (@pe_tup _ _ _ _ _ (@pa_un _ _ _ _ _ _ _ (pe_un un_neg (@pe_ix _ _ _ _ _ _ _ ix_tupH (pvQ 6) yae (fun _ _=>rfl))) (@pa_sub _ _ _ _ _ _ _ (@pe_ix _ _ _ _ _ _ _ ix_tupH (pvQ 6) yae (fun _ _=>rfl)) yab))) yab))))
   (pss_one (ps_ret (pe_not (pe_call GL.ok hr1 rfl GL.mg GL.kp GL.bd .nil pass0 (@yac _ _ _ _ _ _ (pvQ 10) (@yac _ _ _ _ _ _ (pvQ 9) yab)))))))))))),?_⟩
  refine⟨t,o,n,ps.length,16,2880,ties,false,R,rfl,W,ok,RA.k,sh,fun c1 H1 gc1 s1=>?_⟩
  refine⟨_,rfl,d,_,_,_,rfl,rfl,s1 _ _ hd,atz,t,o,zn,n,ps.length,16,2880,ties,false,R,rfl,by lia,W.same s1,ok,(RA.same s1).k,sh,fun c2 H2 gc2 s2'=>⟨_,_,rfl,?_⟩⟩
  have s2:=s1.trans s2'
  refine⟨t,q,o,d,l,n,ties,ps,R,_,L,rfl,W.same s2,pw,s2 _ _ hq,RA.same s2,s2 _ _ hd,FA.same s2,Wl,fr,oo,tL,fun c3 f3 H3 gc3 I3 s3'=>?_⟩
  have s3:=s2.trans s3'
  -- the order about
  have pl:pre.length<=1000:=by rw[zO]at ol;lia
  have hd3:=s3 _ _ hd
  refine⟨_,rfl,_,rfl,d,_,rfl,SqL.of hd3,fun e1 he1=>?_⟩
  rw[cutV_pre1]
  have se1:=Same.new (o:=.lst (pre.map V.int)) he1
  refine⟨_,rfl,e1,_,rfl,rfl,SqL.of yaa,fun e2 he2=>?_⟩
  rw[<- List.map_reverse]
  have se2:=Same.new (o:=.lst (pre.reverse.map V.int)) he2
  refine⟨_,rfl,_,rfl,d,_,rfl,SqL.of (se2 _ _ (se1 _ _ hd3)),fun e3 he3=>?_⟩
  rw[cutV_tail1]
  have se3:=Same.new (o:=.lst [V.int (zn:Int)]) he3
  refine⟨e2,e3,_,_,rfl,rfl,se3 _ _ yaa,yaa,by rw[zA,List.length_reverse,sizeLine_eq];show pre.length+1<=_;exact zn5 (zl2 pl rfl),fun e4 he4=>?_⟩
  have ec:pre.reverse.map V.int++[V.int (zn:Int)]=(pre.reverse++[(zn:Int)]).map V.int:=by rw[zP];rfl
  rw[ec]
  have se4:=Same.new (o:=.lst ((pre.reverse++[(zn:Int)]).map V.int)) he4
  have s4':=((se1.trans se2).trans se3).trans se4
  have g4:(upd (upd (upd (upd H3 e1 (.lst (pre.map V.int))) e2 (.lst (pre.reverse.map V.int))) e3 (.lst [V.int (zn:Int)])) e4 (.lst ((pre.reverse++[(zn:Int)]).map V.int))) e4=some (.lst ((pre.reverse++[(zn:Int)]).map V.int)):=yaa
  generalize (upd (upd (upd (upd H3 e1 (.lst (pre.map V.int))) e2 (.lst (pre.reverse.map V.int))) e3 (.lst [V.int (zn:Int)])) e4 (.lst ((pre.reverse++[(zn:Int)]).map V.int)))=H4 at s4' g4
  have s4:=s3.trans s4'
  refine⟨t,q,o,e4,l,n,ties,ps,R,_,L,rfl,W.same s4,pw,s4 _ _ hq,RA.same s4,g4,FA.same s4,Wl,fr,or',tL,fun c5 f5 H5 gc5 I5 s5'=>?_⟩
  have s5:=s4.trans s5'
  have s35:=s4'.trans s5'
  refine⟨_,rfl,iteF ⟨_,rfl,iteF ?_⟩⟩
  have kle:=lk_le (D:=Shr.dn R) (L:=L) (p:=0) (zBN D0) fun th hth=>ky_le Wl ((tL.mem th).mp hth).1
  have glf:∀ od:List Int,fitsB 3800 (gl (Shr.dn R) (fun th=>wt ties ps R (od,th)) 0 L):=fun od=>by
   obtain⟨u0,u1,u2⟩:=gl_ub (D:=Shr.dn R) (c:=120 * 1073741824) (G:=fun th=>wt ties ps R (od,th)) (by decide) (L:=L) (p:=0) (Rnd.thr_ris D0 Wl.dv tL) fun th _=>wt_rg Wl len (od,th)
   generalize gl (Shr.dn R) (fun th=>wt ties ps R (od,th)) 0 L=y at u1 u2 ⊢
   have:fitsB 2918 (120 * 1073741824 * Shr.dn R):=(show fitsB 37 (120 * 1073741824) by show Int.natAbs _<2 ^ 37;decide).mul DF
   refine(this.le ?_).mono (by decide)
   have:=zAU (show lk (Shr.dn R) 0 L-0<=Shr.dn R by lia) (show(0:Int)<=120 * 1073741824 by decide)
   lia
  have gx:=glf (pre++[(zn:Int)])
  have gy:=glf (pre.reverse++[(zn:Int)])
  have Cf:=cof_fits Wl len
  have Af0:=nAt_fits sh ok len (show zn<ps.length by lia)
  have gc15:=(s2'.trans (s3'.trans s35)) _ _ gc1
  have gc25:=(s3'.trans s35) _ _ gc2
  have gc35:=s35 _ _ gc3
  have IC:=Shr.nf_rel (t:=(ties.map (cOf (Shr.tops (Shr.dn R) R))).sum) (b:=2 * Shr.dn R) (N:=(ties.map (cOf (Shr.tops (Shr.dn R) R))).sum) (D:=2 * Shr.dn R) (by exact zn3 D0) rfl
  have IA:=Shr.nf_rel (t:=(ties.map (cAt (Shr.tops (Shr.dn R) R) zn)).sum) (b:=Shr.dn R) (N:=(ties.map (cAt (Shr.tops (Shr.dn R) R) zn)).sum) (D:=Shr.dn R) D0 rfl
  have Af:fitsB 3180 (ties.map (cAt (Shr.tops (Shr.dn R) R) zn)).sum:=Af0
  clear Af0
  generalize Shr.nf (ties.map (cOf (Shr.tops (Shr.dn R) R))).sum (2 * Shr.dn R)=co at gc15 IC
  generalize Shr.nf (ties.map (cAt (Shr.tops (Shr.dn R) R) zn)).sum (Shr.dn R)=la at gc25 IA
  generalize (ties.map (cOf (Shr.tops (Shr.dn R) R))).sum=C at *
  generalize (ties.map (cAt (Shr.tops (Shr.dn R) R) zn)).sum=Az at *
  generalize gl (Shr.dn R) (fun th=>wt ties ps R (pre++[(zn:Int)],th)) 0 L=x at *
  generalize gl (Shr.dn R) (fun th=>wt ties ps R (pre.reverse++[(zn:Int)],th)) 0 L=y at *
  generalize Shr.dn R=D at *
  have DF2:fitsB 3800 (2 * D):=((show fitsB 2 2 by show Int.natAbs 2<2 ^ 2;decide).mul DF).mono (by decide)
  have DF1:fitsB 3800 D:=DF.mono (by decide)
  obtain⟨f31,f32⟩:=is_fits D0 I3 gx DF1
  obtain⟨f51,f52⟩:=is_fits D0 I5 gy DF1
  obtain⟨fc1,fc2⟩:=is_fits (k:=3800) (by exact zn3 D0) IC (Cf.mono (show 3200<=3800 by decide)) DF2
  obtain⟨fa1,fa2⟩:=is_fits (k:=3800) D0 IA (Af.mono (show 3180<=3800 by decide)) DF1
  refine⟨c3,c5,f3,f5,rfl,gc35,gc5,I3.pos,I5.pos,f31.mono (by decide),f32.mono (by decide),f51.mono (by decide),f52.mono (by decide),fun c6 hc6=>?_⟩
  have Ib:=I3.toRel.plus I5.toRel
  have s6:=Same.new (o:=frO (Shr.plus f3 f5)) hc6
  have g6:(upd H5 c6 (frO (Shr.plus f3 f5))) c6=some (frO (Shr.plus f3 f5)):=yaa
  generalize (upd H5 c6 (frO (Shr.plus f3 f5)))=H6 at s6 g6
  generalize Shr.plus f3 f5=bo at g6 Ib
  refine⟨c1,_,_,_,rfl,rfl,s6 _ _ gc15,at0,_,_,rfl,rfl,⟨(show fitsB 2 3 by show Int.natAbs 3<2 ^ 2;decide).mono (by decide),fc1.mono (by decide)⟩,c1,_,_,_,rfl,rfl,s6 _ _ gc15,at1,(by show 2<=sizeLine;decide),fun b1 hb1=>?_⟩
  have sb1:=Same.new (o:=.tup [V.int (3 * co.1),V.int co.2]) hb1
  have gb1:(upd H6 b1 (.tup [V.int (3 * co.1),V.int co.2])) b1=some (frO (3 * co.1,co.2)):=yaa
  generalize (upd H6 b1 (.tup [V.int (3 * co.1),V.int co.2]))=H7 at sb1 gb1
  have ga7:=sb1 _ _ (s6 _ _ gc25)
  refine⟨c2,_,_,_,rfl,rfl,ga7,at0,_,rfl,c2,_,_,_,rfl,rfl,ga7,at1,(by show 2<=sizeLine;decide),fun b2 hb2=>?_⟩
  have sb2:=Same.new (o:=.tup [V.int (-la.1),V.int la.2]) hb2
  have gb2:(upd H7 b2 (.tup [V.int (-la.1),V.int la.2])) b2=some (frO (-la.1,la.2)):=yaa
  generalize (upd H7 b2 (.tup [V.int (-la.1),V.int la.2]))=H8 at sb2 gb2
  have f3c:fitsB 3900 (3 * co.1):=((show fitsB 2 3 by show Int.natAbs 3<2 ^ 2;decide).mul fc1).mono (by decide)
  have fna:fitsB 3900 (-la.1):=(fa1.le (by rw[Int.natAbs_neg];exact zJ _)).mono (by decide)
  refine⟨b1,b2,(3 * co.1,co.2),(-la.1,la.2),rfl,sb2 _ _ gb1,gb2,IC.pos,IA.pos,f3c,fc2.mono (by decide),fna,fa2.mono (by decide),fun c7 hc7=>?_⟩
  have r1:Shr.Rel (3 * co.1,co.2) (3 * C) (2 * D):=⟨IC.pos,by have:=IC.eq;show 3 * co.1 * (2 * D)=3 * C * co.2;rw[zAD,this,zAD]⟩
  have r2:Shr.Rel (-la.1,la.2) (-(2 * Az)) (2 * D):=⟨IA.pos,by have:=IA.eq;show -la.1 * (2 * D) = -(2 * Az) * la.2;rw[Int.mul_left_comm,Int.neg_mul,this,Int.neg_mul,zAD,Int.mul_neg]⟩
  have Ibd:=r1.plus r2
  have r3:Shr.Rel bo (2 * (x+y)) (2 * D):=⟨Ib.pos,by have:=Ib.eq;rw[Int.mul_left_comm,this,zAD]⟩
  have s7:=Same.new (o:=frO (Shr.plus (3 * co.1,co.2) (-la.1,la.2))) hc7
  have fbo:=is_fits D0 Ib ((gx.add gy).mono (show 3801<=7000 by decide)) (DF.mono (by decide))
  have fbd:=is_fits (k:=7000) (by exact zn3 D0) Ibd (((show fitsB 2 3 by show Int.natAbs 3<2 ^ 2;decide).mul Cf |>.mono (show 3202<=3300 by decide)).add (k:=3300) (show fitsB 3300 (-(2 * Az))from((((show fitsB 2 2 by show Int.natAbs 2<2 ^ 2;decide).mul Af).le (by rw[Int.natAbs_neg];exact zJ _)).mono (by decide))) |>.mono (by decide)) (DF2.mono (by decide))
  refine⟨c7,c6,_,bo,rfl,yaa,s7 _ _ (sb2 _ _ (sb1 _ _ g6)),fbd.1.mono (by decide),fbd.2.mono (by decide),fbo.1.mono (by decide),fbo.2.mono (by decide),_,rfl,?_⟩
  rw[decide_eq_false (rel_le (by exact zn3 D0) Ibd.toRel r3 (by lia))]
  exact fin _ (s5.trans (s6.trans (sb1.trans (sb2.trans s7))))
end
open PySem L2 PyProof.Rows
open Rnd (ltF tkr ThrOf uq uqs Lo ky kx gl sep fs ab gs Ris)
theorem FrsAt.kept{H H':Hp}{p l:Addr}{N:Nat}{L:List (Int×Int)}(h:FrsAt H l L)(B:BoxAt H p N)(k:Kept p H H')(lp:l≠p):FrsAt H' l L:=by
 obtain⟨a,b,c,e,_⟩:=B
 obtain⟨ts,h1,h2⟩:=h
 exact⟨ts,k _ _ lp h1,Paired.mapP h2 fun x f y=>k _ _ (ne_of y e (by intro z;cases z)) y⟩
theorem good_fr{n m:Nat}{R:Shr.Rows}(sh:ShOk 16 2880 n m R)(gd:∀ row∈R,GoodRow m row)(n0:0<n):FrR R:=by
 have fl:∀ f∈R.flatten,∃ row∈R,f∈row:=fun f hf=>zCD.mp hf
 refine⟨fun f hf=>?_,fun f hf=>?_,?_,?_,by rw[sh.len];exact sh.nb,fun r hr=>by rw[sh.row r hr];exact sh.mb⟩
 ·obtain⟨row,hr,h⟩:=fl f hf
  exact⟨((gd row hr).ok f h).1,(gd row hr).cop f h⟩
 ·obtain⟨row,hr,h⟩:=fl f hf
  exact⟨((gd row hr).ok f h).2.2,((gd row hr).ok f h).2.1⟩
 ·have:=sh.ok.few
  lia
 ·have hl:0<R.length:=by rw[sh.len];exact n0
  obtain⟨f,hf,f0⟩:=(gd _ (zS hl)).pos
  exact⟨f,zCD.mpr ⟨_,zS hl,hf⟩,f0⟩
theorem good_rw{m:Nat}{R:Shr.Rows}(gd:∀ row∈R,GoodRow m row):∀ row∈R,RwOk m row:=fun row hr=>⟨(gd row hr).len,fun f hf=>⟨((gd row hr).ok f hf).2.2,((gd row hr).ok f hf).2.1⟩⟩
structure Stay(H:Hp)(p t l o l6:Addr)(n:Nat)(ties:List Tie)(ps:List Int)(R:Shr.Rows)(L:List (Int×Int))(M:Nat)(G:Hp):Prop where
 web:WebAt G t n ties
 gl:G l=some (.lst (ps.map V.int))
 rows:RowsAt G false o R
 some_:FrsAt G l6 L
 box:BoxAt G p M
 sm:Same H G
structure Fx(H:Hp)(p l o l6:Addr)(n:Nat)(ps:List Int)(R:Shr.Rows):Prop where
 lp:l≠p
 op:o≠p
 lp6:l6≠p
 hp:H p=none
 m1:1<=ps.length
 sh:ShOk 16 2880 n ps.length R
section
variable{H:Hp}{p t l o l6:Addr}{n:Nat}{ties:List Tie}{ps:List Int}{R:Shr.Rows}{L:List (Int×Int)}{M M':Nat}{G G':Hp}
theorem Stay.same(Y:Stay H p t l o l6 n ties ps R L M G)(s:Same G G'):Stay H p t l o l6 n ties ps R L M G':=⟨Y.web.same s,s _ _ Y.gl,Y.rows.same s,Y.some_.same s,Y.box.same s,Y.sm.trans s⟩
theorem Stay.kept(Y:Stay H p t l o l6 n ties ps R L M G)(X:Fx H p l o l6 n ps R)(k:Kept p G G')(Bx:BoxAt G' p M'):Stay H p t l o l6 n ties ps R L M' G':=⟨Y.web.keptB Y.box k,k _ _ X.lp Y.gl,Y.rows.kept Y.box k X.op X.sh X.m1,Y.some_.kept Y.box k X.lp6,Bx,fun b ob hb=>k _ _ (ne_of_none hb X.hp) (Y.sm _ _ hb)⟩
end
theorem fac_le{p w D C:Int}{c:Int×Int}(D0:0<D)(I:Shr.Is c C (2 * D))(h:2 * p * w * (2 * D)<=(3 * p-2) * C):¬(3 * p-2) * c.1<2 * p * w * c.2:=fun z=>by
 have z:=zBJ z (show 0<2 * D by exact zn3 D0)
 have e1:(3 * p-2) * c.1 * (2 * D)=(3 * p-2) * C * c.2:=by rw[zAD,I.eq,zAD]
 have e2:2 * p * w * c.2 * (2 * D)=2 * p * w * (2 * D) * c.2:=zCL ..
 rw[e1,e2]at z
 have:=Int.mul_le_mul_of_nonneg_right h (zBN I.pos)
 omega
inductive spLawI(K:PySem.W.Frag)(vs:List V)(H:Hp)(Q:VK):Prop where
 |mk (a:Addr) (ns:List Int) (h1:vs=[.ref a]) (h2:SqL K H a (ns.map V.int)) (h3:ns.length<=63) (h4:∀ H',Q (.bl true) H')
noncomputable def spLaw(K:PySem.W.Frag):Sp:=fun vs H Q _=>spLawI K vs H Q
section
variable{P:Program}{w:World}{K:PySem.W.Frag}{mg:Str->Option Value}{base:Heap}
structure Fs(P:Program)(w:World)(K:PySem.W.Frag)(mg:Str->Option Value)(base:Heap)(g1 g2 g3 g4 g5 g6 g7 g8 g9 g10 g11:Addr)(d1 d2 d3 d4 d5 d6 d7 d8 d9 d10 d11:FuncData):Prop where
 box:CalF P w K mg base 2 "_law_box" ["_law_script","_law_k"] (spBox K) g1 d1
 take:TakeF P w K mg base g2 d2
 world:CalF P w K mg base 5 "_law_world" ["_law_box_here"] spWo g3 d3
 th:CalF P w K mg base 3 "thresholds" ["shares"] spThQ g4 d4
 orr:CalF P w K mg base 5 "_law_order_right" ["_law_web_here","_law_posts_here","_law_shares_here","_law_order","_law_some"] spOr g5 d5
 rd:CalF P w K mg base 5 "rounded" ["web","posts","shares"] spRd g6 d6
 co:CalF P w K mg base 3 "cost_of" ["web","shares"] (spCo K) g7 d7
 ip:CalF P w K mg base 3 "is_parting" ["web","posts","cut"] (spIP K) g8 d8
 wg:CalF P w K mg base 2 "weight_of" ["web","cut"] spWg g9 d9
 cb:CalF P w K mg base 1 "cut_by" ["web","owners"] spCb g10 d10
 ob:CalF P w K mg base 3 "owners_by" ["posts","shares","order","threshold"] spObQ g11 d11
noncomputable abbrev nLaw:List Str:=["_law_script","_law_k","_law_box_here","_law_web_here","_law_posts_here","_law_shares_here","_law_some","_law_turn","_law_left","_law_order","_law_weight_here","_law_cut","_law_threshold","_law_cost","_law_one"]
theorem scLaw:FnScope nLaw ["_law_script"] (defScope sLaw):=⟨rfl,rfl,rfl,by decide +kernel,rfl,by decide +kernel,by decide +kernel⟩
theorem csLaw1:CompScope ["_law_one","_law_left","_law_box_here"] [none,some 8,some 2] nLaw (defScope sLaw) (scO [(".0",.local),("_law_one",.local),("_law_take",.globalImplicit),("len",.globalImplicit),("_law_box_here",.free),("_law_left",.free)]):=⟨rfl,by decide +kernel,by decide +kernel,by decide +kernel,rfl,capB_ok (by decide +kernel)⟩
theorem ndLaw1:(["_law_one","_law_left","_law_box_here"]:List Str).Nodup:=by decide +kernel
theorem ok_law{f g1 g2 g3 g4 g5 g6 g7 g8 g9 g10 g11:Addr}{fd d1 d2 d3 d4 d5 d6 d7 d8 d9 d10 d11:FuncData}(F:Fun K "law" "law" sLaw f fd)(T:Txt mg)(S:Fs P w K mg base g1 g2 g3 g4 g5 g6 g7 g8 g9 g10 g11 d1 d2 d3 d4 d5 d6 d7 d8 d9 d10 d11):FnOk P w K mg base CX0 6 f fd ["_law_script"] (spLaw K):=by
 refine F.ok scLaw (fun vs H Q E h=>?_) (fun cdv A outer s H vs Q E hr h=>?_)
 ·obtain⟨a,ns,rfl,_⟩:=h
  rfl
 ·obtain⟨a,ns,rfl,hS,hlen,q⟩:=h
  have hr1:Room 1 _:=hr.mono (by decide)
  have hr2:Room 2 _:=hr.mono (by decide)
  have hr3:Room 3 _:=hr.mono (by decide)
  have hr5:Room 5 _:=hr
  refine⟨_,(yad (ps_for PassesOwn.never rfl (pi_range1 rfl T.range (@pa_bin _ _ _ _ _ _ _ _ (pe_op op_add yae (pe_callB (call_min2 rfl) (by rfl) T.min boot_min (@pa_cst _ _ _ _ _ _ _ yae (@pa_call _ _ _ _ _ _ _ _ (pe_callB call_len_seq (by rfl) T.len PySem.boot_len (@yac _ _ _ _ _ _ (pvQ 0) yab)) yab)))) yab)) (pg_name (i:=1) scLaw.nd rfl (Or.inl rfl))
   (yad (ps_set (i:=2) scLaw.nd rfl (Or.inr rfl) (pe_call S.box.ok hr2 rfl S.box.mg S.box.kp S.box.bd .nil pass0 (@yac _ _ _ _ _ _ (pvQ 0) (@yac _ _ _ _ _ _ (pvQ 1) yab))))
   (yad (ps_asg (pe_call S.world.ok hr5 rfl S.world.mg S.world.kp S.world.bd .nil pass0 (@yac _ _ _ _ _ _ (pvQ 2) yab)) (pg_tup (n:=3) rfl (pgs_cons (pg_name (i:=3) scLaw.nd rfl (Or.inl rfl)) (pgs_cons (pg_name (i:=4) scLaw.nd rfl (Or.inl rfl)) (pgs_cons (pg_name (i:=5) scLaw.nd rfl (Or.inl rfl)) pgs_nil)))))
   (yad (ps_set (i:=6) scLaw.nd rfl (Or.inl rfl) (pe_call S.th.ok hr3 rfl S.th.mg S.th.kp S.th.bd .nil pass0 (@yac _ _ _ _ _ _ (pvQ 5) yab)))
   (yad (ps_for PassesOwn.never rfl (pi_range1 rfl T.range (@pa_cst _ _ _ _ _ _ _ yae yab)) (pg_name (i:=7) scLaw.nd rfl (Or.inl rfl))
   (yad (ps_set (i:=8) scLaw.nd rfl (Or.inr rfl) (pe_callTy (call_list_rng rfl) (by rfl) T.list boot_list (@pa_call _ _ _ _ _ _ _ _ (pe_callTy (call_range _) (by rfl) T.range boot_range (@pa_call _ _ _ _ _ _ _ _ (pe_callB call_lenH (by rfl) T.len PySem.boot_len (@yac _ _ _ _ _ _ (pvQ 4) yab)) yab)) yab)))
   (yad (ps_comp (i:=9) scLaw.nd rfl (Or.inl rfl) rfl csLaw1 (pi_list (pvQ 4)) (fun C s H fp=>(pg_name (i:=0) ndLaw1 rfl (Or.inl rfl))) (fun C s H fp=>pf_nil) (fun C s H fp=>(pe_bmH PySem.F.slot_list_pop PySem.F.type_list_pop mt_popAt (pvQ 1) (@pa_call _ _ _ _ _ _ _ _ (pe_call S.take.ok hr1 rfl S.take.mg S.take.kp S.take.bd .nil pass0 (@yac _ _ _ _ _ _ (pvQ 2) (@pa_call _ _ _ _ _ _ _ _ (pe_callB call_lenH (by rfl) T.len PySem.boot_len (@yac _ _ _ _ _ _ (pvQ 1) yab)) yab))) yab))))
   (pss_one (ps_if (pt_not (pt_val (pe_call S.orr.ok hr5 rfl S.orr.mg S.orr.kp S.orr.bd .nil pass0 (@yac _ _ _ _ _ _ (pvQ 3) (@yac _ _ _ _ _ _ (pvQ 4) (@yac _ _ _ _ _ _ (pvQ 5) (@yac _ _ _ _ _ _ (pvQ 9) (@yac _ _ _ _ _ _ (pvQ 6) yab)))))))) pss_never pss_nil)))))
   (yad (ps_asg (pe_call S.rd.ok hr5 rfl S.rd.mg S.rd.kp S.rd.bd .nil pass0 (@yac _ _ _ _ _ _ (pvQ 3) (@yac _ _ _ _ _ _ (pvQ 4) (@yac _ _ _ _ _ _ (pvQ 5) yab)))) (pg_tup (n:=4) rfl (pgs_cons (pg_name (i:=10) scLaw.nd rfl (Or.inl rfl)) (pgs_cons (pg_name (i:=11) scLaw.nd rfl (Or.inl rfl)) (pgs_cons (pg_name (i:=9) scLaw.nd rfl (Or.inl rfl)) (pgs_cons (pg_name (i:=12) scLaw.nd rfl (Or.inl rfl)) pgs_nil))))))
   (yad (ps_set (i:=13) scLaw.nd rfl (Or.inl rfl) (pe_call S.co.ok hr3 rfl S.co.mg S.co.kp S.co.bd .nil pass0 (@yac _ _ _ _ _ _ (pvQ 3) (@yac _ _ _ _ _ _ (pvQ 5) yab))))
   (yad (ps_if (PW.pt (pw_or (pt_not (pt_val (pe_call S.ip.ok hr3 rfl S.ip.mg S.ip.kp S.ip.bd .nil pass0 (@yac _ _ _ _ _ _ (pvQ 3) (@yac _ _ _ _ _ _ (pvQ 4) (@yac _ _ _ _ _ _ (pvQ 11) yab)))))) (pw_or1 (pt_cmpR op_ne (pvQ 10) (pe_call S.wg.ok hr2 rfl S.wg.mg S.wg.kp S.wg.bd .nil pass0 (@yac _ _ _ _ _ _ (pvQ 3) (@yac _ _ _ _ _ _ (pvQ 11) yab))) (nomark _))))) pss_never pss_nil)
   (yad (ps_if (pt_cmpR op_gt (pe_op op_mulB (pe_op op_mulB (pe_op op_mulB yae (pe_callB call_lenH (by rfl) T.len PySem.boot_len (@yac _ _ _ _ _ _ (pvQ 4) yab))) (pvQ 10)) (@pe_ix _ _ _ _ _ _ _ ix_tupH (pvQ 13) yae (fun _ _=>rfl))) (pe_op op_mulB (pe_op op_sub (pe_op op_mulB yae (pe_callB call_lenH (by rfl) T.len PySem.boot_len (@yac _ _ _ _ _ _ (pvQ 4) yab))) yae) (@pe_ix _ _ _ _ _ _ _ ix_tupH (pvQ 13) yae (fun _ _=>rfl))) (nomark _)) pss_never pss_nil)
   (pss_one (ps_for PassesOwn.never rfl (pi_list (pvQ 6)) (pg_name (i:=12) scLaw.nd rfl (Or.inl rfl))
   (pss_one (ps_for PassesOwn.never rfl (pi_tup (@pe_tup _ _ _ _ _ (@yac _ _ _ _ _ _ (pvQ 9) (@pa_bin _ _ _ _ _ _ _ _ (pe_op op_cat (pe_rev (pe_slice sl_list (pvQ 9) po_none (po_some (pe_un un_neg yae))) (pe_un un_neg yae)) (pe_slice sl_list (pvQ 9) (po_some (pe_un un_neg yae)) po_none)) yab)))) (pg_name (i:=14) scLaw.nd rfl (Or.inl rfl))
   (pss_one (ps_if (pt_cmpR op_lt (pe_call S.wg.ok hr2 rfl S.wg.mg S.wg.kp S.wg.bd .nil pass0 (@yac _ _ _ _ _ _ (pvQ 3) (@pa_call _ _ _ _ _ _ _ _ (pe_call S.cb.ok hr1 rfl S.cb.mg S.cb.kp S.cb.bd .nil pass0 (@yac _ _ _ _ _ _ (pvQ 3) (@pa_call _ _ _ _ _ _ _ _ (pe_call S.ob.ok hr3 rfl S.ob.mg S.ob.kp S.ob.bd .nil pass0 (@yac _ _ _ _ _ _ (pvQ 4) (@yac _ _ _ _ _ _ (pvQ 5) (@yac _ _ _ _ _ _ (pvQ 14) (@yac _ _ _ _ _ _ (pvQ 12) yab))))) yab))) yab))) (pvQ 10) (nomark _)) pss_never pss_nil)))))))))))))))
   (pss_one (ps_ret pe_bl))),?_⟩
  refine⟨a,_,rfl,.inl hS,_,_,rfl,_,_,rfl,rfl,_,rfl,?_,?_,?_⟩
  ·split <;> lia
  ·split <;> lia
  generalize ((1:Int)+(if((ns.map V.int).length:Int)<2 then((ns.map V.int).length:Int)else 2)).toNat=turns
  refine for_range (lo:=0) (n:=turns) (fun i σ H'=>Ex14 fun(v1 v2 v3 v4 v5 v6 v7 v8 v9 v10 v11 v12 v13 v14:Option V)=>σ=[some (.ref a),v1,v2,v3,v4,v5,v6,v7,v8,v9,v10,v11,v12,v13,v14]/\Same H H') ⟨_,_,_,_,_,_,_,_,_,_,_,_,_,_,rfl,Same.refl _⟩ ?_ ?_
  ·rintro i σ H0 hi ⟨v1,v2,v3,v4,v5,v6,v7,v8,v9,v10,v11,v12,v13,v14,rfl,s0⟩
   refine⟨a,ns,0+i,by rw[Int.zero_add,Nat.zero_add];rfl,s0.seq hS,fun p H1 hp B1 k1=>?_⟩
   have hpH:H p=none:=s0.free hp
   refine⟨p,0,rfl,B1,by decide,fun r t l o n ties ps R H2 gr W2 ok pw n30 gl lp po RA2 op sh gd un B2 k2=>?_⟩
   have p1:=po.lo
   have p6:=po.hi
   have n0:0<n:=by
    have:=po.rg _ (zS (show 0<ps.length by exact zAV p1))
    lia
   have fr:=good_fr sh gd n0
   have rwk:=good_rw gd
   have Wl:Wld n ties ps R:=⟨ok,po,sh,gd,un⟩
   refine⟨r,_,rfl,SqT.of gr,rfl,_,_,rfl,_,_,rfl,_,_,rfl,rfl,?_⟩
   have k02:Same H H2:=fun b ob hb=>by
    have nb:b≠p:=ne_of_none hb hpH
    exact k2 _ _ nb (k1 _ _ nb (s0 _ _ hb))
   have Rl:=sh.len
   have nb:=sh.nb
   have len:ties.length<=120:=W2.2
   have D0:=Wl.D0
   have DF:=sh.ok.dnE
   refine⟨false,o,R,rfl,RA2,fr,fun l6 L H3 hl6 fL tL s3=>?_⟩
   have l6p:l6≠p:=B2.ne hl6
   have L0:0<L.length:=List.length_pos_of_mem (one_mem Wl tL)
   have X:Fx H p l o l6 n ps R:=⟨lp,op,l6p,hpH,p1,sh⟩
   have Y3:Stay H p t l o l6 n ties ps R L (2000+10 * 0) H3:=⟨W2.same s3,s3 _ _ gl,RA2.same s3,fL,(B2.same s3).mono (by exact zAA (0+2000) (10 * 0)),k02.trans s3⟩
   refine⟨_,rfl,by decide,by decide,?_⟩
   refine for_range (lo:=0) (n:=2) (fun j σ G=>Ex8 fun(v7 v8 v9 v10 v11 v12 v13 v14:Option V)=>σ=[some (.ref a),some (.int (0+(i:Int))),some (.ref p),some (.ref t),some (.ref l),some (.ref o),some (.ref l6),v7,v8,v9,v10,v11,v12,v13,v14]/\Stay H p t l o l6 n ties ps R L (2000+10 * j) G) ⟨_,_,_,_,_,_,_,_,rfl,Y3⟩ ?_ ?_
   ·rintro j σ G hj ⟨v7,v8,v9,v10,v11,v12,v13,v14,rfl,Y⟩
    refine⟨l,_,rfl,Y.gl,?_⟩
    rw[zA]
    refine⟨_,rfl,fun r1 hr1=>⟨r1,_,rfl,yaa,by exact zh1,by exact zm3 p6 rfl,fun so hso=>?_⟩⟩
    have so0:=(Same.new (o:=.rng 0 (ps.length:Int)) hr1).free hso
    have sop:so≠p:=Y.box.ne so0
    have s1:=(Same.new (o:=.rng 0 (ps.length:Int)) hr1).trans (Same.new (o:=.lst ((upto ps.length).map V.int)) hso)
    have gs:(upd (upd G r1 (.rng 0 (ps.length:Int))) so (.lst ((upto ps.length).map V.int))) so=some (.lst ((upto ps.length).map V.int)):=yaa
    rw[show((ps.length:Int)).toNat=ps.length by exact zAC ps.length]
    generalize (upd (upd G r1 (.rng 0 (ps.length:Int))) so (.lst ((upto ps.length).map V.int)))=G1 at s1 gs
    have Y1:=Y.same s1
    have k1:Kept p G G1:=fun b o _ e=>s1 b o e
    refine⟨l,rfl,⟨_,SqL.of Y1.gl⟩,?_⟩
    refine comp_list (K:=K) (a:=l) (xs:=ps.map V.int) (fun c ys G2=>BoxAt G2 p (2000+10 * j+c)/\Kept p G G2/\∃ (rs qs:List Int),G2 so=some (.lst (rs.map V.int))/\ys=qs.map V.int/\(qs++rs).Perm (upto ps.length)/\qs.length=c) (by rw[zA,sizeLine_eq];exact zl1 p6 rfl)
     ⟨Y1.box,k1,upto ps.length,[],gs,rfl,.refl _,rfl⟩ (fun c ys G2 _ z=>SqL.of (z.2.1 _ _ X.lp Y.gl)) ?_ ?_
    ·rintro c x ys G2 hx ⟨B3,k3,rs,qs,gs3,rfl,pm,ql⟩
     obtain⟨cl,_⟩:=zI.mp hx
     rw[zA]at cl
     have rl:qs.length+rs.length=ps.length:=by
      have:=pm.length_eq
      rw[zO]at this
      unfold upto at this
      rw[zA,zBQ]at this
      exact this
     refine⟨⟨rfl,rfl,trivial⟩,tTru_if ⟨⟨so,_,rfl,gs3⟩,so,_,rfl,gs3,p,_,_,rfl,B3,by lia,by rw[zA];lia,by rw[zA];lia,fun y G3 y0 y1 B4 k4=>?_⟩⟩
     rw[zA]at y1
     obtain⟨k,rfl⟩:∃ k:Nat,y=(k:Int):=⟨y.toNat,by exact zh3 y0⟩
     have kl:k<rs.length:=by exact zi3 y1
     have gs4:=k4 _ _ sop gs3
     refine⟨so,rs.map V.int,(k:Int),k,V.int rs[k],rfl,rfl,gs4,by exact zh2,by lia,?_,by rw[zAB,zE kl];rfl,?_⟩
     ·unfold seqIndex?
      rw[zA]
      simp
      exact zi1 y1
     rw[map_eraseI]
     refine⟨(B4.put sop).mono (by exact zn4),(k3.trans k4).put so0,rs.eraseIdx k,qs++[rs[k]],yaa,by rw[zP];rfl,?_,by rw[zO,ql];rfl⟩
     rw[zAI]
     exact(List.Perm.append_left _ (SetA.cut_perm k rs kl)).trans pm
    ·rintro ys G2 yl ⟨B3,k3,rs,qs,gs3,rfl,pm,ql⟩ D hD
     rw[zA]at ql B3
     have sD:=Same.new (o:=.lst (qs.map V.int)) hD
     have Y3:Stay H p t l o l6 n ties ps R L (2000+10 * (j+1)) (upd G2 D (.lst (qs.map V.int))):=(Y.kept X k3 (B3.mono (by lia))).same sD
     have gD:(upd G2 D (.lst (qs.map V.int))) D=some (.lst (qs.map V.int)):=yaa
     generalize (upd G2 D (.lst (qs.map V.int)))=G3 at *
     have od:Ord ps.length qs:=by
      have e:rs=[]:=by
       have:=pm.length_eq
       rw[zO]at this
       unfold upto at this
       rw[zA,zBQ]at this
       exact List.eq_nil_of_length_eq_zero (by lia)
      rw[e,zBP]at pm
      exact⟨pm⟩
     refine⟨t,l,o,D,l6,n,ties,ps,R,qs,L,rfl,Y3.web,pw,Y3.gl,Y3.rows,gD,Y3.some_,Wl,fr,od,tL,fun G4 s4=>⟨_,rfl,iteF ?_⟩⟩
     exact⟨_,_,_,_,_,_,_,_,rfl,Y3.same s4⟩
   ·rintro σ G ⟨v7,v8,v9,v10,v11,v12,v13,v14,rfl,Y⟩
    refine⟨false,t,l,o,n,ties,ps,R,rfl,Y.web,ok,pw,Y.gl,Y.rows,sh,fr,rwk,p1,p6,fun v k L' G1 dr tL' bst s1=>?_⟩
    have eL:L'=L:=tL'.one fr.lo tL
    subst eL
    have km:k<ps.length:=by have:=dr.lt;rw[csts_len]at this;exact this
    obtain⟨c,hc⟩:=best_two (wt ties ps R) (od1 ps.length k) (od2 ps.length k) L0
    rw[hc]at bst
    obtain⟨b1,b2,b3,b4⟩:=best_le hc
    have fac:=factor Wl tL dr hc
    obtain⟨rr,cu,od,ta,as,rfl,h1,h2,h3,h4,h5,h6,h7,h8⟩:=bst
    have Y1:=Y.same s1
    have mc:=(tL.mem _).mp b4
    have oc:Ord ps.length c.1:=by
     rcases b3 with e | e
     ·rw[e];exact od1_ord km
     ·rw[e];exact od2_ord km
    refine⟨rr,_,rfl,SqT.of h1,rfl,_,_,rfl,_,_,rfl,_,_,rfl,_,_,rfl,rfl,?_⟩
    refine⟨t,o,n,ps.length,16,2880,ties,false,R,rfl,Y1.web,ok,Y1.rows.k,sh,fun c1 G2 gc1 s2=>?_⟩
    have Y2:=Y1.same s2
    have cl:(cutL ties ps R c).length<=120:=zAE (zCA ..) len
    have pt2:=Paired.mapP h3 fun _ _ z=>s2 _ _ z
    refine⟨t,l,cu,n,ties,false,ps,(cutL ties ps R c).map pairOf,rfl,Y2.web,ok,nb,SqL.of Y2.gl,po.rg,by exact zl1 p6 rfl,⟨false,as,SqL.of (s2 _ _ h2),pair_tups pt2,by rw[zA];exact zl1 cl rfl⟩,fun hs G3 IH s3'=>⟨_,rfl,?_⟩⟩
    rw[cut_parts (od:=c.1) (th:=c.2) Wl oc mc.2 (th_one Wl mc.1) IH]
    refine iteF ?_
    have Y3':=Y2.same s3'
    have s23:=s2.trans s3'
    refine⟨t,cu,n,ties,cutL ties ps R c,as,rfl,Y3'.web,pw,s23 _ _ h2,Paired.mapP h3 fun _ _ z=>s23 _ _ z,cl,fun x hx=>(zBA.mp hx).1,fun G4 s4=>⟨rfl,_,rfl,?_⟩⟩
    have ew:decide (V.int (wt ties ps R c)=V.int ((cutL ties ps R c).map (·.2.2)).sum)=true:=decide_eq_true rfl
    rw[ew]
    refine iteF ?_
    have Y4:=Y3'.same s4
    have s24:=s23.trans s4
    have gc4:=(s3'.trans s4) _ _ gc1
    have IC:=Shr.nf_rel (t:=(ties.map (cOf (Shr.tops (Shr.dn R) R))).sum) (b:=2 * Shr.dn R) (N:=(ties.map (cOf (Shr.tops (Shr.dn R) R))).sum) (D:=2 * Shr.dn R) (by exact zn3 D0) rfl
    have Cf:=cof_fits Wl len
    have wr:=wt_rg Wl len c
    have DF2:fitsB 3800 (2 * Shr.dn R):=((show fitsB 2 2 by show Int.natAbs 2<2 ^ 2;decide).mul DF).mono (by decide)
    obtain⟨fc1,fc2⟩:=is_fits (k:=3800) (by exact zn3 D0) IC (Cf.mono (show 3200<=3800 by decide)) DF2
    have no:=fac_le D0 IC fac
    generalize Shr.nf (ties.map (cOf (Shr.tops (Shr.dn R) R))).sum (2 * Shr.dn R)=co at *
    have sm8:∀ x:Int,x.natAbs<2 ^ 100->fitsB 8000 x:=fun x hx=>(show fitsB 100 x from hx).mono (by decide)
    have gl4:=Y4.gl
    have fl:fitsB 8 (ps.length:Int):=by show Int.natAbs _<2 ^ 8;exact zn2 p6 rfl
    have fl2:fitsB 8 (2 * (ps.length:Int)):=by show Int.natAbs _<2 ^ 8;lia
    have fl3:fitsB 8 (3 * (ps.length:Int)-2):=by show Int.natAbs _<2 ^ 8;lia
    have fw:fitsB 40 (wt ties ps R c):=by show Int.natAbs _<2 ^ 40;lia
    refine⟨l,_,rfl,gl4,_,_,rfl,rfl,⟨(show fitsB 2 2 by show Int.natAbs 2<2 ^ 2;decide).mono (by decide),by rw[zA];exact fl.mono (by decide)⟩,_,_,rfl,rfl,⟨by rw[zA];exact fl2.mono (by decide),fw.mono (by decide)⟩,c1,_,_,_,rfl,rfl,gc4,at1,_,_,rfl,rfl,⟨by rw[zA];exact(fl2.mul fw).mono (by decide),fc2.mono (by decide)⟩,l,_,rfl,gl4,_,_,rfl,rfl,⟨(show fitsB 2 3 by show Int.natAbs 3<2 ^ 2;decide).mono (by decide),by rw[zA];exact fl.mono (by decide)⟩,_,_,rfl,rfl,c1,_,_,_,rfl,rfl,gc4,at0,_,_,rfl,rfl,⟨by rw[zA];exact fl3.mono (by decide),fc1.mono (by decide)⟩,_,_,rfl,rfl,_,rfl,ite2 (fun h=>absurd (of_decide_eq_true h) (by rw[zA];exact no)) (fun _=>?_)⟩
    obtain⟨pre,ec,lw1,lw2,orr⟩:∃ pre:List Int,c.1=pre++[(k:Int)]/\(∀ th∈L',wt ties ps R c<=wt ties ps R (pre++[(k:Int)],th))/\(∀ th∈L',wt ties ps R c<=wt ties ps R (pre.reverse++[(k:Int)],th))/\Ord ps.length (pre.reverse++[(k:Int)]):=by
     rcases b3 with e | e
     ·exact⟨oth ps.length k,e,b1,b2,od2_ord km⟩
     ·refine⟨(oth ps.length k).reverse,e,b2,?_,?_⟩
      ·rw[List.reverse_reverse];exact b1
      ·rw[List.reverse_reverse];exact od1_ord km
    have hod:=s24 _ _ h4
    rw[ec]at hod oc
    have pl:pre.length<=1000:=by
     have:=oc.pm.length_eq
     rw[zO]at this
     unfold upto at this
     rw[zA,zBQ]at this
     lia
    clear h4 h1 h2 h3 h5 h6 h7 h8 fac no b1 b2 b3 IC IH
    obtain⟨ts,gts,pts⟩:=id Y4.some_
    have tl:=pts.length
    refine⟨l6,rfl,⟨_,SqL.of gts⟩,?_⟩
    refine for_list (K:=K) (a:=l6) (xs:=ts.map V.ref) (fun j σ G=>∃ (v12 v14:Option V),σ=[some (.ref a),some (.int (0+(i:Int))),some (.ref p),some (.ref t),some (.ref l),some (.ref o),some (.ref l6),v7,v8,some (.ref od),some (.int (wt ties ps R c)),some (.ref cu),v12,some (.ref c1),v14]/\Same G4 G) ⟨_,_,rfl,Same.refl _⟩ (fun j σ G _ z=>by obtain⟨_,_,_,z⟩:=z;exact SqL.of (z _ _ gts)) ?_ ?_
    ·rintro j x σ G5 hx ⟨v12,v14,rfl,sG5⟩
     obtain⟨jl,e⟩:=zI.mp hx
     rw[zA]at jl
     rw[zU]at e
     subst e
     have jL:j<L'.length:=by exact zh7 jl tl
     have Y5:=Y4.same sG5
     have gth:=sG5 _ _ (Paired.at pts j jl jL)
     have mL:=zS jL
     obtain⟨tf1,tf2⟩:=fr.fit _ ((tL.mem _).mp mL).1
     have hod5:=sG5 _ _ hod
     refine⟨_,rfl,_,rfl,od,_,rfl,SqL.of hod5,fun e1 he1=>?_⟩
     rw[cutV_pre1]
     have se1:=Same.new (o:=.lst (pre.map V.int)) he1
     refine⟨_,rfl,e1,_,rfl,rfl,SqL.of yaa,fun e2 he2=>?_⟩
     rw[<- List.map_reverse]
     have se2:=Same.new (o:=.lst (pre.reverse.map V.int)) he2
     refine⟨_,rfl,_,rfl,od,_,rfl,SqL.of (se2 _ _ (se1 _ _ hod5)),fun e3 he3=>?_⟩
     rw[cutV_tail1]
     have se3:=Same.new (o:=.lst [V.int (k:Int)]) he3
     refine⟨e2,e3,_,_,rfl,rfl,se3 _ _ yaa,yaa,by rw[zA,List.length_reverse,sizeLine_eq];show pre.length+1<=_;exact zn5 (zl2 pl rfl),fun e4 he4=>?_⟩
     have ec4:pre.reverse.map V.int++[V.int (k:Int)]=(pre.reverse++[(k:Int)]).map V.int:=by rw[zP];rfl
     rw[ec4]
     have se4:=Same.new (o:=.lst ((pre.reverse++[(k:Int)]).map V.int)) he4
     have s4':=((se1.trans se2).trans se3).trans se4
     have g4:(upd (upd (upd (upd G5 e1 (.lst (pre.map V.int))) e2 (.lst (pre.reverse.map V.int))) e3 (.lst [V.int (k:Int)])) e4 (.lst ((pre.reverse++[(k:Int)]).map V.int))) e4=some (.lst ((pre.reverse++[(k:Int)]).map V.int)):=yaa
     generalize (upd (upd (upd (upd G5 e1 (.lst (pre.map V.int))) e2 (.lst (pre.reverse.map V.int))) e3 (.lst [V.int (k:Int)])) e4 (.lst ((pre.reverse++[(k:Int)]).map V.int)))=G6 at s4' g4
     refine⟨(by show 2<=sizeLine;decide),fun e5 he5=>?_⟩
     have se5:=Same.new (o:=.tup [V.ref od,V.ref e4]) he5
     have s57:=s4'.trans se5
     have g5:(upd G6 e5 (.tup [V.ref od,V.ref e4])) e5=some (.tup [V.ref od,V.ref e4]):=yaa
     have g47:=se5 _ _ g4
     generalize (upd G6 e5 (.tup [V.ref od,V.ref e4]))=G7 at se5 s57 g5 g47
     have Y7:=Y5.same s57
     have g07:=s57 _ _ hod5
     have gth7:=s57 _ _ gth
     refine⟨e5,rfl,⟨_,SqT.of g5⟩,?_⟩
     refine for_tup (K:=K) (a:=e5) (xs:=[V.ref od,V.ref e4]) (fun m σ G=>∃ (v14:Option V),σ=[some (.ref a),some (.int (0+(i:Int))),some (.ref p),some (.ref t),some (.ref l),some (.ref o),some (.ref l6),v7,v8,some (.ref od),some (.int (wt ties ps R c)),some (.ref cu),some (.ref ts[j]),some (.ref c1),v14]/\Same G7 G) ⟨_,rfl,Same.refl _⟩ (fun m σ G _ z=>by obtain⟨_,_,z⟩:=z;exact SqT.of (z _ _ g5)) ?_ ?_
     ·rintro m x σ G8 hx ⟨v14,rfl,s8⟩
      obtain⟨a',od',rfl,ga',or',le'⟩:∃ (a':Addr) (od':List Int),x=V.ref a'/\G8 a'=some (.lst (od'.map V.int))/\Ord ps.length od'/\wt ties ps R c<=wt ties ps R (od',L'[j]):=by
       rcases m with _ | _ | m
       ·injection hx with hx
        exact⟨od,_,hx.symm,s8 _ _ g07,oc,lw1 _ mL⟩
       ·injection hx with hx
        exact⟨e4,_,hx.symm,s8 _ _ g47,orr,lw2 _ mL⟩
       ·cases hx
      have Y8:=Y7.same s8
      refine⟨false,l,o,a',ts[j],ps,R,od',L'[j],rfl,Y8.gl,Y8.rows,ga',s8 _ _ gth7,rwk,by exact zh9 (zl1 n30 rfl) Rl,or'.ok p1 p6,tf1.mono (by decide),tf2.mono (by decide),fun u G9 gu s9=>?_⟩
      have Y9:=Y8.same s9
      refine⟨t,u,n,ties,ows ps R (od',L'[j]),rfl,Y9.web,ok,gu,by unfold ows;rw[zA];exact Rl,fun l7 as7 G10 hl7 gl7 pt7 s10=>?_⟩
      have Y10:=Y9.same s10
      refine⟨t,l7,n,ties,cutL ties ps R (od',L'[j]),as7,rfl,Y10.web,pw,gl7,pt7,zAE (zCA ..) len,fun x hx=>(zBA.mp hx).1,fun G11 s11=>⟨_,_,rfl,rfl,_,rfl,ite2 (fun h=>?_) (fun _=>?_)⟩⟩
      ·have h:wt ties ps R (od',L'[j])<wt ties ps R c:=of_decide_eq_true h
       exact absurd h (by lia)
      ·exact⟨_,rfl,s8.trans (s9.trans (s10.trans s11))⟩
     ·rintro σ G8 ⟨v14,rfl,s8⟩
      exact⟨_,_,rfl,sG5.trans (s57.trans s8)⟩
    ·rintro σ G5 ⟨v12,v14,rfl,sG5⟩
     exact⟨_,_,_,_,_,_,_,_,_,_,_,_,_,_,rfl,Y4.sm.trans sG5⟩
  ·rintro σ H' ⟨v1,v2,v3,v4,v5,v6,v7,v8,v9,v10,v11,v12,v13,v14,rfl,_⟩
   exact q _
end
open PySem L2 PyProof.Rows
theorem leS{k:Nat}{motive:List Value->Prop}(us:List Value)(hl:us.length=k+1)(h:∀ a t,t.length=k->motive (a :: t)):motive us:=by
 cases us with
 |nil=>cases hl
 |cons a t=>exact h a t (Nat.succ.inj hl)
theorem leZ{motive:List Value->Prop}(us:List Value)(hl:us.length=0)(h:motive []):motive us:=by
 cases us with
 |nil=>exact h
 |cons a t=>cases hl
@[elab_as_elim] theorem le1{motive:List Value->Prop}(us:List Value)(hl:us.length=1)(k:∀ a0,motive [a0]):motive us:=leS (motive:=fun u=>motive (u)) us hl fun a0 t0 h0=>leZ (motive:=fun u=>motive (a0 :: u)) t0 h0 (k a0)
@[elab_as_elim] theorem le2{motive:List Value->Prop}(us:List Value)(hl:us.length=2)(k:∀ a0 a1,motive [a0,a1]):motive us:=leS (motive:=fun u=>motive (u)) us hl fun a0 t0 h0=>leS (motive:=fun u=>motive (a0 :: u)) t0 h0 fun a1 t1 h1=>leZ (motive:=fun u=>motive (a0 :: a1 :: u)) t1 h1 (k a0 a1)
@[elab_as_elim] theorem le3{motive:List Value->Prop}(us:List Value)(hl:us.length=3)(k:∀ a0 a1 a2,motive [a0,a1,a2]):motive us:=leS (motive:=fun u=>motive (u)) us hl fun a0 t0 h0=>leS (motive:=fun u=>motive (a0 :: u)) t0 h0 fun a1 t1 h1=>leS (motive:=fun u=>motive (a0 :: a1 :: u)) t1 h1 fun a2 t2 h2=>leZ (motive:=fun u=>motive (a0 :: a1 :: a2 :: u)) t2 h2 (k a0 a1 a2)
@[elab_as_elim] theorem le4{motive:List Value->Prop}(us:List Value)(hl:us.length=4)(k:∀ a0 a1 a2 a3,motive [a0,a1,a2,a3]):motive us:=leS (motive:=fun u=>motive (u)) us hl fun a0 t0 h0=>leS (motive:=fun u=>motive (a0 :: u)) t0 h0 fun a1 t1 h1=>leS (motive:=fun u=>motive (a0 :: a1 :: u)) t1 h1 fun a2 t2 h2=>leS (motive:=fun u=>motive (a0 :: a1 :: a2 :: u)) t2 h2 fun a3 t3 h3=>leZ (motive:=fun u=>motive (a0 :: a1 :: a2 :: a3 :: u)) t3 h3 (k a0 a1 a2 a3)
@[elab_as_elim] theorem le5{motive:List Value->Prop}(us:List Value)(hl:us.length=5)(k:∀ a0 a1 a2 a3 a4,motive [a0,a1,a2,a3,a4]):motive us:=leS (motive:=fun u=>motive (u)) us hl fun a0 t0 h0=>leS (motive:=fun u=>motive (a0 :: u)) t0 h0 fun a1 t1 h1=>leS (motive:=fun u=>motive (a0 :: a1 :: u)) t1 h1 fun a2 t2 h2=>leS (motive:=fun u=>motive (a0 :: a1 :: a2 :: u)) t2 h2 fun a3 t3 h3=>leS (motive:=fun u=>motive (a0 :: a1 :: a2 :: a3 :: u)) t3 h3 fun a4 t4 h4=>leZ (motive:=fun u=>motive (a0 :: a1 :: a2 :: a3 :: a4 :: u)) t4 h4 (k a0 a1 a2 a3 a4)
theorem all_mk{l:PySem.W.OpenLaw}{w:World}{K:PySem.W.Frag}{h:Heap}{mg:Str->Option Value}{fa f1 f2 f3 f4 f5 f6 f7 f8 f9 f10 f11 f12 f13 f14 f15 f16 f17 f18 f19 f20 f21 f22 f23 f24 f25 f26 f27 f28 f29 f30 f31 f32 f33 f34 f35 f36 f37 f38:Addr}(X:K.In h)(G:h.Ns mainGlobals mg)(hfa:mg "law" = some (.ref fa))
  {od1 an1 od2 an2 od3 an3 od4 an4 od5 an5 od6 an6 od7 an7 od8 an8 od9 an9 od10 an10 od11 an11 od12 an12 od13 an13 od14 an14 od15 an15 od16 an16 od17 an17 od18 an18 od19 an19 od20 an20 od21 an21 od22 an22 od23 an23 od24 an24 od25 an25 od26 an26 od27 an27 od28 an28 od29 an29 od30 an30 od31 an31 od32 an32 od33 an33 od34 an34 od35 an35 od36 an36 od37 an37 od38 an38:Option Addr}{sl1 sl2 sl3 sl4 sl5 sl6 sl7 sl8 sl9 sl10 sl11 sl12 sl13 sl14 sl15 sl16 sl17 sl18 sl19 sl20 sl21 sl22 sl23 sl24 sl25 sl26 sl27 sl28 sl29 sl30 sl31 sl32 sl33 sl34 sl35 sl36 sl37 sl38:Array (Option Value)}{oc1 kV1 dc1 pm1 cd1 ct1 oc2 kV2 dc2 pm2 cd2 ct2 oc3 kV3 dc3 pm3 cd3 ct3 oc4 kV4 dc4 pm4 cd4 ct4 oc5 kV5 dc5 pm5 cd5 ct5 oc6 kV6 dc6 pm6 cd6 ct6 oc7 kV7 dc7 pm7 cd7 ct7 oc8 kV8 dc8 pm8 cd8 ct8 oc9 kV9 dc9 pm9 cd9 ct9 oc10 kV10 dc10 pm10 cd10 ct10 oc11 kV11 dc11 pm11 cd11 ct11 oc12 kV12 dc12 pm12 cd12 ct12 oc13 kV13 dc13 pm13 cd13 ct13 oc14 kV14 dc14 pm14 cd14 ct14 oc15 kV15 dc15 pm15 cd15 ct15 oc16 kV16 dc16 pm16 cd16 ct16 oc17 kV17 dc17 pm17 cd17 ct17 oc18 kV18 dc18 pm18 cd18 ct18 oc19 kV19 dc19 pm19 cd19 ct19 oc20 kV20 dc20 pm20 cd20 ct20 oc21 kV21 dc21 pm21 cd21 ct21 oc22 kV22 dc22 pm22 cd22 ct22 oc23 kV23 dc23 pm23 cd23 ct23 oc24 kV24 dc24 pm24 cd24 ct24 oc25 kV25 dc25 pm25 cd25 ct25 oc26 kV26 dc26 pm26 cd26 ct26 oc27 kV27 dc27 pm27 cd27 ct27 oc28 kV28 dc28 pm28 cd28 ct28 oc29 kV29 dc29 pm29 cd29 ct29 oc30 kV30 dc30 pm30 cd30 ct30 oc31 kV31 dc31 pm31 cd31 ct31 oc32 kV32 dc32 pm32 cd32 ct32 oc33 kV33 dc33 pm33 cd33 ct33 oc34 kV34 dc34 pm34 cd34 ct34 oc35 kV35 dc35 pm35 cd35 ct35 oc36 kV36 dc36 pm36 cd36 ct36 oc37 kV37 dc37 pm37 cd37 ct37 oc38 kV38 dc38 pm38 cd38 ct38:Value}
  (a1:PySem.W.nsIn K mainGlobals "common_divisor" = some (some (.ref f1))) (l1:K.lookup f1=some ⟨oc1,od1,.func (PySem.W.fnOf "common_divisor" "common_divisor" (defArgs sCommonDivisor) (defBody sCommonDivisor) (defScope sCommonDivisor) .none kV1 dc1 pm1 an1 cd1 ct1),sl1⟩) (c1:PySem.W.codeIn K cd1 "common_divisor" = true) (k1:PySem.W.keepIn K (.ref f1)=true)
  (a2:PySem.W.nsIn K mainGlobals "fraction" = some (some (.ref f2))) (l2:K.lookup f2=some ⟨oc2,od2,.func (PySem.W.fnOf "fraction" "fraction" (defArgs sFraction) (defBody sFraction) (defScope sFraction) .none kV2 dc2 pm2 an2 cd2 ct2),sl2⟩) (c2:PySem.W.codeIn K cd2 "fraction" = true) (k2:PySem.W.keepIn K (.ref f2)=true)
  (a3:PySem.W.nsIn K mainGlobals "is_less" = some (some (.ref f3))) (l3:K.lookup f3=some ⟨oc3,od3,.func (PySem.W.fnOf "is_less" "is_less" (defArgs sIsLess) (defBody sIsLess) (defScope sIsLess) .none kV3 dc3 pm3 an3 cd3 ct3),sl3⟩) (c3:PySem.W.codeIn K cd3 "is_less" = true) (k3:PySem.W.keepIn K (.ref f3)=true)
  (a4:PySem.W.nsIn K mainGlobals "over_one" = some (some (.ref f4))) (l4:K.lookup f4=some ⟨oc4,od4,.func (PySem.W.fnOf "over_one" "over_one" (defArgs sOverOne) (defBody sOverOne) (defScope sOverOne) .none kV4 dc4 pm4 an4 cd4 ct4),sl4⟩) (c4:PySem.W.codeIn K cd4 "over_one" = true) (k4:PySem.W.keepIn K (.ref f4)=true)
  (a5:PySem.W.nsIn K mainGlobals "tie_weights" = some (some (.ref f5))) (l5:K.lookup f5=some ⟨oc5,od5,.func (PySem.W.fnOf "tie_weights" "tie_weights" (defArgs sTieWeights) (defBody sTieWeights) (defScope sTieWeights) .none kV5 dc5 pm5 an5 cd5 ct5),sl5⟩) (c5:PySem.W.codeIn K cd5 "tie_weights" = true) (k5:PySem.W.keepIn K (.ref f5)=true)
  (a6:PySem.W.nsIn K mainGlobals "weight_of" = some (some (.ref f6))) (l6:K.lookup f6=some ⟨oc6,od6,.func (PySem.W.fnOf "weight_of" "weight_of" (defArgs sWeightOf) (defBody sWeightOf) (defScope sWeightOf) .none kV6 dc6 pm6 an6 cd6 ct6),sl6⟩) (c6:PySem.W.codeIn K cd6 "weight_of" = true) (k6:PySem.W.keepIn K (.ref f6)=true)
  (a7:PySem.W.nsIn K mainGlobals "without" = some (some (.ref f7))) (l7:K.lookup f7=some ⟨oc7,od7,.func (PySem.W.fnOf "without" "without" (defArgs sWithout) (defBody sWithout) (defScope sWithout) .none kV7 dc7 pm7 an7 cd7 ct7),sl7⟩) (c7:PySem.W.codeIn K cd7 "without" = true) (k7:PySem.W.keepIn K (.ref f7)=true)
  (a8:PySem.W.nsIn K mainGlobals "beside_each" = some (some (.ref f8))) (l8:K.lookup f8=some ⟨oc8,od8,.func (PySem.W.fnOf "beside_each" "beside_each" (defArgs sBesideEach) (defBody sBesideEach) (defScope sBesideEach) .none kV8 dc8 pm8 an8 cd8 ct8),sl8⟩) (c8:PySem.W.codeIn K cd8 "beside_each" = true) (k8:PySem.W.keepIn K (.ref f8)=true)
  (a9:PySem.W.nsIn K mainGlobals "heads_of" = some (some (.ref f9))) (l9:K.lookup f9=some ⟨oc9,od9,.func (PySem.W.fnOf "heads_of" "heads_of" (defArgs sHeadsOf) (defBody sHeadsOf) (defScope sHeadsOf) .none kV9 dc9 pm9 an9 cd9 ct9),sl9⟩) (c9:PySem.W.codeIn K cd9 "heads_of" = true) (k9:PySem.W.keepIn K (.ref f9)=true)
  (a10:PySem.W.nsIn K mainGlobals "spread" = some (some (.ref f10))) (l10:K.lookup f10=some ⟨oc10,od10,.func (PySem.W.fnOf "spread" "spread" (defArgs sSpread) (defBody sSpread) (defScope sSpread) .none kV10 dc10 pm10 an10 cd10 ct10),sl10⟩) (c10:PySem.W.codeIn K cd10 "spread" = true) (k10:PySem.W.keepIn K (.ref f10)=true)
  (a11:PySem.W.nsIn K mainGlobals "is_parting" = some (some (.ref f11))) (l11:K.lookup f11=some ⟨oc11,od11,.func (PySem.W.fnOf "is_parting" "is_parting" (defArgs sIsParting) (defBody sIsParting) (defScope sIsParting) .none kV11 dc11 pm11 an11 cd11 ct11),sl11⟩) (c11:PySem.W.codeIn K cd11 "is_parting" = true) (k11:PySem.W.keepIn K (.ref f11)=true)
  (a12:PySem.W.nsIn K mainGlobals "cut_by" = some (some (.ref f12))) (l12:K.lookup f12=some ⟨oc12,od12,.func (PySem.W.fnOf "cut_by" "cut_by" (defArgs sCutBy) (defBody sCutBy) (defScope sCutBy) .none kV12 dc12 pm12 an12 cd12 ct12),sl12⟩) (c12:PySem.W.codeIn K cd12 "cut_by" = true) (k12:PySem.W.keepIn K (.ref f12)=true)
  (a13:PySem.W.nsIn K mainGlobals "cost_of" = some (some (.ref f13))) (l13:K.lookup f13=some ⟨oc13,od13,.func (PySem.W.fnOf "cost_of" "cost_of" (defArgs sCostOf) (defBody sCostOf) (defScope sCostOf) .none kV13 dc13 pm13 an13 cd13 ct13),sl13⟩) (c13:PySem.W.codeIn K cd13 "cost_of" = true) (k13:PySem.W.keepIn K (.ref f13)=true)
  (a14:PySem.W.nsIn K mainGlobals "apart" = some (some (.ref f14))) (l14:K.lookup f14=some ⟨oc14,od14,.func (PySem.W.fnOf "apart" "apart" (defArgs sApart) (defBody sApart) (defScope sApart) .none kV14 dc14 pm14 an14 cd14 ct14),sl14⟩) (c14:PySem.W.codeIn K cd14 "apart" = true) (k14:PySem.W.keepIn K (.ref f14)=true)
  (a15:PySem.W.nsIn K mainGlobals "cost_at" = some (some (.ref f15))) (l15:K.lookup f15=some ⟨oc15,od15,.func (PySem.W.fnOf "cost_at" "cost_at" (defArgs sCostAt) (defBody sCostAt) (defScope sCostAt) .none kV15 dc15 pm15 an15 cd15 ct15),sl15⟩) (c15:PySem.W.codeIn K cd15 "cost_at" = true) (k15:PySem.W.keepIn K (.ref f15)=true)
  (a16:PySem.W.nsIn K mainGlobals "owners_by" = some (some (.ref f16))) (l16:K.lookup f16=some ⟨oc16,od16,.func (PySem.W.fnOf "owners_by" "owners_by" (defArgs sOwnersBy) (defBody sOwnersBy) (defScope sOwnersBy) .none kV16 dc16 pm16 an16 cd16 ct16),sl16⟩) (c16:PySem.W.codeIn K cd16 "owners_by" = true) (k16:PySem.W.keepIn K (.ref f16)=true)
  (a17:PySem.W.nsIn K mainGlobals "taker" = some (some (.ref f17))) (l17:K.lookup f17=some ⟨oc17,od17,.func (PySem.W.fnOf "taker" "taker" (defArgs sTaker) (defBody sTaker) (defScope sTaker) .none kV17 dc17 pm17 an17 cd17 ct17),sl17⟩) (c17:PySem.W.codeIn K cd17 "taker" = true) (k17:PySem.W.keepIn K (.ref f17)=true)
  (a18:PySem.W.nsIn K mainGlobals "thresholds" = some (some (.ref f18))) (l18:K.lookup f18=some ⟨oc18,od18,.func (PySem.W.fnOf "thresholds" "thresholds" (defArgs sThresholds) (defBody sThresholds) (defScope sThresholds) .none kV18 dc18 pm18 an18 cd18 ct18),sl18⟩) (c18:PySem.W.codeIn K cd18 "thresholds" = true) (k18:PySem.W.keepIn K (.ref f18)=true)
  (a19:PySem.W.nsIn K mainGlobals "rounded" = some (some (.ref f19))) (l19:K.lookup f19=some ⟨oc19,od19,.func (PySem.W.fnOf "rounded" "rounded" (defArgs sRounded) (defBody sRounded) (defScope sRounded) .none kV19 dc19 pm19 an19 cd19 ct19),sl19⟩) (c19:PySem.W.codeIn K cd19 "rounded" = true) (k19:PySem.W.keepIn K (.ref f19)=true)
  (a20:PySem.W.nsIn K mainGlobals "orders_for" = some (some (.ref f20))) (l20:K.lookup f20=some ⟨oc20,od20,.func (PySem.W.fnOf "orders_for" "orders_for" (defArgs sOrdersFor) (defBody sOrdersFor) (defScope sOrdersFor) .none kV20 dc20 pm20 an20 cd20 ct20),sl20⟩) (c20:PySem.W.codeIn K cd20 "orders_for" = true) (k20:PySem.W.keepIn K (.ref f20)=true)
  (a21:PySem.W.nsIn K mainGlobals "_law_cell_at" = some (some (.ref f21))) (l21:K.lookup f21=some ⟨oc21,od21,.func (PySem.W.fnOf "_law_cell_at" "_law_cell_at" (defArgs sCell) (defBody sCell) (defScope sCell) .none kV21 dc21 pm21 an21 cd21 ct21),sl21⟩) (c21:PySem.W.codeIn K cd21 "_law_cell_at" = true) (k21:PySem.W.keepIn K (.ref f21)=true)
  (a22:PySem.W.nsIn K mainGlobals "_law_box" = some (some (.ref f22))) (l22:K.lookup f22=some ⟨oc22,od22,.func (PySem.W.fnOf "_law_box" "_law_box" (defArgs sBox) (defBody sBox) (defScope sBox) .none kV22 dc22 pm22 an22 cd22 ct22),sl22⟩) (c22:PySem.W.codeIn K cd22 "_law_box" = true) (k22:PySem.W.keepIn K (.ref f22)=true)
  (a23:PySem.W.nsIn K mainGlobals "_law_take" = some (some (.ref f23))) (l23:K.lookup f23=some ⟨oc23,od23,.func (PySem.W.fnOf "_law_take" "_law_take" (defArgs sTake) (defBody sTake) (defScope sTake) .none kV23 dc23 pm23 an23 cd23 ct23),sl23⟩) (c23:PySem.W.codeIn K cd23 "_law_take" = true) (k23:PySem.W.keepIn K (.ref f23)=true)
  (a24:PySem.W.nsIn K mainGlobals "_law_many" = some (some (.ref f24))) (l24:K.lookup f24=some ⟨oc24,od24,.func (PySem.W.fnOf "_law_many" "_law_many" (defArgs sMany) (defBody sMany) (defScope sMany) .none kV24 dc24 pm24 an24 cd24 ct24),sl24⟩) (c24:PySem.W.codeIn K cd24 "_law_many" = true) (k24:PySem.W.keepIn K (.ref f24)=true)
  (a25:PySem.W.nsIn K mainGlobals "_law_weight" = some (some (.ref f25))) (l25:K.lookup f25=some ⟨oc25,od25,.func (PySem.W.fnOf "_law_weight" "_law_weight" (defArgs sWeight) (defBody sWeight) (defScope sWeight) .none kV25 dc25 pm25 an25 cd25 ct25),sl25⟩) (c25:PySem.W.codeIn K cd25 "_law_weight" = true) (k25:PySem.W.keepIn K (.ref f25)=true)
  (a26:PySem.W.nsIn K mainGlobals "_law_web" = some (some (.ref f26))) (l26:K.lookup f26=some ⟨oc26,od26,.func (PySem.W.fnOf "_law_web" "_law_web" (defArgs sWeb) (defBody sWeb) (defScope sWeb) .none kV26 dc26 pm26 an26 cd26 ct26),sl26⟩) (c26:PySem.W.codeIn K cd26 "_law_web" = true) (k26:PySem.W.keepIn K (.ref f26)=true)
  (a27:PySem.W.nsIn K mainGlobals "_law_posts" = some (some (.ref f27))) (l27:K.lookup f27=some ⟨oc27,od27,.func (PySem.W.fnOf "_law_posts" "_law_posts" (defArgs sPosts) (defBody sPosts) (defScope sPosts) .none kV27 dc27 pm27 an27 cd27 ct27),sl27⟩) (c27:PySem.W.codeIn K cd27 "_law_posts" = true) (k27:PySem.W.keepIn K (.ref f27)=true)
  (a28:PySem.W.nsIn K mainGlobals "_law_shared" = some (some (.ref f28))) (l28:K.lookup f28=some ⟨oc28,od28,.func (PySem.W.fnOf "_law_shared" "_law_shared" (defArgs sShared) (defBody sShared) (defScope sShared) .none kV28 dc28 pm28 an28 cd28 ct28),sl28⟩) (c28:PySem.W.codeIn K cd28 "_law_shared" = true) (k28:PySem.W.keepIn K (.ref f28)=true)
  (a29:PySem.W.nsIn K mainGlobals "_law_frac" = some (some (.ref f29))) (l29:K.lookup f29=some ⟨oc29,od29,.func (PySem.W.fnOf "_law_frac" "_law_frac" (defArgs sFrac) (defBody sFrac) (defScope sFrac) .none kV29 dc29 pm29 an29 cd29 ct29),sl29⟩) (c29:PySem.W.codeIn K cd29 "_law_frac" = true) (k29:PySem.W.keepIn K (.ref f29)=true)
  (a30:PySem.W.nsIn K mainGlobals "_law_plus" = some (some (.ref f30))) (l30:K.lookup f30=some ⟨oc30,od30,.func (PySem.W.fnOf "_law_plus" "_law_plus" (defArgs sPlus) (defBody sPlus) (defScope sPlus) .none kV30 dc30 pm30 an30 cd30 ct30),sl30⟩) (c30:PySem.W.codeIn K cd30 "_law_plus" = true) (k30:PySem.W.keepIn K (.ref f30)=true)
  (a31:PySem.W.nsIn K mainGlobals "_law_times" = some (some (.ref f31))) (l31:K.lookup f31=some ⟨oc31,od31,.func (PySem.W.fnOf "_law_times" "_law_times" (defArgs sTimes) (defBody sTimes) (defScope sTimes) .none kV31 dc31 pm31 an31 cd31 ct31),sl31⟩) (c31:PySem.W.codeIn K cd31 "_law_times" = true) (k31:PySem.W.keepIn K (.ref f31)=true)
  (a32:PySem.W.nsIn K mainGlobals "_law_less" = some (some (.ref f32))) (l32:K.lookup f32=some ⟨oc32,od32,.func (PySem.W.fnOf "_law_less" "_law_less" (defArgs sLess) (defBody sLess) (defScope sLess) .none kV32 dc32 pm32 an32 cd32 ct32),sl32⟩) (c32:PySem.W.codeIn K cd32 "_law_less" = true) (k32:PySem.W.keepIn K (.ref f32)=true)
  (a33:PySem.W.nsIn K mainGlobals "_law_row" = some (some (.ref f33))) (l33:K.lookup f33=some ⟨oc33,od33,.func (PySem.W.fnOf "_law_row" "_law_row" (defArgs sRow) (defBody sRow) (defScope sRow) .none kV33 dc33 pm33 an33 cd33 ct33),sl33⟩) (c33:PySem.W.codeIn K cd33 "_law_row" = true) (k33:PySem.W.keepIn K (.ref f33)=true)
  (a34:PySem.W.nsIn K mainGlobals "_law_shares" = some (some (.ref f34))) (l34:K.lookup f34=some ⟨oc34,od34,.func (PySem.W.fnOf "_law_shares" "_law_shares" (defArgs sShares) (defBody sShares) (defScope sShares) .none kV34 dc34 pm34 an34 cd34 ct34),sl34⟩) (c34:PySem.W.codeIn K cd34 "_law_shares" = true) (k34:PySem.W.keepIn K (.ref f34)=true)
  (a35:PySem.W.nsIn K mainGlobals "_law_world" = some (some (.ref f35))) (l35:K.lookup f35=some ⟨oc35,od35,.func (PySem.W.fnOf "_law_world" "_law_world" (defArgs sWorld) (defBody sWorld) (defScope sWorld) .none kV35 dc35 pm35 an35 cd35 ct35),sl35⟩) (c35:PySem.W.codeIn K cd35 "_law_world" = true) (k35:PySem.W.keepIn K (.ref f35)=true)
  (a36:PySem.W.nsIn K mainGlobals "_law_middle" = some (some (.ref f36))) (l36:K.lookup f36=some ⟨oc36,od36,.func (PySem.W.fnOf "_law_middle" "_law_middle" (defArgs sMiddle) (defBody sMiddle) (defScope sMiddle) .none kV36 dc36 pm36 an36 cd36 ct36),sl36⟩) (c36:PySem.W.codeIn K cd36 "_law_middle" = true) (k36:PySem.W.keepIn K (.ref f36)=true)
  (a37:PySem.W.nsIn K mainGlobals "_law_order_right" = some (some (.ref f37))) (l37:K.lookup f37=some ⟨oc37,od37,.func (PySem.W.fnOf "_law_order_right" "_law_order_right" (defArgs sOrderRight) (defBody sOrderRight) (defScope sOrderRight) .none kV37 dc37 pm37 an37 cd37 ct37),sl37⟩) (c37:PySem.W.codeIn K cd37 "_law_order_right" = true) (k37:PySem.W.keepIn K (.ref f37)=true)
  (a38:PySem.W.nsIn K mainGlobals "law" = some (some (.ref f38))) (l38:K.lookup f38=some ⟨oc38,od38,.func (PySem.W.fnOf "law" "law" (defArgs sLaw) (defBody sLaw) (defScope sLaw) .none kV38 dc38 pm38 an38 cd38 ct38),sl38⟩) (c38:PySem.W.codeIn K cd38 "law" = true) (k38:PySem.W.keepIn K (.ref f38)=true)
  (z1:PySem.W.nsIn K mainGlobals "abs" = some none) (z2:PySem.W.nsIn K mainGlobals "int" = some none) (z3:PySem.W.nsIn K mainGlobals "len" = some none) (z4:PySem.W.nsIn K mainGlobals "range" = some none) (z5:PySem.W.nsIn K mainGlobals "min" = some none) (z6:PySem.W.nsIn K mainGlobals "max" = some none) (z7:PySem.W.nsIn K mainGlobals "tuple" = some none) (z8:PySem.W.nsIn K mainGlobals "sorted" = some none) (z9:PySem.W.nsIn K mainGlobals "isinstance" = some none) (z10:PySem.W.nsIn K mainGlobals "list" = some none) (z11:PySem.W.nsIn K mainGlobals "str" = some none) (z12:PySem.W.nsIn K mainGlobals "bool" = some none) (z13:PySem.W.nsIn K mainGlobals "sum" = some none) (z14:PySem.W.nsIn K mainGlobals "all" = some none) (z15:PySem.W.nsIn K mainGlobals "zip" = some none) (z16:PySem.W.nsIn K mainGlobals "enumerate" = some none) (z17:PySem.W.nsIn K mainGlobals "any" = some none) (z18:PySem.W.nsIn K mainGlobals "set" = some none) :
  ∃ fd:FuncData,(∀ (s:Shared) (v:Value),BindsTo s fd ⟨[v],[]⟩ [("_law_script",v)])/\∀ base:Heap,K.In base->base.Ns mainGlobals mg->FnOk l.prog w K mg base CX0 6 fa fd ["_law_script"] (spLaw K):=by
 have e:=hfa.symm.trans (PySem.W.mg_of X G a38)
 cases e
 have T:Txt mg:=⟨PySem.W.mg_none_of X G z1,PySem.W.mg_none_of X G z2,PySem.W.mg_none_of X G z3,PySem.W.mg_none_of X G z4,PySem.W.mg_none_of X G z5,PySem.W.mg_none_of X G z6,PySem.W.mg_none_of X G z7,PySem.W.mg_none_of X G z8,PySem.W.mg_none_of X G z9,PySem.W.mg_none_of X G z10,PySem.W.mg_none_of X G z11,PySem.W.mg_none_of X G z12,PySem.W.mg_none_of X G z13⟩
 have T2:Txt2 mg:=⟨PySem.W.mg_none_of X G z14,PySem.W.mg_none_of X G z15,PySem.W.mg_none_of X G z16,PySem.W.mg_none_of X G z17,PySem.W.mg_none_of X G z18⟩
 have F1:=fun_mk (st:=sCommonDivisor) l1 c1 k1
 have F2:=fun_mk (st:=sFraction) l2 c2 k2
 have F3:=fun_mk (st:=sIsLess) l3 c3 k3
 have F4:=fun_mk (st:=sOverOne) l4 c4 k4
 have F5:=fun_mk (st:=sTieWeights) l5 c5 k5
 have F6:=fun_mk (st:=sWeightOf) l6 c6 k6
 have F7:=fun_mk (st:=sWithout) l7 c7 k7
 have F8:=fun_mk (st:=sBesideEach) l8 c8 k8
 have F9:=fun_mk (st:=sHeadsOf) l9 c9 k9
 have F10:=fun_mk (st:=sSpread) l10 c10 k10
 have F11:=fun_mk (st:=sIsParting) l11 c11 k11
 have F12:=fun_mk (st:=sCutBy) l12 c12 k12
 have F13:=fun_mk (st:=sCostOf) l13 c13 k13
 have F14:=fun_mk (st:=sApart) l14 c14 k14
 have F15:=fun_mk (st:=sCostAt) l15 c15 k15
 have F16:=fun_mk (st:=sOwnersBy) l16 c16 k16
 have F17:=fun_mk (st:=sTaker) l17 c17 k17
 have F18:=fun_mk (st:=sThresholds) l18 c18 k18
 have F19:=fun_mk (st:=sRounded) l19 c19 k19
 have F20:=fun_mk (st:=sOrdersFor) l20 c20 k20
 have F21:=fun_mk (st:=sCell) l21 c21 k21
 have F22:=fun_mk (st:=sBox) l22 c22 k22
 have F23:=fun_mk (st:=sTake) l23 c23 k23
 have F24:=fun_mk (st:=sMany) l24 c24 k24
 have F25:=fun_mk (st:=sWeight) l25 c25 k25
 have F26:=fun_mk (st:=sWeb) l26 c26 k26
 have F27:=fun_mk (st:=sPosts) l27 c27 k27
 have F28:=fun_mk (st:=sShared) l28 c28 k28
 have F29:=fun_mk (st:=sFrac) l29 c29 k29
 have F30:=fun_mk (st:=sPlus) l30 c30 k30
 have F31:=fun_mk (st:=sTimes) l31 c31 k31
 have F32:=fun_mk (st:=sLess) l32 c32 k32
 have F33:=fun_mk (st:=sRow) l33 c33 k33
 have F34:=fun_mk (st:=sShares) l34 c34 k34
 have F35:=fun_mk (st:=sWorld) l35 c35 k35
 have F36:=fun_mk (st:=sMiddle) l36 c36 k36
 have F37:=fun_mk (st:=sOrderRight) l37 c37 k37
 have F38:=fun_mk (st:=sLaw) l38 c38 k38
 have b1:=F1.binds (ps:=["one","other"]) fun _ _ _ _ _ _ us hl=>le2 us hl fun _ _=>rfl
 have b2:=F2.binds (ps:=["top","below"]) fun _ _ _ _ _ _ us hl=>le2 us hl fun _ _=>rfl
 have b3:=F3.binds (ps:=["one","other"]) fun _ _ _ _ _ _ us hl=>le2 us hl fun _ _=>rfl
 have b4:=F4.binds (ps:=["rows"]) fun _ _ _ _ _ _ us hl=>le1 us hl fun _=>rfl
 have b5:=F5.binds (ps:=["web"]) fun _ _ _ _ _ _ us hl=>le1 us hl fun _=>rfl
 have b6:=F6.binds (ps:=["web","cut"]) fun _ _ _ _ _ _ us hl=>le2 us hl fun _ _=>rfl
 have b7:=F7.binds (ps:=["web","cut"]) fun _ _ _ _ _ _ us hl=>le2 us hl fun _ _=>rfl
 have b8:=F8.binds (ps:=["web"]) fun _ _ _ _ _ _ us hl=>le1 us hl fun _=>rfl
 have b9:=F9.binds (ps:=["web"]) fun _ _ _ _ _ _ us hl=>le1 us hl fun _=>rfl
 have b10:=F10.binds (ps:=["beside","heads","head"]) fun _ _ _ _ _ _ us hl=>le3 us hl fun _ _ _=>rfl
 have b11:=F11.binds (ps:=["web","posts","cut"]) fun _ _ _ _ _ _ us hl=>le3 us hl fun _ _ _=>rfl
 have b12:=F12.binds (ps:=["web","owners"]) fun _ _ _ _ _ _ us hl=>le2 us hl fun _ _=>rfl
 have b13:=F13.binds (ps:=["web","shares"]) fun _ _ _ _ _ _ us hl=>le2 us hl fun _ _=>rfl
 have b14:=F14.binds (ps:=["one","other"]) fun _ _ _ _ _ _ us hl=>le2 us hl fun _ _=>rfl
 have b15:=F15.binds (ps:=["web","shares","l"]) fun _ _ _ _ _ _ us hl=>le3 us hl fun _ _ _=>rfl
 have b16:=F16.binds (ps:=["posts","shares","order","threshold"]) fun _ _ _ _ _ _ us hl=>le4 us hl fun _ _ _ _=>rfl
 have b17:=F17.binds (ps:=["row","order","threshold"]) fun _ _ _ _ _ _ us hl=>le3 us hl fun _ _ _=>rfl
 have b18:=F18.binds (ps:=["shares"]) fun _ _ _ _ _ _ us hl=>le1 us hl fun _=>rfl
 have b19:=F19.binds (ps:=["web","posts","shares"]) fun _ _ _ _ _ _ us hl=>le3 us hl fun _ _ _=>rfl
 have b20:=F20.binds (ps:=["web","posts","shares"]) fun _ _ _ _ _ _ us hl=>le3 us hl fun _ _ _=>rfl
 have b21:=F21.binds (ps:=["_law_script","_law_k"]) fun _ _ _ _ _ _ us hl=>le2 us hl fun _ _=>rfl
 have b22:=F22.binds (ps:=["_law_script","_law_k"]) fun _ _ _ _ _ _ us hl=>le2 us hl fun _ _=>rfl
 have b23:=F23.binds (ps:=["_law_box_here","_law_many_here"]) fun _ _ _ _ _ _ us hl=>le2 us hl fun _ _=>rfl
 have b24:=F24.binds (ps:=["_law_box_here","_law_least","_law_few","_law_most"]) fun _ _ _ _ _ _ us hl=>le4 us hl fun _ _ _ _=>rfl
 have b25:=F25.binds (ps:=["_law_box_here","_law_heavy"]) fun _ _ _ _ _ _ us hl=>le2 us hl fun _ _=>rfl
 have b26:=F26.binds (ps:=["_law_box_here","_law_many_here"]) fun _ _ _ _ _ _ us hl=>le2 us hl fun _ _=>rfl
 have b27:=F27.binds (ps:=["_law_box_here","_law_many_here","_law_most"]) fun _ _ _ _ _ _ us hl=>le3 us hl fun _ _ _=>rfl
 have b28:=F28.binds (ps:=["_law_one","_law_other"]) fun _ _ _ _ _ _ us hl=>le2 us hl fun _ _=>rfl
 have b29:=F29.binds (ps:=["_law_top","_law_below"]) fun _ _ _ _ _ _ us hl=>le2 us hl fun _ _=>rfl
 have b30:=F30.binds (ps:=["_law_one","_law_other"]) fun _ _ _ _ _ _ us hl=>le2 us hl fun _ _=>rfl
 have b31:=F31.binds (ps:=["_law_one","_law_other"]) fun _ _ _ _ _ _ us hl=>le2 us hl fun _ _=>rfl
 have b32:=F32.binds (ps:=["_law_one","_law_other"]) fun _ _ _ _ _ _ us hl=>le2 us hl fun _ _=>rfl
 have b33:=F33.binds (ps:=["_law_box_here","_law_many_here"]) fun _ _ _ _ _ _ us hl=>le2 us hl fun _ _=>rfl
 have b34:=F34.binds (ps:=["_law_box_here","_law_web_here","_law_posts_here"]) fun _ _ _ _ _ _ us hl=>le3 us hl fun _ _ _=>rfl
 have b35:=F35.binds (ps:=["_law_box_here"]) fun _ _ _ _ _ _ us hl=>le1 us hl fun _=>rfl
 have b36:=F36.binds (ps:=["_law_web_here","_law_posts_here","_law_shares_here","_law_order","_law_some"]) fun _ _ _ _ _ _ us hl=>le5 us hl fun _ _ _ _ _=>rfl
 have b37:=F37.binds (ps:=["_law_web_here","_law_posts_here","_law_shares_here","_law_order","_law_some"]) fun _ _ _ _ _ _ us hl=>le5 us hl fun _ _ _ _ _=>rfl
 have m1:=PySem.W.mg_of X G a1
 have m2:=PySem.W.mg_of X G a2
 have m3:=PySem.W.mg_of X G a3
 have m4:=PySem.W.mg_of X G a4
 have m5:=PySem.W.mg_of X G a5
 have m6:=PySem.W.mg_of X G a6
 have m7:=PySem.W.mg_of X G a7
 have m8:=PySem.W.mg_of X G a8
 have m9:=PySem.W.mg_of X G a9
 have m10:=PySem.W.mg_of X G a10
 have m11:=PySem.W.mg_of X G a11
 have m12:=PySem.W.mg_of X G a12
 have m13:=PySem.W.mg_of X G a13
 have m14:=PySem.W.mg_of X G a14
 have m15:=PySem.W.mg_of X G a15
 have m16:=PySem.W.mg_of X G a16
 have m17:=PySem.W.mg_of X G a17
 have m18:=PySem.W.mg_of X G a18
 have m19:=PySem.W.mg_of X G a19
 have m20:=PySem.W.mg_of X G a20
 have m21:=PySem.W.mg_of X G a21
 have m22:=PySem.W.mg_of X G a22
 have m23:=PySem.W.mg_of X G a23
 have m24:=PySem.W.mg_of X G a24
 have m25:=PySem.W.mg_of X G a25
 have m26:=PySem.W.mg_of X G a26
 have m27:=PySem.W.mg_of X G a27
 have m28:=PySem.W.mg_of X G a28
 have m29:=PySem.W.mg_of X G a29
 have m30:=PySem.W.mg_of X G a30
 have m31:=PySem.W.mg_of X G a31
 have m32:=PySem.W.mg_of X G a32
 have m33:=PySem.W.mg_of X G a33
 have m34:=PySem.W.mg_of X G a34
 have m35:=PySem.W.mg_of X G a35
 have m36:=PySem.W.mg_of X G a36
 have m37:=PySem.W.mg_of X G a37
 have m38:=PySem.W.mg_of X G a38
 refine⟨PySem.W.fnOf "law" "law" (defArgs sLaw) (defBody sLaw) (defScope sLaw) .none kV38 dc38 pm38 an38 cd38 ct38,fun s v=>.of_eq rfl,fun base _ _=>?_⟩
 have C__law_box:CalF l.prog w K mg base 2 "_law_box" ["_law_script","_law_k"] (spBox K) f22 _:=⟨ok_box F22 T F21 m21 b21,m22,k22,b22⟩
 have TK:TakeF l.prog w K mg base f23 _:=⟨ok_take F23,m23,k23,b23⟩
 have C__law_many:CalF l.prog w K mg base 2 "_law_many" ["_law_box_here","_law_least","_law_few","_law_most"] spMany f24 _:=⟨ok_many F24 TK,m24,k24,b24⟩
 have TW:WeightF l.prog w K mg base f25 _:=⟨ok_weight F25 TK,m25,k25,b25⟩
 have C__law_web:CalF l.prog w K mg base 3 "_law_web" ["_law_box_here","_law_many_here"] spWeb f26 _:=⟨ok_web F26 T TK TW,m26,k26,b26⟩
 have C__law_posts:CalF l.prog w K mg base 2 "_law_posts" ["_law_box_here","_law_many_here","_law_most"] spPo f27 _:=⟨ok_po F27 T TK,m27,k27,b27⟩
 have C__law_shared:CalF l.prog w K mg base 1 "_law_shared" ["_law_one","_law_other"] spSd f28 _:=⟨ok_sd F28,m28,k28,b28⟩
 have C__law_frac:CalF l.prog w K mg base 2 "_law_frac" ["_law_top","_law_below"] spFc f29 _:=⟨ok_fc F29 T C__law_shared,m29,k29,b29⟩
 have C__law_row:CalF l.prog w K mg base 3 "_law_row" ["_law_box_here","_law_many_here"] spRw f33 _:=⟨ok_rw F33 T TK C__law_frac,m33,k33,b33⟩
 have C__law_shares:CalF l.prog w K mg base 4 "_law_shares" ["_law_box_here","_law_web_here","_law_posts_here"] spSh f34 _:=⟨ok_sh F34 T TK C__law_row,m34,k34,b34⟩
 have C__law_world:CalF l.prog w K mg base 5 "_law_world" ["_law_box_here"] spWo f35 _:=⟨ok_wo F35 C__law_many C__law_web C__law_posts C__law_shares,m35,k35,b35⟩
 have C_common_divisor:CalF l.prog w K mg base 1 "common_divisor" ["one","other"] spCd f1 _:=⟨ok_cd F1 T,m1,k1,b1⟩
 have C_over_one:CalF l.prog w K mg base 2 "over_one" ["rows"] (spOo K) f4 _:=⟨ok_oo F4 C_common_divisor,m4,k4,b4⟩
 have C_thresholds:CalF l.prog w K mg base 3 "thresholds" ["shares"] spThQ f18 _:=⟨ok_th F18 T T2 C_over_one,m18,k18,b18⟩
 have C_apart:CalF l.prog w K mg base 1 "apart" ["one","other"] spAp f14 _:=⟨ok_ap F14 T T2,m14,k14,b14⟩
 have C_fraction:CalF l.prog w K mg base 2 "fraction" ["top","below"] spFr f2 _:=⟨ok_fr F2 C_common_divisor,m2,k2,b2⟩
 have C_cost_of:CalF l.prog w K mg base 3 "cost_of" ["web","shares"] (spCo K) f13 _:=⟨ok_co F13 T C_over_one C_apart C_fraction,m13,k13,b13⟩
 have C_cost_at:CalF l.prog w K mg base 3 "cost_at" ["web","shares","l"] (spCa K) f15 _:=⟨ok_ca F15 T C_over_one C_fraction,m15,k15,b15⟩
 have C_cut_by:CalF l.prog w K mg base 1 "cut_by" ["web","owners"] spCb f12 _:=⟨ok_cb F12,m12,k12,b12⟩
 have C_is_less:CalF l.prog w K mg base 1 "is_less" ["one","other"] spLs f3 _:=⟨ok_il F3,m3,k3,b3⟩
 have C_taker:CalF l.prog w K mg base 2 "taker" ["row","order","threshold"] spTk f17 _:=⟨ok_tk F17 C_is_less,m17,k17,b17⟩
 have C_owners_by:CalF l.prog w K mg base 3 "owners_by" ["posts","shares","order","threshold"] spObQ f16 _:=⟨ok_ob F16 T C_taker,m16,k16,b16⟩
 have C_without:CalF l.prog w K mg base 1 "without" ["web","cut"] (spWout K) f7 _:=⟨ok_wout F7 T,m7,k7,b7⟩
 have C_beside_each:CalF l.prog w K mg base 1 "beside_each" ["web"] spBes f8 _:=⟨ok_bes F8 T,m8,k8,b8⟩
 have C_spread:CalF l.prog w K mg base 1 "spread" ["beside","heads","head"] spSpr f10 _:=⟨ok_spr F10,m10,k10,b10⟩
 have C_heads_of:CalF l.prog w K mg base 2 "heads_of" ["web"] spHds f9 _:=⟨ok_hds F9 T C_beside_each C_spread,m9,k9,b9⟩
 have C_is_parting:CalF l.prog w K mg base 3 "is_parting" ["web","posts","cut"] (spIP K) f11 _:=⟨ok_ip F11 T C_without C_heads_of,m11,k11,b11⟩
 have C__law_plus:CalF l.prog w K mg base 3 "_law_plus" ["_law_one","_law_other"] spPl f30 _:=⟨ok_pl F30 C__law_frac,m30,k30,b30⟩
 have C__law_times:CalF l.prog w K mg base 3 "_law_times" ["_law_one","_law_other"] spTm f31 _:=⟨ok_tm F31 C__law_frac,m31,k31,b31⟩
 have C_tie_weights:CalF l.prog w K mg base 1 "tie_weights" ["web"] spTw f5 _:=⟨ok_tw F5,m5,k5,b5⟩
 have C_weight_of:CalF l.prog w K mg base 2 "weight_of" ["web","cut"] spWg f6 _:=⟨ok_wg F6 T C_tie_weights,m6,k6,b6⟩
 have C__law_middle:CalF l.prog w K mg base 4 "_law_middle" ["_law_web_here","_law_posts_here","_law_shares_here","_law_order","_law_some"] spMi f36 _:=⟨ok_mi F36 C_cut_by C_owners_by C_is_parting C__law_plus C__law_times C_weight_of,m36,k36,b36⟩
 have C__law_less:CalF l.prog w K mg base 1 "_law_less" ["_law_one","_law_other"] spLs f32 _:=⟨ok_ls F32,m32,k32,b32⟩
 have C__law_order_right:CalF l.prog w K mg base 5 "_law_order_right" ["_law_web_here","_law_posts_here","_law_shares_here","_law_order","_law_some"] spOr f37 _:=⟨ok_or F37 C_cost_of C_cost_at C__law_middle C__law_plus C__law_less,m37,k37,b37⟩
 have C_orders_for:CalF l.prog w K mg base 4 "orders_for" ["web","posts","shares"] spOf f20 _:=⟨ok_of F20 T C_cost_at C_over_one,m20,k20,b20⟩
 have C_rounded:CalF l.prog w K mg base 5 "rounded" ["web","posts","shares"] spRd f19 _:=⟨ok_rd F19 C_orders_for C_thresholds C_cut_by C_owners_by C_weight_of,m19,k19,b19⟩
 exact ok_law F38 T ⟨C__law_box,TK,C__law_world,C_thresholds,C__law_order_right,C_rounded,C_cost_of,C_is_parting,C_weight_of,C_cut_by,C_owners_by⟩
theorem walk{l:PySem.W.OpenLaw}{q:Program}{loose:List Str}{XP:(Str->Option Value)->Heap->Prop}{YP:World->Heap->Prop}{d:DefRec}{K:Params->PySem.W.Frag}(hn:l.most=some 63)(hdf:d.params.defaults=[])(hY:∀ (w:World) (h:Heap),YP w h->(K w.params).In h)
  (F:∀ (w:World) (mg:Str->Option Value) (fa:Addr) (h:Heap),(K w.params).In h->h.Ns mainGlobals mg->mg d.name=some (.ref fa)->∃ fd:FuncData,(∀ (s:Shared) (u:Value),BindsTo s fd ⟨[u],[]⟩ [("_law_script",u)])/\∀ base:Heap,(K w.params).In base->base.Ns mainGlobals mg->FnOk l.prog w (K w.params) mg base CX0 6 fa fd ["_law_script"] (spLaw (K w.params))) :
  PySem.W.WalkO q loose XP YP l.row.toRowW d [] (fun f vs=>PySem.call f vs) :=
 L2.walk_of (n:=63) (k:=6) (x:="_law_script") (CX:=fun _=>CX0) (sp:=fun w=>spLaw (K w.params)) hn (by decide) hdf ⟨rfl,by decide,by decide,rfl⟩ hY F (fun _ _ a ns hl _ hS=>⟨a,ns,rfl,hS,hl,fun _=>rfl⟩) fun _ _ _ _ _ z=>z
end K31
open PySem PySem.W PyProof.Rows
set_option maxRecDepth 100000 in
set_option maxHeartbeats 0 in
def PySem.W.Fast.tw18003868137875259905 : PySem.Program := PySem.Challenge.pw_partedweb_k31_rounded_within_the_factor
theorem PySem.W.Fast.te18003868137875259905 : PySem.Challenge.pw_partedweb_k31_rounded_within_the_factor = PySem.W.Fast.tw18003868137875259905 := rfl
theorem PySem.Challenge.cw_partedweb_k31_rounded_within_the_factor_holds : PySem.Challenge.rw_partedweb_k31_rounded_within_the_factor.Holds := by
  w_on; o_law; k_head; (case hw => w_witness2)
  k_fill
  refine K31.walk (l := PySem.Challenge.rw_partedweb_k31_rounded_within_the_factor) rfl rfl (fun w h Y => PySem.W.kIn_of Y) ?F
  case F =>
    intro w mg fa h KX G hmg
    refine' K31.all_mk KX G hmg ?a1 ?l1 ?c1 ?k1 ?a2 ?l2 ?c2 ?k2 ?a3 ?l3 ?c3 ?k3 ?a4 ?l4 ?c4 ?k4 ?a5 ?l5 ?c5 ?k5 ?a6 ?l6 ?c6 ?k6 ?a7 ?l7 ?c7 ?k7 ?a8 ?l8 ?c8 ?k8 ?a9 ?l9 ?c9 ?k9 ?a10 ?l10 ?c10 ?k10 ?a11 ?l11 ?c11 ?k11 ?a12 ?l12 ?c12 ?k12 ?a13 ?l13 ?c13 ?k13 ?a14 ?l14 ?c14 ?k14 ?a15 ?l15 ?c15 ?k15 ?a16 ?l16 ?c16 ?k16 ?a17 ?l17 ?c17 ?k17 ?a18 ?l18 ?c18 ?k18 ?a19 ?l19 ?c19 ?k19 ?a20 ?l20 ?c20 ?k20 ?a21 ?l21 ?c21 ?k21 ?a22 ?l22 ?c22 ?k22 ?a23 ?l23 ?c23 ?k23 ?a24 ?l24 ?c24 ?k24 ?a25 ?l25 ?c25 ?k25 ?a26 ?l26 ?c26 ?k26 ?a27 ?l27 ?c27 ?k27 ?a28 ?l28 ?c28 ?k28 ?a29 ?l29 ?c29 ?k29 ?a30 ?l30 ?c30 ?k30 ?a31 ?l31 ?c31 ?k31 ?a32 ?l32 ?c32 ?k32 ?a33 ?l33 ?c33 ?k33 ?a34 ?l34 ?c34 ?k34 ?a35 ?l35 ?c35 ?k35 ?a36 ?l36 ?c36 ?k36 ?a37 ?l37 ?c37 ?k37 ?a38 ?l38 ?c38 ?k38 ?z1 ?z2 ?z3 ?z4 ?z5 ?z6 ?z7 ?z8 ?z9 ?z10 ?z11 ?z12 ?z13 ?z14 ?z15 ?z16 ?z17 ?z18
    (case a1 => k_is); (case l1 => k_is); (case c1 => k_is); (case k1 => k_is); (case a2 => k_is); (case l2 => k_is)
    (case c2 => k_is); (case k2 => k_is); (case a3 => k_is); (case l3 => k_is); (case c3 => k_is); (case k3 => k_is)
    (case a4 => k_is); (case l4 => k_is); (case c4 => k_is); (case k4 => k_is); (case a5 => k_is); (case l5 => k_is)
    (case c5 => k_is); (case k5 => k_is); (case a6 => k_is); (case l6 => k_is); (case c6 => k_is); (case k6 => k_is)
    (case a7 => k_is); (case l7 => k_is); (case c7 => k_is); (case k7 => k_is); (case a8 => k_is); (case l8 => k_is)
    (case c8 => k_is); (case k8 => k_is); (case a9 => k_is); (case l9 => k_is); (case c9 => k_is); (case k9 => k_is)
    (case a10 => k_is); (case l10 => k_is); (case c10 => k_is); (case k10 => k_is); (case a11 => k_is); (case l11 => k_is)
    (case c11 => k_is); (case k11 => k_is); (case a12 => k_is); (case l12 => k_is); (case c12 => k_is); (case k12 => k_is)
    (case a13 => k_is); (case l13 => k_is); (case c13 => k_is); (case k13 => k_is); (case a14 => k_is); (case l14 => k_is)
    (case c14 => k_is); (case k14 => k_is); (case a15 => k_is); (case l15 => k_is); (case c15 => k_is); (case k15 => k_is)
    (case a16 => k_is); (case l16 => k_is); (case c16 => k_is); (case k16 => k_is); (case a17 => k_is); (case l17 => k_is)
    (case c17 => k_is); (case k17 => k_is); (case a18 => k_is); (case l18 => k_is); (case c18 => k_is); (case k18 => k_is)
    (case a19 => k_is); (case l19 => k_is); (case c19 => k_is); (case k19 => k_is); (case a20 => k_is); (case l20 => k_is)
    (case c20 => k_is); (case k20 => k_is); (case a21 => k_is); (case l21 => k_is); (case c21 => k_is); (case k21 => k_is)
    (case a22 => k_is); (case l22 => k_is); (case c22 => k_is); (case k22 => k_is); (case a23 => k_is); (case l23 => k_is)
    (case c23 => k_is); (case k23 => k_is); (case a24 => k_is); (case l24 => k_is); (case c24 => k_is); (case k24 => k_is)
    (case a25 => k_is); (case l25 => k_is); (case c25 => k_is); (case k25 => k_is); (case a26 => k_is); (case l26 => k_is)
    (case c26 => k_is); (case k26 => k_is); (case a27 => k_is); (case l27 => k_is); (case c27 => k_is); (case k27 => k_is)
    (case a28 => k_is); (case l28 => k_is); (case c28 => k_is); (case k28 => k_is); (case a29 => k_is); (case l29 => k_is)
    (case c29 => k_is); (case k29 => k_is); (case a30 => k_is); (case l30 => k_is); (case c30 => k_is); (case k30 => k_is)
    (case a31 => k_is); (case l31 => k_is); (case c31 => k_is); (case k31 => k_is); (case a32 => k_is); (case l32 => k_is)
    (case c32 => k_is); (case k32 => k_is); (case a33 => k_is); (case l33 => k_is); (case c33 => k_is); (case k33 => k_is)
    (case a34 => k_is); (case l34 => k_is); (case c34 => k_is); (case k34 => k_is); (case a35 => k_is); (case l35 => k_is)
    (case c35 => k_is); (case k35 => k_is); (case a36 => k_is); (case l36 => k_is); (case c36 => k_is); (case k36 => k_is)
    (case a37 => k_is); (case l37 => k_is); (case c37 => k_is); (case k37 => k_is); (case a38 => k_is); (case l38 => k_is)
    (case c38 => k_is); (case k38 => k_is); (case z1 => k_is); (case z2 => k_is); (case z3 => k_is); (case z4 => k_is)
    (case z5 => k_is); (case z6 => k_is); (case z7 => k_is); (case z8 => k_is); (case z9 => k_is); (case z10 => k_is)
    (case z11 => k_is); (case z12 => k_is); (case z13 => k_is); (case z14 => k_is); (case z15 => k_is); (case z16 => k_is)
    (case z17 => k_is); (case z18 => k_is)
#print axioms PySem.Challenge.cw_partedweb_k31_rounded_within_the_factor_holds
