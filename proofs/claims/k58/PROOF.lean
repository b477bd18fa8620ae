import PyProof.Rows.All
import Wide.All
import OpenK.AllK
import Wide.FinOn
import Lean
import PyProof.EqAt
import PyProof.EqKinds
import PyProof.TupleCall
import PySem.Challenge.RW_partedweb_k58_pairs_of_groups
set_option Elab.async false
set_option linter.all false
set_option maxRecDepth 100000
namespace L2
open PySem PySem.Spec PyProof.Rows
abbrev Key := Sum Int Str
def keyIs : Key → Value → Bool
  | .inl k, v => Value.isInt k v
  | .inr x, v => Value.isStrOf x v
def keyH (w : World) : Key → Int
  | .inl k => hashInt k
  | .inr x => hashStr w x
theorem keyIs_shape : ∀ {k : Key} {v : Value}, keyIs k v = true → (∃ i t, k = Sum.inl i ∧ v = Value.int i t) ∨ (∃ x t, k = Sum.inr x ∧ v = Value.str x t)
  | .inl i, v, h => by
    obtain ⟨t, e⟩ := Value.isInt_shape (k := i) (v := v) h
    exact .inl ⟨i, t, rfl, e⟩
  | .inr x, v, h => by
    obtain ⟨t, e⟩ := Value.isStrOf_shape (x := x) (v := v) h
    exact .inr ⟨x, t, rfl, e⟩
theorem key_ll (a b : Int) : decide ((Sum.inl a : Key) = Sum.inl b) = (a == b) := by
  by_cases e : a = b
  · subst e; simp
  · have h : ¬ (Sum.inl a : Key) = Sum.inl b := fun q => e (Sum.inl.inj q)
    rw [decide_eq_false h]
    exact (beq_eq_false_iff_ne.mpr e).symm
theorem key_rr (a b : Str) : decide ((Sum.inr a : Key) = Sum.inr b) = decide (a = b) := by
  by_cases e : a = b
  · subst e; simp
  · have h : ¬ (Sum.inr a : Key) = Sum.inr b := fun q => e (Sum.inr.inj q)
    rw [decide_eq_false h, decide_eq_false e]
theorem key_lr (a : Int) (b : Str) : decide ((Sum.inl a : Key) = Sum.inr b) = false := decide_eq_false (fun q => nomatch q)
theorem key_rl (a : Str) (b : Int) : decide ((Sum.inr a : Key) = Sum.inl b) = false := decide_eq_false (fun q => nomatch q)
def mixKind (prog : Program) (w : World) : PySem.KeyKind prog w Key where
  is := keyIs
  hash := keyH w
  inj := fun v a b ha hb => by
    rcases keyIs_shape ha with ⟨i, t, rfl, rfl⟩ | ⟨x, t, rfl, rfl⟩
    · rcases keyIs_shape hb with ⟨j, u, rfl, e⟩ | ⟨y, u, rfl, e⟩
      · injection e with e1 _; rw [e1]
      · exact nomatch e
    · rcases keyIs_shape hb with ⟨j, u, rfl, e⟩ | ⟨y, u, rfl, e⟩
      · exact nomatch e
      · injection e with e1 _; rw [e1]
  byValue := fun k v h => by
    rcases keyIs_shape h with ⟨i, t, rfl, rfl⟩ | ⟨x, t, rfl, rfl⟩ <;> rfl
  pyHash := fun hv h => by
    rcases keyIs_shape hv with ⟨i, t, rfl, rfl⟩ | ⟨x, t, rfl, rfl⟩
    · exact wpAny_pyHash_int h
    · exact wpAny_pyHash_str h
  eqBool := fun hu hv h => by
    rcases keyIs_shape hu with ⟨i, t, rfl, rfl⟩ | ⟨x, t, rfl, rfl⟩
    · rcases keyIs_shape hv with ⟨j, u, rfl, rfl⟩ | ⟨y, u, rfl, rfl⟩
      · rw [key_ll] at h; exact wpAny_eqBool_int h
      · rw [key_lr] at h; exact SeqAt.EqAt.int_str i t y u _ _ _ _ h
    · rcases keyIs_shape hv with ⟨j, u, rfl, rfl⟩ | ⟨y, u, rfl, rfl⟩
      · rw [key_rl] at h; exact SeqAt.EqAt.str_int x t j u _ _ _ _ h
      · rw [key_rr] at h; exact wpAny_eqBool_str h
  «strs» := fun k x t v h => by
    rcases keyIs_shape h with ⟨i, u, rfl, e⟩ | ⟨y, u, rfl, e⟩
    · exact nomatch e
    · injection e with e1 _
      subst e1
      cases v <;> rfl
end L2
namespace L2
open PySem PySem.Spec PyProof.Rows
inductive V where
  | non | bl (b : Bool) | int (i : Int) | str (x : Str) | byt (b : Array UInt8) | flt (b : UInt64) | ref (a : Addr) | ty (n : String)
  deriving DecidableEq
def RelV : V → Value → Prop
  | .non, u => u = Value.none
  | .bl b, u => u = Value.bool b
  | .int i, u => ∃ t, u = Value.int i t
  | .str x, u => ∃ t, u = Value.str x t
  | .byt b, u => ∃ t, u = Value.bytes b t
  | .flt b, u => ∃ t, u = Value.float b t
  | .ref a, u => u = Value.ref a
  | .ty n, u => u = Value.type n
abbrev Vals : List V → List Value → Prop := Paired RelV
theorem Vals.length {xs : List V} {us : List Value} (r : Vals xs us) : xs.length = us.length := Paired.length r
theorem Vals.get : ∀ {xs : List V} {us : List Value} {i : Nat} {x : V}, Vals xs us → xs[i]? = some x → ∃ u, us[i]? = some u ∧ RelV x u
  | _, _, _, _, .nil, e => by simp at e
  | _, _, 0, _, .cons r _, e => by simp at e; subst e; exact ⟨_, rfl, r⟩
  | _, _, i + 1, x, .cons _ t, e => by
    obtain ⟨u, h1, h2⟩ := Vals.get (i := i) (x := x) t (by simpa using e)
    exact ⟨u, by simpa using h1, h2⟩
theorem Vals.set {x : V} {u : Value} (r : RelV x u) : ∀ {xs : List V} {us : List Value} (i : Nat), Vals xs us → Vals (xs.set i x) (us.set i u)
  | _, _, _, .nil => .nil
  | _, _, 0, .cons _ t => .cons r t
  | _, _, i + 1, .cons q t => .cons q (Vals.set r i t)
theorem Vals.append : ∀ {xs ys : List V} {us ws : List Value}, Vals xs us → Vals ys ws → Vals (xs ++ ys) (us ++ ws)
  | _, _, _, _, .nil, s => s
  | _, _, _, _, .cons r t, s => .cons r (Vals.append t s)
def RelO : Option V → Option Value → Prop
  | some v, some u => RelV v u
  | none, none => True
  | _, _ => False
def KV {κ : Type} : List (κ × V) → List (κ × Value) → Prop := Paired fun (p : κ × V) (q : κ × Value) => p.1 = q.1 ∧ RelV p.2 q.2
def kV : Key → V
  | .inl i => .int i
  | .inr x => .str x
inductive HO where
  /-- a list -/
  | lst (xs : List V)
  /-- a tuple (never changes) -/
  | tup (xs : List V)
  /-- a dict whose keys are ints and texts; one whose keys are tuples of ints and texts (the empty one is both) -/
  | dK (kvs : List (Key × V)) | dT (kvs : List (List Key × V))
  /-- a set of ints: its members, its size -/
  | set (S : Int → Bool) (n : Nat)
  /-- an instance of the class at C, its dict at dx, its attributes -/
  | ins (C dx : Addr) (fs : List (Str × V))
  /-- the dict of the instance at x -/
  | own (x : Addr)
  /-- the dict of an exception -/
  | xd (fs : List (Str × V))
  /-- a bound method, f of x -/
  | met (f x : Addr)
  /-- a range object lo, lo + 1, .. below hi -/
  | rng (lo hi : Int)
  /-- a thing that is known to the object (the script; a dict while a loop walks it): read, never written while it is so -/
  | frz (o : Obj) (u : HO)
  /-- a code object's table -/
  | tbl (ps : Array Value)
  /-- any other thing, by what is true of its one object (a def of one's own: SetO a S n := HO.ext fun h => ..) -/
  | ext (φ : Heap → Prop)
abbrev Hp := Addr → Option HO
def upd (H : Hp) (a : Addr) (o : HO) : Hp := fun b => if b = a then some o else H b
theorem upd_same {H : Hp} {a : Addr} {o : HO} : upd H a o a = some o := by unfold upd; rw [if_pos rfl]
theorem upd_ne {H : Hp} {a b : Addr} {o : HO} (h : b ≠ a) : upd H a o b = H b := by unfold upd; rw [if_neg h]
theorem ne_of_none {H : Hp} {a b : Addr} {o : HO} (h : H a = some o) (h' : H b = none) : a ≠ b := by
  intro e; subst e; rw [h] at h'; cases h'
section
variable (P : Program) (w : World)
def ObjOk (H : Hp) (h : Heap) (a : Addr) : HO → Prop
  | .lst xs => xs.length ≤ sizeLine ∧ ∃ (its : List Value) (n : Nat), Vals xs its ∧ h.get? a = some { cls := .type "list", data := .seq its.toArray n }
  | .tup xs => xs.length ≤ sizeLine ∧ ∃ its : List Value, Vals xs its ∧ IsTup h a its.toArray
  | .dK kvs => kvs.length ≤ sizeLine ∧ (a == sysModules) = false ∧ ∃ vs, KV kvs vs ∧ h.DictOf (mixKind P w) a vs
  | .dT kvs => kvs.length ≤ sizeLine ∧ (a == sysModules) = false ∧ ∃ xs : List (List Key × Addr × Value),
      Paired (fun (p : List Key × V) (q : List Key × Addr × Value) => p.1 = q.1 ∧ H q.2.1 = some (.tup (p.1.map kV)) ∧ RelV p.2 q.2.2) kvs xs ∧
      ∃ o es ep, h.get? a = some o ∧ o.ExactDict ∧ o.data = .dict es ep ∧ es.toList = xs.map (entryOfKey (tupleKind (mixKind P w))) ∧ (xs.map (·.1)).Nodup
  | .set S n => h.SetOf (intKind P w) a S n
  | .ins C dx fs => H dx = some (.own a) ∧ fs.length ≤ 1000 ∧ dx ≠ a ∧ h.get? a = some (PySem.W.instObj C dx) ∧
      ∃ mA, h.Ns1 dx mA ∧ (∀ f, RelO (fs.lookup f) (mA f)) ∧ PySem.Within mA (fs.map (·.1))
  | .own _ => ∃ o, h.get? a = some o
  | .xd fs => ∃ mA, h.Ns1 a mA ∧ ∀ f, RelO (fs.lookup f) (mA f)
  | .rng lo hi => ∃ t u v, h.get? a = some { cls := .type "range", data := .fields #[.int lo t, .int hi u, .int 1 v] }
  | .frz o u => h.get? a = some o ∧ ObjOk H h a u
  | .tbl ps => h.get? a = some { cls := .none, data := .fields ps }
  | .met f x => h.get? a = some (PySem.W.methodObj (.ref f) (.ref x))
  | .ext φ => φ h ∧ (∃ o, h.get? a = some o) ∧ ∀ h1 h2 : Heap, φ h1 → (∀ o, h1.get? a = some o → h2.get? a = some o) → φ h2
def HOk (H : Hp) (h : Heap) : Prop := ∀ a o, H a = some o → ObjOk P w H h a o
end
section
variable {P : Program} {w : World} {H H' : Hp} {h h' : Heap} {a : Addr} {o : HO}
theorem ObjOk.lt (x : ObjOk P w H h a o) : a < h.objs.size := by
  cases o with
  | lst xs => obtain ⟨_, _, _, _, e⟩ := x; exact Heap.lt_size e
  | tup xs => obtain ⟨_, _, _, p⟩ := x; exact p.lt
  | dK kvs => obtain ⟨_, _, _, _, o, _, _, e, _⟩ := x; exact Heap.lt_size e
  | dT kvs => obtain ⟨_, _, _, _, o, _, _, e, _⟩ := x; exact Heap.lt_size e
  | set S n => obtain ⟨o, _, _, _, e, _⟩ := x; exact Heap.lt_size e
  | ins C dx fs => obtain ⟨_, _, _, e, _⟩ := x; exact Heap.lt_size e
  | own y => obtain ⟨_, e⟩ := x; exact Heap.lt_size e
  | xd fs => obtain ⟨_, ⟨_, _, _, e, _⟩, _⟩ := x; exact Heap.lt_size e
  | rng lo hi => obtain ⟨_, _, _, e⟩ := x; exact Heap.lt_size e
  | frz ob u => obtain ⟨e, _⟩ := x; exact Heap.lt_size e
  | tbl ps => exact Heap.lt_size (show h.get? a = some _ from x)
  | met f y => exact Heap.lt_size (show h.get? a = some _ from x)
  | ext φ => obtain ⟨_, ⟨_, e⟩, _⟩ := x; exact Heap.lt_size e
theorem Paired.mapP {α β : Type} {F G : α → β → Prop} : ∀ {l₁ : List α} {l₂ : List β}, Paired F l₁ l₂ → (∀ a b, F a b → G a b) → Paired G l₁ l₂
  | _, _, .nil, _ => .nil
  | _, _, .cons r t, f => .cons (f _ _ r) (Paired.mapP t f)
theorem ObjOk.stay (x : ObjOk P w H h a o) (k : ∀ b u, (b = a ∨ H b = some (.own a)) → h.get? b = some u → h'.get? b = some u)
    (ho : ∀ b, H b = some (.own a) → H' b = some (.own a)) (ht : ∀ b xs, H b = some (.tup xs) → H' b = some (.tup xs)) : ObjOk P w H' h' a o := by
  induction o with
  | lst xs => obtain ⟨z, its, n, r, e⟩ := x; exact ⟨z, its, n, r, k _ _ (.inl rfl) e⟩
  | tup xs => obtain ⟨z, its, r, ob, e, c⟩ := x; exact ⟨z, its, r, ob, k _ _ (.inl rfl) e, c⟩
  | dK kvs => obtain ⟨z, y, vs, r, ob, es, ep, e, c⟩ := x; exact ⟨z, y, vs, r, ob, es, ep, k _ _ (.inl rfl) e, c⟩
  | dT kvs =>
    obtain ⟨z, y, xs, r, ob, es, ep, e, c⟩ := x
    exact ⟨z, y, xs, Paired.mapP r fun p q z => ⟨z.1, ht _ _ z.2.1, z.2.2⟩, ob, es, ep, k _ _ (.inl rfl) e, c⟩
  | set S n => obtain ⟨ob, es, ep, t, e, c⟩ := x; exact ⟨ob, es, ep, t, k _ _ (.inl rfl) e, c⟩
  | ins C dx fs =>
    obtain ⟨d, z, ne, e, mA, ⟨od, es, ep, e2, c⟩, r⟩ := x
    exact ⟨ho _ d, z, ne, k _ _ (.inl rfl) e, mA, ⟨od, es, ep, k _ _ (.inr d) e2, c⟩, r⟩
  | own y => obtain ⟨ob, e⟩ := x; exact ⟨ob, k _ _ (.inl rfl) e⟩
  | xd fs => obtain ⟨mA, ⟨od, es, ep, e, c⟩, r⟩ := x; exact ⟨mA, ⟨od, es, ep, k _ _ (.inl rfl) e, c⟩, r⟩
  | rng lo hi => obtain ⟨t, u, v, e⟩ := x; exact ⟨t, u, v, k _ _ (.inl rfl) e⟩
  | frz ob u ih => obtain ⟨e, q⟩ := x; exact ⟨k _ _ (.inl rfl) e, ih q⟩
  | tbl ps =>
    have e : h.get? a = some { cls := .none, data := .fields ps } := x
    show h'.get? a = some { cls := .none, data := .fields ps }
    exact k a _ (.inl rfl) e
  | met f y =>
    have e : h.get? a = some (PySem.W.methodObj (.ref f) (.ref y)) := x
    show h'.get? a = some (PySem.W.methodObj (.ref f) (.ref y))
    exact k a _ (.inl rfl) e
  | ext φ => obtain ⟨p, ⟨o, e⟩, st⟩ := x; exact ⟨st _ _ p fun o q => k _ _ (.inl rfl) q, ⟨o, k _ _ (.inl rfl) e⟩, st⟩
theorem HOk.lt (x : HOk P w H h) (e : H a = some o) : a < h.objs.size := (x a o e).lt
theorem HOk.fresh (x : HOk P w H h) (e : h.objs.size ≤ a) : H a = none := by
  cases q : H a with
  | none => rfl
  | some u => exact absurd (Nat.lt_of_lt_of_le (x.lt q) e) (Nat.lt_irrefl _)
theorem HOk.kept (x : HOk P w H h) (k : ∀ b u, h.get? b = some u → h'.get? b = some u) : HOk P w H h' := fun a o e =>
  (x a o e).stay (fun b u _ q => k b u q) (fun _ q => q) fun _ _ q => q
theorem HOk.laid (x : HOk P w H h) (k : ∀ b u, h.get? b = some u → h'.get? b = some u) (hp : h.objs.size ≤ a) (new : ObjOk P w (upd H a o) h' a o) : HOk P w (upd H a o) h' := fun b u e => by
  have hn := x.fresh hp
  by_cases hb : b = a
  · subst hb; rw [upd_same] at e; cases e; exact new
  · rw [upd_ne hb] at e
    exact (x b u e).stay (fun c v _ q => k c v q) (fun c q => by rw [upd_ne (ne_of_none q hn)]; exact q) fun c xs q => by rw [upd_ne (ne_of_none q hn)]; exact q
end
def Rd (H : Hp) (a : Addr) (u : HO) : Prop := H a = some u ∨ ∃ o, H a = some (.frz o u)
theorem Rd.ok {P : Program} {w : World} {H : Hp} {h : Heap} {a : Addr} {u : HO} (r : Rd H a u) (x : HOk P w H h) : ObjOk P w H h a u := by
  rcases r with r | ⟨o, r⟩
  · exact x a u r
  · obtain ⟨_, q⟩ := x a _ r
    exact q
def Mut : Option HO → Prop
  | some (.lst _) => True
  | some (.dK _) => True
  | some (.dT _) => True
  | some (.set _ _) => True
  | some (.ins _ _ _) => True
  | some (.ext _) => True
  | _ => False
section
variable {P : Program} {w : World} {H : Hp} {h h' : Heap} {x e : Addr} {o' : HO}
theorem HOk.write (ok : HOk P w H h) (mu : Mut (H x)) (he : e = x ∨ H e = some (.own x)) (k : ∀ b u, b ≠ e → h.get? b = some u → h'.get? b = some u) (heo : ∃ u, h'.get? e = some u)
    (new : ObjOk P w (upd H x o') h' x o') : HOk P w (upd H x o') h' := fun b u q => by
  have nown : ∀ c y, H c = some (.own y) → c ≠ x := fun c y r z => by subst z; rw [r] at mu; exact mu
  have ntup : ∀ c xs, H c = some (.tup xs) → c ≠ x := fun c xs r z => by subst z; rw [r] at mu; exact mu
  by_cases hb : b = x
  · subst hb; rw [upd_same] at q; cases q; exact new
  · rw [upd_ne hb] at q
    by_cases hbe : b = e
    · have q' : H b = some (.own x) := by
        rcases he with z | z
        · exact absurd (hbe.trans z) hb
        · rw [hbe]; exact z
      rw [q] at q'; cases q'
      obtain ⟨v, hv⟩ := heo
      exact ⟨v, by rw [hbe]; exact hv⟩
    · refine (ok b u q).stay (fun c v hc r => k c v ?_ r) (fun c r => by rw [upd_ne (nown c b r)]; exact r) fun c xs r => by rw [upd_ne (ntup c xs r)]; exact r
      rcases hc with rfl | hc
      · exact hbe
      · rintro rfl
        rcases he with z | z
        · exact nown c b hc z
        · rw [hc] at z; cases z; exact hb rfl
end
structure Un (fs ex : List Addr) (H H' : Hp) (h h' : Heap) : Prop where
  keep : ∀ b o, h.get? b = some o → H b = none → b ∉ fs → b ∉ ex → h'.get? b = some o
  slot : ∀ b o, h.get? b = some o → H b = none → b ∈ fs → b ∉ ex → ∃ sl, h'.get? b = some { o with slots := sl }
  free : ∀ b o, h.get? b = some o → H b = none → b ∉ ex → H' b = none
  there : ∀ b o, h.get? b = some o → b ∉ ex → ∃ o', h'.get? b = some o'
  tups : ∀ b xs, H b = some (.tup xs) → H' b = some (.tup xs)
  frzs : ∀ b o u, H b = some (.frz o u) → H' b = some (.frz o u)
  tbls : ∀ b ps, H b = some (.tbl ps) → ∃ more, H' b = some (.tbl (ps ++ more))
section
variable {fs fs' ex ex' : List Addr} {H H1 H2 : Hp} {h h1 h2 h' : Heap} {a x e : Addr} {o : HO}
theorem Un.any (u : Un fs ex H H1 h h1) {b : Addr} {ob : Obj} (q : h.get? b = some ob) (n : H b = none) (hx : b ∉ ex) : ∃ sl, h1.get? b = some { ob with slots := sl } := by
  by_cases hb : b ∈ fs
  · exact u.slot b ob q n hb hx
  · exact ⟨ob.slots, u.keep b ob q n hb hx⟩
theorem Un.kept (k : ∀ b u, h.get? b = some u → h'.get? b = some u) : Un fs ex H H h h' :=
  ⟨fun b ob q _ _ _ => k b ob q, fun b ob q _ _ _ => ⟨ob.slots, k b ob q⟩, fun _ _ _ n _ => n, fun b ob q _ => ⟨ob, k b ob q⟩, fun _ _ q => q, fun _ _ _ q => q, fun _ ps q => ⟨#[], by rw [q]; simp⟩⟩
theorem Un.refl : Un fs ex H H h h := Un.kept fun _ _ q => q
theorem Un.laid (k : ∀ b u, h.get? b = some u → h'.get? b = some u) (hp : h.objs.size ≤ a) (hn : H a = none) : Un fs ex H (upd H a o) h h' where
  keep := fun b u q _ _ _ => k b u q
  slot := fun b u q _ _ _ => ⟨u.slots, k b u q⟩
  free := fun b u q n _ => by rw [upd_ne (Nat.ne_of_lt (Nat.lt_of_lt_of_le (Heap.lt_size q) hp))]; exact n
  there := fun b u q _ => ⟨u, k b u q⟩
  tups := fun b xs q => by rw [upd_ne (ne_of_none q hn)]; exact q
  frzs := fun b u xs q => by rw [upd_ne (ne_of_none q hn)]; exact q
  tbls := fun b ps q => ⟨#[], by rw [upd_ne (ne_of_none q hn), q]; simp⟩
theorem Un.write (mu : Mut (H x)) (he : e = x ∨ H e = some (.own x)) (k : ∀ b u, b ≠ e → h.get? b = some u → h'.get? b = some u) (heo : ∃ u, h'.get? e = some u) : Un fs ex H (upd H x o) h h' := by
  have hx : ∀ b, H b = none → b ≠ x := fun b n z => by subst z; rw [n] at mu; exact mu
  have hb : ∀ b, H b = none → b ≠ e := fun b n z => by
    subst z
    rcases he with r | r
    · exact hx b n r
    · rw [n] at r; cases r
  have hm : ∀ b u, H b = some u → ¬ Mut (some u) → b ≠ x := fun b u q nm z => by subst z; rw [q] at mu; exact nm mu
  refine ⟨fun b u q n _ _ => k b u (hb b n) q, fun b u q n _ _ => ⟨u.slots, k b u (hb b n) q⟩, fun b u q n _ => by rw [upd_ne (hx b n)]; exact n, fun b u q _ => ?_,
    fun b xs q => by rw [upd_ne (hm b _ q fun z => z)]; exact q, fun b u xs q => by rw [upd_ne (hm b _ q fun z => z)]; exact q, fun b ps q => ⟨#[], by rw [upd_ne (hm b _ q fun z => z), q]; simp⟩⟩
  by_cases hbe : b = e
  · subst hbe; exact heo
  · exact ⟨u, k b u hbe q⟩
end
def trk (h : Heap) (H : Hp) : List Addr := (List.range h.objs.size).filter fun a => (H a).isSome
def hidT (h : Heap) (H : Hp) : Heap := PySem.W.hideAll h (trk h H)
theorem hidT_size (h : Heap) (H : Hp) : (hidT h H).objs.size = h.objs.size := PySem.W.hideAll_size _ _
theorem hidT_get {h : Heap} {H : Hp} {b : Addr} {o : Obj} (e : h.get? b = some o) (n : H b = none) : (hidT h H).get? b = some o :=
  PySem.W.hideAll_get _ e fun hm => by
    have q : (H b).isSome = true := (List.mem_filter.mp hm).2
    rw [n] at q; simp at q
theorem of_hidT {h : Heap} {H : Hp} {b : Addr} {o : Obj} (e : (hidT h H).get? b = some o) : h.get? b = some o ∧ H b = none := by
  have e' : h.get? b = some o := PySem.W.of_hideAll (trk h H) e
  refine ⟨e', ?_⟩
  cases q : H b with
  | none => rfl
  | some x =>
    have hm : b ∈ trk h H := List.mem_filter.mpr ⟨List.mem_range.mpr (Heap.lt_size e'), by simp [q]⟩
    have z : (hidT h H).get? b = none := PySem.W.hideAll_none (trk h H) hm
    rw [z] at e; cases e
end L2
namespace L2
open PySem PySem.Spec PyProof.Rows
structure Mod (K : PySem.W.Frag) (mg : Str → Option Value) (base : Heap) : Prop where
  kin : K.In base
  glob : base.Ns mainGlobals mg
  blt : ∃ mb, base.Ns builtinsNs mb ∧ ∀ x : Str, x ≠ "__name__" → mb x = bootBuiltins x
  nolimit : base.NoLimit
structure Cx where
  prog : Program
  w : World
  K : PySem.W.Frag
  mg : Str → Option Value
  base : Heap
  A : Around
  N : List Str
  s₀ : Shared
  H₀ : Hp
  env : Env
  outer : List Env
  stack : List Env
  ex : List Addr
  fn : Str → Bool
  calm : Bool
  pn : List (Addr × Obj)
  xe : Value → Shared → Prop
def frs (l : List Env) : List Addr := l.filterMap (·.frame)
abbrev Cx.fs (X : Cx) : List Addr := frs X.outer
def Vis (sc : Scope) (x : Str) : Prop := sc.names.lookup x = some .local ∨ sc.names.lookup x = some .cell ∨ sc.names.lookup x = some .free
def Loc (sc : Scope) (x : Str) : Prop := sc.names.lookup x = some .local ∨ sc.names.lookup x = some .cell
def Look (env : Env) (h : Heap) (m : Str → Option Value) (x : Str) (u : Value) : Prop :=
  (env.kindOf x = some .local ∧ m x = some u) ∨ ((env.kindOf x = some .cell ∨ env.kindOf x = some .free) ∧ ∃ c, env.cells.lookup x = some c ∧ h.IsCell c (some u))
structure Cx.Ok (X : Cx) : Prop where
  mod : Mod X.K X.mg X.base
  kind : X.env.scope.kind = .function
  glob : X.env.globals = mainGlobals
  blt : X.env.builtins = builtinsNs
  above : X.s₀.heap.objs.size ≤ X.env.locals
  inj : ∀ x y c, X.env.cells.lookup x = some c → X.env.cells.lookup y = some c → x = y
  has : ∀ x, (X.env.kindOf x = some .cell ∨ X.env.kindOf x = some .free) → ∃ c, X.env.cells.lookup x = some c
  cab : ∀ x c, X.fn x = true → X.env.cells.lookup x = some c → X.s₀.heap.objs.size ≤ c
  hd : X.calm = true → X.A.handled = none
  frames : X.A.frames = some X.stack
  stk : X.stack = X.outer ∨ (X.stack = X.env :: X.outer ∧ X.env.frame = some X.env.locals)
  exf : ∀ b ∈ X.ex, b ≠ X.env.locals ∧ ∀ x c, X.env.cells.lookup x = some c → c ≠ b
  bs : ∀ b o, X.base.get? b = some o → X.s₀.heap.get? b = some o ∧ X.H₀ b = none
  bsz : X.base.objs.size ≤ X.s₀.heap.objs.size
  noex : ∀ b o, X.base.get? b = some o → b ∉ X.ex
  exfs : ∀ b ∈ X.ex, b ∉ X.fs
  funs : X.s₀.heap.FunFrames X.base X.outer
  frf : ∀ b ∈ X.fs, X.H₀ b = none
structure Inv (X : Cx) (pins : List (Addr × Obj)) (σ : List (Option V)) (H : Hp) (s : Shared) : Prop where
  ok : X.Ok
  os : s.os = X.s₀.os
  bare : AllBare s.gens
  base : Un X.fs X.ex X.H₀ H X.s₀.heap s.heap
  loc : ∃ m, s.heap.Ns X.env.locals m ∧ ∀ (i : Nat) (x : Str) (v : V), X.N[i]? = some x → σ[i]? = some (some v) → Vis X.env.scope x → ∃ u, RelV v u ∧ Look X.env s.heap m x u
  cell : ∀ x c, X.env.cells.lookup x = some c → ∃ v, s.heap.IsCell c v
  free : H X.env.locals = none
  freeC : ∀ x c, X.env.cells.lookup x = some c → H c = none
  pin : ∀ p ∈ X.pn ++ pins, s.heap.get? p.1 = some p.2 ∧ H p.1 = none ∧ p.1 ≠ X.env.locals ∧ p.1 ∉ X.fs ∧ ∀ v, p.2.data ≠ .cell v
  hok : HOk X.prog X.w H s.heap
  len : σ.length = X.N.length
section
variable {X : Cx} {pins : List (Addr × Obj)} {σ : List (Option V)} {H H' : Hp} {s : Shared} {h' : Heap}
theorem Cx.Ok.nofr (ok : X.Ok) {b : Addr} {o : Obj} (e : X.base.get? b = some o) : b ∉ X.fs := fun hb => by
  have := (ok.funs.mem hb).1
  rw [e] at this; cases this
theorem Inv.bs (I : Inv X pins σ H s) : ∀ b o, X.base.get? b = some o → s.heap.get? b = some o ∧ H b = none := fun b o e =>
  ⟨I.base.keep b o (I.ok.bs b o e).1 (I.ok.bs b o e).2 (I.ok.nofr e) (I.ok.noex b o e), I.base.free b o (I.ok.bs b o e).1 (I.ok.bs b o e).2 (I.ok.noex b o e)⟩
theorem Inv.bk (I : Inv X pins σ H s) : ∀ b o, X.base.get? b = some o → s.heap.get? b = some o := fun b o e => (I.bs b o e).1
theorem Inv.mod (I : Inv X pins σ H s) : Mod X.K X.mg X.base := I.ok.mod
theorem Inv.kIn (I : Inv X pins σ H s) : X.K.In s.heap := I.ok.mod.kin.keeps I.bk
theorem Inv.lt (I : Inv X pins σ H s) : X.env.locals < s.heap.objs.size := let ⟨_, hn, _⟩ := I.loc; hn.lt
theorem Inv.sz (I : Inv X pins σ H s) : X.s₀.heap.objs.size ≤ s.heap.objs.size := Nat.le_trans I.ok.above (Nat.le_of_lt I.lt)
theorem Inv.nofs (I : Inv X pins σ H s) {a : Addr} (h : s.heap.objs.size ≤ a) : a ∉ X.fs := fun hb => by
  obtain ⟨_, o, ho, _⟩ := I.ok.funs.mem hb
  exact absurd (Nat.lt_of_lt_of_le (Heap.lt_size ho) (Nat.le_trans I.sz h)) (Nat.lt_irrefl _)
theorem Inv.cne (I : Inv X pins σ H s) : ∀ x c, X.env.cells.lookup x = some c → c ≠ X.env.locals := fun x c e z => by
  obtain ⟨v, o, ho, hd⟩ := I.cell x c e
  obtain ⟨m, ⟨o', es, ep, ho', hd', _⟩, _⟩ := I.loc
  rw [z, ho'] at ho; cases ho; rw [hd'] at hd; cases hd
theorem Inv.funs (I : Inv X pins σ H s) : s.heap.FunFrames X.base X.outer := by
  have all : ∀ (l : List Env), (∀ b ∈ frs l, b ∈ X.fs) → X.s₀.heap.FunFrames X.base l → s.heap.FunFrames X.base l := by
    intro l
    induction l with
    | nil => intro _ _; trivial
    | cons env r ih =>
      intro hs hl
      obtain ⟨hk, ⟨L, o, hf, hn, ho, hd⟩, hr⟩ := hl
      have hL : L ∈ X.fs := hs L (by unfold frs; rw [List.filterMap_cons, hf]; exact List.mem_cons_self)
      obtain ⟨sl, e⟩ := I.base.slot L o ho (I.ok.frf L hL) hL fun z => I.ok.exfs L z hL
      exact ⟨hk, ⟨L, _, hf, hn, e, hd⟩, ih (fun b hb => hs b (by unfold frs; rw [List.filterMap_cons, hf]; exact List.mem_cons_of_mem _ hb)) hr⟩
  exact all X.outer (fun _ hb => hb) I.ok.funs
theorem Inv.stack (I : Inv X pins σ H s) : s.heap.FunFrames X.base X.stack := by
  rcases I.ok.stk with e | ⟨e, hf⟩
  · rw [e]; exact I.funs
  · rw [e]
    obtain ⟨m, hn, _⟩ := I.loc
    refine .cons (by rw [I.ok.kind]; decide) hf hn ?_ I.funs
    exact Heap.get?_none_of_le (Nat.le_trans I.ok.bsz I.ok.above)
theorem Inv.stkSub (I : Inv X pins σ H s) : ∀ b ∈ frs X.stack, b ∈ X.env.locals :: X.fs := fun b hb => by
  rcases I.ok.stk with e | ⟨e, hf⟩
  · rw [e] at hb; exact List.mem_cons_of_mem _ hb
  · rw [e] at hb
    unfold frs at hb
    rw [List.filterMap_cons, hf] at hb
    exact hb
theorem Inv.stkFree (I : Inv X pins σ H s) : ∀ b ∈ frs X.stack, H b = none := fun b hb => by
  rcases List.mem_cons.mp (I.stkSub b hb) with e | hb
  · rw [e]; exact I.free
  · obtain ⟨_, o, ho, _⟩ := I.ok.funs.mem hb
    exact I.base.free b o ho (I.ok.frf b hb) fun z => I.ok.exfs b z hb
theorem Inv.step {g' : Array GenState} {t' : Nat} {d' : Drawn} {ch : List Addr} (I : Inv X pins σ H s)
    (hch : ∀ b ∈ ch, (b ∈ X.ex ∨ X.s₀.heap.objs.size ≤ b) ∧ b ≠ X.env.locals ∧ (∀ x c, X.env.cells.lookup x = some c → c ≠ b) ∧ ∀ p ∈ X.pn ++ pins, p.1 ≠ b)
    (keep : ∀ b o, b ≠ X.env.locals → b ∉ X.fs → b ∉ ch → s.heap.get? b = some o → H b = none → h'.get? b = some o)
    (slot : ∀ b o, b ≠ X.env.locals → b ∈ X.fs → b ∉ ch → s.heap.get? b = some o → H b = none → ∃ sl, h'.get? b = some { o with slots := sl }) (free : ∀ b o, b ∉ ch → s.heap.get? b = some o → H b = none → H' b = none)
    (there : ∀ b o, b ∉ ch → s.heap.get? b = some o → ∃ o', h'.get? b = some o')
    (tups : ∀ b xs, H b = some (.tup xs) → H' b = some (.tup xs)) (frzs : ∀ b o u, H b = some (.frz o u) → H' b = some (.frz o u)) (tbls : ∀ b ps, H b = some (.tbl ps) → ∃ more, H' b = some (.tbl (ps ++ more)))
    (ns : ∀ m, s.heap.Ns X.env.locals m → h'.Ns X.env.locals m) (hok : HOk X.prog X.w H' h') (hg : AllBare g') :
    Inv X pins σ H' { s with heap := h', gens := g', drawn := d', toks := t' } := by
  have neL : ∀ b o, X.s₀.heap.get? b = some o → b ≠ X.env.locals := fun b o e => Nat.ne_of_lt (Nat.lt_of_lt_of_le (Heap.lt_size e) I.ok.above)
  have neC : ∀ b o, X.s₀.heap.get? b = some o → b ∉ X.ex → b ∉ ch := fun b o e hx hb => by
    rcases (hch b hb).1 with z | z
    · exact hx z
    · exact absurd (Nat.lt_of_lt_of_le (Heap.lt_size e) z) (Nat.lt_irrefl _)
  have cellK : ∀ x c, X.env.cells.lookup x = some c → ∀ v, s.heap.IsCell c v → h'.IsCell c v := fun x c e v ⟨o, ho, hd⟩ => by
    have nch : c ∉ ch := fun z => (hch c z).2.2.1 x c e rfl
    by_cases hc : c ∈ X.fs
    · obtain ⟨sl, q⟩ := slot c o (I.cne x c e) hc nch ho (I.freeC x c e)
      exact ⟨_, q, hd⟩
    · exact ⟨o, keep c o (I.cne x c e) hc nch ho (I.freeC x c e), hd⟩
  refine ⟨I.ok, I.os, hg, ⟨fun b o e n hb hx => ?_, fun b o e n hb hx => ?_, fun b o e n hx => ?_, fun b o e hx => ?_, fun b xs e => tups b xs (I.base.tups b xs e), fun b o xs e => frzs b o xs (I.base.frzs b o xs e), fun b ps e => ?_⟩, ?_, fun x c e => ?_, ?_, fun x c e => ?_, fun p hp => ?_, hok, I.len⟩
  · exact keep b o (neL b o e) hb (neC b o e hx) (I.base.keep b o e n hb hx) (I.base.free b o e n hx)
  · obtain ⟨sl, e1⟩ := I.base.slot b o e n hb hx
    obtain ⟨sl', e2⟩ := slot b _ (neL b o e) hb (neC b o e hx) e1 (I.base.free b o e n hx)
    exact ⟨sl', e2⟩
  · obtain ⟨o', e1⟩ := I.base.there b o e hx
    exact free b o' (neC b o e hx) e1 (I.base.free b o e n hx)
  · obtain ⟨o', e1⟩ := I.base.there b o e hx
    exact there b o' (neC b o e hx) e1
  · obtain ⟨m1, e1⟩ := I.base.tbls b ps e
    obtain ⟨m2, e2⟩ := tbls b _ e1
    exact ⟨m1 ++ m2, by rw [e2, Array.append_assoc]⟩
  · obtain ⟨m, hn, hl⟩ := I.loc
    refine ⟨m, ns m hn, fun i x v e1 e2 e3 => ?_⟩
    obtain ⟨u, r, l⟩ := hl i x v e1 e2 e3
    refine ⟨u, r, ?_⟩
    rcases l with l | ⟨k, c, e, z⟩
    · exact .inl l
    · exact .inr ⟨k, c, e, cellK x c e _ z⟩
  · obtain ⟨v, z⟩ := I.cell x c e
    exact ⟨v, cellK x c e v z⟩
  · obtain ⟨m, ⟨o, _, _, ho, _⟩, _⟩ := I.loc
    exact free _ o (fun z => (hch _ z).2.1 rfl) ho I.free
  · obtain ⟨v, o, ho, hd⟩ := I.cell x c e
    exact free c o (fun z => (hch c z).2.2.1 x c e rfl) ho (I.freeC x c e)
  · obtain ⟨e, n, ne, nf, d⟩ := I.pin p hp
    have nch : p.1 ∉ ch := fun z => (hch p.1 z).2.2.2 p hp rfl
    exact ⟨keep p.1 p.2 ne nf nch e n, free p.1 p.2 nch e n, ne, nf, d⟩
theorem Inv.un {t' : Nat} (I : Inv X pins σ H s) (u : Un X.fs [] H H' s.heap h') (hok : HOk X.prog X.w H' h') : Inv X pins σ H' { s with heap := h', toks := t' } := by
  obtain ⟨m, ⟨o, es, ep, ho, r⟩, _⟩ := id I.loc
  obtain ⟨sl, hL⟩ := u.any ho I.free (by simp)
  exact I.step (g' := s.gens) (d' := s.drawn) (ch := []) (fun _ z => nomatch z) (fun b o _ hb _ e n => u.keep b o e n hb (by simp)) (fun b o _ hb _ e n => u.slot b o e n hb (by simp)) (fun b o _ e n => u.free b o e n (by simp)) (fun b o _ e => u.there b o e (by simp)) u.tups u.frzs u.tbls (fun m' hm => by
    obtain ⟨o', es', ep', ho', r'⟩ := hm
    rw [ho] at ho'; cases ho'
    exact ⟨_, es', ep', hL, r'⟩) hok I.bare
theorem Inv.call {g' : Array GenState} {t' : Nat} {d' : Drawn} {ch : List Addr} (I : Inv X pins σ H s) (u : Un (frs X.stack) ch H H' s.heap h') (hok : HOk X.prog X.w H' h') (hg : AllBare g')
    (hch : ∀ b ∈ ch, (b ∈ X.ex ∨ X.s₀.heap.objs.size ≤ b) ∧ b ≠ X.env.locals ∧ (∀ x c, X.env.cells.lookup x = some c → c ≠ b) ∧ ∀ p ∈ X.pn ++ pins, p.1 ≠ b) :
    Inv X pins σ H' { s with heap := h', gens := g', drawn := d', toks := t' } := by
  obtain ⟨m, ⟨o, es, ep, ho, r⟩, _⟩ := id I.loc
  obtain ⟨sl, hL⟩ := u.any ho I.free fun z => (hch _ z).2.1 rfl
  exact I.step (ch := ch) hch (fun b o hL hb hc e n => u.keep b o e n (fun z => (List.mem_cons.mp (I.stkSub b z)).elim hL hb) hc) (fun b o _ _ hc e n => u.any e n hc) (fun b o hc e n => u.free b o e n hc) (fun b o hc e => u.there b o e hc) u.tups u.frzs u.tbls (fun m' hm => by
    obtain ⟨o', es', ep', ho', r'⟩ := hm
    rw [ho] at ho'; cases ho'
    exact ⟨_, es', ep', hL, r'⟩) hok hg
theorem Inv.turned {t' : Nat} {it : Addr} (I : Inv X pins σ H s) (k : ∀ b o, b ≠ it → s.heap.get? b = some o → h'.get? b = some o) (hn : H it = none) (hL : it ≠ X.env.locals)
    (h1 : it ∈ X.ex ∨ X.s₀.heap.objs.size ≤ it) (h2 : ∀ x c, X.env.cells.lookup x = some c → c ≠ it) (h3 : ∀ p ∈ X.pn ++ pins, p.1 ≠ it) : Inv X pins σ H { s with heap := h', toks := t' } := by
  have nit : ∀ b u, H b = some u → b ≠ it := fun b u e z => by rw [z, hn] at e; cases e
  refine I.step (g' := s.gens) (d' := s.drawn) (ch := [it]) (fun b hb => ?_) (fun b o _ _ hc e _ => k b o (fun z => hc (by simp [z])) e) (fun b o _ _ hc e _ => ⟨o.slots, k b o (fun z => hc (by simp [z])) e⟩) (fun _ _ _ _ n => n)
    (fun b o hc e => ⟨o, k b o (fun z => hc (by simp [z])) e⟩) (fun _ _ e => e) (fun _ _ _ e => e) (fun b ps e => ⟨#[], by rw [e]; simp⟩) (fun m hm => ?_) (fun b u e => ?_) I.bare
  · have e : b = it := by simpa using hb
    subst e
    exact ⟨h1, hL, h2, h3⟩
  · obtain ⟨o, es, ep, ho, r⟩ := hm
    exact ⟨o, es, ep, k _ o (Ne.symm hL) ho, r⟩
  · refine (I.hok b u e).stay (fun c v hc q => k c v ?_ q) (fun _ q => q) fun _ _ q => q
    rcases hc with z | z
    · rw [z]; exact nit b u e
    · exact nit c _ z
theorem Inv.tok (I : Inv X pins σ H s) (t : Nat) : Inv X pins σ H { s with toks := t } := I.un (h' := s.heap) (t' := t) Un.refl I.hok
theorem Inv.kept {t' : Nat} (I : Inv X pins σ H s) (k : ∀ b u, s.heap.get? b = some u → h'.get? b = some u) : Inv X pins σ H { s with heap := h', toks := t' } := I.un (Un.kept k) (I.hok.kept k)
theorem Inv.laid {a : Addr} {o : HO} {t' : Nat} (I : Inv X pins σ H s) (k : ∀ b u, s.heap.get? b = some u → h'.get? b = some u) (hp : s.heap.objs.size ≤ a) (new : ObjOk X.prog X.w (upd H a o) h' a o) :
    Inv X pins σ (upd H a o) { s with heap := h', toks := t' } := I.un (Un.laid k hp (I.hok.fresh hp)) (I.hok.laid k hp new)
theorem Inv.write {x e : Addr} {o : HO} {t' : Nat} (I : Inv X pins σ H s) (mu : Mut (H x)) (he : e = x ∨ H e = some (.own x)) (k : ∀ b u, b ≠ e → s.heap.get? b = some u → h'.get? b = some u) (heo : ∃ u, h'.get? e = some u)
    (new : ObjOk X.prog X.w (upd H x o) h' x o) : Inv X pins σ (upd H x o) { s with heap := h', toks := t' } := I.un (Un.write mu he k heo) (I.hok.write mu he k heo new)
theorem Inv.weak {σ' : List (Option V)} (I : Inv X pins σ H s) (hl : σ'.length = σ.length) (w : ∀ (i : Nat) v, σ'[i]? = some (some v) → σ[i]? = some (some v)) : Inv X pins σ' H s :=
  ⟨I.ok, I.os, I.bare, I.base, let ⟨m, hn, hl'⟩ := I.loc; ⟨m, hn, fun i x v e1 e2 e3 => hl' i x v e1 (w i v e2) e3⟩, I.cell, I.free, I.freeC, I.pin, I.hok, hl.trans I.len⟩
theorem Inv.pins_of {pins' : List (Addr × Obj)} (I : Inv X pins σ H s) (h : ∀ p ∈ pins', s.heap.get? p.1 = some p.2 ∧ H p.1 = none ∧ p.1 ≠ X.env.locals ∧ p.1 ∉ X.fs ∧ ∀ v, p.2.data ≠ .cell v) : Inv X pins' σ H s :=
  ⟨I.ok, I.os, I.bare, I.base, I.loc, I.cell, I.free, I.freeC, fun p hp => (List.mem_append.mp hp).elim (fun z => I.pin p (List.mem_append_left _ z)) (h p), I.hok, I.len⟩
theorem nodup_ix {N : List Str} (hN : N.Nodup) {i j : Nat} {x : Str} (a : N[i]? = some x) (b : N[j]? = some x) : i = j := by
  obtain ⟨h1, e1⟩ := List.getElem?_eq_some_iff.mp a
  obtain ⟨h2, e2⟩ := List.getElem?_eq_some_iff.mp b
  exact (List.getElem_inj hN).mp (e1.trans e2.symm)
theorem store_ok2 {M : Model} {A : Around} {E : Value → Shared → Prop} {i : Nat} {x : Str} {v : V} {u : Value} {Q : Unit → Shared → Prop} (I : Inv X pins σ H s) (hN : X.N.Nodup) (hi : X.N[i]? = some x) (hx : Loc X.env.scope x) (r : RelV v u)
    (h : ∀ s', Inv X pins (σ.set i (some v)) H s' → (∃ a, Heap.SameBut a s.heap s'.heap ∧ (a = X.env.locals ∨ X.env.cells.lookup x = some a)) → Q () s') (hf : X.fn x = true ∨ X.env.scope.names.lookup x = some .local := by first | exact .inl rfl | exact .inr rfl | assumption) : wpAny M A (storeName X.env x u) Q E s := by
  obtain ⟨m, hn, hl⟩ := id I.loc
  have hcls : (X.env.scope.kind == .class || (X.env.scope.kind == .module && X.env.locals != X.env.globals)) = false := by rw [I.ok.kind]; rfl
  have hiσ : i < σ.length := by rw [I.len]; exact (List.getElem?_eq_some_iff.mp hi).1
  have cne := I.cne
  have tracked : ∀ {a : Addr} {h' : Heap}, (∃ o, s.heap.get? a = some o ∧ H a = none) → Heap.SameBut a s.heap h' → HOk X.prog X.w H h' := fun {a h'} ha hs b ob e => by
    obtain ⟨_, _, hfree⟩ := ha
    refine (I.hok b ob e).stay (fun c w' hc q => (hs.2 c ?_).trans q) (fun _ q => q) fun _ _ q => q
    rintro rfl
    rcases hc with rfl | hc
    · rw [hfree] at e; cases e
    · rw [hfree] at hc; cases hc
  rcases hx with hk | hk
  · refine wpAny_storeName_local hk hn (fun h' hn' hs => ?_) hcls
    obtain ⟨oL, _, _, hoL, _⟩ := id hn
    refine h _ ⟨I.ok, I.os, I.bare, ⟨fun b o e n hb hx => ?_, fun b o e n hb hx => ?_, I.base.free, fun b o e hx => ?_, I.base.tups, I.base.frzs, I.base.tbls⟩, ⟨_, hn', fun j y v' e1 e2 e3 => ?_⟩, fun y c e => ?_, I.free, I.freeC, fun p hp => ?_, tracked ⟨oL, hoL, I.free⟩ hs, by simpa using I.len⟩ ⟨_, hs, .inl rfl⟩
    · exact (hs.2 b (Nat.ne_of_lt (Nat.lt_of_lt_of_le (Heap.lt_size e) I.ok.above))).trans (I.base.keep b o e n hb hx)
    · obtain ⟨sl, e1⟩ := I.base.slot b o e n hb hx
      exact ⟨sl, (hs.2 b (Nat.ne_of_lt (Nat.lt_of_lt_of_le (Heap.lt_size e) I.ok.above))).trans e1⟩
    · obtain ⟨o', e1⟩ := I.base.there b o e hx
      exact ⟨o', (hs.2 b (Nat.ne_of_lt (Nat.lt_of_lt_of_le (Heap.lt_size e) I.ok.above))).trans e1⟩
    · by_cases hj : j = i
      · subst hj
        rw [hi] at e1; cases e1
        rw [List.getElem?_set_self hiσ] at e2
        cases e2
        exact ⟨u, r, .inl ⟨hk, by simp⟩⟩
      · rw [List.getElem?_set_ne (Ne.symm hj)] at e2
        obtain ⟨u', r', q⟩ := hl j y v' e1 e2 e3
        refine ⟨u', r', ?_⟩
        rcases q with ⟨k, e⟩ | ⟨k, c, e, z⟩
        · refine .inl ⟨k, ?_⟩
          have : y ≠ x := fun e => hj (nodup_ix hN e1 (e ▸ hi))
          simp [this, e]
        · exact .inr ⟨k, c, e, z.sameBut hs (cne y c e)⟩
    · obtain ⟨w', z⟩ := I.cell y c e
      exact ⟨w', z.sameBut hs (cne y c e)⟩
    · obtain ⟨e, n, ne, nf, d⟩ := I.pin p hp
      exact ⟨(hs.2 p.1 ne).trans e, n, ne, nf, d⟩
  · have hfn : X.fn x = true := by
      rcases hf with z | z
      · exact z
      · rw [z] at hk; cases hk
    obtain ⟨c, hc⟩ := I.ok.has x (.inl hk)
    obtain ⟨w', z⟩ := I.cell x c hc
    refine wpAny_storeName_cell I.ok.kind hk hc z (fun h' hc' hs => ?_)
    obtain ⟨oc, hoc, hocd⟩ := id z
    refine h { s with heap := h' } ⟨I.ok, I.os, I.bare, ⟨fun b o e n hb hx => ?_, fun b o e n hb hx => ?_, I.base.free, fun b o e hx => ?_, I.base.tups, I.base.frzs, I.base.tbls⟩, ⟨m, hn.sameBut hs (Ne.symm (cne x c hc)), fun j y v' e1 e2 e3 => ?_⟩, fun y c' e => ?_, I.free, I.freeC, fun p hp => ?_, tracked ⟨oc, hoc, I.freeC x c hc⟩ hs, by simpa using I.len⟩ ⟨c, hs, .inr hc⟩
    · exact (hs.2 b (Nat.ne_of_lt (Nat.lt_of_lt_of_le (Heap.lt_size e) (I.ok.cab x c hfn hc)))).trans (I.base.keep b o e n hb hx)
    · obtain ⟨sl, e1⟩ := I.base.slot b o e n hb hx
      exact ⟨sl, (hs.2 b (Nat.ne_of_lt (Nat.lt_of_lt_of_le (Heap.lt_size e) (I.ok.cab x c hfn hc)))).trans e1⟩
    · obtain ⟨o', e1⟩ := I.base.there b o e hx
      exact ⟨o', (hs.2 b (Nat.ne_of_lt (Nat.lt_of_lt_of_le (Heap.lt_size e) (I.ok.cab x c hfn hc)))).trans e1⟩
    · by_cases hj : j = i
      · subst hj
        rw [hi] at e1; cases e1
        rw [List.getElem?_set_self hiσ] at e2
        cases e2
        exact ⟨u, r, .inr ⟨.inl hk, c, hc, hc'⟩⟩
      · rw [List.getElem?_set_ne (Ne.symm hj)] at e2
        obtain ⟨u', r', q⟩ := hl j y v' e1 e2 e3
        refine ⟨u', r', ?_⟩
        rcases q with q | ⟨k, c', e, z'⟩
        · exact .inl q
        · refine .inr ⟨k, c', e, z'.sameBut hs ?_⟩
          rintro rfl
          exact hj (nodup_ix hN e1 (I.ok.inj _ _ _ e hc ▸ hi))
    · by_cases hcc : c' = c
      · subst hcc; exact ⟨_, hc'⟩
      · obtain ⟨w2, z2⟩ := I.cell y c' e
        exact ⟨w2, z2.sameBut hs hcc⟩
    · obtain ⟨e, n, ne, nf, d⟩ := I.pin p hp
      refine ⟨(hs.2 p.1 ?_).trans e, n, ne, nf, d⟩
      intro q
      rw [q, hoc] at e
      have q' : oc = p.2 := Option.some.inj e
      exact d w' (by rw [← q']; exact hocd)
theorem store_ok {M : Model} {A : Around} {E : Value → Shared → Prop} {i : Nat} {x : Str} {v : V} {u : Value} {Q : Unit → Shared → Prop} (I : Inv X pins σ H s) (hN : X.N.Nodup) (hi : X.N[i]? = some x) (hx : Loc X.env.scope x) (r : RelV v u)
    (h : ∀ s', Inv X pins (σ.set i (some v)) H s' → Q () s') (hf : X.fn x = true ∨ X.env.scope.names.lookup x = some .local := by first | exact .inl rfl | exact .inr rfl | assumption) : wpAny M A (storeName X.env x u) Q E s :=
  store_ok2 I hN hi hx r (fun s' I' _ => h s' I') hf
theorem Inv.call' {s' : Shared} {ch : List Addr} (I : Inv X pins σ H s) (ho : s'.os = s.os) (u : Un (frs X.stack) ch H H' s.heap s'.heap) (hok : HOk X.prog X.w H' s'.heap) (hg : AllBare s'.gens)
    (hch : ∀ b ∈ ch, (b ∈ X.ex ∨ X.s₀.heap.objs.size ≤ b) ∧ b ≠ X.env.locals ∧ (∀ x c, X.env.cells.lookup x = some c → c ≠ b) ∧ ∀ p ∈ X.pn ++ pins, p.1 ≠ b) : Inv X pins σ H' s' := by
  obtain ⟨h', g', d', t', o'⟩ := s'
  have e : o' = s.os := ho
  subst e
  exact I.call (g' := g') (t' := t') (d' := d') u hok hg hch
end
abbrev XK := Value → Option Addr → Hp → Prop
abbrev St := List (Option V)
abbrev VK := V → Hp → Prop
abbrev TE := St → Hp → VK → Prop
abbrev TT := St → Hp → (Bool → Hp → Prop) → Prop
abbrev TA := St → Hp → (List V → Hp → Prop) → Prop
structure Ends where
  nx : St → Hp → Prop
  rt : VK
  bk : St → Hp → Prop := fun _ _ => False
  ct : St → Hp → Prop := fun _ _ => False
abbrev TS := Ends → St → Hp → Prop
def EP (X : Cx) (pins : List (Addr × Obj)) (σ : St) (Q : VK) (u : Value) (s' : Shared) : Prop := ∃ v H', Inv X pins σ H' s' ∧ RelV v u ∧ Q v H'
def TP (X : Cx) (pins : List (Addr × Obj)) (σ : St) (Q : Bool → Hp → Prop) (b : Bool) (s' : Shared) : Prop := ∃ H', Inv X pins σ H' s' ∧ Q b H'
def AP (X : Cx) (pins : List (Addr × Obj)) (σ : St) (Q : List V → Hp → Prop) (us : List Value) (s' : Shared) : Prop := ∃ vs H', Inv X pins σ H' s' ∧ Vals vs us ∧ Q vs H'
def SP (X : Cx) (pins : List (Addr × Obj)) (D : Ends) (f : Flow) (s' : Shared) : Prop :=
  match f with
  | .next => ∃ σ' H', Inv X pins σ' H' s' ∧ D.nx σ' H'
  | .brk => ∃ σ' H', Inv X pins σ' H' s' ∧ D.bk σ' H'
  | .cont => ∃ σ' H', Inv X pins σ' H' s' ∧ D.ct σ' H'
  | .ret u => ∃ v σ' H', Inv X pins σ' H' s' ∧ RelV v u ∧ D.rt v H'
def PE (X : Cx) (e : Expr) (t : TE) : Prop :=
  ∀ (pins : List (Addr × Obj)) (s : Shared) (σ : St) (H : Hp) (Q : VK), Inv X pins σ H s → t σ H Q → wpAny (model X.prog X.w) X.A (eval e X.env) (EP X pins σ Q) X.xe s
def PT (X : Cx) (e : Expr) (t : TT) : Prop :=
  ∀ (pins : List (Addr × Obj)) (s : Shared) (σ : St) (H : Hp) (Q : Bool → Hp → Prop), Inv X pins σ H s → t σ H Q → wpAny (model X.prog X.w) X.A (isTrue e X.env (eval e X.env)) (TP X pins σ Q) X.xe s
def PW (X : Cx) (e : Expr) (t : TT) : Prop :=
  ∀ (whole : Sem Value) (pins : List (Addr × Obj)) (s : Shared) (σ : St) (H : Hp) (Q : Bool → Hp → Prop), Inv X pins σ H s → t σ H Q → wpAny (model X.prog X.w) X.A (isTrue e X.env whole) (TP X pins σ Q) X.xe s
theorem PW.pt {X : Cx} {e : Expr} {t : TT} (h : PW X e t) : PT X e t := h _
def PA (X : Cx) (es : List Expr) (t : TA) : Prop :=
  ∀ (pos : Pos) (pins : List (Addr × Obj)) (s : Shared) (σ : St) (H : Hp) (Q : List V → Hp → Prop), Inv X pins σ H s → t σ H Q → wpAny (model X.prog X.w) X.A (spliced (backTo pos (starEach es X.env))) (AP X pins σ Q) X.xe s
def PS (X : Cx) (st : Stmt) (t : TS) : Prop :=
  ∀ (pins : List (Addr × Obj)) (s : Shared) (σ : St) (H : Hp) (D : Ends), Inv X pins σ H s → t D σ H → wpAny (model X.prog X.w) X.A (exec st X.env) (SP X pins D) X.xe s
def PSs (X : Cx) (st : List Stmt) (t : TS) : Prop :=
  ∀ (pins : List (Addr × Obj)) (s : Shared) (σ : St) (H : Hp) (D : Ends), Inv X pins σ H s → t D σ H → wpAny (model X.prog X.w) X.A (execs st X.env) (SP X pins D) X.xe s
theorem thn {α : Type} {t : Sem α} {Q Q' : α → Shared → Prop} {M : Model} {A : Around} {E : Value → Shared → Prop} {s : Shared} (h : wpAny M A t Q E s) (hQ : ∀ a s, Q a s → Q' a s) : wpAny M A t Q' E s := wpAny_mono h hQ fun _ _ x => x
end L2
namespace L2
open PySem PySem.Spec PyProof.Rows
section
variable {X : Cx}
def tVar (i : Nat) : TE := fun σ H Q => ∃ v, σ[i]? = some (some v) ∧ Q v H
def tC (v : V) : TE := fun _ H Q => Q v H
theorem pe_var {i : Nat} {x : Str} {pos : Pos} (hN : X.N[i]? = some x) (hv : Vis X.env.scope x) (hd : (x == ("__debug__" : Str)) = false := by decide) (hcd : (x == ("__classdict__" : Str)) = false := by decide) : PE X (.Name x pos) (tVar i) := by
  intro pins s σ H Q I h
  obtain ⟨v, e, h⟩ := h
  obtain ⟨m, hn, hl⟩ := I.loc
  obtain ⟨u, r, l⟩ := hl i x v hN e hv
  have fin : EP X pins σ Q u s := ⟨v, H, I, r, h⟩
  rcases l with ⟨hk, hm⟩ | ⟨hk, c, hc, hcell⟩
  · exact wpAny_Name (wpAny_loadName_local I.ok.kind hk hn hm fin) hd
  · rcases hk with hk | hk
    · exact wpAny_Name (wpAny_loadName_cell I.ok.kind hk hc hcell fin) hd
    · exact wpAny_Name (wpAny_loadName_free I.ok.kind hk hc hcell fin hcd) hd
theorem pe_int {i j pos} : PE X (.Constant (.int i) j pos) (tC (.int i)) := fun _ _ _ H _ I h => wpAny_Constant_int ⟨.int i, H, I.tok _, ⟨_, rfl⟩, h⟩
theorem pe_bl {b j pos} : PE X (.Constant (.bool b) j pos) (tC (.bl b)) := fun _ _ _ H _ I h => Constant_bool ⟨.bl b, H, I, rfl, h⟩
theorem pe_non {j pos} : PE X (.Constant .none j pos) (tC .non) := fun _ _ _ H _ I h => Constant_none ⟨.non, H, I, rfl, h⟩
def Gl (X : Cx) (x : Str) : Prop := X.env.kindOf x = some .globalImplicit
theorem ld_glob {E : Value → Shared → Prop} {pins : List (Addr × Obj)} {s : Shared} {σ : St} {H : Hp} {x : Str} {u : Value} {pos : Pos} {Q : Value → Shared → Prop} (I : Inv X pins σ H s) (hg : Gl X x) (hm : X.mg x = some u) (h : Q u s)
    (hd : (x == ("__debug__" : Str)) = false := by decide) : wpAny (model X.prog X.w) X.A (eval (.Name x pos) X.env) Q E s :=
  Calls.Name_function_global I.ok.kind hg (Calls.loadGlobal_global (by rw [I.ok.glob]; exact I.mod.glob.keeps I.bk) hm h) hd
theorem ld_blt {E : Value → Shared → Prop} {pins : List (Addr × Obj)} {s : Shared} {σ : St} {H : Hp} {x : Str} {u : Value} {pos : Pos} {Q : Value → Shared → Prop} (I : Inv X pins σ H s) (hg : Gl X x) (hm : X.mg x = none) (hv : bootBuiltins x = some u) (h : Q u s)
    (hn : x ≠ "__name__" := by decide) (hd : (x == ("__debug__" : Str)) = false := by decide) : wpAny (model X.prog X.w) X.A (eval (.Name x pos) X.env) Q E s := by
  obtain ⟨mb, h1, h2⟩ := I.mod.blt
  exact Calls.Name_function_global I.ok.kind hg (Calls.loadGlobal_builtin (by rw [I.ok.glob]; exact I.mod.glob.keeps I.bk) hm (by rw [I.ok.blt]; exact h1.keeps I.bk) ((h2 x hn).trans hv) h) hd
theorem pe_bltn {x : Str} {v : V} {u : Value} {pos : Pos} (hg : Gl X x) (hm : X.mg x = none) (hv : bootBuiltins x = some u) (r : RelV v u) (hn : x ≠ "__name__" := by decide) (hd : (x == ("__debug__" : Str)) = false := by decide) : PE X (.Name x pos) (tC v) :=
  fun _ _ _ H _ I h => ld_blt I hg hm hv ⟨v, H, I, r, h⟩ hn hd
variable {a b : Expr} {ta tb : TE} {pos : Pos}
def tB (t : TE) : TT := fun σ H Q => t σ H fun x H1 => ∃ c, x = .bl c ∧ Q c H1
theorem pt_val {e : Expr} {t : TE} (h : PE X e t) (he : ∀ whole, isTrue e X.env whole = (do let v ← whole; standAt e.pos; holding [v] (truthy v)) := by intro _; rfl) : PT X e (tB t) := by
  intro pins s σ H Q I hw
  refine isTrue_plain (thn (h pins s σ H _ I hw) fun v s1 ⟨x, H1, I1, r1, q1⟩ => ?_) (he _)
  obtain ⟨d, rfl, q⟩ := q1
  cases r1
  exact wpAny_truthy_bool ⟨H1, I1, q⟩
variable {tA tB' : TT} {rest : List Expr}
def tOr (t u : TT) : TT := fun σ H Q => t σ H fun c H1 => if c = true then Q true H1 else u σ H1 Q
def tNot (t : TT) : TT := fun σ H Q => t σ H fun c H1 => Q (!c) H1
theorem pw_or1 (ha : PT X a tA) : PW X (.BoolOp .Or [a] pos) tA := by
  intro wh pins s σ H Q I h
  refine isTrue_or (thn (ha pins s σ H Q I h) fun c s1 e => ?_)
  cases c with
  | false => exact isTrue_or_nil e
  | true => exact e
theorem pw_or (ha : PT X a tA) (hb : PW X (.BoolOp .Or (b :: rest) pos) tB') : PW X (.BoolOp .Or (a :: b :: rest) pos) (tOr tA tB') := by
  intro wh pins s σ H Q I h
  refine isTrue_or (thn (ha pins s σ H _ I h) fun c s1 ⟨H1, I1, q1⟩ => ?_)
  cases c with
  | true => exact ⟨H1, I1, q1⟩
  | false => exact hb wh pins s1 σ H1 Q I1 q1
theorem pt_not (ha : PT X a tA) : PT X (.UnaryOp .Not a pos) (tNot tA) := by
  intro pins s σ H Q I h
  exact isTrue_not (ha pins s σ H (fun c H1 => Q (!c) H1) I h)
def tAndV (ta tb : TE) : TE := fun σ H Q => ta σ H fun x H1 => ∃ c, x = .bl c ∧ if c = true then tb σ H1 Q else Q (.bl false) H1
def tNotV (ta : TE) : TE := fun σ H Q => ta σ H fun x H1 => ∃ c, x = .bl c ∧ Q (.bl (!c)) H1
theorem pe_one {op} {t : TE} (h : PE X a t) : PE X (.BoolOp op [a] pos) t := fun pins s σ H Q I hw => BoolOp_one (h pins s σ H Q I hw)
theorem pe_and (ha : PE X a ta) (hb : PE X (.BoolOp .And (b :: rest) pos) tb) : PE X (.BoolOp .And (a :: b :: rest) pos) (tAndV ta tb) := by
  intro pins s σ H Q I h
  refine BoolOp_and (thn (ha pins s σ H _ I h) fun v s1 ⟨x, H1, I1, r1, q1⟩ => ?_)
  obtain ⟨c, rfl, q1⟩ := q1
  cases r1
  refine wpAny_truthy_bool ?_
  cases c with
  | true => exact hb pins s1 σ H1 Q I1 q1
  | false => exact ⟨.bl false, H1, I1, rfl, q1⟩
theorem pe_not (ha : PE X a ta) : PE X (.UnaryOp .Not a pos) (tNotV ta) := by
  intro pins s σ H Q I h
  refine UnaryOp_ (thn (ha pins s σ H _ I h) fun v s1 ⟨x, H1, I1, r1, q1⟩ => ?_)
  obtain ⟨c, rfl, q1⟩ := q1
  cases r1
  exact not_of (wpAny_truthy_bool ⟨.bl (!c), H1, I1, rfl, q1⟩)
end
end L2
namespace L2
open PySem PySem.Spec PyProof.Rows
def SqL (K : PySem.W.Frag) (H : Hp) (a : Addr) (xs : List V) : Prop :=
  Rd H a (.lst xs) ∨
    ∃ (o : Obj) (its : Array Value) (n : Nat), K.lookup a = some o ∧ o.cls = .type "list" ∧ o.dict = none ∧ o.data = .seq its n ∧ its.size ≤ sizeLine ∧ Vals xs its.toList
def SqT (K : PySem.W.Frag) (H : Hp) (a : Addr) (xs : List V) : Prop :=
  Rd H a (.tup xs) ∨
    ∃ (o : Obj) (its : Array Value) (n : Nat), K.lookup a = some o ∧ o.cls = .type "tuple" ∧ o.data = .seq its n ∧ its.size ≤ sizeLine ∧ Vals xs its.toList
def absV : Value → Option V
  | .none => some .non
  | .bool b => some (.bl b)
  | .int i _ => some (.int i)
  | .str x _ => some (.str x)
  | .bytes b _ => some (.byt b)
  | .float b _ => some (.flt b)
  | .ref a => some (.ref a)
  | .type n => some (.ty n)
  | _ => none
theorem RelV.abs {x : V} {u : Value} (r : RelV x u) : absV u = some x := by
  cases x with
  | non => cases r; rfl
  | bl _ => cases r; rfl
  | int _ => obtain ⟨t, rfl⟩ := r; rfl
  | str _ => obtain ⟨t, rfl⟩ := r; rfl
  | byt _ => obtain ⟨t, rfl⟩ := r; rfl
  | flt _ => obtain ⟨t, rfl⟩ := r; rfl
  | ref _ => cases r; rfl
  | ty _ => cases r; rfl
theorem RelV.inj {x y : V} {u : Value} (r : RelV x u) (q : RelV y u) : x = y := Option.some.inj (r.abs.symm.trans q.abs)
theorem Vals.inj : ∀ {xs ys : List V} {us : List Value}, Vals xs us → Vals ys us → xs = ys
  | _, _, _, .nil, .nil => rfl
  | _, _, _, .cons r t, .cons r' t' => by rw [r.inj r', Vals.inj t t']
section
variable {X : Cx} {pins : List (Addr × Obj)} {σ : St} {H : Hp} {s : Shared} {a : Addr} {xs ys : List V}
theorem SqL.of {K : PySem.W.Frag} (h : H a = some (.lst xs)) : SqL K H a xs := .inl (.inl h)
theorem SqT.of {K : PySem.W.Frag} (h : H a = some (.tup xs)) : SqT K H a xs := .inl (.inl h)
theorem Inv.list (I : Inv X pins σ H s) (h : SqL X.K H a xs) : ∃ its : List Value, Vals xs its ∧ PlainL s.heap a its.toArray ∧ xs.length ≤ sizeLine := by
  rcases h with h | ⟨o, its, n, hk, hc, hd, hs, hz, r⟩
  · obtain ⟨z, its, n, r, e⟩ := h.ok I.hok
    exact ⟨its, r, ⟨_, n, e, rfl, rfl, rfl⟩, z⟩
  · refine ⟨its.toList, r, ⟨o, n, I.kIn a o hk, hc, hd, by simpa using hs⟩, ?_⟩
    have e := r.length
    simp only [Array.length_toList] at e
    omega
theorem Inv.tuple (I : Inv X pins σ H s) (h : SqT X.K H a xs) : ∃ its : List Value, Vals xs its ∧ IsTup s.heap a its.toArray ∧ xs.length ≤ sizeLine := by
  rcases h with h | ⟨o, its, n, hk, hc, hs, hz, r⟩
  · obtain ⟨z, its, r, p⟩ := h.ok I.hok
    exact ⟨its, r, p, z⟩
  · refine ⟨its.toList, r, ⟨o, I.kIn a o hk, hc, n, by simpa using hs⟩, ?_⟩
    have e := r.length
    simp only [Array.length_toList] at e
    omega
theorem Inv.list_inj (I : Inv X pins σ H s) (h : SqL X.K H a xs) (h' : SqL X.K H a ys) : xs = ys := by
  obtain ⟨its, r, ⟨o, n, e, _, _, d⟩, _⟩ := I.list h
  obtain ⟨its', r', ⟨o', n', e', _, _, d'⟩, _⟩ := I.list h'
  rw [e] at e'; cases e'
  rw [d] at d'
  injection d' with d1 _
  have : its = its' := by simpa using congrArg Array.toList d1
  subst this
  exact r.inj r'
theorem Inv.tuple_inj (I : Inv X pins σ H s) (h : SqT X.K H a xs) (h' : SqT X.K H a ys) : xs = ys := by
  obtain ⟨its, r, ⟨o, e, _, n, d⟩, _⟩ := I.tuple h
  obtain ⟨its', r', ⟨o', e', _, n', d'⟩, _⟩ := I.tuple h'
  rw [e] at e'; cases e'
  rw [d] at d'
  injection d' with d1 _
  have : its = its' := by simpa using congrArg Array.toList d1
  subst this
  exact r.inj r'
end
abbrev Cx.wish (X : Cx) (E : Value → Shared → Prop) : Cx := { X with xe := E }
abbrev Cx.nox (X : Cx) : Cx := X.wish fun _ _ => False
theorem Cx.Ok.wish {X : Cx} (ok : X.Ok) (E : Value → Shared → Prop) : (X.wish E).Ok :=
  ⟨ok.mod, ok.kind, ok.glob, ok.blt, ok.above, ok.inj, ok.has, ok.cab, ok.hd, ok.frames, ok.stk, ok.exf, ok.bs, ok.bsz, ok.noex, ok.exfs, ok.funs, ok.frf⟩
theorem Cx.Ok.unwish {X : Cx} {E : Value → Shared → Prop} (ok : (X.wish E).Ok) : X.Ok :=
  ⟨ok.mod, ok.kind, ok.glob, ok.blt, ok.above, ok.inj, ok.has, ok.cab, ok.hd, ok.frames, ok.stk, ok.exf, ok.bs, ok.bsz, ok.noex, ok.exfs, ok.funs, ok.frf⟩
section
variable {X : Cx} {pins : List (Addr × Obj)} {σ : St} {H : Hp} {s : Shared} {E : Value → Shared → Prop}
theorem Inv.wish (I : Inv X pins σ H s) (E : Value → Shared → Prop) : Inv (X.wish E) pins σ H s := ⟨I.ok.wish E, I.os, I.bare, I.base, I.loc, I.cell, I.free, I.freeC, I.pin, I.hok, I.len⟩
theorem Inv.unwish (I : Inv (X.wish E) pins σ H s) : Inv X pins σ H s := ⟨I.ok.unwish, I.os, I.bare, I.base, I.loc, I.cell, I.free, I.freeC, I.pin, I.hok, I.len⟩
theorem SP.unwish {D : Ends} {f : Flow} {s' : Shared} (h : SP (X.wish E) pins D f s') : SP X pins D f s' := by
  cases f with
  | next => obtain ⟨σ', H', I, q⟩ := h; exact ⟨σ', H', I.unwish, q⟩
  | brk => obtain ⟨σ', H', I, q⟩ := h; exact ⟨σ', H', I.unwish, q⟩
  | cont => obtain ⟨σ', H', I, q⟩ := h; exact ⟨σ', H', I.unwish, q⟩
  | ret u => obtain ⟨v, σ', H', I, r, q⟩ := h; exact ⟨v, σ', H', I.unwish, r, q⟩
theorem PSs.nox {st : List Stmt} {t : TS} (h : PSs X.nox st t) : PSs X st t := fun pins s σ H D I hw =>
  wpAny_mono (h pins s σ H D (I.wish _) hw) (fun _ _ q => q.unwish) fun _ _ z => False.elim z
end
section
variable {X : Cx} {st : Stmt} {rest : List Stmt} {t u : TS} {e : Expr} {te : TE} {pos : Pos}
def tNext : TS := fun D σ H => D.nx σ H
def tSeq (t u : TS) : TS := fun D σ H => t { D with nx := u D } σ H
theorem pss_nil : PSs X [] tNext := fun _ _ σ H _ I h => wpAny_execs_nil ⟨σ, H, I, h⟩
theorem pss_cons (h1 : PS X st t) (h2 : PSs X rest u) : PSs X (st :: rest) (tSeq t u) := by
  intro pins s σ H D I h
  refine wpAny_execs_cons (thn (h1 pins s σ H { D with nx := u D } I h) fun f s1 q => ?_)
  cases f with
  | next =>
    obtain ⟨σ', H', I', q⟩ := q
    exact h2 pins s1 σ' H' D I' q
  | ret v => exact q
  | brk => exact q
  | cont => exact q
theorem pss_one (h1 : PS X st t) : PSs X [st] t := by
  intro pins s σ H D I h
  refine wpAny_execs_cons (thn (h1 pins s σ H D I h) fun f s1 q => ?_)
  cases f with
  | next => exact wpAny_execs_nil q
  | ret v => exact q
  | brk => exact q
  | cont => exact q
theorem Inv.quiet {pins : List (Addr × Obj)} {σ : St} {H : Hp} {s : Shared} (I : Inv X pins σ H s) : interactive X.env = false := by simp [interactive, I.ok.kind]
def tDrop (te : TE) : TS := fun D σ H => te σ H fun _ H1 => D.nx σ H1
theorem ps_expr (he : PE X e te) (hs : swapsWith e none pos.line X.env = pure false := by rfl) : PS X (.Expr e pos) (tDrop te) := by
  intro pins s σ H D I h
  exact wpAny_Expr_any (thn (he pins s σ H _ I h) fun v s1 ⟨x, H1, I1, r1, q1⟩ => ⟨σ, H1, I1, q1⟩) I.quiet hs
def tRet (te : TE) : TS := fun D σ H => te σ H D.rt
theorem ps_ret (he : PE X e te) : PS X (.Return (some e) pos) (tRet te) := by
  intro pins s σ H D I h
  exact wpAny_Return_some (thn (he pins s σ H _ I h) fun v s1 ⟨x, H1, I1, r1, q1⟩ => ⟨x, σ, H1, I1, r1, q1⟩)
def tIfS (c : TT) (t u : TS) : TS := fun D σ H => c σ H fun b H1 => if b = true then t D σ H1 else u D σ H1
theorem ps_if {c : Expr} {a b : List Stmt} {tc : TT} (hc : PT X c tc) (ha : PSs X a t) (hb : PSs X b u) : PS X (.If c a b pos) (tIfS tc t u) := by
  intro pins s σ H D I h
  refine wpAny_If (thn (hc pins s σ H _ I h) fun d s1 ⟨H1, I1, q1⟩ => ?_)
  cases d with
  | true => exact ha pins s1 σ H1 D I1 q1
  | false => exact hb pins s1 σ H1 D I1 q1
def tNever : TS := fun _ _ _ => False
theorem ps_never : PS X st tNever := fun _ _ _ _ _ _ h => h.elim
theorem pss_never {sts : List Stmt} : PSs X sts tNever := fun _ _ _ _ _ _ h => h.elim
end
abbrev TG := V → St → Hp → (St → Hp → Prop) → Prop
abbrev TGs := List V → St → Hp → (St → Hp → Prop) → Prop
def PG (X : Cx) (target : Expr) (t : TG) : Prop :=
  ∀ (pins : List (Addr × Obj)) (s : Shared) (σ : St) (H : Hp) (v : V) (u : Value) (Q : St → Hp → Prop), Inv X pins σ H s → RelV v u → t v σ H Q →
    wpAny (model X.prog X.w) X.A (assign target X.env u) (fun _ s' => ∃ σ' H', Inv X pins σ' H' s' ∧ Q σ' H') X.xe s
def PGs (X : Cx) (ts : List Expr) (t : TGs) : Prop :=
  ∀ (pins : List (Addr × Obj)) (s : Shared) (σ : St) (H : Hp) (vs : List V) (us : List Value) (Q : St → Hp → Prop), Inv X pins σ H s → Vals vs us → t vs σ H Q →
    wpAny (model X.prog X.w) X.A (assignInOrder ((assignEach ts X.env).map (·.2)) us) (fun _ s' => ∃ σ' H', Inv X pins σ' H' s' ∧ Q σ' H') X.xe s
abbrev TSet := V → V → V → Hp → (Hp → Prop) → Prop
def PSet (X : Cx) (t : TSet) : Prop :=
  ∀ (pins : List (Addr × Obj)) (s : Shared) (σ : St) (H : Hp) (o i v : V) (ov iv u : Value) (Q : Hp → Prop), Inv X pins σ H s → RelV o ov → RelV i iv → RelV v u → t o i v H Q →
    wpAny (model X.prog X.w) X.A (setItem ov iv u) (fun _ s' => ∃ H', Inv X pins σ H' s' ∧ Q H') X.xe s
section
variable {X : Cx} {pos : Pos}
def gName (i : Nat) : TG := fun v σ H Q => Q (σ.set i (some v)) H
theorem pg_name {i : Nat} {x : Str} (hN : X.N.Nodup) (hi : X.N[i]? = some x) (hx : Loc X.env.scope x) (hf : X.fn x = true ∨ X.env.scope.names.lookup x = some .local := by first | exact .inl rfl | exact .inr rfl | assumption) : PG X (.Name x pos) (gName i) := by
  intro pins s σ H v u Q I r h
  exact wpAny_assign_Name (store_ok I hN hi hx r (fun s' I' => ⟨_, H, I', h⟩) hf)
def gNil : TGs := fun vs σ H Q => vs = [] ∧ Q σ H
def gCons (t : TG) (u : TGs) : TGs := fun vs σ H Q => ∃ v r, vs = v :: r ∧ t v σ H fun σ' H' => u r σ' H' Q
theorem pgs_nil : PGs X [] gNil := by
  intro pins s σ H vs us Q I r h
  obtain ⟨e, h⟩ := h
  subst e
  cases r
  exact assignInOrder_nil ⟨σ, H, I, h⟩
theorem pgs_cons {e : Expr} {es : List Expr} {t : TG} {u : TGs} (h1 : PG X e t) (h2 : PGs X es u)
    (hs : (assignEach (e :: es) X.env).map (·.2) = assign e X.env :: (assignEach es X.env).map (·.2) := by rfl) : PGs X (e :: es) (gCons t u) := by
  intro pins s σ H vs us Q I r h
  obtain ⟨v, vr, e1, h⟩ := h
  subst e1
  cases r with
  | cons r rr =>
    rw [hs]
    refine assignInOrder_cons (thn (h1 pins s σ H _ _ _ I r h) fun _ s1 ⟨σ1, H1, I1, q1⟩ => ?_)
    exact h2 pins s1 σ1 H1 _ _ Q I1 rr q1
def gTup (K : PySem.W.Frag) (n : Nat) (t : TGs) : TG := fun v σ H Q => ∃ a xs, v = .ref a ∧ SqT K H a xs ∧ xs.length = n ∧ t xs σ H Q
theorem pg_tup {es : List Expr} {k : Nat} {t : TGs} {n : Nat} (hc : X.calm = true) (h : PGs X es t)
    (hn : (assignEach es X.env).length = n := by rfl) (hst : (assignEach es X.env).findIdx? (·.1) = none := by rfl) : PG X (.Tuple es k pos) (gTup X.K n t) := by
  intro pins s σ H v u Q I r hw
  obtain ⟨a, xs, e1, hq, hl, hw⟩ := hw
  subst e1
  cases r
  obtain ⟨its, rv, ht, hz⟩ := I.tuple hq
  refine assign_Tuple_tuple (I.ok.hd hc) ht (by simp [hn, ← hl, rv.length]) hst fun h' hx => ?_
  have I1 : Inv X pins σ H { s with heap := h' } := I.kept (t' := s.toks) fun b o e => hx b o (Nat.ne_of_lt (Heap.lt_size e)) e
  exact h pins _ σ H xs _ Q I1 (by simpa using rv) hw
def gSub (to ti : TE) (t : TSet) : TG := fun v σ H Q => to σ H fun o H1 => ti σ H1 fun i H2 => t o i v H2 fun H3 => Q σ H3
theorem pg_sub {o i : Expr} {to ti : TE} {t : TSet} (ho : PE X o to) (hi : PE X i ti) (hs : PSet X t)
    (ha : ∀ v, assign (.Subscript o i pos) X.env v = (do
      let ov ← holding [v] (eval o X.env)
      let iv ← holding [v, ov] (eval i X.env)
      standAt pos
      holding [v, ov, iv] (setItem ov iv v)
      release [v, ov, iv] []) := by intro _; rfl) : PG X (.Subscript o i pos) (gSub to ti t) := by
  intro pins s σ H v u Q I r h
  rw [ha]
  refine wpAny_bind (wpAny_holding (thn (ho pins s σ H _ I h) fun ov s1 ⟨x, H1, I1, r1, q1⟩ => ?_))
  refine wpAny_bind (wpAny_holding (thn (hi pins s1 σ H1 _ I1 q1) fun iv s2 ⟨y, H2, I2, r2, q2⟩ => ?_))
  refine wpAny_bind (wpAny_standAt (wpAny_bind (wpAny_holding (thn (hs pins s2 σ H2 x y v ov iv u _ I2 r1 r2 r q2) fun _ s3 ⟨H3, I3, q3⟩ => ?_))))
  exact wpAny_release ⟨σ, H3, I3, q3⟩
def tAsg (te : TE) (g : TG) : TS := fun D σ H => te σ H fun x H1 => g x σ H1 D.nx
theorem ps_asg {tg e : Expr} {te : TE} {g : TG} (he : PE X e te) (hg : PG X tg g) (hs : swapsWithSole [tg] e pos.line X.env = pure false := by rfl) (hw : swappedStores [tg] e X.env = pure none := by rfl)
    (h1 : (assignEach [tg] X.env).map (·.2) = [assign tg X.env] := by rfl) : PS X (.Assign [tg] e pos) (tAsg te g) := by
  intro pins s σ H D I h
  refine wpAny_Assign_stores (thn (he pins s σ H _ I h) fun v s1 ⟨x, H1, I1, r1, q1⟩ => ?_) hs hw
  rw [h1]
  exact thn (hg pins s1 σ H1 x v _ I1 r1 q1) fun _ s2 q => q
theorem ps_set {i : Nat} {x : Str} {e : Expr} {te : TE} {pos' : Pos} (hN : X.N.Nodup) (hi : X.N[i]? = some x) (hx : Loc X.env.scope x) (he : PE X e te) (hs : swapsWith e (some (.Name x pos')) pos.line X.env = pure false := by rfl) (hf : X.fn x = true ∨ X.env.scope.names.lookup x = some .local := by first | exact .inl rfl | exact .inr rfl | assumption) :
    PS X (.Assign [.Name x pos'] e pos) (tAsg te (gName i)) := by
  intro pins s σ H D I h
  refine wpAny_Assign_Name (thn (he pins s σ H _ I h) fun v s1 ⟨y, H1, I1, r1, q1⟩ => ?_) hs
  exact store_ok I1 hN hi hx r1 (fun s2 I2 => ⟨_, H1, I2, q1⟩) hf
end
structure It where
  go : Nat → Hp → Prop
  yld : Nat → Hp → V → Hp → Prop
  stop : Nat → Hp → Prop
def FpOk (X : Cx) (pins : List (Addr × Obj)) (H : Hp) (b : Addr) : Prop :=
  H b = none ∧ b ≠ X.env.locals ∧ b ∉ X.fs ∧ (b ∈ X.ex ∨ X.s₀.heap.objs.size ≤ b) ∧ (∀ x c, X.env.cells.lookup x = some c → c ≠ b) ∧ ∀ p ∈ X.pn ++ pins, p.1 ≠ b
theorem Inv.fpOk {X : Cx} {pins : List (Addr × Obj)} {σ : St} {H H' : Hp} {s : Shared} {b : Addr} (I : Inv X pins σ H s) (hb : s.heap.objs.size ≤ b) (hn : H' b = none) : FpOk X pins H' b := by
  refine ⟨hn, Nat.ne_of_gt (Nat.lt_of_lt_of_le I.lt hb), I.nofs hb, .inr (Nat.le_trans I.sz hb), fun x c e z => ?_, fun p hp z => ?_⟩
  · obtain ⟨v, q⟩ := I.cell x c e
    exact absurd (Nat.lt_of_lt_of_le q.lt (by rw [z]; exact hb)) (Nat.lt_irrefl _)
  · exact absurd (Nat.lt_of_lt_of_le (Heap.lt_size (I.pin p hp).1) (by rw [z]; exact hb)) (Nat.lt_irrefl _)
structure Turn (P : Program) (w : World) (K : PySem.W.Frag) (tg : Expr) (J : It) (fp : List Addr) (it : Addr) (tn : Nat → Heap → Prop) : Prop where
  mem : it ∈ fp
  obj : ∀ i h, tn i h → ∀ b ∈ fp, ∃ o, h.get? b = some o ∧ ∀ v, o.data ≠ .cell v
  keep : ∀ i h h', tn i h → (∀ b ∈ fp, ∀ o, h.get? b = some o → h'.get? b = some o) → tn i h'
  item : ∀ (X : Cx), X.prog = P → X.w = w → X.K = K → X.calm = true → ∀ (i : Nat) (pins : List (Addr × Obj)) (s : Shared) (σ : St) (H : Hp) (E : Value → Shared → Prop), Inv X pins σ H s → (∀ b ∈ fp, FpOk X pins H b) → tn i s.heap → J.go i H →
    wpAny (model P w) X.A (pyNext (.ref it)) (fun r s1 => ∃ u, r = some u ∧
      wpAny (model P w) X.A (letOwnedTupleGo tg (.ref it) u) (fun _ s2 => ∃ x H', Inv X pins σ H' s2 ∧ RelV x u ∧ J.yld i H x H' ∧ tn (i + 1) s2.heap ∧ ∀ b ∈ fp, H' b = none) E s1) E s
  done : ∀ (X : Cx), X.prog = P → X.w = w → X.K = K → X.calm = true → ∀ (i : Nat) (pins : List (Addr × Obj)) (s : Shared) (σ : St) (H : Hp) (E : Value → Shared → Prop), Inv X pins σ H s → (∀ b ∈ fp, FpOk X pins H b) → tn i s.heap → J.stop i H →
    wpAny (model P w) X.A (pyNext (.ref it)) (fun r s1 => r = none ∧ Inv X pins σ H s1) E s
  self : ∀ (A : Around) (i : Nat) (s : Shared) (Q : Value → Shared → Prop) (E : Value → Shared → Prop), tn i s.heap → Q (.ref it) s → wpAny (model P w) A (pyIter (.ref it)) Q E s
abbrev TI := St → Hp → (It → Hp → Prop) → Prop
def PIE (X : Cx) (pins : List (Addr × Obj)) (σ : St) (tg : Expr) (R : It → Hp → Prop) (itv : Value) (s2 : Shared) : Prop :=
  ∃ (it : Addr) (fp : List Addr) (tn : Nat → Heap → Prop) (J : It) (H' : Hp), itv = .ref it ∧ Inv X pins σ H' s2 ∧ Turn X.prog X.w X.K tg J fp it tn ∧ tn 0 s2.heap ∧ (∀ b ∈ fp, FpOk X pins H' b) ∧ R J H'
def PI (X : Cx) (tg iter : Expr) (wi : TI) : Prop :=
  ∀ (pins : List (Addr × Obj)) (s : Shared) (σ : St) (H : Hp) (R : It → Hp → Prop), Inv X pins σ H s → wi σ H R →
    wpAny (model X.prog X.w) X.A (eval iter X.env) (fun v s1 => wpAny (model X.prog X.w) X.A (pyIter v) (PIE X pins σ tg R) X.xe s1) X.xe s
theorem go_of {M : Model} {A : Around} {E : Value → Shared → Prop} {s : Shared} {tg : Expr} {it : Addr} {u : Value} {o : Obj} {n : String} {vs : Array Value} {Q : Unit → Shared → Prop} (ho : s.heap.get? it = some o) (hc : o.cls = .type n) (hd : o.data = .fields vs)
    (hn : ["enumerate", "zip", "dict_itemiterator", "dict_reverseitemiterator", "odict_iterator", "itertools.zip_longest", "itertools.pairwise"].contains n = false) (hQ : Q () s) : wpAny M A (letOwnedTupleGo tg (.ref it) u) Q E s := by
  unfold letOwnedTupleGo
  cases tg <;> first
    | exact wpAny_pure hQ
    | (cases u <;> first
        | exact wpAny_pure hQ
        | (refine wpAny_bind (wpAny_load ho ?_)
           rw [hc, hd]
           show wpAny M A (if (["enumerate", "zip", "dict_itemiterator", "dict_reverseitemiterator", "odict_iterator", "itertools.zip_longest", "itertools.pairwise"].contains n && vs[0]? == some (rawInt _)) = true then _ else _) Q E s
           rw [if_neg (by intro h; rw [hn, Bool.false_and] at h; cases h)]
           exact wpAny_pure hQ))
def Itl (K : PySem.W.Frag) (a : Addr) : It :=
  ⟨fun i H => ∃ xs x, SqL K H a xs ∧ xs[i]? = some x, fun i H x H' => H' = H ∧ ∀ xs, SqL K H a xs → xs[i]? = some x, fun i H => ∃ xs, SqL K H a xs ∧ xs.length ≤ i⟩
def Itt (K : PySem.W.Frag) (a : Addr) : It :=
  ⟨fun i H => ∃ xs x, SqT K H a xs ∧ xs[i]? = some x, fun i H x H' => H' = H ∧ ∀ xs, SqT K H a xs → xs[i]? = some x, fun i H => ∃ xs, SqT K H a xs ∧ xs.length ≤ i⟩
def Itr (lo : Int) (n : Nat) : It := ⟨fun i _ => i < n, fun i H x H' => H' = H ∧ x = .int (lo + i), fun i _ => n ≤ i⟩
theorem turn_list {P : Program} {w : World} {K : PySem.W.Frag} {tg : Expr} (a it : Addr) : Turn P w K tg (Itl K a) [it] it (fun i h => h.IsListIter it a i) where
  mem := by simp
  obj := fun i h st b hb => by
    have e : b = it := by simpa using hb
    subst e
    obtain ⟨o, e, c, d⟩ := st
    exact ⟨o, e, fun v z => by rw [d] at z; cases z⟩
  keep := fun i h h' st k => st.at fun o e => k it (by simp) o e
  item := by
    intro X hP hw hK hc i pins s σ H E I hf st hg
    subst hP hw hK
    obtain ⟨xs, x, hq, hx⟩ := hg
    obtain ⟨its, rv, p, hz⟩ := I.list hq
    obtain ⟨u, hu, ru⟩ := rv.get hx
    obtain ⟨f0, f1, f2, f3, f4, f5⟩ := hf it (by simp)
    refine wpAny_pyNext_list_item st p.isList (x := u) (by simpa using hu) fun h' st' sb => ?_
    have I1 : Inv X pins σ H { s with heap := h' } := I.turned (t' := s.toks) (fun b o hb e => (sb.2 b hb).trans e) f0 f1 f3 f4 f5
    obtain ⟨o, e, c, d⟩ := id st'
    exact ⟨u, rfl, go_of (s := { s with heap := h' }) e c d (by decide) ⟨x, H, I1, ru, ⟨rfl, fun ys hy => by rw [I.list_inj hy hq]; exact hx⟩, st', fun b hb => (hf b hb).1⟩⟩
  done := by
    intro X hP hw hK hc i pins s σ H E I hf st hg
    subst hP hw hK
    obtain ⟨xs, hq, hx⟩ := hg
    obtain ⟨its, rv, p, hz⟩ := I.list hq
    obtain ⟨f0, f1, f2, f3, f4, f5⟩ := hf it (by simp)
    have hl := rv.length
    exact wpAny_pyNext_list_end (I.ok.hd hc) st p.isList (by simp; omega) fun h' eb => ⟨rfl, I.turned (t' := s.toks) (fun b o hb e => eb b o hb e) f0 f1 f3 f4 f5⟩
  self := fun _ _ _ _ _ st h => wpAny_pyIter_listiter st h
theorem turn_tuple {P : Program} {w : World} {K : PySem.W.Frag} {tg : Expr} (a it : Addr) : Turn P w K tg (Itt K a) [it] it (fun i h => h.IsTupleIter it a i) where
  mem := by simp
  obj := fun i h st b hb => by
    have e : b = it := by simpa using hb
    subst e
    obtain ⟨o, e, c, d⟩ := st
    exact ⟨o, e, fun v z => by rw [d] at z; cases z⟩
  keep := fun i h h' st k => st.at fun o e => k it (by simp) o e
  item := by
    intro X hP hw hK hc i pins s σ H E I hf st hg
    subst hP hw hK
    obtain ⟨xs, x, hq, hx⟩ := hg
    obtain ⟨its, rv, p, hz⟩ := I.tuple hq
    obtain ⟨u, hu, ru⟩ := rv.get hx
    obtain ⟨f0, f1, f2, f3, f4, f5⟩ := hf it (by simp)
    refine wpAny_pyNext_tuple_item st (show s.heap.IsTuple a its.toArray from p) (x := u) (by simpa using hu) fun h' st' sb => ?_
    have I1 : Inv X pins σ H { s with heap := h' } := I.turned (t' := s.toks) (fun b o hb e => (sb.2 b hb).trans e) f0 f1 f3 f4 f5
    obtain ⟨o, e, c, d⟩ := id st'
    exact ⟨u, rfl, go_of (s := { s with heap := h' }) e c d (by decide) ⟨x, H, I1, ru, ⟨rfl, fun ys hy => by rw [I.tuple_inj hy hq]; exact hx⟩, st', fun b hb => (hf b hb).1⟩⟩
  done := by
    intro X hP hw hK hc i pins s σ H E I hf st hg
    subst hP hw hK
    obtain ⟨xs, hq, hx⟩ := hg
    obtain ⟨its, rv, p, hz⟩ := I.tuple hq
    obtain ⟨f0, f1, f2, f3, f4, f5⟩ := hf it (by simp)
    have hl := rv.length
    exact wpAny_pyNext_tuple_end (I.ok.hd hc) st (show s.heap.IsTuple a its.toArray from p) (by simp; omega) fun h' eb => ⟨rfl, I.turned (t' := s.toks) (fun b o hb e => eb b o hb e) f0 f1 f3 f4 f5⟩
  self := fun _ _ _ _ _ st h => wpAny_pyIter_tupleiter st h
theorem turn_range {P : Program} {w : World} {K : PySem.W.Frag} {tg : Expr} (it : Addr) (lo : Int) (n : Nat) : Turn P w K tg (Itr lo n) [it] it (fun i h => IsRangeIter h it (lo + (i : Nat) * 1) ((n : Int) - (i : Nat)) 1) where
  mem := by simp
  obj := fun i h st b hb => by
    have e : b = it := by simpa using hb
    subst e
    exact ⟨_, st, fun v z => by
      have z' : Data.fields _ = Data.cell v := z
      cases z'⟩
  keep := fun i h h' st k => k it (by simp) _ st
  item := by
    intro X hP hw hK hc i pins s σ H E I hf st hg
    subst hP hw hK
    obtain ⟨f0, f1, f2, f3, f4, f5⟩ := hf it (by simp)
    have W := Walks.range (prog := X.prog) (w := X.w) (I.ok.hd hc) it lo 1 n
    refine W.item i s _ _ hg st fun v h' tk hv st' kk => ?_
    obtain ⟨t, rfl⟩ := hv
    have I1 : Inv X pins σ H { s with heap := h', toks := tk } := I.turned (fun b o hb e => kk b o (by simpa using hb) e) f0 f1 f3 f4 f5
    refine ⟨_, rfl, go_of (s := { s with heap := h', toks := tk }) (n := "range_iterator") st' rfl rfl (by decide) ⟨.int (lo + i), H, I1, ⟨t, ?_⟩, ⟨rfl, rfl⟩, st', fun b hb => (hf b hb).1⟩⟩
    rw [Int.mul_one]
  done := by
    intro X hP hw hK hc i pins s σ H E I hf st hg
    subst hP hw hK
    obtain ⟨f0, f1, f2, f3, f4, f5⟩ := hf it (by simp)
    exact wpAny_pyNext_range_end (I.ok.hd hc) st (by have : n ≤ i := hg; omega) fun h' eb => ⟨rfl, I.turned (t' := s.toks) (fun b o hb e => eb b o hb e) f0 f1 f3 f4 f5⟩
  self := fun _ _ _ _ _ st h => wpAny_pyIter_rangeiter st h
end L2
namespace L2
open PySem PySem.Spec PyProof.Rows
section
variable {X : Cx} {tg : Expr}
def iList (K : PySem.W.Frag) (tl : TE) : TI := fun σ H R => tl σ H fun x H1 => ∃ a, x = .ref a ∧ (∃ xs, SqL K H1 a xs) ∧ R (Itl K a) H1
theorem pi_list {l : Expr} {tl : TE} (hl : PE X l tl) : PI X tg l (iList X.K tl) := by
  intro pins s σ H R I h
  refine thn (hl pins s σ H _ I h) fun v s1 ⟨x, H1, I1, r1, q1⟩ => ?_
  obtain ⟨a, e, ⟨xs, hq⟩, q⟩ := q1
  subst e
  cases r1
  obtain ⟨its, rv, p, hz⟩ := I1.list hq
  refine wpAny_pyIter_list p.isList ?_
  refine ⟨s1.heap.objs.size, [s1.heap.objs.size], _, _, H1, rfl, I1.kept (t' := s1.toks) fun b o e => Heap.get?_push_of_some _ e, turn_list a _, ⟨_, Heap.get?_push_size _ rfl, rfl, rfl⟩, fun b hb => ?_, q⟩
  have e : b = s1.heap.objs.size := by simpa using hb
  subst e
  exact I1.fpOk (Nat.le_refl _) (I1.hok.fresh (Nat.le_refl _))
theorem range_it {pins : List (Addr × Obj)} {σ : St} {H : Hp} {s : Shared} {R : It → Hp → Prop} {E : Value → Shared → Prop} {lo hi : Int} {t u v : Tok} {tk : Nat} (I : Inv X pins σ H s) (h1 : -(2 ^ 62) ≤ lo) (h2 : lo < 2 ^ 62) (h3 : -(2 ^ 62) ≤ hi) (h4 : hi < 2 ^ 62)
    (q : R (Itr lo (hi - lo).toNat) H) : wpAny (model X.prog X.w) X.A (pyIter (.ref s.heap.objs.size)) (PIE X pins σ tg R) E { s with heap := s.heap.push { cls := .type "range", data := .fields #[.int lo t, .int hi u, .int 1 v] }, toks := tk } := by
  refine wpAny_pyIter_range (IsRange.new ..) (small_one h1 h2 h3 h4) ?_
  have I1 : Inv X pins σ H { s with heap := s.heap.push { cls := .type "range", data := .fields #[.int lo t, .int hi u, .int 1 v] }, toks := tk } := I.kept fun b o e => Heap.get?_push_of_some _ e
  refine ⟨(s.heap.push { cls := .type "range", data := .fields #[.int lo t, .int hi u, .int 1 v] }).objs.size, [(s.heap.push { cls := .type "range", data := .fields #[.int lo t, .int hi u, .int 1 v] }).objs.size], _, _, H, rfl,
    I1.kept (t' := tk) fun b o e => Heap.get?_push_of_some _ e, turn_range _ lo (hi - lo).toNat, ?_, fun b hb => ?_, q⟩
  · have e1 : lo + ((0 : Nat) : Int) * 1 = lo := by simp
    have e2 : (((hi - lo).toNat : Nat) : Int) - ((0 : Nat) : Int) = Builtin.Range.rangeSize lo hi 1 := by rw [rangeSize_one]; split <;> omega
    show IsRangeIter _ _ (lo + ((0 : Nat) : Int) * 1) ((((hi - lo).toNat : Nat) : Int) - ((0 : Nat) : Int)) 1
    rw [e1, e2]
    exact Heap.get?_push_size _ rfl
  · have e : b = (s.heap.push { cls := .type "range", data := .fields #[.int lo t, .int hi u, .int 1 v] }).objs.size := by simpa using hb
    subst e
    exact I1.fpOk (Nat.le_refl _) (I1.hok.fresh (Nat.le_refl _))
def iRng1 (ta : TA) : TI := fun σ H R => ta σ H fun vs H1 => ∃ j : Int, vs = [.int j] ∧ -(2 ^ 62) ≤ j ∧ j < 2 ^ 62 ∧ R (Itr 0 j.toNat) H1
def iRng2 (ta : TA) : TI := fun σ H R => ta σ H fun vs H1 => ∃ i j : Int, vs = [.int i, .int j] ∧ (-(2 ^ 62) ≤ i ∧ i < 2 ^ 62 ∧ -(2 ^ 62) ≤ j ∧ j < 2 ^ 62) ∧ R (Itr i (j - i).toNat) H1
theorem pi_range1 {a : Expr} {ta : TA} {p pos : Pos} (hg : Gl X "range") (hm : X.mg "range" = none) (ha : PA X [a] ta) (hs : starEach [a] X.env = [(false, eval a X.env)] := by rfl) : PI X tg (.Call (.Name "range" p) [a] [] pos) (iRng1 ta) := by
  intro pins s σ H R I h
  refine Call_ (ld_blt I hg hm boot_range (PyProof.Rows.callWith_type1 (thn (ha pos pins s σ H _ I h) fun us s1 ⟨vs, H1, I1, r1, q1⟩ => ?_) hs rfl))
  obtain ⟨j, e, q1, q2, q⟩ := q1
  subst e
  cases r1 with
  | cons r rr =>
    cases rr
    obtain ⟨t, rfl⟩ := r
    exact call_range_1 (range_it I1 (by omega) (by omega) q1 q2 (by simpa using q))
theorem pi_range2 {a b : Expr} {ta : TA} {p pos : Pos} (hg : Gl X "range") (hm : X.mg "range" = none) (ha : PA X [a, b] ta) (hs : starEach [a, b] X.env = [(false, eval a X.env), (false, eval b X.env)] := by rfl) (hs2 : starEach [b] X.env = [(false, eval b X.env)] := by rfl) :
    PI X tg (.Call (.Name "range" p) [a, b] [] pos) (iRng2 ta) := by
  intro pins s σ H R I h
  refine Call_ (ld_blt I hg hm boot_range (PyProof.Rows.callWith_type1 (thn (ha pos pins s σ H _ I h) fun us s1 ⟨vs, H1, I1, r1, q1⟩ => ?_) (by rw [hs, hs2]) (by rw [hs2]; rfl)))
  obtain ⟨i, j, e, ⟨q1, q2, q3, q4⟩, q⟩ := q1
  subst e
  cases r1 with
  | cons r rr =>
    cases rr with
    | cons r' rr =>
      cases rr
      obtain ⟨t, rfl⟩ := r
      obtain ⟨t', rfl⟩ := r'
      exact call_range_2 (range_it I1 q1 q2 q3 q4 q)
def tFor (wi : TI) (g : TG) (tb : TS) : TS := fun D σ H => wi σ H fun J H1 => ∃ W : Nat → Nat → St → Hp → Prop, (∃ m, W 0 m σ H1) ∧ ∀ i m σ H, W i m σ H →
  (J.stop i H ∧ D.nx σ H) ∨ (J.go i H ∧ ∃ N : St → Hp → Prop, (∀ σ' H', N σ' H' → ∃ m', m' < m ∧ W (i + 1) m' σ' H') ∧ ∀ x H', J.yld i H x H' → g x σ H' fun σ2 H2 => tb { D with nx := N, ct := N, bk := D.nx } σ2 H2)
def pinsAt (fp : List Addr) (h : Heap) : List (Addr × Obj) := fp.filterMap fun b => (h.get? b).map fun o => (b, o)
theorem mem_pinsAt {fp : List Addr} {h : Heap} {b : Addr} {o : Obj} (hb : b ∈ fp) (e : h.get? b = some o) : (b, o) ∈ pinsAt fp h := List.mem_filterMap.mpr ⟨b, hb, by rw [e]; rfl⟩
theorem of_pinsAt {fp : List Addr} {h : Heap} {p : Addr × Obj} (hp : p ∈ pinsAt fp h) : p.1 ∈ fp ∧ h.get? p.1 = some p.2 := by
  obtain ⟨b, hb, e⟩ := List.mem_filterMap.mp hp
  cases q : h.get? b with
  | none => rw [q] at e; cases e
  | some o =>
    rw [q] at e
    have e' : (b, o) = p := Option.some.inj e
    subst e'
    exact ⟨hb, q⟩
theorem Inv.pinned {pins : List (Addr × Obj)} {σ : St} {H : Hp} {s : Shared} {fp : List Addr} (I : Inv X pins σ H s) (hf : ∀ b ∈ fp, FpOk X pins H b) (ho : ∀ b ∈ fp, ∃ o, s.heap.get? b = some o ∧ ∀ v, o.data ≠ .cell v) : Inv X (pins ++ pinsAt fp s.heap) σ H s :=
  I.pins_of fun p hp => (List.mem_append.mp hp).elim (fun z => I.pin p (List.mem_append_right _ z)) fun z => by
    obtain ⟨hb, e⟩ := of_pinsAt z
    obtain ⟨f0, f1, f2, _⟩ := hf p.1 hb
    obtain ⟨o, e', d⟩ := ho p.1 hb
    rw [e] at e'; cases e'
    exact ⟨e, f0, f1, f2, d⟩
theorem Inv.unpinned {pins pl : List (Addr × Obj)} {σ : St} {H : Hp} {s : Shared} (I : Inv X (pins ++ pl) σ H s) : Inv X pins σ H s := I.pins_of fun p hp => I.pin p (List.mem_append_right _ (List.mem_append_left _ hp))
theorem ps_for {iter : Expr} {body : List Stmt} {wi : TI} {g : TG} {tb : TS} {pos : Pos} (hp : PassesOwn (model X.prog X.w) X.A X.env X.xe) (hc : X.calm = true) (hi : PI X tg iter wi) (hg : PG X tg g) (hb : PSs X body tb)
    (hs : ∀ x, foldedSetIterable iter X.env x = pure x := by intro _; rfl) : PS X (.For tg iter body [] pos) (tFor wi g tb) := by
  intro pins s σ H D I h
  refine wpAny_For (thn (hi pins s σ H _ I h) fun v s1 h1 => thn h1 fun itv s2 h2 => ?_) hs
  obtain ⟨it, fp, tn, J, H2, e, I2, T, st2, f2, W, ⟨m0, w0⟩, turn⟩ := h2
  subst e
  -- what stays true of the iterator's objects through the loop
  have stat : ∀ {H' : Hp}, (∀ b ∈ fp, H' b = none) → ∀ b ∈ fp, FpOk X pins H' b := fun hn b hb => ⟨hn b hb, (f2 b hb).2⟩
  refine codeAny_forLoop_any (fun n s' => ∃ i σ' H', Inv X pins σ' H' s' ∧ tn i s'.heap ∧ (∀ b ∈ fp, H' b = none) ∧ W i n σ' H') ?_ m0 ⟨0, σ, H2, I2, st2, fun b hb => (f2 b hb).1, w0⟩
  rintro n s3 ⟨i, σ3, H3, I3, st3, fr3, w3⟩
  rcases turn i n σ3 H3 w3 with ⟨stop, qn⟩ | ⟨go, N, hN, step⟩
  · refine wpAny_passesOwn hp (thn (T.done X rfl rfl rfl hc i pins s3 σ3 H3 X.xe I3 (stat fr3) st3 stop) fun r s4 ⟨hr, I4⟩ => ?_)
    subst hr
    exact wpAny_execs_nil ⟨σ3, H3, I4, qn⟩
  · refine wpAny_passesOwn hp (thn (T.item X rfl rfl rfl hc i pins s3 σ3 H3 X.xe I3 (stat fr3) st3 go) fun r s4 ⟨u, hr, h4⟩ => ?_)
    subst hr
    refine wpAny_passesOwn hp (thn h4 fun _ s5 ⟨x, H5, I5, r5, y5, st5, fr5⟩ => ?_)
    have I5' := I5.pinned (stat fr5) (T.obj _ _ st5)
    refine wpAny_passesOwn hp (thn (hg _ s5 σ3 H5 x u _ I5' r5 (step x H5 y5)) fun _ s6 ⟨σ6, H6, I6, q6⟩ => ?_)
    refine wpAny_passesOwn hp (thn (hb _ s6 σ6 H6 _ I6 q6) fun f s7 q7 => ?_)
    have again : ∀ {σ7 : St} {H7 : Hp}, Inv X (pins ++ pinsAt fp s5.heap) σ7 H7 s7 → N σ7 H7 → ∃ m, m < n ∧ ∃ i σ' H', Inv X pins σ' H' s7 ∧ tn i s7.heap ∧ (∀ b ∈ fp, H' b = none) ∧ W i m σ' H' := fun {σ7 H7} I7 n7 => by
      obtain ⟨m', hm, w7⟩ := hN σ7 H7 n7
      refine ⟨m', hm, i + 1, σ7, H7, I7.unpinned, T.keep _ _ _ st5 fun b hb o e => (I7.pin (b, o) (List.mem_append_right _ (List.mem_append_right _ (mem_pinsAt hb e)))).1, fun b hb => ?_, w7⟩
      obtain ⟨o, e, d⟩ := T.obj _ _ st5 b hb
      exact (I7.pin (b, o) (List.mem_append_right _ (List.mem_append_right _ (mem_pinsAt hb e)))).2.1
    cases f with
    | next => obtain ⟨σ7, H7, I7, n7⟩ := q7; exact again I7 n7
    | cont => obtain ⟨σ7, H7, I7, n7⟩ := q7; exact again I7 n7
    | brk => obtain ⟨σ7, H7, I7, q7⟩ := q7; exact ⟨σ7, H7, I7.unpinned, q7⟩
    | ret v => obtain ⟨x7, σ7, H7, I7, r7, q7⟩ := q7; exact ⟨x7, σ7, H7, I7.unpinned, r7, q7⟩
end
theorem for_range {lo : Int} {n : Nat} {g : TG} {tb : TS} {D : Ends} {σ : St} {H : Hp} (Pv : Nat → St → Hp → Prop) (h0 : Pv 0 σ H)
    (hs : ∀ i σ H, i < n → Pv i σ H → g (.int (lo + i)) σ H fun σ2 H2 => tb { D with nx := Pv (i + 1), ct := Pv (i + 1), bk := D.nx } σ2 H2) (hd : ∀ σ H, Pv n σ H → D.nx σ H) :
    ∃ W : Nat → Nat → St → Hp → Prop, (∃ m, W 0 m σ H) ∧ ∀ i m σ H, W i m σ H →
      ((Itr lo n).stop i H ∧ D.nx σ H) ∨ ((Itr lo n).go i H ∧ ∃ N : St → Hp → Prop, (∀ σ' H', N σ' H' → ∃ m', m' < m ∧ W (i + 1) m' σ' H') ∧ ∀ x H', (Itr lo n).yld i H x H' → g x σ H' fun σ2 H2 => tb { D with nx := N, ct := N, bk := D.nx } σ2 H2) := by
  refine ⟨fun i m σ H => m = n - i ∧ i ≤ n ∧ Pv i σ H, ⟨n, by simp, Nat.zero_le _, h0⟩, ?_⟩
  rintro i m σ H ⟨rfl, hi, p⟩
  by_cases hlt : i < n
  · refine .inr ⟨hlt, Pv (i + 1), fun σ' H' p' => ⟨n - (i + 1), by omega, rfl, hlt, p'⟩, fun x H' y => ?_⟩
    obtain ⟨e, y⟩ := y
    subst e y
    exact hs i σ _ hlt p
  · have e : i = n := by omega
    subst e
    exact .inl ⟨Nat.le_refl _, hd σ H p⟩
end L2
namespace L2
open PySem PySem.Spec PyProof.Rows
abbrev R2 := V → V → Hp → VK → Prop
def OpR (X : Cx) (f : Value → Value → Sem Value) (r : R2) : Prop :=
  ∀ (pins : List (Addr × Obj)) (s : Shared) (σ : St) (H : Hp) (x y : V) (v u : Value) (Q : VK), Inv X pins σ H s → RelV x v → RelV y u → r x y H Q →
    wpAny (model X.prog X.w) X.A (f v u) (EP X pins σ Q) X.xe s
def CallR (X : Cx) (f : Value) (r : List V → Hp → VK → Prop) : Prop :=
  ∀ (pins : List (Addr × Obj)) (s : Shared) (σ : St) (H : Hp) (xs : List V) (us : List Value) (Q : VK), Inv X pins σ H s → Vals xs us → r xs H Q →
    wpAny (model X.prog X.w) X.A (call f us) (EP X pins σ Q) X.xe s
def tOp (r : R2) (ta tb : TE) : TE := fun σ H Q => ta σ H fun x H1 => tb σ H1 fun y H2 => r x y H2 Q
def rI (C : Int → Int → Prop) (g : Int → Int → V) : R2 := fun x y H Q => ∃ i j, x = .int i ∧ y = .int j ∧ C i j ∧ Q (g i j) H
def rI0 (g : Int → Int → V) : R2 := fun x y H Q => ∃ i j, x = .int i ∧ y = .int j ∧ Q (g i j) H
section
variable {X : Cx} {a b c : Expr} {ta tb tc : TE} {pos : Pos}
theorem binT (ha : PE X a ta) (hb : PE X b tb) {pins : List (Addr × Obj)} {s : Shared} {σ : St} {H : Hp} {R : V → V → Hp → Prop} (I : Inv X pins σ H s)
    (h : ta σ H fun x H1 => tb σ H1 fun y H2 => R x y H2) {Q : Value → Shared → Prop} {f : Value → Value → Sem Value}
    (hf : ∀ v u s2 x y H2, Inv X pins σ H2 s2 → RelV x v → RelV y u → R x y H2 → wpAny (model X.prog X.w) X.A (f v u) Q X.xe s2) :
    wpAny (model X.prog X.w) X.A (eval a X.env) (fun v s₁ => wpAny (model X.prog X.w) X.A (eval b X.env) (fun u s₂ => wpAny (model X.prog X.w) X.A (f v u) Q X.xe s₂) X.xe s₁) X.xe s := by
  refine thn (ha pins s σ H _ I h) fun v s1 ⟨x, H1, I1, r1, q1⟩ => ?_
  refine thn (hb pins s1 σ H1 _ I1 q1) fun u s2 ⟨y, H2, I2, r2, q2⟩ => ?_
  exact hf v u s2 x y H2 I2 r1 r2 q2
theorem pe_op {op : Operator} {r : R2} (ho : OpR X (binaryOp op) r) (ha : PE X a ta) (hb : PE X b tb) : PE X (.BinOp a op b pos) (tOp r ta tb) := by
  intro pins s σ H Q I h
  exact wpAny_BinOp (binT ha hb I h fun v u s2 x y H2 I2 rx ry q => ho pins s2 σ H2 x y v u Q I2 rx ry q)
theorem opI {f : Value → Value → Sem Value} {C : Int → Int → Prop} {g : Int → Int → Int}
    (rule : ∀ (i j : Int) (t u : Tok) (s : Shared) (Q : Value → Shared → Prop) (E : Value → Shared → Prop), C i j → Q (.int (g i j) s.toks) { s with toks := s.toks + 1 } → wpAny (model X.prog X.w) X.A (f (.int i t) (.int j u)) Q E s) :
    OpR X f (rI C fun i j => .int (g i j)) := by
  intro pins s σ H x y v u Q I rx ry h
  obtain ⟨i, j, rfl, rfl, hc, q⟩ := h
  obtain ⟨t, rfl⟩ := rx
  obtain ⟨t', rfl⟩ := ry
  exact rule i j t t' s _ _ hc ⟨.int (g i j), H, I.tok _, ⟨_, rfl⟩, q⟩
theorem opI0 {f : Value → Value → Sem Value} {g : Int → Int → Int}
    (rule : ∀ (i j : Int) (t u : Tok) (s : Shared) (Q : Value → Shared → Prop) (E : Value → Shared → Prop), Q (.int (g i j) s.toks) { s with toks := s.toks + 1 } → wpAny (model X.prog X.w) X.A (f (.int i t) (.int j u)) Q E s) :
    OpR X f (rI0 fun i j => .int (g i j)) := by
  intro pins s σ H x y v u Q I rx ry h
  obtain ⟨i, j, rfl, rfl, q⟩ := h
  obtain ⟨t, rfl⟩ := rx
  obtain ⟨t', rfl⟩ := ry
  exact rule i j t t' s _ _ ⟨.int (g i j), H, I.tok _, ⟨_, rfl⟩, q⟩
theorem opB0 {f : Value → Value → Sem Value} {g : Int → Int → Bool}
    (rule : ∀ (i j : Int) (t u : Tok) (s : Shared) (Q : Value → Shared → Prop) (E : Value → Shared → Prop), Q (.bool (g i j)) s → wpAny (model X.prog X.w) X.A (f (.int i t) (.int j u)) Q E s) :
    OpR X f (rI0 fun i j => .bl (g i j)) := by
  intro pins s σ H x y v u Q I rx ry h
  obtain ⟨i, j, rfl, rfl, q⟩ := h
  obtain ⟨t, rfl⟩ := rx
  obtain ⟨t', rfl⟩ := ry
  exact rule i j t t' s _ _ ⟨.bl (g i j), H, I, rfl, q⟩
def CDiv (i j : Int) : Prop := 0 < j ∧ j < 1073741824
def CPow (i j : Int) : Prop := 0 ≤ j ∧ j ≤ 1000000 ∧ i.natAbs < 2 ^ 64
def CMul (i j : Int) : Prop := (-(2 ^ 64) < i ∧ i < 2 ^ 64) ∨ (-(2 ^ 64) < j ∧ j < 2 ^ 64)
theorem CMul.ok {i j : Int} (h : CMul i j) : IntMulOk i j := by
  rcases h with ⟨h1, h2⟩ | ⟨h1, h2⟩
  · exact .of_left (intBits_le_64 h1 h2)
  · exact .of_right (intBits_le_64 h1 h2)
theorem op_add : OpR X (binaryOp .Add) (rI0 fun i j => .int (i + j)) := opI0 fun _ _ _ _ _ _ _ q => add_int q
theorem op_sub : OpR X (binaryOp .Sub) (rI0 fun i j => .int (i - j)) := opI0 fun _ _ _ _ _ _ _ q => sub_int q
theorem op_mul : OpR X (binaryOp .Mult) (rI CMul fun i j => .int (i * j)) := opI fun _ _ _ _ _ _ _ hc q => mul_int q hc.ok
theorem op_fdiv : OpR X (binaryOp .FloorDiv) (rI CDiv fun i j => .int (i / j)) := opI fun i j _ _ _ _ _ hc q => by
  have h1 : (0 : Int) < j := hc.1
  have h2 : j < 1073741824 := hc.2
  exact floordiv_int (by omega) (by rw [Int.fdiv_eq_ediv_of_nonneg i (by omega)]; exact q) (.inl (PyProof.noPylong_small (by omega)))
theorem op_mod : OpR X (binaryOp .Mod) (rI (fun _ j => 0 < j) fun i j => .int (i % j)) := opI fun i j _ _ _ _ _ hc q => by
  have h1 : (0 : Int) < j := hc
  exact mod_int' (by omega) (by rw [Int.fmod_eq_emod_of_nonneg i (by omega)]; exact q)
theorem op_pow : OpR X (binaryOp .Pow) (rI CPow fun i j => .int (i ^ j.toNat)) := opI fun _ _ _ _ _ _ _ hc q => pow_int_small hc.1 hc.2.1 hc.2.2 q
end
def scal : V → V → Bool
  | .non, .non => true | .non, .int _ => true | .int _, .non => true | .non, .bl _ => true | .bl _, .non => true | .non, .str _ => true | .str _, .non => true
  | .int _, .int _ => true | .bl _, .bl _ => true | .str _, .str _ => true | .byt _, .byt _ => true
  | .int _, .str _ => true | .str _, .int _ => true | .bl _, .str _ => true | .str _, .bl _ => true
  | _, _ => false
def rEq : R2 := fun x y H Q => scal x y = true ∧ Q (.bl (decide (x = y))) H
def rNe : R2 := fun x y H Q => scal x y = true ∧ Q (.bl (!decide (x = y))) H
theorem dec_int {i j : Int} : decide (V.int i = V.int j) = (i == j) := by
  rw [Bool.eq_iff_iff]
  simp
theorem dec_bl {i j : Bool} : decide (V.bl i = V.bl j) = (i == j) := by
  rw [Bool.eq_iff_iff]
  simp
theorem dec_str {i j : Str} : decide (V.str i = V.str j) = (i == j) := by
  rw [Bool.eq_iff_iff]
  simp
theorem dec_byt {i j : Array UInt8} : decide (V.byt i = V.byt j) = (i.toList == j.toList) := by
  rw [Bool.eq_iff_iff]
  cases i
  cases j
  simp
section
variable {X : Cx} {a b c : Expr} {ta tb tc : TE} {pos : Pos}
theorem fin_bl {pins : List (Addr × Obj)} {σ : St} {H : Hp} {s : Shared} {Q : VK} {k k' : Bool} (I : Inv X pins σ H s) (q : Q (.bl k) H) (e : k = k') : EP X pins σ Q (.bool k') s := by
  subst e
  exact ⟨.bl k, H, I, rfl, q⟩
theorem op_eq : OpR X (compareOp .Eq) rEq := by
  intro pins s σ H x y v u Q I rx ry h
  obtain ⟨hs, q⟩ := h
  cases x with
  | non =>
    cases rx
    cases y with
    | non => cases ry; exact PySem.EqNone.eq_none_none (fin_bl I q (by simp))
    | bl j => cases ry; exact PySem.EqNone.eq_none_bool (fin_bl I q (by simp))
    | int j => obtain ⟨t', rfl⟩ := ry; exact PySem.EqNone.eq_none_int (fin_bl I q (by simp))
    | str j => obtain ⟨t', rfl⟩ := ry; exact PySem.EqNone.eq_none_str (fin_bl I q (by simp))
    | _ => exact absurd (show false = true from hs) Bool.false_ne_true
  | bl i =>
    cases rx
    cases y with
    | non => cases ry; exact PySem.EqNone.eq_bool_none (fin_bl I q (by simp))
    | bl j => cases ry; exact eq_bool (fin_bl I q dec_bl)
    | str j => obtain ⟨t', rfl⟩ := ry; exact PySem.EqMixed.eq_bool_str (fin_bl I q (by simp))
    | _ => exact absurd (show false = true from hs) Bool.false_ne_true
  | int i =>
    obtain ⟨t, rfl⟩ := rx
    cases y with
    | non => cases ry; exact PySem.EqNone.eq_int_none (fin_bl I q (by simp))
    | int j => obtain ⟨t', rfl⟩ := ry; exact eq_int (fin_bl I q dec_int)
    | str j => obtain ⟨t', rfl⟩ := ry; exact PySem.EqMixed.eq_int_str (fin_bl I q (by simp))
    | _ => exact absurd (show false = true from hs) Bool.false_ne_true
  | str i =>
    obtain ⟨t, rfl⟩ := rx
    cases y with
    | non => cases ry; exact PySem.EqNone.eq_str_none (fin_bl I q (by simp))
    | bl j => cases ry; exact PySem.EqMixed.eq_str_bool (fin_bl I q (by simp))
    | int j => obtain ⟨t', rfl⟩ := ry; exact PySem.EqMixed.eq_str_int (fin_bl I q (by simp))
    | str j => obtain ⟨t', rfl⟩ := ry; exact eq_str (fin_bl I q dec_str)
    | _ => exact absurd (show false = true from hs) Bool.false_ne_true
  | byt i =>
    obtain ⟨t, rfl⟩ := rx
    cases y with
    | byt j => obtain ⟨t', rfl⟩ := ry; exact PySem.W.eq_bytes (fin_bl I q dec_byt)
    | _ => exact absurd (show false = true from hs) Bool.false_ne_true
  | _ => cases y <;> exact absurd (show false = true from hs) Bool.false_ne_true
theorem op_ne : OpR X (compareOp .NotEq) rNe := by
  intro pins s σ H x y v u Q I rx ry h
  obtain ⟨hs, q⟩ := h
  cases x with
  | non =>
    cases rx
    cases y with
    | non => cases ry; exact PySem.EqNone.ne_none_none (fin_bl I q (by simp))
    | bl j => cases ry; exact PySem.EqNone.ne_none_bool (fin_bl I q (by simp))
    | int j => obtain ⟨t', rfl⟩ := ry; exact PySem.EqNone.ne_none_int (fin_bl I q (by simp))
    | str j => obtain ⟨t', rfl⟩ := ry; exact PySem.EqNone.ne_none_str (fin_bl I q (by simp))
    | _ => exact absurd (show false = true from hs) Bool.false_ne_true
  | bl i =>
    cases rx
    cases y with
    | non => cases ry; exact PySem.EqNone.ne_bool_none (fin_bl I q (by simp))
    | bl j => cases ry; exact ne_bool (fin_bl I q (congrArg not dec_bl))
    | str j => obtain ⟨t', rfl⟩ := ry; exact PySem.EqMixed.ne_bool_str (fin_bl I q (by simp))
    | _ => exact absurd (show false = true from hs) Bool.false_ne_true
  | int i =>
    obtain ⟨t, rfl⟩ := rx
    cases y with
    | non => cases ry; exact PySem.EqNone.ne_int_none (fin_bl I q (by simp))
    | int j => obtain ⟨t', rfl⟩ := ry; exact ne_int (fin_bl I q (congrArg not dec_int))
    | str j => obtain ⟨t', rfl⟩ := ry; exact PySem.EqMixed.ne_int_str (fin_bl I q (by simp))
    | _ => exact absurd (show false = true from hs) Bool.false_ne_true
  | str i =>
    obtain ⟨t, rfl⟩ := rx
    cases y with
    | non => cases ry; exact PySem.EqNone.ne_str_none (fin_bl I q (by simp))
    | bl j => cases ry; exact PySem.EqMixed.ne_str_bool (fin_bl I q (by simp))
    | int j => obtain ⟨t', rfl⟩ := ry; exact PySem.EqMixed.ne_str_int (fin_bl I q (by simp))
    | str j => obtain ⟨t', rfl⟩ := ry; exact ne_str (fin_bl I q (congrArg not dec_str))
    | _ => exact absurd (show false = true from hs) Bool.false_ne_true
  | byt i =>
    obtain ⟨t, rfl⟩ := rx
    cases y with
    | byt j => obtain ⟨t', rfl⟩ := ry; exact PySem.W.ne_bytes (fin_bl I q (congrArg not dec_byt))
    | _ => exact absurd (show false = true from hs) Bool.false_ne_true
  | _ => cases y <;> exact absurd (show false = true from hs) Bool.false_ne_true
theorem op_lt : OpR X (compareOp .Lt) (rI0 fun i j => .bl (decide (i < j))) := opB0 fun _ _ _ _ _ _ _ q => lt_int q
theorem op_gt : OpR X (compareOp .Gt) (rI0 fun i j => .bl (decide (j < i))) := opB0 fun _ _ _ _ _ _ _ q => gt_int q
theorem op_ge : OpR X (compareOp .GtE) (rI0 fun i j => .bl (decide (j ≤ i))) := opB0 fun _ _ _ _ _ _ _ q => ge_int q
theorem op_isN : OpR X (compareOp .Is) (fun x y H Q => y = .non ∧ Q (.bl (decide (x = .non))) H) := by
  intro pins s σ H x y v u Q I rx ry h
  obtain ⟨rfl, q⟩ := h
  cases ry
  refine is_none_gen (fin_bl I q ?_)
  cases x <;> first
    | (cases rx; rfl)
    | (obtain ⟨t, rfl⟩ := rx; rfl)
theorem nomark (b : Expr) {op : CmpOp} (h : op ≠ .In := by decide) (h2 : op ≠ .NotIn := by decide) : behindInMarks op b = false := by
  have e1 : (op == CmpOp.In) = false := by cases op <;> first | rfl | exact absurd rfl h
  have e2 : (op == CmpOp.NotIn) = false := by cases op <;> first | rfl | exact absurd rfl h2
  cases b <;> simp [behindInMarks, e1, e2]
theorem pe_cmpR {op : CmpOp} {r : R2} (ho : OpR X (compareOp op) r) (ha : PE X a ta) (hb : PE X b tb) (hm : behindInMarks op b = false) : PE X (.Compare a [op] [b] pos) (tOp r ta tb) := by
  intro pins s σ H Q I h
  exact wpAny_Compare1 (binT ha hb I h fun v u s2 x y H2 I2 rx ry q => ho pins s2 σ H2 x y v u Q I2 rx ry q) hm
def tTest (t : TE) : TT := fun σ H Q => t σ H fun x H' => ∃ k, x = .bl k ∧ Q k H'
theorem pt_cmpR {op : CmpOp} {r : R2} (ho : OpR X (compareOp op) r) (ha : PE X a ta) (hb : PE X b tb) (hm : behindInMarks op b = false) : PT X (.Compare a [op] [b] pos) (tTest (tOp r ta tb)) := by
  intro pins s σ H Q I h
  refine wpAny_isTrue_Compare1 (thn (ha pins s σ H _ I h) fun v s1 ⟨x, H1, I1, r1, q1⟩ => thn (hb pins s1 σ H1 _ I1 q1) fun u s2 ⟨y, H2, I2, r2, q2⟩ =>
    thn (ho pins s2 σ H2 x y v u _ I2 r1 r2 q2) fun c s3 ⟨z, H3, I3, r3, k, e, q3⟩ => ?_) hm
  subst e
  cases r3
  exact wpAny_truthy_bool ⟨H3, I3, q3⟩
theorem line63 : (sizeLine : Nat) < 2 ^ 63 := by rw [sizeLine_eq]; decide
theorem vals1 {x : V} {us : List Value} (r : Vals [x] us) : ∃ u, us = [u] ∧ RelV x u := by
  cases r with
  | cons r1 r2 => cases r2; exact ⟨_, rfl, r1⟩
theorem vals2 {x y : V} {us : List Value} (r : Vals [x, y] us) : ∃ u w', us = [u, w'] ∧ RelV x u ∧ RelV y w' := by
  cases r with
  | cons r1 r2 =>
    cases r2 with
    | cons r3 r4 => cases r4; exact ⟨_, _, rfl, r1, r3⟩
theorem call_abs : CallR X (.builtin "abs") (fun xs H Q => ∃ i, xs = [.int i] ∧ Q (.int (if i < 0 then -i else i)) H) := by
  intro pins s σ H xs us Q I r h
  obtain ⟨i, rfl, q⟩ := h
  obtain ⟨u, rfl, t, rfl⟩ := vals1 r
  exact call_abs_int fun u tk => ⟨.int (if i < 0 then -i else i), H, I.tok _, ⟨_, rfl⟩, q⟩
theorem call_max2 (hc : X.calm = true) : CallR X (.builtin "max") (fun xs H Q => ∃ i j, xs = [.int i, .int j] ∧ Q (.int (if j > i then j else i)) H) := by
  intro pins s σ H xs us Q I r h
  obtain ⟨i, j, rfl, q⟩ := h
  obtain ⟨u, w', rfl, ⟨t, rfl⟩, ⟨t', rfl⟩⟩ := vals2 r
  refine max_two_ints (I.ok.hd hc) fun h' tk k => ⟨_, H, I.kept k, ?_, q⟩
  by_cases hj : j > i
  · rw [if_pos hj, if_pos hj]; exact ⟨_, rfl⟩
  · rw [if_neg hj, if_neg hj]; exact ⟨_, rfl⟩
theorem call_min2 (hc : X.calm = true) : CallR X (.builtin "min") (fun xs H Q => ∃ i j, xs = [.int i, .int j] ∧ Q (.int (if j < i then j else i)) H) := by
  intro pins s σ H xs us Q I r h
  obtain ⟨i, j, rfl, q⟩ := h
  obtain ⟨u, w', rfl, ⟨t, rfl⟩, ⟨t', rfl⟩⟩ := vals2 r
  refine min_two_ints (I.ok.hd hc) fun h' tk k => ⟨_, H, I.kept k, ?_, q⟩
  by_cases hj : j < i
  · rw [if_pos hj, if_pos hj]; exact ⟨_, rfl⟩
  · rw [if_neg hj, if_neg hj]; exact ⟨_, rfl⟩
theorem call_int1 : CallR X (.type "int") (fun xs H Q => (∃ i, xs = [.int i] ∧ Q (.int i) H) ∨ ∃ k, xs = [.bl k] ∧ Q (.int (if k then 1 else 0)) H) := by
  intro pins s σ H xs us Q I r h
  rcases h with ⟨i, rfl, q⟩ | ⟨k, rfl, q⟩
  · obtain ⟨u, rfl, t, rfl⟩ := vals1 r
    exact call_int_int ⟨.int i, H, I, ⟨_, rfl⟩, q⟩
  · obtain ⟨u, rfl, r1⟩ := vals1 r
    cases r1
    exact call_int_bool ⟨.int (if k then 1 else 0), H, I.tok _, ⟨_, rfl⟩, q⟩
end
end L2
namespace L2
open PySem PySem.Spec PyProof.Rows
structure ObjM (h : Heap) (x dx C : Addr) (mA : Str → Option Value) : Prop where
  obj : h.get? x = some (PySem.W.instObj C dx)
  ns : h.Ns1 dx mA
  ne : dx ≠ x
theorem lookIn_ns {h : Heap} {dx : Addr} {mA : Str → Option Value} (n : h.Ns1 dx mA) : ∃ od, h.get? dx = some od ∧ ∀ name, PySem.W.lookIn name od = some (mA name) := by
  obtain ⟨o, es, ep, ho, hd, hk, _, hm⟩ := n
  refine ⟨o, ho, fun name => ?_⟩
  have e := hm name
  unfold nsFind findBy at e
  rw [← Array.find?_toList] at e
  unfold PySem.W.lookIn
  rw [hd]
  dsimp only
  split
  · rename_i y q
    rw [q] at e
    exact congrArg some e
  · rename_i q
    rw [q] at e
    have a : es.toList.any (·.refKey) = false := by
      rw [List.any_eq_false]
      intro y hy
      obtain ⟨z, t, hkey⟩ := hk y (Array.mem_toList_iff.mp hy)
      simp [DictEntry.refKey, hkey]
    have a' : ¬ es.toList.any (·.refKey) = true := by rw [a]; exact Bool.false_ne_true
    rw [if_neg a']
    exact congrArg some e
theorem ObjM.look {h : Heap} {x dx C : Addr} {mA : Str → Option Value} (I : ObjM h x dx C mA) : ∃ od, PySem.W.InstAt h x (PySem.W.instObj C dx) C (some od) ∧ ∀ name, PySem.W.lookIn name od = some (mA name) :=
  let ⟨od, ho, hl⟩ := lookIn_ns I.ns
  ⟨od, ⟨I.obj, rfl, rfl, ho⟩, hl⟩
section
variable {P : Program} {w : World} {H H' : Hp} {h h' : Heap} {a C dx : Addr} {fs fs' : List (Str × V)}
theorem ins_get (hok : HOk P w H h) (e : H a = some (.ins C dx fs)) : ∃ mA, ObjM h a dx C mA ∧ (∀ f, RelO (fs.lookup f) (mA f)) ∧ PySem.Within mA (fs.map (·.1)) ∧ fs.length ≤ 1000 ∧ H dx = some (.own a) := by
  obtain ⟨d, z, ne, ob, mA, n, r, q⟩ := (show ObjOk P w H h a (.ins C dx fs) from hok a _ e)
  exact ⟨mA, ⟨ob, n, ne⟩, r, q, z, d⟩
end
structure Cls (K : PySem.W.Frag) (C : Addr) : Prop where
  pg : PySem.W.plainGet K C Str.empty = true
  hd : PySem.W.hasDictIn K C = true
  po : PySem.W.plainOver K C = true
  sa : PySem.W.findIn K (.ref C) "__setattr__" = some (some (.builtin "object.__setattr__"))
theorem Cls.get {K : PySem.W.Frag} {C : Addr} (c : Cls K C) (f : Str) : PySem.W.plainGet K C f = true := c.pg
section
variable {X : Cx} {pins : List (Addr × Obj)} {σ : St} {H : Hp} {s : Shared} {A : Around} {E : Value → Shared → Prop} {Q : Value → Shared → Prop} {c : Value} {b : Bool}
inductive TyOf (K : PySem.W.Frag) (H : Hp) : V → Value → Prop where
  | non : TyOf K H .non (.type "NoneType")
  | bl (x : Bool) : TyOf K H (.bl x) (.type "bool")
  | int (i : Int) : TyOf K H (.int i) (.type "int")
  | str (x : Str) : TyOf K H (.str x) (.type "str")
  | flt (x : UInt64) : TyOf K H (.flt x) (.type "float")
  | lst {a : Addr} {xs : List V} (e : H a = some (.lst xs)) : TyOf K H (.ref a) (.type "list")
  | frz {a : Addr} {o : Obj} {xs : List V} (e : H a = some (.frz o (.lst xs))) : TyOf K H (.ref a) (.type "list")
  | tup {a : Addr} {xs : List V} (e : H a = some (.tup xs)) : TyOf K H (.ref a) (.type "tuple")
  | dK {a : Addr} {kvs : List (Key × V)} (e : H a = some (.dK kvs)) : TyOf K H (.ref a) (.type "dict")
  | dT {a : Addr} {kvs : List (List Key × V)} (e : H a = some (.dT kvs)) : TyOf K H (.ref a) (.type "dict")
  | ins {a C dx : Addr} {fs : List (Str × V)} (e : H a = some (.ins C dx fs)) (cl : Cls K C) (ha : PySem.W.findIn K (.ref C) "__class__" = some (some (.builtin "object.__class__")))
      (hn : PySem.W.specialIn K (.builtin "object.__class__") "__get__" = some (some (.builtin "getset_descriptor.__get__"))) (htk : PySem.W.takesIn K (.builtin "object.__class__") = some true)
      (hm : PySem.W.mroIn K C (.type "object") = some true) : TyOf K H (.ref a) (.ref C)
theorem isinst_ok {x : V} {u t : Value} (I : Inv X pins σ H s) (rx : RelV x u) (ty : TyOf X.K H x t) (e : PySem.W.kitOne X.K t c = some b) (h : ∀ tk, Q (.bool b) { s with toks := tk }) :
    wpAny (model X.prog X.w) A (call (.builtin "isinstance") [u, c]) Q E s := by
  cases ty with
  | non => cases (show u = Value.none from rx); exact PySem.W.kia_one PySem.W.kitx_none I.kIn True.intro e (fun z => nomatch z) h
  | bl y => cases (show u = Value.bool y from rx); exact PySem.W.kia_one PySem.W.kitx_bool I.kIn True.intro e (fun z => nomatch z) h
  | int i => obtain ⟨t, q⟩ := (show ∃ t, u = Value.int i t from rx); cases q; exact PySem.W.kia_one PySem.W.kitx_int I.kIn True.intro e (fun z => nomatch z) h
  | str y => obtain ⟨t, q⟩ := (show ∃ t, u = Value.str y t from rx); cases q; exact PySem.W.kia_one PySem.W.kitx_str I.kIn True.intro e (fun z => nomatch z) h
  | flt y => obtain ⟨t, q⟩ := (show ∃ t, u = Value.float y t from rx); cases q; exact PySem.W.kia_one PySem.W.kitx_float I.kIn True.intro e (fun z => nomatch z) h
  | @lst a xs ea =>
    cases (show u = Value.ref a from rx)
    obtain ⟨_, _, n, _, h1⟩ := (show ObjOk X.prog X.w H s.heap a (.lst xs) from I.hok a _ ea)
    exact PySem.W.kia_one PySem.W.kitx_list I.kIn ⟨_, h1, rfl⟩ e (fun z => nomatch z) h
  | @frz a ob xs ea =>
    cases (show u = Value.ref a from rx)
    obtain ⟨_, _, _, n, _, h1⟩ := (show ObjOk X.prog X.w H s.heap a (.frz ob (.lst xs)) from I.hok a _ ea)
    exact PySem.W.kia_one PySem.W.kitx_list I.kIn ⟨_, h1, rfl⟩ e (fun z => nomatch z) h
  | @tup a xs ea =>
    cases (show u = Value.ref a from rx)
    obtain ⟨_, _, _, p⟩ := (show ObjOk X.prog X.w H s.heap a (.tup xs) from I.hok a _ ea)
    obtain ⟨o, h1, h2, _⟩ := p
    exact PySem.W.kia_one PySem.W.kitx_tuple I.kIn ⟨o, h1, h2⟩ e (fun z => nomatch z) h
  | @dK a kvs ea =>
    cases (show u = Value.ref a from rx)
    obtain ⟨_, _, vs, _, p⟩ := (show ObjOk X.prog X.w H s.heap a (.dK kvs) from I.hok a _ ea)
    obtain ⟨o, es, ep, h1, h2, _⟩ := p
    exact PySem.W.kia_one PySem.W.kitx_dict I.kIn ⟨o, h1, h2.1⟩ e (fun z => nomatch z) h
  | @dT a kvs ea =>
    cases (show u = Value.ref a from rx)
    obtain ⟨_, _, xs, _, o, es, ep, h1, h2, _⟩ := (show ObjOk X.prog X.w H s.heap a (.dT kvs) from I.hok a _ ea)
    exact PySem.W.kia_one PySem.W.kitx_dict I.kIn ⟨o, h1, h2.1⟩ e (fun z => nomatch z) h
  | @ins a C dx fs ea cl ha hn htk hm =>
    cases (show u = Value.ref a from rx)
    obtain ⟨mA, O, _⟩ := ins_get I.hok ea
    obtain ⟨od, J, _⟩ := O.look
    exact PySem.W.kia_one (PySem.W.kitx_own (cl.get _) cl.hd ha hn htk hm) I.kIn J e (fun z => nomatch z) h
end
end L2
namespace L2
open PySem PySem.Spec PyProof.Rows
theorem deep_gd {A : Around} {env : Env} (h : A.guards = some []) : (A.deeper env).guards = some [] := by
  first | exact h | simp [Around.deeper, h]
structure Room (k : Nat) (A : Around) : Prop where
  hd : A.handled = none
  dp : A.depth + 3 * k + 5 < recursionLimit
  un : A.units + 16 * k + 200 < cLine
  gd : A.guards = some []
theorem Room.mono {j k : Nat} {A : Around} (r : Room k A) (h : j ≤ k) : Room j A := ⟨r.hd, by have := r.dp; omega, by have := r.un; omega, r.gd⟩
theorem Room.deeper {k : Nat} {A : Around} (r : Room (k + 1) A) (env : Env) : Room k (A.deeper env) :=
  ⟨r.hd, by have := r.dp; show A.depth + 1 + 3 * k + 5 < _; omega, by have := r.un; show A.units + 3 + 16 * k + 200 < _; omega, deep_gd r.gd⟩
theorem Room.depth {k : Nat} {A : Around} (r : Room k A) : A.depth < recursionLimit := by have := r.dp; omega
theorem Room.units {k : Nat} {A : Around} (r : Room k A) : A.units + 64 < cLine := by have := r.un; omega
def tNil : TA := fun _ H Q => Q [] H
def tCons (ta : TE) (tr : TA) : TA := fun σ H Q => ta σ H fun x H1 => tr σ H1 fun xs H2 => Q (x :: xs) H2
section
variable {X : Cx} {e : Expr} {es : List Expr} {te : TE} {t : TA} {pos : Pos}
theorem pa_nil : PA X [] tNil := fun _ _ _ _ H Q I h => Calls.spliced_nil ⟨[], H, I, .nil, h⟩
theorem pa_cons (ha : PE X e te) (hr : PA X es t) (hs : starEach (e :: es) X.env = (false, eval e X.env) :: starEach es X.env := by rfl) : PA X (e :: es) (tCons te t) := by
  intro pos pins s σ H Q I h
  rw [hs]
  show wpAny _ _ (spliced ((false, eval e X.env) :: backTo pos (starEach es X.env))) _ _ s
  refine Calls.spliced_cons (thn (ha pins s σ H _ I h) fun u s1 ⟨x, H1, I1, r1, q1⟩ => ?_)
  exact thn (hr pos pins s1 σ H1 _ I1 q1) fun us s2 ⟨xs, H2, I2, r2, q2⟩ => ⟨x :: xs, H2, I2, .cons r1 r2, q2⟩
def tTup (t : TA) : TE := fun σ H Q => t σ H fun xs H1 => xs.length ≤ sizeLine ∧ ∀ p, H1 p = none → Q (.ref p) (upd H1 p (.tup xs))
def tLst (t : TA) : TE := fun σ H Q => t σ H fun xs H1 => xs.length ≤ sizeLine ∧ ∀ p, H1 p = none → Q (.ref p) (upd H1 p (.lst xs))
theorem pe_tup {x1} (h : PA X es t) : PE X (.Tuple es x1 pos) (tTup t) := by
  intro pins s σ H Q I hq
  refine wpAny_Tuple_spliced (thn (h pos pins s σ H _ I hq) fun us s1 ⟨xs, H1, I1, r, z, q⟩ => ⟨by rw [← r.length]; exact z, ?_⟩)
  have hf : H1 s1.heap.objs.size = none := I1.hok.fresh (Nat.le_refl _)
  refine ⟨.ref s1.heap.objs.size, upd H1 s1.heap.objs.size (.tup xs), I1.laid (t' := s1.toks) (fun b u e => Heap.get?_push_of_some _ e) (Nat.le_refl _) ?_, rfl, q _ hf⟩
  exact ⟨z, us, r, ⟨_, Heap.get?_push_size _ rfl, rfl, _, rfl⟩⟩
theorem pe_lst (h : PA X es t) : PE X (.List es pos) (tLst t) := by
  intro pins s σ H Q I hq
  refine wpAny_List_spliced (thn (h pos pins s σ H _ I hq) fun us s1 ⟨xs, H1, I1, r, z, q⟩ => ⟨by rw [← r.length]; exact z, ?_⟩)
  have hf : H1 s1.heap.objs.size = none := I1.hok.fresh (Nat.le_refl _)
  refine ⟨.ref s1.heap.objs.size, upd H1 s1.heap.objs.size (.lst xs), I1.laid (t' := s1.toks) (fun b u e => Heap.get?_push_of_some _ e) (Nat.le_refl _) ?_, rfl, q _ hf⟩
  exact ⟨z, us, 0, r, Heap.get?_push_size _ rfl⟩
end
abbrev Sp := List V → Hp → VK → XK → Prop
abbrev CXT := List Env → Hp → Shared → XK → Value → Shared → Prop
structure Env0 (P : Program) (w : World) (K : PySem.W.Frag) (mg : Str → Option Value) (base : Heap) (A : Around) (outer : List Env) (s : Shared) (H : Hp) : Prop where
  frames : A.frames = some outer
  mod : Mod K mg base
  bs : ∀ b o, base.get? b = some o → s.heap.get? b = some o ∧ H b = none
  bsz : base.objs.size ≤ s.heap.objs.size
  funs : s.heap.FunFrames base outer
  frf : ∀ b ∈ frs outer, H b = none
  hok : HOk P w H s.heap
  bare : AllBare s.gens
def CE (outer : List Env) (P : Program) (w : World) (H : Hp) (s : Shared) (Q : VK) (u : Value) (s' : Shared) : Prop :=
  ∃ v H', s'.os = s.os ∧ AllBare s'.gens ∧ Un (frs outer) [] H H' s.heap s'.heap ∧ HOk P w H' s'.heap ∧ RelV v u ∧ Q v H'
def CR (CX : CXT) (outer : List Env) (P : Program) (w : World) (H : Hp) (s : Shared) (Q : VK) (E : XK) (r : Result) (s' : Shared) : Prop :=
  match r with
  | .ok (.ret u) => CE outer P w H s Q u s'
  | .ok _ => False
  | .error e => CX outer H s E e s'
structure FnOk (P : Program) (w : World) (K : PySem.W.Frag) (mg : Str → Option Value) (base : Heap) (CX : CXT) (k : Nat) (f : Addr) (fd : FuncData) (ps : List Str) (sp : Sp) : Prop where
  len : ∀ vs H Q E, sp vs H Q E → vs.length = ps.length
  run : ∀ (A : Around) (outer : List Env) (s : Shared) (H : Hp) (args : Args) (us : List Value) (vs : List V) (Q : VK) (E : XK), Room k A → Env0 P w K mg base A outer s H → BindsTo s fd args (ps.zip us) → Vals vs us → sp vs H Q E →
    codeAny (model P w) A (.call (.ref f) args) (CR CX outer P w H s Q E) s
section
variable {X : Cx} {pins : List (Addr × Obj)} {σ : St} {H : Hp} {s s' : Shared}
theorem Inv.env0 (I : Inv X pins σ H s) : Env0 X.prog X.w X.K X.mg X.base X.A X.stack s H :=
  ⟨I.ok.frames, I.ok.mod, I.bs, Nat.le_trans I.ok.bsz I.sz, I.stack, I.stkFree, I.hok, I.bare⟩
theorem Inv.after {Q : VK} {u : Value} (I : Inv X pins σ H s) (h : CE X.stack X.prog X.w H s Q u s') : EP X pins σ Q u s' := by
  obtain ⟨v, H', os, bare, un, hok, r, q⟩ := h
  obtain ⟨hh, g, d, t, os'⟩ := s'
  obtain rfl : os' = s.os := os
  exact ⟨v, H', I.call (h' := hh) (g' := g) (d' := d) (t' := t) (ch := []) un hok bare (fun b z => absurd z (by simp)), r, q⟩
end
def tCall (sp : Sp) (dvs : List V) (E : XK) (t : TA) : TE := fun σ H Q => t σ H fun vs H1 => sp (vs ++ dvs) H1 Q E
def Binds (K : PySem.W.Frag) (fd : FuncData) (ps : List Str) (ds : List Value) : Prop :=
  ∀ (s : Shared) (us : List Value), K.In s.heap → (us ++ ds).length = ps.length → BindsTo s fd ⟨us, []⟩ (ps.zip (us ++ ds))
theorem Binds.all {K : PySem.W.Frag} {fd : FuncData} {ps : List Str} (h : ∀ us : List Value, us.length = ps.length → bindArgs fd ⟨us, []⟩ = pure (ps.zip us)) : Binds K fd ps [] := fun s us _ hl => by
  rw [List.append_nil] at hl ⊢
  exact .of_eq (h us hl)
def Passes (CX : CXT) (X : Cx) (E : XK) : Prop := ∀ (pins : List (Addr × Obj)) (σ : St) (H : Hp) (s : Shared) (e : Value) (s' : Shared), Inv X pins σ H s → CX X.stack H s E e s' → X.xe e s'
section
variable {X : Cx} {CX : CXT} {k : Nat} {f C : Addr} {fd : FuncData} {ps : List Str} {sp : Sp} {dvs : List V} {ds : List Value} {E : XK} {x m : Str} {p pos apos : Pos} {e o : Expr} {es : List Expr} {ta : TE} {t : TA}
theorem run_fn {pins : List (Addr × Obj)} {σ : St} {H : Hp} {s : Shared} {Q : VK} {us : List Value} {vs : List V} (F : FnOk X.prog X.w X.K X.mg X.base CX k f fd ps sp) (hr : Room k X.A) (hb : Binds X.K fd ps ds) (hd : Vals dvs ds) (hx : Passes CX X E)
    (I : Inv X pins σ H s) (r : Vals vs us) (h : sp (vs ++ dvs) H Q E) : wpAny (model X.prog X.w) X.A (call (.ref f) us) (EP X pins σ Q) X.xe s := by
  have r2 : Vals (vs ++ dvs) (us ++ ds) := r.append hd
  have hl : (us ++ ds).length = ps.length := by rw [← r2.length]; exact F.len _ _ _ _ h
  refine wpAny_call (codeAny_mono (F.run X.A X.stack s H ⟨us, []⟩ (us ++ ds) (vs ++ dvs) Q E hr I.env0 (hb s us I.kIn hl) r2 h) fun r s' hq => ?_)
  cases r with
  | error e => exact hx pins σ H s e s' I hq
  | ok fl =>
    cases fl with
    | ret u => exact I.after hq
    | next => exact False.elim hq
    | brk => exact False.elim hq
    | cont => exact False.elim hq
theorem pe_call (F : FnOk X.prog X.w X.K X.mg X.base CX k f fd ps sp) (hr : Room k X.A) (hg : Gl X x) (hm : X.mg x = some (.ref f)) (hk : PySem.W.keepIn X.K (.ref f) = true) (hb : Binds X.K fd ps ds) (hd : Vals dvs ds) (hx : Passes CX X E)
    (ha : PA X (e :: es) t) (hdb : (x == ("__debug__" : Str)) = false := by decide) (he : starEach (e :: es) X.env = (false, eval e X.env) :: starEach es X.env := by rfl) (hpl : (backTo pos (starEach es X.env)).any (·.1) = false := by rfl) :
    PE X (.Call (.Name x p) (e :: es) [] pos) (tCall sp dvs E t) := by
  intro pins s σ H Q I h
  refine wpAny_Call_Name_kw (ld_glob I hg hm ?_ hdb)
  refine PySem.W.callWith_K (h₀ := X.base) I.ok.mod.kin hk (thn (ha pos pins s σ H _ I h) fun us s1 ⟨vs, H1, I1, r, q⟩ => ⟨I1.kIn, ?_⟩) he hpl
  exact run_fn F hr hb hd hx I1 r q
end
structure FnScope (N P : List Str) (sc : Scope) : Prop where
  kind : sc.kind = .function
  co : sc.isCoroutine = false
  gen : sc.isGenerator = false
  nd : N.Nodup
  pre : N.take P.length = P
  par : ∀ x ∈ P, sc.names.lookup x = some .local ∨ sc.names.lookup x = some .cell
  nofree : ∀ y ∈ sc.names, y.2 ≠ .free
theorem bindL_out {kindOf : Str → Option NameKind} {x : Str} : ∀ {binds : List (Str × Value)} {m : Str → Option Value}, (∀ v, (x, v) ∉ binds) → bindL kindOf binds m x = m x
  | [], _, _ => rfl
  | (n, v) :: r, m, h => by
    unfold bindL
    rw [bindL_out fun w hw => h w (List.mem_cons_of_mem _ hw)]
    split
    · have : x ≠ n := by rintro rfl; exact h v List.mem_cons_self
      simp [this]
    · rfl
theorem bindC_out {kindOf : Str → Option NameKind} {x : Str} : ∀ {binds : List (Str × Value)} {m : Str → Option Value}, (∀ v, (x, v) ∉ binds) → bindC kindOf binds m x = m x
  | [], _, _ => rfl
  | (n, v) :: r, m, h => by
    unfold bindC
    rw [bindC_out fun w hw => h w (List.mem_cons_of_mem _ hw)]
    split
    · rfl
    · have : x ≠ n := by rintro rfl; exact h v List.mem_cons_self
      simp [this]
theorem bindL_get {kindOf : Str → Option NameKind} {x : Str} {v : Value} : ∀ {P : List Str} {vs : List Value} {i : Nat} {m : Str → Option Value}, P.Nodup → P[i]? = some x → vs[i]? = some v → kindOf x = some .local →
    bindL kindOf (P.zip vs) m x = some v
  | [], _, _, _, _, h, _, _ => by simp at h
  | _ :: _, [], _, _, _, _, h, _ => by simp at h
  | p :: P, w :: vs, 0, m, nd, h1, h2, hk => by
    simp at h1 h2; subst h1; subst h2
    show bindL kindOf ((p, w) :: P.zip vs) m p = _
    unfold bindL
    rw [bindL_out fun v hv => (List.nodup_cons.mp nd).1 (List.of_mem_zip hv).1, if_pos hk]
    simp
  | p :: P, w :: vs, i + 1, m, nd, h1, h2, hk => by
    show bindL kindOf ((p, w) :: P.zip vs) m x = _
    unfold bindL
    exact bindL_get (i := i) (List.nodup_cons.mp nd).2 (by simpa using h1) (by simpa using h2) hk
theorem bindC_get {kindOf : Str → Option NameKind} {x : Str} {v : Value} : ∀ {P : List Str} {vs : List Value} {i : Nat} {m : Str → Option Value}, P.Nodup → P[i]? = some x → vs[i]? = some v → kindOf x ≠ some .local →
    bindC kindOf (P.zip vs) m x = some v
  | [], _, _, _, _, h, _, _ => by simp at h
  | _ :: _, [], _, _, _, _, h, _ => by simp at h
  | p :: P, w :: vs, 0, m, nd, h1, h2, hk => by
    simp at h1 h2; subst h1; subst h2
    show bindC kindOf ((p, w) :: P.zip vs) m p = _
    unfold bindC
    rw [bindC_out fun v hv => (List.nodup_cons.mp nd).1 (List.of_mem_zip hv).1, if_neg hk]
    simp
  | p :: P, w :: vs, i + 1, m, nd, h1, h2, hk => by
    show bindC kindOf ((p, w) :: P.zip vs) m x = _
    unfold bindC
    exact bindC_get (i := i) (List.nodup_cons.mp nd).2 (by simpa using h1) (by simpa using h2) hk
def start (N : List Str) (vs : List V) : St := vs.map some ++ List.replicate (N.length - vs.length) none
def cxOf (CX : CXT) (P : Program) (w : World) (K : PySem.W.Frag) (mg : Str → Option Value) (base : Heap) (N : List Str) (qual : Str) (scope : Scope) (f : Addr) (cd : Value) (A : Around) (outer : List Env) (s : Shared) (H : Hp) (E : XK) : Cx where
  prog := P
  w := w
  K := K
  mg := mg
  base := base
  A := A.deeper (envOfC qual scope s.heap.objs.size f cd)
  N := N
  s₀ := s
  H₀ := H
  env := envOfC qual scope s.heap.objs.size f cd
  outer := outer
  stack := envOfC qual scope s.heap.objs.size f cd :: outer
  ex := []
  calm := true
  fn := fun _ => true
  pn := []
  xe := fun e s' => wpAny (model P w) (A.deeper (envOfC qual scope s.heap.objs.size f cd)) (leaving (envOfC qual scope s.heap.objs.size f cd) e) (fun _ s'' => CX outer H s E e s'') (fun e' s'' => CX outer H s E e' s'') s'
theorem cell_has {sc : Scope} {n : Nat} {x : Str} (h : sc.names.lookup x = some .cell) : ∃ c, (cellsFrom n sc.names []).lookup x = some c := by
  have q := PySem.W.cellsFrom_some sc.names n [] (.inl h)
  exact Option.isSome_iff_exists.mp q
theorem inv_start {CX : CXT} {P : Program} {w : World} {K : PySem.W.Frag} {mg : Str → Option Value} {base : Heap} {N ps : List Str} {qual : Str} {scope : Scope} {f : Addr} {cd : Value} {A : Around} {outer : List Env} {s s1 : Shared} {H : Hp} {E : XK} {us : List Value} {vs : List V}
    (S : FnScope N ps scope) (hd : A.handled = none) (e0 : Env0 P w K mg base A outer s H) (hl : vs.length = ps.length) (r : Vals vs us)
    (x : InCallC s s.heap.objs.size (bindL (envOfC qual scope s.heap.objs.size f cd).kindOf (ps.zip us) fun _ => none) (cellsFrom (s.heap.objs.size + 1) scope.names []) (bindC (envOfC qual scope s.heap.objs.size f cd).kindOf (ps.zip us) fun _ => none) s1) :
    Inv (cxOf CX P w K mg base N qual scope f cd A outer s H E) [] (start N vs) H s1 := by
  have hpl : ps.length ≤ N.length := by have := congrArg List.length S.pre; rw [List.length_take] at this; omega
  obtain ⟨h1, tk, rfl, hk⟩ := x.done
  have noA : ∀ b : Addr, b ∉ (cxOf CX P w K mg base N qual scope f cd A outer s H E).ex := fun b z => absurd (show b ∈ ([] : List Addr) from z) (by simp)
  refine ⟨⟨e0.mod, S.kind, rfl, rfl, Nat.le_refl _, fun y z c h1 h2 => ?_, fun y hy => ?_, fun y c _ h => ?_, fun _ => hd, Around.frames_deeper e0.frames, .inr ⟨rfl, rfl⟩, fun b z => absurd z (noA b), e0.bs, e0.bsz, fun b _ _ => noA b, fun b z => absurd z (noA b), e0.funs, e0.frf⟩,
    rfl, e0.bare, Un.kept hk, ⟨_, x.toInCall.ns, fun i y v h1 h2 h3 => ?_⟩, fun y c h => ⟨_, x.cell y c h⟩, e0.hok.fresh (Nat.le_refl _), fun y c h => ?_, fun p hp => absurd (show p ∈ ([] : List (Addr × Obj)) from hp) (by simp), e0.hok.kept hk, ?_⟩
  · exact name_of_addr x.apart (PySem.mem_of_lookup h1) (PySem.mem_of_lookup h2)
  · have hy : scope.names.lookup y = some .cell ∨ scope.names.lookup y = some .free := hy
    rcases hy with hy | hy
    · exact cell_has hy
    · exact absurd rfl (S.nofree _ (PySem.mem_of_lookup hy))
  · exact Nat.le_of_lt (x.above y c (PySem.mem_of_lookup h))
  · have hi : i < vs.length := by
      unfold start at h2
      by_cases hi : i < vs.length
      · exact hi
      · rw [List.getElem?_append_right (by simpa using hi)] at h2
        rw [List.getElem?_replicate] at h2
        split at h2 <;> cases h2
    have ha : vs[i]? = some v := by
      unfold start at h2
      rw [List.getElem?_append_left (by simpa using hi), List.getElem?_map] at h2
      cases e : vs[i]? with
      | none => rw [e] at h2; cases h2
      | some a => rw [e] at h2; cases h2; rfl
    obtain ⟨u, hu, rv⟩ := r.get ha
    have hp : ps[i]? = some y := by
      rw [← S.pre, List.getElem?_take_of_lt (by omega)]; exact h1
    have ndP : ps.Nodup := by rw [← S.pre]; exact S.nd.sublist (List.take_sublist _ _)
    refine ⟨u, rv, ?_⟩
    rcases S.par y (List.mem_of_getElem? hp) with k | k
    · exact .inl ⟨k, bindL_get ndP hp hu k⟩
    · obtain ⟨c, e⟩ := cell_has (n := s.heap.objs.size + 1) k
      refine .inr ⟨.inl k, c, e, ?_⟩
      have q := x.cell y c e
      rw [bindC_get ndP hp hu (by show scope.names.lookup y ≠ _; rw [k]; decide)] at q
      exact q
  · exact e0.hok.fresh (Nat.le_of_lt (x.above y c (PySem.mem_of_lookup h)))
  · unfold start
    show _ = N.length
    rw [List.length_append, List.length_map, List.length_replicate]
    omega
theorem fn_of {CX : CXT} {P : Program} {w : World} {K : PySem.W.Frag} {mg : Str → Option Value} {base : Heap} {k : Nat} {f : Addr} {name qual : Str} {params : Arguments} {body : List Stmt} {scope : Scope} {dV kV doc pm cdv ct oc : Value} {an od : Option Addr}
    {osl : Array (Option Value)} {N ps : List Str} {sp : Sp} (lk : K.lookup f = some ⟨oc, od, .func (PySem.W.fnOf name qual params body scope dV kV doc pm an cdv ct), osl⟩) (hcd : PySem.W.codeIn K cdv qual = true) (S : FnScope N ps scope)
    (len : ∀ vs H Q E, sp vs H Q E → vs.length = ps.length)
    (hbody : ∀ (A : Around) (outer : List Env) (s : Shared) (H : Hp) (vs : List V) (Q : VK) (E : XK), Room k (A.deeper (envOfC qual scope s.heap.objs.size f cdv)) → sp vs H Q E →
      ∃ t, PSs (cxOf CX P w K mg base N qual scope f cdv A outer s H E) body t ∧ t { nx := fun _ H' => Q .non H', rt := Q } (start N vs) H) :
    FnOk P w K mg base CX (k + 1) f (PySem.W.fnOf name qual params body scope dV kV doc pm an cdv ct) ps sp := by
  refine ⟨len, fun A outer s H args us vs Q E hr e0 hb r hsp => ?_⟩
  have hl := len _ _ _ _ hsp
  have KX : K.In s.heap := e0.mod.kin.keeps fun b o e => (e0.bs b o e).1
  have lim : s.heap.NoLimit := e0.mod.nolimit.keeps fun b o e => (e0.bs b o e).1
  have hkind : ∀ y ∈ ps.zip us, scope.names.lookup y.1 = some .local ∨ (scope.names.lookup y.1 = some .cell ∧ ((cellsFrom (s.heap.objs.size + 1) scope.names []).lookup y.1).isSome = true) := fun ⟨n, v⟩ hy => by
    rcases S.par n (List.of_mem_zip hy).1 with q | q
    · exact .inl q
    · exact .inr ⟨q, PySem.W.cellsFrom_some _ _ _ (.inl q)⟩
  refine codeAny_call_function hr.depth (KX _ _ lk) rfl S.co S.gen rfl (PySem.W.codeRec_of KX hcd) (hb _ _ _ _ ?_)
  refine wpAny_newFunctionEnv_cells S.kind hkind fun env he s1 x => ?_
  subst he
  refine ⟨lim.keeps x.toInCall.keep, codeAny_func ?_⟩
  obtain ⟨t, ht, hq⟩ := hbody A outer s H vs Q E (hr.deeper _) hsp
  have I : Inv (cxOf CX P w K mg base N qual scope f cdv A outer s H E) [] (start N vs) H s1 := inv_start S hr.hd e0 hl r x
  refine wpAny_mono (ht [] s1 (start N vs) H _ I hq) (fun fl s' hs => ?_) fun e s' hs => hs
  have fin : ∀ {σ' : St} {H' : Hp} {v : V} {u : Value}, Inv (cxOf CX P w K mg base N qual scope f cdv A outer s H E) [] σ' H' s' → RelV v u → Q v H' → CE outer P w H s Q u s' :=
    fun {σ' H' v u} J rv q => ⟨v, H', J.os, J.bare, J.base, J.hok, rv, q⟩
  cases fl with
  | ret u =>
    obtain ⟨v, σ', H', J, rv, q⟩ := hs
    exact fin J rv q
  | next =>
    obtain ⟨σ', H', J, q⟩ := hs
    exact fin (v := V.non) (u := Value.none) J rfl q
  | brk =>
    obtain ⟨_, _, _, q⟩ := hs
    exact False.elim q
  | cont =>
    obtain ⟨_, _, _, q⟩ := hs
    exact False.elim q
end L2
namespace L2
open PySem PySem.Spec PyProof.Rows
section
variable {X : Cx} {x : Str} {p pos : Pos} {e : Expr} {es : List Expr} {t : TA} {id T : String} {r : List V → Hp → VK → Prop}
def tCB (r : List V → Hp → VK → Prop) (t : TA) : TE := fun σ H Q => t σ H fun vs H1 => r vs H1 Q
theorem pe_callB (hc : CallR X (.builtin id) r) (hg : Gl X x) (hm : X.mg x = none) (hv : bootBuiltins x = some (.builtin id)) (ha : PA X (e :: es) t) (hn : x ≠ "__name__" := by decide) (hdb : (x == ("__debug__" : Str)) = false := by decide)
    (he : starEach (e :: es) X.env = (false, eval e X.env) :: starEach es X.env := by rfl) (hpl : (backTo pos (starEach es X.env)).any (·.1) = false := by rfl) : PE X (.Call (.Name x p) (e :: es) [] pos) (tCB r t) := by
  intro pins s σ H Q I h
  refine wpAny_Call_Name_kw (ld_blt I hg hm hv ?_ hn hdb)
  exact PyProof.Rows.callWith_builtin1 (thn (ha pos pins s σ H _ I h) fun us s1 ⟨vs, H1, I1, r1, q1⟩ => hc pins s1 σ H1 vs us Q I1 r1 q1) he hpl
theorem pe_callTy (hc : CallR X (.type T) r) (hg : Gl X x) (hm : X.mg x = none) (hv : bootBuiltins x = some (.type T)) (ha : PA X (e :: es) t) (hn : x ≠ "__name__" := by decide) (hdb : (x == ("__debug__" : Str)) = false := by decide)
    (he : starEach (e :: es) X.env = (false, eval e X.env) :: starEach es X.env := by rfl) (hpl : (backTo pos (starEach es X.env)).any (·.1) = false := by rfl) : PE X (.Call (.Name x p) (e :: es) [] pos) (tCB r t) := by
  intro pins s σ H Q I h
  refine wpAny_Call_Name_kw (ld_blt I hg hm hv ?_ hn hdb)
  exact PyProof.Rows.callWith_type1 (thn (ha pos pins s σ H _ I h) fun us s1 ⟨vs, H1, I1, r1, q1⟩ => hc pins s1 σ H1 vs us Q I1 r1 q1) he hpl
end
end L2
namespace L2
open PySem PySem.Spec PyProof.Rows
section
variable {κ : Type} [DecidableEq κ]
def valV (kvs : List (κ × V)) (k : κ) : Option V := (kvs.find? fun kv => decide (kv.1 = k)).map (·.2)
theorem valV_nil {k : κ} : valV ([] : List (κ × V)) k = none := rfl
end
section
variable {X : Cx} {pins : List (Addr × Obj)} {σ : St} {H : Hp} {s : Shared} {a : Addr} {y v : V} {u r : Value} {o : Option V} {A : Around} {E : Value → Shared → Prop}
theorem d_write {h' : Heap} {t' : Nat} {ob : HO} (I : Inv X pins σ H s) (mu : Mut (H a)) (hs : Heap.SameBut a s.heap h') (he : ∃ q, h'.get? a = some q) (new : ObjOk X.prog X.w (upd H a ob) h' a ob) :
    Inv X pins σ (upd H a ob) { s with heap := h', toks := t' } :=
  I.write (x := a) (e := a) mu (.inl rfl) (fun b q hb z => (hs.2 b hb).trans z) he new
end
end L2
namespace HT
open PySem PyProof.Rows
section
open PySem.SeqAt
open PySem.AutoSeq1 (wpAny_loadPart')
open PySem.MeetsSeq PySem.MeetsSeq2 PySem.MeetsSeq3
end
end HT
namespace L2
open PySem PySem.Spec PyProof.Rows
end L2
namespace L2
open PySem PySem.Spec PyProof.Rows
def ixN (n : Nat) (i : Int) : Option Nat := if 0 ≤ i then (if i < n then some i.toNat else none) else if -(n : Int) ≤ i then some (i + n).toNat else none
def atI {α : Type} (xs : List α) (i : Int) : Option α := (ixN xs.length i).bind fun j => xs[j]?
theorem ixN_seq {n : Nat} {i : Int} {j : Nat} (h : ixN n i = some j) : seqIndex? i n = some j ∧ j < n ∧ -(n : Int) ≤ i ∧ i < n := by
  unfold ixN at h
  by_cases h0 : 0 ≤ i
  · rw [if_pos h0] at h
    by_cases h1 : i < n
    · rw [if_pos h1] at h
      have e : i.toNat = j := Option.some.inj h
      exact ⟨by rw [seqIndex_of h0 h1, e], by omega, by omega, h1⟩
    · rw [if_neg h1] at h; cases h
  · rw [if_neg h0] at h
    by_cases h1 : -(n : Int) ≤ i
    · rw [if_pos h1] at h
      have e : (i + n).toNat = j := Option.some.inj h
      exact ⟨by rw [seqIndex_neg (by omega) h1, e], by omega, h1, by omega⟩
    · rw [if_neg h1] at h; cases h
theorem atI_get {α : Type} {xs : List α} {i : Int} {v : α} (h : atI xs i = some v) : ∃ j, seqIndex? i xs.length = some j ∧ xs[j]? = some v ∧ j < xs.length ∧ -(xs.length : Int) ≤ i ∧ i < xs.length := by
  unfold atI at h
  cases e : ixN xs.length i with
  | none => rw [e] at h; cases h
  | some j =>
    rw [e] at h
    obtain ⟨h1, h2, h3, h4⟩ := ixN_seq e
    exact ⟨j, h1, h, h2, h3, h4⟩
theorem atI_nat {α : Type} {xs : List α} {j : Nat} {v : α} (h : xs[j]? = some v) : atI xs (j : Int) = some v := by
  have hj : j < xs.length := (List.getElem?_eq_some_iff.mp h).1
  have e : ixN xs.length (j : Int) = some j := by
    unfold ixN
    rw [if_pos (by omega), if_pos (by omega)]; simp
  unfold atI; rw [e]; exact h
def PlainIx (b : Expr) : Prop := ∀ o i, subscripted b false o i = operate [o, i] (getItem o i)
def IxR (X : Cx) (r : R2) : Prop :=
  ∀ (value slice : Expr) (pins : List (Addr × Obj)) (s : Shared) (σ : St) (H : Hp) (x y : V) (v u : Value) (Q : VK), Inv X pins σ H s → RelV x v → RelV y u → r x y H Q →
    subscripted slice false v u = operate [v, u] (getItem v u) → wpAny (model X.prog X.w) X.A (subscriptTail value slice v u) (EP X pins σ Q) X.xe s
def MtR (X : Cx) (id : String) (r : V → List V → Hp → VK → Prop) : Prop :=
  ∀ (pins : List (Addr × Obj)) (s : Shared) (σ : St) (H : Hp) (x : V) (xs : List V) (v : Value) (us : List Value) (Q : VK), Inv X pins σ H s → RelV x v → Vals xs us → r x xs H Q →
    wpAny (model X.prog X.w) X.A (call (.builtin id) (v :: us)) (EP X pins σ Q) X.xe s
section
variable {X : Cx} {a b : Expr} {ta tb : TE} {pos : Pos}
theorem pe_ix {r : R2} (hr : IxR X r) (ha : PE X a ta) (hb : PE X b tb) (hs : PlainIx b) : PE X (.Subscript a b pos) (tOp r ta tb) := by
  intro pins s σ H Q I h
  exact Subscript_ (binT ha hb I h fun v u s2 x y H2 I2 rx ry q => hr a b pins s2 σ H2 x y v u Q I2 rx ry q (hs _ _))
def rIxL (K : PySem.W.Frag) : R2 := fun x y H Q => ∃ p xs i v, x = .ref p ∧ y = .int i ∧ SqL K H p xs ∧ atI xs i = some v ∧ Q v H
theorem ix_list : IxR X (rIxL X.K) := by
  intro value slice pins s σ H x y v u Q I rx ry h hs
  obtain ⟨p, xs, i, z, rfl, rfl, hq, he, q⟩ := h
  cases rx
  obtain ⟨t, rfl⟩ := ry
  obtain ⟨its, r, pl, hz⟩ := I.list hq
  obtain ⟨j, h1, h2, h3, h4, h5⟩ := atI_get he
  obtain ⟨w, ew, rw'⟩ := r.get h2
  have hl := r.length
  have hn := line63
  have fin : EP X pins σ Q w s := ⟨z, H, I, rw', q⟩
  by_cases h0 : 0 ≤ i
  · have hj : i.toNat = j := by
      rw [seqIndex_of h0 h5] at h1
      exact Option.some.inj h1
    exact item_listR pl.isList h0 (by omega) (by rw [hj]; simpa using ew) fin hs
  · have hj : (i + (its.toArray.size : Int)).toNat = j := by
      rw [seqIndex_neg (by omega) h4] at h1
      rw [List.size_toArray, ← hl]
      exact Option.some.inj h1
    exact subscriptTail_builtinR (x := w) pl.isList.typeIs slot_list_getitem.lookup
      (wpAny_getItem_list_neg (Q := fun r s' => r = w ∧ EP X pins σ Q r s') pl.isList (by omega) (by rw [List.size_toArray] <;> omega) (by omega) (by rw [hj]; simpa using ew) ⟨rfl, fin⟩) hs
theorem mapSeq_set (its : List Value) (n j : Nat) (u : Value) : Obj.mapSeq (·.setIfInBounds j u) { cls := .type "list", data := .seq its.toArray n } = { cls := .type "list", data := .seq (its.set j u).toArray n } := by
  simp [Obj.mapSeq]
theorem Inv.lst {pins : List (Addr × Obj)} {σ : St} {H : Hp} {s : Shared} {p : Addr} {xs : List V} (I : Inv X pins σ H s) (h : H p = some (.lst xs)) :
    ∃ (its : List Value) (n : Nat), Vals xs its ∧ s.heap.get? p = some { cls := .type "list", data := .seq its.toArray n } ∧ xs.length ≤ sizeLine := by
  obtain ⟨z, its, n, r, e⟩ := I.hok p _ h
  exact ⟨its, n, r, e, z⟩
theorem Inv.lstUpd {pins : List (Addr × Obj)} {σ : St} {H : Hp} {s : Shared} {p : Addr} {xs ys : List V} {its its' : List Value} {n n' : Nat} {f : Obj → Obj} (I : Inv X pins σ H s) (h : H p = some (.lst xs))
    (ho : s.heap.get? p = some { cls := .type "list", data := .seq its.toArray n }) (hf : f { cls := .type "list", data := .seq its.toArray n } = { cls := .type "list", data := .seq its'.toArray n' }) (r : Vals ys its') (hz : ys.length ≤ sizeLine) (t : Nat) :
    Inv X pins σ (upd H p (.lst ys)) { s with heap := s.heap.update p f, toks := t } := by
  have e : (s.heap.update p f).get? p = some { cls := .type "list", data := .seq its'.toArray n' } := by
    rw [Heap.get?_update_self f ho (by rw [hf] <;> rfl), hf]
  refine I.write (x := p) (e := p) (by rw [h]; trivial) (.inl rfl) (fun b u hb q => (Heap.get?_update_other _ _ (Ne.symm hb)).trans q) ⟨_, e⟩ ?_
  exact ⟨hz, its', n', r, e⟩
def rSetL : V → V → V → Hp → (Hp → Prop) → Prop := fun o i v H Q => ∃ p xs k j, o = .ref p ∧ i = .int k ∧ H p = some (.lst xs) ∧ ixN xs.length k = some j ∧ Q (upd H p (.lst (xs.set j v)))
theorem set_list : PSet X rSetL := by
  intro pins s σ H o i v ov iv u Q I ro ri rv h
  obtain ⟨p, xs, k, j, rfl, rfl, hp, hj, q⟩ := h
  cases ro
  obtain ⟨t, rfl⟩ := ri
  obtain ⟨its, n, r, ho, hz⟩ := I.lst hp
  obtain ⟨h1, h2, h3, h4⟩ := ixN_seq hj
  have hl := r.length
  have hn := line63
  have I' : Inv X pins σ (upd H p (.lst (xs.set j v))) { s with heap := s.heap.update p (Obj.mapSeq (·.setIfInBounds j u)) } :=
    I.lstUpd hp ho (mapSeq_set its n j u) (r.set rv j) (by rw [List.length_set]; exact hz) s.toks
  by_cases h0 : 0 ≤ k
  · have hk : k.toNat = j := by
      rw [seqIndex_of h0 h4] at h1
      exact Option.some.inj h1
    exact PySem.W.ki_setAt ho h0 (by omega) (by rw [List.size_toArray, ← hl]; exact h4) (by rw [hk]; exact ⟨_, I', q⟩)
  · have hk : (k + (its.toArray.size : Int)).toNat = j := by
      rw [seqIndex_neg (by omega) h3] at h1
      rw [List.size_toArray, ← hl]
      exact Option.some.inj h1
    exact PySem.W.ki_setBack ho (by omega) (by rw [List.size_toArray, ← hl]; exact h3) (by omega) (by rw [hk]; exact ⟨_, I', q⟩)
def flatV : V → Bool
  | .non => true
  | .bl _ => true
  | .int _ => true
  | .str _ => true
  | _ => false
def eqV : V → V → Bool
  | .non, .non => true
  | .bl a, .bl b => a == b
  | .bl a, .int b => (if a then 1 else 0) == b
  | .int a, .bl b => a == (if b then 1 else 0)
  | .int a, .int b => a == b
  | .str a, .str b => a == b
  | _, _ => false
theorem eqAt_V {A : Around} {s : Shared} {y x : V} {u v : Value} (ry : RelV y u) (rx : RelV x v) (fy : flatV y = true) (fx : flatV x = true) : SeqAt.EqAt A s u v (eqV y x) := by
  cases y with
  | non =>
    cases ry
    cases x with
    | non => cases rx; exact SeqAt.EqAt.same _
    | bl b => cases rx; exact SeqAt.EqAt.none_bool b
    | int b => obtain ⟨t, rfl⟩ := rx; exact SeqAt.EqAt.none_int b t
    | str b => obtain ⟨t, rfl⟩ := rx; exact SeqAt.EqAt.none_str b t
    | _ => exact absurd (show false = true from fx) Bool.false_ne_true
  | bl a =>
    cases ry
    cases x with
    | non => cases rx; exact SeqAt.EqAt.bool_none a
    | bl b => cases rx; exact SeqAt.EqAt.bool_bool a b
    | int b => obtain ⟨t, rfl⟩ := rx; exact SeqAt.EqAt.bool_int a b t
    | str b => obtain ⟨t, rfl⟩ := rx; exact SeqAt.EqAt.bool_str a b t
    | _ => exact absurd (show false = true from fx) Bool.false_ne_true
  | int a =>
    obtain ⟨t', rfl⟩ := ry
    cases x with
    | non => cases rx; exact SeqAt.EqAt.int_none a t'
    | bl b => cases rx; exact SeqAt.EqAt.int_bool a t' b
    | int b => obtain ⟨t, rfl⟩ := rx; exact SeqAt.EqAt.int_int a t' b t
    | str b => obtain ⟨t, rfl⟩ := rx; exact SeqAt.EqAt.int_str a t' b t
    | _ => exact absurd (show false = true from fx) Bool.false_ne_true
  | str a =>
    obtain ⟨t', rfl⟩ := ry
    cases x with
    | non => cases rx; exact SeqAt.EqAt.str_none a t'
    | bl b => cases rx; exact SeqAt.EqAt.str_bool a t' b
    | int b => obtain ⟨t, rfl⟩ := rx; exact SeqAt.EqAt.str_int a t' b t
    | str b => obtain ⟨t, rfl⟩ := rx; exact SeqAt.EqAt.str_str a t' b t
    | _ => exact absurd (show false = true from fx) Bool.false_ne_true
  | _ => exact absurd (show false = true from fy) Bool.false_ne_true
def eqU (x : V) (u : Value) : Bool := match u with
  | .none => eqV .non x
  | .bool b => eqV (.bl b) x
  | .int i _ => eqV (.int i) x
  | .str z _ => eqV (.str z) x
  | _ => false
theorem eqU_of {x y : V} {u : Value} (r : RelV y u) (f : flatV y = true) : eqU x u = eqV y x := by
  cases y with
  | non => cases r; rfl
  | bl b => cases r; rfl
  | int i => obtain ⟨t, rfl⟩ := r; rfl
  | str z => obtain ⟨t, rfl⟩ := r; rfl
  | _ => exact absurd (show false = true from f) Bool.false_ne_true
theorem any_eqU {x : V} : ∀ {xs : List V} {us : List Value}, Vals xs us → xs.all flatV = true → us.any (eqU x) = xs.any fun y => eqV y x
  | _, _, .nil, _ => rfl
  | y :: xs, u :: us, .cons r t, f => by
    rw [List.all_cons, Bool.and_eq_true] at f
    rw [List.any_cons, List.any_cons, eqU_of r f.1, any_eqU t f.2]
theorem mem_eqAt {A : Around} {s : Shared} {x : V} {v : Value} (rx : RelV x v) (fx : flatV x = true) : ∀ {xs : List V} {us : List Value}, Vals xs us → xs.all flatV = true → ∀ u ∈ us, SeqAt.EqAt A s u v (eqU x u)
  | _, _, .nil, _ => fun u hu => by cases hu
  | y :: xs, u :: us, .cons r t, f => fun u' hu => by
    rw [List.all_cons, Bool.and_eq_true] at f
    rcases List.mem_cons.mp hu with rfl | hu
    · rw [eqU_of r f.1]; exact eqAt_V r rx f.1 fx
    · exact mem_eqAt rx fx t f.2 u' hu
def inV (x : V) (xs : List V) : Bool := xs.any fun y => eqV y x
def rIn (K : PySem.W.Frag) (neg : Bool) : R2 := fun x y H Q => ∃ p xs, y = .ref p ∧ (SqL K H p xs ∨ SqT K H p xs) ∧ flatV x = true ∧ xs.all flatV = true ∧ Q (.bl (if neg then !inV x xs else inV x xs)) H
theorem op_in_seq : OpR X (compareOp .In) (rIn X.K false) := by
  intro pins s σ H x y v u Q I rx ry h
  obtain ⟨p, xs, rfl, hq, fx, fs, q⟩ := h
  cases ry
  rcases hq with hq | hq
  · obtain ⟨its, r, pl, hz⟩ := I.list hq
    refine SeqAt.in_listAt (eqU x) pl.isList (fun w hw => mem_eqAt rx fx r fs w (by simpa using hw)) ⟨.bl _, H, I, rfl, ?_⟩
    rw [show its.toArray.any (eqU x) = its.any (eqU x) by simp, any_eqU r fs]
    exact q
  · obtain ⟨its, r, pl, hz⟩ := I.tuple hq
    refine SeqAt.in_tupleAt (eqU x) pl (fun w hw => mem_eqAt rx fx r fs w (by simpa using hw)) ⟨.bl _, H, I, rfl, ?_⟩
    rw [show its.toArray.any (eqU x) = its.any (eqU x) by simp, any_eqU r fs]
    exact q
theorem op_notIn_seq : OpR X (compareOp .NotIn) (rIn X.K true) := by
  intro pins s σ H x y v u Q I rx ry h
  obtain ⟨p, xs, rfl, hq, fx, fs, q⟩ := h
  cases ry
  rcases hq with hq | hq
  · obtain ⟨its, r, pl, hz⟩ := I.list hq
    refine SeqAt.notIn_listAt (eqU x) pl.isList (fun w hw => mem_eqAt rx fx r fs w (by simpa using hw)) ⟨.bl _, H, I, rfl, ?_⟩
    rw [show its.toArray.any (eqU x) = its.any (eqU x) by simp, any_eqU r fs]
    exact q
  · obtain ⟨its, r, pl, hz⟩ := I.tuple hq
    refine SeqAt.notIn_tupleAt (eqU x) pl (fun w hw => mem_eqAt rx fx r fs w (by simpa using hw)) ⟨.bl _, H, I, rfl, ?_⟩
    rw [show its.toArray.any (eqU x) = its.any (eqU x) by simp, any_eqU r fs]
    exact q
theorem call_len_seq : CallR X (.builtin "len") (fun xs H Q => ∃ p ys, xs = [.ref p] ∧ (SqL X.K H p ys ∨ SqT X.K H p ys) ∧ Q (.int ys.length) H) := by
  intro pins s σ H xs us Q I r h
  obtain ⟨p, ys, rfl, hq, q⟩ := h
  obtain ⟨u, rfl, rx⟩ := vals1 r
  cases rx
  have hn := line63
  rcases hq with hq | hq
  · obtain ⟨its, r', pl, hz⟩ := I.list hq
    have hlen := r'.length
    exact Calls.call_len_list pl.isList (by simp only [List.size_toArray] <;> omega) ⟨.int ys.length, H, I.tok _, ⟨s.toks + 1, by rw [List.size_toArray, hlen]⟩, q⟩
  · obtain ⟨its, r', pl, hz⟩ := I.tuple hq
    have hlen := r'.length
    exact len_tuple pl (by simp only [List.size_toArray] <;> omega) ⟨.int ys.length, H, I.tok _, ⟨s.toks + 1, by rw [List.size_toArray, hlen]⟩, q⟩
theorem call_list_of : CallR X (.type "list") (fun xs H Q => ∃ p ys, xs = [.ref p] ∧ (SqL X.K H p ys ∨ SqT X.K H p ys) ∧ ∀ l, H l = none → Q (.ref l) (upd H l (.lst ys))) := by
  intro pins s σ H xs us Q I r h
  obtain ⟨p, ys, rfl, hq, q⟩ := h
  obtain ⟨u, rfl, rx⟩ := vals1 r
  cases rx
  have fin : ∀ (its : List Value), Vals ys its → ys.length ≤ sizeLine → ∀ (h' : Heap) (c' : Nat), (∀ b o', s.heap.get? b = some o' → h'.get? b = some o') →
      h'.get? s.heap.objs.size = some { cls := .type "list", dict := none, data := .seq its.toArray c', slots := #[] } → EP X pins σ Q (.ref s.heap.objs.size) { s with heap := h' } := fun its r' hz h' c' kp e =>
    ⟨.ref s.heap.objs.size, _, I.laid (t' := s.toks) kp (Nat.le_refl _) (show ObjOk X.prog X.w _ h' _ (.lst ys) from ⟨hz, its, c', r', e⟩), rfl, q _ (I.hok.fresh (Nat.le_refl _))⟩
  rcases hq with hq | hq
  · obtain ⟨its, r', pl, hz⟩ := I.list hq
    have hlen := r'.length
    obtain ⟨o, ho, hc, n, hd⟩ := pl.isList
    exact call_list_seq p (.inl rfl) ho hc hd (fun h' c' kp e => fin its r' hz h' c' kp e) (by simp only [List.size_toArray] <;> omega)
  · obtain ⟨its, r', pl, hz⟩ := I.tuple hq
    have hlen := r'.length
    obtain ⟨o, ho, hc, n, hd⟩ := pl
    exact call_list_seq p (.inr rfl) ho hc hd (fun h' c' kp e => fin its r' hz h' c' kp e) (by simp only [List.size_toArray] <;> omega)
theorem call_tuple_of : CallR X (.type "tuple") (fun xs H Q => ∃ p ys, xs = [.ref p] ∧ ((SqL X.K H p ys ∧ ∀ l, H l = none → Q (.ref l) (upd H l (.tup ys))) ∨ (SqT X.K H p ys ∧ Q (.ref p) H))) := by
  intro pins s σ H xs us Q I r h
  obtain ⟨p, ys, rfl, h⟩ := h
  obtain ⟨u, rfl, rx⟩ := vals1 r
  cases rx
  rcases h with ⟨hq, q⟩ | ⟨hq, q⟩
  · obtain ⟨its, r', pl, hz⟩ := I.list hq
    have hlen := r'.length
    refine call_tuple_list pl.isList (fun h' kp => ?_) (by simp only [List.size_toArray] <;> omega)
    have I1 : Inv X pins σ H { s with heap := h' } := I.kept (t' := s.toks) kp
    have I2 : Inv X pins σ (upd H h'.objs.size (.tup ys)) { s with heap := h'.push { cls := .type "tuple", data := .seq its.toArray } } :=
      I1.laid (t' := s.toks) (fun b o e => Heap.get?_push_of_some _ e) (Nat.le_refl _) (show ObjOk X.prog X.w _ _ _ (.tup ys) from ⟨hz, its, r', IsTup.new _ _⟩)
    exact ⟨.ref h'.objs.size, _, I2, rfl, q _ (I1.hok.fresh (Nat.le_refl _))⟩
  · obtain ⟨its, r', pl, hz⟩ := I.tuple hq
    exact call_tuple_same pl ⟨.ref p, H, I, rfl, q⟩
def tyV (K : PySem.W.Frag) (T : String) (x : V) (H : Hp) : Prop := match x with
  | .str _ => T = "str"
  | .int _ => T = "int"
  | .ref p => (T = "list" ∧ ∃ xs, SqL K H p xs) ∨ (T = "tuple" ∧ ∃ o, K.lookup p = some o ∧ o.cls = .type "tuple" ∧ o.dict = none) ∨
      (T = "dict" ∧ ((∃ kvs, H p = some (.dK kvs)) ∨ ∃ kvs, H p = some (.dT kvs))) ∨ (T = "set" ∧ ∃ S n, H p = some (.set S n))
  | _ => False
theorem tyV_is {pins : List (Addr × Obj)} {σ : St} {H : Hp} {s : Shared} {T : String} {x : V} {v : Value} (I : Inv X pins σ H s) (r : RelV x v) (ty : tyV X.K T x H) :
    s.TypeIs v T ∧ ∀ a, v = .ref a → ∃ ob, s.heap.get? a = some ob ∧ ob.dict = none := by
  cases x with
  | str z =>
    obtain ⟨t, rfl⟩ := r
    cases (show T = "str" from ty)
    exact ⟨typeIs_str s z t, fun _ e => nomatch e⟩
  | int i =>
    obtain ⟨t, rfl⟩ := r
    cases (show T = "int" from ty)
    exact ⟨typeIs_int s i t, fun _ e => nomatch e⟩
  | ref p =>
    cases r
    rcases ty with ⟨rfl, xs, hq⟩ | ⟨rfl, o, hk, hc, hd⟩ | ⟨rfl, hk⟩ | ⟨rfl, S, n, hk⟩
    · obtain ⟨its, _, pl, _⟩ := I.list hq
      refine ⟨pl.isList.typeIs, fun a e => ?_⟩
      cases e
      obtain ⟨o, n, e, c, hd, _⟩ := pl
      exact ⟨o, e, hd⟩
    · refine ⟨⟨o, I.kIn p o hk, hc⟩, fun a e => ?_⟩
      cases e
      exact ⟨o, I.kIn _ o hk, hd⟩
    · have z : ∃ o, s.heap.get? p = some o ∧ o.ExactDict := by
        rcases hk with ⟨kvs, hk⟩ | ⟨kvs, hk⟩
        · obtain ⟨_, _, _, _, o, _, _, e, ex, _⟩ := I.hok p _ hk
          exact ⟨o, e, ex⟩
        · obtain ⟨_, _, _, _, o, _, _, e, ex, _⟩ := I.hok p _ hk
          exact ⟨o, e, ex⟩
      obtain ⟨o, e, ex⟩ := z
      refine ⟨⟨o, e, ex.1⟩, fun a e2 => ?_⟩
      cases e2
      exact ⟨o, e, ex.2.1⟩
    · obtain ⟨o, _, _, _, e, ex, _⟩ := I.hok p _ hk
      refine ⟨⟨o, e, ex.1⟩, fun a e2 => ?_⟩
      cases e2
      exact ⟨o, e, ex.2.1⟩
  | _ => exact False.elim ty
def tBM0 (K : PySem.W.Frag) (T : String) (r : V → List V → Hp → VK → Prop) (to : TE) : TE := fun σ H Q => to σ H fun x H1 => tyV K T x H1 ∧ r x [] H1 Q
def tBM (K : PySem.W.Frag) (T : String) (r : V → List V → Hp → VK → Prop) (to : TE) (t : TA) : TE := fun σ H Q => to σ H fun x H1 => tyV K T x H1 ∧ t σ H1 fun xs H2 => r x xs H2 Q
variable {o e : Expr} {es : List Expr} {to : TE} {t : TA} {name : Str} {apos cpos : Pos} {T id : String} {r : V → List V → Hp → VK → Prop}
theorem pe_bm0 (pa : PlainAttrs T) (slot : Slot T name id) (hty : typeOf (.builtin id) = pure (.type "method_descriptor")) (hm : MtR X id r) (ho : PE X o to)
    (hbase : attributeBase o name X.env (eval o X.env) = eval o X.env := by rfl) (hline : (apos.endLine == cpos.line) = true := by rfl) : PE X (.Call (.Attribute o name apos) [] [] cpos) (tBM0 X.K T r to) := by
  intro pins s σ H Q I h
  refine wpAny_Call_method0_late hbase hline (thn (ho pins s σ H _ I h) fun v s1 ⟨x, H1, I1, r1, ty, q1⟩ => ?_)
  obtain ⟨h1, h2⟩ := tyV_is I1 r1 ty
  exact ⟨T, id, pa, slot, hty, h1, h2, Calls.callWith_builtin rfl (PySem.evalArgs_none (hm pins s1 σ H1 x [] v [] Q I1 r1 .nil q1))⟩
theorem pe_bm (pa : PlainAttrs T) (slot : Slot T name id) (hty : typeOf (.builtin id) = pure (.type "method_descriptor")) (hm : MtR X id r) (ho : PE X o to) (ha : PA X (e :: es) t)
    (hbase : attributeBase o name X.env (eval o X.env) = eval o X.env := by rfl)
    (hfew : ((backTo cpos (starEach (e :: es) X.env)).all (fun x => !x.1) && (backToKw cpos (keywordEach [] X.env)).all (fun x => x.1.isSome)
      && decide ((e :: es).length + ([] : List Keyword).length + (if ([] : List Keyword).isEmpty then 0 else 1) < 30)) = true := by rfl)
    (hline : (apos.endLine == cpos.line) = true := by rfl) (hs : starEach (e :: es) X.env = (false, eval e X.env) :: starEach es X.env := by rfl) (hplain : (backTo cpos (starEach es X.env)).any (·.1) = false := by rfl) :
    PE X (.Call (.Attribute o name apos) (e :: es) [] cpos) (tBM X.K T r to t) := by
  intro pins s σ H Q I h
  refine wpAny_Call_method_late hbase hfew hline rfl (thn (ho pins s σ H _ I h) fun v s1 ⟨x, H1, I1, r1, ty, q1⟩ => ?_)
  obtain ⟨h1, h2⟩ := tyV_is I1 r1 ty
  refine ⟨T, id, pa, slot, hty, h1, h2, ?_⟩
  have hA := ha cpos pins s1 σ H1 _ I1 q1
  rw [hs] at hA ⊢
  refine Calls.callWith_builtin (by show (false || (backTo cpos (starEach es X.env)).any (·.1)) = false; rw [hplain] <;> rfl) (Calls.evalArgs_plain ?_)
  exact thn hA fun us s2 ⟨vs, H2, I2, r2, q2⟩ => hm pins s2 σ H2 x vs v us Q I2 r1 r2 q2
end
end L2
namespace L2
open PySem PySem.Spec PyProof.Rows
def MtM (X : Cx) (id : String) (r : V → List V → Hp → VK → Prop) : Prop :=
  ∀ (pins : List (Addr × Obj)) (s : Shared) (σ : St) (H : Hp) (x : V) (xs : List V) (v : Value) (us : List Value) (Q : VK), Inv X pins σ H s → RelV x v → Vals xs us → r x xs H Q →
    wpAny (model X.prog X.w) X.A (call (.builtin id) (v :: us)) (EP X pins σ Q) X.xe s
theorem Vals.one : ∀ {x : V} {us : List Value}, Vals [x] us → ∃ u, us = [u] ∧ RelV x u
  | _, _, .cons r .nil => ⟨_, rfl, r⟩
theorem Vals.zero : ∀ {us : List Value}, Vals [] us → us = []
  | _, .nil => rfl
theorem Vals.reverse {xs : List V} {us : List Value} (h : Vals xs us) : Vals xs.reverse us.reverse := by
  induction h with
  | nil => exact .nil
  | cons r t ih => rw [List.reverse_cons, List.reverse_cons]; exact Vals.append ih (.cons r .nil)
section
variable {X : Cx} {pins : List (Addr × Obj)} {σ : St} {H : Hp} {s : Shared} {l b : Addr} {xs ys zs : List V}
theorem Inv.lset {its its' : List Value} {n : Nat} {f : Array Value → Array Value} {t' : Nat} (I : Inv X pins σ H s) (hH : H l = some (.lst xs))
    (e : s.heap.get? l = some { cls := .type "list", data := .seq its.toArray n }) (hf : f its.toArray = its'.toArray) (hv : Vals ys its') (hz : ys.length ≤ sizeLine) :
    Inv X pins σ (upd H l (.lst ys)) { s with heap := s.heap.update l (Obj.mapSeq f), toks := t' } := by
  have q := PySem.IsL.update e f
  rw [hf] at q
  refine I.write (x := l) (e := l) (by rw [hH]; exact trivial) (.inl rfl) (fun b' u hb hu => (Heap.get?_update_other s.heap (Obj.mapSeq f) (Ne.symm hb)).trans hu) ⟨_, q⟩ ?_
  exact ⟨hz, its', _, hv, q⟩
theorem Inv.lstM (I : Inv X pins σ H s) (hH : H l = some (.lst xs)) : xs.length ≤ sizeLine ∧ ∃ (its : List Value) (n : Nat), Vals xs its ∧ xs.length = its.length ∧ s.heap.get? l = some { cls := .type "list", data := .seq its.toArray n } := by
  obtain ⟨z, its, n, r, e⟩ := I.hok l _ hH
  exact ⟨z, its, n, r, r.length, e⟩
end
section
variable {X : Cx}
def rAppend : V → List V → Hp → VK → Prop := fun x vs H Q => ∃ l xs y, x = .ref l ∧ vs = [y] ∧ H l = some (.lst xs) ∧ xs.length < sizeLine ∧ Q .non (upd H l (.lst (xs ++ [y])))
theorem mt_append : MtM X "list.append" rAppend := by
  intro pins s σ H x vs v us Q I rx rv h
  obtain ⟨l, xs, y, rfl, rfl, hH, hz, q⟩ := h
  cases rx
  obtain ⟨u, rfl, ru⟩ := rv.one
  obtain ⟨z, its, n, r, hl, e⟩ := I.lstM hH
  refine call_meets F.slot_list_append ⟨_, e, rfl⟩ F.entry_list_append (F.args_list_append_2 _ _) (PySem.list_append l its.toArray n u (by rw [List.size_toArray]; omega)) ⟨e, ?_⟩
  refine ⟨.non, _, I.lset (its' := its ++ [u]) hH e (by simp) (r.append (.cons ru .nil)) ?_, rfl, q⟩
  rw [List.length_append, List.length_singleton]
  omega
def rReverse : V → List V → Hp → VK → Prop := fun x vs H Q => ∃ l xs, x = .ref l ∧ vs = [] ∧ H l = some (.lst xs) ∧ Q .non (upd H l (.lst xs.reverse))
theorem mt_reverse : MtM X "list.reverse" rReverse := by
  intro pins s σ H x vs v us Q I rx rv h
  obtain ⟨l, xs, rfl, rfl, hH, q⟩ := h
  cases rx
  have hus := rv.zero
  subst hus
  obtain ⟨z, its, n, r, hl, e⟩ := I.lstM hH
  refine call_meets F.slot_list_reverse ⟨_, e, rfl⟩ F.entry_list_reverse (F.args_list_reverse_1 _) (AutoSeq1.list_reverse_list_0 l its.toArray n (by rw [List.size_toArray]; omega)) ⟨e, ?_⟩
  refine ⟨.non, _, I.lset (its' := its.reverse) hH e (by simp) r.reverse ?_, rfl, q⟩
  rw [List.length_reverse]
  omega
end
end L2
namespace Att
open PySem PySem.W PySem.Calls PyProof.Rows
theorem ints_of_wellAll {P : Params} {h : Heap} : ∀ (ns : List Int) (vs : List Value), WellAll P h vs (ns.map WData.int) → IntsAre vs ns := by
  intro ns
  induction ns with
  | nil =>
    intro vs w
    rw [List.map_nil] at w
    cases w
    exact .nil
  | cons n ns ih =>
    intro vs w
    rw [List.map_cons] at w
    cases w with
    | cons a b =>
      cases a
      exact .cons _ _ (ih _ b)
theorem script_of {l : OpenLaw} {n : Nat} (hn : l.most = some n) {P : Params} {h : Heap} {args : List WData} {vals : List Value}
    (hpre : l.row.toRowW.claim.pre args = true) (hwl : WellAll P h vals args) :
    ∃ a vs ns, vals = [Value.ref a] ∧ args = [WData.list (ns.map WData.int)] ∧ h.get? a = some { cls := .type "list", data := .seq vs.toArray } ∧ IntsAre vs ns ∧ ns.length ≤ n := by
  have hsh : WShape.hasAll [] args [.list .int] = true := (pre_splitW hpre).1
  have hc : l.pre.holds [] { args := args } = true := (pre_splitW hpre).2
  obtain ⟨d, r, rfl, h1, h2⟩ := hasAllW_cons hsh
  obtain rfl := hasAllW_nil h2
  obtain ⟨xs, rfl, h3⟩ := hasW_list h1
  obtain ⟨ns, rfl⟩ := items_int h3
  have hlen : ns.length ≤ n := by
    unfold OpenLaw.pre at hc
    have h4 : (WTm.not (.lt (.lit (.int (n : Int))) (.len (.arg 0)))).holds [] { args := [.list (ns.map .int)] } = true := by
      have h4 := (holds_andW hc).1
      rw [hn] at h4
      exact h4
    have h5 := condW_of h4 (w_not (w_lt w_lit (w_len_list (w_arg rfl))))
    rw [List.length_map] at h5
    refine Nat.le_of_not_lt fun q => ?_
    have q' : (n : Int) < ((ns.length : Nat) : Int) := by omega
    first
      | (rw [decide_eq_true q'] at h5; exact absurd h5 (by decide))
      | (simp at h5; omega)
  cases hwl with
  | cons w1 w2 =>
    cases w2
    cases w1 with
    | list ho hall => exact ⟨_, _, ns, rfl, rfl, ho, ints_of_wellAll ns _ hall, hlen⟩
theorem post_true (l : OpenLaw) (args : List WData) : l.row.toRowW.claim.post args (.bool true) args = true :=
  postW_of (r := l.row.toRowW) (X := (true == true))
    (show WShape.has [] (.bool true) .bool = true by first | rfl | decide | simp [WShape.has, WShape.arms, WShape.armsAll])
    (show (WTm.eq .res (.lit (.bool true))).value [] { args := args, res := some (.bool true), after := args } = some (.bool (true == true)) from w_eq_bool (w_res rfl) w_lit) rfl
theorem attach_call {l : OpenLaw} {n : Nat} {q : Program} {loose : List Str} {XP : (Str → Option Value) → Heap → Prop} {YP : World → Heap → Prop} {d : DefRec}
    (hn : l.most = some n) (hdf : d.params.defaults = [])
    (call : ∀ (w : World) (s₀ s₁ : Shared) (mg mb : Str → Option Value) (fa : Addr) (o : Obj) (pm cd doc : Value) (a : Addr) (vs : List Value) (ns : List Int),
      Ground q loose [] XP w s₀ mg mb s₁.heap → YP w s₁.heap →
      s₁.heap.get? fa = some o → o.data = .func (docDef d.name d.params d.body d.scope pm cd doc) → s₁.heap.CodeRec cd d.name → mg d.name = some (.ref fa) →
      s₁.heap.get? a = some { cls := .type "list", data := .seq vs.toArray } → IntsAre vs ns → ns.length ≤ n → s₁.gens = #[] →
      codeAny (model l.prog w) callerA (.call (.ref fa) ⟨[.ref a], []⟩) (fun r s' => r = .ok (.ret (.bool true)) ∧ OldK s₁.heap s'.heap ∧ s'.os = s₁.os ∧ AllBare s'.gens) s₁) :
    WalkO q loose XP YP l.row.toRowW d [] (fun f vs => PySem.call f vs) := by
  intro w s₀ s₁ mg mb G Y fa o pm cd doc dV kV ho hd hcd hD hmg hg args vals as hpre hlay hrd hwl hlo
  obtain rfl : dV = .none := Dflts.none hD hdf
  obtain rfl : kV = .none := Dflts.noKw hD
  obtain ⟨a, vs, ns, rfl, rfl, hobj, hints, hlen⟩ := script_of hn hpre hwl
  refine enter_call (codeAny_mono (call w s₀ s₁ mg mb fa o pm cd doc a vs ns G Y ho (fd_plain hd) hcd hmg hobj hints hlen hg) fun r s' hq => ?_)
  obtain ⟨rfl, h2, h3, h4⟩ := hq
  exact ⟨.inl ⟨.bool true, .bool true, [], rfl, fun _ => rfl, .bool true, post_true l _, fun _ => ⟨List.Pairwise.nil, fun _ hm => (nomatch hm)⟩⟩, h2, h3, h4⟩
end Att
namespace L2
open PySem PySem.Spec PyProof.Rows
theorem vals_ints : ∀ {vs : List Value} {ns : List Int}, IntsAre vs ns → Vals (ns.map V.int) vs
  | _, _, .nil => .nil
  | _, _, .cons n t h => .cons ⟨t, rfl⟩ (vals_ints h)
def Only (H : Hp) : Prop := ∀ b, H b = none ∨ ∃ o xs, H b = some (.frz o (.lst xs))
theorem law_call {P : Program} {w : World} {K : PySem.W.Frag} {mg mb : Str → Option Value} {CX : CXT} {k : Nat} {fa a : Addr} {fd : FuncData} {x : Str} {sp : Sp} {s₁ : Shared} {vs : List Value} {ns : List Int}
    (KX : K.In s₁.heap) (hns : s₁.heap.Ns mainGlobals mg) (hb : s₁.heap.Ns builtinsNs mb) (hbb : ∀ x : Str, x ≠ "__name__" → mb x = bootBuiltins x) (hlim : s₁.heap.NoLimit) (hg : s₁.gens = #[])
    (ha : s₁.heap.get? a = some { cls := .type "list", data := .seq vs.toArray }) (hi : IntsAre vs ns) (hl : ns.length ≤ sizeLine) (hr : Room k callerA)
    (F : ∀ base : Heap, K.In base → base.Ns mainGlobals mg → FnOk P w K mg base CX k fa fd [x] sp) (hbind : ∀ (s : Shared) (u : Value), BindsTo s fd ⟨[u], []⟩ [(x, u)])
    (hsp : ∀ H : Hp, Only H → SqL K H a (ns.map V.int) → sp [.ref a] H (fun v _ => v = .bl true) fun _ _ _ => False)
    (hCX : ∀ H e s', CX [] H s₁ (fun _ _ _ => False) e s' → False) :
    codeAny (model P w) callerA (.call (.ref fa) ⟨[.ref a], []⟩) (fun r s' => r = .ok (.ret (.bool true)) ∧ OldK s₁.heap s'.heap ∧ s'.os = s₁.os ∧ AllBare s'.gens) s₁ := by
  have rv := vals_ints hi
  have lenV := hi.length
  -- from an abstract heap in which nothing but the script may be tracked
  have core : ∀ H : Hp, Only H → SqL K H a (ns.map V.int) → HOk P w H s₁.heap → (∀ b, H b ≠ none → b = a) → (H a ≠ none → K.lookup a = none) →
      codeAny (model P w) callerA (.call (.ref fa) ⟨[.ref a], []⟩) (fun r s' => r = .ok (.ret (.bool true)) ∧ OldK s₁.heap s'.heap ∧ s'.os = s₁.os ∧ AllBare s'.gens) s₁ := by
    intro H hO hS hok hA hK
    have base_of : ∀ {b : Addr} {o : Obj}, s₁.heap.get? b = some o → H b = none → (hidT s₁.heap H).get? b = some o := fun e n => hidT_get e n
    have noA : ∀ {b : Addr} {o : Obj} {es : Array DictEntry} {ep : Nat}, s₁.heap.get? b = some o → o.data = .dict es ep → H b = none := fun {b o es ep} e d => by
      cases q : H b with
      | none => rfl
      | some u =>
        have e' : b = a := hA b (by rw [q]; simp)
        subst e'
        rw [ha] at e; cases e
        have d' : Data.seq vs.toArray _ = Data.dict es ep := d
        cases d'
    have nsK : ∀ {b : Addr} {m : Str → Option Value}, s₁.heap.Ns b m → (hidT s₁.heap H).Ns b m := fun {b m} ⟨o, es, ep, e, d, r⟩ => ⟨o, es, ep, base_of e (noA e d), d, r⟩
    have hKb : K.In (hidT s₁.heap H) := fun b o e => base_of (KX b o e) (by
      cases q : H b with
      | none => rfl
      | some u =>
        have e' : b = a := hA b (by rw [q]; simp)
        subst e'
        rw [hK (by rw [q]; simp)] at e; cases e)
    have hM : Mod K mg (hidT s₁.heap H) := ⟨hKb, nsK hns, ⟨mb, nsK hb, hbb⟩, let ⟨mc, h1, h2⟩ := hlim; ⟨mc, nsK h1, h2⟩⟩
    have e0 : Env0 P w K mg (hidT s₁.heap H) callerA [] s₁ H := ⟨rfl, hM, fun b o e => of_hidT e, Nat.le_of_eq (hidT_size _ _), trivial, fun b hb => absurd (show b ∈ ([] : List Addr) from hb) (by simp), hok, .of_eq hg⟩
    refine codeAny_mono ((F _ hKb (nsK hns)).run callerA [] s₁ H ⟨[.ref a], []⟩ [.ref a] [.ref a] _ _ hr e0 (hbind s₁ (.ref a)) (.cons rfl .nil) (hsp H hO hS)) fun r s' h => ?_
    cases r with
    | error e => exact (hCX H e s' h).elim
    | ok fl =>
      cases fl with
      | next => exact False.elim h
      | brk => exact False.elim h
      | cont => exact False.elim h
      | ret u =>
        obtain ⟨v, H', os, bare, un, hok', r', q⟩ := h
        have q' : v = .bl true := q
        subst q'
        obtain rfl : u = Value.bool true := r'
        refine ⟨rfl, OldK.of_keep fun b o e => ?_, os, bare⟩
        cases q : H b with
        | none => exact un.keep b o e q (by intro z; exact absurd (show b ∈ ([] : List Addr) from z) (by simp)) (by simp)
        | some u =>
          rcases hO b with z | ⟨ob, xs, z⟩
          · rw [q] at z; cases z
          · have z2 := un.frzs b ob _ z
            obtain ⟨e1, _⟩ := hok b _ z
            obtain ⟨e2, _⟩ := hok' b _ z2
            rw [e] at e1; cases e1
            exact e2
  cases hk : K.lookup a with
  | some o =>
    -- the script is one of the module's own objects
    have e := KX a o hk
    rw [ha] at e
    cases e
    refine core (fun _ => none) (fun _ => .inl rfl) (.inr ⟨_, vs.toArray, _, hk, rfl, rfl, rfl, by rw [List.size_toArray, lenV]; exact hl, by simpa using rv⟩) (fun b u z => by have z' : (none : Option HO) = some u := z; cases z') (fun b z => absurd rfl z) fun z => absurd rfl z
  | none =>
    refine core (fun b => if b = a then some (.frz { cls := .type "list", data := .seq vs.toArray } (.lst (ns.map V.int))) else none) (fun b => ?_) (.inl (.inr ⟨{ cls := .type "list", data := .seq vs.toArray }, if_pos rfl⟩)) (fun b u z => ?_) (fun b z => ?_) fun _ => hk
    · by_cases hb : b = a
      · exact .inr ⟨_, _, if_pos hb⟩
      · exact .inl (if_neg hb)
    · by_cases hb : b = a
      · have z' := (if_pos hb).symm.trans z
        cases z'
        subst hb
        exact ⟨ha, by rw [List.length_map]; exact hl, vs, _, rv, ha⟩
      · have z' := (if_neg hb).symm.trans z
        cases z'
    · by_cases hb : b = a
      · exact hb
      · exact absurd (if_neg hb) z
end L2
namespace L2
open PySem PySem.Spec PyProof.Rows
theorem walk_of {l : PySem.W.OpenLaw} {n k : Nat} {q : Program} {loose : List Str} {XP : (Str → Option Value) → Heap → Prop} {YP : World → Heap → Prop} {d : DefRec} {K : Params → PySem.W.Frag} {CX : World → CXT} {sp : World → Sp} {x : Str}
    (hn : l.most = some n) (hn2 : n ≤ sizeLine) (hdf : d.params.defaults = []) (hr : Room k callerA)
    (hY : ∀ (w : World) (h : Heap), YP w h → (K w.params).In h)
    (F : ∀ (w : World) (mg : Str → Option Value) (fa : Addr) (h : Heap), (K w.params).In h → h.Ns mainGlobals mg → mg d.name = some (.ref fa) →
      ∃ fd : FuncData, (∀ (s : Shared) (u : Value), BindsTo s fd ⟨[u], []⟩ [(x, u)]) ∧
        ∀ base : Heap, (K w.params).In base → base.Ns mainGlobals mg → FnOk l.prog w (K w.params) mg base (CX w) k fa fd [x] (sp w))
    (hsp : ∀ (w : World) (H : Hp) (a : Addr) (ns : List Int), ns.length ≤ n → Only H → SqL (K w.params) H a (ns.map V.int) → sp w [.ref a] H (fun v _ => v = .bl true) fun _ _ _ => False)
    (hCX : ∀ (w : World) (H : Hp) (s : Shared) (e : Value) (s' : Shared), CX w [] H s (fun _ _ _ => False) e s' → False) :
    PySem.W.WalkO q loose XP YP l.row.toRowW d [] (fun f vs => PySem.call f vs) := by
  refine Att.attach_call hn hdf fun w s₀ s₁ mg mb fa o pm cd doc a vs ns G Y ho hd hcd hmg hobj hints hlen hg => ?_
  have KX := hY w _ Y
  obtain ⟨fd, hb, hF⟩ := F w mg fa _ KX G.T.g hmg
  exact law_call KX G.T.g G.T.b G.T.builtins G.T.nolimit hg hobj hints (Nat.le_trans hlen hn2) hr hF hb (fun H hO hS => hsp w H a ns hlen hO hS) fun H e s' => hCX w H s₁ e s'
end L2
namespace L2
open PySem PySem.Spec PyProof.Rows
def defArgs (s : Stmt) : Arguments := match s with
  | .FunctionDef _ a _ _ _ _ _ _ _ _ => a
  | _ => { posonlyargs := [], args := [], vararg := none, kwonlyargs := [], kw_defaults := [], kwarg := none, defaults := [] }
def defBody (s : Stmt) : List Stmt := match s with
  | .FunctionDef _ _ b _ _ _ _ _ _ _ => b
  | _ => []
def defScope (s : Stmt) : Scope := match s with
  | .FunctionDef _ _ _ _ _ _ sc _ _ _ => sc
  | _ => { kind := .function, names := [], isGenerator := false, isCoroutine := false }
abbrev CX0 : CXT := fun _ _ _ _ _ _ => False
abbrev E0 : XK := fun _ _ _ => False
theorem pass0 {X : Cx} : Passes CX0 X E0 := fun _ _ _ _ _ _ _ h => h.elim
structure Fun (K : PySem.W.Frag) (x qual : Str) (st : Stmt) (f : Addr) (fd : FuncData) : Prop where
  ex : ∃ (oc : Value) (od : Option Addr) (kV doc pm : Value) (an : Option Addr) (cdv ct : Value) (osl : Array (Option Value)),
    fd = PySem.W.fnOf x qual (defArgs st) (defBody st) (defScope st) .none kV doc pm an cdv ct ∧ K.lookup f = some ⟨oc, od, .func fd, osl⟩ ∧ PySem.W.codeIn K cdv qual = true
  kp : PySem.W.keepIn K (.ref f) = true
section
variable {P : Program} {w : World} {K : PySem.W.Frag} {mg : Str → Option Value} {base : Heap}
theorem Fun.ok {x qual : Str} {st : Stmt} {f : Addr} {fd : FuncData} {N ps : List Str} {k : Nat} {sp : Sp} (F : Fun K x qual st f fd) (S : FnScope N ps (defScope st)) (len : ∀ vs H Q E, sp vs H Q E → vs.length = ps.length)
    (hbody : ∀ (cdv : Value) (A : Around) (outer : List Env) (s : Shared) (H : Hp) (vs : List V) (Q : VK) (E : XK), Room k (A.deeper (envOfC qual (defScope st) s.heap.objs.size f cdv)) → sp vs H Q E →
      ∃ t, PSs (cxOf CX0 P w K mg base N qual (defScope st) f cdv A outer s H E).nox (defBody st) t ∧ t { nx := fun _ H' => Q .non H', rt := Q } (start N vs) H) : FnOk P w K mg base CX0 (k + 1) f fd ps sp := by
  obtain ⟨oc, od, kV, doc, pm, an, cdv, ct, osl, rfl, lk, hcd⟩ := F.ex
  refine fn_of lk hcd S len fun A outer s H vs Q E hr hsp => ?_
  obtain ⟨t, h, q⟩ := hbody cdv A outer s H vs Q E hr hsp
  exact ⟨t, h.nox, q⟩
theorem Fun.binds {x qual : Str} {st : Stmt} {f : Addr} {fd : FuncData} {ps : List Str} (F : Fun K x qual st f fd)
    (h : ∀ (kV doc pm : Value) (an : Option Addr) (cdv ct : Value) (us : List Value), us.length = ps.length → bindArgs (PySem.W.fnOf x qual (defArgs st) (defBody st) (defScope st) .none kV doc pm an cdv ct) ⟨us, []⟩ = pure (ps.zip us)) : Binds K fd ps [] := by
  obtain ⟨oc, od, kV, doc, pm, an, cdv, ct, osl, rfl, lk, hcd⟩ := F.ex
  exact .all (h kV doc pm an cdv ct)
theorem fun_mk {x qual : Str} {st : Stmt} {f : Addr} {oc : Value} {od an : Option Addr} {osl : Array (Option Value)} {kV doc pm cdv ct : Value} (l : K.lookup f = some ⟨oc, od, .func (PySem.W.fnOf x qual (defArgs st) (defBody st) (defScope st) .none kV doc pm an cdv ct), osl⟩)
    (c : PySem.W.codeIn K cdv qual = true) (k : PySem.W.keepIn K (.ref f) = true) : Fun K x qual st f (PySem.W.fnOf x qual (defArgs st) (defBody st) (defScope st) .none kV doc pm an cdv ct) := ⟨⟨oc, od, kV, doc, pm, an, cdv, ct, osl, rfl, l, c⟩, k⟩
end
section
variable {X : Cx}
theorem pv (i : Nat) {x : Str} {pos : Pos} (hN : X.N[i]? = some x := by rfl) (hv : Vis X.env.scope x := by first | exact Or.inl rfl | exact Or.inr (Or.inl rfl) | exact Or.inr (Or.inr rfl)) (hd : (x == ("__debug__" : Str)) = false := by decide)
    (hcd : (x == ("__classdict__" : Str)) = false := by decide) : PE X (.Name x pos) (tVar i) := pe_var hN hv hd hcd
end
theorem iteF {A B : Prop} (h : B) : if false = true then A else B := by
  rw [if_neg Bool.false_ne_true]
  exact h
theorem iteT {A B : Prop} (h : A) : if true = true then A else B := by
  rw [if_pos rfl]
  exact h
theorem ite2 {c A B : Prop} [Decidable c] (h1 : c → A) (h2 : ¬ c → B) : if c then A else B := by
  by_cases h : c
  · rw [if_pos h]
    exact h1 h
  · rw [if_neg h]
    exact h2 h
theorem iteNS {c A B : Prop} [Decidable c] (hc : c) (h : B) : if (!decide c) = true then A else B := by
  rw [decide_eq_true hc]
  exact iteF h
def Same (H H' : Hp) : Prop := ∀ b o, H b = some o → H' b = some o
theorem Same.refl (H : Hp) : Same H H := fun _ _ h => h
theorem Same.trans {H H1 H2 : Hp} (a : Same H H1) (b : Same H1 H2) : Same H H2 := fun c o h => b c o (a c o h)
theorem Same.free {H H' : Hp} (e : Same H H') {l : Addr} (h : H' l = Option.none) : H l = Option.none := by
  cases q : H l with
  | none => rfl
  | some o =>
    rw [e l o q] at h
    cases h
theorem Same.seq {K : PySem.W.Frag} {H H' : Hp} {a : Addr} {xs : List V} (e : Same H H') (h : SqL K H a xs) : SqL K H' a xs := by
  rcases h with (h | ⟨o, h⟩) | h
  · exact .inl (.inl (e _ _ h))
  · exact .inl (.inr ⟨o, e _ _ h⟩)
  · exact .inr h
end L2
namespace L2
open PySem PySem.Spec PyProof.Rows
end L2
set_option Elab.async false
set_option linter.all false
set_option maxRecDepth 100000
set_option maxHeartbeats 4000000
namespace L2
open PySem PySem.Spec PyProof.Rows
def closCl (cells : List (Str × Addr)) : List (Str × NameKind) → List (Str × Addr) → List (Str × Addr)
  | [], acc => acc
  | (n, k) :: r, acc => closCl cells r (if k == .free then (n, (cells.lookup n).getD 0) :: acc else acc)
theorem closureFor_cells {scope : Scope} {env : Env} (h : ∀ x ∈ scope.names, x.2 = .free → ∃ c, env.cells.lookup x.1 = some c) :
    closureFor scope env = pure (closCl env.cells scope.names []) := by
  have gen : ∀ (l : List (Str × NameKind)) (acc : List (Str × Addr)), (∀ x ∈ l, x.2 = .free → ∃ c, env.cells.lookup x.1 = some c) →
      (forIn l acc fun (x : Str × NameKind) (cs : List (Str × Addr)) => (do
        if x.2 == .free then
          let c ← cellOf env x.1
          pure (ForInStep.yield ((x.1, c) :: cs))
        else pure (ForInStep.yield cs) : Sem (ForInStep (List (Str × Addr))))) = pure (closCl env.cells l acc) := by
    intro l
    induction l with
    | nil => intro acc _; rfl
    | cons x r ih =>
      intro acc hx
      obtain ⟨n, k⟩ := x
      rw [List.forIn_cons]
      have hr := fun y hy => hx y (List.mem_cons_of_mem _ hy)
      by_cases hk : k = .free
      · subst hk
        obtain ⟨c, hc⟩ := hx (n, .free) List.mem_cons_self rfl
        have e1 : cellOf env n = pure c := by unfold cellOf; rw [hc]
        simp only [e1, beq_self_eq_true, if_true, pure_bind]
        rw [ih _ hr]
        have hc' : env.cells.lookup n = some c := hc
        simp [closCl, hc']
      · have hb : (k == NameKind.free) = false := by simpa using hk
        simp only [hb, Bool.false_eq_true, if_false, pure_bind]
        rw [ih _ hr]
        simp [closCl, hb]
  have g := gen scope.names [] h
  unfold closureFor
  simp only [bind_pure]
  exact g
theorem closCl_sound {cells : List (Str × Addr)} : ∀ (l : List (Str × NameKind)) (acc : List (Str × Addr)), (∀ x ∈ l, x.2 = .free → ∃ c, cells.lookup x.1 = some c) →
    (∀ y c, acc.lookup y = some c → cells.lookup y = some c) → ∀ y c, (closCl cells l acc).lookup y = some c → cells.lookup y = some c
  | [], _, _, ha, y, c, e => ha y c e
  | (n, k) :: r, acc, h, ha, y, c, e => by
    refine closCl_sound r _ (fun x hx => h x (List.mem_cons_of_mem _ hx)) ?_ y c e
    intro y c e
    by_cases hk : k = .free
    · subst hk
      obtain ⟨c', hc⟩ := h (n, .free) List.mem_cons_self rfl
      have hc : cells.lookup n = some c' := hc
      simp only [beq_self_eq_true, if_true, List.lookup_cons] at e
      by_cases hy : y == n
      · have : y = n := by simpa using hy
        subst this
        simp [hc] at e
        rw [hc, e]
      · simp only [hy] at e
        exact ha y c e
    · have hb : (k == NameKind.free) = false := by simpa using hk
      rw [hb, if_neg (by simp)] at e
      exact ha y c e
theorem closCl_acc {cells : List (Str × Addr)} : ∀ (l : List (Str × NameKind)) (acc : List (Str × Addr)) (y : Str), (∃ c, acc.lookup y = some c) → ∃ c, (closCl cells l acc).lookup y = some c
  | [], _, _, h => h
  | (n, k) :: r, acc, y, h => by
    refine closCl_acc r _ y ?_
    by_cases hk : (k == NameKind.free) = true
    · rw [if_pos hk, List.lookup_cons]
      by_cases hy : (y == n) = true
      · rw [hy]; exact ⟨_, rfl⟩
      · rw [Bool.eq_false_iff.mpr hy]; exact h
    · rw [if_neg hk]; exact h
theorem closCl_has {cells : List (Str × Addr)} : ∀ (l : List (Str × NameKind)) (acc : List (Str × Addr)) (y : Str), (y, NameKind.free) ∈ l → ∃ c, (closCl cells l acc).lookup y = some c
  | [], _, _, h => nomatch h
  | (n, k) :: r, acc, y, h => by
    rcases List.mem_cons.mp h with e | h
    · have e1 : n = y := (congrArg Prod.fst e).symm
      have e2 : k = NameKind.free := (congrArg Prod.snd e).symm
      subst e1 e2
      refine closCl_acc r _ n ?_
      rw [if_pos (by rfl), List.lookup_cons, beq_self_eq_true]
      exact ⟨_, rfl⟩
    · exact closCl_has r _ y h
theorem relabel_mem {scope : Scope} {env : Env} : ∀ {l : List (Str × NameKind)} {x : Str} {k' : NameKind},
    (l.map fun (n, k) => if (k == NameKind.free && env.scope.kind == .function && env.kindOf n == some .cell) then (n, NameKind.cell) else (n, k)).lookup x = some k' →
    ∃ k, (x, k) ∈ l ∧ (k = k' ∨ (k = .free ∧ k' = .cell))
  | [], _, _, h => by simp at h
  | (n, k) :: r, x, k', h => by
    rw [List.map_cons] at h
    dsimp only at h
    by_cases hc : (k == NameKind.free && env.scope.kind == .function && env.kindOf n == some .cell) = true
    · simp only [hc, if_true, List.lookup_cons] at h
      by_cases hx : (x == n) = true
      · rw [hx] at h
        have : x = n := by simpa using hx
        subst this
        have hk : k = .free := by
          rw [Bool.and_eq_true, Bool.and_eq_true] at hc
          simpa using hc.1.1
        exact ⟨k, List.mem_cons_self, .inr ⟨hk, by cases h; rfl⟩⟩
      · rw [Bool.eq_false_iff.mpr hx] at h
        obtain ⟨k1, h1, h2⟩ := relabel_mem (scope := scope) h
        exact ⟨k1, List.mem_cons_of_mem _ h1, h2⟩
    · rw [if_neg hc, List.lookup_cons] at h
      by_cases hx : (x == n) = true
      · rw [hx] at h
        have : x = n := by simpa using hx
        subst this
        exact ⟨k, List.mem_cons_self, .inl (by cases h; rfl)⟩
      · rw [Bool.eq_false_iff.mpr hx] at h
        obtain ⟨k1, h1, h2⟩ := relabel_mem (scope := scope) h
        exact ⟨k1, List.mem_cons_of_mem _ h1, h2⟩
theorem relabel_free {env : Env} : ∀ {l : List (Str × NameKind)} {x : Str}, l.lookup x = some .free →
    (l.map fun (n, k) => if (k == NameKind.free && env.scope.kind == .function && env.kindOf n == some .cell) then (n, NameKind.cell) else (n, k)).lookup x = some .cell ∨
    (l.map fun (n, k) => if (k == NameKind.free && env.scope.kind == .function && env.kindOf n == some .cell) then (n, NameKind.cell) else (n, k)).lookup x = some .free
  | [], _, h => by simp at h
  | (n, k) :: r, x, h => by
    rw [List.map_cons]
    dsimp only
    rw [List.lookup_cons] at h
    by_cases hx : (x == n) = true
    · rw [hx] at h
      have hk : k = .free := by cases h; rfl
      by_cases hc : (k == NameKind.free && env.scope.kind == .function && env.kindOf n == some .cell) = true
      · left; rw [if_pos hc, List.lookup_cons, hx]
      · right; rw [if_neg hc, List.lookup_cons, hx, hk]
    · rw [Bool.eq_false_iff.mpr hx] at h
      have ih := relabel_free (env := env) h
      by_cases hc : (k == NameKind.free && env.scope.kind == .function && env.kindOf n == some .cell) = true
      · rw [if_pos hc, List.lookup_cons, Bool.eq_false_iff.mpr hx]; exact ih
      · rw [if_neg hc, List.lookup_cons, Bool.eq_false_iff.mpr hx]; exact ih
theorem lookup_mem {α : Type} [BEq α] [LawfulBEq α] {β : Type} : ∀ {l : List (α × β)} {x : α} {k : β}, l.lookup x = some k → (x, k) ∈ l
  | [], _, _, h => by simp at h
  | (n, k') :: r, x, k, h => by
    rw [List.lookup_cons] at h
    by_cases hx : (x == n) = true
    · rw [hx] at h
      have : x = n := by simpa using hx
      subst this
      cases h
      exact List.mem_cons_self
    · rw [Bool.eq_false_iff.mpr hx] at h
      exact List.mem_cons_of_mem _ (lookup_mem h)
def cxIn (X : Cx) (N' : List Str) (scope : Scope) (C : Addr) (s2 : Shared) (H2 : Hp) (fp : List Addr) : Cx :=
  { X with N := N', s₀ := s2, H₀ := H2, env := compEnvC scope (closCl X.env.cells scope.names []) C X.env, outer := X.stack, ex := fp, fn := fun _ => false, xe := fun _ _ => False }
def capt (cap : List (Option Nat)) (σ : St) : St := cap.map fun o => o.bind fun j => (σ[j]?).join
structure CompScope (N' : List Str) (cap : List (Option Nat)) (N : List Str) (sc0 scope : Scope) : Prop where
  kind : scope.kind = .function
  nocell : ∀ x ∈ scope.names, x.2 ≠ .cell
  loc : ∀ x ∈ scope.names, x.2 = .local → scope.names.lookup x.1 = some .local
  fre : ∀ x ∈ scope.names, x.2 = .free → sc0.names.lookup x.1 = some .cell ∨ sc0.names.lookup x.1 = some .free
  len : cap.length = N'.length
  cap : ∀ j ∈ List.range cap.length, match cap[j]? with
    | some (some i) => match N'[j]? with
      | some x => N[i]? = some x ∧ scope.names.lookup x = some .free
      | none => False
    | _ => True
section
variable {X : Cx} {N' : List Str} {cap : List (Option Nat)} {scope : Scope} {C : Addr} {s2 s4 : Shared} {H2 : Hp} {fp : List Addr} {pins : List (Addr × Obj)} {σ : St}
theorem CompScope.clos (S : CompScope N' cap X.N X.env.scope scope) (I : Inv X pins σ H2 s2) : ∀ x ∈ scope.names, x.2 = .free → ∃ c, X.env.cells.lookup x.1 = some c :=
  fun x hx hf => I.ok.has x.1 (S.fre x hx hf)
theorem cxIn_ok (S : CompScope N' cap X.N X.env.scope scope) (I : Inv X pins σ H2 s2) (hC : s2.heap.objs.size ≤ C) (hfp : ∀ b ∈ fp, FpOk X pins H2 b) (hfo : ∀ b ∈ fp, ∃ o, s2.heap.get? b = some o) : (cxIn X N' scope C s2 H2 fp).Ok where
  mod := I.ok.mod
  kind := S.kind
  glob := I.ok.glob
  blt := I.ok.blt
  above := hC
  inj := fun x y c e1 e2 => I.ok.inj x y c (closCl_sound _ _ (S.clos I) (fun y c e => by simp at e) x c e1) (closCl_sound _ _ (S.clos I) (fun y c e => by simp at e) y c e2)
  has := fun x h => by
    have hm : (x, NameKind.free) ∈ scope.names := by
      rcases h with h | h
      · obtain ⟨k, hk, e | ⟨e, _⟩⟩ := relabel_mem (scope := scope) (l := scope.names) h
        · subst e; exact absurd rfl (S.nocell _ hk)
        · subst e; exact hk
      · obtain ⟨k, hk, e | ⟨_, e⟩⟩ := relabel_mem (scope := scope) (l := scope.names) h
        · subst e; exact hk
        · cases e
    exact closCl_has _ _ x hm
  cab := fun _ _ h _ => nomatch h
  hd := I.ok.hd
  frames := I.ok.frames
  stk := .inl rfl
  exf := fun b hb => ⟨fun z => by
      obtain ⟨o, ho⟩ := hfo b hb
      have h1 := Nat.lt_of_lt_of_le (Heap.lt_size ho) hC
      have z : b = C := z
      rw [z] at h1
      exact Nat.lt_irrefl _ h1, fun x c e => (hfp b hb).2.2.2.2.1 x c (closCl_sound _ _ (S.clos I) (fun y c e => by simp at e) x c e)⟩
  bs := I.bs
  bsz := Nat.le_trans I.ok.bsz I.sz
  noex := fun b o e hb => by
    rcases (hfp b hb).2.2.2.1 with z | z
    · exact I.ok.noex b o e z
    · exact absurd (Nat.lt_of_lt_of_le (Heap.lt_size e) (Nat.le_trans I.ok.bsz z)) (Nat.lt_irrefl _)
  exfs := fun b hb z => by
    rcases List.mem_cons.mp (I.stkSub b z) with e | e
    · exact (hfp b hb).2.1 e
    · exact (hfp b hb).2.2.1 e
  funs := I.stack
  frf := I.stkFree
theorem cxIn_inv (S : CompScope N' cap X.N X.env.scope scope) (I : Inv X pins σ H2 s2) (hC : s2.heap.objs.size ≤ C) (hfp : ∀ b ∈ fp, FpOk X pins H2 b) (hfo : ∀ b ∈ fp, ∃ o, s2.heap.get? b = some o)
    (ho : s4.os = s2.os) (hg : s4.gens = s2.gens) (k : ∀ b o, s2.heap.get? b = some o → s4.heap.get? b = some o) {m : Str → Option Value} (hn : s4.heap.Ns C m) {D : Addr} {oD : Obj}
    (hD : s4.heap.get? D = some oD) (hDs : s2.heap.objs.size ≤ D) (hDC : D ≠ C) (hDc : ∀ v, oD.data ≠ .cell v) :
    Inv (cxIn X N' scope C s2 H2 fp) (pins ++ [(D, oD)]) (capt cap σ) H2 s4 where
  ok := cxIn_ok S I hC hfp hfo
  os := ho
  bare := by rw [hg]; exact I.bare
  base := Un.kept k
  loc := by
    refine ⟨m, hn, fun j x v e1 e2 _ => ?_⟩
    have hj : j < cap.length := by rw [S.len]; exact (List.getElem?_eq_some_iff.mp e1).1
    have e1 : N'[j]? = some x := e1
    have hc := S.cap j (List.mem_range.mpr hj)
    unfold capt at e2
    rw [List.getElem?_map] at e2
    cases hq : cap[j]? with
    | none => rw [hq] at e2; cases e2
    | some o =>
      rw [hq] at e2 hc
      cases o with
      | none => cases e2
      | some i =>
        simp only [e1] at hc
        obtain ⟨hN, hfr⟩ := hc
        have e3 : σ[i]? = some (some v) := by
          have e2 : (σ[i]?).join = some v := Option.some.inj e2
          cases hs : σ[i]? with
          | none => rw [hs] at e2; cases e2
          | some w => rw [hs] at e2; have e2 : w = some v := e2; rw [e2]
        have hm := lookup_mem hfr
        have hk := S.fre _ hm rfl
        obtain ⟨m0, hn0, hl0⟩ := I.loc
        obtain ⟨u, r, l⟩ := hl0 i x v hN e3 (.inr hk)
        refine ⟨u, r, ?_⟩
        rcases l with ⟨l, _⟩ | ⟨_, c, e, z⟩
        · rcases hk with hk | hk
          · rw [show X.env.kindOf x = some .cell from hk] at l; cases l
          · rw [show X.env.kindOf x = some .free from hk] at l; cases l
        · obtain ⟨c', hc'⟩ := closCl_has (cells := X.env.cells) scope.names [] x hm
          have hs := closCl_sound scope.names [] (S.clos I) (fun y c e => by simp at e) x c' hc'
          rw [e] at hs
          cases hs
          refine .inr ⟨relabel_free hfr, c, hc', ?_⟩
          obtain ⟨oc, ho', hd'⟩ := z
          exact ⟨oc, k _ _ ho', hd'⟩
  cell := fun x c e => by
    obtain ⟨v, oc, ho', hd'⟩ := I.cell x c (closCl_sound scope.names [] (S.clos I) (fun y c e => by simp at e) x c e)
    exact ⟨v, oc, k _ _ ho', hd'⟩
  free := I.hok.fresh hC
  freeC := fun x c e => I.freeC x c (closCl_sound scope.names [] (S.clos I) (fun y c e => by simp at e) x c e)
  pin := fun p hp => by
    have hp : p ∈ X.pn ++ (pins ++ [(D, oD)]) := hp
    have cne : ∀ b o, s2.heap.get? b = some o → b ≠ C := fun b o e z => by
      have h1 := Nat.lt_of_lt_of_le (Heap.lt_size e) hC
      rw [z] at h1
      exact Nat.lt_irrefl _ h1
    rw [← List.append_assoc] at hp
    rcases List.mem_append.mp hp with hp | hp
    · obtain ⟨e, n, ne, nf, d⟩ := I.pin p hp
      exact ⟨k _ _ e, n, cne _ _ e, fun z => by
        rcases List.mem_cons.mp (I.stkSub p.1 z) with e | e
        · exact ne e
        · exact nf e, d⟩
    · have e : p = (D, oD) := by simpa using hp
      subst e
      refine ⟨hD, I.hok.fresh hDs, hDC, fun z => ?_, hDc⟩
      rcases List.mem_cons.mp (I.stkSub D z) with e | e
      · have h1 := Nat.lt_of_lt_of_le I.lt hDs
        rw [e] at h1
        exact Nat.lt_irrefl _ h1
      · exact I.nofs hDs e
  hok := I.hok.kept k
  len := by unfold capt; rw [List.length_map]; exact S.len
end
def PF (X : Cx) (ifs : List Expr) (t : TT) : Prop :=
  ∀ (pins : List (Addr × Obj)) (s : Shared) (σ : St) (H : Hp) (Q : Bool → Hp → Prop), Inv X pins σ H s → t σ H Q →
    wpAny (model X.prog X.w) X.A (forIn ifs true fun c r => if r = true then do let ok ← isTrue c X.env (eval c X.env); pure (ForInStep.yield ok) else pure (ForInStep.yield r)) (TP X pins σ Q) X.xe s
def tTru : TT := fun _ H Q => Q true H
theorem pf_nil {X : Cx} : PF X [] tTru := fun _ _ _ H _ I h => wpAny_tests_nil ⟨H, I, h⟩
theorem pf_one {X : Cx} {c : Expr} {t : TT} (h : PT X c t) : PF X [c] t := fun pins s σ H Q I q => wpAny_tests_one (h pins s σ H Q I q)
section
variable {prog : Program} {w : World} {A : Around} {E : Value → Shared → Prop} {R : Result → Shared → Prop} {s : Shared}
theorem codeAny_compLoop_any {elt target iter : Expr} {ifs : List Expr} {scope : Scope} {pos : Pos} {it acc : Value} {env : Env} (I : Nat → Shared → Prop)
    (turn : ∀ n s, I n s → wpAny (model prog w) A (pyNext it) (fun r s₁ => match r with
      | none => R (.ok .next) s₁
      | some v => wpAny (model prog w) A (letOwnedTupleGo target it v) (fun _ s₁' => wpAny (model prog w) A (assign target env v) (fun _ s₂ =>
          wpAny (model prog w) A (forIn ifs true fun c r => if r = true then do let ok ← isTrue c env (eval c env); pure (ForInStep.yield ok) else pure (ForInStep.yield r)) (fun ok s₃ =>
            if ok = true then wpAny (model prog w) A (eval elt env) (fun x s₄ =>
              wpAny (model prog w) A (call (.builtin "list.append") [acc, x]) (fun _ s₅ => ∃ m, m < n ∧ I m s₅) (fun _ _ => False) s₄) (fun _ _ => False) s₃
            else ∃ m, m < n ∧ I m s₃) (fun _ _ => False) s₂) (fun _ _ => False) s₁') (fun _ _ => False) s₁) (fun _ _ => False) s)
    (n : Nat) (h : I n s) :
    codeAny (model prog w) A (.compLoop (.ListComp elt [⟨target, iter, ifs, 0⟩] scope pos) 0 it acc env) R s := by
  refine codeAny_loop rfl I (fun n s hI => ?_) n h
  show wpAny _ A ((compTurn (.ListComp elt [⟨target, iter, ifs, 0⟩] scope pos) 0 it acc env).onRaise (fun x => do noteFrame x env; theTreesLotGoes x)) _ _ s
  refine wpAny_noted ?_
  rw [compTurn_list]
  refine wpAny_bind (wpAny_standAt (wpAny_bind (wpAny_mono (turn n s hI) (fun r s₁ h₁ => ?_) fun _ _ h' => h'.elim)))
  cases r with
  | none => exact wpAny_pure h₁
  | some v =>
    refine wpAny_bind (wpAny_mono h₁ (fun _ s₁' h₁' => ?_) fun _ _ h' => h'.elim)
    refine wpAny_bind (wpAny_mono h₁' (fun _ s₂ h₂ => wpAny_bind (wpAny_mono h₂ (fun ok s₃ h₃ => ?_) fun _ _ h' => h'.elim)) fun _ _ h' => h'.elim)
    cases ok with
    | false => exact wpAny_pure ⟨rfl, h₃⟩
    | true =>
      exact wpAny_bind (wpAny_bind (wpAny_mono h₃ (fun x s₄ h₄ => wpAny_bind (wpAny_mono h₄ (fun _ s₅ h₅ => wpAny_pure (wpAny_pure ⟨rfl, h₅⟩)) fun _ _ h' => h'.elim)) fun _ _ h' => h'.elim))
end
def Kp : St → St → Prop
  | [], [] => True
  | none :: r, _ :: r' => Kp r r'
  | some v :: r, o :: r' => o = some v ∧ Kp r r'
  | _, _ => False
theorem Kp.length : ∀ {a b : St}, Kp a b → a.length = b.length
  | [], [], _ => rfl
  | none :: r, _ :: r', h => congrArg (· + 1) (Kp.length (a := r) (b := r') h)
  | some v :: r, o :: r', h => congrArg (· + 1) (Kp.length (a := r) (b := r') h.2)
  | [], _ :: _, h => h.elim
  | none :: _, [], h => h.elim
  | some _ :: _, [], h => h.elim
theorem Kp.get : ∀ {a b : St}, Kp a b → ∀ (i : Nat) (v : V), a[i]? = some (some v) → b[i]? = some (some v)
  | [], [], _, i, v, e => e
  | none :: r, _ :: r', h, 0, v, e => by simp at e
  | none :: r, _ :: r', h, i + 1, v, e => by simpa using Kp.get (a := r) (b := r') h i v (by simpa using e)
  | some w :: r, o :: r', h, 0, v, e => by rw [h.1]; simpa using e
  | some w :: r, o :: r', h, i + 1, v, e => by simpa using Kp.get (a := r) (b := r') h.2 i v (by simpa using e)
  | [], _ :: _, h, _, _, _ => h.elim
  | none :: _, [], h, _, _, _ => h.elim
  | some _ :: _, [], h, _, _, _ => h.elim
def compTurns (J : It) (cap : List (Option Nat)) (σ : St) (H1 : Hp) (Q : VK) (g : TG) (tc : TT) (te : TE) : Prop := ∃ (n : Nat) (P : Nat → List V → Hp → Prop), n ≤ sizeLine ∧ P 0 [] H1 ∧
  ∀ i ys H, ys.length ≤ i → i ≤ n → P i ys H → (J.stop i H ∧ ∀ D, H D = none → Q (.ref D) (upd H D (.lst ys))) ∨
    (i < n ∧ J.go i H ∧ ∀ x H', J.yld i H x H' → g x (capt cap σ) H' fun σ2 H2 => Kp (capt cap σ) σ2 ∧ tc σ2 H2 fun b H3 => if b = true then te σ2 H3 fun y H4 => P (i + 1) (ys ++ [y]) H4 else P (i + 1) ys H3)
def tComp (cap : List (Option Nat)) (wi : TI) (g : TG) (tc : TT) (te : TE) : TE := fun σ H Q => wi σ H fun J H1 => compTurns J cap σ H1 Q g tc te
def CompEnd (X : Cx) (pins : List (Addr × Obj)) (σ : St) (Q : VK) (acc : Value) (C : Addr) (r : Result) (s' : Shared) : Prop :=
  match r with
  | .ok _ => ∃ v H', Inv X pins σ H' s' ∧ RelV v acc ∧ Q v H' ∧ (∃ m, s'.heap.Ns C m) ∧ FpOk X pins H' C
  | .error _ => False
section
variable {X : Cx} {elt tg iter : Expr} {ifs : List Expr} {scope : Scope} {pos : Pos} {N' : List Str} {cap : List (Option Nat)} {wi : TI} {g : TG} {tc : TT} {te : TE}
theorem comp_run (hc : X.calm = true) (S : CompScope N' cap X.N X.env.scope scope) (hi : PI X tg iter wi) (hg : ∀ C s H fp, PG (cxIn X N' scope C s H fp) tg g)
    (ht : ∀ C s H fp, PF (cxIn X N' scope C s H fp) ifs tc) (he : ∀ C s H fp, PE (cxIn X N' scope C s H fp) elt te)
    {pins : List (Addr × Obj)} {s : Shared} {σ : St} {H : Hp} {Q : VK} (I : Inv X pins σ H s) (h : tComp cap wi g tc te σ H Q) :
    wpAny (model X.prog X.w) X.A (eval iter X.env) (fun x s₁ => wpAny (model X.prog X.w) X.A (pyIter x) (fun it s₂ => wpAny (model X.prog X.w) X.A (newList []) (fun acc s₃ =>
      wpAny (model X.prog X.w) X.A (newFunctionEnv scope X.env.globals (closCl X.env.cells scope.names []) [] X.env.qual none .none (some X.env)) (fun cenv s₄ =>
        codeAny (model X.prog X.w) X.A (.compStart (.ListComp elt [⟨tg, iter, ifs, 0⟩] scope pos) 0 it acc { cenv with scope := relabel scope X.env }) (CompEnd X pins σ Q acc cenv.locals) s₄) X.xe s₃) X.xe s₂) X.xe s₁) X.xe s := by
  refine thn (hi pins s σ H _ I h) fun v s1 h1 => thn h1 fun itv s2 h2 => ?_
  obtain ⟨it, fp, tn, J, H2, e, I2, T, st2, f2, n, P, hn, p0, turn⟩ := h2
  subst e
  refine wpAny_newObj_type (wpAny_newFunctionEnv S.nocell (by intro y hy; simp at hy) (fun h₁ hns₁ hsb₁ => ?_) S.kind)
  dsimp only at hns₁ hsb₁ ⊢
  generalize hHp : s2.heap.push { cls := .type "list", dict := none, data := .seq ([] : List Value).toArray } = Hq at hns₁ hsb₁ ⊢
  have hC : Hq.objs.size = s2.heap.objs.size + 1 := by rw [← hHp, Heap.size_push]
  have hDC : s2.heap.objs.size ≠ Hq.objs.size := by rw [hC]; exact Nat.ne_of_lt (Nat.lt_succ_self _)
  have hCle : s2.heap.objs.size ≤ Hq.objs.size := by rw [hC]; exact Nat.le_succ _
  have old : ∀ b o, s2.heap.get? b = some o → h₁.get? b = some o := fun b o e =>
    hsb₁.extBut b o (by rw [hC]; exact Nat.ne_of_lt (Nat.lt_succ_of_lt (Heap.lt_size e))) (Heap.get?_push_of_some _ (hHp ▸ Heap.get?_push_of_some _ e))
  have hacc : h₁.PlainList s2.heap.objs.size #[] := ⟨_, hsb₁.extBut _ _ hDC (Heap.get?_push_of_some _ (hHp ▸ Heap.get?_push_size _ rfl))⟩
  have hfo : ∀ b ∈ fp, ∃ o, s2.heap.get? b = some o := fun b hb => let ⟨o, e, _⟩ := T.obj _ _ st2 b hb; ⟨o, e⟩
  have st4 : tn 0 h₁ := T.keep _ _ _ st2 fun b _ o e => old b o e
  let D : Addr := s2.heap.objs.size
  let C : Addr := Hq.objs.size
  let Y : Cx := cxIn X N' scope C s2 H2 fp
  have hDfp : D ∉ fp := fun hb => by
    obtain ⟨o, e⟩ := hfo D hb
    exact Nat.lt_irrefl _ (Heap.lt_size e)
  -- the iterator's objects, seen from within
  have stat : ∀ {H' : Hp} {oD : Obj}, (∀ b ∈ fp, H' b = none) → ∀ b ∈ fp, FpOk Y (pins ++ [(D, oD)]) H' b := fun {H' oD} hn b hb => by
    obtain ⟨f0, f1, fx, f3, f4, f5⟩ := f2 b hb
    obtain ⟨o, e⟩ := hfo b hb
    refine ⟨hn b hb, fun z => ?_, fun z => ?_, .inl hb, fun x c e => f4 x c (closCl_sound _ _ (S.clos I2) (fun y c e => by simp at e) x c e), fun p hp => ?_⟩
    · have h1 := Nat.lt_of_lt_of_le (Heap.lt_size e) hCle
      have z : b = Hq.objs.size := z
      rw [z] at h1
      exact Nat.lt_irrefl _ h1
    · rcases List.mem_cons.mp (I2.stkSub b z) with e | e
      · exact f1 e
      · exact fx e
    · have hp : p ∈ X.pn ++ (pins ++ [(D, oD)]) := hp
      rw [← List.append_assoc] at hp
      rcases List.mem_append.mp hp with hp | hp
      · exact f5 p hp
      · have q : p = (D, oD) := by simpa using hp
        subst q
        exact fun z => hDfp (by rw [show D = b from z]; exact hb)
  have loop : ∀ s₃ : Shared, s₃ = { s2 with heap := h₁, toks := s2.toks + ([] : List (Str × Value)).length } →
      codeAny (model X.prog X.w) X.A (.compLoop (.ListComp elt [⟨tg, iter, ifs, 0⟩] scope pos) 0 (.ref it) (.ref s2.heap.objs.size) (compEnvC scope (closCl X.env.cells scope.names []) Hq.objs.size X.env))
        (CompEnd X pins σ Q (.ref s2.heap.objs.size) Hq.objs.size) s₃ := by
    rintro s₃ rfl
    have cellD : ∀ x c, Y.env.cells.lookup x = some c → c ≠ D := fun x c e z => by
      obtain ⟨v, q⟩ := I2.cell x c (closCl_sound _ _ (S.clos I2) (fun y c e => by simp at e) x c e)
      have h1 := q.lt
      rw [show c = s2.heap.objs.size from z] at h1
      exact Nat.lt_irrefl _ h1
    have pinD : ∀ p ∈ X.pn ++ pins, p.1 ≠ D := fun p hp z => by
      have h1 := Heap.lt_size (I2.pin p hp).1
      rw [show p.1 = s2.heap.objs.size from z] at h1
      exact Nat.lt_irrefl _ h1
    have inD : ∀ {pl : List (Addr × Obj)} {oD : Obj}, (D, oD) ∈ Y.pn ++ ((pins ++ [(D, oD)]) ++ pl) := fun {pl oD} => List.mem_append_right _ (List.mem_append_left _ (List.mem_append_right _ (by simp)))
    have inF : ∀ {pl : List (Addr × Obj)} {oD : Obj} {p : Addr × Obj}, p ∈ pl → p ∈ Y.pn ++ ((pins ++ [(D, oD)]) ++ pl) := fun {pl oD p} hp => List.mem_append_right _ (List.mem_append_right _ hp)
    refine codeAny_compLoop_any (fun m s' => ∃ i ys H' its ep, m = n - i ∧ i ≤ n ∧ ys.length ≤ i ∧ Vals ys its ∧ Inv Y (pins ++ [(D, { cls := .type "list", data := .seq its.toArray ep })]) (capt cap σ) H' s' ∧ tn i s'.heap ∧ (∀ b ∈ fp, H' b = none) ∧ P i ys H') ?_ n ?_
    · rintro m s3 ⟨i, ys, H3, its, ep, rfl, hin, hyl, rv, I3, st3, fr3, p3⟩
      rcases turn i ys H3 hyl hin p3 with ⟨stop, q⟩ | ⟨hlt, go, step⟩
      · refine thn (T.done Y rfl rfl rfl hc i _ s3 _ H3 (fun _ _ => False) I3 (stat fr3) st3 stop) fun r s4 ⟨hr, I4⟩ => ?_
        subst hr
        obtain ⟨eD, nD, _⟩ := I4.pin (D, { cls := .type "list", data := .seq its.toArray ep }) (List.mem_append_right _ (List.mem_append_right _ (by simp)))
        have nD : H3 D = none := nD
        have okn : ObjOk X.prog X.w (upd H3 D (.lst ys)) s4.heap D (.lst ys) := ⟨Nat.le_trans hyl (Nat.le_trans hin hn), its, ep, rv, eD⟩
        have hok : HOk X.prog X.w (upd H3 D (.lst ys)) s4.heap := fun b u e => by
          by_cases hb : b = D
          · subst hb; rw [upd_same] at e; cases e; exact okn
          · rw [upd_ne hb] at e
            exact (I4.hok b u e).stay (fun c v _ q => q) (fun c q => by rw [upd_ne (ne_of_none q nD)]; exact q) fun c xs q => by rw [upd_ne (ne_of_none q nD)]; exact q
        have B := I4.base
        have u : Un (frs X.stack) fp H2 (upd H3 D (.lst ys)) s2.heap s4.heap :=
          ⟨B.keep, B.slot, fun b o e n hx => by rw [upd_ne (Nat.ne_of_lt (Heap.lt_size e))]; exact B.free b o e n hx, B.there, fun b xs e => by rw [upd_ne (ne_of_none (B.tups b xs e) nD)]; exact B.tups b xs e,
            fun b o xs e => by rw [upd_ne (ne_of_none (B.frzs b o xs e) nD)]; exact B.frzs b o xs e, fun b ps e => by
              obtain ⟨more, z⟩ := B.tbls b ps e
              exact ⟨more, by rw [upd_ne (ne_of_none z nD)]; exact z⟩⟩
        have IX : Inv X pins σ (upd H3 D (.lst ys)) s4 := I2.call' (ch := fp) I4.os u hok I4.bare fun b hb => by
          obtain ⟨f0, f1, fx, f3, f4, f5⟩ := f2 b hb
          exact ⟨f3, f1, f4, f5⟩
        have nC : (upd H3 D (.lst ys)) Hq.objs.size = none := by rw [upd_ne (Ne.symm hDC)]; exact I4.free
        obtain ⟨m', hm', _⟩ := I4.loc
        exact ⟨.ref D, _, IX, rfl, q D nD, ⟨m', hm'⟩, I2.fpOk hCle nC⟩
      · refine thn (T.item Y rfl rfl rfl hc i _ s3 _ H3 (fun _ _ => False) I3 (stat fr3) st3 go) fun r s4 ⟨u, hr, h4⟩ => ?_
        subst hr
        refine thn h4 fun _ s5 ⟨x, H5, I5, r5, y5, st5, fr5⟩ => ?_
        have I5' := I5.pinned (stat fr5) (T.obj _ _ st5)
        refine thn (hg C s2 H2 fp _ s5 _ H5 x u _ I5' r5 (step x H5 y5)) fun _ s6 ⟨σ6, H6, I6, kp, q6⟩ => ?_
        refine thn (ht C s2 H2 fp _ s6 σ6 H6 _ I6 q6) fun b s7 ⟨H7, I7, q7⟩ => ?_
        cases b with
        | false =>
          rw [if_neg Bool.false_ne_true] at q7 ⊢
          refine ⟨n - (i + 1), Nat.sub_succ_lt_self n i hlt, i + 1, ys, H7, its, ep, rfl, hlt, Nat.le_succ_of_le hyl, rv, I7.unpinned.weak kp.length kp.get, ?_, fun b hb => ?_, q7⟩
          · exact T.keep _ _ _ st5 fun b hb o e => (I7.pin (b, o) (inF (mem_pinsAt hb e))).1
          · obtain ⟨o, e, d⟩ := T.obj _ _ st5 b hb
            exact (I7.pin (b, o) (inF (mem_pinsAt hb e))).2.1
        | true =>
          rw [if_pos rfl] at q7 ⊢
          refine thn (he C s2 H2 fp _ s7 σ6 H7 _ I7 q7) fun yv s8 ⟨y, H8, I8, r8, q8⟩ => ?_
          obtain ⟨eD, nD, _⟩ := I8.pin (D, { cls := .type "list", data := .seq its.toArray ep }) inD
          have hsz : its.toArray.size ≤ sizeLine := by
            rw [List.size_toArray, ← rv.length]
            exact Nat.le_trans hyl (Nat.le_trans hin hn)
          refine wpAny_list_append_plain (items := its.toArray) ⟨ep, eD⟩ (fun h9 pl9 sb9 => ?_) hsz
          obtain ⟨ep', e9⟩ := pl9
          have e9 : h9.get? D = some { cls := .type "list", data := .seq (its ++ [yv]).toArray ep' } := by rw [e9]; simp
          have Ia : Inv Y pins σ6 H8 s8 := I8.pins_of fun p hp => I8.pin p (List.mem_append_right _ (List.mem_append_left _ (List.mem_append_left _ hp)))
          have Ib : Inv Y pins σ6 H8 { s8 with heap := h9 } := Ia.turned (it := D) (t' := s8.toks) (fun b o hb e => (sb9.2 b hb).trans e) nD hDC (.inr (Nat.le_refl _)) cellD pinD
          have Ic : Inv Y (pins ++ [(D, { cls := .type "list", data := .seq (its ++ [yv]).toArray ep' })]) σ6 H8 { s8 with heap := h9 } := Ib.pins_of fun p hp => by
            rcases List.mem_append.mp hp with hp | hp
            · exact Ib.pin p (List.mem_append_right _ hp)
            · have q : p = (D, { cls := .type "list", data := .seq (its ++ [yv]).toArray ep' }) := by simpa using hp
              subst q
              obtain ⟨_, _, z1, z2, _⟩ := I8.pin (D, { cls := .type "list", data := .seq its.toArray ep }) inD
              exact ⟨e9, nD, z1, z2, fun v z => by cases z⟩
          refine ⟨n - (i + 1), Nat.sub_succ_lt_self n i hlt, i + 1, ys ++ [y], H8, its ++ [yv], ep', rfl, hlt, by simp; omega, Vals.append rv (.cons r8 .nil), Ic.weak kp.length kp.get, ?_, fun b hb => ?_, q8⟩
          · exact T.keep _ _ _ st5 fun b hb o e => sb9.extBut b o (fun z => hDfp (by rw [show D = b from Eq.symm z]; exact hb)) (I8.pin (b, o) (inF (mem_pinsAt hb e))).1
          · obtain ⟨o, e, d⟩ := T.obj _ _ st5 b hb
            exact (I8.pin (b, o) (inF (mem_pinsAt hb e))).2.1
    · obtain ⟨ep, e⟩ := hacc
      refine ⟨0, [], H2, [], ep, rfl, Nat.zero_le _, Nat.le_refl _, .nil, ?_, st4, fun b hb => (f2 b hb).1, p0⟩
      exact cxIn_inv (s4 := { s2 with heap := h₁, toks := s2.toks + ([] : List (Str × Value)).length }) S I2 hCle f2 hfo rfl rfl old hns₁ e (Nat.le_refl _) hDC fun v z => by cases z
  exact codeAny_compStart_list (loop _ rfl) (T.self X.A 0 _ _ _ st4 (loop _ rfl))
theorem pe_comp (hc : X.calm = true) (S : CompScope N' cap X.N X.env.scope scope) (hi : PI X tg iter wi) (hg : ∀ C s H fp, PG (cxIn X N' scope C s H fp) tg g)
    (ht : ∀ C s H fp, PF (cxIn X N' scope C s H fp) ifs tc) (he : ∀ C s H fp, PE (cxIn X N' scope C s H fp) elt te)
    (hs : ∀ x, foldedSetIterable iter X.env x = pure x := by intro _; rfl) : PE X (.ListComp elt [⟨tg, iter, ifs, 0⟩] scope pos) (tComp cap wi g tc te) := by
  intro pins s σ H Q I h
  rw [eval_ListComp]
  refine wpAny_comprehension_free (use := none) rfl hs (closureFor_cells (S.clos I)) S.kind S.loc (thn (comp_run (pos := pos) hc S hi hg ht he I h) fun x s1 h1 => thn h1 fun it s2 h2 => thn h2 fun acc s3 h3 => thn h3 fun cenv s4 h4 => ?_)
  refine codeAny_mono h4 fun r s' hr => ?_
  cases r with
  | error x => exact hr.elim
  | ok f =>
    obtain ⟨v, H', I', rv, q, ⟨m, hn⟩, f0, f1, f2, f3, f4, f5⟩ := hr
    refine ⟨m, hn, fun h' sb => ⟨v, H', I'.turned (it := cenv.locals) (t' := s'.toks) (fun b o hb e => (sb.2 b hb).trans e) f0 f1 f3 f4 f5, rv, q⟩⟩
theorem ps_comp {i : Nat} {x : Str} {pos' spos : Pos} (hN : X.N.Nodup) (hx : X.N[i]? = some x) (hl : Loc X.env.scope x) (hc : X.calm = true) (S : CompScope N' cap X.N X.env.scope scope) (hi : PI X tg iter wi) (hg : ∀ C s H fp, PG (cxIn X N' scope C s H fp) tg g)
    (ht : ∀ C s H fp, PF (cxIn X N' scope C s H fp) ifs tc) (he : ∀ C s H fp, PE (cxIn X N' scope C s H fp) elt te)
    (hs : ∀ x, foldedSetIterable iter X.env x = pure x := by intro _; rfl) (hsw : swapsWith (.ListComp elt [⟨tg, iter, ifs, 0⟩] scope pos) (some (.Name x pos')) spos.line X.env = pure true := by rfl)
    (hf : X.fn x = true ∨ X.env.scope.names.lookup x = some .local := by first | exact .inl rfl | exact .inr rfl | assumption) :
    PS X (.Assign [.Name x pos'] (.ListComp elt [⟨tg, iter, ifs, 0⟩] scope pos) spos) (tAsg (tComp cap wi g tc te) (gName i)) := by
  intro pins s σ H D I h
  rw [exec_Assign_Name_used _ _ _ _ hsw]
  refine wpAny_bind (wpAny_standAt (wpAny_bind ?_))
  show wpAny _ _ (do let _ ← comprehension (.ListComp elt [⟨tg, iter, ifs, 0⟩] scope pos) scope X.env _ (newList []) false (eval iter X.env) (some (assign (.Name x pos') X.env))) _ _ s
  refine wpAny_bind (wpAny_mono (wpAny_comprehension_free (use := some (assign (.Name x pos') X.env)) (Q := fun _ s' => SP X pins D .next s') rfl hs (closureFor_cells (S.clos I)) S.kind S.loc
    (thn (comp_run (pos := pos) hc S hi hg ht he I h) fun x s1 h1 => thn h1 fun it s2 h2 => thn h2 fun acc s3 h3 => thn h3 fun cenv s4 h4 => ?_)) (fun _ s' hq => wpAny_pure (wpAny_pure hq)) fun _ _ e => e)
  refine codeAny_mono h4 fun r s' hr => ?_
  cases r with
  | error x => exact hr.elim
  | ok f =>
    obtain ⟨v, H', I', rv, q, ⟨m, hn⟩, f0, f1, f2, f3, f4, f5⟩ := hr
    show wpAny _ _ (assign (.Name _ pos') X.env acc) _ _ _
    refine wpAny_assign_Name (store_ok2 I' hN hx hl rv (fun s'' I'' ⟨a, sb, ha⟩ => ?_) hf)
    have hac : cenv.locals ≠ a := by
      rcases ha with ha | ha
      · rw [ha]; exact f1
      · exact Ne.symm (f4 _ a ha)
    refine ⟨m, hn.sameBut sb hac, fun h' sb' => ⟨_, H', I''.turned (it := cenv.locals) (t' := s''.toks) (fun b o hb e => (sb'.2 b hb).trans e) f0 f1 f3 f4 f5, q⟩⟩
end
end L2
set_option Elab.async false
set_option linter.all false
set_option maxRecDepth 100000
set_option maxHeartbeats 4000000
namespace Srt
open PySem PyProof.Rows
def LtOk (κ : KeyKind) (kd : SortKind) (prog : Program) (w : World) (A : Around) (s : Shared) : Prop :=
  ∀ (E : Value → Shared → Prop) (x y : Keyed) (a b : κ.α) (Q : Option Bool → SortSt → Prop) (st : SortSt), kindOf st = kd → κ.keyOf x.1 = some a → κ.keyOf y.1 = some b →
    Q (some (κ.blt a b)) st → wpS (model prog w) A E s (lt' x y) Q st
structure SB (kd : SortKind) (a₀ b : Array Keyed) (lo : Nat) (pd : Array (Nat × Nat × Nat)) (st : SortSt) : Prop where
  perm : (arrOf st).Perm a₀
  kind : kindOf st = kd
  failed : failedOf st = none
  pend : pendingOf st = pd
  low : ∀ k, k < lo → (arrOf st)[k]? = b[k]?
def SIn (κ : KeyKind) (xs : Array Keyed) (lo n : Nat) : Prop := ∀ i j, i ≤ j → j < n → κ.kle (KK κ xs (lo + i)) (KK κ xs (lo + j))
def DIn (κ : KeyKind) (xs : Array Keyed) (lo n : Nat) : Prop := ∀ i j, i ≤ j → j < n → κ.kle (KK κ xs (lo + j)) (KK κ xs (lo + i))
theorem at_key {κ : KeyKind} {a₀ xs : Array Keyed} (hp : xs.Perm a₀) (h0 : KeysOf κ a₀) {i : Nat} (hi : i < xs.size) : ∃ p a, xs[i]? = some p ∧ κ.keyOf p.1 = some a ∧ KK κ xs i = a := by
  have hm : xs[i] ∈ a₀.toList := (Array.perm_iff_toList_perm.mp hp).mem_iff.mp (by simp)
  obtain ⟨a, ha⟩ := h0 _ hm
  have e : xs[i]? = some xs[i] := getElem?_pos _ i hi
  refine ⟨xs[i], a, e, ha, ?_⟩
  unfold KK; rw [e]; simp [ha]
section
variable {prog : Program} {w : World} {A : Around} {E : Value → Shared → Prop} {s : Shared} {a₀ b : Array Keyed} {κ : KeyKind} {kd : SortKind} {lo : Nat} {pd : Array (Nat × Nat × Nat)}
theorem SB.size {st : SortSt} (h : SB kd a₀ b lo pd st) : (arrOf st).size = a₀.size := h.perm.size_eq
theorem SB.arr {st : SortSt} (h : SB kd a₀ b lo pd st) {xs : Array Keyed} (hp : xs.Perm (arrOf st)) (hl : ∀ k, k < lo → xs[k]? = (arrOf st)[k]?) : SB kd a₀ b lo pd (setArr st xs) :=
  ⟨hp.trans h.perm, h.kind, h.failed, h.pend, fun k hk => (hl k hk).trans (h.low k hk)⟩
theorem SB.mirror {st : SortSt} (h : SB kd a₀ b lo pd st) {i j : Nat} (hi : lo ≤ i) (hj : j ≤ a₀.size) : SB kd a₀ b lo pd (setArr st (mirror (arrOf st) i j ((j - i) / 2))) :=
  h.arr (mirror_perm _ _ _ _) fun k hk => by rw [getElem?_mirror_all (by rw [h.size]; exact hj), if_neg (by omega)]
theorem elem_ok {arr : Array Keyed} {i : Nat} {p : Keyed} {Q : Keyed → SortSt → Prop} {st : SortSt} (h : arr[i]? = some p) (hq : Q p st) : wpS (model prog w) A E s (elem' arr i) Q st := by
  rw [elem'_eq, h]; exact wpS_pure hq
theorem ltAt_ok {st : SortSt} {i j : Nat} {Q : Option Bool → SortSt → Prop} (hO : LtOk κ kd prog w A s) (hB : SB kd a₀ b lo pd st) (h0 : KeysOf κ a₀) (hi : i < a₀.size) (hj : j < a₀.size)
    (h : Q (some (κ.blt (KK κ (arrOf st) i) (KK κ (arrOf st) j))) st) : wpS (model prog w) A E s (ltAt' i j) Q st := by
  obtain ⟨x, a, e1, ha, ka⟩ := at_key hB.perm h0 (i := i) (by rw [hB.size]; exact hi)
  obtain ⟨y, c, e2, hc, kc⟩ := at_key hB.perm h0 (i := j) (by rw [hB.size]; exact hj)
  rw [ka, kc] at h
  rw [ltAt'_eq]
  refine wpS_bind (wpS_get (wpS_bind (elem_ok e1 (wpS_bind (elem_ok e2 ?_)))))
  exact hO E x y a c Q st hB.kind ha hc h
theorem rev_ok {st : SortSt} {i j : Nat} {Q : Unit → SortSt → Prop} (h : Q () (setArr st (mirror (arrOf st) i j ((j - i) / 2)))) : wpS (model prog w) A E s (reverseSlice' i j) Q st := by
  rw [reverseSlice'_eq]; exact wpS_modify h
theorem bcong {σ α β : Type} {m m' : StateT σ Sem α} {f f' : α → StateT σ Sem β} (h : m = m') (hf : ∀ a, f a = f' a) : (m >>= f) = (m' >>= f') := by
  subst h
  rw [show f = f' from funext hf]
def asc (lo a nrem : Nat) : StateT SortSt Sem AscSt :=
  forIn [a:nrem] ((none, a) : AscSt) fun _ c => do
    let x ← ltAt' (lo + c.2) (lo + c.2 - 1)
    match x with
    | some sm => if sm = true then pure (ForInStep.done (none, c.2)) else pure (ForInStep.yield (none, c.2 + 1))
    | _ => pure (ForInStep.done (some none, c.2))
def tl3 (lo n nrem : Nat) : StateT SortSt Sem (Option Nat) := do
  reverseSlice' lo (lo + n)
  let c ← asc lo n nrem
  match c.1 with
  | some r => pure r
  | none => pure (some c.2)
def dsc (lo n nrem : Nat) : StateT SortSt Sem DescSt :=
  forIn [n:nrem] ((none, n, 0) : DescSt) fun _ c => do
    let x ← ltAt' (lo + c.2.1) (lo + c.2.1 - 1)
    match x with
    | some sm =>
      if sm = true then
        if c.2.2 > 0 then do
          reverseSlice' (lo + c.2.1 - (c.2.2 + 1)) (lo + c.2.1)
          pure (ForInStep.yield (none, c.2.1 + 1, 0))
        else pure (ForInStep.yield (none, c.2.1 + 1, 0))
      else do
        let x ← ltAt' (lo + c.2.1 - 1) (lo + c.2.1)
        match x with
        | some la =>
          if la = true then pure (ForInStep.done (none, c.2.1, c.2.2))
          else pure (ForInStep.yield (none, c.2.1 + 1, c.2.2 + 1))
        | _ => pure (ForInStep.done (some none, c.2.1, c.2.2))
    | _ => pure (ForInStep.done (some none, c.2.1, c.2.2))
def dpt (lo n nrem : Nat) : StateT SortSt Sem (Option Nat) := do
  liftM (rule "list.sort.descending-run")
  let c ← dsc lo (n + 1) nrem
  match c.1 with
  | some r => pure r
  | none =>
    if c.2.2 > 0 then do
      reverseSlice' (lo + c.2.1 - (c.2.2 + 1)) (lo + c.2.1)
      tl3 lo c.2.1 nrem
    else tl3 lo c.2.1 nrem
theorem count_eq (lo nrem : Nat) : countRun' lo nrem = (do
    let c ← asc lo 1 nrem
    match c.1 with
    | some r => pure r
    | none =>
      if (c.2 == nrem) = true then pure (some c.2)
      else if c.2 > 1 then do
        let x ← ltAt' lo (lo + c.2 - 1)
        match x with
        | some rose => if rose = true then pure (some c.2) else do
            reverseSlice' lo (lo + c.2)
            dpt lo c.2 nrem
        | _ => pure none
      else dpt lo c.2 nrem) := by
  rw [countRun'_eq]
  unfold dpt tl3 dsc asc
  refine bcong rfl fun c => ?_
  obtain ⟨r, n⟩ := c
  cases r with
  | some r => rfl
  | none =>
    dsimp only
    split
    · rfl
    · split
      · refine bcong rfl fun x => ?_
        cases x with
        | none => rfl
        | some rose =>
          dsimp only
          split
          · rfl
          · refine bcong rfl fun _ => bcong rfl fun _ => bcong rfl fun s2 => ?_
            obtain ⟨r2, n2, q2⟩ := s2
            cases r2 with
            | some r2 => rfl
            | none =>
              dsimp only
              split
              · refine bcong rfl fun _ => bcong rfl fun _ => bcong rfl fun s3 => ?_
                obtain ⟨r3, n3⟩ := s3
                cases r3 <;> rfl
              · refine bcong rfl fun _ => bcong rfl fun s3 => ?_
                obtain ⟨r3, n3⟩ := s3
                cases r3 <;> rfl
      · refine bcong rfl fun _ => bcong rfl fun s2 => ?_
        obtain ⟨r2, n2, q2⟩ := s2
        cases r2 with
        | some r2 => rfl
        | none =>
          dsimp only
          split
          · refine bcong rfl fun _ => bcong rfl fun _ => bcong rfl fun s3 => ?_
            obtain ⟨r3, n3⟩ := s3
            cases r3 <;> rfl
          · refine bcong rfl fun _ => bcong rfl fun s3 => ?_
            obtain ⟨r3, n3⟩ := s3
            cases r3 <;> rfl
theorem asc_ok {st : SortSt} {a nrem : Nat} {Q : AscSt → SortSt → Prop} (hO : LtOk κ kd prog w A s) (h0 : KeysOf κ a₀) (hn : lo + nrem ≤ a₀.size) (ha : 1 ≤ a) (han : a ≤ nrem) (hB : SB kd a₀ b lo pd st) (hs : SIn κ (arrOf st) lo a)
    (h : ∀ n, a ≤ n → n ≤ nrem → SIn κ (arrOf st) lo n → (n = nrem ∨ κ.klt (KK κ (arrOf st) (lo + n)) (KK κ (arrOf st) (lo + n - 1))) → Q (none, n) st) : wpS (model prog w) A E s (asc lo a nrem) Q st := by
  unfold asc
  refine wpS_forRange (I := fun x c st' => st' = st ∧ c = (none, x) ∧ SIn κ (arrOf st) lo x) ?step ?fin ⟨rfl, rfl, hs⟩
  case fin =>
    rintro c st' ⟨rfl, rfl, g⟩
    rw [show max a nrem = nrem by omega] at g ⊢
    exact h nrem han (Nat.le_refl _) g (.inl rfl)
  case step =>
    rintro x c st' hax hxn ⟨rfl, rfl, g⟩
    dsimp only
    refine wpS_bind (ltAt_ok hO hB h0 (by omega) (by omega) ?_)
    cases q : κ.blt (KK κ (arrOf st') (lo + x)) (KK κ (arrOf st') (lo + x - 1)) with
    | true => exact wpS_pure (h x hax (by omega) g (.inr q))
    | false =>
      refine wpS_pure ⟨rfl, rfl, fun i j hij hj => ?_⟩
      by_cases z : j < x
      · exact g i j hij z
      · have z : j = x := by omega
        subst z
        by_cases y : i = j
        · subst y; exact KeyOrd.kle_refl _
        · have u := g i (j - 1) (by omega) (by omega)
          rw [show lo + (j - 1) = lo + j - 1 by omega] at u
          exact KeyOrd.kle_trans u q
theorem tl3_ok {st : SortSt} {n nrem : Nat} {Q : Option Nat → SortSt → Prop} (hO : LtOk κ kd prog w A s) (h0 : KeysOf κ a₀) (hn : lo + nrem ≤ a₀.size) (h1 : 1 ≤ n) (hnn : n ≤ nrem) (hB : SB kd a₀ b lo pd st) (hs : DIn κ (arrOf st) lo n)
    (h : ∀ m st', SB kd a₀ b lo pd st' → 1 ≤ m → m ≤ nrem → SIn κ (arrOf st') lo m → Q (some m) st') : wpS (model prog w) A E s (tl3 lo n nrem) Q st := by
  unfold tl3
  have hsz : lo + n ≤ (arrOf st).size := by rw [hB.size]; omega
  have hB' := hB.mirror (i := lo) (j := lo + n) (Nat.le_refl _) (by omega)
  refine wpS_bind (rev_ok (wpS_bind (asc_ok hO h0 hn h1 hnn hB' ?_ fun m p1 p2 p3 _ => wpS_pure (h m _ hB' (by omega) p2 p3))))
  intro i j hij hj
  show κ.kle (KK κ (mirror (arrOf st) lo (lo + n) ((lo + n - lo) / 2)) (lo + i)) (KK κ (mirror (arrOf st) lo (lo + n) ((lo + n - lo) / 2)) (lo + j))
  rw [KK_mirror hsz, KK_mirror hsz, if_pos (by omega), if_pos (by omega), show lo + (lo + n) - 1 - (lo + i) = lo + (n - 1 - i) by omega, show lo + (lo + n) - 1 - (lo + j) = lo + (n - 1 - j) by omega]
  exact hs _ _ (by omega) (by omega)
theorem dsc_ok {st : SortSt} {n nrem : Nat} {Q : DescSt → SortSt → Prop} (hO : LtOk κ kd prog w A s) (h0 : KeysOf κ a₀) (hn : lo + nrem ≤ a₀.size) (h1 : 1 ≤ n) (hnn : n ≤ nrem) (hB : SB kd a₀ b lo pd st) (hs : DIn κ (arrOf st) lo n)
    (h : ∀ m q st', SB kd a₀ b lo pd st' → n ≤ m → m ≤ nrem → DIn κ (arrOf st') lo m → q + 1 ≤ m → (∀ i, m - (q + 1) ≤ i → i < m → KK κ (arrOf st') (lo + i) = KK κ (arrOf st') (lo + m - 1)) → Q (none, m, q) st') :
    wpS (model prog w) A E s (dsc lo n nrem) Q st := by
  unfold dsc
  refine wpS_forRange (I := fun x c st' => ∃ q, c = (none, x, q) ∧ SB kd a₀ b lo pd st' ∧ DIn κ (arrOf st') lo x ∧ q + 1 ≤ x ∧ (∀ i, x - (q + 1) ≤ i → i < x → KK κ (arrOf st') (lo + i) = KK κ (arrOf st') (lo + x - 1))) ?step ?fin
    ⟨0, rfl, hB, hs, by omega, fun i h1 h2 => by rw [show lo + i = lo + n - 1 by omega]⟩
  case fin =>
    rintro c st' ⟨q, rfl, g1, g2, g3, g4⟩
    rw [show max n nrem = nrem by omega] at g2 g3 g4 ⊢
    exact h nrem q st' g1 hnn (Nat.le_refl _) g2 g3 g4
  case step =>
    rintro x c st' hax hxn ⟨q, rfl, g1, g2, g3, g4⟩
    dsimp only
    have hsz : lo + x ≤ (arrOf st').size := by rw [g1.size]; omega
    refine wpS_bind (ltAt_ok hO g1 h0 (by omega) (by omega) ?_)
    cases t : κ.blt (KK κ (arrOf st') (lo + x)) (KK κ (arrOf st') (lo + x - 1)) with
    | true =>
      have step1 : ∀ xs : Array Keyed, (∀ k, KK κ xs k = KK κ (arrOf st') k) → DIn κ xs lo (x + 1) := by
        intro xs hk i j hij hj
        rw [hk, hk]
        by_cases z : j < x
        · exact g2 i j hij z
        · have z : j = x := by omega
          subst z
          by_cases y : i = j
          · subst y; exact KeyOrd.kle_refl _
          · have u := g2 i (j - 1) (by omega) (by omega)
            rw [show lo + (j - 1) = lo + j - 1 by omega] at u
            exact KeyOrd.kle_trans (KeyOrd.kle_of_klt t) u
      dsimp only
      rw [if_pos rfl]
      by_cases y : q > 0
      · rw [if_pos y]
        have eqs : ∀ k, lo + x - (q + 1) ≤ k → k < lo + x → KK κ (arrOf st') k = KK κ (arrOf st') (lo + x - 1) := fun k k1 k2 => by
          have u := g4 (k - lo) (by omega) (by omega)
          rwa [show lo + (k - lo) = k by omega] at u
        refine wpS_bind (rev_ok (wpS_pure ⟨0, rfl, g1.mirror (by omega) (by omega), step1 _ (KK_mirror_equal hsz eqs), by omega, fun i h1 h2 => by rw [show lo + i = lo + (x + 1) - 1 by omega]⟩))
      · rw [if_neg y]
        exact wpS_pure ⟨0, rfl, g1, step1 _ (fun _ => rfl), by omega, fun i h1 h2 => by rw [show lo + i = lo + (x + 1) - 1 by omega]⟩
    | false =>
      dsimp only
      rw [if_neg Bool.false_ne_true]
      refine wpS_bind (ltAt_ok hO g1 h0 (by omega) (by omega) ?_)
      cases u : κ.blt (KK κ (arrOf st') (lo + x - 1)) (KK κ (arrOf st') (lo + x)) with
      | true => exact wpS_pure (h x q st' g1 hax (by omega) g2 g3 g4)
      | false =>
        have ex : KK κ (arrOf st') (lo + x) = KK κ (arrOf st') (lo + x - 1) := KeyOrd.kle_antisymm u t
        refine wpS_pure ⟨q + 1, rfl, g1, fun i j hij hj => ?_, by omega, fun i h1 h2 => ?_⟩
        · by_cases z : j < x
          · exact g2 i j hij z
          · have z : j = x := by omega
            subst z
            by_cases y : i = j
            · subst y; exact KeyOrd.kle_refl _
            · rw [ex]
              have v := g2 i (j - 1) (by omega) (by omega)
              rwa [show lo + (j - 1) = lo + j - 1 by omega] at v
        · rw [show lo + (x + 1) - 1 = lo + x by omega]
          by_cases z : i = x
          · subst z; rfl
          · rw [ex]; exact g4 i (by omega) (by omega)
theorem dpt_ok {st : SortSt} {n nrem : Nat} {Q : Option Nat → SortSt → Prop} (hO : LtOk κ kd prog w A s) (h0 : KeysOf κ a₀) (hn : lo + nrem ≤ a₀.size) (hnn : n + 1 ≤ nrem) (hB : SB kd a₀ b lo pd st) (hs : DIn κ (arrOf st) lo (n + 1))
    (h : ∀ m st', SB kd a₀ b lo pd st' → 1 ≤ m → m ≤ nrem → SIn κ (arrOf st') lo m → Q (some m) st') : wpS (model prog w) A E s (dpt lo n nrem) Q st := by
  unfold dpt
  refine wpS_bind (wpS_lift (wpAny_rule ⟨rfl, wpS_bind (dsc_ok hO h0 hn (by omega) hnn hB hs fun m q st' g1 m1 m2 g2 g3 g4 => ?_)⟩))
  dsimp only
  have hsz : lo + m ≤ (arrOf st').size := by rw [g1.size]; omega
  by_cases y : q > 0
  · rw [if_pos y]
    have eqs : ∀ k, lo + m - (q + 1) ≤ k → k < lo + m → KK κ (arrOf st') k = KK κ (arrOf st') (lo + m - 1) := fun k k1 k2 => by
      have u := g4 (k - lo) (by omega) (by omega)
      rwa [show lo + (k - lo) = k by omega] at u
    refine wpS_bind (rev_ok (tl3_ok hO h0 hn (by omega) m2 (g1.mirror (by omega) (by omega)) (fun i j hij hj => ?_) h))
    show κ.kle (KK κ (mirror (arrOf st') _ _ _) (lo + j)) (KK κ (mirror (arrOf st') _ _ _) (lo + i))
    rw [KK_mirror_equal hsz eqs, KK_mirror_equal hsz eqs]
    exact g2 i j hij hj
  · rw [if_neg y]
    exact tl3_ok hO h0 hn (by omega) m2 g1 g2 h
theorem count_ok {st : SortSt} {nrem : Nat} {Q : Option Nat → SortSt → Prop} (hO : LtOk κ kd prog w A s) (h0 : KeysOf κ a₀) (hn : lo + nrem ≤ a₀.size) (h1 : 1 ≤ nrem) (hB : SB kd a₀ b lo pd st)
    (h : ∀ m st', SB kd a₀ b lo pd st' → 1 ≤ m → m ≤ nrem → SIn κ (arrOf st') lo m → Q (some m) st') : wpS (model prog w) A E s (countRun' lo nrem) Q st := by
  rw [count_eq]
  refine wpS_bind (asc_ok hO h0 hn (Nat.le_refl 1) h1 hB (fun i j hij hj => by rw [show i = j by omega]; exact KeyOrd.kle_refl _) fun n n1 n2 g1 g2 => ?_)
  dsimp only
  by_cases z : n = nrem
  · rw [if_pos (by simpa using z)]
    exact wpS_pure (h n st hB n1 n2 g1)
  · rw [if_neg (by simpa using z)]
    have t := g2.resolve_left z
    by_cases y : n > 1
    · rw [if_pos y]
      refine wpS_bind (ltAt_ok hO hB h0 (by omega) (by omega) ?_)
      cases u : κ.blt (KK κ (arrOf st) lo) (KK κ (arrOf st) (lo + n - 1)) with
      | true => exact wpS_pure (h n st hB n1 n2 g1)
      | false =>
        have hsz : lo + n ≤ (arrOf st).size := by rw [hB.size]; omega
        have eqs : ∀ k, lo ≤ k → k < lo + n → KK κ (arrOf st) k = KK κ (arrOf st) (lo + n - 1) := fun k k1 k2 => by
          have a1 := g1 0 (k - lo) (by omega) (by omega)
          have a2 := g1 (k - lo) (n - 1) (by omega) (by omega)
          rw [show lo + (k - lo) = k by omega] at a1 a2
          rw [show lo + (n - 1) = lo + n - 1 by omega] at a2
          exact KeyOrd.kle_antisymm a2 (KeyOrd.kle_trans u a1)
        dsimp only
        rw [if_neg Bool.false_ne_true]
        refine wpS_bind (rev_ok (dpt_ok hO h0 hn (by omega) (hB.mirror (Nat.le_refl _) (by omega)) (fun i j hij hj => ?_) h))
        show κ.kle (KK κ (mirror (arrOf st) _ _ _) (lo + j)) (KK κ (mirror (arrOf st) _ _ _) (lo + i))
        rw [KK_mirror_equal hsz eqs, KK_mirror_equal hsz eqs]
        by_cases v : j < n
        · rw [eqs (lo + i) (by omega) (by omega), eqs (lo + j) (by omega) (by omega)]; exact KeyOrd.kle_refl _
        · have v : j = n := by omega
          subst v
          by_cases v : i = j
          · subst v; exact KeyOrd.kle_refl _
          · rw [eqs (lo + i) (by omega) (by omega)]; exact KeyOrd.kle_of_klt t
    · rw [if_neg y]
      have z : n = 1 := by omega
      subst z
      refine dpt_ok hO h0 hn (by omega) hB (fun i j hij hj => ?_) h
      by_cases v : i = j
      · subst v; exact KeyOrd.kle_refl _
      · have e1 : i = 0 := by omega
        have e2 : j = 1 := by omega
        subst e1 e2
        exact KeyOrd.kle_of_klt t
theorem bin_ok {st : SortSt} {n ok : Nat} {Q : Bool → SortSt → Prop} (hO : LtOk κ kd prog w A s) (h0 : KeysOf κ a₀) (hn : lo + n ≤ a₀.size) (hok : ok ≤ n) (hB : SB kd a₀ b lo pd st) (hs : SIn κ (arrOf st) lo ok)
    (h : ∀ st', SB kd a₀ b lo pd st' → SIn κ (arrOf st') lo n → Q true st') : wpS (model prog w) A E s (binarySort' lo n ok) Q st := by
  rw [binarySort'_eq]
  refine wpS_bind (wpS_mono (wpS_forRange (I := fun k c st' => c = (none, ()) ∧ SB kd a₀ b lo pd st' ∧ SIn κ (arrOf st') lo (min k n)) (Q := fun c st' => c = (none, ()) ∧ SB kd a₀ b lo pd st' ∧ SIn κ (arrOf st') lo n) ?step ?fin ?init) ?post)
  case post =>
    rintro c st' ⟨rfl, g1, g2⟩
    exact wpS_pure (h st' g1 g2)
  case init =>
    refine ⟨rfl, hB, fun i j hij hj => ?_⟩
    by_cases h1 : ok = 0
    · rw [show i = j by omega]; exact KeyOrd.kle_refl _
    · exact hs i j hij (by omega)
  case fin =>
    rintro c st' ⟨g0, g1, g2⟩
    refine ⟨g0, g1, ?_⟩
    rwa [show min (max (max ok 1) n) n = n by omega] at g2
  case step =>
    rintro k c st' hak hkn ⟨rfl, g1, g2⟩
    rw [show min k n = k by omega] at g2
    have hk : lo + k < a₀.size := by omega
    refine wpS_bind (wpS_mono (wpS_forRange (I := fun x c st'' => st'' = st' ∧ ∃ l r, c = (none, l, r) ∧ l ≤ r ∧ r ≤ k ∧ r - l ≤ k - x ∧ (∀ i, i < l → κ.kle (KK κ (arrOf st') (lo + i)) (KK κ (arrOf st') (lo + k))) ∧
          (∀ i, r ≤ i → i < k → κ.klt (KK κ (arrOf st') (lo + k)) (KK κ (arrOf st') (lo + i))))
      (Q := fun c st'' => st'' = st' ∧ ∃ l r, c = (none, l, r) ∧ l ≤ k ∧ (∀ i, i < l → κ.kle (KK κ (arrOf st') (lo + i)) (KK κ (arrOf st') (lo + k))) ∧ (∀ i, l ≤ i → i < k → κ.klt (KK κ (arrOf st') (lo + k)) (KK κ (arrOf st') (lo + i)))) ?istep ?ifin ?iinit) ?ipost)
    case iinit => exact ⟨rfl, 0, k, rfl, by omega, by omega, by omega, fun i hi => by omega, fun i h1 h2 => by omega⟩
    case ifin =>
      rintro c st'' ⟨rfl, l, r, rfl, i1, i2, i3, i4, i5⟩
      have z : l = r := by omega
      subst z
      exact ⟨rfl, l, l, rfl, i2, i4, i5⟩
    case istep =>
      rintro x c st'' _ hxk ⟨rfl, l, r, rfl, i1, i2, i3, i4, i5⟩
      dsimp only
      by_cases y : l ≥ r
      · rw [if_pos y]
        have z : l = r := by omega
        subst z
        exact wpS_pure ⟨rfl, l, l, rfl, i2, i4, i5⟩
      · rw [if_neg y]
        refine wpS_bind (ltAt_ok hO g1 h0 hk (by omega) ?_)
        cases t : κ.blt (KK κ (arrOf st'') (lo + k)) (KK κ (arrOf st'') (lo + (l + r) / 2)) with
        | true =>
          refine wpS_pure ⟨rfl, l, (l + r) / 2, rfl, by omega, by omega, by omega, i4, fun i h1 h2 => ?_⟩
          exact KeyOrd.klt_of_klt_of_kle t (g2 _ _ h1 h2)
        | false =>
          refine wpS_pure ⟨rfl, (l + r) / 2 + 1, r, rfl, by omega, by omega, by omega, fun i h1 => ?_, i5⟩
          exact KeyOrd.kle_trans (g2 i ((l + r) / 2) (by omega) (by omega)) (show κ.kle _ _ from t)
    case ipost =>
      rintro c st'' ⟨rfl, l, r, rfl, i2, i4, i5⟩
      show wpS _ _ _ _ (do moveDown' (lo + k) (lo + l); pure (ForInStep.yield (none, ()))) _ _
      rw [moveDown'_eq]
      have hks : lo + k < (arrOf st'').size := by rw [g1.size]; exact hk
      refine wpS_bind (wpS_modify (wpS_pure ⟨rfl, g1.arr (bubble_perm _ _ _) fun m hm => ?_, ?_⟩))
      · rw [getElem?_bubble hks _ (by omega), if_neg (by omega), if_neg (by omega)]
      rw [show min (k + 1) n = k + 1 by omega]
      intro i j hij hj
      show κ.kle (KK κ (bubble (arrOf st'') (lo + k) (lo + k - (lo + l))) (lo + i)) (KK κ (bubble (arrOf st'') (lo + k) (lo + k - (lo + l))) (lo + j))
      rw [KK_bubble hks (by omega), KK_bubble hks (by omega), show lo + k - (lo + k - (lo + l)) = lo + l by omega]
      have sh : ∀ m, lo + l < lo + m → lo + m - 1 = lo + (m - 1) := fun m hm => by omega
      repeat' split
      all_goals first
        | (exfalso; omega)
        | exact KeyOrd.kle_refl _
        | exact i4 _ (by omega)
        | (rw [sh _ (by omega)]; exact KeyOrd.kle_of_klt (i5 _ (by omega) (by omega)))
        | exact KeyOrd.kle_of_klt (i5 _ (by omega) (by omega))
        | exact g2 _ _ (by omega) (by omega)
        | (rw [sh _ (by omega), sh _ (by omega)]; exact g2 _ _ (by omega) (by omega))
        | (rw [sh _ (by omega)]; exact g2 _ _ (by omega) (by omega))
end
end Srt
set_option Elab.async false
set_option linter.all false
set_option maxRecDepth 100000
set_option maxHeartbeats 4000000
namespace Srt
open PySem PyProof.Rows
def gallopP : Bool → Keyed → Array Keyed → Nat → Nat → Nat → StateT SortSt Sem (Option Nat) := sortPriv% PySem.Builtin.gallop
def bey (left : Bool) (key : Keyed) (arr : Array Keyed) (base i : Nat) : StateT SortSt Sem (Option Bool) := do
  let x ← elem' arr (base + i)
  if left then lt' x key else return (← lt' key x).map (!·)
def gUp (left : Bool) (key : Keyed) (arr : Array Keyed) (base n hint maxofs : Nat) : StateT SortSt Sem (Option (Option Nat) × Nat × Nat) :=
  forIn [0:n] ((none, 0, 1) : Option (Option Nat) × Nat × Nat) fun _ c => do
    if c.2.2 ≥ maxofs then pure (.done (none, c.2.1, c.2.2)) else do
      let x ← bey left key arr base (hint + c.2.2)
      match x with
      | some more => if (!more) = true then pure (.done (none, c.2.1, c.2.2)) else pure (.yield (none, c.2.2, 2 * c.2.2 + 1))
      | _ => pure (.done (some none, c.2.1, c.2.2))
def gDn (left : Bool) (key : Keyed) (arr : Array Keyed) (base n hint maxofs : Nat) : StateT SortSt Sem (Option (Option Nat) × Nat × Nat) :=
  forIn [0:n] ((none, 0, 1) : Option (Option Nat) × Nat × Nat) fun _ c => do
    if c.2.2 ≥ maxofs then pure (.done (none, c.2.1, c.2.2)) else do
      let x ← bey left key arr base (hint - c.2.2)
      match x with
      | some found => if found = true then pure (.done (none, c.2.1, c.2.2)) else pure (.yield (none, c.2.2, 2 * c.2.2 + 1))
      | _ => pure (.done (some none, c.2.1, c.2.2))
def gBin (left : Bool) (key : Keyed) (arr : Array Keyed) (base n lo hi : Nat) : StateT SortSt Sem (Option Nat) := do
  let c ← forIn [0:n] ((none, lo, hi) : Option (Option Nat) × Nat × Nat) fun _ c => do
    if c.2.1 ≥ c.2.2 then pure (.done (none, c.2.1, c.2.2)) else do
      let x ← bey left key arr base (c.2.1 + (c.2.2 - c.2.1) / 2)
      match x with
      | some more => if more = true then pure (.yield (none, c.2.1 + (c.2.2 - c.2.1) / 2 + 1, c.2.2)) else pure (.yield (none, c.2.1, c.2.1 + (c.2.2 - c.2.1) / 2))
      | _ => pure (.done (some none, c.2.1, c.2.2))
  match c.1 with
  | some r => pure r
  | none => pure (some c.2.2)
theorem gallop_eq (left : Bool) (key : Keyed) (arr : Array Keyed) (base n hint : Nat) : gallopP left key arr base n hint = (do
    let x ← bey left key arr base hint
    match x with
    | some right =>
      if right = true then do
        let c ← gUp left key arr base n hint (n - hint)
        match c.1 with
        | some r => pure r
        | none => gBin left key arr base n (hint + c.2.1 + 1) (hint + min c.2.2 (n - hint))
      else do
        let c ← gDn left key arr base n hint (hint + 1)
        match c.1 with
        | some r => pure r
        | none => gBin left key arr base n (hint + 1 - min c.2.2 (hint + 1)) (hint - c.2.1)
    | _ => pure none) := by
  refine bcong (m := bey left key arr base hint) rfl fun x => ?_
  cases x with
  | none => rfl
  | some right =>
    dsimp only
    split
    · refine bcong rfl fun c => ?_
      obtain ⟨r, l, o⟩ := c
      cases r with
      | some r => rfl
      | none =>
        refine bcong rfl fun c => ?_
        obtain ⟨r, l, o⟩ := c
        cases r <;> rfl
    · refine bcong rfl fun c => ?_
      obtain ⟨r, l, o⟩ := c
      cases r with
      | some r => rfl
      | none =>
        refine bcong rfl fun c => ?_
        obtain ⟨r, l, o⟩ := c
        cases r <;> rfl
section
variable {prog : Program} {w : World} {A : Around} {E : Value → Shared → Prop} {s : Shared} {kd : SortKind} {left : Bool} {key : Keyed} {arr : Array Keyed} {base n hint : Nat} {Pr : Nat → Bool} {st : SortSt}
def BeyOk (prog : Program) (w : World) (A : Around) (s : Shared) (kd : SortKind) (left : Bool) (key : Keyed) (arr : Array Keyed) (base n : Nat) (Pr : Nat → Bool) : Prop :=
  ∀ (i : Nat) (E : Value → Shared → Prop) (Q : Option Bool → SortSt → Prop) (st : SortSt), i < n → kindOf st = kd → Q (some (Pr i)) st → wpS (model prog w) A E s (bey left key arr base i) Q st
theorem gBin_ok {lo hi : Nat} {Q : Option Nat → SortSt → Prop} (hb : BeyOk prog w A s kd left key arr base n Pr) (hk : kindOf st = kd) (mono : ∀ i j, i ≤ j → j < n → Pr j = true → Pr i = true) (h1 : lo ≤ hi) (h2 : hi ≤ n)
    (hl : ∀ i, i < lo → Pr i = true) (hh : ∀ i, hi ≤ i → i < n → Pr i = false) (h : ∀ r, r ≤ n → (∀ i, i < r → Pr i = true) → (∀ i, r ≤ i → i < n → Pr i = false) → Q (some r) st) :
    wpS (model prog w) A E s (gBin left key arr base n lo hi) Q st := by
  unfold gBin
  refine wpS_bind (wpS_mono (wpS_forRange (I := fun x c st' => st' = st ∧ ∃ l r, c = (none, l, r) ∧ l ≤ r ∧ r ≤ n ∧ r - l ≤ n - x ∧ (∀ i, i < l → Pr i = true) ∧ (∀ i, r ≤ i → i < n → Pr i = false))
    (Q := fun c st' => st' = st ∧ ∃ l r, c = (none, l, r) ∧ r ≤ n ∧ (∀ i, i < r → Pr i = true) ∧ (∀ i, r ≤ i → i < n → Pr i = false)) ?step ?fin ⟨rfl, lo, hi, rfl, h1, h2, by omega, hl, hh⟩) ?post)
  case post =>
    rintro c st' ⟨rfl, l, r, rfl, r1, r2, r3⟩
    exact wpS_pure (h r r1 r2 r3)
  case fin =>
    rintro c st' ⟨rfl, l, r, rfl, r1, r2, r3, r4, r5⟩
    have e : l = r := by omega
    subst e
    exact ⟨rfl, l, l, rfl, r2, r4, r5⟩
  case step =>
    rintro x c st' _ hx ⟨rfl, l, r, rfl, r1, r2, r3, r4, r5⟩
    dsimp only
    by_cases y : l ≥ r
    · rw [if_pos y]
      have e : l = r := by omega
      subst e
      exact wpS_pure ⟨rfl, l, l, rfl, r2, r4, r5⟩
    · rw [if_neg y]
      refine wpS_bind (hb _ _ _ _ (by omega) hk ?_)
      cases t : Pr (l + (r - l) / 2) with
      | true => exact wpS_pure ⟨rfl, _, _, rfl, by omega, by omega, by omega, fun i hi => mono i _ (by omega) (by omega) t, r5⟩
      | false =>
        refine wpS_pure ⟨rfl, _, _, rfl, by omega, by omega, by omega, r4, fun i i1 i2 => ?_⟩
        cases u : Pr i with
        | false => rfl
        | true => rw [mono _ i i1 i2 u] at t; cases t
theorem gallop_ok {Q : Option Nat → SortSt → Prop} (hb : BeyOk prog w A s kd left key arr base n Pr) (hk : kindOf st = kd) (mono : ∀ i j, i ≤ j → j < n → Pr j = true → Pr i = true) (hh : hint < n)
    (h : ∀ r, r ≤ n → (∀ i, i < r → Pr i = true) → (∀ i, r ≤ i → i < n → Pr i = false) → Q (some r) st) : wpS (model prog w) A E s (gallopP left key arr base n hint) Q st := by
  have anti : ∀ i j, i ≤ j → j < n → Pr i = false → Pr j = false := fun i j a b c => by
    cases u : Pr j with
    | false => rfl
    | true => rw [mono i j a b u] at c; cases c
  rw [gallop_eq]
  refine wpS_bind (hb _ _ _ _ hh hk ?_)
  cases t : Pr hint with
  | true =>
    dsimp only
    rw [if_pos rfl]
    unfold gUp
    refine wpS_bind (wpS_mono (wpS_forRange (I := fun x c st' => st' = st ∧ ∃ l o, c = (none, l, o) ∧ l < o ∧ x < o ∧ l < n - hint ∧ Pr (hint + l) = true)
      (Q := fun c st' => st' = st ∧ ∃ l o, c = (none, l, o) ∧ l < o ∧ l < n - hint ∧ Pr (hint + l) = true ∧ (o ≥ n - hint ∨ (o < n - hint ∧ Pr (hint + o) = false))) ?step ?fin ⟨rfl, 0, 1, rfl, by omega, by omega, by omega, t⟩) ?post)
    case post =>
      rintro c st' ⟨rfl, l, o, rfl, c1, c2, c3, c4⟩
      dsimp only
      refine gBin_ok hb hk mono (by omega) (by omega) (fun i hi => mono i _ (by omega) (by omega) c3) (fun i i1 i2 => ?_) h
      rcases c4 with c4 | ⟨c4, c5⟩
      · omega
      · exact anti _ i (by omega) i2 c5
    case fin =>
      rintro c st' ⟨rfl, l, o, rfl, c1, c2, c3, c4⟩
      exact ⟨rfl, l, o, rfl, c1, c3, c4, .inl (by omega)⟩
    case step =>
      rintro x c st' _ hx ⟨rfl, l, o, rfl, c1, c2, c3, c4⟩
      dsimp only
      by_cases y : o ≥ n - hint
      · rw [if_pos y]
        exact wpS_pure ⟨rfl, l, o, rfl, c1, c3, c4, .inl y⟩
      · rw [if_neg y]
        refine wpS_bind (hb _ _ _ _ (by omega) hk ?_)
        cases u : Pr (hint + o) with
        | true => exact wpS_pure ⟨rfl, o, _, rfl, by omega, by omega, by omega, u⟩
        | false => exact wpS_pure ⟨rfl, l, o, rfl, c1, c3, c4, .inr ⟨by omega, u⟩⟩
  | false =>
    dsimp only
    rw [if_neg Bool.false_ne_true]
    unfold gDn
    refine wpS_bind (wpS_mono (wpS_forRange (I := fun x c st' => st' = st ∧ ∃ l o, c = (none, l, o) ∧ l < o ∧ x < o ∧ l ≤ hint ∧ Pr (hint - l) = false)
      (Q := fun c st' => st' = st ∧ ∃ l o, c = (none, l, o) ∧ l < o ∧ l ≤ hint ∧ Pr (hint - l) = false ∧ (o ≥ hint + 1 ∨ (o < hint + 1 ∧ Pr (hint - o) = true))) ?dstep ?dfin ⟨rfl, 0, 1, rfl, by omega, by omega, by omega, t⟩) ?dpost)
    case dpost =>
      rintro c st' ⟨rfl, l, o, rfl, c1, c2, c3, c4⟩
      dsimp only
      refine gBin_ok hb hk mono (by omega) (by omega) (fun i hi => ?_) (fun i i1 i2 => anti _ i i1 i2 c3) h
      rcases c4 with c4 | ⟨c4, c5⟩
      · omega
      · exact mono i _ (by omega) (by omega) c5
    case dfin =>
      rintro c st' ⟨rfl, l, o, rfl, c1, c2, c3, c4⟩
      exact ⟨rfl, l, o, rfl, c1, c3, c4, .inl (by omega)⟩
    case dstep =>
      rintro x c st' _ hx ⟨rfl, l, o, rfl, c1, c2, c3, c4⟩
      dsimp only
      by_cases y : o ≥ hint + 1
      · rw [if_pos y]
        exact wpS_pure ⟨rfl, l, o, rfl, c1, c3, c4, .inl y⟩
      · rw [if_neg y]
        refine wpS_bind (hb _ _ _ _ (by omega) hk ?_)
        cases u : Pr (hint - o) with
        | false => exact wpS_pure ⟨rfl, o, _, rfl, by omega, by omega, by omega, u⟩
        | true => exact wpS_pure ⟨rfl, l, o, rfl, c1, c3, c4, .inr ⟨by omega, u⟩⟩
end
def mergeLoP : Array Keyed → Array Keyed → StateT SortSt Sem (Array Keyed) := sortPriv% PySem.Builtin.mergeLo
def mergeHiP : Array Keyed → Array Keyed → StateT SortSt Sem (Array Keyed) := sortPriv% PySem.Builtin.mergeHi
end Srt
set_option Elab.async false
set_option linter.all false
set_option maxRecDepth 100000
set_option maxHeartbeats 4000000
namespace Srt
open PySem PyProof.Rows
def kk (κ : KeyKind) (p : Keyed) : κ.α := (κ.keyOf p.1).getD κ.dflt
def kL (κ : KeyKind) (p q : Keyed) : Prop := κ.kle (kk κ p) (kk κ q)
theorem KK_of {κ : KeyKind} {xs : Array Keyed} {i : Nat} {p : Keyed} (h : xs[i]? = some p) : KK κ xs i = kk κ p := by unfold KK; rw [h]; rfl
structure MI (κ : KeyKind) (T o A B : List Keyed) : Prop where
  perm : (o ++ (A ++ B)).Perm T
  so : o.Pairwise (kL κ)
  cr : ∀ x ∈ o, ∀ y ∈ A ++ B, kL κ x y
  sA : A.Pairwise (kL κ)
  sB : B.Pairwise (kL κ)
section
variable {κ : KeyKind} {T o A A' B B' blk : List Keyed}
theorem MI.a (h : MI κ T o (blk ++ A') B) (hx : ∀ x ∈ blk, ∀ y ∈ B, kL κ x y) : MI κ T (o ++ blk) A' B := by
  obtain ⟨s1, s2, s3⟩ := List.pairwise_append.mp h.sA
  refine ⟨?_, List.pairwise_append.mpr ⟨h.so, s1, fun x hx y hy => h.cr x hx y (by simp [hy])⟩, fun x hx' y hy => ?_, s2, h.sB⟩
  · have e := h.perm
    simp only [List.append_assoc] at e ⊢
    exact e
  · rcases List.mem_append.mp hx' with z | z
    · exact h.cr x z y (by rcases List.mem_append.mp hy with q | q <;> simp [q])
    · rcases List.mem_append.mp hy with q | q
      · exact s3 x z y q
      · exact hx x z y q
theorem MI.b (h : MI κ T o A (blk ++ B')) (hx : ∀ x ∈ blk, ∀ y ∈ A, kL κ x y) : MI κ T (o ++ blk) A B' := by
  obtain ⟨s1, s2, s3⟩ := List.pairwise_append.mp h.sB
  refine ⟨?_, List.pairwise_append.mpr ⟨h.so, s1, fun x hx y hy => h.cr x hx y (by simp [hy])⟩, fun x hx' y hy => ?_, h.sA, s2⟩
  · refine List.Perm.trans ?_ h.perm
    rw [List.append_assoc]
    refine List.Perm.append_left o ?_
    rw [← List.append_assoc, ← List.append_assoc]
    exact List.Perm.append_right B' List.perm_append_comm
  · rcases List.mem_append.mp hx' with z | z
    · exact h.cr x z y (by rcases List.mem_append.mp hy with q | q <;> simp [q])
    · rcases List.mem_append.mp hy with q | q
      · exact hx x z y q
      · exact s3 x z y q
def Good (κ : KeyKind) (T : List Keyed) (R : Array Keyed) : Prop := R.toList.Perm T ∧ R.toList.Pairwise (kL κ)
theorem MI.endB {R : Array Keyed} (h : MI κ T o A []) (e : R.toList = o ++ A) : Good κ T R := by
  refine ⟨by rw [e]; simpa using h.perm, ?_⟩
  rw [e]
  exact List.pairwise_append.mpr ⟨h.so, h.sA, fun x hx y hy => h.cr x hx y (by simp [hy])⟩
theorem MI.endA {R : Array Keyed} (h : MI κ T o [] B) (e : R.toList = o ++ B) : Good κ T R := by
  refine ⟨by rw [e]; simpa using h.perm, ?_⟩
  rw [e]
  exact List.pairwise_append.mpr ⟨h.so, h.sB, fun x hx y hy => h.cr x hx y (by simp [hy])⟩
theorem MI.last {R : Array Keyed} {l : Keyed} (h : MI κ T o [l] B) (hl : ∀ y ∈ B, kL κ y l) (e : R.toList = o ++ B ++ [l]) : Good κ T R := by
  have h2 : MI κ T (o ++ B) [l] [] := MI.b (blk := B) (B' := []) (by simpa using h) fun x hx y hy => by
    rw [List.mem_singleton.mp hy]
    exact hl x hx
  exact h2.endB e
structure MH (κ : KeyKind) (T o A B : List Keyed) : Prop where
  perm : (A ++ B ++ o).Perm T
  so : o.Pairwise (kL κ)
  cr : ∀ x ∈ o, ∀ y ∈ A ++ B, kL κ y x
  sA : A.Pairwise (kL κ)
  sB : B.Pairwise (kL κ)
theorem MH.a (h : MH κ T o (A' ++ blk) B) (hx : ∀ x ∈ blk, ∀ y ∈ B, kL κ y x) : MH κ T (blk ++ o) A' B := by
  obtain ⟨s1, s2, s3⟩ := List.pairwise_append.mp h.sA
  refine ⟨?_, List.pairwise_append.mpr ⟨s2, h.so, fun x hx y hy => h.cr y hy x (by simp [hx])⟩, fun x hx' y hy => ?_, s1, h.sB⟩
  · refine List.Perm.trans ?_ h.perm
    simp only [List.append_assoc]
    refine List.Perm.append_left A' ?_
    rw [← List.append_assoc, ← List.append_assoc]
    exact List.Perm.append_right o List.perm_append_comm
  · rcases List.mem_append.mp hx' with z | z
    · rcases List.mem_append.mp hy with q | q
      · exact s3 y q x z
      · exact hx x z y q
    · exact h.cr x z y (by rcases List.mem_append.mp hy with q | q <;> simp [q])
theorem MH.b (h : MH κ T o A (B' ++ blk)) (hx : ∀ x ∈ blk, ∀ y ∈ A, kL κ y x) : MH κ T (blk ++ o) A B' := by
  obtain ⟨s1, s2, s3⟩ := List.pairwise_append.mp h.sB
  refine ⟨?_, List.pairwise_append.mpr ⟨s2, h.so, fun x hx y hy => h.cr y hy x (by simp [hx])⟩, fun x hx' y hy => ?_, h.sA, s1⟩
  · have e := h.perm
    simp only [List.append_assoc] at e ⊢
    exact e
  · rcases List.mem_append.mp hx' with z | z
    · rcases List.mem_append.mp hy with q | q
      · exact hx x z y q
      · exact s3 y q x z
    · exact h.cr x z y (by rcases List.mem_append.mp hy with q | q <;> simp [q])
theorem MH.endA {R : Array Keyed} (h : MH κ T o [] B) (e : R.toList = B ++ o) : Good κ T R := by
  refine ⟨by rw [e]; simpa using h.perm, ?_⟩
  rw [e]
  exact List.pairwise_append.mpr ⟨h.sB, h.so, fun x hx y hy => h.cr y hy x (by simp [hx])⟩
theorem MH.endB {R : Array Keyed} (h : MH κ T o A []) (e : R.toList = A ++ o) : Good κ T R := by
  refine ⟨by rw [e]; simpa using h.perm, ?_⟩
  rw [e]
  exact List.pairwise_append.mpr ⟨h.sA, h.so, fun x hx y hy => h.cr y hy x (by simp [hx])⟩
theorem MH.first {R : Array Keyed} {l : Keyed} (h : MH κ T o A [l]) (hl : ∀ y ∈ A, kL κ l y) (e : R.toList = [l] ++ A ++ o) : Good κ T R := by
  have h2 : MH κ T (A ++ o) [] [l] := MH.a (blk := A) (A' := []) (by simpa using h) fun x hx y hy => by
    rw [List.mem_singleton.mp hy]
    exact hl x hx
  exact h2.endA (by rw [e, List.append_assoc])
end
theorem drop_at {xs : Array Keyed} {i : Nat} {p : Keyed} (h : xs[i]? = some p) : xs.toList.drop i = [p] ++ xs.toList.drop (i + 1) := by
  have hi : i < xs.toList.length := by
    have := (Array.getElem?_eq_some_iff.mp h).1
    simpa using this
  rw [List.drop_eq_getElem_cons hi]
  have e : xs.toList[i] = p := by
    have := (Array.getElem?_eq_some_iff.mp h).2
    simpa using this
  rw [e]; rfl
theorem take_at {xs : Array Keyed} {i : Nat} {p : Keyed} (h : xs[i]? = some p) : xs.toList.take (i + 1) = xs.toList.take i ++ [p] := by
  rw [List.take_add_one]
  have e : xs.toList[i]? = some p := by rw [← h]; simp
  rw [e]; rfl
theorem mem_drop {xs : Array Keyed} {i : Nat} {y : Keyed} (h : y ∈ xs.toList.drop i) : ∃ j, i ≤ j ∧ j < xs.size ∧ xs[j]? = some y := by
  obtain ⟨j, hj, e⟩ := List.getElem_of_mem h
  rw [List.length_drop] at hj
  refine ⟨i + j, by omega, ?_, ?_⟩
  · have : xs.toList.length = xs.size := by simp
    omega
  · rw [List.getElem_drop] at e
    have : xs.toList[i + j]? = some y := by rw [← e]; exact List.getElem?_eq_getElem (by omega)
    rw [← this]; simp
theorem mem_take {xs : Array Keyed} {i : Nat} {y : Keyed} (h : y ∈ xs.toList.take i) : ∃ j, j < i ∧ j < xs.size ∧ xs[j]? = some y := by
  obtain ⟨j, hj, e⟩ := List.getElem_of_mem h
  rw [List.length_take] at hj
  have hl : xs.toList.length = xs.size := by simp
  refine ⟨j, by omega, by omega, ?_⟩
  rw [List.getElem_take] at e
  have : xs.toList[j]? = some y := by rw [← e]; exact List.getElem?_eq_getElem (by omega)
  rw [← this]; simp
theorem get_of_lt {xs : Array Keyed} {i : Nat} (h : i < xs.size) : ∃ p, xs[i]? = some p := ⟨xs[i], getElem?_pos _ i h⟩
structure Sm (st st' : SortSt) : Prop where
  k : kindOf st' = kindOf st
  a : arrOf st' = arrOf st
  p : pendingOf st' = pendingOf st
  f : failedOf st' = failedOf st
theorem Sm.refl (st : SortSt) : Sm st st := ⟨rfl, rfl, rfl, rfl⟩
theorem Sm.min {st st' : SortSt} (h : Sm st st') (g : Nat) : Sm st (SortSt.mk' (kindOf st') (arrOf st') (pendingOf st') g (failedOf st')) := ⟨h.k, h.a, h.p, h.f⟩
section
variable {prog : Program} {w : World} {A : Around} {E : Value → Shared → Prop} {s : Shared} {κ : KeyKind} {kd : SortKind} {st : SortSt}
theorem lt_ok {x y : Keyed} {Q : Option Bool → SortSt → Prop} (hO : LtOk κ kd prog w A s) (hk : kindOf st = kd) (hx : ∃ a, κ.keyOf x.1 = some a) (hy : ∃ a, κ.keyOf y.1 = some a) (h : Q (some (κ.blt (kk κ x) (kk κ y))) st) :
    wpS (model prog w) A E s (lt' x y) Q st := by
  obtain ⟨a, ha⟩ := hx
  obtain ⟨c, hc⟩ := hy
  refine hO E x y a c Q st hk ha hc ?_
  have e1 : kk κ x = a := by unfold kk; rw [ha]; rfl
  have e2 : kk κ y = c := by unfold kk; rw [hc]; rfl
  rwa [e1, e2] at h
def Keyd (κ : KeyKind) (xs : Array Keyed) : Prop := ∀ (i : Nat) (p : Keyed), xs[i]? = some p → ∃ a, κ.keyOf p.1 = some a
theorem bey_left {key : Keyed} {arr : Array Keyed} {base n : Nat} (hO : LtOk κ kd prog w A s) (hk : ∃ a, κ.keyOf key.1 = some a) (ha : Keyd κ arr) (hn : base + n ≤ arr.size) :
    BeyOk prog w A s kd true key arr base n fun i => κ.blt (KK κ arr (base + i)) (kk κ key) := by
  intro i E Q st hi hs h
  obtain ⟨p, hp⟩ := get_of_lt (xs := arr) (i := base + i) (by omega)
  unfold bey
  refine wpS_bind (elem_ok hp ?_)
  rw [if_pos rfl]
  refine lt_ok hO hs (ha _ _ hp) hk ?_
  dsimp only at h
  rwa [KK_of hp] at h
theorem bey_right {key : Keyed} {arr : Array Keyed} {base n : Nat} (hO : LtOk κ kd prog w A s) (hk : ∃ a, κ.keyOf key.1 = some a) (ha : Keyd κ arr) (hn : base + n ≤ arr.size) :
    BeyOk prog w A s kd false key arr base n fun i => !(κ.blt (kk κ key) (KK κ arr (base + i))) := by
  intro i E Q st hi hs h
  obtain ⟨p, hp⟩ := get_of_lt (xs := arr) (i := base + i) (by omega)
  unfold bey
  refine wpS_bind (elem_ok hp ?_)
  rw [if_neg Bool.false_ne_true]
  refine wpS_bind (lt_ok hO hs hk (ha _ _ hp) (wpS_pure ?_))
  dsimp only at h
  rwa [KK_of hp] at h
end
end Srt
set_option Elab.async false
set_option linter.all false
set_option maxRecDepth 100000
set_option maxHeartbeats 4000000
namespace Srt
open PySem PyProof.Rows
theorem ext_drop (xs : Array Keyed) (i : Nat) : (xs.extract i xs.size).toList = xs.toList.drop i := by
  simp [Array.toList_extract, List.extract_eq_drop_take]
  rw [List.take_of_length_le]
  simp
theorem ext_blk (xs : Array Keyed) (i k : Nat) : (xs.extract i (i + k)).toList = (xs.toList.drop i).take k := by
  simp [Array.toList_extract, List.extract_eq_drop_take]
theorem ext_take (xs : Array Keyed) (k : Nat) : (xs.extract 0 k).toList = xs.toList.take k := by
  simp [Array.toList_extract, List.extract_eq_drop_take]
theorem blk_drop (xs : Array Keyed) (i k : Nat) : xs.toList.drop i = (xs.toList.drop i).take k ++ xs.toList.drop (i + k) := by
  rw [← List.drop_drop, List.take_append_drop]
theorem drop_all (xs : Array Keyed) : xs.toList.drop xs.size = [] := by simp
section
variable {κ : KeyKind} {a b out : Array Keyed} {T : List Keyed} {ia ib k : Nat} {p : Keyed}
theorem fin_b (h : MI κ T out.toList (a.toList.drop ia) (b.toList.drop ib)) (e : ib = b.size) : Good κ T (out ++ a.extract ia a.size ++ b.extract ib b.size) := by
  subst e
  rw [drop_all] at h
  exact h.endB (by rw [Array.toList_append, Array.toList_append, ext_drop, ext_drop, drop_all, List.append_nil])
theorem fin_a (h : MI κ T out.toList (a.toList.drop ia) (b.toList.drop ib)) (e : ia = a.size) : Good κ T (out ++ a.extract ia a.size ++ b.extract ib b.size) := by
  subst e
  rw [drop_all] at h
  exact h.endA (by rw [Array.toList_append, Array.toList_append, ext_drop, ext_drop, drop_all, List.append_nil])
theorem fin_l (h : MI κ T out.toList (a.toList.drop ia) (b.toList.drop ib)) (e : ia + 1 = a.size) (hl : ∀ j, j < b.size → κ.kle (KK κ b j) (KK κ a (a.size - 1))) : Good κ T (out ++ b.extract ib b.size ++ a.extract ia a.size) := by
  obtain ⟨l, hl'⟩ := get_of_lt (xs := a) (i := ia) (by omega)
  have ed : a.toList.drop ia = [l] := by rw [drop_at hl', e, drop_all]; rfl
  rw [ed] at h
  refine h.last (fun y hy => ?_) (by rw [Array.toList_append, Array.toList_append, ext_drop, ext_drop, ed])
  obtain ⟨j, _, j2, j3⟩ := mem_drop hy
  have q := hl j j2
  rw [show a.size - 1 = ia by omega, KK_of j3, KK_of hl'] at q
  exact q
theorem mv_b (h : MI κ T out.toList (a.toList.drop ia) (b.toList.drop ib)) (hp : b[ib]? = some p) (hx : ∀ i, ia ≤ i → i < a.size → κ.kle (KK κ b ib) (KK κ a i)) : MI κ T (out.push p).toList (a.toList.drop ia) (b.toList.drop (ib + 1)) := by
  rw [drop_at hp] at h
  rw [Array.toList_push]
  refine h.b fun x hx' y hy => ?_
  rw [List.mem_singleton.mp hx']
  obtain ⟨j, j1, j2, j3⟩ := mem_drop hy
  have q := hx j j1 j2
  rw [KK_of hp, KK_of j3] at q
  exact q
theorem mv_a (h : MI κ T out.toList (a.toList.drop ia) (b.toList.drop ib)) (hp : a[ia]? = some p) (hx : ∀ j, ib ≤ j → j < b.size → κ.kle (KK κ a ia) (KK κ b j)) : MI κ T (out.push p).toList (a.toList.drop (ia + 1)) (b.toList.drop ib) := by
  rw [drop_at hp] at h
  rw [Array.toList_push]
  refine h.a fun x hx' y hy => ?_
  rw [List.mem_singleton.mp hx']
  obtain ⟨j, j1, j2, j3⟩ := mem_drop hy
  have q := hx j j1 j2
  rw [KK_of hp, KK_of j3] at q
  exact q
theorem mem_blk {xs : Array Keyed} {i k : Nat} {y : Keyed} (h : y ∈ (xs.toList.drop i).take k) : ∃ j, i ≤ j ∧ j < i + k ∧ j < xs.size ∧ xs[j]? = some y := by
  obtain ⟨j, hj, e⟩ := List.getElem_of_mem h
  rw [List.length_take, List.length_drop] at hj
  have hl : xs.toList.length = xs.size := by simp
  refine ⟨i + j, by omega, by omega, by omega, ?_⟩
  rw [List.getElem_take, List.getElem_drop] at e
  have : xs.toList[i + j]? = some y := by rw [← e]; exact List.getElem?_eq_getElem (by omega)
  rw [← this]; simp
theorem blk_a (h : MI κ T out.toList (a.toList.drop ia) (b.toList.drop ib)) (hx : ∀ i, ia ≤ i → i < ia + k → i < a.size → ∀ j, ib ≤ j → j < b.size → κ.kle (KK κ a i) (KK κ b j)) :
    MI κ T (out ++ a.extract ia (ia + k)).toList (a.toList.drop (ia + k)) (b.toList.drop ib) := by
  rw [blk_drop a ia k] at h
  rw [Array.toList_append, ext_blk]
  refine h.a fun x hx' y hy => ?_
  obtain ⟨i, i1, i2, i3, i4⟩ := mem_blk hx'
  obtain ⟨j, j1, j2, j3⟩ := mem_drop hy
  have q := hx i i1 i2 i3 j j1 j2
  rw [KK_of i4, KK_of j3] at q
  exact q
theorem blk_b (h : MI κ T out.toList (a.toList.drop ia) (b.toList.drop ib)) (hx : ∀ j, ib ≤ j → j < ib + k → j < b.size → ∀ i, ia ≤ i → i < a.size → κ.kle (KK κ b j) (KK κ a i)) :
    MI κ T (out ++ b.extract ib (ib + k)).toList (a.toList.drop ia) (b.toList.drop (ib + k)) := by
  rw [blk_drop b ib k] at h
  rw [Array.toList_append, ext_blk]
  refine h.b fun x hx' y hy => ?_
  obtain ⟨i, i1, i2, i3, i4⟩ := mem_blk hx'
  obtain ⟨j, j1, j2, j3⟩ := mem_drop hy
  have q := hx i i1 i2 i3 j j1 j2
  rw [KK_of i4, KK_of j3] at q
  exact q
end
theorem wpS_if {M : Model} {A : Around} {E : Value → Shared → Prop} {s : Shared} {σ α : Type} {c : Prop} [Decidable c] {x y : StateT σ Sem α} {Q : α → σ → Prop} {st : σ} (h1 : c → wpS M A E s x Q st) (h2 : ¬ c → wpS M A E s y Q st) : wpS M A E s (if c then x else y) Q st := by
  by_cases h : c
  · rw [if_pos h]; exact h1 h
  · rw [if_neg h]; exact h2 h
theorem pw_of {κ : KeyKind} {xs : Array Keyed} (h : ∀ i j, i ≤ j → j < xs.size → κ.kle (KK κ xs i) (KK κ xs j)) : xs.toList.Pairwise (kL κ) := by
  rw [List.pairwise_iff_getElem]
  intro i j hi hj hij
  have hl : xs.toList.length = xs.size := by simp
  have q := h i j (by omega) (by omega)
  rw [KK_of (p := xs.toList[i]) (by rw [← List.getElem?_eq_getElem hi]; simp), KK_of (p := xs.toList[j]) (by rw [← List.getElem?_eq_getElem hj]; simp)] at q
  exact q
section
variable {prog : Program} {w : World} {A : Around} {E : Value → Shared → Prop} {s : Shared} {κ : KeyKind} {kd : SortKind} {st : SortSt}
variable {a b : Array Keyed}
@[elab_as_elim] theorem el4 {α0 α1 α2 α3 ε : Type} {P : α0 → α1 → α2 → α3 → Prop} {motive : Option ε × α0 × α1 × α2 × α3 → Prop} (c : Option ε × α0 × α1 × α2 × α3) (h : ∃ x0 x1 x2 x3, c = (none, x0, x1, x2, x3) ∧ P x0 x1 x2 x3) (k : ∀ x0 x1 x2 x3, P x0 x1 x2 x3 → motive (none, x0, x1, x2, x3)) : motive c := by
  obtain ⟨x0, x1, x2, x3, rfl, p⟩ := h
  exact k x0 x1 x2 x3 p
@[elab_as_elim] theorem el5 {α0 α1 α2 α3 α4 ε : Type} {P : α0 → α1 → α2 → α3 → α4 → Prop} {motive : Option ε × α0 × α1 × α2 × α3 × α4 → Prop} (c : Option ε × α0 × α1 × α2 × α3 × α4) (h : ∃ x0 x1 x2 x3 x4, c = (none, x0, x1, x2, x3, x4) ∧ P x0 x1 x2 x3 x4) (k : ∀ x0 x1 x2 x3 x4, P x0 x1 x2 x3 x4 → motive (none, x0, x1, x2, x3, x4)) : motive c := by
  obtain ⟨x0, x1, x2, x3, x4, rfl, p⟩ := h
  exact k x0 x1 x2 x3 x4 p
@[elab_as_elim] theorem eo5 {α0 α1 α2 α3 α4 ε : Type} {P : α0 → α1 → α2 → α3 → α4 → Prop} {G : ε → Prop} {motive : Option ε × α0 × α1 × α2 × α3 × α4 → Prop} (c : Option ε × α0 × α1 × α2 × α3 × α4) (h : (∃ R r, c = (some R, r) ∧ G R) ∨ ∃ x0 x1 x2 x3 x4, c = (none, x0, x1, x2, x3, x4) ∧ P x0 x1 x2 x3 x4) (k1 : ∀ R r, G R → motive (some R, r)) (k : ∀ x0 x1 x2 x3 x4, P x0 x1 x2 x3 x4 → motive (none, x0, x1, x2, x3, x4)) : motive c := by
  obtain ⟨R, r, rfl, g⟩ | h := h
  · exact k1 R r g
  · exact el5 c h k
@[elab_as_elim] theorem el6 {α0 α1 α2 α3 α4 α5 ε : Type} {P : α0 → α1 → α2 → α3 → α4 → α5 → Prop} {motive : Option ε × α0 × α1 × α2 × α3 × α4 × α5 → Prop} (c : Option ε × α0 × α1 × α2 × α3 × α4 × α5) (h : ∃ x0 x1 x2 x3 x4 x5, c = (none, x0, x1, x2, x3, x4, x5) ∧ P x0 x1 x2 x3 x4 x5) (k : ∀ x0 x1 x2 x3 x4 x5, P x0 x1 x2 x3 x4 x5 → motive (none, x0, x1, x2, x3, x4, x5)) : motive c := by
  obtain ⟨x0, x1, x2, x3, x4, x5, rfl, p⟩ := h
  exact k x0 x1 x2 x3 x4 x5 p
@[elab_as_elim] theorem eo6 {α0 α1 α2 α3 α4 α5 ε : Type} {P : α0 → α1 → α2 → α3 → α4 → α5 → Prop} {G : ε → Prop} {motive : Option ε × α0 × α1 × α2 × α3 × α4 × α5 → Prop} (c : Option ε × α0 × α1 × α2 × α3 × α4 × α5) (h : (∃ R r, c = (some R, r) ∧ G R) ∨ ∃ x0 x1 x2 x3 x4 x5, c = (none, x0, x1, x2, x3, x4, x5) ∧ P x0 x1 x2 x3 x4 x5) (k1 : ∀ R r, G R → motive (some R, r)) (k : ∀ x0 x1 x2 x3 x4 x5, P x0 x1 x2 x3 x4 x5 → motive (none, x0, x1, x2, x3, x4, x5)) : motive c := by
  obtain ⟨R, r, rfl, g⟩ | h := h
  · exact k1 R r g
  · exact el6 c h k
structure Shd (P : Prop) : Prop where
  out : P
theorem wpS_ifS {c : Prop} [Decidable c] {σ α : Type} {M : Model} {x y : StateT σ Sem α} {Q : α → σ → Prop} {t : σ} {P : Prop} (g : P) (h1 : c → Shd P → wpS M A E s x Q t) (h2 : ¬ c → Shd P → wpS M A E s y Q t) : wpS M A E s (if c then x else y) Q t := by
  split
  · exact h1 (by assumption) ⟨g⟩
  · exact h2 (by assumption) ⟨g⟩
theorem mergeLo_ok {Q : Array Keyed → SortSt → Prop} (hO : LtOk κ kd prog w A s) (hk : kindOf st = kd) (ka : Keyd κ a) (kb : Keyd κ b) (hA : ∀ i j, i ≤ j → j < a.size → κ.kle (KK κ a i) (KK κ a j)) (hB : ∀ i j, i ≤ j → j < b.size → κ.kle (KK κ b i) (KK κ b j))
    (ha : 0 < a.size) (hb : 0 < b.size) (h1 : κ.kle (KK κ b 0) (KK κ a 0)) (h2 : κ.kle (KK κ b (b.size - 1)) (KK κ a (a.size - 1)))
    (h : ∀ R st', Sm st st' → Good κ (a.toList ++ b.toList) R → Q R st') : wpS (model prog w) A E s (mergeLoP a b) Q st := by
  obtain ⟨b0, e0⟩ := get_of_lt hb
  generalize hT : a.toList ++ b.toList = T at h
  have hl : ∀ j, j < b.size → κ.kle (KK κ b j) (KK κ a (a.size - 1)) := fun j hj => KeyOrd.kle_trans (hB j (b.size - 1) (by omega) (by omega)) h2
  have m0 : MI κ T (#[] : Array Keyed).toList (a.toList.drop 0) (b.toList.drop 0) := ⟨by rw [← hT]; simp, .nil, fun x hx => by simp at hx, by simpa using pw_of hA, by simpa using pw_of hB⟩
  have m1 : MI κ T (#[b0] : Array Keyed).toList (a.toList.drop 0) (b.toList.drop 1) := mv_b m0 e0 fun i _ hi => KeyOrd.kle_trans h1 (hA 0 i (by omega) hi)
  refine wpS_bind (wpS_lift (wpAny_rule ⟨rfl, wpS_bind (elem_ok e0 ?_)⟩))
  dsimp only
  by_cases y1 : 1 = b.size
  · rw [if_pos (by simpa using y1)]
    exact wpS_pure (h _ _ (Sm.refl _) (fin_b m1 y1))
  rw [if_neg (by simpa using y1)]
  by_cases y2 : 0 + 1 = a.size
  · rw [if_pos (by simpa using y2)]
    exact wpS_pure (h _ _ (Sm.refl _) (fin_l m1 y2 hl))
  rw [if_neg (by simpa using y2)]
  refine wpS_bind (wpS_get ?_)
  refine wpS_bind (wpS_mono (wpS_forRange (I := fun x c st' => Sm st st' ∧ ∃ out ia ib mg, c = (none, out, ia, ib, mg) ∧ MI κ T out.toList (a.toList.drop ia) (b.toList.drop ib) ∧ ia + 1 < a.size ∧ ib < b.size ∧ x < ia + ib)
    (Q := fun c st' => Sm st st' ∧ ∃ R r, c = (some R, r) ∧ Good κ T R) ?ostep ?ofin ⟨Sm.refl _, _, _, _, _, rfl, m1, by omega, by omega, by omega⟩) ?opost)
  case opost =>
    rintro c st' ⟨sm, R, r, rfl, g⟩
    exact wpS_pure (h R st' sm g)
  case ofin =>
    rintro c st' ⟨sm, out, ia, ib, mg, rfl, m, q1, q2, q3⟩
    omega
  case ostep =>
    intro x c st1 _ hx hI
    have sm1 := hI.1
    refine el4 c hI.2 fun out ia ib mg hP => ?_
    have m := hP.1
    have q1 := hP.2.1
    have q2 := hP.2.2.1
    have q3 := hP.2.2.2
    clear hI hP
    dsimp only
    refine wpS_bind (wpS_mono (wpS_forRange (I := fun y c st' => Sm st st' ∧ ∃ out ia ib ac bc, c = (none, out, ia, ib, ac, bc) ∧ MI κ T out.toList (a.toList.drop ia) (b.toList.drop ib) ∧ ia + 1 < a.size ∧ ib < b.size ∧ x + min y 1 < ia + ib)
      (Q := fun c st' => Sm st st' ∧ ((∃ R r, c = (some R, r) ∧ Good κ T R) ∨ ∃ out ia ib ac bc, c = (none, out, ia, ib, ac, bc) ∧ MI κ T out.toList (a.toList.drop ia) (b.toList.drop ib) ∧ ia + 1 < a.size ∧ ib < b.size ∧ x + 1 < ia + ib))
      ?istep ?ifin ⟨sm1, _, _, _, _, _, rfl, m, q1, q2, by omega⟩) ?ipost)
    case ifin =>
      rintro c st' ⟨sm, out, ia, ib, ac, bc, rfl, m, q1, q2, q3⟩
      exact ⟨sm, .inr ⟨out, ia, ib, ac, bc, rfl, m, q1, q2, by omega⟩⟩
    case istep =>
      intro y c st2 _ hy hI
      have sm := hI.1
      refine el5 c hI.2 fun out ia ib ac bc hP => ?_
      have m := hP.1
      have q1 := hP.2.1
      have q2 := hP.2.2.1
      have q3 := hP.2.2.2
      clear hI hP
      dsimp only
      obtain ⟨pb, eb⟩ := get_of_lt q2
      obtain ⟨pa, ea⟩ := get_of_lt (xs := a) (i := ia) (by omega)
      refine wpS_bind (elem_ok eb (wpS_bind (elem_ok ea (wpS_bind (lt_ok hO (sm.k.trans hk) (kb _ _ eb) (ka _ _ ea) ?_)))))
      cases t : κ.blt (kk κ pb) (kk κ pa) with
      | true =>
        dsimp only
        rw [if_pos rfl]
        have tk : κ.kle (KK κ b ib) (KK κ a ia) := by rw [KK_of eb, KK_of ea]; exact KeyOrd.kle_of_klt t
        have m' := mv_b m eb fun i i1 i2 => KeyOrd.kle_trans tk (hA ia i i1 i2)
        refine wpS_bind (elem_ok eb ?_)
        by_cases z : ib + 1 = b.size
        · rw [if_pos (by simpa using z)]
          exact wpS_pure ⟨sm, .inl ⟨_, _, rfl, fin_b m' z⟩⟩
        · rw [if_neg (by simpa using z)]
          split
          · exact wpS_pure ⟨sm, .inr ⟨_, _, _, _, _, rfl, m', q1, by omega, by omega⟩⟩
          · exact wpS_pure ⟨sm, _, _, _, _, _, rfl, m', q1, by omega, by omega⟩
      | false =>
        dsimp only
        rw [if_neg Bool.false_ne_true]
        have tk : κ.kle (KK κ a ia) (KK κ b ib) := by rw [KK_of eb, KK_of ea]; exact t
        have m' := mv_a m ea fun i i1 i2 => KeyOrd.kle_trans tk (hB ib i i1 i2)
        refine wpS_bind (elem_ok ea ?_)
        by_cases z : ia + 1 + 1 = a.size
        · rw [if_pos (by simpa using z)]
          exact wpS_pure ⟨sm, .inl ⟨_, _, rfl, fin_l m' z hl⟩⟩
        · rw [if_neg (by simpa using z)]
          split
          · exact wpS_pure ⟨sm, .inr ⟨_, _, _, _, _, rfl, m', by omega, q2, by omega⟩⟩
          · exact wpS_pure ⟨sm, _, _, _, _, _, rfl, m', by omega, q2, by omega⟩
    case ipost =>
      intro c st2 hI
      have sm2 := hI.1
      refine eo5 c hI.2 (fun R r g => ?_) fun out ia ib ac bc hP => ?_
      · exact wpS_pure ⟨sm2, R, _, rfl, g⟩
      have m := hP.1
      have q1 := hP.2.1
      have q2 := hP.2.2.1
      have q3 := hP.2.2.2
      clear hI hP
      dsimp only
      refine wpS_bind (wpS_lift (wpAny_rule ⟨rfl, ?_⟩))
      refine wpS_bind (wpS_mono (wpS_forRange (I := fun y c st' => Sm st st' ∧ ∃ out ia ib mg ac bc, c = (none, out, ia, ib, mg, ac, bc) ∧ MI κ T out.toList (a.toList.drop ia) (b.toList.drop ib) ∧ ia + 1 < a.size ∧ ib < b.size ∧ x + 1 < ia + ib)
        (Q := fun c st' => Sm st st' ∧ ((∃ R r, c = (some R, r) ∧ Good κ T R) ∨ ∃ out ia ib mg ac bc, c = (none, out, ia, ib, mg, ac, bc) ∧ MI κ T out.toList (a.toList.drop ia) (b.toList.drop ib) ∧ ia + 1 < a.size ∧ ib < b.size ∧ x + 1 < ia + ib))
        ?gstep ?gfin ⟨sm2, _, _, _, _, _, _, rfl, m, q1, q2, q3⟩) ?gpost)
      case gfin =>
        exact fun c st' hI => ⟨hI.1, .inr hI.2⟩
      case gpost =>
        intro c st3 hI
        have sm3 := hI.1
        refine eo6 c hI.2 (fun R r g => ?_) fun out ia ib mg ac bc hP => ?_
        · exact wpS_pure ⟨sm3, R, _, rfl, g⟩
        dsimp only
        exact wpS_bind (wpS_modify (wpS_pure ⟨sm3.min _, _, _, _, _, rfl, hP⟩))
      case gstep =>
        intro y c st3 _ hy hI
        have sm := hI.1
        refine el6 c hI.2 fun out ia ib mg ac bc hP => ?_
        have m := hP.1
        have q1 := hP.2.1
        have q2 := hP.2.2.1
        have q3 := hP.2.2.2
        clear hI hP
        dsimp only
        obtain ⟨pb, eb⟩ := get_of_lt q2
        refine' wpS_ifS (P := _) ?A0 (fun _ H => ?A1) fun _ H => ?A2
        case A1 => generalize mg - 1 = z; revert z; exact H.out
        case A2 => exact H.out _
        intro mg
        refine wpS_bind (wpS_modify ?_)
        refine wpS_bind (elem_ok eb (wpS_bind (gallop_ok (bey_right hO (kb _ _ eb) ka (base := ia) (n := a.size - ia) (by omega)) ((sm.min _).k.trans hk) (fun i j hij hj t => ?_) (by omega) fun k k1 k2 k3 => ?_)))
        · have t1 : κ.kle (KK κ a (ia + j)) (kk κ pb) := by simpa [KeyOrd.kle] using t
          have t2 := KeyOrd.kle_trans (hA (ia + i) (ia + j) (by omega) (by omega)) t1
          simpa [KeyOrd.kle] using t2
        dsimp only
        have low : ∀ i, ia ≤ i → i < ia + k → κ.kle (KK κ a i) (KK κ b ib) := fun i i1 i2 => by
          have q := k2 (i - ia) (by omega)
          rw [show ia + (i - ia) = i by omega] at q
          rw [KK_of eb]
          simpa [KeyOrd.kle] using q
        have hi0 : ∀ i, ia + k ≤ i → i < a.size → κ.kle (KK κ b ib) (KK κ a i) := fun i i1 i2 => by
          have q := k3 (i - ia) (by omega) (by omega)
          rw [show ia + (i - ia) = i by omega] at q
          rw [KK_of eb]
          exact KeyOrd.kle_of_klt (show κ.blt _ _ = true by simpa using q)
        refine' wpS_ifS (P := _) ?B0 (fun kz H => ?B1) fun kz H => ?B2
        case B1 =>
          have mk := blk_a (k := k) m fun i i1 i2 _ j j1 j2 => KeyOrd.kle_trans (low i i1 i2) (hB ib j j1 j2)
          by_cases w1 : ia + k + 1 = a.size
          · rw [if_pos (by simpa using w1)]
            exact wpS_pure ⟨sm.min _, .inl ⟨_, _, rfl, fin_l mk w1 hl⟩⟩
          rw [if_neg (by simpa using w1)]
          by_cases w2 : ia + k = a.size
          · rw [if_pos (by simpa using w2)]
            exact wpS_pure ⟨sm.min _, .inl ⟨_, _, rfl, fin_a mk w2⟩⟩
          rw [if_neg (by simpa using w2)]
          have pr : x + 1 < ia + k + ib := by omega
          have p1 : ia + k + 1 < a.size := by omega
          have hi1 := hi0
          revert pr p1 hi1 mk
          generalize out ++ a.extract ia (ia + k) = out1
          generalize ia + k = ia1
          revert out1 ia1
          exact H.out
        case B2 =>
          have k0 : k = 0 := by omega
          exact H.out _ _ m q3 q1 (fun i i1 i2 => hi0 i (by omega) i2)
        clear low hi0 k1 k2 k3 m q3 q1
        intro out1 ia1 m1 pr p1 hi1
        refine wpS_bind (elem_ok eb ?_)
        have m2 := mv_b m1 eb hi1
        by_cases z : ib + 1 = b.size
        · rw [if_pos (by simpa using z)]
          exact wpS_pure ⟨sm.min _, .inl ⟨_, _, rfl, fin_b m2 z⟩⟩
        rw [if_neg (by simpa using z)]
        obtain ⟨pa, ea⟩ := get_of_lt (xs := a) (i := ia1) (by omega)
        refine wpS_bind (elem_ok ea (wpS_bind (gallop_ok (bey_left hO (ka _ _ ea) kb (base := ib + 1) (n := b.size - (ib + 1)) (by omega)) ((sm.min _).k.trans hk) (fun i j hij hj t => ?_) (by omega) fun k2 l1 l2 l3 => ?_)))
        · exact KeyOrd.klt_of_kle_of_klt (hB (ib + 1 + i) (ib + 1 + j) (by omega) (by omega)) t
        dsimp only
        have low2 : ∀ j, ib + 1 ≤ j → j < ib + 1 + k2 → κ.kle (KK κ b j) (KK κ a ia1) := fun j j1 j2 => by
          have q := l2 (j - (ib + 1)) (by omega)
          rw [show ib + 1 + (j - (ib + 1)) = j by omega] at q
          rw [KK_of ea]
          exact KeyOrd.kle_of_klt q
        have high2 : ∀ j, ib + 1 + k2 ≤ j → j < b.size → κ.kle (KK κ a ia1) (KK κ b j) := fun j j1 j2 => by
          have q := l3 (j - (ib + 1)) (by omega) (by omega)
          rw [show ib + 1 + (j - (ib + 1)) = j by omega] at q
          rw [KK_of ea]
          exact q
        refine' wpS_ifS (P := _) ?C0 (fun kz2 H => ?C1) fun kz2 H => ?C2
        case C1 =>
          have m3 := blk_b (k := k2) m2 fun j j1 j2 _ i i1 i2 => KeyOrd.kle_trans (low2 j j1 j2) (hA ia1 i i1 i2)
          by_cases z2 : ib + 1 + k2 = b.size
          · rw [if_pos (by simpa using z2)]
            exact wpS_pure ⟨sm.min _, .inl ⟨_, _, rfl, fin_b m3 z2⟩⟩
          rw [if_neg (by simpa using z2)]
          have e1 : ib + 1 + k2 < b.size := by omega
          have e2 : x + 1 < ia1 + 1 + (ib + 1 + k2) := by omega
          have hi2 := high2
          revert e1 e2 hi2 m3
          generalize out1.push pb ++ b.extract (ib + 1) (ib + 1 + k2) = out2
          generalize ib + 1 + k2 = ib2
          generalize k2 = bc
          revert out2 ib2 bc
          exact H.out
        case C2 =>
          have k0 : k2 = 0 := by omega
          exact H.out _ _ _ m2 (by omega) (by omega) (fun j j1 j2 => high2 j (by omega) j2)
        clear low2 high2 l1 l2 l3 m2 m1
        intro out2 ib2 bc m3 e1 e2 high2
        refine wpS_bind (elem_ok ea ?_)
        have m4 := mv_a m3 ea high2
        by_cases z3 : ia1 + 1 + 1 = a.size
        · rw [if_pos (by simpa using z3)]
          exact wpS_pure ⟨sm.min _, .inl ⟨_, _, rfl, fin_l m4 z3 hl⟩⟩
        rw [if_neg (by simpa using z3)]
        have e3 : ia1 + 1 + 1 < a.size := by omega
        refine wpS_if (fun _ => ?_) fun _ => ?_
        · exact wpS_pure ⟨sm.min _, .inr ⟨_, _, _, _, _, _, rfl, m4, e3, e1, e2⟩⟩
        · exact wpS_pure ⟨sm.min _, _, _, _, _, _, _, rfl, m4, e3, e1, e2⟩
end
end Srt
set_option Elab.async false
set_option linter.all false
set_option maxRecDepth 100000
set_option maxHeartbeats 4000000
namespace Srt
open PySem PyProof.Rows
section
variable {κ : KeyKind} {a b out : Array Keyed} {T : List Keyed} {na nb k : Nat} {p : Keyed}
theorem rev_out (xs ys out : Array Keyed) : (xs ++ ys ++ out.reverse).toList = xs.toList ++ ys.toList ++ out.toList.reverse := by simp
theorem hf_a (h : MH κ T out.toList.reverse (a.toList.take na) (b.toList.take nb)) (e : na = 0) : Good κ T (a.extract 0 na ++ b.extract 0 nb ++ out.reverse) := by
  subst e
  rw [List.take_zero] at h
  exact h.endA (by rw [rev_out, ext_take, ext_take, List.take_zero, List.nil_append])
theorem hf_b (h : MH κ T out.toList.reverse (a.toList.take na) (b.toList.take nb)) (e : nb = 0) : Good κ T (a.extract 0 na ++ b.extract 0 nb ++ out.reverse) := by
  subst e
  rw [List.take_zero] at h
  exact h.endB (by rw [rev_out, ext_take, ext_take, List.take_zero, List.append_nil])
theorem hf_f (h : MH κ T out.toList.reverse (a.toList.take na) (b.toList.take nb)) (e : nb = 1) (hb : 0 < b.size) (hl : ∀ i, i < a.size → κ.kle (KK κ b 0) (KK κ a i)) : Good κ T (b.extract 0 nb ++ a.extract 0 na ++ out.reverse) := by
  subst e
  obtain ⟨l, hl'⟩ := get_of_lt hb
  have ed : b.toList.take 1 = [l] := by rw [take_at hl']; rfl
  rw [ed] at h
  refine h.first (fun y hy => ?_) (by rw [rev_out, ext_take, ext_take, ed])
  obtain ⟨j, _, j2, j3⟩ := mem_take hy
  have q := hl j j2
  rw [KK_of j3, KK_of hl'] at q
  exact q
theorem hm_a (h : MH κ T out.toList.reverse (a.toList.take (na + 1)) (b.toList.take nb)) (hp : a[na]? = some p) (hx : ∀ j, j < nb → j < b.size → κ.kle (KK κ b j) (KK κ a na)) : MH κ T (out.push p).toList.reverse (a.toList.take na) (b.toList.take nb) := by
  rw [take_at hp] at h
  have e : (out.push p).toList.reverse = [p] ++ out.toList.reverse := by simp
  rw [e]
  refine h.a fun x hx' y hy => ?_
  rw [List.mem_singleton.mp hx']
  obtain ⟨j, j1, j2, j3⟩ := mem_take hy
  have q := hx j j1 j2
  rw [KK_of hp, KK_of j3] at q
  exact q
theorem hm_b (h : MH κ T out.toList.reverse (a.toList.take na) (b.toList.take (nb + 1))) (hp : b[nb]? = some p) (hx : ∀ i, i < na → i < a.size → κ.kle (KK κ a i) (KK κ b nb)) : MH κ T (out.push p).toList.reverse (a.toList.take na) (b.toList.take nb) := by
  rw [take_at hp] at h
  have e : (out.push p).toList.reverse = [p] ++ out.toList.reverse := by simp
  rw [e]
  refine h.b fun x hx' y hy => ?_
  rw [List.mem_singleton.mp hx']
  obtain ⟨j, j1, j2, j3⟩ := mem_take hy
  have q := hx j j1 j2
  rw [KK_of hp, KK_of j3] at q
  exact q
theorem take_blk (xs : Array Keyed) {i n : Nat} (h : i ≤ n) : xs.toList.take n = xs.toList.take i ++ (xs.toList.drop i).take (n - i) := by
  rw [← List.take_add, Nat.add_sub_cancel' h]
theorem out_blk (out xs : Array Keyed) {i n : Nat} (h : i ≤ n) : (out ++ (xs.extract i n).reverse).toList.reverse = (xs.toList.drop i).take (n - i) ++ out.toList.reverse := by
  have e := ext_blk xs i (n - i)
  rw [Nat.add_sub_cancel' h] at e
  rw [← e]
  simp
theorem hb_a {i : Nat} (hi : i ≤ na) (h : MH κ T out.toList.reverse (a.toList.take na) (b.toList.take nb)) (hx : ∀ m, i ≤ m → m < na → m < a.size → ∀ j, j < nb → j < b.size → κ.kle (KK κ b j) (KK κ a m)) :
    MH κ T (out ++ (a.extract i na).reverse).toList.reverse (a.toList.take i) (b.toList.take nb) := by
  rw [take_blk a hi] at h
  rw [out_blk _ _ hi]
  refine h.a fun x hx' y hy => ?_
  obtain ⟨m, i1, i2, i3, i4⟩ := mem_blk hx'
  obtain ⟨j, j1, j2, j3⟩ := mem_take hy
  have q := hx m i1 (by omega) i3 j j1 j2
  rw [KK_of i4, KK_of j3] at q
  exact q
theorem hb_b {i : Nat} (hi : i ≤ nb) (h : MH κ T out.toList.reverse (a.toList.take na) (b.toList.take nb)) (hx : ∀ m, i ≤ m → m < nb → m < b.size → ∀ j, j < na → j < a.size → κ.kle (KK κ a j) (KK κ b m)) :
    MH κ T (out ++ (b.extract i nb).reverse).toList.reverse (a.toList.take na) (b.toList.take i) := by
  rw [take_blk b hi] at h
  rw [out_blk _ _ hi]
  refine h.b fun x hx' y hy => ?_
  obtain ⟨m, i1, i2, i3, i4⟩ := mem_blk hx'
  obtain ⟨j, j1, j2, j3⟩ := mem_take hy
  have q := hx m i1 (by omega) i3 j j1 j2
  rw [KK_of i4, KK_of j3] at q
  exact q
end
section
variable {prog : Program} {w : World} {A : Around} {E : Value → Shared → Prop} {s : Shared} {κ : KeyKind} {kd : SortKind} {st : SortSt}
variable {a b : Array Keyed}
theorem mergeHi_ok {Q : Array Keyed → SortSt → Prop} (hO : LtOk κ kd prog w A s) (hk : kindOf st = kd) (ka : Keyd κ a) (kb : Keyd κ b) (hA : ∀ i j, i ≤ j → j < a.size → κ.kle (KK κ a i) (KK κ a j)) (hB : ∀ i j, i ≤ j → j < b.size → κ.kle (KK κ b i) (KK κ b j))
    (ha : 0 < a.size) (hb : 0 < b.size) (h1 : κ.kle (KK κ b 0) (KK κ a 0)) (h2 : κ.kle (KK κ b (b.size - 1)) (KK κ a (a.size - 1)))
    (h : ∀ R st', Sm st st' → Good κ (a.toList ++ b.toList) R → Q R st') : wpS (model prog w) A E s (mergeHiP a b) Q st := by
  obtain ⟨al, el⟩ := get_of_lt (xs := a) (i := a.size - 1) (by omega)
  generalize hT : a.toList ++ b.toList = T at h
  have hf : ∀ i, i < a.size → κ.kle (KK κ b 0) (KK κ a i) := fun i hi => KeyOrd.kle_trans h1 (hA 0 i (by omega) hi)
  have m0 : MH κ T (#[] : Array Keyed).toList.reverse (a.toList.take (a.size - 1 + 1)) (b.toList.take b.size) := by
    rw [show a.size - 1 + 1 = a.size by omega]
    rw [List.take_of_length_le (l := a.toList) (by simp), List.take_of_length_le (l := b.toList) (by simp)]
    exact ⟨by rw [← hT]; simp, by simp, fun x hx => by simp at hx, pw_of hA, pw_of hB⟩
  have m1 : MH κ T (#[al] : Array Keyed).toList.reverse (a.toList.take (a.size - 1)) (b.toList.take b.size) := hm_a m0 el fun j _ hj => KeyOrd.kle_trans (hB j (b.size - 1) (by omega) (by omega)) h2
  refine wpS_bind (wpS_lift (wpAny_rule ⟨rfl, wpS_bind (elem_ok el ?_)⟩))
  dsimp only
  by_cases y1 : a.size - 1 = 0
  · rw [if_pos (by simpa using y1)]
    exact wpS_pure (h _ _ (Sm.refl _) (hf_a m1 y1))
  rw [if_neg (by simpa using y1)]
  by_cases y2 : b.size = 1
  · rw [if_pos (by simpa using y2)]
    exact wpS_pure (h _ _ (Sm.refl _) (hf_f m1 y2 hb hf))
  rw [if_neg (by simpa using y2)]
  refine wpS_bind (wpS_get ?_)
  refine wpS_bind (wpS_mono (wpS_forRange (I := fun x c st' => Sm st st' ∧ ∃ na nb out mg, c = (none, na, nb, out, mg) ∧ MH κ T out.toList.reverse (a.toList.take na) (b.toList.take nb) ∧ 0 < na ∧ na ≤ a.size ∧ 1 < nb ∧ nb ≤ b.size ∧ x + na + nb < a.size + b.size)
    (Q := fun c st' => Sm st st' ∧ ∃ R r, c = (some R, r) ∧ Good κ T R) ?ostep ?ofin ⟨Sm.refl _, _, _, _, _, rfl, m1, by omega, by omega, by omega, by omega, by omega⟩) ?opost)
  case opost =>
    rintro c st' ⟨sm, R, r, rfl, g⟩
    exact wpS_pure (h R st' sm g)
  case ofin =>
    rintro c st' ⟨sm, na, nb, out, mg, rfl, m, q1, q1', q2, q2', q3⟩
    omega
  case ostep =>
    intro x c st1 _ hx hI
    have sm1 := hI.1
    refine el4 c hI.2 fun na nb out mg hP => ?_
    have m := hP.1
    have q1 := hP.2.1
    have q1' := hP.2.2.1
    have q2 := hP.2.2.2.1
    have q2' := hP.2.2.2.2.1
    have q3 := hP.2.2.2.2.2
    clear hI hP
    dsimp only
    refine wpS_bind (wpS_mono (wpS_forRange (I := fun y c st' => Sm st st' ∧ ∃ na nb out ac bc, c = (none, na, nb, out, ac, bc) ∧ MH κ T out.toList.reverse (a.toList.take na) (b.toList.take nb) ∧ 0 < na ∧ na ≤ a.size ∧ 1 < nb ∧ nb ≤ b.size ∧ x + min y 1 + na + nb < a.size + b.size)
      (Q := fun c st' => Sm st st' ∧ ((∃ R r, c = (some R, r) ∧ Good κ T R) ∨ ∃ na nb out ac bc, c = (none, na, nb, out, ac, bc) ∧ MH κ T out.toList.reverse (a.toList.take na) (b.toList.take nb) ∧ 0 < na ∧ na ≤ a.size ∧ 1 < nb ∧ nb ≤ b.size ∧ x + 1 + na + nb < a.size + b.size))
      ?istep ?ifin ⟨sm1, _, _, _, _, _, rfl, m, q1, q1', q2, q2', by omega⟩) ?ipost)
    case ifin =>
      rintro c st' ⟨sm, na, nb, out, ac, bc, rfl, m, q1, q1', q2, q2', q3⟩
      exact ⟨sm, .inr ⟨na, nb, out, ac, bc, rfl, m, q1, q1', q2, q2', by omega⟩⟩
    case istep =>
      intro y c st2 _ hy hI
      have sm := hI.1
      refine el5 c hI.2 fun na nb out ac bc hP => ?_
      have m := hP.1
      have q1 := hP.2.1
      have q1' := hP.2.2.1
      have q2 := hP.2.2.2.1
      have q2' := hP.2.2.2.2.1
      have q3 := hP.2.2.2.2.2
      clear hI hP
      dsimp only
      obtain ⟨n, rfl⟩ : ∃ n, na = n + 1 := ⟨na - 1, by omega⟩
      obtain ⟨l, rfl⟩ : ∃ l, nb = l + 1 := ⟨nb - 1, by omega⟩
      obtain ⟨pb, eb⟩ := get_of_lt (xs := b) (i := l) (by omega)
      obtain ⟨pa, ea⟩ := get_of_lt (xs := a) (i := n) (by omega)
      refine wpS_bind (elem_ok eb (wpS_bind (elem_ok ea (wpS_bind (lt_ok hO (sm.k.trans hk) (kb _ _ eb) (ka _ _ ea) ?_)))))
      cases t : κ.blt (kk κ pb) (kk κ pa) with
      | true =>
        dsimp only
        rw [if_pos rfl]
        have tk : κ.kle (KK κ b l) (KK κ a n) := by rw [KK_of eb, KK_of ea]; exact KeyOrd.kle_of_klt t
        have m' := hm_a m ea fun j j1 j2 => KeyOrd.kle_trans (hB j l (by omega) (by omega)) tk
        refine wpS_bind (elem_ok ea ?_)
        by_cases z : n = 0
        · rw [if_pos (by simpa using z)]
          exact wpS_pure ⟨sm, .inl ⟨_, _, rfl, hf_a m' z⟩⟩
        · rw [if_neg (by simpa using z)]
          refine wpS_if (fun _ => ?_) fun _ => ?_
          · exact wpS_pure ⟨sm, .inr ⟨_, _, _, _, _, rfl, m', by omega, by omega, by omega, by omega, by omega⟩⟩
          · exact wpS_pure ⟨sm, _, _, _, _, _, rfl, m', by omega, by omega, by omega, by omega, by omega⟩
      | false =>
        dsimp only
        rw [if_neg Bool.false_ne_true]
        have tk : κ.kle (KK κ a n) (KK κ b l) := by rw [KK_of eb, KK_of ea]; exact t
        have m' := hm_b m eb fun j j1 j2 => KeyOrd.kle_trans (hA j n (by omega) (by omega)) tk
        refine wpS_bind (elem_ok eb ?_)
        by_cases z : l = 1
        · rw [if_pos (by simpa using z)]
          exact wpS_pure ⟨sm, .inl ⟨_, _, rfl, hf_f m' z hb hf⟩⟩
        · rw [if_neg (by simpa using z)]
          refine wpS_if (fun _ => ?_) fun _ => ?_
          · exact wpS_pure ⟨sm, .inr ⟨_, _, _, _, _, rfl, m', by omega, by omega, by omega, by omega, by omega⟩⟩
          · exact wpS_pure ⟨sm, _, _, _, _, _, rfl, m', by omega, by omega, by omega, by omega, by omega⟩
    case ipost =>
      intro c st2 hI
      have sm2 := hI.1
      refine eo5 c hI.2 (fun R r g => ?_) fun na nb out ac bc hP => ?_
      · exact wpS_pure ⟨sm2, R, _, rfl, g⟩
      have m := hP.1
      have q1 := hP.2.1
      have q1' := hP.2.2.1
      have q2 := hP.2.2.2.1
      have q2' := hP.2.2.2.2.1
      have q3 := hP.2.2.2.2.2
      clear hI hP
      dsimp only
      refine wpS_bind (wpS_lift (wpAny_rule ⟨rfl, ?_⟩))
      refine wpS_bind (wpS_mono (wpS_forRange (I := fun y c st' => Sm st st' ∧ ∃ na nb out mg ac bc, c = (none, na, nb, out, mg, ac, bc) ∧ MH κ T out.toList.reverse (a.toList.take na) (b.toList.take nb) ∧ 0 < na ∧ na ≤ a.size ∧ 1 < nb ∧ nb ≤ b.size ∧ x + 1 + na + nb < a.size + b.size)
        (Q := fun c st' => Sm st st' ∧ ((∃ R r, c = (some R, r) ∧ Good κ T R) ∨ ∃ na nb out mg ac bc, c = (none, na, nb, out, mg, ac, bc) ∧ MH κ T out.toList.reverse (a.toList.take na) (b.toList.take nb) ∧ 0 < na ∧ na ≤ a.size ∧ 1 < nb ∧ nb ≤ b.size ∧ x + 1 + na + nb < a.size + b.size))
        ?gstep ?gfin ⟨sm2, _, _, _, _, _, _, rfl, m, q1, q1', q2, q2', q3⟩) ?gpost)
      case gfin =>
        exact fun c st' hI => ⟨hI.1, .inr hI.2⟩
      case gpost =>
        intro c st3 hI
        have sm3 := hI.1
        refine eo6 c hI.2 (fun R r g => ?_) fun na nb out mg ac bc hP => ?_
        · exact wpS_pure ⟨sm3, R, _, rfl, g⟩
        dsimp only
        have m := hP.1
        have q1 := hP.2.1
        have q1' := hP.2.2.1
        have q2 := hP.2.2.2.1
        have q2' := hP.2.2.2.2.1
        have q3 := hP.2.2.2.2.2
        clear hI hP
        exact wpS_bind (wpS_modify (wpS_pure ⟨sm3.min _, _, _, _, _, rfl, m, q1, q1', q2, q2', by omega⟩))
      case gstep =>
        intro y c st3 _ hy hI
        have sm := hI.1
        refine el6 c hI.2 fun na nb out mg ac bc hP => ?_
        have m := hP.1
        have q1 := hP.2.1
        have q1' := hP.2.2.1
        have q2 := hP.2.2.2.1
        have q2' := hP.2.2.2.2.1
        have q3 := hP.2.2.2.2.2
        clear hI hP
        dsimp only
        obtain ⟨l, rfl⟩ : ∃ l, nb = l + 1 := ⟨nb - 1, by omega⟩
        obtain ⟨pb, eb⟩ := get_of_lt (xs := b) (i := l) (by omega)
        refine' wpS_ifS (P := _) ?A0 (fun _ H => ?A1) fun _ H => ?A2
        case A1 => generalize mg - 1 = z; revert z; exact H.out
        case A2 => exact H.out _
        intro mg
        refine wpS_bind (wpS_modify ?_)
        refine wpS_bind (elem_ok eb (wpS_bind (gallop_ok (bey_right hO (kb _ _ eb) ka (base := 0) (n := na) (by omega)) ((sm.min _).k.trans hk) (fun i j hij hj t => ?_) (by omega) fun k k1 k2 k3 => ?_)))
        · have t1 : κ.kle (KK κ a (0 + j)) (kk κ pb) := by simpa [KeyOrd.kle] using t
          have t2 := KeyOrd.kle_trans (hA (0 + i) (0 + j) (by omega) (by omega)) t1
          simpa [KeyOrd.kle] using t2
        dsimp only
        have lowk : ∀ i, i < k → κ.kle (KK κ a i) (KK κ b l) := fun i i1 => by
          have q := k2 i i1
          rw [Nat.zero_add] at q
          rw [KK_of eb]
          simpa [KeyOrd.kle] using q
        have upk : ∀ i, k ≤ i → i < na → κ.kle (KK κ b l) (KK κ a i) := fun i i1 i2 => by
          have q := k3 i i1 i2
          rw [Nat.zero_add] at q
          rw [KK_of eb]
          exact KeyOrd.kle_of_klt (show κ.blt _ _ = true by simpa using q)
        refine' wpS_ifS (P := _) ?B0 (fun kz H => ?B1) fun kz H => ?B2
        case B1 =>
          have mk := hb_a k1 m fun i i1 i2 _ j j1 j2 => KeyOrd.kle_trans (hB j l (by omega) (by omega)) (upk i i1 i2)
          by_cases w1 : k = 0
          · rw [if_pos (by simpa using w1)]
            exact wpS_pure ⟨sm.min _, .inl ⟨_, _, rfl, hf_a mk w1⟩⟩
          rw [if_neg (by simpa using w1)]
          have lo1 := lowk
          have p1 : 0 < k := by omega
          have p2 : k ≤ a.size := by omega
          have p3 : x + 1 + k + (l + 1) < a.size + b.size := by omega
          revert mk lo1 p1 p2 p3
          generalize out ++ (a.extract k na).reverse = out1
          generalize na - k = ac1
          generalize k = na1
          revert out1 ac1 na1
          exact H.out
        case B2 =>
          have k0 : k = na := by omega
          exact H.out _ _ _ m (fun i i1 => lowk i (by omega)) q1 q1' q3
        clear lowk upk k1 k2 k3 m q1 q1' q3
        intro out1 ac1 na1 m1 lo1 p1 p2 p3
        refine wpS_bind (elem_ok eb ?_)
        have m2 := hm_b m1 eb fun i i1 _ => lo1 i i1
        by_cases z : l = 1
        · rw [if_pos (by simpa using z)]
          exact wpS_pure ⟨sm.min _, .inl ⟨_, _, rfl, hf_f m2 z hb hf⟩⟩
        rw [if_neg (by simpa using z)]
        obtain ⟨n, rfl⟩ : ∃ n, na1 = n + 1 := ⟨na1 - 1, by omega⟩
        obtain ⟨pa, ea⟩ := get_of_lt (xs := a) (i := n) (by omega)
        refine wpS_bind (elem_ok ea (wpS_bind (gallop_ok (bey_left hO (ka _ _ ea) kb (base := 0) (n := l) (by omega)) ((sm.min _).k.trans hk) (fun i j hij hj t => ?_) (by omega) fun k2 l1 l2 l3 => ?_)))
        · exact KeyOrd.klt_of_kle_of_klt (hB (0 + i) (0 + j) (by omega) (by omega)) t
        dsimp only
        have low2 : ∀ j, j < k2 → κ.kle (KK κ b j) (KK κ a n) := fun j j1 => by
          have q := l2 j j1
          rw [Nat.zero_add] at q
          rw [KK_of ea]
          exact KeyOrd.kle_of_klt q
        have up2 : ∀ j, k2 ≤ j → j < l → κ.kle (KK κ a n) (KK κ b j) := fun j j1 j2 => by
          have q := l3 j j1 j2
          rw [Nat.zero_add] at q
          rw [KK_of ea]
          exact q
        refine' wpS_ifS (P := _) ?C0 (fun kz2 H => ?C1) fun kz2 H => ?C2
        case C1 =>
          have m3 := hb_b l1 m2 fun j j1 j2 _ i i1 i2 => KeyOrd.kle_trans (hA i n (by omega) (by omega)) (up2 j j1 j2)
          by_cases z2 : k2 = 1
          · rw [if_pos (by simpa using z2)]
            exact wpS_pure ⟨sm.min _, .inl ⟨_, _, rfl, hf_f m3 z2 hb hf⟩⟩
          rw [if_neg (by simpa using z2)]
          by_cases z4 : k2 = 0
          · rw [if_pos (by simpa using z4)]
            exact wpS_pure ⟨sm.min _, .inl ⟨_, _, rfl, hf_b m3 z4⟩⟩
          rw [if_neg (by simpa using z4)]
          have lo2 := low2
          have e1 : 1 < k2 := by omega
          have e2 : k2 ≤ b.size := by omega
          have e3 : x + 1 + n + k2 < a.size + b.size := by omega
          revert m3 lo2 e1 e2 e3
          generalize out1.push pb ++ (b.extract k2 (l + 1 - 1)).reverse = out2
          generalize l + 1 - 1 - k2 = bc2
          generalize k2 = nb2
          revert out2 bc2 nb2
          exact H.out
        case C2 =>
          have k0 : k2 = l := by omega
          exact H.out _ _ _ m2 (fun j j1 => low2 j (by omega)) (by omega) (by omega) (by omega)
        clear low2 up2 l1 l2 l3 m2 m1 p1 p3
        intro out2 bc2 nb2 m3 lo2 e1 e2 e3
        refine wpS_bind (elem_ok ea ?_)
        have m4 := hm_a m3 ea fun j j1 _ => lo2 j j1
        by_cases z3 : n = 0
        · rw [if_pos (by simpa using z3)]
          exact wpS_pure ⟨sm.min _, .inl ⟨_, _, rfl, hf_a m4 z3⟩⟩
        rw [if_neg (by simpa using z3)]
        have e4 : 0 < n := by omega
        have e5 : n ≤ a.size := by omega
        refine wpS_if (fun _ => ?_) fun _ => ?_
        · exact wpS_pure ⟨sm.min _, .inr ⟨_, _, _, _, _, _, rfl, m4, e4, e5, e1, e2, e3⟩⟩
        · exact wpS_pure ⟨sm.min _, _, _, _, _, _, _, rfl, m4, e4, e5, e1, e2, e3⟩
end
end Srt
set_option Elab.async false
set_option linter.all false
set_option maxRecDepth 100000
set_option maxHeartbeats 4000000
namespace Srt
open PySem PyProof.Rows
theorem write_blk : ∀ (m : List Keyed) (xs : Array Keyed) (sa j0 : Nat), sa + j0 + m.length ≤ xs.size →
    ((m.zipIdx j0).foldl (fun (a : Array Keyed) (q : Keyed × Nat) => a.setIfInBounds (sa + q.2) q.1) xs).toList = xs.toList.take (sa + j0) ++ m ++ xs.toList.drop (sa + j0 + m.length)
  | [], xs, sa, j0, h => by simp
  | p :: r, xs, sa, j0, h => by
    rw [List.length_cons] at h
    rw [List.zipIdx_cons, List.foldl_cons, write_blk r _ sa (j0 + 1) (by rw [Array.size_setIfInBounds]; omega)]
    have hl : xs.toList.length = xs.size := by simp
    rw [Array.toList_setIfInBounds]
    have e1 : (xs.toList.set (sa + j0) p).take (sa + (j0 + 1)) = xs.toList.take (sa + j0) ++ [p] := by
      rw [show sa + (j0 + 1) = sa + j0 + 1 by omega, List.take_add_one, List.take_set_of_le (Nat.le_refl _), List.getElem?_set_self (by omega)]
      rfl
    have e2 : (xs.toList.set (sa + j0) p).drop (sa + (j0 + 1) + r.length) = xs.toList.drop (sa + j0 + (p :: r).length) := by
      rw [List.drop_set_of_lt (by omega), List.length_cons]
      congr 1
      omega
    rw [e1, e2]
    simp
theorem SIn.pw {κ : KeyKind} {xs : Array Keyed} {lo n : Nat} (h : SIn κ xs lo n) : ((xs.toList.drop lo).take n).Pairwise (kL κ) := by
  rw [List.pairwise_iff_getElem]
  intro i j hi hj hij
  rw [List.length_take, List.length_drop] at hi hj
  have hl : xs.toList.length = xs.size := by simp
  have q := h i j (by omega) (by omega)
  have g : ∀ m, (hm : m < min n (xs.toList.length - lo)) → xs[lo + m]? = some (((xs.toList.drop lo).take n)[m]'(by rw [List.length_take, List.length_drop]; exact hm)) := fun m hm => by
    rw [List.getElem_take, List.getElem_drop, ← List.getElem?_eq_getElem (by omega)]
    simp
  rw [KK_of (g i hi), KK_of (g j hj)] at q
  exact q
section
variable {prog : Program} {w : World} {A : Around} {E : Value → Shared → Prop} {s : Shared} {κ : KeyKind} {kd : SortKind} {st : SortSt} {a₀ : Array Keyed} {n1 n2 pw : Nat}
theorem keyd_of {xs : Array Keyed} (hp : xs.Perm a₀) (h0 : KeysOf κ a₀) : Keyd κ xs := fun i p hi => by
  have hm : p ∈ a₀.toList := (Array.perm_iff_toList_perm.mp hp).mem_iff.mp (by
    have := Array.mem_of_getElem? hi
    simpa using this)
  exact h0 p hm
theorem keyd_ext {xs : Array Keyed} (h : Keyd κ xs) (i j : Nat) : Keyd κ (xs.extract i j) := fun m p hm => by
  rw [Array.getElem?_extract] at hm
  split at hm
  · exact h _ _ hm
  · cases hm
theorem KK_ext {xs : Array Keyed} {i j m : Nat} (hm : m < min j xs.size - i) : KK κ (xs.extract i j) m = KK κ xs (i + m) := by
  apply KK_congr
  rw [Array.getElem?_extract, if_pos hm]
theorem wpS_set {σ : Type} {M : Model} {x st : σ} {Q : PUnit → σ → Prop} (h : Q ⟨⟩ x) : wpS M A E s (set x : StateT σ Sem PUnit) Q st := by
  unfold wpS
  rw [StateT.run_set]
  exact wpAny_pure ⟨rfl, h⟩
theorem glue {L P X Y S M : List Keyed} (hL : L = P ++ X ++ (Y ++ S)) (hM : M.Perm (X ++ Y)) (sM : M.Pairwise (kL κ)) (sa : (P ++ X).Pairwise (kL κ)) (sb : (Y ++ S).Pairwise (kL κ)) (hPY : ∀ x ∈ P, ∀ y ∈ Y ++ S, kL κ x y) (hXS : ∀ x ∈ X, ∀ y ∈ S, kL κ x y) :
    (P ++ M ++ S).Perm L ∧ (P ++ M ++ S).Pairwise (kL κ) := by
  obtain ⟨p1, p2, p3⟩ := List.pairwise_append.mp sa
  obtain ⟨r1, r2, r3⟩ := List.pairwise_append.mp sb
  constructor
  · rw [hL]
    simp only [List.append_assoc]
    refine List.Perm.append_left P ?_
    rw [← List.append_assoc X]
    exact List.Perm.append_right S hM
  · refine List.pairwise_append.mpr ⟨List.pairwise_append.mpr ⟨p1, sM, fun x hx y hy => ?_⟩, r2, fun x hx y hy => ?_⟩
    · rcases List.mem_append.mp (hM.mem_iff.mp hy) with q | q
      · exact p3 x hx y q
      · exact hPY x hx y (List.mem_append_left _ q)
    · rcases List.mem_append.mp hx with q | q
      · exact hPY x q y (List.mem_append_right _ hy)
      · rcases List.mem_append.mp (hM.mem_iff.mp q) with q | q
        · exact hXS x q y hy
        · exact r3 x q y hy
theorem dt_split (l : List Keyed) {a b c : Nat} (h1 : a ≤ b) (h2 : b ≤ c) : (l.drop a).take (c - a) = (l.drop a).take (b - a) ++ (l.drop b).take (c - b) := by
  rw [show c - a = (b - a) + (c - b) by omega, List.take_add, List.drop_drop, show a + (b - a) = b by omega]
theorem all_split (l : List Keyed) {a b : Nat} (h1 : a ≤ b) : l = l.take a ++ (l.drop a).take (b - a) ++ l.drop b := by
  have e : (l.drop a).drop (b - a) = l.drop b := by rw [List.drop_drop, show a + (b - a) = b by omega]
  rw [List.append_assoc, ← e, List.take_append_drop, List.take_append_drop]
theorem get_blk {ys : Array Keyed} {T0 B T1 : List Keyed} (e : ys.toList = T0 ++ B ++ T1) {i : Nat} (hi : i < B.length) : ys[T0.length + i]? = some B[i] := by
  rw [← Array.getElem?_toList, e, List.append_assoc, List.getElem?_append_right (Nat.le_add_right ..), Nat.add_sub_cancel_left, List.getElem?_append_left hi, List.getElem?_eq_getElem hi]
theorem SIn.of_blk {ys : Array Keyed} {T0 B T1 : List Keyed} (e : ys.toList = T0 ++ B ++ T1) (h : B.Pairwise (kL κ)) : SIn κ ys T0.length B.length := by
  intro i j hij hj
  by_cases z : i = j
  · subst z; exact KeyOrd.kle_refl _
  rw [KK_of (get_blk e (Nat.lt_of_le_of_lt hij hj)), KK_of (get_blk e hj)]
  exact (List.pairwise_iff_getElem.mp h) i j (Nat.lt_of_le_of_lt hij hj) hj (Nat.lt_of_le_of_ne hij z)
theorem get_front {xs ys : Array Keyed} {B C T1 T2 : List Keyed} {n k : Nat} (e : xs.toList = xs.toList.take n ++ B ++ T1) (e' : ys.toList = xs.toList.take n ++ C ++ T2) (hn : n ≤ xs.size) (hk : k < n) : ys[k]? = xs[k]? := by
  have l : k < (xs.toList.take n).length := by rw [List.length_take, Array.length_toList]; omega
  rw [← Array.getElem?_toList, ← Array.getElem?_toList, e', List.append_assoc, List.getElem?_append_left l, List.getElem?_take_of_lt hk]
theorem get_back {xs ys : Array Keyed} {B C T0 T1 : List Keyed} {k : Nat} (e : xs.toList = T0 ++ B ++ T1) (e' : ys.toList = T0 ++ C ++ T1) (hl : C.length = B.length) (hk : T0.length + B.length ≤ k) : ys[k]? = xs[k]? := by
  rw [← Array.getElem?_toList, ← Array.getElem?_toList, e, e', List.getElem?_append_right (by rw [List.length_append]; omega), List.getElem?_append_right (by rw [List.length_append]; omega), List.length_append, List.length_append, hl]
theorem glue_at {xs ys : Array Keyed} {sa k sb m e : Nat} (a1 : sa ≤ k) (a2 : k ≤ sb) (a3 : sb + m ≤ e) (a4 : e ≤ xs.size) (s1 : SIn κ xs sa (sb - sa)) (s2 : SIn κ xs sb (e - sb))
    (lowk : ∀ i, sa ≤ i → i < k → κ.kle (KK κ xs i) (KK κ xs sb)) (upm : ∀ j, sb + m ≤ j → j < e → κ.kle (KK κ xs (sb - 1)) (KK κ xs j)) {R : List Keyed} (g1 : R.Perm ((xs.toList.drop k).take (sb - k) ++ (xs.toList.drop sb).take m)) (g2 : R.Pairwise (kL κ))
    (hy : ys.toList = xs.toList.take k ++ R ++ xs.toList.drop (sb + m)) : ys.Perm xs ∧ SIn κ ys sa (e - sa) ∧ (∀ i, i < sa → ys[i]? = xs[i]?) ∧ ∀ i, e ≤ i → ys[i]? = xs[i]? := by
  have hl : xs.toList.length = xs.size := by simp
  have dk : xs.toList.take k = xs.toList.take sa ++ (xs.toList.drop sa).take (k - sa) := take_blk xs a1
  have dm : xs.toList.drop (sb + m) = (xs.toList.drop (sb + m)).take (e - (sb + m)) ++ xs.toList.drop e := by
    have z := blk_drop xs (sb + m) (e - (sb + m))
    rwa [show sb + m + (e - (sb + m)) = e by omega] at z
  have ey : ys.toList = xs.toList.take sa ++ ((xs.toList.drop sa).take (k - sa) ++ R ++ (xs.toList.drop (sb + m)).take (e - (sb + m))) ++ xs.toList.drop e := by
    have z := hy.trans (congrArg (xs.toList.take k ++ R ++ ·) dm)
    rw [dk] at z
    simpa only [List.append_assoc] using z
  have sA : (xs.toList.drop sa).take (sb - sa) = (xs.toList.drop sa).take (k - sa) ++ (xs.toList.drop k).take (sb - k) := dt_split _ a1 a2
  have sB : (xs.toList.drop sb).take (e - sb) = (xs.toList.drop sb).take m ++ (xs.toList.drop (sb + m)).take (e - (sb + m)) := by
    have z := dt_split xs.toList (show sb ≤ sb + m by omega) a3
    rwa [show sb + m - sb = m by omega] at z
  have sM : (xs.toList.drop sa).take (e - sa) = (xs.toList.drop sa).take (k - sa) ++ (xs.toList.drop k).take (sb - k) ++ ((xs.toList.drop sb).take m ++ (xs.toList.drop (sb + m)).take (e - (sb + m))) := by
    rw [← sA, ← sB]
    exact dt_split _ (Nat.le_trans a1 a2) (by omega)
  have ex : xs.toList = xs.toList.take sa ++ (xs.toList.drop sa).take (e - sa) ++ xs.toList.drop e := all_split _ (by omega)
  have gl := glue (κ := κ) (L := (xs.toList.drop sa).take (e - sa)) (P := (xs.toList.drop sa).take (k - sa)) (X := (xs.toList.drop k).take (sb - k)) (Y := (xs.toList.drop sb).take m) (S := (xs.toList.drop (sb + m)).take (e - (sb + m))) (M := R)
    sM g1 g2 (by rw [← sA]; exact SIn.pw s1) (by rw [← sB]; exact SIn.pw s2)
    (fun x hx y hy => by
      rw [← sB] at hy
      obtain ⟨i, i1, i2, _, i4⟩ := mem_blk hx
      obtain ⟨j, j1, j2, _, j4⟩ := mem_blk hy
      have q := KeyOrd.kle_trans (lowk i i1 (by omega)) (s2 0 (j - sb) (Nat.zero_le _) (by omega))
      rw [show sb + (j - sb) = j by omega, KK_of i4, KK_of j4] at q
      exact q)
    (fun x hx y hy => by
      obtain ⟨i, i1, i2, _, i4⟩ := mem_blk hx
      obtain ⟨j, j1, j2, _, j4⟩ := mem_blk hy
      have q := s1 (i - sa) (sb - 1 - sa) (by omega) (by omega)
      rw [show sa + (i - sa) = i by omega, show sa + (sb - 1 - sa) = sb - 1 by omega] at q
      have q := KeyOrd.kle_trans q (upm j j1 (by omega))
      rw [KK_of i4, KK_of j4] at q
      exact q)
  have l0 : (xs.toList.take sa).length = sa := by rw [List.length_take]; omega
  have lM : ((xs.toList.drop sa).take (e - sa)).length = e - sa := by rw [List.length_take, List.length_drop]; omega
  have lN := gl.1.length_eq
  generalize (xs.toList.drop sa).take (k - sa) ++ R ++ (xs.toList.drop (sb + m)).take (e - (sb + m)) = N at ey gl lN
  generalize (xs.toList.drop sa).take (e - sa) = M at ex gl lN lM
  clear sM sA sB dk dm hy g1 g2 lowk upm s1 s2
  refine ⟨?_, ?_, fun i hi => get_front ex ey (by omega) hi, fun i hi => get_back ex ey lN (by omega)⟩
  · rw [Array.perm_iff_toList_perm, ey]
    exact (List.Perm.append_right _ (List.Perm.append_left _ gl.1)).trans (List.Perm.of_eq ex.symm)
  · have z := SIn.of_blk ey gl.2
    rwa [l0, lN, lM] at z
theorem mergeAt_ok {Q : Bool → SortSt → Prop} {i sa pv : Nat} (hO : LtOk κ kd prog w A s) (h0 : KeysOf κ a₀) (hk : kindOf st = kd) (hp : (arrOf st).Perm a₀) (hf : failedOf st = none) (e1 : (pendingOf st)[i]? = some (sa, n1, pw)) (e2 : (pendingOf st)[i + 1]? = some (sa + n1, n2, pv)) (hsz : sa + n1 + n2 ≤ a₀.size) (h1 : 0 < n1) (h2 : 0 < n2)
    (s1 : SIn κ (arrOf st) sa n1) (s2 : SIn κ (arrOf st) (sa + n1) n2) (h : ∀ st', (arrOf st').Perm a₀ → failedOf st' = none → pendingOf st' = ((pendingOf st).setIfInBounds i (sa, n1 + n2, pw)).eraseIdxIfInBounds (i + 1) → SIn κ (arrOf st') sa (n1 + n2) → (∀ j, j < sa → (arrOf st')[j]? = (arrOf st)[j]?) → (∀ j, sa + n1 + n2 ≤ j → (arrOf st')[j]? = (arrOf st)[j]?) → kindOf st' = kd → Q true st') : wpS (model prog w) A E s (mergeAt' i) Q st := by
  obtain ⟨kd', xs, pend, mg, fl⟩ := st
  change kd' = kd at hk
  change xs.Perm a₀ at hp
  change fl = none at hf
  change pend[i]? = _ at e1
  change pend[i + 1]? = _ at e2
  change SIn κ xs sa n1 at s1
  change SIn κ xs (sa + n1) n2 at s2
  subst hk hf
  rw [← hp.size_eq] at hsz
  have kd0 := keyd_of hp h0
  obtain ⟨sb, esb⟩ : ∃ sb, sb = sa + n1 := ⟨_, rfl⟩
  rw [← esb] at e2 s2 hsz
  obtain ⟨pb, eb⟩ := get_of_lt (xs := xs) (i := sb) (by omega)
  refine wpS_bind (wpS_get ?_)
  show wpS _ _ _ _ (match (pend[i]?, pend[i + 1]?) with | (some (sa, na, power), some (sb, nb, _)) => _ | _ => _) _ _
  rw [e1, e2]
  refine wpS_bind (wpS_set ?_)
  dsimp only
  refine wpS_bind (elem_ok eb (wpS_bind (gallop_ok (kd := kd') (bey_right (arr := xs) hO (kd0 _ _ eb) kd0 (base := sa) (n := n1) (by omega)) rfl (fun i j hij hj t => ?_) h1 fun k k1 k2 k3 => ?_)))
  · have t1 : κ.kle (KK κ xs (sa + j)) (kk κ pb) := by simpa [KeyOrd.kle] using t
    have t2 := KeyOrd.kle_trans (s1 i j hij hj) t1
    simpa [KeyOrd.kle] using t2
  dsimp only
  have eA : sb - sa = n1 := by omega
  have lowk : ∀ i, sa ≤ i → i < sa + k → κ.kle (KK κ xs i) (KK κ xs sb) := fun i i1 i2 => by
    have q := k2 (i - sa) (by omega)
    rw [show sa + (i - sa) = i by omega] at q
    rw [KK_of eb]
    simpa [KeyOrd.kle] using q
  have upk : k < n1 → κ.kle (KK κ xs sb) (KK κ xs (sa + k)) := fun z => by
    have q := k3 k (Nat.le_refl _) z
    rw [KK_of eb]
    exact KeyOrd.kle_of_klt (show κ.blt _ _ = true by simpa using q)
  have s1' : SIn κ xs sa (sb - sa) := by rw [eA]; exact s1
  have s2' : SIn κ xs sb (sb + n2 - sb) := by rw [Nat.add_sub_cancel_left]; exact s2
  have ee : sb + n2 - sa = n1 + n2 := by omega
  have hA : ∀ i, sa ≤ i → i < sb → κ.kle (KK κ xs i) (KK κ xs (sb - 1)) := fun i i1 i2 => by
    have q := s1 (i - sa) (n1 - 1) (by omega) (by omega)
    rwa [show sa + (i - sa) = i by omega, show sa + (n1 - 1) = sb - 1 by omega] at q
  have hB : ∀ j, sb ≤ j → j < sb + n2 → κ.kle (KK κ xs sb) (KK κ xs j) := fun j j1 j2 => by
    have q := s2 0 (j - sb) (Nat.zero_le _) (by omega)
    rwa [show sb + (j - sb) = j by omega] at q
  -- nothing to do: all is in order
  have calm : κ.kle (KK κ xs (sb - 1)) (KK κ xs sb) → SIn κ xs sa (n1 + n2) := fun hc => by
    have z := glue_at (κ := κ) (xs := xs) (ys := xs) (sa := sa) (k := sb) (sb := sb) (m := 0) (e := sb + n2) (by omega) (Nat.le_refl _) (by omega) hsz s1' s2' (fun i i1 i2 => KeyOrd.kle_trans (hA i i1 i2) hc) (fun j j1 j2 => KeyOrd.kle_trans hc (hB j (by omega) j2)) (R := []) (by simp) .nil (by simp)
    have y := z.2.1
    rwa [ee] at y
  by_cases z1 : n1 - k = 0
  · rw [if_pos (by simpa using z1)]
    exact wpS_pure (h _ hp rfl rfl (calm (lowk _ (by omega) (by omega))) (fun _ _ => rfl) (fun _ _ => rfl) rfl)
  rw [if_neg (by simpa using z1)]
  have eL : sa + k + (n1 - k) - 1 = sb - 1 := by omega
  rw [eL]
  obtain ⟨pa, ea⟩ := get_of_lt (xs := xs) (i := sb - 1) (by omega)
  refine wpS_bind (elem_ok ea (wpS_bind (gallop_ok (kd := kd') (bey_left (arr := xs) hO (kd0 _ _ ea) kd0 (base := sb) (n := n2) hsz) rfl (fun i j hij hj t => ?_) (by omega) fun m m1 m2 m3 => ?_)))
  · exact KeyOrd.klt_of_kle_of_klt (s2 i j hij hj) t
  dsimp only
  have lowm : 0 < m → κ.kle (KK κ xs (sb + (m - 1))) (KK κ xs (sb - 1)) := fun z => by
    have q := m2 (m - 1) (by omega)
    rw [KK_of ea]
    exact KeyOrd.kle_of_klt q
  have upm : ∀ j, sb + m ≤ j → j < sb + n2 → κ.kle (KK κ xs (sb - 1)) (KK κ xs j) := fun j j1 j2 => by
    have q := m3 (j - sb) (by omega) (by omega)
    rw [show sb + (j - sb) = j by omega] at q
    rw [KK_of ea]
    exact q
  by_cases z2 : m = 0
  · rw [if_pos (by simpa using z2)]
    exact wpS_pure (h _ hp rfl rfl (calm (upm _ (by omega) (by omega))) (fun _ _ => rfl) (fun _ _ => rfl) rfl)
  rw [if_neg (by simpa using z2)]
  -- the two blocks
  obtain ⟨kb, ekb⟩ : ∃ kb, kb = sa + k := ⟨_, rfl⟩
  rw [← ekb] at lowk upk
  rw [← ekb]
  have upk := upk (by omega)
  have lowm := lowm (by omega)
  have b1 : sa ≤ kb := by omega
  have b2 : kb < sb := by omega
  have zx : (xs.extract kb sb).size = sb - kb := by rw [Array.size_extract]; omega
  have zy : (xs.extract sb (sb + m)).size = m := by rw [Array.size_extract]; omega
  have b3 : n1 - k = sb - kb := by omega
  rw [b3]
  clear k2 k3 m2 m3 z1 b3 eL k1 ekb hA hB calm
  have kx := keyd_ext kd0 kb sb
  have ky := keyd_ext kd0 sb (sb + m)
  have KX : ∀ i, i < sb - kb → KK κ (xs.extract kb sb) i = KK κ xs (kb + i) := fun i hi => KK_ext (by omega)
  have KY : ∀ i, i < m → KK κ (xs.extract sb (sb + m)) i = KK κ xs (sb + i) := fun i hi => KK_ext (by omega)
  have sX : ∀ i j, i ≤ j → j < (xs.extract kb sb).size → κ.kle (KK κ (xs.extract kb sb) i) (KK κ (xs.extract kb sb) j) := fun i j hij hj => by
    rw [zx] at hj
    rw [KX i (by omega), KX j hj]
    have q := s1 (kb + i - sa) (kb + j - sa) (by omega) (by omega)
    rwa [show sa + (kb + i - sa) = kb + i by omega, show sa + (kb + j - sa) = kb + j by omega] at q
  have sY : ∀ i j, i ≤ j → j < (xs.extract sb (sb + m)).size → κ.kle (KK κ (xs.extract sb (sb + m)) i) (KK κ (xs.extract sb (sb + m)) j) := fun i j hij hj => by
    rw [zy] at hj
    rw [KY i (by omega), KY j hj]
    exact s2 i j hij (by omega)
  have f1 : κ.kle (KK κ (xs.extract sb (sb + m)) 0) (KK κ (xs.extract kb sb) 0) := by
    rw [KX 0 (by omega), KY 0 (by omega)]
    exact upk
  have f2 : κ.kle (KK κ (xs.extract sb (sb + m)) ((xs.extract sb (sb + m)).size - 1)) (KK κ (xs.extract kb sb) ((xs.extract kb sb).size - 1)) := by
    rw [zx, zy, KX _ (by omega), KY _ (by omega), show kb + (sb - kb - 1) = sb - 1 by omega]
    exact lowm
  have eX : (xs.extract kb sb).toList = (xs.toList.drop kb).take (sb - kb) := by
    have e := ext_blk xs kb (sb - kb)
    rwa [show kb + (sb - kb) = sb by omega] at e
  have eY : (xs.extract sb (sb + m)).toList = (xs.toList.drop sb).take m := ext_blk xs sb m
  have p1 : 0 < (xs.extract kb sb).size := by rw [zx]; omega
  have p2 : 0 < (xs.extract sb (sb + m)).size := by rw [zy]; omega
  -- behind the merge
  have behind : ∀ (R : Array Keyed) (st' : SortSt), Sm (SortSt.mk' kd' xs ((pend.setIfInBounds i (sa, n1 + n2, pw)).eraseIdxIfInBounds (i + 1)) mg none) st' → Good κ ((xs.extract kb sb).toList ++ (xs.extract sb (sb + m)).toList) R →
      Q true (setArr st' ((R.toList.zipIdx).foldl (fun (a : Array Keyed) (q : Keyed × Nat) => a.setIfInBounds (kb + q.2) q.1) (arrOf st'))) ∧ failedOf st' = none := by
    intro R st' sm g
    have ea1 : arrOf st' = xs := sm.a
    have zR : R.toList.length = sb - kb + m := by
      rw [g.1.length_eq, List.length_append, Array.length_toList, Array.length_toList, zx, zy]
    have W := write_blk R.toList xs kb 0 (by omega)
    rw [Nat.add_zero, zR, show kb + (sb - kb + m) = sb + m by omega] at W
    have gr := g.1
    rw [eX, eY] at gr
    have G := glue_at (κ := κ) b1 (Nat.le_of_lt b2) (show sb + m ≤ sb + n2 by omega) hsz s1' s2' lowk upm gr g.2 W
    refine ⟨?_, sm.f⟩
    rw [ea1]
    refine h _ (G.1.trans hp) sm.f sm.p ?_ G.2.2.1 (fun j hj => G.2.2.2 j (by omega)) sm.k
    have y := G.2.1
    rwa [ee] at y
  refine wpS_if (fun _ => ?_) fun _ => ?_
  · refine wpS_bind (mergeLo_ok (kd := kd') hO rfl kx ky sX sY p1 p2 f1 f2 fun R st' sm g => ?_)
    have q := behind R st' sm g
    refine wpS_bind (wpS_modify (wpS_bind (wpS_get (wpS_pure ?_))))
    show Q (failedOf st').isNone _
    rw [q.2]
    exact q.1
  · refine wpS_bind (mergeHi_ok (kd := kd') hO rfl kx ky sX sY p1 p2 f1 f2 fun R st' sm g => ?_)
    have q := behind R st' sm g
    refine wpS_bind (wpS_modify (wpS_bind (wpS_get (wpS_pure ?_))))
    show Q (failedOf st').isNone _
    rw [q.2]
    exact q.1
end
end Srt
set_option Elab.async false
set_option linter.all false
set_option maxRecDepth 100000
set_option maxHeartbeats 4000000
namespace Srt
open PySem PyProof.Rows
section
variable {prog : Program} {w : World} {A : Around} {E : Value → Shared → Prop} {s : Shared} {κ : KeyKind} {kd : SortKind} {st : SortSt} {a₀ : Array Keyed}
def Chain (κ : KeyKind) (xs : Array Keyed) : Nat → Nat → List (Nat × Nat × Nat) → Prop
  | a, b, [] => a = b
  | a, b, q :: r => q.1 = a ∧ 0 < q.2.1 ∧ SIn κ xs a q.2.1 ∧ Chain κ xs (a + q.2.1) b r
theorem SIn.at {xs ys : Array Keyed} {lo m : Nat} (h : SIn κ xs lo m) (e : ∀ k, lo ≤ k → k < lo + m → ys[k]? = xs[k]?) : SIn κ ys lo m := fun i j hij hj => by
  rw [KK_congr (ys := xs) (e (lo + i) (by omega) (by omega)), KK_congr (ys := xs) (e (lo + j) (by omega) (by omega))]
  exact h i j hij hj
theorem Chain.le : ∀ {l : List (Nat × Nat × Nat)} {xs : Array Keyed} {a b : Nat}, Chain κ xs a b l → a + l.length ≤ b
  | [], _, _, _, h => Nat.le_of_eq h
  | q :: r, _, _, _, ⟨_, p, _, h⟩ => by
    have := h.le
    rw [List.length_cons]
    omega
theorem Chain.congr : ∀ {l : List (Nat × Nat × Nat)} {xs ys : Array Keyed} {a b : Nat}, Chain κ xs a b l → (∀ k, a ≤ k → k < b → ys[k]? = xs[k]?) → Chain κ ys a b l
  | [], _, _, _, _, h, _ => h
  | q :: r, _, _, _, _, ⟨e, p, s, h⟩, z => by
    have l := h.le
    exact ⟨e, p, s.at fun k k1 k2 => z k k1 (by omega), h.congr fun k k1 k2 => z k (by omega) k2⟩
theorem Chain.split : ∀ {l m : List (Nat × Nat × Nat)} {xs : Array Keyed} {a b : Nat}, Chain κ xs a b (l ++ m) → ∃ c, Chain κ xs a c l ∧ Chain κ xs c b m
  | [], _, _, a, _, h => ⟨a, rfl, h⟩
  | q :: r, _, _, _, _, ⟨e, p, s, h⟩ => by
    obtain ⟨c, h1, h2⟩ := Chain.split h
    exact ⟨c, ⟨e, p, s, h1⟩, h2⟩
theorem Chain.app : ∀ {l m : List (Nat × Nat × Nat)} {xs : Array Keyed} {a b c : Nat}, Chain κ xs a c l → Chain κ xs c b m → Chain κ xs a b (l ++ m)
  | [], _, _, _, _, _, h, h' => by cases h; exact h'
  | q :: r, _, _, _, _, _, ⟨e, p, s, h⟩, h' => ⟨e, p, s, h.app h'⟩
theorem set_er (v x y : Nat × Nat × Nat) : ∀ (l m : List (Nat × Nat × Nat)), ((l ++ x :: y :: m).set l.length v).eraseIdx (l.length + 1) = l ++ v :: m
  | [], _ => rfl
  | a :: l, m => congrArg (a :: ·) (set_er v x y l m)
theorem cut2 : ∀ {l : List (Nat × Nat × Nat)} {i : Nat}, i + 1 < l.length → ∃ p x y m, l = p ++ x :: y :: m ∧ p.length = i
  | x :: y :: m, 0, _ => ⟨[], x, y, m, rfl, rfl⟩
  | x :: l, i + 1, h => by
    obtain ⟨p, a, b, m, e, z⟩ := cut2 (l := l) (i := i) (by simp only [List.length_cons] at h; omega)
    exact ⟨x :: p, a, b, m, by rw [e]; rfl, by rw [List.length_cons, z]⟩
  | [], _, h => by simp at h
  | [_], 0, h => by simp at h
structure Stk (κ : KeyKind) (kd : SortKind) (a₀ : Array Keyed) (lo : Nat) (st : SortSt) : Prop where
  perm : (arrOf st).Perm a₀
  kind : kindOf st = kd
  failed : failedOf st = none
  ch : Chain κ (arrOf st) 0 lo (pendingOf st).toList
theorem merge_stk {Q : Bool → SortSt → Prop} {i lo : Nat} (hO : LtOk κ kd prog w A s) (h0 : KeysOf κ a₀) (S : Stk κ kd a₀ lo st) (hlo : lo ≤ a₀.size) (hi : i + 1 < (pendingOf st).size)
    (h : ∀ st', Stk κ kd a₀ lo st' → (∀ j, lo ≤ j → (arrOf st')[j]? = (arrOf st)[j]?) → (pendingOf st').size + 1 = (pendingOf st).size → Q true st') : wpS (model prog w) A E s (mergeAt' i) Q st := by
  have C := S.ch
  obtain ⟨l, x, y, m, el, hl⟩ := cut2 (l := (pendingOf st).toList) (i := i) (by simpa using hi)
  rw [el] at C
  obtain ⟨c, c1, c2⟩ := C.split
  obtain ⟨x1, x2, x3⟩ := x
  obtain ⟨y1, y2, y3⟩ := y
  obtain ⟨e1, e2, e3, e4, e5, e6, e7⟩ := c2
  change x1 = c at e1
  change y1 = c + x2 at e4
  change 0 < x2 at e2
  change 0 < y2 at e5
  change SIn κ _ c x2 at e3
  change SIn κ _ (c + x2) y2 at e6
  change Chain κ _ (c + x2 + y2) lo m at e7
  subst e1 e4
  have le := e7.le
  refine mergeAt_ok (sa := x1) (n1 := x2) (n2 := y2) (pw := x3) (pv := y3) hO h0 S.kind S.perm S.failed ?_ ?_ (by omega) e2 e5 e3 e6 fun st' a1 a2 a3 a4 a5 a6 a7 => ?_
  · rw [← Array.getElem?_toList, el, List.getElem?_append_right (by omega), hl, Nat.sub_self]
    rfl
  · rw [← Array.getElem?_toList, el, List.getElem?_append_right (by omega), hl, show i + 1 - i = 1 by omega]
    rfl
  have ep : (pendingOf st').toList = l ++ (x1, x2 + y2, x3) :: m := by
    rw [a3, Array.toList_eraseIdxIfInBounds, Array.toList_setIfInBounds, el, ← hl]
    exact set_er _ _ _ l m
  refine h st' ⟨a1, a7, a2, ?_⟩ (fun j hj => a6 j (by omega)) ?_
  · rw [ep]
    exact (c1.congr fun k _ k2 => a5 k k2).app ⟨rfl, by show 0 < x2 + y2; omega, a4, by show Chain κ _ (x1 + (x2 + y2)) lo m; rw [← Nat.add_assoc]; exact e7.congr fun k k1 _ => a6 k k1⟩
  · rw [← Array.length_toList, ← Array.length_toList, ep, el]
    simp only [List.length_append, List.length_cons]
    omega
theorem ite_le {c : Prop} [Decidable c] {i n : Nat} (h : i + 1 < n) : (if c then i - 1 else i) + 1 < n := by
  split <;> omega
theorem last_mod {l : List (Nat × Nat × Nat)} {x : Nat × Nat × Nat} (f : Nat × Nat × Nat → Nat × Nat × Nat) : ∀ (l : List (Nat × Nat × Nat)), (l ++ [x]).modify l.length f = l ++ [f x]
  | [] => rfl
  | a :: l => congrArg (a :: ·) (last_mod f (l := l) l)
theorem runs_ok {Q : Unit → SortSt → Prop} (hO : LtOk κ kd prog w A s) (h0 : KeysOf κ a₀) (hB : SB kd a₀ a₀ 0 #[] st) (h2 : 2 ≤ a₀.size)
    (h : ∀ st', (arrOf st').Perm a₀ → failedOf st' = none → SIn κ (arrOf st') 0 a₀.size → Q () st') : wpS (model prog w) A E s sortRuns' Q st := by
  rw [sortRuns'_eq]
  refine wpS_bind (wpS_get ?_)
  dsimp only
  simp only [hB.size]
  generalize minRun' a₀.size a₀.size 0 = mr
  refine wpS_bind (wpS_mono (wpS_forRange (I := fun x c st' => ∃ lo, c = (none, lo) ∧ lo ≤ a₀.size ∧ (x ≤ lo ∨ lo = a₀.size) ∧ Stk κ kd a₀ lo st')
    (Q := fun c st' => c = (none, a₀.size) ∧ Stk κ kd a₀ a₀.size st') ?step ?fin ⟨0, rfl, Nat.zero_le _, .inl (Nat.le_refl _), hB.perm, hB.kind, hB.failed, by rw [hB.pend]; rfl⟩) ?post)
  case fin =>
    rintro c st' ⟨lo, rfl, l1, l2, S⟩
    have e : lo = a₀.size := by omega
    rw [e] at S ⊢
    exact ⟨rfl, S⟩
  case post =>
    rintro c st1 ⟨rfl, S⟩
    dsimp only
    refine wpS_bind (wpS_mono (wpS_forRange (I := fun x c st' => c = (none, ()) ∧ Stk κ kd a₀ a₀.size st' ∧ ((pendingOf st').size ≤ 1 ∨ (pendingOf st').size + x ≤ a₀.size)) (Q := fun c st' => c = (none, ()) ∧ Stk κ kd a₀ a₀.size st' ∧ (pendingOf st').size ≤ 1) ?lstep ?lfin ⟨rfl, S, ?linit⟩) ?lpost)
    case linit =>
      have l := S.ch.le
      rw [Array.length_toList] at l
      exact .inr (by omega)
    case lfin =>
      rintro c st' ⟨hc, S, z⟩
      exact ⟨hc, S, by omega⟩
    case lpost =>
      rintro c st' ⟨rfl, S, z⟩
      refine wpS_pure (h _ S.perm S.failed ?_)
      have C := S.ch
      have lz : (pendingOf st').toList.length ≤ 1 := by rw [Array.length_toList]; exact z
      generalize (pendingOf st').toList = l at C lz
      match l, C, lz with
      | [], C, _ => exact absurd C (by show ¬ 0 = a₀.size; omega)
      | [q], ⟨e, p, s, e'⟩, _ =>
        have e2 : q.2.1 = a₀.size := by have : 0 + q.2.1 = a₀.size := e'; omega
        rw [← e2]
        exact s
    case lstep =>
      rintro x c st2 _ hx ⟨rfl, S, z⟩
      refine wpS_bind (wpS_get ?_)
      refine wpS_if (fun y => wpS_pure ⟨rfl, S, y⟩) fun y => ?_
      refine wpS_bind (merge_stk hO h0 S (Nat.le_refl _) ?_ fun st3 S3 _ e3 => ?_)
      · exact ite_le (by omega)
      · refine wpS_if (fun z => absurd z (by simp)) fun _ => ?_
        exact wpS_pure ⟨rfl, S3, by omega⟩
  case step =>
    rintro x c st1 _ hx ⟨lo, rfl, l1, l2, S⟩
    dsimp only
    refine wpS_if (fun y => ?_) fun y => ?_
    · have e : lo = a₀.size := by omega
      rw [e] at S ⊢
      exact wpS_pure ⟨rfl, S⟩
    have B1 : SB kd a₀ (arrOf st1) lo (pendingOf st1) st1 := ⟨S.perm, S.kind, S.failed, rfl, fun _ _ => rfl⟩
    refine wpS_bind (count_ok hO h0 (by omega) (by omega) B1 fun m st2 B2 m1 m2 S2 => ?_)
    dsimp only
    refine' wpS_ifS (P := _) ?A0 (fun hlt H => ?A1) fun hlt H => ?A2
    case A2 =>
      have B3 := B2
      have S3 := S2
      have p1 : 0 < m := m1
      have p2 : lo + m ≤ a₀.size := by omega
      revert B3 S3 p1 p2
      generalize st2 = st3
      generalize m = n
      revert st3 n
      exact H.out
    case A1 =>
      refine wpS_bind (wpS_lift (wpAny_rule ⟨rfl, wpS_bind (bin_ok hO h0 (by omega) (by omega) B2 S2 fun st3 B3 S3 => ?_)⟩))
      refine wpS_if (fun z => absurd z (by simp)) fun _ => ?_
      exact H.out _ _ B3 S3 (by omega) (by omega)
    clear B2 S2 m1 m2
    intro st3 n B3 S3 p1 p2
    have T : Stk κ kd a₀ lo st3 := ⟨B3.perm, B3.kind, B3.failed, by rw [B3.pend]; exact S.ch.congr fun k _ k2 => B3.low k k2⟩
    clear S B1 B3
    refine wpS_bind (wpS_get ?_)
    cases hb : (pendingOf st3).back? with
    | none =>
      have e : pendingOf st3 = #[] := by simpa using hb
      dsimp only
      refine wpS_bind (wpS_modify (wpS_pure ⟨_, rfl, p2, by omega, T.perm, T.kind, T.failed, ?_⟩))
      show Chain κ (arrOf st3) 0 (lo + n) ((pendingOf st3).push (lo, n, 0)).toList
      rw [Array.toList_push]
      exact T.ch.app ⟨rfl, p1, S3, rfl⟩
    | some q =>
      obtain ⟨q1, q2, q3⟩ := q
      dsimp only
      have ne : 0 < (pendingOf st3).size := by
        by_cases z : (pendingOf st3).size = 0
        · rw [Array.eq_empty_of_size_eq_zero z] at hb
          cases hb
        · omega
      refine wpS_bind (wpS_mono (wpS_forRange (I := fun x c st' => c = (none, ()) ∧ Stk κ kd a₀ lo st' ∧ (∀ j, lo ≤ j → (arrOf st')[j]? = (arrOf st3)[j]?) ∧ 0 < (pendingOf st').size) (Q := fun c st' => c = (none, ()) ∧ Stk κ kd a₀ lo st' ∧ (∀ j, lo ≤ j → (arrOf st')[j]? = (arrOf st3)[j]?) ∧ 0 < (pendingOf st').size) ?a ?b ⟨rfl, T, fun _ _ => rfl, ne⟩) ?c)
      case b => exact fun c st' h => h
      case a =>
        rintro x c st4 _ _ ⟨rfl, T4, k4, n4⟩
        refine wpS_bind (wpS_get ?_)
        by_cases z : (pendingOf st4).size > 1
        · rw [if_pos z]
          obtain ⟨r, er⟩ : ∃ r, (pendingOf st4)[(pendingOf st4).size - 2]? = some r := ⟨_, Array.getElem?_eq_getElem (by omega)⟩
          rw [er]
          obtain ⟨r1, r2, r3⟩ := r
          dsimp only
          refine wpS_if (fun y => wpS_pure ⟨rfl, T4, k4, n4⟩) fun y => ?_
          refine wpS_bind (merge_stk hO h0 T4 l1 (by omega) fun st5 T5 k5 e5 => ?_)
          refine wpS_if (fun z => absurd z (by simp)) fun _ => ?_
          exact wpS_pure ⟨rfl, T5, fun j hj => (k5 j hj).trans (k4 j hj), by omega⟩
        · rw [if_neg z]
          exact wpS_pure ⟨rfl, T4, k4, n4⟩
      case c =>
        rintro c st4 ⟨rfl, T4, k4, n4⟩
        dsimp only
        refine wpS_bind (wpS_modify (wpS_bind (wpS_modify (wpS_pure ⟨_, rfl, p2, by omega, T4.perm, T4.kind, T4.failed, ?_⟩))))
        show Chain κ (arrOf st4) 0 (lo + n) (((pendingOf st4).modify ((pendingOf st4).size - 1) _).push (lo, n, 0)).toList
        rw [Array.toList_push, Array.toList_modify]
        have C := T4.ch
        have lz : (pendingOf st4).toList.length = (pendingOf st4).size := Array.length_toList
        rw [← lz] at n4 ⊢
        obtain ⟨l, y, el⟩ : ∃ l y, (pendingOf st4).toList = l ++ [y] := ⟨_, _, (List.dropLast_concat_getLast (List.ne_nil_of_length_pos n4)).symm⟩
        rw [el] at C ⊢
        rw [List.length_append, List.length_singleton, Nat.add_sub_cancel, last_mod (l := l)]
        obtain ⟨c, c1, c2, c3, c4, c5⟩ := C.split
        exact (c1.app (m := [(y.1, y.2.1, power' a₀.size (2 * q1 + q2) (2 * q1 + q2 + q2 + n) a₀.size)]) ⟨c2, c3, c4, c5⟩).app (m := [(lo, n, 0)]) ⟨rfl, p1, S3.at fun k k1 _ => k4 k k1, rfl⟩
end
end Srt
set_option Elab.async false
set_option linter.all false
set_option maxRecDepth 100000
set_option maxHeartbeats 4000000
namespace Srt
open PySem PySem.W PyProof.Rows
end Srt
set_option Elab.async false
set_option linter.all false
set_option maxRecDepth 100000
set_option maxHeartbeats 4000000
namespace Srt
open PySem PySem.W PyProof.Rows
def lexlt : List Int → List Int → Bool
  | _, [] => false
  | [], _ :: _ => true
  | a :: x, b :: y => decide (a < b) || (decide (a = b) && lexlt x y)
theorem lexlt_irrefl : ∀ x, lexlt x x = false
  | [] => rfl
  | a :: x => by simp [lexlt, lexlt_irrefl x]
theorem lexlt_trans : ∀ x y z, lexlt x y = true → lexlt y z = true → lexlt x z = true
  | _, _, [], _, h => by simp [lexlt] at h
  | _, [], _ :: _, h, _ => by simp [lexlt] at h
  | [], _ :: _, _ :: _, _, _ => rfl
  | a :: x, b :: y, c :: z, h, k => by
    simp only [lexlt, Bool.or_eq_true, Bool.and_eq_true, decide_eq_true_eq] at h k ⊢
    rcases h with h | ⟨h, h'⟩ <;> rcases k with k | ⟨k, k'⟩
    · left; omega
    · left; omega
    · left; omega
    · right; exact ⟨by omega, lexlt_trans x y z h' k'⟩
theorem lexlt_neg : ∀ x y z, lexlt x z = true → lexlt x y = true ∨ lexlt y z = true
  | _, _, [], h => by simp [lexlt] at h
  | _, [], _ :: _, _ => .inr rfl
  | [], _ :: _, _ :: _, _ => .inl rfl
  | a :: x, b :: y, c :: z, h => by
    simp only [lexlt, Bool.or_eq_true, Bool.and_eq_true, decide_eq_true_eq] at h ⊢
    rcases h with h | ⟨h, h'⟩
    · by_cases e : a < b
      · exact .inl (.inl e)
      · exact .inr (.inl (by omega))
    · rcases lexlt_neg x y z h' with q | q
      · by_cases e : a < b
        · exact .inl (.inl e)
        · by_cases e' : a = b
          · exact .inl (.inr ⟨e', q⟩)
          · exact .inr (.inl (by omega))
      · by_cases e : a < b
        · exact .inl (.inl e)
        · by_cases e' : b = c
          · exact .inr (.inr ⟨e', q⟩)
          · exact .inr (.inl (by omega))
theorem lexlt_total : ∀ x y, lexlt x y = false → lexlt y x = false → x = y
  | [], [], _, _ => rfl
  | [], _ :: _, h, _ => by simp [lexlt] at h
  | _ :: _, [], _, h => by simp [lexlt] at h
  | a :: x, b :: y, h, k => by
    simp only [lexlt, Bool.or_eq_false_iff, Bool.and_eq_false_iff, decide_eq_false_iff_not] at h k
    have e : a = b := by omega
    subst e
    rw [lexlt_total x y (by simpa using h.2) (by simpa using k.2)]
abbrev IntsV (ns : List Int) (us : List Value) : Prop := Paired (fun (i : Int) (u : Value) => ∃ t, u = Value.int i t) ns us
theorem IntsV.inj : ∀ {ns ms : List Int} {us : List Value}, IntsV ns us → IntsV ms us → ns = ms
  | _, _, _, .nil, .nil => rfl
  | _, _, _, .cons ⟨t, e⟩ r, .cons ⟨t', e'⟩ r' => by
    rw [e] at e'
    cases e'
    rw [IntsV.inj r r']
def TupI (g : Heap) (v : Value) (ns : List Int) : Prop := ∃ a ob its n, v = Value.ref a ∧ g.get? a = some ob ∧ ob.cls = .type "tuple" ∧ ob.data = .seq its n ∧ IntsV ns its.toList
theorem TupI.inj {g : Heap} {v : Value} {ns ms : List Int} (x : TupI g v ns) (y : TupI g v ms) : ns = ms := by
  obtain ⟨a, ob, its, n, rfl, e, _, d, p⟩ := x
  obtain ⟨a', ob', its', n', e', q, _, d', p'⟩ := y
  cases e'
  rw [e] at q
  cases q
  rw [d] at d'
  cases d'
  exact p.inj p'
theorem TupI.to {g g' : Heap} {v : Value} {ns : List Int} (x : TupI g v ns) (k : ∀ b u, v = .ref b → g.get? b = some u → g'.get? b = some u) : TupI g' v ns := by
  obtain ⟨a, ob, its, n, rfl, e, r⟩ := x
  exact ⟨a, ob, its, n, rfl, k a ob rfl e, r⟩
open Classical in
noncomputable def κT (g : Heap) : KeyKind where
  α := List Int
  blt := lexlt
  irrefl := lexlt_irrefl
  trans := lexlt_trans
  negTrans := lexlt_neg
  total := lexlt_total
  keyOf v := if h : ∃ ns, TupI g v ns then some h.choose else none
  dflt := []
open Classical in
theorem κT_key {g : Heap} {v : Value} {ns : List Int} (x : TupI g v ns) : (κT g).keyOf v = some ns := by
  have h : ∃ ns, TupI g v ns := ⟨ns, x⟩
  show (if h : ∃ ns, TupI g v ns then some h.choose else none) = some ns
  rw [dif_pos h, h.choose_spec.inj x]
open Classical in
theorem κT_of {g : Heap} {v : Value} {ns : List Int} (e : (κT g).keyOf v = some ns) : TupI g v ns := by
  have e' : (if h : ∃ ns, TupI g v ns then some h.choose else none) = some ns := e
  by_cases h : ∃ ns, TupI g v ns
  · rw [dif_pos h] at e'
    rw [← Option.some.inj e']
    exact h.choose_spec
  · rw [dif_neg h] at e'
    cases e'
section
variable {prog : Program} {w : World} {A : Around} {E : Value → Shared → Prop} {s : Shared}
theorem lex_ok {b fin : Bool} {Q : Bool → Shared → Prop} : ∀ {ns ms : List Int} {us vs : List Value} (i : Nat), IntsV ns us → IntsV ms vs → fin = decide (ns.length < ms.length) → Q (lexlt ns ms) s → KatLex prog w A b fin Q (us.zip vs) i s
  | [], [], _, _, i, .nil, .nil, e, q => by rw [e]; exact kat_nil q
  | [], _ :: _, _, _, i, .nil, .cons _ _, e, q => by rw [e]; exact kat_nil (show Q (decide (0 < _ + 1)) s by simpa [lexlt] using q)
  | _ :: _, [], _, _, i, .cons _ _, .nil, e, q => by rw [e]; exact kat_nil (by simpa [lexlt] using q)
  | n :: ns, m :: ms, _, _, i, .cons ⟨t, e1⟩ r, .cons ⟨t', e2⟩ r', e, q => by
    subst e1 e2
    refine kat_cons (wpAny_eqBool_int (kat_go (fun z => kat_yes ?_) fun z => kat_no ?_))
    · have z' : n = m := by simpa using z
      refine lex_ok (i + 1) r r' (by rw [e]; simp) ?_
      have l : lexlt (n :: ns) (m :: ms) = lexlt ns ms := by simp [lexlt, z']
      rw [← l]
      exact q
    · have z' : n ≠ m := by simpa using z
      have l : lexlt (n :: ns) (m :: ms) = decide (n < m) := by simp [lexlt, z']
      rw [l] at q
      cases hb : (b && i == 0) with
      | true => exact oneLt_int q
      | false => exact kat_one _ _ (lt_int q)
theorem ltT_ok {h₁ : Heap} {b : Bool} (kp : ∀ v ns, TupI h₁ v ns → TupI s.heap v ns) : LtOk (κT h₁) (tuples' b) prog w A s := by
  intro E x y ka kb Q st hk ha hb q
  obtain ⟨a, ob, its, n, e1, g1, _, d1, p1⟩ := kp _ _ (κT_of ha)
  obtain ⟨a', ob', its', n', e2, g2, _, d2, p2⟩ := kp _ _ (κT_of hb)
  rw [lt'_eq]
  refine wpS_bind (wpS_get ?_)
  rw [hk, e1, e2]
  have l1 : ka.length = its.size := by rw [p1.length]; simp
  have l2 : kb.length = its'.size := by rw [p2.length]; simp
  refine wpS_bind (wpS_lift (wpAny_attempt (kat_lt g1 d1 g2 d2 (lex_ok (ns := ka) (ms := kb) 0 p1 p2 (by rw [l1, l2]) ⟨rfl, ?_⟩))))
  exact wpS_pure q
theorem map2_pairs : ∀ {l : List Keyed}, (∀ p ∈ l, p.1 = p.2) → (l.map (·.2)).zip (l.map (·.2)) = l
  | [], _ => rfl
  | p :: l, h => by
    have e : p.1 = p.2 := h p (List.mem_cons_self ..)
    show (p.2, p.2) :: (l.map (·.2)).zip (l.map (·.2)) = _
    rw [map2_pairs fun q hq => h q (List.mem_cons_of_mem _ hq)]
    congr 1
    exact Prod.ext e.symm rfl
theorem mem_zip_self : ∀ {l : List Value} {p : Keyed}, p ∈ l.zip l → p.1 = p.2 ∧ p.2 ∈ l
  | [], p, h => by simp at h
  | v :: l, p, h => by
    rcases List.mem_cons.mp (show p ∈ (v, v) :: l.zip l from h) with e | e
    · rw [e]; exact ⟨rfl, List.mem_cons_self ..⟩
    · exact ⟨(mem_zip_self e).1, List.mem_cons_of_mem _ (mem_zip_self e).2⟩
theorem map2_zip : ∀ {l : List Value}, (l.zip l).map (·.2) = l
  | [] => rfl
  | v :: l => by show v :: (l.zip l).map (·.2) = _; rw [map2_zip]
theorem back_pairs {xs : Array Keyed} {vs : List Value} (hp : xs.Perm (pairsOf vs)) : xs = pairsOf (xs.toList.map (·.2)) ∧ (xs.toList.map (·.2)).Perm vs := by
  have hp' : xs.toList.Perm (vs.zip vs) := by
    have := Array.perm_iff_toList_perm.mp hp
    rw [pairsOf_toList] at this
    exact this
  refine ⟨?_, ?_⟩
  · apply Array.ext'
    rw [pairsOf_toList, map2_pairs fun p hq => (mem_zip_self (hp'.mem_iff.mp hq)).1]
  · have := hp'.map (·.2)
    rw [map2_zip] at this
    exact this
theorem sort_at {κ : KeyKind} {kd : SortKind} {a : Addr} {vs : List Value} {n : Nat} {P : Fin → Shared → Prop} (ho : s.heap.get? a = some (seqObj "list" vs.toArray n)) (h0 : KeysOf κ (pairsOf vs)) (hl : vs.length < 1000)
    (hk : 2 ≤ vs.length → ∀ g : Heap, (∀ b u, b ≠ a → s.heap.get? b = some u → g.get? b = some u) → LtOk κ kd prog w A { s with heap := g } ∧ ∀ R : SortKind → Shared → Prop, R kd { s with heap := g } → wpAny (model prog w) A (keyKind' vs.toArray) R E { s with heap := g })
    (h : ∀ (ws : List Value) (g : Heap) (c : Nat), ws.Perm vs → SortedToK κ (pairsOf ws) ws.length → (∀ b u, b ≠ a → s.heap.get? b = some u → g.get? b = some u) → g.get? a = some (seqObj "list" ws.toArray c) → P (.done (.ret .none)) { s with heap := g }) :
    wpAny (model prog w) A (Builtin.«list.sort» ⟨[.ref a], []⟩) P E s := by
  have lt0 : a < s.heap.objs.size := Heap.lt_size ho
  have k1 : ∀ b u, b ≠ a → s.heap.get? b = some u → (s.heap.update a (Obj.mapSeq fun _ => #[])).get? b = some u := fun b u ne e => by rw [Heap.get?_update_ne _ _ _ _ ne]; exact e
  obtain ⟨c1, g1⟩ : ∃ c1, (s.heap.update a (Obj.mapSeq fun _ => #[])).get? a = some (seqObj "list" #[] c1) := ⟨_, get?_update_seq ho _⟩
  generalize hg1 : s.heap.update a (Obj.mapSeq fun _ => #[]) = G1 at k1 g1
  have k2 : ∀ b u, b ≠ a → s.heap.get? b = some u → ((G1.push (seqObj "tuple" vs.toArray 0)).push (seqObj "list" #[] 0)).get? b = some u := fun b u ne e => Heap.get?_push_of_some _ (Heap.get?_push_of_some _ (k1 b u ne e))
  have g2 : ((G1.push (seqObj "tuple" vs.toArray 0)).push (seqObj "list" #[] 0)).get? a = some (seqObj "list" #[] c1) := Heap.get?_push_of_some _ (Heap.get?_push_of_some _ g1)
  rw [list_sort_plain]
  refine wpAny_bind (listItems_at ho rfl (wpAny_bind (listUpdate_at ho rfl ?_ (hsz := by rw [List.size_toArray, sizeLine_eq]; omega))))
  rw [hg1]
  refine wpAny_bind (seqEpoch_at g1 rfl (wpAny_bind (wpAny_newTuple ?_ (by show vs.length ≤ _; rw [sizeLine_eq]; omega))))
  refine wpAny_bind (wpAny_newList (wpAny_holding ?_))
  show wpAny (model prog w) A _ P E { s with heap := (G1.push (seqObj "tuple" vs.toArray 0)).push (seqObj "list" #[] 0) }
  generalize (G1.push (seqObj "tuple" vs.toArray 0)).push (seqObj "list" #[] 0) = G2 at k2 g2
  dsimp only
  have fin : ∀ st' : SortSt, (arrOf st').Perm (pairsOf vs) → SortedToK κ (arrOf st') (pairsOf vs).size → P (.done (.ret .none)) { s with heap := G2.update a (Obj.mapSeq fun _ => (arrOf st').map (·.2)) } := fun st' hp hs => by
    obtain ⟨e, p⟩ := back_pairs hp
    obtain ⟨c3, g3⟩ : ∃ c3, (G2.update a (Obj.mapSeq fun _ => (arrOf st').map (·.2))).get? a = some (seqObj "list" ((arrOf st').map (·.2)) c3) := ⟨_, get?_update_seq g2 _⟩
    refine h ((arrOf st').toList.map (·.2)) _ c3 p ?_ (fun b u ne z => by rw [Heap.get?_update_ne _ _ _ _ ne]; exact k2 b u ne z) ?_
    · rw [← e]
      have l2 : (pairsOf vs).size = ((arrOf st').toList.map (·.2)).length := by rw [pairsOf_size, p.length_eq]
      rw [← l2]
      exact hs
    · rw [g3]
      congr 2
      apply Array.ext'
      simp
  by_cases h2 : vs.toArray.size < 2
  · rw [if_pos h2, if_pos h2]
    refine wpAny_bind (wpAny_pure ?_)
    rw [StateT.run_pure]
    refine wpAny_bind (wpAny_pure ?_)
    dsimp only
    refine wpAny_bind (seqEpoch_at g2 rfl (wpAny_bind (listUpdate_at g2 rfl ?_ (hsz2 := by rw [Array.size_map]; show (pairsOf vs).size ≤ _; rw [pairsOf_size, sizeLine_eq]; omega))))
    simp only [bne_self_eq_false, Bool.false_eq_true, if_false]
    refine wpAny_pure (fin (SortSt.mk' general' (vs.toArray.zip vs.toArray) #[] 7 none) (Array.Perm.refl _) fun i j ij jl => ?_)
    have e : i = j := by
      rw [pairsOf_size] at jl
      simp only [List.size_toArray] at h2
      omega
    rw [e]
    exact KeyOrd.kle_refl _
  · have h2' : 2 ≤ vs.length := by simpa using h2
    obtain ⟨lo, kk⟩ := hk h2' G2 k2
    rw [if_neg h2, if_neg h2]
    refine wpAny_bind (kk _ ?_)
    refine wpAny_bind (wpAny_mono (runs_ok (κ := κ) (kd := kd) (a₀ := pairsOf vs) (st := SortSt.mk' kd (vs.toArray.zip vs.toArray) #[] 7 none) (Q := fun _ st' => (arrOf st').Perm (pairsOf vs) ∧ failedOf st' = none ∧ SortedToK κ (arrOf st') (pairsOf vs).size)
      lo h0 ⟨Array.Perm.refl _, rfl, rfl, rfl, fun k z => absurd z (Nat.not_lt_zero _)⟩ (by rw [pairsOf_size]; exact h2') fun st' a1 a2 a3 => ⟨a1, a2, fun i j ij jl => by
        have := a3 i j ij jl
        rw [Nat.zero_add, Nat.zero_add] at this
        exact this⟩) ?_ fun _ _ e => e)
    rintro ⟨⟨⟩, st'⟩ s' ⟨rfl, hp, hf, hs⟩
    dsimp only
    refine wpAny_bind (seqEpoch_at g2 rfl (wpAny_bind (listUpdate_at g2 rfl ?_ (hsz2 := by refine Nat.le_trans (Nat.le_of_eq ((Array.size_map ..).trans (hp.size_eq.trans (pairsOf_size _)))) ?_; rw [sizeLine_eq]; omega))))
    rw [hf]
    simp only [bne_self_eq_false, Bool.false_eq_true, if_false]
    exact wpAny_pure (fin st' hp hs)
end
end Srt
set_option Elab.async false
set_option linter.all false
set_option maxRecDepth 100000
set_option maxHeartbeats 4000000
namespace L2
open PySem PySem.W PyProof.Rows Srt
theorem intsV_of : ∀ {ns : List Int} {us : List Value}, Vals (ns.map V.int) us → IntsV ns us
  | [], _, .nil => .nil
  | n :: ns, _, .cons r t => .cons r (intsV_of t)
noncomputable def keyA (g : Heap) (a : Addr) : List Int := (show Option (List Int) from (κT g).keyOf (.ref a)).getD []
theorem keyA_eq {g : Heap} {a : Addr} {k : List Int} (x : TupI g (.ref a) k) : keyA g a = k := by
  unfold keyA
  rw [κT_key x]
  rfl
def unref : Value → Addr
  | .ref a => a
  | _ => (0 : Nat)
section
variable {X : Cx} {pins : List (Addr × Obj)} {σ : St} {H : Hp} {s : Shared}
theorem tupI_of (I : Inv X pins σ H s) {a : Addr} {ns : List Int} (h : H a = some (.tup (ns.map V.int))) : TupI s.heap (.ref a) ns := by
  obtain ⟨its, r, ⟨o, e, c, n, d⟩, _⟩ := I.tuple (SqT.of h)
  exact ⟨a, o, _, n, rfl, e, c, d, intsV_of r⟩
theorem looks_int {M : Model} {h : Heap} {i : Int} {t : Tok} : Looks M h (typeOf (.int i t)) (Value.type "int") := Looks.now
theorem tups_of {g : Heap} : ∀ {as : List Addr} {ks : List (List Int)}, Paired (fun a k => TupI g (.ref a) k ∧ k ≠ []) as ks → ∃ fs : List Value, KatTups g (as.map .ref) fs ∧ fs.length = as.length ∧ ∀ v ∈ fs, ∃ i t, v = Value.int i t
  | _, _, .nil => ⟨[], trivial, rfl, fun _ h => nomatch h⟩
  | a :: as, k :: ks, .cons ⟨⟨a', o, its, n, e, g1, c, d, p⟩, ne⟩ r => by
    cases e
    obtain ⟨fs, t, l, z⟩ := tups_of r
    cases k with
    | nil => exact absurd rfl ne
    | cons i k =>
      obtain ⟨il⟩ := its
      cases p with
      | cons r1 r2 =>
        obtain ⟨tk, rfl⟩ := r1
        refine ⟨_ :: fs, KatTups.cons g1 c d rfl t, by simp [l], fun v hv => ?_⟩
        rcases List.mem_cons.mp hv with e | e
        · exact ⟨i, tk, e⟩
        · exact z v e
theorem sort_new {L : Addr} {A : Around} {E : Value → Shared → Prop} {as : List Addr} {ks : List (List Int)} {P : Fin → Shared → Prop} (ho : s.heap.get? L = some (seqObj "list" (as.map Value.ref).toArray 0)) (hT : Paired (fun a k => TupI s.heap (.ref a) k ∧ k ≠ []) as ks) (hl : as.length < 1000)
    (h : ∀ (bs : List Addr) (ns : List (List Int)) (g : Heap) (c : Nat), bs.Perm as → ns.Perm ks → ns.Pairwise (fun x y => lexlt y x = false) → Paired (fun a k => TupI s.heap (.ref a) k) bs ns → (∀ b u, b ≠ L → s.heap.get? b = some u → g.get? b = some u) → g.get? L = some (seqObj "list" (bs.map Value.ref).toArray c) →
      P (.done (.ret .none)) { s with heap := g }) : wpAny (model X.prog X.w) A (Builtin.«list.sort» ⟨[.ref L], []⟩) P E s := by
  have neL : ∀ v ns, TupI s.heap v ns → v ≠ .ref L := fun v ns x e => by
    obtain ⟨a, o, its, n, rfl, g1, c, _⟩ := x
    cases e
    rw [ho] at g1
    cases g1
    exact absurd (show Value.type "list" = Value.type "tuple" from c) (by decide)
  have lenk : as.length = ks.length := hT.length
  have kp : ∀ g : Heap, (∀ b u, b ≠ L → s.heap.get? b = some u → g.get? b = some u) → ∀ v ns, TupI s.heap v ns → TupI g v ns := fun g k v ns x => x.to fun b u e z => k b u (fun q => neL v ns x (by rw [e, q])) z
  have memk : ∀ v ∈ as.map Value.ref, ∃ k, TupI s.heap v k := fun v hv => by
    obtain ⟨a, ha, rfl⟩ := List.mem_map.mp hv
    clear h ho neL kp hl lenk hv
    induction hT with
    | nil => cases ha
    | cons r _ ih =>
      rcases List.mem_cons.mp ha with e | e
      · rw [e]; exact ⟨_, r.1⟩
      · exact ih e
  refine sort_at (κ := κT s.heap) (kd := tuples' true) ho (fun p hp => ?_) (by rw [List.length_map]; exact hl) (fun l2 g k => ⟨ltT_ok (kp g k), fun R hR => ?_⟩) fun ws g c pw sw k gL => ?_
  · rw [pairsOf_toList] at hp
    obtain ⟨e1, e2⟩ := Srt.mem_zip_self hp
    obtain ⟨kk, x⟩ := memk p.2 e2
    rw [e1]
    exact ⟨kk, κT_key x⟩
  · have hT' : Paired (fun a k => TupI g (.ref a) k ∧ k ≠ []) as ks := Paired.mapP hT fun a b z => ⟨kp g k _ _ z.1, z.2⟩
    obtain ⟨fs, t, l, z⟩ := tups_of hT'
    by_cases e0 : fs = []
    · rw [e0] at l
      rw [List.length_map] at l2
      simp at l
      omega
    · refine kat_kind (T := Value.type "int") t (List.length_pos_iff.mpr e0) (fun v hv => ?_) (by decide) ?_
      · obtain ⟨i, tk, rfl⟩ := z v hv
        exact looks_int
      · have e : (Value.type "int" != Value.type "tuple") = true := by decide
        rw [e]
        exact hR
  · -- the values are refs again, the keys a permutation
    have unr : ∀ l : List Value, (∀ v ∈ l, ∃ a, v = Value.ref a) → (l.map unref).map Value.ref = l := fun l hl => by
      induction l with
      | nil => rfl
      | cons v l ih =>
        obtain ⟨a, rfl⟩ := hl v (List.mem_cons_self ..)
        rw [List.map_cons, List.map_cons, ih fun v hv => hl v (List.mem_cons_of_mem _ hv)]
        rfl
    have eb : (ws.map unref).map Value.ref = ws := unr ws fun v hv => by
      obtain ⟨a, _, rfl⟩ := List.mem_map.mp (pw.mem_iff.mp hv)
      exact ⟨a, rfl⟩
    have pb : (ws.map unref).Perm as := by
      have := pw.map unref
      rw [List.map_map] at this
      have e : (as.map (unref ∘ Value.ref)) = as := by
        rw [show (unref ∘ Value.ref) = id from rfl, List.map_id]
      rw [e] at this
      exact this
    generalize ws.map unref = bs at eb pb
    subst eb
    have ek : ks = as.map (keyA s.heap) := by
      clear h ho neL kp hl lenk memk pw sw pb
      induction hT with
      | nil => rfl
      | cons r _ ih => rw [List.map_cons, keyA_eq r.1, ← ih]
    have kb : ∀ b ∈ bs, TupI s.heap (.ref b) (keyA s.heap b) := fun b hb => by
      obtain ⟨k, x⟩ := memk (.ref b) (List.mem_map.mpr ⟨b, pb.mem_iff.mp hb, rfl⟩)
      rw [keyA_eq x]
      exact x
    refine h bs (bs.map (keyA s.heap)) g c pb (by rw [ek]; exact pb.map _) ?_ ?_ k gL
    · rw [List.pairwise_iff_getElem]
      intro i j hi hj ij
      rw [List.length_map] at hi hj
      have z := sw i j (Nat.le_of_lt ij) (by rw [List.length_map]; exact hj)
      have kk : ∀ m (hm : m < bs.length), KK (κT s.heap) (pairsOf (bs.map Value.ref)) m = keyA s.heap bs[m] := fun m hm => by
        have e : (pairsOf (bs.map Value.ref))[m]? = some (Value.ref bs[m], Value.ref bs[m]) := by simp [pairsOf, hm]
        unfold KK
        rw [e]
        rfl
      rw [kk i hi, kk j hj] at z
      rw [List.getElem_map, List.getElem_map]
      exact z
    · clear h ho neL kp hl lenk memk pw sw pb gL
      induction bs with
      | nil => exact .nil
      | cons b bs ih => exact .cons (kb b (List.mem_cons_self ..)) (ih fun b hb => kb b (List.mem_cons_of_mem _ hb))
end
end L2
set_option Elab.async false
set_option linter.all false
set_option maxRecDepth 100000
set_option maxHeartbeats 4000000
namespace L2
open PySem PySem.W PyProof.Rows
section
variable {X : Cx}
theorem all_ints {ns ms : List Int} {us vs : List Value} (r : Vals (ns.map V.int) us) (r' : Vals (ms.map V.int) vs) (hl : ns.length = ms.length) : (List.range us.length).all (fun j => decide (ns[j]? = ms[j]?)) = decide (ns = ms) := by
  have e1 : us.length = ns.length := by rw [← r.length]; simp
  rw [e1]
  by_cases h : ns = ms
  · subst h; simp
  · rw [decide_eq_false h, Bool.eq_false_iff]
    intro z
    apply h
    rw [List.all_eq_true] at z
    apply List.ext_getElem? 
    intro i
    by_cases hi : i < ns.length
    · exact of_decide_eq_true (z i (List.mem_range.mpr hi))
    · rw [List.getElem?_eq_none (by omega), List.getElem?_eq_none (by omega)]
theorem eqAt_ints {A : Around} {s : Shared} {ns ms : List Int} {us vs : List Value} (r : Vals (ns.map V.int) us) (r' : Vals (ms.map V.int) vs) (j : Nat) (h1 : j < us.toArray.size) (h2 : j < vs.toArray.size) : SeqAt.EqAt A s us.toArray[j] vs.toArray[j] (decide (ns[j]? = ms[j]?)) := by
  have l1 := r.length
  have l2 := r'.length
  simp only [List.length_map, List.size_toArray] at l1 l2 h1 h2
  obtain ⟨u, e1, t1, q1⟩ := r.get (i := j) (x := V.int (ns[j]'(by omega))) (by rw [List.getElem?_map, List.getElem?_eq_getElem (by omega)]; rfl)
  obtain ⟨u', e2, t2, q2⟩ := r'.get (i := j) (x := V.int (ms[j]'(by omega))) (by rw [List.getElem?_map, List.getElem?_eq_getElem (by omega)]; rfl)
  have g1 : us.toArray[j] = u := by
    have : us[j]? = some us.toArray[j] := by simp [h1]
    rw [this] at e1
    exact Option.some.inj e1
  have g2 : vs.toArray[j] = u' := by
    have : vs[j]? = some vs.toArray[j] := by simp [h2]
    rw [this] at e2
    exact Option.some.inj e2
  rw [g1, g2, q1, q2]
  have e : decide (ns[j]? = ms[j]?) = (ns[j]'(by omega) == ms[j]'(by omega)) := by
    rw [List.getElem?_eq_getElem (by omega), List.getElem?_eq_getElem (by omega), Bool.beq_eq_decide_eq]
    simp
  rw [e]
  exact SeqAt.EqAt.int_int _ _ _ _
theorem call_isinst : CallR X (.builtin "isinstance") (fun xs H Q => ∃ x t c b, xs = [x, V.ty c] ∧ TyOf X.K H x t ∧ PySem.W.kitOne X.K t (.type c) = some b ∧ Q (.bl b) H) := by
  intro pins s σ H xs us Q I r h
  obtain ⟨x, t, c, b, rfl, ty, e, q⟩ := h
  obtain ⟨u, u', rfl, rx, rc⟩ := vals2 r
  cases rc
  exact isinst_ok I rx ty e fun tk => ⟨.bl b, H, I.tok _, rfl, q⟩
end
theorem star_sub {a b : Expr} {pos : Pos} {rest : List Expr} {env : Env} : starEach (.Subscript a b pos :: rest) env = (false, eval (.Subscript a b pos) env) :: starEach rest env := rfl
theorem star_call {f : Expr} {args : List Expr} {ks : List Keyword} {pos : Pos} {rest : List Expr} {env : Env} : starEach (.Call f args ks pos :: rest) env = (false, eval (.Call f args ks pos) env) :: starEach rest env := rfl
theorem star_bin {a b : Expr} {op : Operator} {pos : Pos} {rest : List Expr} {env : Env} : starEach (.BinOp a op b pos :: rest) env = (false, eval (.BinOp a op b pos) env) :: starEach rest env := rfl
theorem star_comp {e : Expr} {gs : List Comprehension} {sc : Scope} {pos : Pos} {rest : List Expr} {env : Env} : starEach (.ListComp e gs sc pos :: rest) env = (false, eval (.ListComp e gs sc pos) env) :: starEach rest env := rfl
theorem star_tup {es : List Expr} {k : Nat} {pos : Pos} {rest : List Expr} {env : Env} : starEach (.Tuple es k pos :: rest) env = (false, eval (.Tuple es k pos) env) :: starEach rest env := rfl
section
variable {X : Cx} {es : List Expr} {te : TE} {t : TA} {pos : Pos}
theorem pa_sub {a b : Expr} (ha : PE X (.Subscript a b pos) te) (hr : PA X es t) : PA X (.Subscript a b pos :: es) (tCons te t) := pa_cons ha hr (hs := star_sub)
theorem pa_call {f : Expr} {args : List Expr} {ks : List Keyword} (ha : PE X (.Call f args ks pos) te) (hr : PA X es t) : PA X (.Call f args ks pos :: es) (tCons te t) := pa_cons ha hr (hs := star_call)
theorem pa_bin {a b : Expr} {op : Operator} (ha : PE X (.BinOp a op b pos) te) (hr : PA X es t) : PA X (.BinOp a op b pos :: es) (tCons te t) := pa_cons ha hr (hs := star_bin)
theorem pa_comp {e : Expr} {gs : List Comprehension} {sc : Scope} (ha : PE X (.ListComp e gs sc pos) te) (hr : PA X es t) : PA X (.ListComp e gs sc pos :: es) (tCons te t) := pa_cons ha hr (hs := star_comp)
theorem pa_tup {xs : List Expr} {k : Nat} (ha : PE X (.Tuple xs k pos) te) (hr : PA X es t) : PA X (.Tuple xs k pos :: es) (tCons te t) := pa_cons ha hr (hs := star_tup)
theorem star_cst {c : Const} {k : Nat} {pos : Pos} {rest : List Expr} {env : Env} : starEach (.Constant c k pos :: rest) env = (false, eval (.Constant c k pos) env) :: starEach rest env := rfl
theorem star_nam {x : Str} {pos : Pos} {rest : List Expr} {env : Env} : starEach (.Name x pos :: rest) env = (false, eval (.Name x pos) env) :: starEach rest env := rfl
theorem pa_cst {c : Const} {k : Nat} (ha : PE X (.Constant c k pos) te) (hr : PA X es t) : PA X (.Constant c k pos :: es) (tCons te t) := pa_cons ha hr (hs := star_cst)
theorem pa_nam {x : Str} (ha : PE X (.Name x pos) te) (hr : PA X es t) : PA X (.Name x pos :: es) (tCons te t) := pa_cons ha hr (hs := star_nam)
end
end L2
set_option Elab.async false
set_option linter.all false
set_option maxRecDepth 100000
set_option maxHeartbeats 4000000
namespace Srt
open PySem PySem.W PyProof.Rows
def SeqK (b : Bool) (g : Heap) (l : Addr) (xs : Array Value) : Prop := match b with
  | true => g.IsTuple l xs
  | false => g.IsList l xs
def ItK (b : Bool) (g : Heap) (it l : Addr) (i : Nat) : Prop := match b with
  | true => g.IsTupleIter it l i
  | false => g.IsListIter it l i
def itO (b : Bool) (l : Addr) : Obj := match b with
  | true => { cls := .type "tuple_iterator", data := .fields #[.ref l, .int 0 0] }
  | false => { cls := .type "list_iterator", data := .fields #[.ref l, .int 0 0] }
theorem SeqK.to {b : Bool} {g g' : Heap} {l : Addr} {xs : Array Value} (x : SeqK b g l xs) (k : ∀ o, g.get? l = some o → g'.get? l = some o) : SeqK b g' l xs := by
  cases b
  · exact Heap.IsList.at x k
  · exact Heap.IsTuple.at x k
theorem ItK.to {b : Bool} {g g' : Heap} {it l : Addr} {i : Nat} (x : ItK b g it l i) (k : ∀ o, g.get? it = some o → g'.get? it = some o) : ItK b g' it l i := by
  cases b
  · exact Heap.IsListIter.at x k
  · obtain ⟨o, e, r⟩ := (show g.IsTupleIter it l i from x)
    exact ⟨o, k o e, r⟩
theorem ItK.lt {b : Bool} {g : Heap} {it l : Addr} {i : Nat} (x : ItK b g it l i) : ∃ o, g.get? it = some o ∧ ∀ v, o.data ≠ .cell v := by
  cases b
  · obtain ⟨o, e, c, d⟩ := (show g.IsListIter it l i from x)
    exact ⟨o, e, fun v z => by rw [d] at z; cases z⟩
  · obtain ⟨o, e, c, d⟩ := (show g.IsTupleIter it l i from x)
    exact ⟨o, e, fun v z => by rw [d] at z; cases z⟩
section
variable {prog : Program} {w : World} {A : Around} {E : Value → Shared → Prop} {s : Shared}
theorem nextK_item {b : Bool} {it l : Addr} {i : Nat} {xs : Array Value} {x : Value} {Q : Value → Shared → Prop} (hit : ItK b s.heap it l i) (hl : SeqK b s.heap l xs) (hx : xs[i]? = some x)
    (q : ∀ g, ItK b g it l (i + 1) → Heap.SameBut it s.heap g → Q x { s with heap := g }) : wpAny (model prog w) A (Builtin.SmallTypes.nextOf (.ref it)) Q E s := by
  cases b
  · exact wpAny_nextOf_list_item hit hl hx q
  · have ty : s.TypeIs (.ref it) "tuple_iterator" := by
      obtain ⟨o, e, c, _⟩ := (show s.heap.IsTupleIter it l i from hit)
      exact ⟨o, e, c⟩
    obtain ⟨o, e, c, d⟩ := (show s.heap.IsTupleIter it l i from hit)
    obtain ⟨o2, e2, _, n2, d2⟩ := (show s.heap.IsTuple l xs from hl)
    unfold Builtin.SmallTypes.nextOf; refine wpAny_bind (wpAny_callSpecial?_slot (name := Str.ofString "__next__") ty F.slot_tuple_iterator_next (wpAny_call_entry F.slot_tuple_iterator_next ty F.entry_tuple_iterator_next ?_ (F.args_tuple_iterator_next_1 _)))
    show wpAny _ _ (field (.ref it) 0 >>= _) _ _ s; refine wpAny_bind (wpAny_field e d (x := .ref l) rfl ?_)
    show wpAny _ _ (if (Value.ref l == Value.none) = true then _ else _) _ _ s; rw [if_neg (show ¬ ((Value.ref l == Value.none) = true) from Bool.false_ne_true)]
    show wpAny _ _ (field (.ref it) 1 >>= _) _ _ s; refine wpAny_bind (wpAny_field e d (x := .int i 0) rfl ?_)
    show wpAny _ _ (seqItems? (.ref l) >>= _) _ _ s; refine wpAny_bind (wpAny_seqItems e2 d2 ?_)
    simp only [Int.toNat_natCast, hx]
    refine wpAny_bind (wpAny_setField e d (by simp) (wpAny_pure ⟨x, rfl, wpAny_pure (q _ ?_ (Heap.SameBut.update ..))⟩))
    exact (show Heap.IsTupleIter _ it l (i + 1) from ⟨_, Heap.get?_update_self _ e (Obj.isFreed_of_fields (Obj.data_mapFields d _)), (Obj.cls_mapFields ..).trans c, by rw [Obj.data_mapFields d]; simp [rawInt]⟩)
theorem nextK_end {b : Bool} {it l : Addr} {i : Nat} {xs : Array Value} {Q : Value → Shared → Prop} (hh : A.handled = none) (hit : ItK b s.heap it l i) (hl : SeqK b s.heap l xs) (hx : xs[i]? = none)
    (q : ∀ g e, Heap.ExtBut it s.heap g → (∃ o, g.get? e = some o ∧ o.cls = .type "StopIteration") → E (.ref e) { s with heap := g }) : wpAny (model prog w) A (Builtin.SmallTypes.nextOf (.ref it)) Q E s := by
  cases b
  · exact wpAny_nextOf_list_end hh hit hl hx q
  · have ty : s.TypeIs (.ref it) "tuple_iterator" := by
      obtain ⟨o, e, c, _⟩ := (show s.heap.IsTupleIter it l i from hit)
      exact ⟨o, e, c⟩
    obtain ⟨o, e, c, d⟩ := (show s.heap.IsTupleIter it l i from hit)
    obtain ⟨o2, e2, _, n2, d2⟩ := (show s.heap.IsTuple l xs from hl)
    unfold Builtin.SmallTypes.nextOf; refine wpAny_bind (wpAny_callSpecial?_slot (name := Str.ofString "__next__") ty F.slot_tuple_iterator_next (wpAny_call_entry F.slot_tuple_iterator_next ty F.entry_tuple_iterator_next ?_ (F.args_tuple_iterator_next_1 _)))
    show wpAny _ _ (field (.ref it) 0 >>= _) _ _ s; refine wpAny_bind (wpAny_field e d (x := .ref l) rfl ?_)
    show wpAny _ _ (if (Value.ref l == Value.none) = true then _ else _) _ _ s; rw [if_neg (show ¬ ((Value.ref l == Value.none) = true) from Bool.false_ne_true)]
    show wpAny _ _ (field (.ref it) 1 >>= _) _ _ s; refine wpAny_bind (wpAny_field e d (x := .int i 0) rfl ?_)
    show wpAny _ _ (seqItems? (.ref l) >>= _) _ _ s; refine wpAny_bind (wpAny_seqItems e2 d2 ?_)
    simp only [Int.toNat_natCast, hx]; refine wpAny_bind (wpAny_rule (wpAny_bind (wpAny_setField e d (by simp) ?_)))
    show wpAny _ _ (newExc (.type "StopIteration") [] >>= _) _ _ _; refine wpAny_bind ?_
    simp only [newExc, newTuple]; refine wpAny_bind (wpAny_newObj_type ?_ (by size_fits))
    refine wpAny_bind (m := firstArgMember _ _) (wpAny_of_eq (a := Value.none) (by first | rfl | (simp only [firstArgMember]; rfl)) (wpAny_newObj_type ?_ (by size_fits)))
    simp only [raiseNew]; refine wpAny_bind (wpAny_handled ?_)
    rw [show A.in1.handled = none from hh]; refine wpAny_bind (wpAny_pure (wpAny_throw ?_))
    exact q _ _ (((Heap.SameBut.update ..).extBut.push _).push _) ⟨_, Heap.get?_push_size _ rfl, rfl⟩
structure ZA (z ti to i1 i2 : Addr) : Prop where
  a1 : ti ≠ z
  a2 : to ≠ z
  a3 : i1 ≠ z
  a4 : i2 ≠ z
  a5 : ti ≠ to
  a6 : ti ≠ i1
  a7 : ti ≠ i2
  a8 : to ≠ i1
  a9 : to ≠ i2
  a10 : i1 ≠ i2
def Off (z to i1 i2 l : Addr) : Prop := l ≠ z ∧ l ≠ to ∧ l ≠ i1 ∧ l ≠ i2
theorem zipK_item {b1 b2 : Bool} {z ti to i1 i2 l1 l2 : Addr} {k : Nat} {xs ys : Array Value} {x y a b : Value} {Q : Value → Shared → Prop} (D : ZA z ti to i1 i2) (o1 : Off z to i1 i2 l1) (o2 : Off z to i1 i2 l2)
    (hz : IsZip s.heap z ti to .none) (hTI : IsPair s.heap ti (.ref i1) (.ref i2)) (hTO : IsPair s.heap to a b) (h1 : ItK b1 s.heap i1 l1 k) (h2 : ItK b2 s.heap i2 l2 k) (hl1 : SeqK b1 s.heap l1 xs) (hl2 : SeqK b2 s.heap l2 ys) (hx : xs[k]? = some x) (hy : ys[k]? = some y)
    (q : ∀ g, IsZip g z ti to (rawInt s.heap.objs.size) → IsPair g to x y → ItK b1 g i1 l1 (k + 1) → ItK b2 g i2 l2 (k + 1) → IsPair g s.heap.objs.size x y → (∀ c o, c ≠ z → c ≠ to → c ≠ i1 → c ≠ i2 → s.heap.get? c = some o → g.get? c = some o) → Q (.ref s.heap.objs.size) { s with heap := g }) :
    wpAny (model prog w) A (Builtin.«zip.__next__» ⟨[.ref z], []⟩) (fun fin s' => ∃ v, fin = .done (.ret v) ∧ Q v s') E s := by
  show wpAny _ _ (field (.ref z) 2 >>= _) _ _ _; refine wpAny_bind (wpAny_field hz rfl (x := .bool false) rfl ?_)
  show wpAny _ _ (field (.ref z) 3 >>= _) _ _ _; refine wpAny_bind (wpAny_field hz rfl (x := .ref ti) rfl (wpAny_bind (wpAny_seqItems hTI rfl ?_)))
  show wpAny _ _ (Builtin.SmallTypes.ownedTupleIsFree (.ref z) >>= _) _ _ _; refine wpAny_bind ?_
  unfold Builtin.SmallTypes.ownedTupleIsFree; refine wpAny_bind (wpAny_field hz rfl (x := .none) rfl (wpAny_pure ?_))
  simp only [if_true]; refine wpAny_bind (wpAny_rule (wpAny_bind (wpAny_field hz rfl (x := .ref to) rfl (wpAny_bind (wpAny_setField_rec hz (by simp) fun g1 z1 e1 => ?_)))))
  replace z1 : IsZip g1 z ti to .ellipsis := z1
  refine wpAny_bind ?_; simp only [List.zipIdx_cons, List.zipIdx_nil, List.forIn_cons, List.forIn_nil]
  refine wpAny_bind (wpAny_bind (wpAny_onRaise ?_)); show wpAny _ _ (Builtin.SmallTypes.nextOf (.ref i1) >>= _) _ _ _
  refine wpAny_bind (nextK_item (h1.to fun o e => e1.extBut _ _ D.a3 e) (hl1.to fun o e => e1.extBut _ _ o1.1 e) hx fun g2 n2 e2 => wpAny_pure ?_)
  have t2 : IsPair g2 to a b := e2.extBut _ _ D.a8 (e1.extBut _ _ D.a2 hTO)
  refine wpAny_bind (wpAny_seqItems t2 rfl (wpAny_bind (wpAny_updateSeq_pair t2 fun g3 t3 e3 => ?_)))
  replace t3 : IsPair g3 to x b := t3
  refine wpAny_bind (wpAny_letGo (wpAny_pure (wpAny_bind (wpAny_bind (wpAny_onRaise ?_))))); show wpAny _ _ (Builtin.SmallTypes.nextOf (.ref i2) >>= _) _ _ _
  refine wpAny_bind (nextK_item (((h2.to fun o e => e1.extBut _ _ D.a4 e).to fun o e => e2.extBut _ _ (Ne.symm D.a10) e).to fun o e => e3.extBut _ _ (Ne.symm D.a9) e) (((hl2.to fun o e => e1.extBut _ _ o2.1 e).to fun o e => e2.extBut _ _ o2.2.2.1 e).to fun o e => e3.extBut _ _ o2.2.1 e) hy fun g4 n4 e4 => wpAny_pure ?_)
  have t4 : IsPair g4 to x b := e4.extBut _ _ D.a9 t3
  refine wpAny_bind (wpAny_seqItems t4 rfl (wpAny_bind (wpAny_updateSeq_pair t4 fun g5 t5 e5 => ?_)))
  replace t5 : IsPair g5 to x y := t5
  refine wpAny_bind (wpAny_letGo (wpAny_pure (wpAny_pure (wpAny_bind (wpAny_seqItems t5 rfl (wpAny_bind (wpAny_newTuple ?_)))))))
  have sz : g5.objs.size = s.heap.objs.size := by rw [e5.1, e4.1, e3.1, e2.1, e1.1]
  have z5 : IsZip g5 z ti to .ellipsis := e5.extBut _ _ (Ne.symm D.a2) (e4.extBut _ _ (Ne.symm D.a4) (e3.extBut _ _ (Ne.symm D.a2) (e2.extBut _ _ (Ne.symm D.a3) z1)))
  have k5 : ∀ c o, c ≠ z → c ≠ to → c ≠ i1 → c ≠ i2 → s.heap.get? c = some o → g5.get? c = some o := fun c o c1 c2 c3 c4 e => e5.extBut _ _ c2 (e4.extBut _ _ c4 (e3.extBut _ _ c2 (e2.extBut _ _ c3 (e1.extBut _ _ c1 e))))
  have n15 : ItK b1 g5 i1 l1 (k + 1) := ((n2.to fun o e => e3.extBut _ _ (Ne.symm D.a8) e).to fun o e => e4.extBut _ _ D.a10 e).to fun o e => e5.extBut _ _ (Ne.symm D.a8) e
  have n25 : ItK b2 g5 i2 l2 (k + 1) := n4.to fun o e => e5.extBut _ _ (Ne.symm D.a9) e
  show wpAny _ _ (Builtin.SmallTypes.ownedTupleHandOut (.ref z) (.ref g5.objs.size) >>= _) _ _ _; refine wpAny_bind ?_
  unfold Builtin.SmallTypes.ownedTupleHandOut
  have z6 : IsZip (g5.push { cls := .type "tuple", data := .seq #[x, y] }) z ti to .ellipsis := Heap.get?_push_of_some _ z5
  refine wpAny_bind (wpAny_setField_rec z6 (by simp) fun g7 z7 e7 => ?_)
  replace z7 : IsZip g7 z ti to (rawInt g5.objs.size) := z7
  refine wpAny_setField_rec z7 (by simp) fun g8 z8 e8 => ?_
  replace z8 : IsZip g8 z ti to (rawInt g5.objs.size) := z8
  have up : ∀ c o, c ≠ z → g5.get? c = some o → g8.get? c = some o := fun c o c1 e => e8.extBut _ _ c1 (e7.extBut _ _ c1 (Heap.get?_push_of_some _ e))
  have zlt : z < g5.objs.size := Heap.lt_size z5
  have p8 : IsPair g8 g5.objs.size x y := e8.extBut _ _ (Nat.ne_of_gt zlt) (e7.extBut _ _ (Nat.ne_of_gt zlt) (Heap.get?_push_size _ rfl))
  rw [sz] at z8 p8
  refine wpAny_pure ⟨_, rfl, ?_⟩
  show Q (.ref g5.objs.size) _; rw [sz]
  exact q g8 z8 (up _ _ D.a2 t5) (n15.to fun o e => up _ o D.a3 e) (n25.to fun o e => up _ o D.a4 e) p8 fun c o c1 c2 c3 c4 e => up c o c1 (k5 c o c1 c2 c3 c4 e)
theorem zipK_end {b1 b2 : Bool} {z ti to i1 i2 l1 l2 : Addr} {k : Nat} {xs ys : Array Value} {a b : Value} {Q : Fin → Shared → Prop} (hh : A.handled = none) (D : ZA z ti to i1 i2) (o1 : Off z to i1 i2 l1) (o2 : Off z to i1 i2 l2)
    (hz : IsZip s.heap z ti to .none) (hTI : IsPair s.heap ti (.ref i1) (.ref i2)) (hTO : IsPair s.heap to a b) (h1 : ItK b1 s.heap i1 l1 k) (h2 : ItK b2 s.heap i2 l2 k) (hl1 : SeqK b1 s.heap l1 xs) (hl2 : SeqK b2 s.heap l2 ys) (he : xs[k]? = none ∨ ys[k]? = none)
    (q : ∀ g e, (∀ c o, c ≠ z → c ≠ to → c ≠ i1 → c ≠ i2 → s.heap.get? c = some o → g.get? c = some o) → (∃ o, g.get? e = some o ∧ o.cls = .type "StopIteration") → E (.ref e) { s with heap := g }) :
    wpAny (model prog w) A (Builtin.«zip.__next__» ⟨[.ref z], []⟩) Q E s := by
  show wpAny _ _ (field (.ref z) 2 >>= _) _ _ _; refine wpAny_bind (wpAny_field hz rfl (x := .bool false) rfl ?_)
  show wpAny _ _ (field (.ref z) 3 >>= _) _ _ _; refine wpAny_bind (wpAny_field hz rfl (x := .ref ti) rfl (wpAny_bind (wpAny_seqItems hTI rfl ?_)))
  show wpAny _ _ (Builtin.SmallTypes.ownedTupleIsFree (.ref z) >>= _) _ _ _; refine wpAny_bind ?_
  unfold Builtin.SmallTypes.ownedTupleIsFree; refine wpAny_bind (wpAny_field hz rfl (x := .none) rfl (wpAny_pure ?_))
  simp only [if_true]; refine wpAny_bind (wpAny_rule (wpAny_bind (wpAny_field hz rfl (x := .ref to) rfl (wpAny_bind (wpAny_setField_rec hz (by simp) fun g1 z1 e1 => ?_)))))
  replace z1 : IsZip g1 z ti to .ellipsis := z1
  refine wpAny_bind ?_; simp only [List.zipIdx_cons, List.zipIdx_nil, List.forIn_cons, List.forIn_nil]
  refine wpAny_bind (wpAny_bind (wpAny_onRaise ?_)); show wpAny _ _ (Builtin.SmallTypes.nextOf (.ref i1) >>= _) _ _ _
  cases hx : xs[k]? with
  | none =>
    refine wpAny_bind (nextK_end hh (h1.to fun o e => e1.extBut _ _ D.a3 e) (hl1.to fun o e => e1.extBut _ _ o1.1 e) hx fun g2 e e2 he => ?_)
    obtain ⟨oe, hoe, hce⟩ := he
    have z2 : IsZip g2 z ti to .ellipsis := e2 _ _ (Ne.symm D.a3) z1
    have ez : e ≠ z := fun x => by subst x; rw [z2] at hoe; cases hoe; simp at hce
    refine wpAny_setField_rec z2 (by simp) fun g3 _ e3 => q g3 e (fun c o c1 _ c3 _ x => e3.extBut _ _ c1 (e2 _ _ c3 (e1.extBut _ _ c1 x))) ⟨oe, e3.extBut _ _ ez hoe, hce⟩
  | some x =>
    have hy : ys[k]? = none := by
      rcases he with h | h
      · rw [hx] at h; cases h
      · exact h
    refine wpAny_bind (nextK_item (h1.to fun o e => e1.extBut _ _ D.a3 e) (hl1.to fun o e => e1.extBut _ _ o1.1 e) hx fun g2 n2 e2 => wpAny_pure ?_)
    have t2 : IsPair g2 to a b := e2.extBut _ _ D.a8 (e1.extBut _ _ D.a2 hTO)
    refine wpAny_bind (wpAny_seqItems t2 rfl (wpAny_bind (wpAny_updateSeq_pair t2 fun g3 t3 e3 => wpAny_bind (wpAny_letGo (wpAny_pure (wpAny_bind (wpAny_bind (wpAny_onRaise ?_))))))))
    show wpAny _ _ (Builtin.SmallTypes.nextOf (.ref i2) >>= _) _ _ _
    refine wpAny_bind (nextK_end hh (((h2.to fun o e => e1.extBut _ _ D.a4 e).to fun o e => e2.extBut _ _ (Ne.symm D.a10) e).to fun o e => e3.extBut _ _ (Ne.symm D.a9) e) (((hl2.to fun o e => e1.extBut _ _ o2.1 e).to fun o e => e2.extBut _ _ o2.2.2.1 e).to fun o e => e3.extBut _ _ o2.2.1 e) hy fun g4 e e4 he => ?_)
    obtain ⟨oe, hoe, hce⟩ := he
    have z4 : IsZip g4 z ti to .ellipsis := e4 _ _ (Ne.symm D.a4) (e3.extBut _ _ (Ne.symm D.a2) (e2.extBut _ _ (Ne.symm D.a3) z1))
    have ez : e ≠ z := fun x => by subst x; rw [z4] at hoe; cases hoe; simp at hce
    refine wpAny_setField_rec z4 (by simp) fun g5 _ e5 => q g5 e (fun c o c1 c2 c3 c4 x => e5.extBut _ _ c1 (e4 _ _ c4 (e3.extBut _ _ c2 (e2.extBut _ _ c3 (e1.extBut _ _ c1 x))))) ⟨oe, e5.extBut _ _ ez hoe, hce⟩
theorem pyIterK {b : Bool} {l : Addr} {xs : Array Value} {Q : Value → Shared → Prop} (h : SeqK b s.heap l xs) (q : Q (.ref s.heap.objs.size) { s with heap := s.heap.push (itO b l) }) : wpAny (model prog w) A (pyIter (.ref l)) Q E s := by
  cases b
  · exact wpAny_pyIter_list h q
  · exact wpAny_pyIter_tuple h q
theorem ItK.new {b : Bool} {l : Addr} (g : Heap) : ItK b (g.push (itO b l)) g.objs.size l 0 := by
  cases b
  · exact (show Heap.IsListIter _ _ _ _ from ⟨_, Heap.get?_push_size _ rfl, rfl, rfl⟩)
  · exact (show Heap.IsTupleIter _ _ _ _ from ⟨_, Heap.get?_push_size _ rfl, rfl, rfl⟩)
abbrev zK2 (g : Heap) (b1 b2 : Bool) (l1 l2 : Addr) : Heap := (g.push (itO b1 l1)).push (itO b2 l2)
abbrev zK3 (g : Heap) (b1 b2 : Bool) (l1 l2 : Addr) : Heap := (zK2 g b1 b2 l1 l2).push { cls := .type "tuple", data := .seq #[.ref g.objs.size, .ref (g.push (itO b1 l1)).objs.size] }
abbrev zK4 (g : Heap) (b1 b2 : Bool) (l1 l2 : Addr) : Heap := (zK3 g b1 b2 l1 l2).push { cls := .type "tuple", data := .seq #[.none, .none] }
abbrev zK5 (g : Heap) (b1 b2 : Bool) (l1 l2 : Addr) : Heap := (zK4 g b1 b2 l1 l2).push { cls := .type "zip", data := .fields #[.none, .bool false, .bool false, .ref (zK2 g b1 b2 l1 l2).objs.size, .ref (zK3 g b1 b2 l1 l2).objs.size] }
theorem zipK_new (b1 b2 : Bool) (l1 l2 : Addr) (xs ys : Array Value) : Meets (Builtin.«zip.__new__» ⟨[.type "zip", .ref l1, .ref l2], []⟩) (fun _ R s => SeqK b1 s.heap l1 xs ∧ SeqK b2 s.heap l2 ys ∧ R (.ok (.ret (.ref (zK4 s.heap b1 b2 l1 l2).objs.size))) { s with heap := zK5 s.heap b1 b2 l1 l2 }) :=
  .of_wp fun prog w A R s h => by
    obtain ⟨hp, g, d, tk, os⟩ := s
    obtain ⟨hl1, hl2, h⟩ := h
    have hsub := sub_zip
    have hL1 : SeqK b1 (Shared.heap ⟨hp, g, d, tk, os⟩) l1 xs := hl1
    have hL2 : SeqK b2 (Shared.heap ⟨hp.push (itO b1 l1), g, d, tk, os⟩) l2 ys := hl2.to fun o e => Heap.get?_push_of_some _ e
    wp_walk using pyIterK hL1, pyIterK hL2
    exact ⟨_, rfl, h⟩
end
end Srt
set_option Elab.async false
set_option linter.all false
set_option maxRecDepth 100000
set_option maxHeartbeats 4000000
namespace L2
open PySem PySem.W PyProof.Rows Srt
def SqB (b : Bool) (K : PySem.W.Frag) (H : Hp) (l : Addr) (xs : List V) : Prop := match b with
  | true => SqT K H l xs
  | false => SqL K H l xs
section
variable {X : Cx} {pins : List (Addr × Obj)} {σ : St} {H : Hp} {s : Shared} {h' : Heap}
theorem Inv.seqB (I : Inv X pins σ H s) {b : Bool} {l : Addr} {xs : List V} (h : SqB b X.K H l xs) : ∃ its : List Value, Vals xs its ∧ SeqK b s.heap l its.toArray ∧ xs.length ≤ sizeLine := by
  cases b
  · obtain ⟨its, r, p, z⟩ := I.list h
    exact ⟨its, r, p.isList, z⟩
  · obtain ⟨its, r, p, z⟩ := I.tuple h
    exact ⟨its, r, p, z⟩
theorem Inv.seqB_inj (I : Inv X pins σ H s) {b : Bool} {l : Addr} {xs ys : List V} (h : SqB b X.K H l xs) (h' : SqB b X.K H l ys) : xs = ys := by
  cases b
  · exact I.list_inj h h'
  · exact I.tuple_inj h h'
theorem Inv.offB (I : Inv X pins σ H s) {b : Bool} {l c : Addr} {xs : List V} (h : SqB b X.K H l xs) (f : FpOk X pins H c) : l ≠ c := by
  intro e
  subst e
  obtain ⟨f0, _, _, f3, _, _⟩ := f
  have base : ∀ o, X.K.lookup l = some o → False := fun o hk => by
    have eb := I.ok.mod.kin l o hk
    rcases f3 with f3 | f3
    · exact I.ok.noex l o eb f3
    · exact absurd (Nat.lt_of_lt_of_le (Heap.lt_size eb) (Nat.le_trans I.ok.bsz f3)) (Nat.lt_irrefl _)
  cases b
  · rcases (show SqL X.K H l xs from h) with (z | ⟨o, z⟩) | ⟨o, _, _, hk, _⟩
    · rw [f0] at z; cases z
    · rw [f0] at z; cases z
    · exact base o hk
  · rcases (show SqT X.K H l xs from h) with (z | ⟨o, z⟩) | ⟨o, _, _, hk, _⟩
    · rw [f0] at z; cases z
    · rw [f0] at z; cases z
    · exact base o hk
theorem Inv.turnedL {t' : Nat} {ch : List Addr} (I : Inv X pins σ H s) (hf : ∀ b ∈ ch, FpOk X pins H b) (k : ∀ b o, b ∉ ch → s.heap.get? b = some o → h'.get? b = some o) : Inv X pins σ H { s with heap := h', toks := t' } := by
  have nit : ∀ b u, H b = some u → b ∉ ch := fun b u e z => by rw [(hf b z).1] at e; cases e
  have loc : X.env.locals ∉ ch := fun z => (hf _ z).2.1 rfl
  refine I.step (g' := s.gens) (d' := s.drawn) (ch := ch) (fun b hb => ?_) (fun b o _ _ hc e _ => k b o hc e) (fun b o _ _ hc e _ => ⟨o.slots, k b o hc e⟩) (fun _ _ _ _ n => n) (fun b o hc e => ⟨o, k b o hc e⟩) (fun _ _ e => e) (fun _ _ _ e => e) (fun b ps e => ⟨#[], by rw [e]; simp⟩) (fun m hm => ?_) (fun b u e => ?_) I.bare
  · obtain ⟨_, f1, _, f3, f4, f5⟩ := hf b hb
    exact ⟨f3, f1, f4, f5⟩
  · obtain ⟨o, es, ep, ho, r⟩ := hm
    exact ⟨o, es, ep, k _ o loc ho, r⟩
  · refine (I.hok b u e).stay (fun c v hc q => k c v ?_ q) (fun _ q => q) fun _ _ q => q
    rcases hc with z | z
    · rw [z]; exact nit b u e
    · exact nit c _ z
theorem Inv.turnedN {t' : Nat} {ch : List Addr} {a : Addr} {ob : HO} (I : Inv X pins σ H s) (hf : ∀ b ∈ ch, FpOk X pins H b) (k : ∀ b o, b ∉ ch → s.heap.get? b = some o → h'.get? b = some o) (ha : s.heap.objs.size ≤ a) (new : ObjOk X.prog X.w (upd H a ob) h' a ob) :
    Inv X pins σ (upd H a ob) { s with heap := h', toks := t' } := by
  have hn : H a = none := I.hok.fresh ha
  have nit : ∀ b u, H b = some u → b ∉ ch := fun b u e z => by rw [(hf b z).1] at e; cases e
  have loc : X.env.locals ∉ ch := fun z => (hf _ z).2.1 rfl
  have old : ∀ b o, s.heap.get? b = some o → b ≠ a := fun b o e => Nat.ne_of_lt (Nat.lt_of_lt_of_le (Heap.lt_size e) ha)
  refine I.step (g' := s.gens) (d' := s.drawn) (ch := ch) (fun b hb => ?_) (fun b o _ _ hc e _ => k b o hc e) (fun b o _ _ hc e _ => ⟨o.slots, k b o hc e⟩) (fun b o _ e n => by rw [upd_ne (old b o e)]; exact n) (fun b o hc e => ⟨o, k b o hc e⟩)
    (fun b xs e => by rw [upd_ne (ne_of_none e hn)]; exact e) (fun b o u e => by rw [upd_ne (ne_of_none e hn)]; exact e) (fun b ps e => ⟨#[], by rw [upd_ne (ne_of_none e hn), e]; simp⟩) (fun m hm => ?_) (fun b u e => ?_) I.bare
  · obtain ⟨_, f1, _, f3, f4, f5⟩ := hf b hb
    exact ⟨f3, f1, f4, f5⟩
  · obtain ⟨o, es, ep, ho, r⟩ := hm
    exact ⟨o, es, ep, k _ o loc ho, r⟩
  · by_cases hb : b = a
    · subst hb
      rw [upd_same] at e
      cases e
      exact new
    · rw [upd_ne hb] at e
      refine (I.hok b u e).stay (fun c v hc q => k c v ?_ q) (fun c q => by rw [upd_ne (ne_of_none q hn)]; exact q) fun c xs q => by rw [upd_ne (ne_of_none q hn)]; exact q
      rcases hc with z | z
      · rw [z]; exact nit b u e
      · exact nit c _ z
end
def Itz (K : PySem.W.Frag) (b1 b2 : Bool) (l1 l2 : Addr) : It :=
  ⟨fun i H => ∃ xs ys x y, SqB b1 K H l1 xs ∧ SqB b2 K H l2 ys ∧ xs[i]? = some x ∧ ys[i]? = some y,
   fun i H v H' => ∃ T x y, v = .ref T ∧ H T = none ∧ H' = upd H T (.tup [x, y]) ∧ (∀ xs, SqB b1 K H l1 xs → xs[i]? = some x) ∧ ∀ ys, SqB b2 K H l2 ys → ys[i]? = some y,
   fun i H => ∃ xs ys, SqB b1 K H l1 xs ∧ SqB b2 K H l2 ys ∧ (xs.length ≤ i ∨ ys.length ≤ i)⟩
theorem turn_zip {P : Program} {w : World} {K : PySem.W.Frag} {es : List Expr} {kk : Nat} {pos : Pos} (b1 b2 : Bool) (z ti to i1 i2 l1 l2 : Addr) (D : ZA z ti to i1 i2) : Turn P w K (.Tuple es kk pos) (Itz K b1 b2 l1 l2) [z, ti, to, i1, i2] z
    (fun i h => IsZip h z ti to .none ∧ IsPair h ti (.ref i1) (.ref i2) ∧ (∃ a b, IsPair h to a b) ∧ ItK b1 h i1 l1 i ∧ ItK b2 h i2 l2 i) where
  mem := by simp
  obj := fun i h st b hb => by
    obtain ⟨hz, hti, ⟨a, c, hto⟩, h1, h2⟩ := st
    simp only [List.mem_cons, List.not_mem_nil, or_false] at hb
    rcases hb with e | e | e | e | e
    · rw [e]; exact ⟨_, hz, fun v z => by cases z⟩
    · rw [e]; exact ⟨_, hti, fun v z => by cases z⟩
    · rw [e]; exact ⟨_, hto, fun v z => by cases z⟩
    · rw [e]; exact h1.lt
    · rw [e]; exact h2.lt
  keep := fun i h h' st k => by
    obtain ⟨hz, hti, ⟨a, c, hto⟩, h1, h2⟩ := st
    exact ⟨k z (by simp) _ hz, k ti (by simp) _ hti, ⟨a, c, k to (by simp) _ hto⟩, h1.to fun o e => k i1 (by simp) o e, h2.to fun o e => k i2 (by simp) o e⟩
  item := by
    intro X hP hw hK hc i pins s σ H E I hf st hg
    subst hP hw hK
    obtain ⟨hz, hti, ⟨a, c, hto⟩, h1, h2⟩ := st
    obtain ⟨xs, ys, x, y, q1, q2, hx, hy⟩ := hg
    obtain ⟨us, r1, p1, _⟩ := I.seqB q1
    obtain ⟨ws, r2, p2, _⟩ := I.seqB q2
    obtain ⟨u, hu, ru⟩ := r1.get hx
    obtain ⟨v, hv, rv⟩ := r2.get hy
    have off1 : Off z to i1 i2 l1 := ⟨I.offB q1 (hf z (by simp)), I.offB q1 (hf to (by simp)), I.offB q1 (hf i1 (by simp)), I.offB q1 (hf i2 (by simp))⟩
    have off2 : Off z to i1 i2 l2 := ⟨I.offB q2 (hf z (by simp)), I.offB q2 (hf to (by simp)), I.offB q2 (hf i1 (by simp)), I.offB q2 (hf i2 (by simp))⟩
    have hT : s.TypeIs (.ref z) "zip" := ⟨_, hz, rfl⟩
    have hn : H s.heap.objs.size = none := I.hok.fresh (Nat.le_refl _)
    unfold pyNext
    refine wpAny_bind (wpAny_attempt (wpAny_callSpecial?_slot (name := Str.ofString "__next__") hT F.slot_zip_next (wpAny_call_entry F.slot_zip_next hT F.entry_zip_next
      (zipK_item D off1 off2 hz hti hto h1 h2 p1 p2 (x := u) (y := v) (by simpa using hu) (by simpa using hv) fun g z1 t1 n1 n2 pp kp => wpAny_pure ⟨_, rfl, ?_⟩) (F.args_zip_next_1 _))))
    refine wpAny_letOwnedTupleGo_zip z1 fun g' z2 sb => ?_
    have zlt : z ≠ s.heap.objs.size := Nat.ne_of_lt (Heap.lt_size hz)
    have kp2 : ∀ b o, b ∉ [z, ti, to, i1, i2] → s.heap.get? b = some o → g'.get? b = some o := fun b o nb e => by
      simp only [List.mem_cons, List.not_mem_nil, or_false, not_or] at nb
      exact sb.extBut _ _ nb.1 (kp b o nb.1 nb.2.2.1 nb.2.2.2.1 nb.2.2.2.2 e)
    have I2 : Inv X pins σ (upd H s.heap.objs.size (.tup [x, y])) { s with heap := g' } := I.turnedN (t' := s.toks) (ch := [z, ti, to, i1, i2]) (a := s.heap.objs.size) (ob := .tup [x, y]) hf kp2 (Nat.le_refl _) (show ObjOk X.prog X.w _ g' _ (.tup [x, y]) from ⟨by show 2 ≤ sizeLine; decide, [u, v], .cons ru (.cons rv .nil), ⟨_, sb.extBut _ _ (Ne.symm zlt) pp, rfl, 0, rfl⟩⟩)
    refine ⟨.ref s.heap.objs.size, _, I2, rfl, ⟨_, x, y, rfl, hn, rfl, fun xs' h => by rw [I.seqB_inj h q1]; exact hx, fun ys' h => by rw [I.seqB_inj h q2]; exact hy⟩, ⟨z2, sb.extBut _ _ D.a1 (kp _ _ D.a1 D.a5 D.a6 D.a7 hti), ⟨_, _, sb.extBut _ _ D.a2 t1⟩, n1.to fun o e => sb.extBut _ _ D.a3 e, n2.to fun o e => sb.extBut _ _ D.a4 e⟩, fun b hb => ?_⟩
    have bo : ∃ o, s.heap.get? b = some o := by
      simp only [List.mem_cons, List.not_mem_nil, or_false] at hb
      rcases hb with e | e | e | e | e
      · rw [e]; exact ⟨_, hz⟩
      · rw [e]; exact ⟨_, hti⟩
      · rw [e]; exact ⟨_, hto⟩
      · rw [e]; obtain ⟨o, e, _⟩ := h1.lt; exact ⟨o, e⟩
      · rw [e]; obtain ⟨o, e, _⟩ := h2.lt; exact ⟨o, e⟩
    obtain ⟨o, e⟩ := bo
    rw [upd_ne (Nat.ne_of_lt (Heap.lt_size e))]
    exact (hf b hb).1
  done := by
    intro X hP hw hK hc i pins s σ H E I hf st hg
    subst hP hw hK
    obtain ⟨hz, hti, ⟨a, c, hto⟩, h1, h2⟩ := st
    obtain ⟨xs, ys, q1, q2, he⟩ := hg
    obtain ⟨us, r1, p1, _⟩ := I.seqB q1
    obtain ⟨ws, r2, p2, _⟩ := I.seqB q2
    have e1 := r1.length
    have e2 := r2.length
    have off1 : Off z to i1 i2 l1 := ⟨I.offB q1 (hf z (by simp)), I.offB q1 (hf to (by simp)), I.offB q1 (hf i1 (by simp)), I.offB q1 (hf i2 (by simp))⟩
    have off2 : Off z to i1 i2 l2 := ⟨I.offB q2 (hf z (by simp)), I.offB q2 (hf to (by simp)), I.offB q2 (hf i1 (by simp)), I.offB q2 (hf i2 (by simp))⟩
    have hT : s.TypeIs (.ref z) "zip" := ⟨_, hz, rfl⟩
    unfold pyNext
    refine wpAny_bind (wpAny_attempt (wpAny_callSpecial?_slot (name := Str.ofString "__next__") hT F.slot_zip_next (wpAny_call_entry F.slot_zip_next hT F.entry_zip_next (zipK_end (I.ok.hd hc) D off1 off2 hz hti hto h1 h2 p1 p2 ?_ fun g e kp he => ?_) (F.args_zip_next_1 _))))
    · rcases he with h | h
      · exact .inl (by simp; omega)
      · exact .inr (by simp; omega)
    · obtain ⟨o, ho, hcl⟩ := he
      refine wpAny_bind (wpAny_isInstance (T := "StopIteration") (b := true) ⟨o, ho, hcl⟩ isSubtype_stop (wpAny_pure ⟨rfl, ?_⟩))
      refine I.turnedL (t' := s.toks) (ch := [z, ti, to, i1, i2]) hf fun b o nb e => ?_
      simp only [List.mem_cons, List.not_mem_nil, or_false, not_or] at nb
      exact kp b o nb.1 nb.2.2.1 nb.2.2.2.1 nb.2.2.2.2 e
  self := fun _ _ _ _ _ st h => wpAny_pyIter_zip st.1 h
theorem za_new (n : Addr) : ZA (n + 4) (n + 2) (n + 3) n (n + 1) where
  a1 := Nat.ne_of_lt (Nat.add_lt_add_left (by decide) n)
  a2 := Nat.ne_of_lt (Nat.add_lt_add_left (by decide) n)
  a3 := Nat.ne_of_lt (Nat.lt_add_of_pos_right (by decide))
  a4 := Nat.ne_of_lt (Nat.add_lt_add_left (by decide) n)
  a5 := Nat.ne_of_lt (Nat.add_lt_add_left (by decide) n)
  a6 := Nat.ne_of_gt (Nat.lt_add_of_pos_right (by decide))
  a7 := Nat.ne_of_gt (Nat.add_lt_add_left (by decide) n)
  a8 := Nat.ne_of_gt (Nat.lt_add_of_pos_right (by decide))
  a9 := Nat.ne_of_gt (Nat.add_lt_add_left (by decide) n)
  a10 := Nat.ne_of_lt (Nat.lt_add_of_pos_right (by decide))
def iZip (b1 b2 : Bool) (K : PySem.W.Frag) (ta : TA) : TI := fun σ H R => ta σ H fun vs H1 => ∃ l1 l2, vs = [.ref l1, .ref l2] ∧ (∃ xs, SqB b1 K H1 l1 xs) ∧ (∃ ys, SqB b2 K H1 l2 ys) ∧ R (Itz K b1 b2 l1 l2) H1
theorem pi_zip {X : Cx} {es : List Expr} {kk : Nat} {tpos : Pos} (b1 b2 : Bool) {a b : Expr} {ta : TA} {p pos : Pos} (hg : Gl X "zip") (hm : X.mg "zip" = none) (ha : PA X [a, b] ta) (hs : starEach [a, b] X.env = [(false, eval a X.env), (false, eval b X.env)] := by rfl) (hs2 : starEach [b] X.env = [(false, eval b X.env)] := by rfl) :
    PI X (.Tuple es kk tpos) (.Call (.Name "zip" p) [a, b] [] pos) (iZip b1 b2 X.K ta) := by
  intro pins s σ H R I h
  refine Call_ (ld_blt I hg hm boot_zip (PyProof.Rows.callWith_type1 (thn (ha pos pins s σ H _ I h) fun us s1 ⟨vs, H1, I1, r1, q1⟩ => ?_) (by rw [hs, hs2]) (by rw [hs2]; rfl)))
  obtain ⟨l1, l2, e, ⟨xs, q1⟩, ⟨ys, q2⟩, q⟩ := q1
  subst e
  obtain ⟨u, u', rfl, rx, ry⟩ := vals2 r1
  cases rx
  cases ry
  obtain ⟨us, _, p1, _⟩ := I1.seqB q1
  obtain ⟨ws, _, p2, _⟩ := I1.seqB q2
  have z1 : (s1.heap.push (itO b1 l1)).objs.size = s1.heap.objs.size + 1 := Heap.size_push ..
  have z2 : (zK2 s1.heap b1 b2 l1 l2).objs.size = s1.heap.objs.size + 2 := by rw [Heap.size_push, z1]
  have z3 : (zK3 s1.heap b1 b2 l1 l2).objs.size = s1.heap.objs.size + 3 := by rw [Heap.size_push, z2]
  have z4 : (zK4 s1.heap b1 b2 l1 l2).objs.size = s1.heap.objs.size + 4 := by rw [Heap.size_push, z3]
  have g5 : (zK5 s1.heap b1 b2 l1 l2).get? (zK4 s1.heap b1 b2 l1 l2).objs.size = some _ := Heap.get?_push_size _ rfl
  have g4 : (zK5 s1.heap b1 b2 l1 l2).get? (zK3 s1.heap b1 b2 l1 l2).objs.size = some _ := Heap.get?_push_of_some _ (Heap.get?_push_size _ rfl)
  have g3 : (zK5 s1.heap b1 b2 l1 l2).get? (zK2 s1.heap b1 b2 l1 l2).objs.size = some _ := Heap.get?_push_of_some _ (Heap.get?_push_of_some _ (Heap.get?_push_size _ rfl))
  have g2 : ItK b2 (zK5 s1.heap b1 b2 l1 l2) (s1.heap.push (itO b1 l1)).objs.size l2 0 := (ItK.new (b := b2) (l := l2) (s1.heap.push (itO b1 l1))).to fun o e => Heap.get?_push_of_some _ (Heap.get?_push_of_some _ (Heap.get?_push_of_some _ e))
  have g1 : ItK b1 (zK5 s1.heap b1 b2 l1 l2) s1.heap.objs.size l1 0 := (ItK.new (b := b1) (l := l1) s1.heap).to fun o e => Heap.get?_push_of_some _ (Heap.get?_push_of_some _ (Heap.get?_push_of_some _ (Heap.get?_push_of_some _ e)))
  rw [z2, z3, z4] at g5
  rw [z1, z2] at g3
  rw [z3] at g4
  rw [z1] at g2
  refine callType_new F.called_zip (by decide) (F.typeCall_zip_2 _ _) (F.newCall_zip_2 _ _) (fun obj => F.args_object_init_3 obj _ _) F.entry_zip_new (zipK_new b1 b2 l1 l2 us.toArray ws.toArray) ⟨p1, p2, ?_⟩
  show _ ∧ _
  rw [z4]
  have kp : ∀ c o, s1.heap.get? c = some o → (zK5 s1.heap b1 b2 l1 l2).get? c = some o := fun c o x => Heap.get?_push_of_some _ (Heap.get?_push_of_some _ (Heap.get?_push_of_some _ (Heap.get?_push_of_some _ (Heap.get?_push_of_some _ x))))
  refine ⟨⟨_, g5, rfl⟩, wpAny_pyIter_zip g5 ⟨s1.heap.objs.size + 4, _, _, _, H1, rfl, I1.kept (t' := s1.toks) kp, turn_zip b1 b2 _ (s1.heap.objs.size + 2) (s1.heap.objs.size + 3) s1.heap.objs.size (s1.heap.objs.size + 1) l1 l2 (za_new _), ⟨g5, g3, ⟨_, _, g4⟩, g1, g2⟩, fun b hb => ?_, q⟩⟩
  have le : s1.heap.objs.size ≤ b := by
    simp only [List.mem_cons, List.not_mem_nil, or_false] at hb
    rcases hb with e | e | e | e | e
    · rw [e]; exact Nat.le_add_right _ 4
    · rw [e]; exact Nat.le_add_right _ 2
    · rw [e]; exact Nat.le_add_right _ 3
    · rw [e]; exact Nat.le_refl _
    · rw [e]; exact Nat.le_add_right _ 1
  exact I1.fpOk le (I1.hok.fresh le)
end L2
set_option Elab.async false
set_option linter.all false
set_option maxRecDepth 100000
set_option maxHeartbeats 4000000
namespace L2
open PySem PySem.W PyProof.Rows Srt
section
variable {X : Cx} {pins : List (Addr × Obj)} {σ : St} {H : Hp} {s : Shared} {a : Addr} {y v : V} {u r : Value} {A : Around} {E : Value → Shared → Prop}
theorem Inv.track {D : Addr} {ob : HO} (I : Inv X pins σ H s) (f : FpOk X pins H D) (new : ObjOk X.prog X.w (upd H D ob) s.heap D ob) : Inv X pins σ (upd H D ob) s := by
  have hn : H D = none := f.1
  have := I.step (h' := s.heap) (H' := upd H D ob) (g' := s.gens) (t' := s.toks) (d' := s.drawn) (ch := [D]) (fun b hb => ?_) (fun b o _ _ _ e _ => e) (fun b o _ _ _ e _ => ⟨o.slots, e⟩) (fun b o nb _ n => by
    rw [upd_ne (fun z => nb (by simp [z]))]; exact n) (fun b o _ e => ⟨o, e⟩) (fun b xs e => by rw [upd_ne (ne_of_none e hn)]; exact e) (fun b o u e => by rw [upd_ne (ne_of_none e hn)]; exact e) (fun b ps e => ⟨#[], by rw [upd_ne (ne_of_none e hn), e]; simp⟩) (fun m hm => hm) (fun b u e => ?_) I.bare
  · exact this
  · have e : b = D := by simpa using hb
    subst e
    obtain ⟨_, f1, _, f3, f4, f5⟩ := f
    exact ⟨f3, f1, f4, f5⟩
  · by_cases hb : b = D
    · subst hb; rw [upd_same] at e; cases e; exact new
    · rw [upd_ne hb] at e
      exact (I.hok b u e).stay (fun c v _ q => q) (fun c q => by rw [upd_ne (ne_of_none q hn)]; exact q) fun c xs q => by rw [upd_ne (ne_of_none q hn)]; exact q
end
end L2
set_option Elab.async false
set_option linter.all false
set_option maxRecDepth 100000
set_option maxHeartbeats 4000000
namespace L2
open PySem PySem.W PyProof.Rows Srt
section
variable {X : Cx}
theorem bools_at : ∀ {bs : List Bool} {us : List Value}, Vals (bs.map V.bl) us → ∀ (i : Nat) (v : Value), us[i]? = some v → ∃ b, bs[i]? = some b ∧ v = .bool b
  | [], _, .nil, i, v, h => by simp at h
  | b :: bs, _, .cons r t, 0, v, h => by
    simp at h
    subst h
    exact ⟨b, rfl, r⟩
  | b :: bs, _, .cons r t, i + 1, v, h => by
    obtain ⟨c, e, q⟩ := bools_at t i v (by simpa using h)
    exact ⟨c, by simpa using e, q⟩
theorem call_all (hc : X.calm = true) : CallR X (.builtin "all") (fun xs H Q => ∃ (l : Addr) (bs : List Bool), xs = [V.ref l] ∧ SqL X.K H l (bs.map V.bl) ∧ Q (.bl (bs.all id)) H) := by
  intro pins s σ H xs us Q I r h
  obtain ⟨l, bs, rfl, hq, q⟩ := h
  obtain ⟨u, rfl, rx⟩ := vals1 r
  cases rx
  obtain ⟨its, r', pl, hz⟩ := I.list hq
  have len : its.length = bs.length := by rw [← r'.length, List.length_map]
  have hl := pl.isList
  have hlt : l < s.heap.objs.size := by obtain ⟨_, e, _⟩ := hl; exact Heap.lt_size e
  refine call_all_walk (wpAny_pyIter_list hl ⟨s.heap.objs.size, [s.heap.objs.size, l], [s.heap.objs.size], its.toArray.size, _, _, fun i => (bs[i]?).getD true, rfl, Walks.list (A := X.A.in1) (show X.A.handled = none from I.ok.hd hc) _ l (Nat.ne_of_lt hlt) its.toArray, ⟨⟨_, Heap.get?_push_size _ rfl, rfl, rfl⟩, hl.push _⟩, fun i v s' Q' E' hP hQ => ?_, fun h' tk hk => ?_⟩)
  · obtain ⟨b, e, rfl⟩ := bools_at r' i v (by simpa using hP)
    simp only [e, Option.getD_some] at hQ
    exact wpAny_truthy_bool hQ
  · have e : ((List.range its.toArray.size).all fun i => (bs[i]?).getD true) = bs.all id := by rw [List.size_toArray, len]; exact LSm.range_all bs
    rw [e]
    exact ⟨.bl _, H, I.kept (t' := tk) (LSm.kept_iter hk), rfl, q⟩
theorem call_any (hc : X.calm = true) : CallR X (.builtin "any") (fun xs H Q => ∃ (l : Addr) (bs : List Bool), xs = [V.ref l] ∧ SqL X.K H l (bs.map V.bl) ∧ Q (.bl (bs.any id)) H) := by
  intro pins s σ H xs us Q I r h
  obtain ⟨l, bs, rfl, hq, q⟩ := h
  obtain ⟨u, rfl, rx⟩ := vals1 r
  cases rx
  obtain ⟨its, r', pl, hz⟩ := I.list hq
  have len : its.length = bs.length := by rw [← r'.length, List.length_map]
  have hl := pl.isList
  have hlt : l < s.heap.objs.size := by obtain ⟨_, e, _⟩ := hl; exact Heap.lt_size e
  refine call_any_walk (wpAny_pyIter_list hl ⟨s.heap.objs.size, [s.heap.objs.size, l], [s.heap.objs.size], its.toArray.size, _, _, fun i => (bs[i]?).getD false, rfl, Walks.list (A := X.A.in1) (show X.A.handled = none from I.ok.hd hc) _ l (Nat.ne_of_lt hlt) its.toArray, ⟨⟨_, Heap.get?_push_size _ rfl, rfl, rfl⟩, hl.push _⟩, fun i v s' Q' E' hP hQ => ?_, fun h' tk hk => ?_⟩)
  · obtain ⟨b, e, rfl⟩ := bools_at r' i v (by simpa using hP)
    simp only [e, Option.getD_some] at hQ
    exact wpAny_truthy_bool hQ
  · have e : ((List.range its.toArray.size).any fun i => (bs[i]?).getD false) = bs.any id := by rw [List.size_toArray, len]; exact LSm.range_any bs
    rw [e]
    exact ⟨.bl _, H, I.kept (t' := tk) (LSm.kept_iter hk), rfl, q⟩
variable {a b c d : Expr} {ta tb tc td : TE} {pos : Pos}
theorem eqT {A : Around} {s : Shared} {p q : Addr} {ks ns : List Int} (hu : A.units < cLine) (x : TupI s.heap (.ref p) ks) (y : TupI s.heap (.ref q) ns) : SeqAt.EqAt A s (.ref p) (.ref q) (decide (ks = ns)) := by
  by_cases e : p = q
  · subst e
    rw [x.inj y, decide_eq_true rfl]
    exact SeqAt.EqAt.same _
  · obtain ⟨a, o, its, n, e1, g1, c1, d1, p1⟩ := x
    obtain ⟨a', o', its', n', e2, g2, c2, d2, p2⟩ := y
    cases e1
    cases e2
    have l1 : ks.length = its.size := by rw [p1.length]; simp
    have l2 : ns.length = its'.size := by rw [p2.length]; simp
    have at1 : ∀ {ks : List Int} {us : List Value} (_ : IntsV ks us) (j : Nat) (h : j < us.length) (h2 : j < ks.length), ∃ t, us[j] = Value.int ks[j] t := by
      intro ks us hp
      induction hp with
      | nil => intro j h; simp at h
      | cons r _ ih =>
        intro j h h2
        cases j with
        | zero => exact r
        | succ j => exact ih j (by simpa using h) (by simpa using h2)
    refine SeqAt.EqAt.of_refs e ?_
    have key := SeqAt.RcAt.tuples (A := A) (s := s) (e := fun j => decide (ks[j]? = ns[j]?)) (show s.heap.IsTuple p its from ⟨o, g1, c1, n, d1⟩) (show s.heap.IsTuple q its' from ⟨o', g2, c2, n', d2⟩) hu fun j h1 h2 => by
      obtain ⟨t, q1⟩ := at1 p1 j (by simpa using h1) (by omega)
      obtain ⟨t', q2⟩ := at1 p2 j (by simpa using h2) (by omega)
      have q1' : its[j] = Value.int (ks[j]'(by omega)) t := by rw [← q1]; simp
      have q2' : its'[j] = Value.int (ns[j]'(by omega)) t' := by rw [← q2]; simp
      rw [q1', q2']
      have e : decide (ks[j]? = ns[j]?) = (ks[j]'(by omega) == ns[j]'(by omega)) := by
        rw [List.getElem?_eq_getElem (by omega), List.getElem?_eq_getElem (by omega), Bool.beq_eq_decide_eq]
        simp
      rw [e]
      exact SeqAt.EqAt.int_int _ _ _ _
    have fin : ((List.range (min its.size its'.size)).all (fun j => decide (ks[j]? = ns[j]?)) && its.size == its'.size) = decide (ks = ns) := by
      rw [Bool.eq_iff_iff, Bool.and_eq_true, List.all_eq_true, decide_eq_true_eq, beq_iff_eq]
      constructor
      · rintro ⟨h1, h2⟩
        apply List.ext_getElem?
        intro i
        by_cases hi : i < ks.length
        · exact of_decide_eq_true (h1 i (List.mem_range.mpr (by omega)))
        · rw [List.getElem?_eq_none (by omega), List.getElem?_eq_none (by omega)]
      · rintro rfl
        exact ⟨fun i _ => decide_eq_true rfl, by omega⟩
    rw [fin] at key
    exact key
end
end L2
set_option Elab.async false
set_option linter.all false
set_option maxRecDepth 100000
set_option maxHeartbeats 4000000
namespace L2
open PySem PySem.W PyProof.Rows Srt
abbrev TupsAt (H : Hp) (as : List Addr) (ks : List (List Int)) : Prop := Paired (fun a k => H a = some (.tup (List.map V.int k))) as ks
section
variable {X : Cx}
theorem refs_of : ∀ {as : List Addr} {us : List Value}, Vals (as.map V.ref) us → us = as.map Value.ref
  | [], _, .nil => rfl
  | a :: as, _, .cons r t => by rw [show _ = Value.ref a from r, refs_of t]; rfl
theorem tups_mem {H : Hp} {as : List Addr} {ks : List (List Int)} (h : TupsAt H as ks) : ∀ a ∈ as, ∃ k : List Int, H a = some (.tup (k.map V.int)) := by
  induction h with
  | nil => intro a ha; cases ha
  | cons r _ ih =>
    intro a ha
    rcases List.mem_cons.mp ha with e | e
    · rw [e]; exact ⟨_, r⟩
    · exact ih a e
theorem tups_len {H : Hp} {as : List Addr} {ks : List (List Int)} (h : TupsAt H as ks) : as.length = ks.length := Paired.length h
inductive TyF (H : Hp) : V → Value → Prop where
  | non : TyF H .non (.type "NoneType")
  | bl (x : Bool) : TyF H (.bl x) (.type "bool")
  | int (i : Int) : TyF H (.int i) (.type "int")
  | str (x : Str) : TyF H (.str x) (.type "str")
  | lst {a : Addr} {xs : List V} (e : H a = some (.lst xs)) : TyF H (.ref a) (.type "list")
  | tup {a : Addr} {xs : List V} (e : H a = some (.tup xs)) : TyF H (.ref a) (.type "tuple")
theorem TyF.of {K : PySem.W.Frag} {H : Hp} {x : V} {t : Value} (h : TyF H x t) : TyOf K H x t := by
  cases h with
  | non => exact .non
  | bl x => exact .bl x
  | int i => exact .int i
  | str x => exact .str x
  | lst e => exact .lst e
  | tup e => exact .tup e
theorem call_isinst2 : CallR X (.builtin "isinstance") (fun xs H Q => ∃ x t p b, xs = [x, V.ref p] ∧ TyF H x t ∧ H p = some (.tup [.ty "list", .ty "tuple"]) ∧ PySem.W.kitAny X.K t [.type "list", .type "tuple"] = some b ∧ Q (.bl b) H) := by
  intro pins s σ H xs us Q I r h
  obtain ⟨x, t, p, b, rfl, ty, hp, e, q⟩ := h
  obtain ⟨u, u', rfl, rx, rc⟩ := vals2 r
  cases rc
  obtain ⟨z, its, rv, o, e0, c, n, d⟩ := I.hok p _ hp
  obtain ⟨cls, dd, dat, sl⟩ := o
  cases c
  cases d
  cases rv with
  | cons r1 r2 =>
    cases r2 with
    | cons r2 r3 =>
      cases r3
      cases r1
      cases r2
      have fin : ∀ tk, EP X pins σ Q (.bool b) { s with toks := tk } := fun tk => ⟨.bl b, H, I.tok _, rfl, q⟩
      cases ty with
      | non => cases (show u = Value.none from rx); exact PySem.W.kia_tup PySem.W.kitx_none I.kIn True.intro e0 e (fun z => nomatch z) fin
      | bl y => cases (show u = Value.bool y from rx); exact PySem.W.kia_tup PySem.W.kitx_bool I.kIn True.intro e0 e (fun z => nomatch z) fin
      | int i => obtain ⟨t, q⟩ := (show ∃ t, u = Value.int i t from rx); cases q; exact PySem.W.kia_tup PySem.W.kitx_int I.kIn True.intro e0 e (fun z => nomatch z) fin
      | str y => obtain ⟨t, q⟩ := (show ∃ t, u = Value.str y t from rx); cases q; exact PySem.W.kia_tup PySem.W.kitx_str I.kIn True.intro e0 e (fun z => nomatch z) fin
      | @lst a xs ea =>
        cases (show u = Value.ref a from rx)
        obtain ⟨_, _, n, _, h1⟩ := (show ObjOk X.prog X.w H s.heap a (.lst xs) from I.hok a _ ea)
        exact PySem.W.kia_tup PySem.W.kitx_list I.kIn ⟨_, h1, rfl⟩ e0 e (fun z => nomatch z) fin
      | @tup a xs ea =>
        cases (show u = Value.ref a from rx)
        obtain ⟨_, _, _, pp⟩ := (show ObjOk X.prog X.w H s.heap a (.tup xs) from I.hok a _ ea)
        obtain ⟨o, h1, h2, _⟩ := pp
        exact PySem.W.kia_tup PySem.W.kitx_tuple I.kIn ⟨o, h1, h2⟩ e0 e (fun z => nomatch z) fin
end
inductive Dt where
  | non | bl (b : Bool) | int (i : Int) | str (x : Str) | lst (ds : List Dt) | tup (ds : List Dt)
def Dat (H : Hp) : Nat → V → Dt → Prop
  | _, v, .non => v = .non
  | _, v, .bl b => v = .bl b
  | _, v, .int i => v = .int i
  | _, v, .str x => v = .str x
  | 0, _, .lst _ => False
  | 0, _, .tup _ => False
  | n + 1, v, .lst ds => ∃ a xs, v = .ref a ∧ xs.length ≤ 1000 ∧ H a = some (.lst xs) ∧ Paired (Dat H n) xs ds
  | n + 1, v, .tup ds => ∃ a xs, v = .ref a ∧ xs.length ≤ 1000 ∧ H a = some (.tup xs) ∧ Paired (Dat H n) xs ds
theorem Dat.same {H H' : Hp} (s : Same H H') : ∀ {n : Nat} {v : V} {d : Dt}, Dat H n v d → Dat H' n v d
  | 0, v, .non, h => h
  | 0, v, .bl _, h => h
  | 0, v, .int _, h => h
  | 0, v, .str _, h => h
  | n + 1, v, .non, h => h
  | n + 1, v, .bl _, h => h
  | n + 1, v, .int _, h => h
  | n + 1, v, .str _, h => h
  | n + 1, v, .lst ds, h => by
    obtain ⟨a, xs, e, l, ha, p⟩ := h
    exact ⟨a, xs, e, l, s _ _ ha, Paired.mapP p fun x d z => Dat.same s (n := n) z⟩
  | n + 1, v, .tup ds, h => by
    obtain ⟨a, xs, e, l, ha, p⟩ := h
    exact ⟨a, xs, e, l, s _ _ ha, Paired.mapP p fun x d z => Dat.same s (n := n) z⟩
end L2
set_option Elab.async false
set_option linter.all false
set_option maxRecDepth 100000
set_option maxHeartbeats 400000
namespace L2
open PySem PyProof.Rows
section
variable {K : PySem.W.Frag} {a : Addr} {xs : List V} {g : TG} {tc : TT} {te : TE} {cap : List (Option Nat)} {σ : St} {H1 : Hp} {Q : VK}
theorem comp_list (P : Nat → List V → Hp → Prop) (hz : xs.length ≤ sizeLine) (p0 : P 0 [] H1) (hl : ∀ i ys H, i ≤ xs.length → P i ys H → SqL K H a xs)
    (hs : ∀ i x ys H, xs[i]? = some x → P i ys H → g x (capt cap σ) H fun σ2 H2 => Kp (capt cap σ) σ2 ∧ tc σ2 H2 fun b H3 => if b = true then te σ2 H3 fun y H4 => P (i + 1) (ys ++ [y]) H4 else P (i + 1) ys H3)
    (hd : ∀ ys H, ys.length ≤ xs.length → P xs.length ys H → ∀ D, H D = none → Q (.ref D) (upd H D (.lst ys))) : compTurns (Itl K a) cap σ H1 Q g tc te := by
  refine ⟨xs.length, P, hz, p0, fun i ys H yl il p => ?_⟩
  have q := hl i ys H il p
  by_cases hlt : i < xs.length
  · refine .inr ⟨hlt, ⟨xs, xs[i], q, by simp [hlt]⟩, fun x H' y => ?_⟩
    obtain ⟨e, y⟩ := y
    subst e
    exact hs i x ys _ (y xs q) p
  · have e : i = xs.length := by omega
    subst e
    exact .inl ⟨⟨xs, q, Nat.le_refl _⟩, hd ys H yl p⟩
theorem comp_range {lo : Int} {n : Nat} (P : Nat → List V → Hp → Prop) (hz : n ≤ sizeLine) (p0 : P 0 [] H1)
    (hs : ∀ i ys H, i < n → P i ys H → g (.int (lo + i)) (capt cap σ) H fun σ2 H2 => Kp (capt cap σ) σ2 ∧ tc σ2 H2 fun b H3 => if b = true then te σ2 H3 fun y H4 => P (i + 1) (ys ++ [y]) H4 else P (i + 1) ys H3)
    (hd : ∀ ys H, ys.length ≤ n → P n ys H → ∀ D, H D = none → Q (.ref D) (upd H D (.lst ys))) : compTurns (Itr lo n) cap σ H1 Q g tc te := by
  refine ⟨n, P, hz, p0, fun i ys H yl il p => ?_⟩
  by_cases hlt : i < n
  · refine .inr ⟨hlt, hlt, fun x H' y => ?_⟩
    obtain ⟨e, y⟩ := y
    subst e y
    exact hs i ys _ hlt p
  · have e : i = n := by omega
    subst e
    exact .inl ⟨Nat.le_refl _, hd ys H yl p⟩
end
def capB (cap : List (Option Nat)) (N' N : List Str) (names : List (Str × NameKind)) : Bool := (List.range cap.length).all fun j => match cap[j]? with
  | some (some i) => (match N'[j]? with
    | some x => decide (N[i]? = some x ∧ names.lookup x = some .free)
    | none => false)
  | _ => true
theorem capB_ok {cap : List (Option Nat)} {N' N : List Str} {names : List (Str × NameKind)} (h : capB cap N' N names = true) : ∀ j ∈ List.range cap.length, match cap[j]? with
    | some (some i) => match N'[j]? with
      | some x => N[i]? = some x ∧ names.lookup x = some .free
      | none => False
    | _ => True := by
  intro j hj
  have z := List.all_eq_true.mp h j hj
  revert z
  cases e1 : cap[j]? with
  | none => intro _; trivial
  | some o =>
    cases o with
    | none => intro _; trivial
    | some i =>
      cases e2 : N'[j]? with
      | none =>
        intro z
        dsimp only at z
        exact absurd z Bool.false_ne_true
      | some x =>
        intro z
        dsimp only at z
        exact of_decide_eq_true z
theorem op_inK {X : Cx} (K : PySem.W.Frag) (e : X.K = K) : OpR X (compareOp .In) (rIn K false) := e ▸ op_in_seq
theorem pg_tupK {X : Cx} {pos : Pos} (K : PySem.W.Frag) (e : X.K = K) {es : List Expr} {k : Nat} {t : TGs} {n : Nat} (hc : X.calm = true) (h : PGs X es t)
    (hn : (assignEach es X.env).length = n) (hst : (assignEach es X.env).findIdx? (·.1) = none) : PG X (.Tuple es k pos) (gTup K n t) := e ▸ pg_tup hc h hn hst
theorem Paired.at {α β : Type} {F : α → β → Prop} : ∀ {l₁ : List α} {l₂ : List β}, Paired F l₁ l₂ → ∀ (i : Nat) (h1 : i < l₁.length) (h2 : i < l₂.length), F l₁[i] l₂[i]
  | _, _, .cons r _, 0, _, _ => r
  | _, _, .cons _ t, i + 1, h1, h2 => Paired.at t i (by simpa using h1) (by simpa using h2)
theorem Same.tupq {K : PySem.W.Frag} {H H' : Hp} {a : Addr} {xs : List V} (e : Same H H') (h : SqT K H a xs) : SqT K H' a xs := by
  rcases h with (h | ⟨o, h⟩) | h
  · exact .inl (.inl (e _ _ h))
  · exact .inl (.inr ⟨o, e _ _ h⟩)
  · exact .inr h
theorem Same.new {q : Addr} {H : Hp} {o : HO} (h : H q = none) : Same H (upd H q o) := fun b u e => by rw [upd_ne (ne_of_none e h)]; exact e
section
variable {K : PySem.W.Frag} {l1 l2 : Addr} {xs ys : List V} {b1 b2 : Bool} {g : TG} {tc : TT} {te : TE} {cap : List (Option Nat)} {σ : St} {H1 : Hp} {Q : VK}
theorem comp_zip (P : Nat → List V → Hp → Prop) (hz : min xs.length ys.length ≤ sizeLine) (p0 : P 0 [] H1) (hl : ∀ i zs H, i ≤ min xs.length ys.length → P i zs H → SqB b1 K H l1 xs ∧ SqB b2 K H l2 ys)
    (hs : ∀ i x y zs H T, xs[i]? = some x → ys[i]? = some y → P i zs H → H T = none → g (.ref T) (capt cap σ) (upd H T (.tup [x, y])) fun σ2 H2 => Kp (capt cap σ) σ2 ∧ tc σ2 H2 fun b H3 => if b = true then te σ2 H3 fun y H4 => P (i + 1) (zs ++ [y]) H4 else P (i + 1) zs H3)
    (hd : ∀ zs H, zs.length ≤ min xs.length ys.length → P (min xs.length ys.length) zs H → ∀ D, H D = none → Q (.ref D) (upd H D (.lst zs))) : compTurns (Itz K b1 b2 l1 l2) cap σ H1 Q g tc te := by
  refine ⟨min xs.length ys.length, P, hz, p0, fun i zs H yl il p => ?_⟩
  obtain ⟨q1, q2⟩ := hl i zs H il p
  by_cases hlt : i < min xs.length ys.length
  · have h1 : i < xs.length := by omega
    have h2 : i < ys.length := by omega
    refine .inr ⟨hlt, ⟨xs, ys, xs[i], ys[i], q1, q2, by simp [h1], by simp [h2]⟩, fun v H' y => ?_⟩
    obtain ⟨T, x, y, rfl, hT, rfl, f1, f2⟩ := y
    exact hs i x y zs _ T (f1 xs q1) (f2 ys q2) p hT
  · have e : i = min xs.length ys.length := by omega
    subst e
    exact .inl ⟨⟨xs, ys, q1, q2, by omega⟩, hd zs H yl p⟩
end
end L2
set_option Elab.async false
set_option linter.all false
set_option maxRecDepth 100000
set_option maxHeartbeats 400000
namespace K58
open PySem L2 PyProof.Rows
def top (i : Nat) : Stmt := PySem.Challenge.pw_partedweb_k58_pairs_of_groups.main.body.getD i (.Pass ⟨0, 0, 0, 0⟩)
abbrev sPairsOf : Stmt := top 1
abbrev sCell : Stmt := top 3
abbrev sBox : Stmt := top 4
abbrev sTake : Stmt := top 5
abbrev sMany : Stmt := top 6
abbrev sSame : Stmt := top 7
abbrev sGroup : Stmt := top 8
abbrev sDue : Stmt := top 9
abbrev sLaw : Stmt := top 10
def Kept (p : Addr) (H H' : Hp) : Prop := ∀ b o, b ≠ p → H b = some o → H' b = some o
theorem Kept.trans {p : Addr} {H H' H'' : Hp} (a : Kept p H H') (b : Kept p H' H'') : Kept p H H'' := fun c o n e => b c o n (a c o n e)
theorem Kept.new {p q : Addr} {H : Hp} {o : HO} (h : H q = none) : Kept p H (upd H q o) := fun b u _ e => by rw [upd_ne (ne_of_none e h)]; exact e
theorem Kept.at {p : Addr} {H : Hp} {o : HO} : Kept p H (upd H p o) := fun b u n e => by rw [upd_ne n]; exact e
def BoxAt (H : Hp) (p : Addr) (N : Nat) : Prop := ∃ a b c : Int, H p = some (.lst [.int a, .int b, .int c]) ∧ 0 ≤ a ∧ 0 ≤ c ∧ c ≤ (N : Int)
theorem BoxAt.mono {H : Hp} {p : Addr} {N M : Nat} (x : BoxAt H p N) (h : N ≤ M) : BoxAt H p M := by
  obtain ⟨a, b, c, e, h1, h2, h3⟩ := x
  exact ⟨a, b, c, e, h1, h2, by omega⟩
theorem BoxAt.new {H : Hp} {p q : Addr} {N : Nat} {o : HO} (x : BoxAt H p N) (h : H q = none) : BoxAt (upd H q o) p N := by
  obtain ⟨a, b, c, e, r⟩ := x
  exact ⟨a, b, c, by rw [upd_ne (ne_of_none e h)]; exact e, r⟩
theorem b01 (b : Bool) : -(2 ^ 64) < (if b = true then 1 else 0 : Int) ∧ (if b = true then 1 else 0 : Int) < 2 ^ 64 := by cases b <;> decide
theorem b0 (b : Bool) : (0 : Int) ≤ (if b = true then 1 else 0 : Int) := by cases b <;> decide
def spCell (K : PySem.W.Frag) : Sp := fun vs H Q _ => ∃ (a : Addr) (ns : List Int) (k : Nat), vs = [.ref a, .int k] ∧ SqL K H a (ns.map V.int) ∧ ∀ z, Q (.int z) H
def spBox (K : PySem.W.Frag) : Sp := fun vs H Q _ => ∃ (a : Addr) (ns : List Int) (k : Nat), vs = [.ref a, .int k] ∧ SqL K H a (ns.map V.int) ∧ ∀ p H', H p = none → BoxAt H' p 0 → Kept p H H' → Q (.ref p) H'
def spTake : Sp := fun vs H Q _ => ∃ (p : Addr) (m : Int) (N : Nat), vs = [.ref p, .int m] ∧ BoxAt H p N ∧ N < 2 ^ 40 ∧ 0 < m ∧ m < 1073741824 ∧ ∀ z H', 0 ≤ z → z < m → BoxAt H' p (N + 1) → Kept p H H' → Q (.int z) H'
def spMany : Sp := fun vs H Q _ => ∃ (p : Addr) (l f m : Int) (N : Nat), vs = [.ref p, .int l, .int f, .int m] ∧ BoxAt H p N ∧ N + 2 < 2 ^ 40 ∧ l ≤ f ∧ 7 ≤ m ∧ f - l < 1000 ∧ m < 1000 ∧ ∀ z H', (l ≤ z ∧ z ≤ f) ∨ (7 ≤ z ∧ z ≤ m) → BoxAt H' p (N + 2) → Kept p H H' → Q (.int z) H'
structure Txt (mg : Str → Option Value) : Prop where
  abs : mg "abs" = none
  int : mg "int" = none
  len : mg "len" = none
  range : mg "range" = none
  min : mg "min" = none
  max : mg "max" = none
  tuple : mg "tuple" = none
  sorted : mg "sorted" = none
  isinst : mg "isinstance" = none
  list : mg "list" = none
  str : mg "str" = none
  bool : mg "bool" = none
  sum : mg "sum" = none
section
variable {P : Program} {w : World} {K : PySem.W.Frag} {mg : Str → Option Value} {base : Heap}
theorem scCell : FnScope ["_law_script", "_law_k"] ["_law_script", "_law_k"] (defScope sCell) := ⟨rfl, rfl, rfl, by decide +kernel, rfl, by decide +kernel, by decide +kernel⟩
theorem ok_cell {f : Addr} {fd : FuncData} (F : Fun K "_law_cell_at" "_law_cell_at" sCell f fd) (T : Txt mg) : FnOk P w K mg base CX0 1 f fd ["_law_script", "_law_k"] (spCell K) := by
  refine F.ok scCell (fun vs H Q E h => ?_) (fun cdv A outer s H vs Q E hr h => ?_)
  · obtain ⟨a, ns, k, rfl, _⟩ := h
    rfl
  · obtain ⟨a, ns, k, rfl, hS, q⟩ := h
    refine ⟨_, pss_cons (ps_if (pt_cmpR op_lt (pv 1) (pe_callB call_len_seq (by rfl) T.len PySem.boot_len (pa_cons (pv 0) pa_nil)) (nomark _)) (pss_one (ps_ret (pe_ix ix_list (pv 0) (pv 1) (fun _ _ => rfl)))) pss_nil) (pss_one (ps_ret pe_int)), ?_⟩
    refine ⟨_, rfl, _, rfl, a, _, rfl, .inl hS, _, _, rfl, rfl, _, rfl, ?_⟩
    refine ite2 (fun hk => ?_) (fun _ => ?_)
    · have hk' : k < ns.length := by
        have := of_decide_eq_true hk
        rw [List.length_map] at this
        omega
      exact ⟨_, rfl, _, rfl, a, _, _, _, rfl, rfl, hS, atI_nat (v := V.int ns[k]) (by rw [List.getElem?_map, List.getElem?_eq_getElem hk']; rfl), q _⟩
    · exact q _
theorem scBox : FnScope ["_law_script", "_law_k", "_law_cell"] ["_law_script", "_law_k"] (defScope sBox) := ⟨rfl, rfl, rfl, by decide +kernel, rfl, by decide +kernel, by decide +kernel⟩
theorem ok_box {f g : Addr} {fd gd : FuncData} (F : Fun K "_law_box" "_law_box" sBox f fd) (T : Txt mg) (G : Fun K "_law_cell_at" "_law_cell_at" sCell g gd) (mG : mg "_law_cell_at" = some (.ref g)) (bG : Binds K gd ["_law_script", "_law_k"] []) : FnOk P w K mg base CX0 2 f fd ["_law_script", "_law_k"] (spBox K) := by
  refine F.ok scBox (fun vs H Q E h => ?_) (fun cdv A outer s H vs Q E hr h => ?_)
  · obtain ⟨a, ns, k, rfl, _⟩ := h
    rfl
  · obtain ⟨a, ns, k, rfl, hS, q⟩ := h
    have GG : FnOk P w K mg base CX0 1 g gd ["_law_script", "_law_k"] (spCell K) := ok_cell G T
    refine ⟨_, pss_cons (ps_set (i := 2) scBox.nd rfl (Or.inl rfl) (pe_call GG hr rfl mG G.kp bG .nil pass0 (pa_cons (pv 0) (pa_cons (pv 1) pa_nil))))
      (pss_one (ps_ret (pe_lst (pa_cons (pe_op op_mul (pe_callB call_abs (by rfl) T.abs boot_abs (pa_cons (pv 2) pa_nil)) (pe_callTy call_int1 (by rfl) T.int boot_int (pa_cons (pe_cmpR op_ge (pe_callB call_abs (by rfl) T.abs boot_abs (pa_cons (pv 2) pa_nil)) (pe_op op_pow pe_int pe_int) (nomark _)) pa_nil)))
        (pa_cons (pe_op op_add (pe_op op_add (pe_op op_mod (pv 2) pe_int) (pe_op op_mul pe_int (pv 1))) pe_int) (pa_cons pe_int pa_nil)))))), ?_⟩
    refine ⟨_, rfl, _, rfl, a, ns, k, rfl, hS, fun z => ?_⟩
    refine ⟨_, rfl, _, rfl, _, rfl, _, rfl, _, _, rfl, rfl, ⟨by decide, by decide, by decide⟩, _, _, rfl, rfl, .inr ⟨_, rfl, _, _, rfl, rfl, .inr ?_, _, rfl, _, _, rfl, rfl, (by show (0 : Int) < 2305843009213693951; decide), _, rfl, _, _, rfl, rfl, .inl ⟨by decide, by decide⟩, _, _, rfl, rfl, _, _, rfl, rfl, (by show 3 ≤ sizeLine; decide), fun p hp => ?_⟩⟩
    · exact b01 _
    · refine q p _ hp ⟨_, _, _, upd_same, ?_, by decide, by decide⟩ (Kept.new hp)
      refine Int.mul_nonneg ?_ ?_
      · split <;> omega
      · exact b0 _
theorem scTake : FnScope ["_law_box_here", "_law_many_here", "_law_found", "_law_once", "_law_twice"] ["_law_box_here", "_law_many_here"] (defScope sTake) := ⟨rfl, rfl, rfl, by decide +kernel, rfl, by decide +kernel, by decide +kernel⟩
theorem ok_take {f : Addr} {fd : FuncData} (F : Fun K "_law_take" "_law_take" sTake f fd) : FnOk P w K mg base CX0 1 f fd ["_law_box_here", "_law_many_here"] spTake := by
  refine F.ok scTake (fun vs H Q E h => ?_) (fun cdv A outer s H vs Q E hr h => ?_)
  · obtain ⟨p, m, N, rfl, _⟩ := h
    rfl
  · obtain ⟨p, m, N, rfl, ⟨a, b, c, hp, a0, c0, cN⟩, hN, m0, m1, q⟩ := h
    have hS : ∀ {x y z : Int} {G : Hp}, G p = some (.lst [.int x, .int y, .int z]) → SqL K G p [.int x, .int y, .int z] := fun e => SqL.of e
    refine ⟨_, pss_cons (ps_if (pt_cmpR op_gt (pe_ix ix_list (pv 0) pe_int (fun _ _ => rfl)) pe_int (nomark _))
        (pss_cons (ps_set (i := 2) scTake.nd rfl (Or.inl rfl) (pe_op op_mod (pe_ix ix_list (pv 0) pe_int (fun _ _ => rfl)) (pv 1)))
          (pss_cons (ps_asg (pe_op op_fdiv (pe_ix ix_list (pv 0) pe_int (fun _ _ => rfl)) (pv 1)) (pg_sub (pv 0) pe_int set_list))
          (pss_one (ps_ret (pv 2))))) pss_nil)
      (pss_cons (ps_asg (pe_op op_add (pe_ix ix_list (pv 0) pe_int (fun _ _ => rfl)) pe_int) (pg_sub (pv 0) pe_int set_list))
      (pss_cons (ps_set (i := 3) scTake.nd rfl (Or.inl rfl) (pe_op op_mod (pe_op op_mul (pe_op op_add (pe_ix ix_list (pv 0) pe_int (fun _ _ => rfl)) (pe_op op_mul pe_int (pe_ix ix_list (pv 0) pe_int (fun _ _ => rfl)))) (pe_op op_add pe_int (pe_ix ix_list (pv 0) pe_int (fun _ _ => rfl)))) pe_int))
      (pss_cons (ps_set (i := 4) scTake.nd rfl (Or.inl rfl) (pe_op op_mod (pe_op op_mul (pe_op op_add (pv 3) (pe_ix ix_list (pv 0) pe_int (fun _ _ => rfl))) (pe_op op_add (pe_op op_mod (pv 3) pe_int) pe_int)) pe_int))
      (pss_one (ps_ret (pe_op op_mod (pe_op op_fdiv (pe_op op_mod (pe_op op_add (pe_op op_mul (pv 4) pe_int) (pv 3)) pe_int) pe_int) (pv 1))))))), ?_⟩
    refine ⟨_, rfl, p, _, _, _, rfl, rfl, hS hp, rfl, _, _, rfl, rfl, _, rfl, ?_⟩
    refine ite2 (fun hk => ?_) (fun _ => ?_)
    · have pos : 0 < a := of_decide_eq_true hk
      refine ⟨_, rfl, p, _, _, _, rfl, rfl, hS hp, rfl, _, rfl, _, _, rfl, rfl, m0, ?_⟩
      refine ⟨_, rfl, p, _, _, _, rfl, rfl, hS hp, rfl, _, rfl, _, _, rfl, rfl, ⟨m0, m1⟩, _, rfl, p, _, _, _, rfl, rfl, hp, rfl, _, rfl, ?_⟩
      refine q _ _ (Int.emod_nonneg _ (by omega)) (Int.emod_lt_of_pos _ m0) ⟨_, _, _, upd_same, Int.ediv_nonneg a0 (by omega), c0, by omega⟩ Kept.at
    · refine ⟨_, rfl, p, _, _, _, rfl, rfl, hS hp, rfl, _, _, rfl, rfl, _, rfl, p, _, _, _, rfl, rfl, hp, rfl, ?_⟩
      have g1 : (upd H p (.lst [.int a, .int b, .int (c + 1)])) p = some (.lst [.int a, .int b, .int (c + 1)]) := upd_same
      refine ⟨_, rfl, p, _, _, _, rfl, rfl, hS g1, rfl, _, rfl, p, _, _, _, rfl, rfl, hS g1, rfl, _, _, rfl, rfl, .inl ⟨by decide, by decide⟩, _, _, rfl, rfl, _, rfl, p, _, _, _, rfl, rfl, hS g1, rfl, _, _, rfl, rfl, _, _, rfl, rfl, .inr ⟨by omega, by omega⟩, _, _, rfl, rfl, (by show (0 : Int) < 2147483647; decide), ?_⟩
      generalize ho : (b + 48271 * (c + 1)) * (39373 + (c + 1)) % 2147483647 = once
      have o0 : 0 ≤ once := by rw [← ho]; exact Int.emod_nonneg _ (by decide)
      have o1 : once < 2147483647 := by rw [← ho]; exact Int.emod_lt_of_pos _ (by decide)
      refine ⟨_, rfl, _, rfl, p, _, _, _, rfl, rfl, hS g1, rfl, _, _, rfl, rfl, _, rfl, _, _, rfl, rfl, (by show (0 : Int) < 40009; decide), _, _, rfl, rfl, _, _, rfl, rfl, .inl ⟨by omega, by omega⟩, _, _, rfl, rfl, (by show (0 : Int) < 2147483629; decide), ?_⟩
      generalize ht : (once + (c + 1)) * (once % 40009 + 7) % 2147483629 = twice
      have t0 : 0 ≤ twice := by rw [← ht]; exact Int.emod_nonneg _ (by decide)
      have t1 : twice < 2147483629 := by rw [← ht]; exact Int.emod_lt_of_pos _ (by decide)
      refine ⟨_, rfl, _, _, rfl, rfl, .inl ⟨by omega, by omega⟩, _, rfl, _, _, rfl, rfl, _, _, rfl, rfl, (by show (0 : Int) < 2147483587; decide), _, _, rfl, rfl, ⟨by decide, by decide⟩, _, rfl, _, _, rfl, rfl, m0, ?_⟩
      exact q _ _ (Int.emod_nonneg _ (by omega)) (Int.emod_lt_of_pos _ m0) ⟨_, _, _, g1, a0, by omega, by omega⟩ Kept.at
theorem scMany : FnScope ["_law_box_here", "_law_least", "_law_few", "_law_most"] ["_law_box_here", "_law_least", "_law_few", "_law_most"] (defScope sMany) := ⟨rfl, rfl, rfl, by decide +kernel, rfl, by decide +kernel, by decide +kernel⟩
structure TakeF (P : Program) (w : World) (K : PySem.W.Frag) (mg : Str → Option Value) (base : Heap) (g : Addr) (gd : FuncData) : Prop where
  ok : FnOk P w K mg base CX0 1 g gd ["_law_box_here", "_law_many_here"] spTake
  mg : mg "_law_take" = some (.ref g)
  kp : PySem.W.keepIn K (.ref g) = true
  bd : Binds K gd ["_law_box_here", "_law_many_here"] []
theorem ok_many {f g : Addr} {fd gd : FuncData} (F : Fun K "_law_many" "_law_many" sMany f fd) (G : TakeF P w K mg base g gd) : FnOk P w K mg base CX0 2 f fd ["_law_box_here", "_law_least", "_law_few", "_law_most"] spMany := by
  refine F.ok scMany (fun vs H Q E h => ?_) (fun cdv A outer s H vs Q E hr h => ?_)
  · obtain ⟨p, l, f, m, N, rfl, _⟩ := h
    rfl
  · obtain ⟨p, l, f, m, N, rfl, B, hN, lf, m7, fl, mm, q⟩ := h
    refine ⟨_, pss_cons (ps_if (pt_cmpR op_eq (pe_call G.ok hr rfl G.mg G.kp G.bd .nil pass0 (pa_cons (pv 0) (pa_cons pe_int pa_nil))) pe_int (nomark _))
      (pss_one (ps_ret (pe_op op_add pe_int (pe_call G.ok hr rfl G.mg G.kp G.bd .nil pass0 (pa_cons (pv 0) (pa_cons (pe_op op_sub (pv 3) pe_int) pa_nil)))))) pss_nil)
      (pss_one (ps_ret (pe_op op_add (pv 1) (pe_call G.ok hr rfl G.mg G.kp G.bd .nil pass0 (pa_cons (pv 0) (pa_cons (pe_op op_add (pe_op op_sub (pv 2) (pv 1)) pe_int) pa_nil)))))), ?_⟩
    refine ⟨_, rfl, p, _, N, rfl, B, by omega, by decide, by decide, fun z H1 z0 z1 B1 k1 => ⟨rfl, _, rfl, ?_⟩⟩
    refine ite2 (fun _ => ?_) (fun _ => ?_)
    · refine ⟨_, rfl, _, rfl, _, _, rfl, rfl, p, _, N + 1, rfl, B1, by omega, by omega, by omega, fun y H2 y0 y1 B2 k2 => ⟨_, _, rfl, rfl, ?_⟩⟩
      exact q _ _ (.inr ⟨by omega, by omega⟩) B2 (k1.trans k2)
    · refine ⟨_, rfl, _, rfl, _, rfl, _, rfl, _, _, rfl, rfl, _, _, rfl, rfl, p, _, N + 1, rfl, B1, by omega, by omega, by omega, fun y H2 y0 y1 B2 k2 => ⟨_, _, rfl, rfl, ?_⟩⟩
      exact q _ _ (.inl ⟨by omega, by omega⟩) B2 (k1.trans k2)
end
theorem flat_ints (ns : List Int) : (ns.map V.int).all flatV = true := by
  rw [List.all_map, List.all_eq_true]
  intro x _
  rfl
theorem inV_ints (z : Int) : ∀ ns : List Int, inV (V.int z) (ns.map V.int) = ns.contains z
  | [] => rfl
  | n :: ns => by
    have ih := inV_ints z ns
    unfold inV at ih ⊢
    rw [List.map_cons, List.any_cons, ih, List.contains_cons]
    congr 1
    show (n == z) = (z == n)
    exact Bool.beq_comm
theorem Kept.free {p l : Addr} {H H' : Hp} {M : Nat} (k : Kept p H H') (B : BoxAt H' p M) (h : H' l = none) : H l = none := by
  cases e : H l with
  | none => rfl
  | some o =>
    by_cases lp : l = p
    · obtain ⟨a, b, c, e1, _⟩ := B
      rw [lp, e1] at h
      cases h
    · rw [k l o lp e] at h
      cases h
theorem BoxAt.ne {H : Hp} {p l : Addr} {N : Nat} (B : BoxAt H p N) (h : H l = none) : l ≠ p := fun e => by
  obtain ⟨a, b, c, e1, _⟩ := B
  rw [e, e1] at h
  cases h
theorem Kept.put {p d : Addr} {H H' : Hp} {o : HO} (k : Kept p H H') (h : H d = none) : Kept p H (upd H' d o) := fun b u n e => by
  rw [upd_ne (ne_of_none e h)]
  exact k b u n e
theorem BoxAt.put {H : Hp} {p d : Addr} {N : Nat} {o : HO} (B : BoxAt H p N) (h : d ≠ p) : BoxAt (upd H d o) p N := by
  obtain ⟨a, b, c, e, r⟩ := B
  exact ⟨a, b, c, by rw [upd_ne (Ne.symm h)]; exact e, r⟩
theorem tTru_if {σ : L2.St} {H : Hp} {A B : Hp → Prop} (h : A H) : tTru σ H (fun b H3 => if b = true then A H3 else B H3) := by
  show if true = true then A H else B H
  exact iteT h
end K58
set_option Elab.async false
set_option linter.all false
set_option maxRecDepth 100000
set_option maxHeartbeats 4000000
namespace L2
open PySem PySem.W PyProof.Rows HT
end L2
set_option Elab.async false
set_option linter.all false
set_option maxRecDepth 100000
set_option maxHeartbeats 400000
namespace SetA
open PySem
def Rs (xs : Array Nat) : Prop := ∀ i j, i < j → j < xs.size → xs.getD i 0 < xs.getD j 0
theorem getD_any {xs : Array Nat} {i d e : Nat} (h : i < xs.size) : xs.getD i d = xs.getD i e := by
  rw [Array.getD_eq_getD_getElem?, Array.getD_eq_getD_getElem?, Array.getElem?_eq_getElem h]
  rfl
theorem go_spec {xs : Array Nat} {j : Nat} (r : Rs xs) : ∀ (fuel lo hi : Nat), hi - lo ≤ fuel → lo ≤ hi → hi ≤ xs.size → (∀ i, i < lo → xs.getD i 0 < j) → (∀ i, hi ≤ i → i < xs.size → j ≤ xs.getD i 0) →
    SetTable.below.go xs j fuel lo hi ≤ xs.size ∧ (∀ i, i < SetTable.below.go xs j fuel lo hi → xs.getD i 0 < j) ∧ ∀ i, SetTable.below.go xs j fuel lo hi ≤ i → i < xs.size → j ≤ xs.getD i 0
  | 0, lo, hi, f, l, h, a, b => by
    have e : lo = hi := by omega
    subst e
    exact ⟨h, a, b⟩
  | fuel + 1, lo, hi, f, l, h, a, b => by
    unfold SetTable.below.go
    by_cases c : lo < hi
    · rw [if_pos c]
      dsimp only
      have m1 : (lo + hi) / 2 < hi := by omega
      have m0 : lo ≤ (lo + hi) / 2 := by omega
      have ms : (lo + hi) / 2 < xs.size := by omega
      rw [getD_any (e := 0) ms]
      by_cases d : xs.getD ((lo + hi) / 2) 0 < j
      · rw [if_pos d]
        refine go_spec r fuel _ hi (by omega) (by omega) h (fun i hi' => ?_) b
        by_cases e : i = (lo + hi) / 2
        · rw [e]; exact d
        · have := r i ((lo + hi) / 2) (by omega) ms
          omega
      · rw [if_neg d]
        refine go_spec r fuel lo _ (by omega) m0 (by omega) a fun i hi' his => ?_
        by_cases e : i = (lo + hi) / 2
        · rw [e]; omega
        · have := r ((lo + hi) / 2) i (by omega) his
          omega
    · rw [if_neg c]
      have e : lo = hi := by omega
      subst e
      exact ⟨h, a, b⟩
theorem below_spec {xs : Array Nat} (r : Rs xs) (j : Nat) : SetTable.below xs j ≤ xs.size ∧ (∀ i, i < SetTable.below xs j → xs.getD i 0 < j) ∧ ∀ i, SetTable.below xs j ≤ i → i < xs.size → j ≤ xs.getD i 0 :=
  go_spec r xs.size 0 xs.size (by omega) (by omega) (Nat.le_refl _) (fun i h => absurd h (by omega)) fun i h h' => absurd h' (by omega)
theorem below_at {xs : Array Nat} (r : Rs xs) {i j : Nat} (h : xs[i]? = some j) : SetTable.below xs j = i := by
  obtain ⟨p1, p2, p3⟩ := below_spec r j
  obtain ⟨hi, e⟩ := Array.getElem?_eq_some_iff.mp h
  have eg : xs.getD i 0 = j := by rw [Array.getD_eq_getD_getElem?, h]; rfl
  by_cases a : i < SetTable.below xs j
  · have := p2 i a
    omega
  · by_cases b : SetTable.below xs j = i
    · exact b
    · have lt : SetTable.below xs j < i := by omega
      have := r _ i lt hi
      have := p3 (SetTable.below xs j) (Nat.le_refl _) (by omega)
      omega
theorem slot_live {t : SetTable} (r : Rs t.place) {i j : Nat} (h : t.place[i]? = some j) : t.slot j = .live i := by
  unfold SetTable.slot
  dsimp only
  rw [below_at r h, h]
  simp
theorem slot_empty {t : SetTable} (hd : t.dummies = #[]) {j : Nat} (h : ∀ i : Nat, t.place[i]? ≠ some j) : t.slot j = .empty := by
  unfold SetTable.slot
  dsimp only
  have e : (t.place[SetTable.below t.place j]? == some j) = false := Bool.eq_false_iff.mpr fun z => h _ (by simpa using z)
  rw [e, hd]
  rfl
theorem insertAt_get {α : Type} (xs : Array α) (p : Nat) (x : α) (hp : p ≤ xs.size) (i : Nat) : (SetTable.insertAt xs p x)[i]? = if i < p then xs[i]? else if i = p then some x else xs[i - 1]? := by
  have e : (SetTable.insertAt xs p x).toList = xs.toList.take p ++ x :: xs.toList.drop p := by
    rw [SetTable.toList_insertAt]
  rw [← Array.getElem?_toList, e]
  have ht : (xs.toList.take p).length = p := by rw [List.length_take, Array.length_toList]; omega
  by_cases a : i < p
  · rw [if_pos a, List.getElem?_append_left (by omega), List.getElem?_take_of_lt a, Array.getElem?_toList]
  · rw [if_neg a, List.getElem?_append_right (by omega), ht]
    by_cases b : i = p
    · rw [if_pos b, b, Nat.sub_self]
      rfl
    · rw [if_neg b]
      obtain ⟨k, hk⟩ : ∃ k, i - p = k + 1 := ⟨i - p - 1, by omega⟩
      rw [hk, List.getElem?_cons_succ, List.getElem?_drop, ← Array.getElem?_toList]
      congr 1
      omega
def adv (mask : Nat) (p : SetTable.Probe) : SetTable.Probe := SetTable.advance { (default : SetTable) with mask } p
def st0 (mask : Nat) (h : Int) : SetTable.Probe := SetTable.probeStart { (default : SetTable) with mask } h
def pth (mask : Nat) (h : Int) : Nat → SetTable.Probe
  | 0 => st0 mask h
  | k + 1 => adv mask (pth mask h k)
theorem adv_dummy {mask : Nat} {p : SetTable.Probe} (h : p.dummy = none) : (adv mask p).dummy = none := by
  unfold adv SetTable.advance
  split
  · exact h
  · exact h
theorem pth_dummy {mask : Nat} {h : Int} : ∀ k, (pth mask h k).dummy = none
  | 0 => rfl
  | k + 1 => adv_dummy (pth_dummy k)
section
variable {t : SetTable} {hashAt : Nat → Int} {h : Int}
theorem go_empty {fuel : Nat} {k : Nat} (e : t.slot (pth t.mask h k).j = .empty) : SetTable.probe.go t hashAt h (fuel + 1) (pth t.mask h k) = some (.empty (pth t.mask h k).j none) := by
  unfold SetTable.probe.go
  rw [e, pth_dummy]
theorem go_hit {fuel : Nat} {k i : Nat} (e : t.slot (pth t.mask h k).j = .live i) (eh : hashAt i = h) : SetTable.probe.go t hashAt h (fuel + 1) (pth t.mask h k) = some (.candidate (pth t.mask h k).j i (pth t.mask h (k + 1))) := by
  unfold SetTable.probe.go
  rw [e]
  dsimp only
  rw [if_pos (by simp [eh])]
  rfl
theorem go_skip {fuel : Nat} {k i : Nat} (e : t.slot (pth t.mask h k).j = .live i) (eh : hashAt i ≠ h) : SetTable.probe.go t hashAt h (fuel + 1) (pth t.mask h k) = SetTable.probe.go t hashAt h fuel (pth t.mask h (k + 1)) := by
  conv => lhs; unfold SetTable.probe.go
  rw [e]
  dsimp only
  rw [if_neg (by simp [eh])]
  rfl
theorem go_on {n : Nat} : ∀ {fuel k : Nat}, k ≤ n → n < k + fuel → (∀ m, k ≤ m → m < n → ∃ i, t.slot (pth t.mask h m).j = .live i ∧ hashAt i ≠ h) → ∃ fuel', SetTable.probe.go t hashAt h fuel (pth t.mask h k) = SetTable.probe.go t hashAt h (fuel' + 1) (pth t.mask h n)
  | 0, k, a, b, _ => absurd b (by omega)
  | fuel + 1, k, a, b, sk => by
    by_cases e : k = n
    · subst e; exact ⟨fuel, rfl⟩
    · obtain ⟨i, e1, e2⟩ := sk k (Nat.le_refl _) (by omega)
      obtain ⟨f', ef⟩ := go_on (n := n) (fuel := fuel) (k := k + 1) (by omega) (by omega) fun m hm1 hm2 => sk m (by omega) hm2
      exact ⟨f', by rw [go_skip e1 e2, ef]⟩
end
theorem run_on {mask : Nat} {h : Int} : ∀ (r k : Nat), (pth mask h k).more = r → (pth mask h (k + r)).i = (pth mask h k).i ∧ (pth mask h (k + r)).perturb = (pth mask h k).perturb ∧ (pth mask h (k + r)).more = 0
  | 0, k, e => ⟨rfl, rfl, e⟩
  | r + 1, k, e => by
    have st : pth mask h (k + 1) = { pth mask h k with j := (pth mask h k).j + 1, more := (pth mask h k).more - 1 } := by
      show adv mask (pth mask h k) = _
      unfold adv SetTable.advance
      rw [if_pos (by omega)]
    have e1 : (pth mask h (k + 1)).more = r := by rw [st]; show (pth mask h k).more - 1 = r; omega
    obtain ⟨a, b, c⟩ := run_on (mask := mask) (h := h) r (k + 1) e1
    have ek : k + (r + 1) = k + 1 + r := by omega
    rw [ek, a, b, c, st]
    exact ⟨rfl, rfl, rfl⟩
def rn (mask : Nat) (h : Int) : Nat → Nat × Nat
  | 0 => (SetTable.bits h % (mask + 1), SetTable.bits h)
  | m + 1 => SetTable.leap mask (rn mask h m).1 (rn mask h m).2
theorem runEnd_le {mask i : Nat} : SetTable.runEnd mask i - i ≤ 9 := by
  unfold SetTable.runEnd
  split <;> omega
theorem rn_at {mask : Nat} {h : Int} : ∀ m, ∃ k, k ≤ 10 * m ∧ (pth mask h k).j = (rn mask h m).1 ∧ (pth mask h k).i = (rn mask h m).1 ∧ (pth mask h k).perturb = (rn mask h m).2 ∧ (pth mask h k).more ≤ 9
  | 0 => ⟨0, Nat.le_refl _, rfl, rfl, rfl, runEnd_le⟩
  | m + 1 => by
    obtain ⟨k, hk, e1, e2, e3, e4⟩ := rn_at (mask := mask) (h := h) m
    obtain ⟨a, b, c⟩ := run_on (mask := mask) (h := h) _ k rfl
    refine ⟨k + (pth mask h k).more + 1, by omega, ?_⟩
    have st : pth mask h (k + (pth mask h k).more + 1) = { pth mask h (k + (pth mask h k).more) with j := (rn mask h (m + 1)).1, more := SetTable.runEnd mask (rn mask h (m + 1)).1 - (rn mask h (m + 1)).1, i := (rn mask h (m + 1)).1, perturb := (rn mask h (m + 1)).2 } := by
      show adv mask (pth mask h (k + (pth mask h k).more)) = _
      unfold adv SetTable.advance
      rw [if_neg (by omega), a, b, e2, e3]
      rfl
    rw [st]
    exact ⟨rfl, rfl, rfl, runEnd_le⟩
theorem bits_lt (h : Int) : SetTable.bits h < 2 ^ 64 := by
  unfold SetTable.bits
  have h1 := Int.emod_nonneg h (show (2 ^ 64 : Int) ≠ 0 by decide)
  have h2 := Int.emod_lt_of_pos h (show (0 : Int) < 2 ^ 64 by decide)
  omega
theorem rn_pert {mask : Nat} {h : Int} : ∀ m, (rn mask h m).2 = SetTable.bits h / 32 ^ m
  | 0 => by show SetTable.bits h = _; rw [Nat.pow_zero, Nat.div_one]
  | m + 1 => by
    show (rn mask h m).2 / 32 = _
    rw [rn_pert m, Nat.div_div_eq_div_mul, Nat.pow_succ]
theorem rn_still {mask : Nat} {h : Int} {m : Nat} (hm : 13 ≤ m) : (rn mask h m).2 = 0 := by
  rw [rn_pert]
  refine Nat.div_eq_of_lt (Nat.lt_of_lt_of_le (bits_lt h) ?_)
  exact Nat.le_trans (show 2 ^ 64 ≤ 32 ^ 13 by decide) (Nat.pow_le_pow_right (by decide) hm)
def ff (mask x : Nat) : Nat := (x * 5 + 1) % (mask + 1)
def it (mask : Nat) : Nat → Nat → Nat
  | 0, x => x
  | n + 1, x => it mask n (ff mask x)
theorem it_add {mask : Nat} : ∀ (a b x : Nat), it mask (a + b) x = it mask b (it mask a x)
  | 0, b, x => by rw [Nat.zero_add]; rfl
  | a + 1, b, x => by
    rw [show a + 1 + b = (a + b) + 1 by omega]
    exact it_add a b (ff mask x)
theorem rn_it {mask : Nat} {h : Int} : ∀ n, (rn mask h (13 + n)).1 = it mask n (rn mask h 13).1
  | 0 => rfl
  | n + 1 => by
    have e : it mask (n + 1) (rn mask h 13).1 = ff mask (it mask n (rn mask h 13).1) := it_add n 1 _
    rw [e, ← rn_it n]
    show ((rn mask h (13 + n)).1 * 5 + 1 + (rn mask h (13 + n)).2 / 32) % (mask + 1) = _
    rw [rn_still (by omega), Nat.zero_div, Nat.add_zero]
    rfl
def trail (mask : Nat) : Nat → Nat → List Nat
  | 0, _ => []
  | n + 1, x => x :: trail mask n (ff mask x)
def roundB (mask : Nat) : Bool := ((List.range (mask + 1)).all fun j => (trail mask (mask + 1) 0).contains j) && it mask (mask + 1) 0 == 0
theorem round7 : roundB 7 = true := by decide +kernel
theorem round31 : roundB 31 = true := by decide +kernel
theorem round127 : roundB 127 = true := by decide +kernel
theorem round511 : roundB 511 = true := by decide +kernel
def mark : List Nat → Nat
  | [] => 0
  | x :: l => 2 ^ x ||| mark l
theorem mark_mem : ∀ {l : List Nat} {j : Nat}, (mark l).testBit j = true → j ∈ l
  | [], j, h => by simp [mark] at h
  | x :: l, j, h => by
    rw [mark, Nat.testBit_or, Bool.or_eq_true] at h
    rcases h with h | h
    · rw [Nat.testBit_two_pow] at h
      exact List.mem_cons.mpr (.inl (of_decide_eq_true h).symm)
    · exact List.mem_cons_of_mem _ (mark_mem h)
theorem mark2047 : (mark (trail 2047 2048 0) == 2 ^ 2048 - 1 && it 2047 2048 0 == 0) = true := by decide +kernel
theorem round2047 : roundB 2047 = true := by
  have h := mark2047
  rw [Bool.and_eq_true] at h
  unfold roundB
  rw [Bool.and_eq_true]
  refine ⟨List.all_eq_true.mpr fun j hj => ?_, h.2⟩
  have e : mark (trail 2047 2048 0) = 2 ^ 2048 - 1 := beq_iff_eq.mp h.1
  have b : (mark (trail 2047 2048 0)).testBit j = true := by
    rw [e, Nat.testBit_two_pow_sub_one]
    exact decide_eq_true (List.mem_range.mp hj)
  exact List.contains_iff_mem.mpr (mark_mem b)
theorem trail_it {mask : Nat} : ∀ {n x j : Nat}, j ∈ trail mask n x → ∃ k, k < n ∧ it mask k x = j
  | 0, x, j, h => nomatch h
  | n + 1, x, j, h => by
    rcases List.mem_cons.mp h with e | h
    · exact ⟨0, by omega, e.symm⟩
    · obtain ⟨k, hk, e⟩ := trail_it h
      exact ⟨k + 1, by omega, e⟩
theorem round_ok {mask : Nat} (r : roundB mask = true) {a j : Nat} (ha : a ≤ mask) (hj : j ≤ mask) : ∃ n, n ≤ mask ∧ it mask n a = j := by
  unfold roundB at r
  rw [Bool.and_eq_true, List.all_eq_true] at r
  obtain ⟨r1, r2⟩ := r
  have r2 : it mask (mask + 1) 0 = 0 := by simpa using r2
  obtain ⟨x, hx, ex⟩ := trail_it (by simpa using r1 a (List.mem_range.mpr (by omega)))
  obtain ⟨y, hy, ey⟩ := trail_it (by simpa using r1 j (List.mem_range.mpr (by omega)))
  by_cases c : x ≤ y
  · refine ⟨y - x, by omega, ?_⟩
    rw [← ex, ← it_add, show x + (y - x) = y by omega]
    exact ey
  · refine ⟨mask + 1 + y - x, by omega, ?_⟩
    rw [← ex, ← it_add, show x + (mask + 1 + y - x) = (mask + 1) + y by omega, it_add, r2]
    exact ey
def Mk (mask : Nat) : Prop := mask = 7 ∨ mask = 31 ∨ mask = 127 ∨ mask = 511 ∨ mask = 2047
theorem Mk.round {mask : Nat} (m : Mk mask) : roundB mask = true := by
  rcases m with rfl | rfl | rfl | rfl | rfl
  · exact round7
  · exact round31
  · exact round127
  · exact round511
  · exact round2047
theorem rn_le {mask : Nat} {h : Int} : ∀ m, (rn mask h m).1 ≤ mask
  | 0 => Nat.le_of_lt_succ (Nat.mod_lt _ (Nat.succ_pos _))
  | m + 1 => Nat.le_of_lt_succ (Nat.mod_lt _ (Nat.succ_pos _))
theorem reach {mask : Nat} (m : Mk mask) (h : Int) {j : Nat} (hj : j ≤ mask) : ∃ k, k < 10 * SetTable.turns mask ∧ (pth mask h k).j = j := by
  obtain ⟨n, hn, e⟩ := round_ok m.round (rn_le (mask := mask) (h := h) 13) hj
  obtain ⟨k, hk, e1, _⟩ := rn_at (mask := mask) (h := h) (13 + n)
  refine ⟨k, ?_, by rw [e1, rn_it, e]⟩
  unfold SetTable.turns
  omega
end SetA
set_option Elab.async false
set_option linter.all false
set_option maxRecDepth 100000
set_option maxHeartbeats 400000
namespace SetA
open PySem
def Occ (t : SetTable) (j : Nat) : Prop := ∃ i : Nat, t.place[i]? = some j
theorem some_free {t : SetTable} (r : Rs t.place) (fl : t.place.size ≤ t.mask) : ∃ j, j ≤ t.mask ∧ ¬ Occ t j := by
  by_cases c : ∃ j, j ≤ t.mask ∧ ¬ Occ t j
  · exact c
  · have all : ∀ j, j ≤ t.mask → Occ t j := fun j hj => Classical.byContradiction fun z => c ⟨j, hj, z⟩
    have up : ∀ j, j ≤ t.mask → ∃ i : Nat, j ≤ i ∧ t.place[i]? = some j := by
      intro j
      induction j with
      | zero =>
        intro h
        obtain ⟨i, e⟩ := all 0 h
        exact ⟨i, Nat.zero_le _, e⟩
      | succ j ih =>
        intro h
        obtain ⟨i, hi, e⟩ := ih (by omega)
        obtain ⟨i', e'⟩ := all (j + 1) h
        refine ⟨i', ?_, e'⟩
        obtain ⟨l1, _⟩ := Array.getElem?_eq_some_iff.mp e
        obtain ⟨l2, _⟩ := Array.getElem?_eq_some_iff.mp e'
        have g1 : t.place.getD i 0 = j := by rw [Array.getD_eq_getD_getElem?, e]; rfl
        have g2 : t.place.getD i' 0 = j + 1 := by rw [Array.getD_eq_getD_getElem?, e']; rfl
        by_cases x : i < i'
        · omega
        · by_cases y : i = i'
          · subst y; omega
          · have := r i' i (by omega) l1
            omega
    obtain ⟨i, hi, e⟩ := up t.mask (Nat.le_refl _)
    obtain ⟨l, _⟩ := Array.getElem?_eq_some_iff.mp e
    omega
structure First (t : SetTable) (h : Int) (n : Nat) : Prop where
  lt : n < 10 * SetTable.turns t.mask
  free : ¬ Occ t (pth t.mask h n).j
  occ : ∀ m, m < n → Occ t (pth t.mask h m).j
theorem first_ex {t : SetTable} (r : Rs t.place) (fl : t.place.size ≤ t.mask) (mk : Mk t.mask) (h : Int) : ∃ n, First t h n := by
  obtain ⟨j, hj, nf⟩ := some_free r fl
  obtain ⟨k, hk, e⟩ := reach mk h hj
  have gen : ∀ b, (∃ n, n ≤ b ∧ ¬ Occ t (pth t.mask h n).j) → ∃ n, n ≤ b ∧ ¬ Occ t (pth t.mask h n).j ∧ ∀ m, m < n → Occ t (pth t.mask h m).j := by
    intro b
    induction b with
    | zero =>
      rintro ⟨n, hn, z⟩
      exact ⟨n, hn, z, fun m hm => absurd hm (by omega)⟩
    | succ b ih =>
      rintro ⟨n, hn, z⟩
      by_cases c : ∃ n, n ≤ b ∧ ¬ Occ t (pth t.mask h n).j
      · obtain ⟨n, h1, h2, h3⟩ := ih c
        exact ⟨n, by omega, h2, h3⟩
      · refine ⟨n, hn, z, fun m hm => Classical.byContradiction fun y => c ⟨m, by omega, y⟩⟩
  obtain ⟨n, h1, h2, h3⟩ := gen k ⟨k, Nat.le_refl _, by rw [e]; exact nf⟩
  exact ⟨n, by omega, h2, h3⟩
structure Tb (es : Array (Int × Value)) (t : SetTable) : Prop where
  rs : Rs t.place
  dm : t.dummies = #[]
  sz : t.place.size = es.size
  msk : Mk t.mask
  fl : t.place.size ≤ t.mask
  inv : ∀ (i j : Nat) (e : Int × Value), t.place[i]? = some j → es[i]? = some e → ∃ n, (pth t.mask e.1 n).j = j ∧ ∀ m, m < n → Occ t (pth t.mask e.1 m).j
theorem Tb.slot {es : Array (Int × Value)} {t : SetTable} (T : Tb es t) (j : Nat) : (¬ Occ t j → t.slot j = .empty) ∧ ∀ i : Nat, t.place[i]? = some j → t.slot j = .live i :=
  ⟨fun h => slot_empty T.dm fun i e => h ⟨i, e⟩, fun i e => slot_live T.rs e⟩
theorem fits {es : Array (Int × Value)} {t : SetTable} (T : Tb es t) : t.fill ≤ t.mask := by
  unfold SetTable.fill
  rw [T.dm]
  have := T.fl
  simpa using this
theorem Tb.ahead {es : Array (Int × Value)} {t : SetTable} (T : Tb es t) {n0 : Nat} {h : Int} (F : First t h n0) {i : Nat} {e : Int × Value} (he : es[i]? = some e) (hh : e.1 = h) : ∃ n j, n < n0 ∧ t.place[i]? = some j ∧ (pth t.mask h n).j = j := by
  obtain ⟨hi, _⟩ := Array.getElem?_eq_some_iff.mp he
  have hp : i < t.place.size := by rw [T.sz]; exact hi
  obtain ⟨n, e1, e2⟩ := T.inv i _ e (Array.getElem?_eq_getElem hp) he
  rw [hh] at e1 e2
  refine ⟨n, _, ?_, Array.getElem?_eq_getElem hp, e1⟩
  by_cases c : n < n0
  · exact c
  · exfalso
    by_cases d : n = n0
    · subst d
      exact F.free (by rw [e1]; exact ⟨i, Array.getElem?_eq_getElem hp⟩)
    · exact F.free (e2 n0 (by omega))
theorem Tb.put {es : Array (Int × Value)} {t : SetTable} (T : Tb es t) {n0 : Nat} {h : Int} {x : Value} (F : First t h n0) (room : t.place.size < t.mask) :
    Tb (SetTable.insertAt es (t.put (pth t.mask h n0).j).2 (h, x)) (t.put (pth t.mask h n0).j).1 := by
  generalize hj : (pth t.mask h n0).j = j
  have nf : ¬ Occ t j := by rw [← hj]; exact F.free
  obtain ⟨p1, p2, p3⟩ := below_spec T.rs j
  have ep : (t.put j).2 = SetTable.below t.place j := rfl
  have epl : (t.put j).1.place = SetTable.insertAt t.place (SetTable.below t.place j) j := rfl
  have edm : (t.put j).1.dummies = #[] := by
    show (if SetTable.has t.dummies j then _ else t.dummies) = #[]
    rw [T.dm]
    rfl
  have emk : (t.put j).1.mask = t.mask := rfl
  rw [ep]
  generalize SetTable.below t.place j = p at p1 p2 p3 epl
  have ne : ∀ i : Nat, i < t.place.size → t.place.getD i 0 ≠ j := fun i hi z => nf ⟨i, by
    rw [← z, Array.getD_eq_getD_getElem?, Array.getElem?_eq_getElem hi]
    rfl⟩
  have sizes : (SetTable.insertAt t.place p j).size = t.place.size + 1 := by
    have := (SetTable.insertAt_perm t.place p j).length_eq
    simpa using this
  have sizes2 : (SetTable.insertAt es p (h, x)).size = es.size + 1 := by
    have := (SetTable.insertAt_perm es p (h, x)).length_eq
    simpa using this
  have getD' : ∀ i, (SetTable.insertAt t.place p j).getD i 0 = if i < p then t.place.getD i 0 else if i = p then j else t.place.getD (i - 1) 0 := fun i => by
    rw [Array.getD_eq_getD_getElem?, insertAt_get _ _ _ p1]
    by_cases a : i < p
    · rw [if_pos a, if_pos a, Array.getD_eq_getD_getElem?]
    · rw [if_neg a, if_neg a]
      by_cases b : i = p
      · rw [if_pos b, if_pos b]; rfl
      · rw [if_neg b, if_neg b, Array.getD_eq_getD_getElem?]
  have occ' : ∀ k, Occ t k → Occ (t.put j).1 k := fun k ⟨i, e⟩ => by
    by_cases a : i < p
    · exact ⟨i, by rw [epl, insertAt_get _ _ _ p1, if_pos a]; exact e⟩
    · exact ⟨i + 1, by rw [epl, insertAt_get _ _ _ p1, if_neg (by omega), if_neg (by omega)]; exact e⟩
  refine ⟨?_, edm, by rw [epl, sizes, sizes2, T.sz], by rw [emk]; exact T.msk, by rw [epl, sizes, emk]; omega, ?_⟩
  · rw [epl]
    intro a b ab hb
    rw [sizes] at hb
    rw [getD' a, getD' b]
    by_cases a1 : a < p
    · rw [if_pos a1]
      by_cases b1 : b < p
      · rw [if_pos b1]; exact T.rs a b ab (by omega)
      · rw [if_neg b1]
        by_cases b2 : b = p
        · rw [if_pos b2]; exact p2 a a1
        · rw [if_neg b2]
          by_cases c : a = b - 1
          · omega
          · exact T.rs a (b - 1) (by omega) (by omega)
    · rw [if_neg a1]
      have b1 : ¬ b < p := by omega
      have b2 : ¬ b = p := by omega
      rw [if_neg b1, if_neg b2]
      by_cases a2 : a = p
      · rw [if_pos a2]
        have h1 := p3 (b - 1) (by omega) (by omega)
        have h2 := ne (b - 1) (by omega)
        omega
      · rw [if_neg a2]
        exact T.rs (a - 1) (b - 1) (by omega) (by omega)
  · intro i k e hk he
    rw [epl, insertAt_get _ _ _ p1] at hk
    rw [insertAt_get _ _ _ (by rw [← T.sz]; exact p1)] at he
    rw [emk]
    by_cases a : i < p
    · rw [if_pos a] at hk he
      obtain ⟨n, e1, e2⟩ := T.inv i k e hk he
      exact ⟨n, e1, fun m hm => occ' _ (e2 m hm)⟩
    · rw [if_neg a] at hk he
      by_cases b : i = p
      · rw [if_pos b] at hk he
        cases hk
        cases he
        exact ⟨n0, hj, fun m hm => occ' _ (F.occ m hm)⟩
      · rw [if_neg b] at hk he
        obtain ⟨n, e1, e2⟩ := T.inv (i - 1) k e hk he
        exact ⟨n, e1, fun m hm => occ' _ (e2 m hm)⟩
end SetA
set_option Elab.async false
set_option linter.all false
set_option maxRecDepth 100000
set_option maxHeartbeats 400000
namespace SetA
open PySem
section
variable {mask : Nat} {h : Int}
def sm (mask : Nat) (h : Int) : Nat → Nat
  | 0 => 0
  | m + 1 => sm mask h m + (SetTable.runEnd mask (rn mask h m).1 - (rn mask h m).1) + 1
theorem run_j : ∀ (r k : Nat), r ≤ (pth mask h k).more → (pth mask h (k + r)).j = (pth mask h k).j + r ∧ (pth mask h (k + r)).more = (pth mask h k).more - r
  | 0, k, e => ⟨rfl, rfl⟩
  | r + 1, k, e => by
    obtain ⟨a, b⟩ := run_j r k (by omega)
    have st : pth mask h (k + r + 1) = { pth mask h (k + r) with j := (pth mask h (k + r)).j + 1, more := (pth mask h (k + r)).more - 1 } := by
      show adv mask (pth mask h (k + r)) = _
      unfold adv SetTable.advance
      rw [if_pos (by omega)]
    show (pth mask h (k + r + 1)).j = _ ∧ (pth mask h (k + r + 1)).more = _
    rw [st]
    refine ⟨?_, ?_⟩
    · show (pth mask h (k + r)).j + 1 = _
      omega
    · show (pth mask h (k + r)).more - 1 = _
      omega
theorem sm_at : ∀ m, (pth mask h (sm mask h m)).j = (rn mask h m).1 ∧ (pth mask h (sm mask h m)).i = (rn mask h m).1 ∧ (pth mask h (sm mask h m)).perturb = (rn mask h m).2 ∧ (pth mask h (sm mask h m)).more = SetTable.runEnd mask (rn mask h m).1 - (rn mask h m).1
  | 0 => ⟨rfl, rfl, rfl, rfl⟩
  | m + 1 => by
    obtain ⟨e1, e2, e3, e4⟩ := sm_at m
    obtain ⟨a, b, c⟩ := run_on (mask := mask) (h := h) _ (sm mask h m) rfl
    have es : sm mask h (m + 1) = sm mask h m + (pth mask h (sm mask h m)).more + 1 := by
      show sm mask h m + _ + 1 = _
      rw [e4]
    have st : pth mask h (sm mask h (m + 1)) = { pth mask h (sm mask h m + (pth mask h (sm mask h m)).more) with j := (rn mask h (m + 1)).1, more := SetTable.runEnd mask (rn mask h (m + 1)).1 - (rn mask h (m + 1)).1, i := (rn mask h (m + 1)).1, perturb := (rn mask h (m + 1)).2 } := by
      rw [es]
      show adv mask (pth mask h (sm mask h m + (pth mask h (sm mask h m)).more)) = _
      unfold adv SetTable.advance
      rw [if_neg (by omega), a, b, e2, e3]
      rfl
    rw [st]
    exact ⟨rfl, rfl, rfl, rfl⟩
theorem sm_j {m k : Nat} (hk : k ≤ SetTable.runEnd mask (rn mask h m).1 - (rn mask h m).1) : (pth mask h (sm mask h m + k)).j = (rn mask h m).1 + k := by
  obtain ⟨e1, _, _, e4⟩ := sm_at (mask := mask) (h := h) m
  rw [(run_j k _ (by rw [e4]; exact hk)).1, e1]
theorem sm_run (n : Nat) : ∀ M, n < sm mask h M → ∃ m, m < M ∧ sm mask h m ≤ n ∧ n < sm mask h (m + 1)
  | 0, l => absurd l (Nat.not_lt_zero _)
  | M + 1, l => by
    by_cases c : n < sm mask h M
    · obtain ⟨m, a, b⟩ := sm_run n M c
      exact ⟨m, by omega, b⟩
    · exact ⟨M, by omega, by omega, l⟩
theorem sm_le {a b : Nat} (l : a ≤ b) : sm mask h a ≤ sm mask h b := by
  induction l with
  | refl => exact Nat.le_refl _
  | step _ ih =>
    refine Nat.le_trans ih ?_
    show _ ≤ sm mask h _ + _ + 1
    omega
theorem runEnd_mask {i : Nat} (hi : i ≤ mask) : SetTable.runEnd mask i ≤ mask := by
  unfold SetTable.runEnd
  split <;> omega
theorem runEnd_ge {i : Nat} : i ≤ SetTable.runEnd mask i := by
  unfold SetTable.runEnd
  split <;> omega
theorem pth_le (n : Nat) : (pth mask h n).j ≤ mask := by
  have big : n < sm mask h (n + 1) := by
    have : ∀ m, m ≤ sm mask h m := by
      intro m
      induction m with
      | zero => exact Nat.zero_le _
      | succ m ih =>
        show m + 1 ≤ sm mask h m + _ + 1
        omega
    have := this (n + 1)
    omega
  obtain ⟨m, _, a, b⟩ := sm_run n (n + 1) big
  obtain ⟨k, rfl⟩ : ∃ k, n = sm mask h m + k := ⟨n - sm mask h m, by omega⟩
  have b : sm mask h m + k < sm mask h m + (SetTable.runEnd mask (rn mask h m).1 - (rn mask h m).1) + 1 := b
  rw [sm_j (by omega)]
  have := runEnd_mask (rn_le (mask := mask) (h := h) m)
  have := runEnd_ge (mask := mask) (i := (rn mask h m).1)
  omega
theorem free_spec {owner : Array (Option Nat)} {n0 m0 : Nat} (h1 : sm mask h m0 ≤ n0) (h2 : n0 < sm mask h (m0 + 1)) (hf : (owner.getD (pth mask h n0).j (some 0)).isNone = true) (ho : ∀ n, n < n0 → (owner.getD (pth mask h n).j (some 0)).isNone = false) :
    ∀ fuel m, m ≤ m0 → m0 < m + fuel → SetTable.layClean.free mask owner fuel (rn mask h m).1 (rn mask h m).2 = some (pth mask h n0).j
  | 0, m, a, b => absurd b (by omega)
  | fuel + 1, m, a, b => by
    unfold SetTable.layClean.free
    have ge := runEnd_ge (mask := mask) (i := (rn mask h m).1)
    have pos : ∀ k, k < SetTable.runEnd mask (rn mask h m).1 + 1 - (rn mask h m).1 → (pth mask h (sm mask h m + k)).j = (rn mask h m).1 + k := fun k hk => sm_j (by omega)
    by_cases e : m = m0
    · subst e
      obtain ⟨k0, rfl⟩ : ∃ k, n0 = sm mask h m + k := ⟨n0 - sm mask h m, by omega⟩
      have h2 : sm mask h m + k0 < sm mask h m + (SetTable.runEnd mask (rn mask h m).1 - (rn mask h m).1) + 1 := h2
      have hk0 : k0 < SetTable.runEnd mask (rn mask h m).1 + 1 - (rn mask h m).1 := by omega
      have fd : ((List.range (SetTable.runEnd mask (rn mask h m).1 + 1 - (rn mask h m).1)).find? fun k => (owner.getD ((rn mask h m).1 + k) (some 0)).isNone) = some k0 := by
        rw [List.find?_range_eq_some]
        refine ⟨by rw [← pos k0 hk0]; exact hf, List.mem_range.mpr hk0, fun j hj => ?_⟩
        rw [← pos j (by omega), ho _ (by omega)]
        rfl
      rw [fd, pos k0 hk0]
    · have fd : ((List.range (SetTable.runEnd mask (rn mask h m).1 + 1 - (rn mask h m).1)).find? fun k => (owner.getD ((rn mask h m).1 + k) (some 0)).isNone) = none := by
        rw [List.find?_eq_none]
        intro k hk
        have hk := List.mem_range.mp hk
        have le := sm_le (mask := mask) (h := h) (show m + 1 ≤ m0 by omega)
        have le : sm mask h m + (SetTable.runEnd mask (rn mask h m).1 - (rn mask h m).1) + 1 ≤ sm mask h m0 := le
        rw [← pos k hk, ho _ (by omega)]
        decide
      rw [fd]
      exact free_spec h1 h2 hf ho fuel (m + 1) (by omega) (by omega)
end
end SetA
set_option Elab.async false
set_option linter.all false
set_option maxRecDepth 100000
set_option maxHeartbeats 400000
namespace SetA
open PySem
structure OwnI (mask : Nat) (hs : List Int) (k : Nat) (owner : Array (Option Nat)) (pos : Nat → Nat) : Prop where
  size : owner.size = mask + 1
  cnt : owner.toList.countP Option.isSome = k
  at_ : ∀ i, i < k → owner[pos i]? = some (some i)
  of_ : ∀ (j i : Nat), owner[j]? = some (some i) → i < k ∧ pos i = j
  way : ∀ i h, i < k → hs[i]? = some h → ∃ n, (pth mask h n).j = pos i ∧ ∀ m, m < n → ∃ i' : Nat, owner[(pth mask h m).j]? = some (some i')
theorem own_nil {mask : Nat} {hs : List Int} : OwnI mask hs 0 (Array.replicate (mask + 1) none) (fun _ => 0) := by
  refine ⟨by simp, ?_, fun i h => absurd h (by omega), fun j i e => ?_, fun i h l => absurd l (by omega)⟩
  · rw [Array.toList_replicate, List.countP_replicate]
    rfl
  · rw [Array.getElem?_replicate] at e
    split at e <;> simp at e
theorem own_free {mask : Nat} {hs : List Int} {k : Nat} {owner : Array (Option Nat)} {pos : Nat → Nat} (O : OwnI mask hs k owner pos) (mk : Mk mask) (hk : k ≤ mask) (h : Int) :
    ∃ n, SetTable.layClean.free mask owner (SetTable.turns mask) (SetTable.bits h % (mask + 1)) (SetTable.bits h) = some (pth mask h n).j ∧ owner[(pth mask h n).j]? = some none ∧ ∀ m, m < n → ∃ i' : Nat, owner[(pth mask h m).j]? = some (some i') := by
  have gd : ∀ j, j ≤ mask → ∃ o, owner[j]? = some o ∧ owner.getD j (some 0) = o := fun j hj => by
    have hl : j < owner.size := by rw [O.size]; omega
    refine ⟨owner[j], Array.getElem?_eq_getElem hl, ?_⟩
    rw [Array.getD_eq_getD_getElem?, Array.getElem?_eq_getElem hl]
    rfl
  obtain ⟨j, hj, ej⟩ : ∃ j, j ≤ mask ∧ owner[j]? = some none := by
    refine Classical.byContradiction fun z => ?_
    have all : ∀ o ∈ owner.toList, Option.isSome o = true := fun o ho => by
      obtain ⟨i, hi, e⟩ := List.getElem_of_mem ho
      rw [Array.length_toList, O.size] at hi
      cases o with
      | some x => rfl
      | none => exact absurd ⟨i, by omega, by rw [← Array.getElem?_toList, List.getElem?_eq_getElem (by rw [Array.length_toList, O.size]; exact hi), e]⟩ z
    have := List.countP_eq_length.mpr all
    rw [O.cnt, Array.length_toList, O.size] at this
    omega
  obtain ⟨nn, hn, en⟩ := round_ok mk.round (rn_le (mask := mask) (h := h) 13) hj
  have e0 : (pth mask h (sm mask h (13 + nn))).j = j := by rw [(sm_at _).1, rn_it, en]
  have gen : ∀ b, (∃ n, n ≤ b ∧ owner[(pth mask h n).j]? = some none) → ∃ n, n ≤ b ∧ owner[(pth mask h n).j]? = some none ∧ ∀ m, m < n → ¬ owner[(pth mask h m).j]? = some none := by
    intro b
    induction b with
    | zero =>
      rintro ⟨n, hn, z⟩
      exact ⟨n, hn, z, fun m hm => absurd hm (by omega)⟩
    | succ b ih =>
      rintro ⟨n, hn, z⟩
      by_cases c : ∃ n, n ≤ b ∧ owner[(pth mask h n).j]? = some none
      · obtain ⟨n, h1, h2, h3⟩ := ih c
        exact ⟨n, by omega, h2, h3⟩
      · exact ⟨n, hn, z, fun m hm y => c ⟨m, by omega, y⟩⟩
  obtain ⟨n0, h1, h2, h3⟩ := gen (sm mask h (13 + nn)) ⟨_, Nat.le_refl _, by rw [e0]; exact ej⟩
  have lt : n0 < sm mask h (13 + nn + 1) := by
    show n0 < sm mask h (13 + nn) + _ + 1
    omega
  obtain ⟨m0, a, b, c⟩ := sm_run n0 _ lt
  have occ : ∀ m, m < n0 → ∃ i' : Nat, owner[(pth mask h m).j]? = some (some i') := fun m hm => by
    obtain ⟨o, eo, _⟩ := gd _ (pth_le (mask := mask) (h := h) m)
    cases o with
    | none => exact absurd eo (h3 m hm)
    | some i => exact ⟨i, eo⟩
  refine ⟨n0, ?_, h2, occ⟩
  refine free_spec (m0 := m0) b c ?_ (fun n hn => ?_) (SetTable.turns mask) 0 (Nat.zero_le _) (by unfold SetTable.turns; omega)
  · obtain ⟨o, eo, eg⟩ := gd _ (pth_le (mask := mask) (h := h) n0)
    rw [h2] at eo
    cases eo
    rw [eg]
    rfl
  · obtain ⟨o, eo, eg⟩ := gd _ (pth_le (mask := mask) (h := h) n)
    obtain ⟨i, ei⟩ := occ n hn
    rw [ei] at eo
    cases eo
    rw [eg]
    rfl
theorem own_set {mask : Nat} {hs : List Int} {k : Nat} {owner : Array (Option Nat)} {pos : Nat → Nat} (O : OwnI mask hs k owner pos) {h : Int} (hh : hs[k]? = some h) {n : Nat} (e : owner[(pth mask h n).j]? = some none) (occ : ∀ m, m < n → ∃ i' : Nat, owner[(pth mask h m).j]? = some (some i')) :
    OwnI mask hs (k + 1) (owner.setIfInBounds (pth mask h n).j (some k)) (fun i => if i = k then (pth mask h n).j else pos i) := by
  generalize hj : (pth mask h n).j = j at e
  obtain ⟨hl, eg⟩ := Array.getElem?_eq_some_iff.mp e
  have get : ∀ i : Nat, (owner.setIfInBounds j (some k))[i]? = if i = j then some (some k) else owner[i]? := fun i => by
    rw [Array.getElem?_setIfInBounds]
    by_cases c : i = j
    · subst c
      rw [if_pos rfl, if_pos rfl, if_pos hl]
    · rw [if_neg (Ne.symm c), if_neg c]
  have keep : ∀ q : Nat, (∃ i' : Nat, owner[q]? = some (some i')) → ∃ i' : Nat, (owner.setIfInBounds j (some k))[q]? = some (some i') := fun q ⟨i', ei⟩ => by
    by_cases c : q = j
    · exact ⟨k, by rw [get, if_pos c]⟩
    · exact ⟨i', by rw [get, if_neg c]; exact ei⟩
  refine ⟨by rw [Array.size_setIfInBounds]; exact O.size, ?_, fun i hi => ?_, fun q i ei => ?_, fun i h' hi eh => ?_⟩
  · rw [Array.toList_setIfInBounds, List.countP_set (by rw [Array.length_toList]; exact hl)]
    have e0 : owner.toList[j]'(by rw [Array.length_toList]; exact hl) = none := by rw [Array.getElem_toList]; exact eg
    rw [e0, O.cnt]
    rfl
  · show (owner.setIfInBounds j (some k))[if i = k then j else pos i]? = _
    by_cases c : i = k
    · rw [if_pos c, get, if_pos rfl, c]
    · rw [if_neg c, get]
      have ep := O.at_ i (by omega)
      rw [if_neg (fun z => by rw [z, e] at ep; cases ep)]
      exact ep
  · rw [get] at ei
    show i < k + 1 ∧ (if i = k then j else pos i) = q
    by_cases c : q = j
    · rw [if_pos c] at ei
      cases ei
      exact ⟨Nat.lt_succ_self _, by rw [if_pos rfl, c]⟩
    · rw [if_neg c] at ei
      obtain ⟨a, b⟩ := O.of_ q i ei
      exact ⟨by omega, by rw [if_neg (by omega)]; exact b⟩
  · show ∃ n, (pth mask h' n).j = (if i = k then j else pos i) ∧ _
    by_cases c : i = k
    · subst c
      rw [hh] at eh
      cases eh
      exact ⟨n, by rw [if_pos rfl]; exact hj, fun m hm => keep _ (occ m hm)⟩
    · obtain ⟨n', e1, e2⟩ := O.way i h' (by omega) eh
      exact ⟨n', by rw [if_neg c]; exact e1, fun m hm => keep _ (e2 m hm)⟩
theorem lay_ok {mask : Nat} (mk : Mk mask) {hs : List Int} (len : hs.length ≤ mask) {f : Option (Array (Option Nat) × Nat) → Int → Option (Array (Option Nat) × Nat)} (hf : ∀ owner k h j, SetTable.layClean.free mask owner (SetTable.turns mask) (SetTable.bits h % (mask + 1)) (SetTable.bits h) = some j → f (some (owner, k)) h = some (owner.setIfInBounds j (some k), k + 1)) :
    ∀ (r : List Int) (k : Nat) (owner : Array (Option Nat)) (pos : Nat → Nat), k ≤ hs.length → hs.drop k = r → OwnI mask hs k owner pos → ∃ owner' pos', r.foldl f (some (owner, k)) = some (owner', hs.length) ∧ OwnI mask hs hs.length owner' pos'
  | [], k, owner, pos, kl, e, O => by
    have hk : hs.length ≤ k := by
      have := congrArg List.length e
      rw [List.length_drop] at this
      simp at this
      omega
    have kk : k = hs.length := by omega
    subst kk
    exact ⟨owner, pos, rfl, O⟩
  | h :: r, k, owner, pos, kl, e, O => by
    have hk : k < hs.length := by
      have := congrArg List.length e
      rw [List.length_drop] at this
      simp at this
      omega
    have hh : hs[k]? = some h := by
      have := congrArg (·[0]?) e
      simpa using this
    have er : hs.drop (k + 1) = r := by
      have := congrArg (List.drop 1) e
      rw [List.drop_drop] at this
      simpa using this
    obtain ⟨n, ef, en, occ⟩ := own_free O mk (by omega) h
    obtain ⟨o', p', e1, e2⟩ := lay_ok mk len hf r (k + 1) _ _ (by omega) er (own_set O hh en occ)
    refine ⟨o', p', ?_, e2⟩
    rw [← e1, List.foldl_cons, hf _ _ _ _ ef]
theorem fm_get {α β : Type} {f : α → Option β} : ∀ {l : List α}, (∀ x ∈ l, (f x).isSome = true) → ∀ q : Nat, (l.filterMap f)[q]? = (l[q]?).bind f
  | [], _, q => by simp
  | x :: l, h, q => by
    obtain ⟨y, ey⟩ := Option.isSome_iff_exists.mp (h x (List.mem_cons_self ..))
    rw [List.filterMap_cons, ey]
    cases q with
    | zero => simp [ey]
    | succ q =>
      rw [List.getElem?_cons_succ, List.getElem?_cons_succ]
      exact fm_get (fun z hz => h z (List.mem_cons_of_mem _ hz)) q
theorem laid_ok {mask finger moves : Nat} {led plain : Bool} {es : Array (Int × Value)} (mk : Mk mask) (len : es.size ≤ mask) :
    ∃ t' order, SetTable.laid mask finger moves led plain (es.map (·.1)) = some (t', order) ∧ Tb (order.filterMap (es[·]?)) t' ∧ (order.filterMap (es[·]?)).toList.Perm es.toList ∧ t'.mask = mask ∧ t'.led = led ∧ t'.plain = plain ∧ t'.moves = moves := by
  have hl : ((es.map (·.1)).toList).length ≤ mask := by simpa using len
  obtain ⟨owner, pos, lc, O⟩ : ∃ owner pos, SetTable.layClean mask (es.map (·.1)) = some owner ∧ OwnI mask (es.map (·.1)).toList (es.map (·.1)).toList.length owner pos := by
    have fin : ∀ f : Option (Array (Option Nat) × Nat) → Int → Option (Array (Option Nat) × Nat), (∀ owner k h j, SetTable.layClean.free mask owner (SetTable.turns mask) (SetTable.bits h % (mask + 1)) (SetTable.bits h) = some j → f (some (owner, k)) h = some (owner.setIfInBounds j (some k), k + 1)) →
        ∃ owner pos, ((es.map (·.1)).toList.foldl f (some (Array.replicate (mask + 1) none, 0))).map (·.1) = some owner ∧ OwnI mask (es.map (·.1)).toList (es.map (·.1)).toList.length owner pos := fun f hf => by
      obtain ⟨owner, pos, e1, O⟩ := lay_ok mk hl hf (es.map (·.1)).toList 0 _ _ (Nat.zero_le _) rfl own_nil
      exact ⟨owner, pos, by rw [e1]; rfl, O⟩
    unfold SetTable.layClean
    rw [← Array.foldl_toList]
    exact fin _ (fun owner k h j e => by show (SetTable.layClean.free mask owner _ _ _).bind _ = _; rw [e]; rfl)
  have n : (es.map (·.1)).toList.length = es.size := by simp
  rw [n] at O
  have hs : ∀ i : Nat, (es.map (·.1)).toList[i]? = (es[i]?).map (·.1) := fun i => by
    rw [Array.getElem?_toList, Array.getElem?_map]
  generalize hL : ((List.range (mask + 1)).filterMap fun j => (owner.getD j none).map (j, ·)) = live
  have mem : ∀ j i, (j, i) ∈ live ↔ owner[j]? = some (some i) := fun j i => by
    rw [← hL, List.mem_filterMap]
    constructor
    · rintro ⟨a, ha, e⟩
      have ha := List.mem_range.mp ha
      have hs' : a < owner.size := by rw [O.size]; exact ha
      rw [Array.getD_eq_getD_getElem?, Array.getElem?_eq_getElem hs'] at e
      have e : (owner[a]).map (a, ·) = some (j, i) := e
      cases ho : owner[a] with
      | none => rw [ho] at e; cases e
      | some x =>
        rw [ho] at e
        cases e
        rw [Array.getElem?_eq_getElem hs', ho]
    · intro e
      obtain ⟨hj, _⟩ := Array.getElem?_eq_some_iff.mp e
      refine ⟨j, List.mem_range.mpr (by rw [← O.size]; exact hj), ?_⟩
      rw [Array.getD_eq_getD_getElem?, e]
      rfl
  have up : live.Pairwise fun a b => a.1 < b.1 := by
    rw [← hL]
    refine List.Pairwise.filterMap _ (fun a a' l b hb b' hb' => ?_) List.pairwise_lt_range
    obtain ⟨x, _, ex⟩ := Option.map_eq_some_iff.mp hb
    obtain ⟨y, _, ey⟩ := Option.map_eq_some_iff.mp hb'
    rw [← ex, ← ey]
    exact l
  have some_ : ∀ p ∈ live.map (·.2), (es[p]?).isSome = true := fun p hp => by
    obtain ⟨⟨j, i⟩, hm, rfl⟩ := List.mem_map.mp hp
    obtain ⟨a, _⟩ := O.of_ j i ((mem j i).mp hm)
    rw [Array.getElem?_eq_getElem a]
    rfl
  have tl : (((live.map (·.2)).toArray).filterMap (es[·]?)).toList = (live.map (·.2)).filterMap (es[·]?) := by simp
  have get' : ∀ q : Nat, (((live.map (·.2)).toArray).filterMap (es[·]?))[q]? = (live[q]?).bind fun p => es[p.2]? := fun q => by
    rw [← Array.getElem?_toList, tl, fm_get some_, List.getElem?_map]
    cases live[q]? <;> rfl
  have nd : (live.map (·.2)).Nodup := by
    rw [List.Nodup, List.pairwise_map]
    refine up.imp_of_mem fun {a b} ha hb l z => ?_
    obtain ⟨_, p1⟩ := O.of_ a.1 a.2 ((mem _ _).mp ha)
    obtain ⟨_, p2⟩ := O.of_ b.1 b.2 ((mem _ _).mp hb)
    rw [z, p2] at p1
    omega
  have pm : (live.map (·.2)).Perm (List.range es.size) := by
    rw [List.perm_ext_iff_of_nodup nd List.nodup_range]
    intro i
    rw [List.mem_range]
    constructor
    · intro hi
      obtain ⟨⟨j, i'⟩, hm, rfl⟩ := List.mem_map.mp hi
      exact (O.of_ _ _ ((mem _ _).mp hm)).1
    · intro hi
      exact List.mem_map.mpr ⟨(pos i, i), (mem _ _).mpr (O.at_ i hi), rfl⟩
  have ll : live.length = es.size := by
    have := pm.length_eq
    rw [List.length_map, List.length_range] at this
    exact this
  have pm2 : (((live.map (·.2)).toArray).filterMap (es[·]?)).toList.Perm es.toList := by
    rw [tl, ← filterMap_getElem?_range es]
    exact pm.filterMap _
  refine ⟨{ mask, place := (live.map (·.1)).toArray, dummies := #[], finger, led, moves, plain }, (live.map (·.2)).toArray, ?_, ?_, pm2, rfl, rfl, rfl, rfl⟩
  · unfold SetTable.laid
    rw [lc]
    show some _ = _
    rw [← hL]
  · have pl : ∀ q : Nat, ((live.map (·.1)).toArray)[q]? = (live[q]?).map (·.1) := fun q => by
      rw [List.getElem?_toArray, List.getElem?_map]
    have occ : ∀ j i, (j, i) ∈ live → Occ { mask, place := (live.map (·.1)).toArray, dummies := #[], finger, led, moves, plain } j := fun j i hm => by
      obtain ⟨q, hq, e⟩ := List.getElem_of_mem hm
      exact ⟨q, by rw [pl, List.getElem?_eq_getElem hq, e]; rfl⟩
    have sz : (((live.map (·.2)).toArray).filterMap (es[·]?)).size = es.size := by
      have := pm2.length_eq
      simpa using this
    refine ⟨fun a b ab hb => ?_, rfl, ?_, mk, ?_, fun q j e hp he => ?_⟩
    · have hb : b < live.length := by simpa using hb
      have := (List.pairwise_iff_getElem.mp up) a b (by omega) hb ab
      rw [Array.getD_eq_getD_getElem?, Array.getD_eq_getD_getElem?, pl, pl, List.getElem?_eq_getElem (by omega), List.getElem?_eq_getElem hb]
      exact this
    · rw [sz, ← ll]
      simp
    · show ((live.map (·.1)).toArray).size ≤ mask
      have : ((live.map (·.1)).toArray).size = live.length := by simp
      omega
    · have hp : ((live.map (·.1)).toArray)[q]? = some j := hp
      rw [pl] at hp
      rw [get'] at he
      cases hq : live[q]? with
      | none => rw [hq] at hp; cases hp
      | some p =>
        rw [hq] at hp he
        obtain ⟨j', i⟩ := p
        cases hp
        have he : es[i]? = some e := he
        have hm : (j', i) ∈ live := List.mem_of_getElem? hq
        obtain ⟨a, b⟩ := O.of_ _ _ ((mem _ _).mp hm)
        obtain ⟨n, e1, e2⟩ := O.way i e.1 a (by rw [hs, he]; rfl)
        refine ⟨n, by rw [e1]; exact b, fun m hm' => ?_⟩
        obtain ⟨i', ei⟩ := e2 m hm'
        exact occ _ i' ((mem _ _).mpr ei)
end SetA
set_option Elab.async false
set_option linter.all false
set_option maxRecDepth 100000
set_option maxHeartbeats 400000
namespace SetA
open PySem
def Clear (es : Array (Int × Value)) (t : SetTable) (h : Int) (k n : Nat) : Prop := ∀ m, k ≤ m → m < n → ∀ (i : Nat) (e : Int × Value), t.place[i]? = some (pth t.mask h m).j → es[i]? = some e → e.1 ≠ h
theorem Tb.probe {es : Array (Int × Value)} {t : SetTable} (T : Tb es t) {hashAt : Nat → Int} (hA : ∀ (i : Nat) (e : Int × Value), es[i]? = some e → hashAt i = e.1) {h : Int} {n0 k : Nat} (F : First t h n0) (hk : k ≤ n0) :
    (∃ (n1 i : Nat) (e : Int × Value), k ≤ n1 ∧ n1 < n0 ∧ t.place[i]? = some (pth t.mask h n1).j ∧ es[i]? = some e ∧ e.1 = h ∧ Clear es t h k n1 ∧ t.probe hashAt h (pth t.mask h k) = some (.candidate (pth t.mask h n1).j i (pth t.mask h (n1 + 1)))) ∨
    (Clear es t h k n0 ∧ t.probe hashAt h (pth t.mask h k) = some (.empty (pth t.mask h n0).j none)) := by
  have ent : ∀ m, m < n0 → ∃ (i : Nat) (e : Int × Value), t.place[i]? = some (pth t.mask h m).j ∧ es[i]? = some e := fun m hm => by
    obtain ⟨i, ei⟩ := F.occ m hm
    obtain ⟨hi, _⟩ := Array.getElem?_eq_some_iff.mp ei
    have hi' : i < es.size := by rw [← T.sz]; exact hi
    exact ⟨i, es[i], ei, Array.getElem?_eq_getElem hi'⟩
  have uniq : ∀ {j i i' : Nat}, t.place[i]? = some j → t.place[i']? = some j → i = i' := fun {j i i'} a b => by
    rw [← below_at T.rs a, ← below_at T.rs b]
  have skips : ∀ n1, n1 ≤ n0 → Clear es t h k n1 → ∀ m, k ≤ m → m < n1 → ∃ i, t.slot (pth t.mask h m).j = .live i ∧ hashAt i ≠ h := fun n1 h1 C m a b => by
    obtain ⟨i, e, ei, ee⟩ := ent m (by omega)
    exact ⟨i, (T.slot _).2 i ei, by rw [hA i e ee]; exact C m a b i e ei ee⟩
  have gen : ∀ d, ∀ n1, n1 + d = n0 → k ≤ n1 → Clear es t h k n1 → (∃ (n1 i : Nat) (e : Int × Value), k ≤ n1 ∧ n1 < n0 ∧ t.place[i]? = some (pth t.mask h n1).j ∧ es[i]? = some e ∧ e.1 = h ∧ Clear es t h k n1) ∨ Clear es t h k n0 := by
    intro d
    induction d with
    | zero =>
      intro n1 e _ C
      have e : n1 = n0 := e
      subst e
      exact .inr C
    | succ d ih =>
      intro n1 e a C
      obtain ⟨i, en, ei, ee⟩ := ent n1 (by omega)
      by_cases c : en.1 = h
      · exact .inl ⟨n1, i, en, a, by omega, ei, ee, c, C⟩
      · refine ih (n1 + 1) (by omega) (by omega) fun m m1 m2 i' e' p1 p2 => ?_
        by_cases z : m = n1
        · subst z
          have := uniq ei p1
          subst this
          rw [ee] at p2
          cases p2
          exact c
        · exact C m m1 (by omega) i' e' p1 p2
  have lt := F.lt
  rcases gen (n0 - k) k (by omega) (Nat.le_refl _) (fun m a b => absurd b (by omega)) with ⟨n1, i, e, a, b, ei, ee, eh, C⟩ | C
  · refine .inl ⟨n1, i, e, a, b, ei, ee, eh, C, ?_⟩
    unfold SetTable.probe
    obtain ⟨f', ef⟩ := go_on (t := t) (hashAt := hashAt) (h := h) (n := n1) (fuel := 10 * SetTable.turns t.mask) (k := k) a (by omega) (skips n1 (by omega) C)
    rw [ef, go_hit ((T.slot _).2 i ei) (by rw [hA i e ee, eh])]
  · refine .inr ⟨C, ?_⟩
    unfold SetTable.probe
    obtain ⟨f', ef⟩ := go_on (t := t) (hashAt := hashAt) (h := h) (n := n0) (fuel := 10 * SetTable.turns t.mask) (k := k) hk (by omega) (skips n0 (Nat.le_refl _) C)
    rw [ef, go_empty ((T.slot _).1 F.free)]
end SetA
set_option Elab.async false
set_option linter.all false
set_option maxRecDepth 100000
set_option maxHeartbeats 400000
namespace SetA
open PySem
section
variable {prog : Program} {w : World} {A : Around} {E : Value → Shared → Prop} {s : Shared} {a : Addr} {o : Obj} {es : Array (Int × Value)} {ep : Nat} {t : SetTable} {x : Value} {h : Int}
theorem Tb.fits (T : Tb es t) : t.fits es.size = true := by
  have := SetA.fits T
  unfold SetTable.fits
  rw [T.sz]
  simp [this]
theorem Mk.odd {mask : Nat} (m : Mk mask) : (mask % 2 == 0) = false := by
  rcases m with rfl | rfl | rfl | rfl | rfl <;> rfl
theorem search (ho : s.heap.get? a = some o) (hd : o.data = .set es ep t) (T : Tb es t) {n0 : Nat} (F : First t h n0) (eqv : Nat → Bool) (he : ∀ (i : Nat) (e : Int × Value), es[i]? = some e → e.1 = h → SeqAt.EqAt A s e.2 x (eqv i))
    (seen : ∀ Q' : Bool → Shared → Prop, Q' false s → wpAny (model prog w) A (searchCouldBeSeen x ((es.filter (·.1 == h)).toList.map (·.2))) Q' E s) (rf : ∀ (i : Nat) (e : Int × Value), es[i]? = some e → ∃ q, e.2 = .ref q) {Q : SetFound → Shared → Prop}
    (q1 : (∃ (i : Nat) (e : Int × Value), es[i]? = some e ∧ e.1 = h ∧ eqv i = true) → Q (.there none) s)
    (q2 : (∀ (i : Nat) (e : Int × Value), es[i]? = some e → e.1 = h → eqv i = false) → Q (.free (pth t.mask h n0).j false) s) :
    ∀ (fuel k : Nat) (stand : Option SetTable.Probe), stand.getD (t.probeStart h) = pth t.mask h k → k ≤ n0 → n0 < k + fuel →
      (∀ m, m < k → ∀ (i : Nat) (e : Int × Value), t.place[i]? = some (pth t.mask h m).j → es[i]? = some e → e.1 = h → eqv i = false) →
      wpAny (model prog w) A (setSearchFrom a x h true fuel stand) Q E s
  | 0, k, _, _, a1, a2, _ => absurd a2 (by omega)
  | fuel + 1, k, stand, hs, a1, a2, past => by
    unfold setSearchFrom
    refine wpAny_bind (wpAny_setState_of ho hd T.fits ?_)
    dsimp only
    have gw : t.gaveWay = false := T.msk.odd
    rw [gw]
    simp only [Bool.false_eq_true, ↓reduceIte]
    rw [hs]
    generalize hp : SetTable.probe t _ h _ = r
    rcases T.probe (hashAt := fun i => ((es[i]?).map (·.1)).getD 0) (fun i e he => by show ((es[i]?).map (·.1)).getD 0 = e.1; rw [he]; rfl) F a1 with ⟨n1, i, e, b1, b2, ei, ee, eh, C, e1⟩ | ⟨C, e1⟩
    · have er := hp.symm.trans e1
      subst er
      dsimp only
      have sl := (T.slot (pth t.mask h n1).j).2 i ei
      have mem : t.sameMemory t.moves t.mask = some true := by simp [SetTable.sameMemory]
      obtain ⟨q, eq'⟩ := rf i e ee
      have next := search ho hd T F eqv he seen rf q1 q2 fuel (n1 + 1) (some (pth t.mask h (n1 + 1))) rfl (by omega) (by omega)
      cases hl : t.led
      case' false =>
        simp only [Bool.not_false, ↓reduceIte]
        refine wpAny_bind (seen _ ?_)
        simp only [Bool.false_eq_true, ↓reduceIte]
      case' true => simp only [Bool.not_true, Bool.false_eq_true, ↓reduceIte]
      all_goals
        rw [ee]
        obtain ⟨eh', y⟩ := e
        dsimp only at eq' eh ⊢
        refine wpAny_bind (wpAny_holding (he i _ ee eh prog w _ _ ?_))
        refine wpAny_bind (wpAny_setState_of ho hd T.fits ?_)
        dsimp only
        rw [Bool.true_and]
        cases hv : eqv i
        case true =>
          simp only [↓reduceIte]
          exact wpAny_pure (q1 ⟨i, _, ee, eh, hv⟩)
        case false =>
          simp only [Bool.false_eq_true, ↓reduceIte]
          rw [mem]
          simp only [↓reduceIte]
          rw [sl]
          dsimp only
          rw [ee]
          dsimp only
          subst eq'
          refine wpAny_bind (wpAny_isSame_ref_self ?_)
          simp only [↓reduceIte]
          refine wpAny_bind (wpAny_pure ?_)
          dsimp only
          refine next fun m hm i' e' p1 p2 p3 => ?_
          by_cases z : m < k
          · exact past m z i' e' p1 p2 p3
          · by_cases z2 : m = n1
            · subst z2
              have : i' = i := by rw [← below_at T.rs p1, ← below_at T.rs ei]
              subst this
              exact hv
            · exact absurd p3 (C m (by omega) (by omega) i' e' p1 p2)
    · have er := hp.symm.trans e1
      subst er
      dsimp only
      refine wpAny_pure (q2 fun i e ee eh => ?_)
      obtain ⟨n, j, l, ep', en⟩ := T.ahead F ee eh
      subst en
      by_cases z : n < k
      · exact past n z i e ep' ee eh
      · exact absurd eh (C n (by omega) l i e ep' ee)
end
end SetA
set_option Elab.async false
set_option linter.all false
set_option maxRecDepth 100000
set_option maxHeartbeats 400000
namespace SetA
open PySem
section
variable {prog : Program} {w : World} {A : Around} {E : Value → Shared → Prop} {s : Shared} {a : Addr} {o : Obj} {es : Array (Int × Value)} {ep : Nat} {t : SetTable}
theorem relay (ho : s.heap.get? a = some o) (hd : o.data = .set es ep t) (T : Tb es t) {wanted : Nat} (mk : Mk (SetTable.sizeAbove wanted - 1)) (len : es.size ≤ SetTable.sizeAbove wanted - 1) (sl : SetTable.sizeAbove wanted ≤ sizeLine) {Q : Unit → Shared → Prop}
    (q : ∀ (es' : Array (Int × Value)) (t' : SetTable) (s' : Shared), Tb es' t' → es'.toList.Perm es.toList → t'.mask = SetTable.sizeAbove wanted - 1 → t'.led = t.led → t'.plain = t.plain → wpAny (model prog w) A (storeSet a es' t') Q E s) :
    wpAny (model prog w) A (setRelay a wanted) Q E s := by
  unfold setRelay
  refine wpAny_bind (wpAny_setState_of ho hd T.fits ?_)
  dsimp only
  rw [if_neg (Nat.not_lt.mpr sl)]
  obtain ⟨t', order, e1, T', pm, m1, m2, m3, m4⟩ := laid_ok (finger := t.finger) (moves := t.movedTo (SetTable.sizeAbove wanted - 1)) (led := t.led) (plain := t.plain) mk len
  generalize hp : SetTable.relaid t _ _ = r
  have er : r = some (t', order) := hp.symm.trans e1
  subst er
  refine wpAny_bind ?_
  have sz : (order.filterMap (es[·]?)).size = es.size := by
    have := pm.length_eq
    rw [Array.length_toList, Array.length_toList] at this
    exact this
  show wpAny _ _ (if ((order.filterMap (es[·]?)).size != es.size) = true then _ else _) _ _ _
  rw [if_neg (by simp [sz])]
  refine wpAny_pure ?_
  exact q _ _ s T' pm m1 m2 m3
end
end SetA
set_option Elab.async false
set_option linter.all false
set_option maxRecDepth 100000
set_option maxHeartbeats 400000
namespace SetA
open PySem
section
variable {prog : Program} {w : World} {A : Around} {E : Value → Shared → Prop} {s : Shared}
theorem for_all {α β : Type} {its : List α} {b : β} {f : α → β → Sem (ForInStep β)} {Q : β → Shared → Prop} : (∀ v ∈ its, ∀ Q' : ForInStep β → Shared → Prop, Q' (.yield b) s → wpAny (model prog w) A (f v b) Q' E s) → Q b s → wpAny (model prog w) A (forIn its b f) Q E s := by
  induction its with
  | nil => intro _ h; rw [List.forIn_nil]; exact wpAny_pure h
  | cons v r ih =>
    intro hf h
    rw [List.forIn_cons]
    exact wpAny_bind (hf v (List.mem_cons_self ..) _ (ih (fun u hu => hf u (List.mem_cons_of_mem _ hu)) h))
theorem hbv {q : Addr} {o : Obj} {its : Array Value} {n : Nat} {Q : Bool → Shared → Prop} (ho : s.heap.get? q = some o) (hc : o.cls = .type "tuple") (hd : o.data = .seq its n) (hi : ∀ v ∈ its.toList, ∃ k t, v = .int k t) (h : Q true s) : wpAny (model prog w) A (hashByValue 8 (.ref q)) Q E s := by
  have hT : s.TypeIs (.ref q) "tuple" := ⟨o, ho, hc⟩
  unfold hashByValue
  refine wpAny_bind (wpAny_specialOf hT F.slot_tuple_hash.lookup ?_)
  dsimp only
  refine wpAny_bind (wpAny_seqItems ho hd ?_)
  rw [Option.getD_some, ← Array.forIn_toList]
  refine wpAny_bind (for_all (fun v hv Q' hq => ?_) (wpAny_pure h))
  obtain ⟨k, t, rfl⟩ := hi v hv
  refine wpAny_bind ?_
  unfold hashByValue
  refine wpAny_pure ?_
  rw [if_neg (by decide)]
  exact wpAny_pure hq
theorem seen_no {K : Type} [DecidableEq K] {knd : KeyKind prog w K} {q : Addr} {ks : List K} (hk : IsTupleKey knd s.heap ks q) (flat : ∀ (p : Addr) (ks : List K), IsTupleKey knd s.heap ks p → ∀ Q' : Bool → Shared → Prop, Q' false s → wpAny (model prog w) A (ofAClassStatement 8 (.ref p)) Q' E s)
    {ys : List Value} (hy : ∀ y ∈ ys, ∃ p ms, y = .ref p ∧ IsTupleKey knd s.heap ms p) {Q : Bool → Shared → Prop} (h : Q false s) : wpAny (model prog w) A (searchCouldBeSeen (.ref q) ys) Q E s := by
  unfold searchCouldBeSeen
  refine wpAny_bind (for_all (fun v hv Q' hq => ?_) (wpAny_pure h))
  obtain ⟨p, ms, rfl, hp⟩ := hy v hv
  dsimp only
  by_cases c : q = p
  · have e : (q == p) = true := by simp [c]
    rw [e]
    simp only [Bool.true_or, ↓reduceIte]
    exact wpAny_pure hq
  · have e : (q == p) = false := by simp [c]
    rw [e]
    have cv : carriedByValue (.ref q) = false := rfl
    rw [cv]
    simp only [Bool.false_and, Bool.or_self, Bool.false_eq_true, ↓reduceIte]
    refine wpAny_bind (wpAny_eqIsQuiet_tuple hk ?_)
    simp only [Bool.not_true, Bool.false_eq_true, ↓reduceIte]
    refine wpAny_bind (wpAny_eqIsQuiet_tuple hp ?_)
    simp only [Bool.not_true, Bool.false_eq_true, ↓reduceIte]
    refine wpAny_bind (flat q ks hk _ ?_)
    simp only [Bool.false_eq_true, ↓reduceIte]
    refine wpAny_bind (flat p ms hp _ ?_)
    simp only [Bool.false_eq_true, ↓reduceIte]
    exact wpAny_pure hq
end
end SetA
set_option Elab.async false
set_option linter.all false
set_option maxRecDepth 100000
set_option maxHeartbeats 400000
namespace SetA
open PySem
section
variable {prog : Program} {w : World} {A : Around} {E : Value → Shared → Prop} {s : Shared}
theorem noClass {q : Addr} {o : Obj} {its : Array Value} {n : Nat} {Q : Bool → Shared → Prop} (ho : s.heap.get? q = some o) (hc : o.cls = .type "tuple") (hd : o.data = .seq its n) (hi : ∀ v ∈ its.toList, ∃ k t, v = .int k t) (h : Q false s) : wpAny (model prog w) A (ofAClassStatement 8 (.ref q)) Q E s := by
  have hT : s.TypeIs (.ref q) "tuple" := ⟨o, ho, hc⟩
  unfold ofAClassStatement
  refine wpAny_bind (wpAny_typeOf hT ?_)
  dsimp only
  refine wpAny_bind (wpAny_pure ?_)
  rw [if_neg (by decide)]
  refine wpAny_bind (wpAny_seqItems ho hd ?_)
  dsimp only
  rw [← Array.forIn_toList]
  refine wpAny_bind (for_all (fun v hv Q' hq => ?_) (wpAny_pure h))
  obtain ⟨k, t, rfl⟩ := hi v hv
  refine wpAny_bind ?_
  unfold ofAClassStatement
  refine wpAny_pure ?_
  rw [if_neg (by decide)]
  exact wpAny_pure hq
variable {a : Addr} {o : Obj} {es : Array (Int × Value)} {ep : Nat} {t : SetTable} {q : Addr} {h : Int}
def Lean_ (t : SetTable) : Prop := t.place.size * 5 < t.mask * 3
theorem stored {h : Heap} (ho : h.get? a = some o) (hd : o.data = .set es ep t) (es' : Array (Int × Value)) (t' : SetTable) : (h.update a (Obj.putSet es' t')).get? a = some { o with data := .set es' (ep + 1) t' } := by
  have := Heap.get?_update_self (Obj.putSet es' t') ho (by rw [putSet_of es' t' hd]; rfl)
  rw [putSet_of es' t' hd] at this
  exact this
theorem add (ho : s.heap.get? a = some o) (hd : o.data = .set es ep t) (T : Tb es t) (ln : Lean_ t) (pl : t.plain = true) (few : es.size ≤ 600) (eqv : Nat → Bool) (he : ∀ (i : Nat) (e : Int × Value), es[i]? = some e → e.1 = h → SeqAt.EqAt A s e.2 (.ref q) (eqv i))
    (seen : ∀ Q' : Bool → Shared → Prop, Q' false s → wpAny (model prog w) A (searchCouldBeSeen (.ref q) ((es.filter (·.1 == h)).toList.map (·.2))) Q' E s) (rf : ∀ (i : Nat) (e : Int × Value), es[i]? = some e → ∃ q, e.2 = .ref q)
    (hv : ∀ Q' : Bool → Shared → Prop, ∀ s' : Shared, s'.heap = s.heap → Q' true s' → wpAny (model prog w) A (hashByValue 8 (.ref q)) Q' E s') {Q : Bool → Shared → Prop}
    (q1 : (∃ (i : Nat) (e : Int × Value), es[i]? = some e ∧ e.1 = h ∧ eqv i = true) → Q false s)
    (q2 : (∀ (i : Nat) (e : Int × Value), es[i]? = some e → e.1 = h → eqv i = false) → ∀ (es' : Array (Int × Value)) (t' : SetTable) (ep' : Nat), Tb es' t' → Lean_ t' → t'.plain = true → t'.led = t.led → es'.toList.Perm ((h, .ref q) :: es.toList) → ∀ h' : Heap, h'.get? a = some { o with data := .set es' ep' t' } → Heap.SameBut a s.heap h' → Q true { s with heap := h' }) :
    wpAny (model prog w) A (setAddHashed a (.ref q) h) Q E s := by
  unfold setAddHashed
  refine wpAny_holding ?_
  unfold setAddHashedIn
  refine wpAny_bind (wpAny_setState_of ho hd T.fits ?_)
  dsimp only
  have bs : byScan (.ref q) es = false := rfl
  rw [bs]
  simp only [Bool.false_eq_true, ↓reduceIte]
  obtain ⟨n0, F⟩ := first_ex T.rs T.fl T.msk h
  have n0l : n0 < 100000 := by
    have := F.lt
    unfold SetTable.turns at this
    rcases T.msk with e | e | e | e | e <;> rw [e] at this <;> omega
  unfold setSearch
  refine wpAny_bind (search ho hd T F eqv he seen rf (fun x => ?_) (fun x => ?_) 100000 0 none rfl (Nat.zero_le _) (by omega) (fun m hm => absurd hm (by omega)))
  · dsimp only
    exact wpAny_pure (q1 x)
  · dsimp only
    refine wpAny_bind (wpAny_setState_of ho hd T.fits ?_)
    dsimp only
    have room : t.place.size < t.mask := by
      have ln : t.place.size * 5 < t.mask * 3 := ln
      omega
    have T1 := T.put (x := .ref q) F room
    have p1 : (SetTable.insertAt es (t.put (pth t.mask h n0).j).2 (h, .ref q)).toList.Perm ((h, .ref q) :: es.toList) := by
      refine (SetTable.insertAt_perm es _ _).trans ?_
      rw [Array.toList_push]
      exact List.perm_append_singleton _ _
    have ppl : (t.put (pth t.mask h n0).j).1.plain = true := pl
    have pld : (t.put (pth t.mask h n0).j).1.led = t.led := rfl
    have pmk : (t.put (pth t.mask h n0).j).1.mask = t.mask := rfl
    generalize (t.put (pth t.mask h n0).j).2 = pp at T1 p1 ⊢
    generalize (t.put (pth t.mask h n0).j).1 = t1 at T1 ppl pld pmk ⊢
    generalize SetTable.insertAt es pp (h, .ref q) = es1 at T1 p1 ⊢
    have sz1 : es1.size = es.size + 1 := by
      have := p1.length_eq
      simpa using this
    have sl1 : t1.place.size = t.place.size + 1 := by rw [T1.sz, sz1, T.sz]
    rw [if_pos ppl]
    refine wpAny_bind (hv _ s rfl ?_)
    simp only [↓reduceIte]
    refine wpAny_bind (wpAny_storeSet_of ho hd ?_ (by rw [sizeLine_eq]; omega))
    have g1 := stored ho hd es1 t1
    have sb1 := Heap.SameBut.update s.heap a (Obj.putSet es1 t1)
    generalize s.heap.update a (Obj.putSet es1 t1) = h1 at g1 sb1 ⊢
    have tf : t1.tooFull = decide (t1.place.size * 5 ≥ t1.mask * 3) := by
      unfold SetTable.tooFull SetTable.fill
      rw [T1.dm]
      rfl
    cases htf : t1.tooFull
    · simp only [Bool.not_false, Bool.and_false, Bool.false_eq_true, ↓reduceIte]
      rw [tf] at htf
      have lt := of_decide_eq_false htf
      exact wpAny_pure (q2 x es1 t1 (ep + 1) T1 (show t1.place.size * 5 < t1.mask * 3 by omega) ppl pld p1 h1 g1 sb1)
    · simp only [Bool.not_false, Bool.and_self, ↓reduceIte]
      rw [tf] at htf
      have ge := of_decide_eq_true htf
      have ln : t.place.size * 5 < t.mask * 3 := ln
      rw [sl1, pmk] at ge
      have esz : es.size = t.place.size := T.sz.symm
      obtain ⟨mk', big, len', small⟩ : Mk (SetTable.sizeAbove (SetTable.grown (es.size + 1)) - 1) ∧ (es.size + 1) * 5 < (SetTable.sizeAbove (SetTable.grown (es.size + 1)) - 1) * 3 ∧ es1.size ≤ SetTable.sizeAbove (SetTable.grown (es.size + 1)) - 1 ∧ SetTable.sizeAbove (SetTable.grown (es.size + 1)) ≤ sizeLine := by
        rw [sz1, sizeLine_eq]
        rcases T.msk with e | e | e | e | e <;> rw [e] at ge ln
        · have n4 : es.size = 4 := by omega
          rw [n4]
          exact ⟨.inr (.inl (by decide)), by decide, by decide, by decide⟩
        · have n18 : es.size = 18 := by omega
          rw [n18]
          exact ⟨.inr (.inr (.inl (by decide))), by decide, by decide, by decide⟩
        · have n76 : es.size = 76 := by omega
          rw [n76]
          exact ⟨.inr (.inr (.inr (.inl (by decide)))), by decide, by decide, by decide⟩
        · have n306 : es.size = 306 := by omega
          rw [n306]
          exact ⟨.inr (.inr (.inr (.inr (by decide)))), by decide, by decide, by decide⟩
        · omega
      refine wpAny_bind (relay (s := { s with heap := h1 }) g1 rfl T1 mk' len' small fun es2 t2 s' T2 p2 m2 l2 pl2 => ?_)
      have sz2 : es2.size = es1.size := by
        have := p2.length_eq
        rw [Array.length_toList, Array.length_toList] at this
        exact this
      refine wpAny_storeSet_of g1 rfl ?_ (by rw [sizeLine_eq]; omega)
      refine wpAny_pure (q2 x es2 t2 (ep + 1 + 1) T2 ?_ (pl2.trans ppl) (l2.trans pld) (p2.trans p1) _ (stored g1 rfl es2 t2) (sb1.trans (Heap.SameBut.update _ a _)))
      show t2.place.size * 5 < t2.mask * 3
      rw [T2.sz, sz2, m2, sz1]
      exact big
end
end SetA
set_option Elab.async false
set_option linter.all false
set_option maxRecDepth 100000
set_option maxHeartbeats 400000
namespace SetA
open PySem L2
section
variable {prog : Program} {w : World} {A : Around} {E : Value → Shared → Prop} {s : Shared} {a : Addr} {T : List Addr}
def hsh (prog : Program) (w : World) (k : List Int) : Int := tupleKeyHash (intKind prog w) k
def El (prog : Program) (w : World) (T : List Addr) (g : Heap) (e : Int × Value) (k : List Int) : Prop := Srt.TupI g e.2 k ∧ e.1 = hsh prog w k ∧ ∃ q ∈ T, e.2 = .ref q
structure Cell (prog : Program) (w : World) (T : List Addr) (g : Heap) (a : Addr) (o : Obj) (es : Array (Int × Value)) (ep : Nat) (t : SetTable) (ks : List (List Int)) : Prop where
  get : g.get? a = some o
  ex : o.ExactSet
  dat : o.data = .set es ep t
  tb : Tb es t
  ln : Lean_ t
  pl : t.plain = true
  el : Paired (El prog w T g) es.toList ks
  nd : ks.Nodup
  ld : t.led = !w.params.followText "set-order"
theorem tupKey {g : Heap} {q : Addr} {k : List Int} (h : Srt.TupI g (.ref q) k) : IsTupleKey (intKind prog w) g k q ∧ ∃ o its n, g.get? q = some o ∧ o.cls = .type "tuple" ∧ o.data = .seq its n ∧ ∀ v ∈ its.toList, ∃ j t, v = .int j t := by
  obtain ⟨q', o, its, n, e, g1, c1, d1, iv⟩ := h
  cases e
  have gen : ∀ {ns : List Int} {vs : List Value}, Srt.IntsV ns vs → ItemsAre (intKind prog w) ns vs ∧ ∀ v ∈ vs, ∃ j t, v = .int j t := by
    intro ns vs h
    induction h with
    | nil => exact ⟨.nil, fun _ h => nomatch h⟩
    | cons hv _ ih =>
      obtain ⟨t, rfl⟩ := hv
      refine ⟨.cons (by simp [intKind, Value.isInt]) ih.1, fun u hu => ?_⟩
      rcases List.mem_cons.mp hu with e | hu
      · exact ⟨_, _, e⟩
      · exact ih.2 u hu
  exact ⟨⟨o, its, n, g1, c1, d1, (gen iv).1⟩, o, its, n, g1, c1, d1, (gen iv).2⟩
theorem keyInts {g : Heap} {p : Addr} {k : List Int} (h : IsTupleKey (intKind prog w) g k p) : ∃ o its n, g.get? p = some o ∧ o.cls = .type "tuple" ∧ o.data = .seq its n ∧ ∀ v ∈ its.toList, ∃ j t, v = .int j t := by
  obtain ⟨o, its, n, g1, c1, d1, it⟩ := h
  refine ⟨o, its, n, g1, c1, d1, ?_⟩
  generalize its.toList = vs at it
  induction it with
  | nil => exact fun _ h => nomatch h
  | cons hv _ ih =>
    intro u hu
    rcases List.mem_cons.mp hu with e | hu
    · subst e
      obtain ⟨t, e⟩ := Value.isInt_shape hv
      exact ⟨_, t, e⟩
    · exact ih u hu
theorem paired_perm {α β : Type} {F : α → β → Prop} {l l' : List α} (p : l'.Perm l) : ∀ {ks : List β}, Paired F l ks → ∃ ms, Paired F l' ms ∧ ms.Perm ks := by
  induction p with
  | nil => intro ks h; exact ⟨ks, h, .refl _⟩
  | cons x _ ih =>
    intro ks h
    cases h with
    | cons hx t =>
      obtain ⟨ms, m1, m2⟩ := ih t
      exact ⟨_, .cons hx m1, m2.cons _⟩
  | swap x y l =>
    intro ks h
    cases h with
    | cons hx t =>
      cases t with
      | cons hy t => exact ⟨_, .cons hy (.cons hx t), .swap _ _ _⟩
  | trans _ _ ih1 ih2 =>
    intro ks h
    obtain ⟨ms, m1, m2⟩ := ih2 h
    obtain ⟨ns, n1, n2⟩ := ih1 m1
    exact ⟨ns, n1, n2.trans m2⟩
theorem paired_getL {α β : Type} {F : α → β → Prop} : ∀ {l : List α} {ks : List β}, Paired F l ks → ∀ (i : Nat) (x : α), l[i]? = some x → ∃ k, ks[i]? = some k ∧ F x k
  | _, _, .nil, i, x, e => by simp at e
  | _, _, .cons h t, 0, x, e => by
    cases e
    exact ⟨_, rfl, h⟩
  | _, _, .cons h t, i + 1, x, e => paired_getL t i x e
theorem paired_getR {α β : Type} {F : α → β → Prop} : ∀ {l : List α} {ks : List β}, Paired F l ks → ∀ (i : Nat) (k : β), ks[i]? = some k → ∃ x, l[i]? = some x ∧ F x k
  | _, _, .nil, i, x, e => by simp at e
  | _, _, .cons h t, 0, x, e => by
    cases e
    exact ⟨_, rfl, h⟩
  | _, _, .cons h t, i + 1, x, e => paired_getR t i x e
theorem El.move {g g' : Heap} {a : Addr} {o : Obj} (ho : g.get? a = some o) (hc : o.cls = .type "set") (sb : Heap.SameBut a g g') {e : Int × Value} {k : List Int} (h : El prog w T g e k) : El prog w T g' e k := by
  obtain ⟨⟨q, ob, its, n, e1, g1, c1, d1, iv⟩, eh⟩ := h
  refine ⟨⟨q, ob, its, n, e1, ?_, c1, d1, iv⟩, eh⟩
  rw [sb.2 q (fun z => by
    rw [z, ho] at g1
    cases g1
    rw [hc] at c1
    exact absurd c1 (by decide))]
  exact g1
theorem addT {o : Obj} {es : Array (Int × Value)} {ep : Nat} {t : SetTable} {ks : List (List Int)} (hu : A.units < cLine) (C : Cell prog w T s.heap a o es ep t ks) (few : ks.length ≤ 600) {q : Addr} {k : List Int} (hk : Srt.TupI s.heap (.ref q) k) (hT : q ∈ T) {Q : Bool → Shared → Prop}
    (q1 : k ∈ ks → Q false s) (q2 : k ∉ ks → ∀ (h' : Heap) (o' : Obj) (es' : Array (Int × Value)) (ep' : Nat) (t' : SetTable) (ms : List (List Int)), Cell prog w T h' a o' es' ep' t' ms → ms.Perm (k :: ks) → Heap.SameBut a s.heap h' → Q true { s with heap := h' }) :
    wpAny (model prog w) A (setAddHashed a (.ref q) (hsh prog w k)) Q E s := by
  have len : es.size = ks.length := by
    have := Paired.length C.el
    rw [Array.length_toList] at this
    exact this
  have at_ : ∀ (i : Nat) (e : Int × Value), es[i]? = some e → ∃ m, ks[i]? = some m ∧ El prog w T s.heap e m := fun i e ee => paired_getL C.el i e (by rw [Array.getElem?_toList]; exact ee)
  have isref : ∀ {v : Value} {m : List Int}, Srt.TupI s.heap v m → ∃ p, v = .ref p := fun h => by
    obtain ⟨p, _, _, _, e, _⟩ := h
    exact ⟨p, e⟩
  obtain ⟨tk, oq, iq, nq, gq, cq, dq, vq⟩ := tupKey (prog := prog) (w := w) hk
  refine add C.get C.dat C.tb C.ln C.pl (by omega) (fun i => decide (ks[i]? = some k)) (fun i e ee eh => ?_) (fun Q' hq => ?_) (fun i e ee => ?_) (fun Q' s' hs hq => ?_) (fun x => ?_) (fun x es' t' ep' T' l' p' ld pm h' g' sb => ?_)
  · obtain ⟨m, em, tm, _⟩ := at_ i e ee
    obtain ⟨p, ep⟩ := isref tm
    rw [ep] at tm ⊢
    rw [em]
    have := eqT (A := A) hu tm hk
    simpa using this
  · refine seen_no (knd := intKind prog w) tk (fun p m hp Q'' hq'' => ?_) (fun y hy => ?_) hq
    · obtain ⟨o1, i1, n1, g1, c1, d1, v1⟩ := keyInts hp
      exact noClass g1 c1 d1 v1 hq''
    · obtain ⟨e, he, rfl⟩ := List.mem_map.mp hy
      have he : e ∈ es := by
        have := (Array.mem_filter.mp (Array.mem_toList_iff.mp he)).1
        exact this
      obtain ⟨i, hi, ei⟩ := Array.getElem_of_mem he
      obtain ⟨m, _, tm, _⟩ := at_ i e (by rw [Array.getElem?_eq_getElem hi, ei])
      obtain ⟨p, ep⟩ := isref tm
      rw [ep] at tm
      exact ⟨p, m, ep, (tupKey tm).1⟩
  · obtain ⟨m, _, tm, _⟩ := at_ i e ee
    exact isref tm
  · exact hbv (by rw [hs]; exact gq) cq dq vq hq
  · obtain ⟨i, e, ee, _, ev⟩ := x
    exact q1 (List.mem_of_getElem? (of_decide_eq_true ev))
  · have nk : k ∉ ks := fun hm => by
      obtain ⟨i, hi, ei⟩ := List.getElem_of_mem hm
      obtain ⟨e, ee, tm, eh, _⟩ := paired_getR C.el i k (by rw [List.getElem?_eq_getElem hi, ei])
      have := x i e (by rw [← Array.getElem?_toList]; exact ee) eh
      exact of_decide_eq_false this (by rw [List.getElem?_eq_getElem hi, ei])
    have el1 : Paired (El prog w T s.heap) ((hsh prog w k, Value.ref q) :: es.toList) (k :: ks) := .cons ⟨hk, rfl, q, hT, rfl⟩ C.el
    obtain ⟨ms, m1, m2⟩ := paired_perm pm el1
    refine q2 nk h' _ es' ep' t' ms ⟨g', C.ex, rfl, T', l', p', Paired.mapP m1 (fun e m he => he.move C.get C.ex.1 sb), ?_, ld.trans C.ld⟩ m2 sb
    exact m2.nodup_iff.mpr (List.nodup_cons.mpr ⟨nk, C.nd⟩)
end
end SetA
set_option Elab.async false
set_option linter.all false
set_option maxRecDepth 100000
set_option maxHeartbeats 800000
namespace SetA
open PySem L2
end SetA
set_option Elab.async false
set_option linter.all false
set_option maxRecDepth 100000
set_option maxHeartbeats 3200000
namespace SetA
open PySem L2
section
variable {prog : Program} {w : World} {A : Around} {E : Value → Shared → Prop} {s : Shared} {T : List Addr}
abbrev newO (led : Bool) : Obj := { cls := .type "set", dict := none, data := .set #[] 0 (.fresh 0 0 led) }
theorem fresh_cell {g : Heap} {S : Addr} {led : Bool} (hl : led = !w.params.followText "set-order") (h : g.get? S = some (newO led)) : Cell prog w T g S (newO led) #[] 0 (.fresh 0 0 led) [] := by
  refine ⟨h, ⟨rfl, rfl, rfl⟩, rfl, ⟨fun i j _ hj => absurd hj (by show ¬ j < 0; omega), rfl, rfl, .inl rfl, by show 0 ≤ 7; decide, fun i j e hp => ?_⟩, by show 0 * 5 < 7 * 3; decide, rfl, .nil, List.nodup_nil, hl⟩
  have hp : (#[] : Array Nat)[i]? = some j := hp
  simp at hp
end
end SetA
set_option Elab.async false
set_option linter.all false
set_option maxRecDepth 100000
set_option maxHeartbeats 1600000
namespace SetA
open PySem PySem.W PyProof.Rows
abbrev byT (w : World) : Bool := w.params.followText "set-order"
def ord (w : World) (a : Addr) (es : Array (Int × Value)) (ep : Nat) : Array (Int × Value) := if byT w = true then pickOrder (w.params.setOrder a ep) es else es
theorem cut_perm {α : Type} : ∀ (i : Nat) (l : List α) (h : i < l.length), (l[i] :: l.eraseIdx i).Perm l
  | 0, _ :: _, _ => .refl _
  | i + 1, x :: l, h => by
    show (l[i]'(Nat.lt_of_succ_lt_succ h) :: x :: l.eraseIdx i).Perm _
    exact (List.Perm.swap _ _ _).trans ((cut_perm i l (Nat.lt_of_succ_lt_succ h)).cons x)
theorem pick_go {α : Type} (f : Nat → Nat) : ∀ (n k : Nat) (l : List α) (out : Array α), l.length = n → (pickOrder.go f n k l out).toList.Perm (out.toList ++ l)
  | 0, k, l, out, h => by
    have : l = [] := List.length_eq_zero_iff.mp h
    subst this
    rw [List.append_nil]
    exact .refl _
  | n + 1, k, l, out, h => by
    have lt : f k % l.length < l.length := Nat.mod_lt _ (by omega)
    unfold pickOrder.go
    rw [List.getElem?_eq_getElem lt]
    dsimp only
    refine (pick_go f n (k + 1) _ _ (by rw [List.length_eraseIdx_of_lt lt]; omega)).trans ?_
    rw [Array.toList_push, List.append_assoc]
    exact List.Perm.append_left _ (cut_perm _ l lt)
theorem ord_perm {w : World} {a : Addr} {es : Array (Int × Value)} {ep : Nat} : (ord w a es ep).toList.Perm es.toList := by
  unfold ord
  split
  · have := pick_go (w.params.setOrder a ep) es.size 0 es.toList #[] (by simp)
    simpa [pickOrder] using this
  · exact .refl _
structure Raw (w : World) (a : Addr) (es : Array (Int × Value)) (ep : Nat) (t : SetTable) (g : Heap) : Prop where
  get : ∃ o, g.get? a = some o ∧ o.ExactSet ∧ o.data = .set es ep t
  rs : Rs t.place
  ft : t.fits es.size = true
  pl : t.plain = true
  ld : t.led = !byT w
theorem Raw.to {w : World} {a : Addr} {es : Array (Int × Value)} {ep : Nat} {t : SetTable} {g g' : Heap} (x : Raw w a es ep t g) (k : ∀ o, g.get? a = some o → g'.get? a = some o) : Raw w a es ep t g' := by
  obtain ⟨o, h, r⟩ := x.get
  exact ⟨⟨o, k o h, r⟩, x.rs, x.ft, x.pl, x.ld⟩
theorem Raw.lt {w : World} {a : Addr} {es : Array (Int × Value)} {ep : Nat} {t : SetTable} {g : Heap} (x : Raw w a es ep t g) : a < g.objs.size := by
  obtain ⟨o, h, r⟩ := x.get
  exact Heap.lt_size h
theorem Raw.sz {w : World} {a : Addr} {es : Array (Int × Value)} {ep : Nat} {t : SetTable} {g : Heap} (x : Raw w a es ep t g) : t.place.size = es.size := by
  have := x.ft
  unfold SetTable.fits at this
  simp only [Bool.and_eq_true, beq_iff_eq] at this
  exact this.1
def stAt (w : World) (t : SetTable) (i : Nat) : Nat := if byT w = true then 0 else if i = 0 then 0 else t.place.getD (i - 1) 0 + 1
theorem below_st {w : World} {t : SetTable} (r : Rs t.place) (hb : byT w = false) {i : Nat} (hi : i ≤ t.place.size) : SetTable.below t.place (stAt w t i) = i := by
  have e : stAt w t i = if i = 0 then 0 else t.place.getD (i - 1) 0 + 1 := by
    unfold stAt
    rw [hb]
    rfl
  rw [e]
  obtain ⟨b1, b2, b3⟩ := below_spec r (if i = 0 then 0 else t.place.getD (i - 1) 0 + 1)
  by_cases z : i = 0
  · rw [if_pos z] at b1 b2 b3 ⊢
    by_cases c : SetTable.below t.place 0 = 0
    · omega
    · exact absurd (b2 0 (by omega)) (by omega)
  · rw [if_neg z] at b1 b2 b3 ⊢
    generalize SetTable.below t.place (t.place.getD (i - 1) 0 + 1) = b at b1 b2 b3
    have up : i ≤ b := by
      refine Nat.le_of_not_lt fun c => ?_
      have := b3 (i - 1) (by omega) (by omega)
      omega
    refine Nat.le_antisymm (Nat.le_of_not_lt fun c => ?_) up
    have h1 := b2 i c
    have h2 := r (i - 1) i (by omega) (by omega)
    omega
section
variable {prog : Program} {w : World} {A : Around} {E : Value → Shared → Prop} {s : Shared} {a it : Addr} {es : Array (Int × Value)} {ep i : Nat} {t : SetTable}
theorem setsByText_w {Q : Bool → Shared → Prop} (q : Q (byT w) s) : wpAny (model prog w) A setsByText Q E s := by
  unfold setsByText
  exact wpAny_bind (wpAny_askSetting (wpAny_pure q))
theorem drawn_no {Q : Bool → Shared → Prop} (x : Raw w a es ep t s.heap) (q : Q false s) : wpAny (model prog w) A (setDrawn a) Q E s := by
  obtain ⟨o, h, ex, d⟩ := x.get
  unfold setDrawn
  refine wpAny_bind (wpAny_setState_of h d x.ft ?_)
  dsimp only
  refine wpAny_bind (setsByText_w (wpAny_pure ?_))
  have e : ∀ z : Bool, z = false → Q z s := fun z hz => by rw [hz]; exact q
  refine e _ ?_
  show (_ && (!t.plain && _)) = false
  rw [x.pl]
  simp
theorem next_ok {n : Nat} {Q : Option (Value × Nat) → Shared → Prop} (x : Raw w a es ep t s.heap) (hi : i ≤ es.size) (q : Q (((ord w a es ep)[i]?).map fun e => (e.2, stAt w t (i + 1))) s) : wpAny (model prog w) A (setNext a (stAt w t i) i ep) Q E s := by
  obtain ⟨o, h, ex, d⟩ := x.get
  unfold setNext
  refine wpAny_bind (wpAny_setState_of h d x.ft ?_)
  dsimp only
  refine wpAny_bind (setsByText_w ?_)
  by_cases hb : byT w = true
  · rw [if_pos hb]
    simp only [bne_self_eq_false, Bool.false_eq_true, if_false]
    refine wpAny_bind ?_
    unfold setWalk
    refine wpAny_bind (wpAny_setState_of h d x.ft ?_)
    dsimp only
    refine wpAny_bind (setsByText_w ?_)
    rw [if_pos hb]
    refine wpAny_bind (wpAny_askSetting (wpAny_pure (wpAny_pure ?_)))
    have e1 : ord w a es ep = pickOrder (w.params.setOrder a ep) es := by unfold ord; rw [if_pos hb]
    have e2 : ∀ i, stAt w t i = 0 := fun i => by unfold stAt; rw [if_pos hb]
    rw [e1, e2] at q
    rw [e2]
    exact q
  · have hb' : byT w = false := by simpa using hb
    rw [if_neg hb]
    refine wpAny_ite_split (fun y => absurd (show (!t.plain && _) = true from y) (by rw [x.pl]; simp)) (fun _ => ?_)
    refine wpAny_bind ?_
    show wpAny _ _ (if (!t.led && !es.isEmpty) = true then unsupported _ else pure ()) _ _ _
    rw [x.ld, hb']
    simp only [Bool.not_false, Bool.not_true, Bool.false_and, Bool.false_eq_true, if_false]
    refine wpAny_pure (wpAny_pure ?_)
    have e1 : ord w a es ep = es := by unfold ord; rw [if_neg hb]
    rw [below_st x.rs hb' (by rw [x.sz]; exact hi)]
    rw [e1] at q
    by_cases l : i < es.size
    · have l2 : i < t.place.size := by rw [x.sz]; exact l
      rw [Array.getElem?_eq_getElem l, Array.getElem?_eq_getElem l2]
      rw [Array.getElem?_eq_getElem l] at q
      have e2 : stAt w t (i + 1) = t.place[i] + 1 := by
        unfold stAt
        rw [if_neg hb, if_neg (by omega), Nat.add_sub_cancel]
        simp [Array.getD, l2]
      rw [e2] at q
      exact q
    · rw [Array.getElem?_eq_none (by omega)] at q ⊢
      exact q
def ItAt (w : World) (it a : Addr) (t : SetTable) (i n ep : Nat) (g : Heap) : Prop := ∃ o, g.get? it = some o ∧ o.cls = .type "set_iterator" ∧ o.data = .fields #[.int (stAt w t i : Nat) 0, .int i 0, .ref a, .int n 0, .int ep 0]
theorem it_slot : Slot "set_iterator" "__next__" "set_iterator.__next__" := .of (owner := "set_iterator") (n := "__next__") (by rw [typeLookup_type, builtinLookup_eq_fast]; kernel_rfl) (by decide +kernel) (by decide +kernel) (by decide +kernel) (by first | exact .inl (by decide +kernel) | exact .inr (by decide +kernel)) (by rw [isSubtype_type]; kernel_rfl)
theorem it_entry : entryFor table "set_iterator.__next__" = some Builtin.«set_iterator.__next__» := entryFor_of_tree (by kernel_rfl)
theorem it_own : Manifest.owners.lookup (String.ofList ['r', 'o', 't', 'a', 'r', 'e', 't', 'i', '_', 't', 'e', 's'].reverse) = some Manifest.sig_set_iterator := by kernel_rfl
theorem it_args (v : Value) : argsOk "set_iterator.__next__" ⟨[v], []⟩ := by
  unfold argsOk; rw [signature?_of (id := "set_iterator.__next__") (n := ['_', '_', 't', 'x', 'e', 'n', '_', '_']) (o := ['r', 'o', 't', 'a', 'r', 'e', 't', 'i', '_', 't', 'e', 's']) (by kernel_rfl) it_own]; kernel_rfl
theorem iter_entry : entryFor table "set.__iter__" = some Builtin.«frozenset.__iter__» := entryFor_alias (id' := "frozenset.__iter__") (by kernel_rfl) rfl (by decide +kernel) (by kernel_rfl)
theorem Raw.ty (x : Raw w a es ep t s.heap) : s.TypeIs (.ref a) "set" := by
  obtain ⟨o, h, ex, d⟩ := x.get
  exact ⟨o, h, ex.1⟩
theorem iterOf {Q : Value → Shared → Prop} (x : Raw w a es ep t s.heap) (q : Q (.ref s.heap.objs.size) { s with heap := s.heap.push { cls := .type "set_iterator", data := .fields #[.int (stAt w t 0 : Nat) 0, .int (0 : Nat) 0, .ref a, .int es.size 0, .int ep 0] } }) :
    wpAny (model prog w) A (pyIter (.ref a)) Q E s := by
  have ty := x.ty
  obtain ⟨o, h, ex, d⟩ := x.get
  refine wpAny_pyIter_slot ty F.slot_set_iter (wpAny_call_entry F.slot_set_iter ty iter_entry ?_ (F.args_set_iter_1 _))
  unfold Builtin.«frozenset.__iter__» Builtin.Frozenset.slot0 slotArgs
  simp only [List.isEmpty_nil, Bool.not_true, Bool.false_eq_true, ↓reduceIte, bind_assoc, List.length_nil, bne_self_eq_false]
  unfold Builtin.Frozenset.addrOf Builtin.Frozenset.sizeOf
  refine wpAny_bind (wpAny_pure ?_)
  dsimp only
  refine wpAny_bind (wpAny_pure (wpAny_bind (wpAny_bind (wpAny_setEntries_of h d x.ft (wpAny_pure ?_)))))
  refine wpAny_bind (drawn_no x ?_)
  simp only [Bool.false_eq_true, if_false]
  refine wpAny_bind (wpAny_pure ?_)
  refine wpAny_bind (wpAny_setEpoch_of h d x.ft ?_)
  refine wpAny_bind (wpAny_newObj_type (wpAny_pure ⟨_, rfl, "set_iterator", _, ⟨_, Heap.get?_push_size _ rfl, rfl⟩, it_slot.lookup, ?_⟩))
  have e0 : stAt w t 0 = 0 := by unfold stAt; split <;> rfl
  rw [e0] at q
  simpa [rawInt] using q
theorem itemOf {v : Value} {Q : Option Value → Shared → Prop} (hI : ItAt w it a t i es.size ep s.heap) (x : Raw w a es ep t s.heap) (hv : ((ord w a es ep)[i]?).map (·.2) = some v)
    (q : ∀ g', ItAt w it a t (i + 1) es.size ep g' → Heap.SameBut it s.heap g' → Q (some v) { s with heap := g' }) : wpAny (model prog w) A (pyNext (.ref it)) Q E s := by
  obtain ⟨io, a0, c0, d0⟩ := hI
  obtain ⟨o, h, ex, d⟩ := x.get
  have ty : s.TypeIs (.ref it) "set_iterator" := ⟨_, a0, c0⟩
  unfold pyNext; refine wpAny_bind (wpAny_attempt (wpAny_callSpecial?_slot (name := Str.ofString "__next__") ty it_slot (wpAny_call_entry it_slot ty it_entry ?_ (it_args _))))
  unfold Builtin.«set_iterator.__next__» slotArgs
  simp only [List.isEmpty_nil, Bool.not_true, Bool.false_eq_true, ↓reduceIte, bind_assoc, List.length_nil, bne_self_eq_false]
  refine wpAny_bind (wpAny_pure (wpAny_bind (wpAny_fieldsOf a0 d0 ?_)))
  dsimp only
  refine wpAny_bind (wpAny_setEntries_of h d x.ft ?_)
  simp only [bne_self_eq_false, Bool.false_eq_true, if_false, Int.toNat_natCast]
  have il : i < es.size := by
    have hl := ord_perm (w := w) (a := a) (es := es) (ep := ep)
    have := hl.length_eq
    rw [Array.length_toList, Array.length_toList] at this
    refine Nat.lt_of_not_le fun c => ?_
    rw [Array.getElem?_eq_none (by omega)] at hv
    cases hv
  refine wpAny_bind (next_ok (n := 0) x (Nat.le_of_lt il) ?_)
  obtain ⟨e, he, ev⟩ := Option.map_eq_some_iff.mp hv
  rw [he]
  dsimp only [Option.map]
  refine wpAny_bind (wpAny_setField a0 d0 (by simp) ?_)
  have a1 := Heap.get?_update_self (Obj.mapFields (·.setIfInBounds 0 (rawInt (stAt w t (i + 1) : Nat)))) a0 (Obj.isFreed_of_fields (Obj.data_mapFields d0 _))
  have d1 := Obj.data_mapFields d0 (·.setIfInBounds 0 (rawInt (stAt w t (i + 1) : Nat)))
  have c1 := Obj.cls_mapFields io (·.setIfInBounds 0 (rawInt (stAt w t (i + 1) : Nat)))
  refine wpAny_bind (wpAny_setField a1 d1 (by simp) ?_)
  refine wpAny_pure ⟨_, rfl, ?_⟩
  have a2 := Heap.get?_update_self (Obj.mapFields (·.setIfInBounds 1 (rawInt ((i : Int) + 1)))) a1 (Obj.isFreed_of_fields (Obj.data_mapFields d1 _))
  rw [ev]
  refine wpAny_pure (q _ ⟨_, a2, (Obj.cls_mapFields ..).trans (c1.trans c0), ?_⟩ ((Heap.SameBut.update ..).trans (Heap.SameBut.update ..)))
  rw [Obj.data_mapFields d1]
  simp [rawInt]
theorem endOf {Q : Option Value → Shared → Prop} (hh : A.handled = none) (hI : ItAt w it a t es.size es.size ep s.heap) (x : Raw w a es ep t s.heap) (q : ∀ g', Heap.ExtBut it s.heap g' → Q none { s with heap := g' }) : wpAny (model prog w) A (pyNext (.ref it)) Q E s := by
  obtain ⟨io, a0, c0, d0⟩ := hI
  obtain ⟨o, h, ex, d⟩ := x.get
  have ty : s.TypeIs (.ref it) "set_iterator" := ⟨_, a0, c0⟩
  unfold pyNext; refine wpAny_bind (wpAny_attempt (wpAny_callSpecial?_slot (name := Str.ofString "__next__") ty it_slot (wpAny_call_entry it_slot ty it_entry ?_ (it_args _))))
  unfold Builtin.«set_iterator.__next__» slotArgs
  simp only [List.isEmpty_nil, Bool.not_true, Bool.false_eq_true, ↓reduceIte, bind_assoc, List.length_nil, bne_self_eq_false]
  refine wpAny_bind (wpAny_pure (wpAny_bind (wpAny_fieldsOf a0 d0 ?_)))
  dsimp only
  refine wpAny_bind (wpAny_setEntries_of h d x.ft ?_)
  simp only [bne_self_eq_false, Bool.false_eq_true, if_false, Int.toNat_natCast]
  refine wpAny_bind (next_ok (n := 0) x (Nat.le_refl _) ?_)
  have hl := (ord_perm (w := w) (a := a) (es := es) (ep := ep)).length_eq
  rw [Array.length_toList, Array.length_toList] at hl
  rw [Array.getElem?_eq_none (by omega)]
  dsimp only [Option.map]
  refine wpAny_bind (wpAny_setField a0 d0 (by simp) ?_)
  refine wpAny_bind ?_; simp only [newExc, newTuple]; refine wpAny_bind (wpAny_newObj_type ?_ (by size_fits))
  refine wpAny_bind (m := firstArgMember _ _) (wpAny_of_eq (a := Value.none) (by first | rfl | (simp only [firstArgMember]; rfl)) (wpAny_newObj_type ?_ (by size_fits))); simp only [raiseNew]; refine wpAny_bind (wpAny_handled ?_)
  rw [show A.in1.handled = none from hh]; refine wpAny_bind (wpAny_pure (wpAny_throw ?_)); refine wpAny_bind (wpAny_isInstance (T := "StopIteration") (b := true) ⟨_, Heap.get?_push_size _ rfl, rfl⟩ isSubtype_stop ?_)
  refine wpAny_pure (q _ ?_)
  exact ((Heap.SameBut.update ..).extBut.push _).push _
theorem self_slot : Slot "set_iterator" "__iter__" "set_iterator.__iter__" := .of (owner := "set_iterator") (n := "__iter__") (by rw [typeLookup_type, builtinLookup_eq_fast]; kernel_rfl) (by decide +kernel) (by decide +kernel) (by decide +kernel) (by first | exact .inl (by decide +kernel) | exact .inr (by decide +kernel)) (by rw [isSubtype_type]; kernel_rfl)
theorem self_entry : entryFor table "set_iterator.__iter__" = some Builtin.«dict_keyiterator.__iter__» := entryFor_alias (id' := "dict_keyiterator.__iter__") (by kernel_rfl) rfl (by decide +kernel) (by kernel_rfl)
theorem self_args (v : Value) : argsOk "set_iterator.__iter__" ⟨[v], []⟩ := by
  unfold argsOk; rw [signature?_of (id := "set_iterator.__iter__") (n := ['_', '_', 'r', 'e', 't', 'i', '_', '_']) (o := ['r', 'o', 't', 'a', 'r', 'e', 't', 'i', '_', 't', 'e', 's']) (by kernel_rfl) it_own]; kernel_rfl
theorem itSelf {n : Nat} {Q : Value → Shared → Prop} (hI : ItAt w it a t i n ep s.heap) (q : Q (.ref it) s) : wpAny (model prog w) A (pyIter (.ref it)) Q E s := by
  obtain ⟨io, a0, c0, d0⟩ := hI
  have ty : s.TypeIs (.ref it) "set_iterator" := ⟨_, a0, c0⟩
  refine wpAny_pyIter_slot ty self_slot (wpAny_call_entry self_slot ty self_entry ?_ (self_args _)); show wpAny _ _ (ret (.ref it)) _ _ s
  exact wpAny_pure ⟨_, rfl, "set_iterator", _, ty, it_slot.lookup, q⟩
theorem setWalks (hh : A.handled = none) (I a : Addr) (ne : a ≠ I) (es : Array (Int × Value)) (ep : Nat) (t : SetTable) : Walks prog w A I [I, a] [I] es.size (fun i v => ((ord w a es ep)[i]?).map (·.2) = some v) (fun i g => ItAt w I a t i es.size ep g ∧ Raw w a es ep t g) where
  sub := fun b z => by simp at z; simp [z]
  frame := fun _ _ _ st k => by
    obtain ⟨⟨o, e, r⟩, x⟩ := st
    exact ⟨⟨o, k I (by simp) o e, r⟩, x.to fun o e => k a (by simp) o e⟩
  item := fun i s Q E hi st hQ => by
    have hl := (ord_perm (w := w) (a := a) (es := es) (ep := ep)).length_eq
    rw [Array.length_toList, Array.length_toList] at hl
    have hx : ((ord w a es ep)[i]?).map (·.2) = some ((ord w a es ep)[i]'(by omega)).2 := by rw [Array.getElem?_eq_getElem (by omega)]; rfl
    exact itemOf st.1 st.2 hx fun g' it' sb => hQ _ g' s.toks hx ⟨it', st.2.to fun o e => sb.extBut a o ne e⟩ fun b o z e => sb.extBut b o (fun h => z (by simp [h])) e
  done := fun s Q E st hQ => endOf hh st.1 st.2 fun g' e' => hQ g' s.toks fun b o z e => e' b o (fun h => z (by simp [h])) e
  self := fun i s Q E st hQ => itSelf st.1 hQ
theorem hintOf {Q : Bool → Shared → Prop} (ty : s.TypeIs (.ref a) "set") (q : Q false s) : wpAny (model prog w) A (Builtin.List.listLengthHint (.ref a)) Q E s := by
  unfold Builtin.List.listLengthHint; refine wpAny_bind (wpAny_specialOf ty F.slot_set_len.lookup ?_)
  generalize hi : ("set.__len__" : String) = id0; wp_delta
  rw [show splitId id0 = some ("set", "__len__") from by subst hi; decide +kernel]; subst hi
  refine wpAny_bind (wpAny_isInstance (T := "set") (b := true) ty (by rw [isSubtype_type]; kernel_rfl) (wpAny_ite_split (fun z => absurd z (by decide)) (fun _ => wpAny_ite_split (fun _ => ?_) (fun z => absurd (by decide +kernel) z))))
  exact wpAny_bind (wpAny_typeOf ty (wpAny_pure q))
theorem setSrc (a : Addr) (es : Array (Int × Value)) (ep : Nat) (t : SetTable) : KdlSrc prog w "set" a a es.size (fun i v => ((ord w a es ep)[i]?).map (·.2) = some v) (Raw w a es ep t) where
  type := fun _ x => x.ty
  there := fun _ x => ⟨x.lt, x.lt⟩
  keep := fun _ _ x k => x.to fun o e => k a (.inl rfl) o e
  notList := by decide
  notTuple := by decide
  hint := fun _ _ _ _ x q => hintOf x.ty q
  iter := fun _ _ hh x => ⟨_, _, (fun _ _ q => iterOf x q), setWalks hh _ a (Nat.ne_of_lt x.lt) es ep t, ⟨⟨_, Heap.get?_push_size _ rfl, rfl, rfl⟩, x.to fun o e => Heap.get?_push_of_some _ e⟩⟩
end
end SetA
set_option Elab.async false
set_option linter.all false
set_option maxRecDepth 100000
set_option maxHeartbeats 4000000
namespace Srt
open PySem PySem.W PyProof.Rows
end Srt
namespace L2
open PySem PySem.W PyProof.Rows Srt
end L2
set_option Elab.async false
set_option linter.all false
set_option maxRecDepth 100000
set_option maxHeartbeats 1600000
namespace L2
open PySem PySem.W PyProof.Rows Srt SetA
section
variable {X : Cx} {pins : List (Addr × Obj)} {σ : St} {H : Hp} {s : Shared}
theorem refs_pick {prog : Program} {w : World} {T : List Addr} {g : Heap} : ∀ {l : List (Int × Value)} {ks : List (List Int)}, Paired (El prog w T g) l ks → ∃ qs : List Addr, l.map (·.2) = qs.map Value.ref ∧ (∀ q ∈ qs, q ∈ T) ∧ Paired (fun q k => TupI g (.ref q) k) qs ks
  | _, _, .nil => ⟨[], rfl, (fun _ h => nomatch h), .nil⟩
  | e :: l, k :: ks, .cons ⟨h1, _, q, hq, he⟩ r => by
    obtain ⟨qs, e1, e2, e3⟩ := refs_pick r
    refine ⟨q :: qs, by rw [List.map_cons, List.map_cons, e1, he], fun x hx => ?_, .cons (by rw [← he]; exact h1) e3⟩
    rcases List.mem_cons.mp hx with z | z
    · rw [z]; exact hq
    · exact e2 x z
theorem call_sortedG : CallR X (.builtin "sorted") (fun xs H Q => ∃ S Z qs ks, xs = [V.ref S] ∧ H S = some (.ext Z) ∧ (∀ h, Z h → ∃ es ep t, Raw X.w S es ep t h ∧ es.toList.map (·.2) = qs.map Value.ref) ∧ TupsAt H qs ks ∧ X.A.handled = none ∧ (∀ k ∈ ks, k ≠ []) ∧ qs.length < 1000 ∧
    ∀ (l' : Addr) (bs : List Addr) (ns : List (List Int)), H l' = none → ns.Perm ks → ns.Pairwise (fun x y => lexlt y x = false) → TupsAt H bs ns → Q (.ref l') (upd H l' (.lst (bs.map V.ref)))) := by
  intro pins s σ H xs us Q I r h
  obtain ⟨S, Z, qs, ks, rfl, hS, hZ, ht, hh, hne, hlen, q⟩ := h
  obtain ⟨u, rfl, rx⟩ := vals1 r
  cases rx
  obtain ⟨z0, _, _⟩ := I.hok S _ hS
  obtain ⟨es, ep, t, x, eq⟩ := hZ _ z0
  have ez : es.size = qs.length := by
    have := congrArg List.length eq
    rw [List.length_map, List.length_map, Array.length_toList] at this
    exact this
  refine Calls.call_function_entry kind_sorted plain_sorted entry_sorted (args_sorted1 _) ?_
  unfold Builtin.«sorted»
  refine wpAny_bind (m := checkCount "sorted" 1 1 _) (wpAny_pure (wpAny_bind (kdu_collect (setSrc S es ep t) hh x (by rw [ez, sizeLine_eq]; omega) fun h' tk acc kp items => ?_)))
  have ea : acc.toList = (ord X.w S es ep).toList.map (·.2) := by
    refine List.ext_getElem? fun j => ?_
    rw [List.getElem?_map, Array.getElem?_toList, Array.getElem?_toList]
    have ol := (ord_perm (w := X.w) (a := S) (es := es) (ep := ep)).length_eq
    rw [Array.length_toList, Array.length_toList] at ol
    by_cases hj : j < acc.size
    · have := items.2 j acc[j] (Array.getElem?_eq_getElem hj)
      rw [Array.getElem?_eq_getElem hj, this]
    · rw [Array.getElem?_eq_none (by omega), Array.getElem?_eq_none (by have := items.1; omega)]
      rfl
  have pq : acc.toList.Perm (qs.map Value.ref) := by
    rw [ea, ← eq]
    exact ord_perm.map _
  obtain ⟨as, e1, pa⟩ : ∃ as : List Addr, acc.toList = as.map Value.ref ∧ as.Perm qs := by
    refine ⟨acc.toList.map unref, ?_, ?_⟩
    · have all : ∀ v ∈ acc.toList, ∃ a, v = Value.ref a := fun v hv => by
        obtain ⟨a, _, e⟩ := List.mem_map.mp (pq.mem_iff.mp hv)
        exact ⟨a, e.symm⟩
      clear pq ea items
      generalize acc.toList = l at all
      induction l with
      | nil => rfl
      | cons v l ih =>
        obtain ⟨a, rfl⟩ := all _ (List.mem_cons_self ..)
        rw [List.map_cons, List.map_cons, ← ih fun v hv => all v (List.mem_cons_of_mem _ hv)]
        rfl
    · have := pq.map unref
      rw [List.map_map] at this
      have e : (unref ∘ Value.ref) = id := rfl
      rw [e, List.map_id] at this
      exact this
  obtain ⟨ks0, ht0, pk⟩ := paired_perm pa ht
  have hne0 : ∀ k ∈ ks0, k ≠ [] := fun k hk => hne k (pk.mem_iff.mp hk)
  have hlen0 : as.length < 1000 := by rw [pa.length_eq]; exact hlen
  rw [e1]
  refine wpAny_bind (wpAny_newList ?_ (by rw [List.length_map, sizeLine_eq]; omega))
  have gL : (h'.push (seqObj "list" (as.map Value.ref).toArray 0)).get? h'.objs.size = some (seqObj "list" (as.map Value.ref).toArray 0) := Heap.get?_push_size _ rfl
  have I1 : Inv X pins σ H { s with heap := h', toks := tk } := I.kept kp
  have kp2 : ∀ b u, h'.get? b = some u → (h'.push (seqObj "list" (as.map Value.ref).toArray 0)).get? b = some u := fun b u e => Heap.get?_push_of_some _ e
  have zipne : ∀ {as : List Addr} {ks : List (List Int)}, TupsAt H as ks → (∀ k ∈ ks, k ≠ []) → Paired (fun a k => H a = some (.tup (List.map V.int k)) ∧ k ≠ []) as ks := by
    intro as ks h
    induction h with
    | nil => intro _; exact .nil
    | cons r _ ih => intro hn; exact .cons ⟨r, hn _ (List.mem_cons_self ..)⟩ (ih fun k hk => hn k (List.mem_cons_of_mem _ hk))
  have tT : Paired (fun a k => TupI (h'.push (seqObj "list" (as.map Value.ref).toArray 0)) (.ref a) k ∧ k ≠ []) as ks0 := Paired.mapP (zipne ht0 hne0) fun a k z => ⟨(tupI_of I1 z.1).to fun b u _ e => kp2 b u e, z.2⟩
  have memH := tups_mem ht0
  refine wpAny_bind (wpAny_holding (wpAny_call_entry slot_list_sort ⟨_, gL, rfl⟩ entry_list_sort (sort_new (X := X) (s := { s with heap := h'.push (seqObj "list" (as.map Value.ref).toArray 0), toks := tk }) gL tT hlen0 fun bs ns g c pb pn pw pt kp3 gg => ⟨_, rfl, ?_⟩) (args_list_sort _)))
  refine wpAny_pure ⟨_, rfl, .ref h'.objs.size, _, I1.laid (t' := tk) (a := h'.objs.size) (o := .lst (bs.map V.ref)) (fun b u e => kp3 b u (Nat.ne_of_lt (Heap.lt_size e)) (kp2 b u e)) (Nat.le_refl _) (show ObjOk X.prog X.w _ g _ (.lst (bs.map V.ref)) from ⟨?_, bs.map Value.ref, c, ?_, gg⟩), rfl, q _ bs ns (I1.hok.fresh (Nat.le_refl _)) (pn.trans pk) pw ?_⟩
  · rw [List.length_map, pb.length_eq, sizeLine_eq]; omega
  · clear pb pt gg
    induction bs with
    | nil => exact .nil
    | cons b bs ih => exact .cons rfl ih
  · have memB : ∀ a ∈ bs, ∃ k : List Int, H a = some (.tup (k.map V.int)) := fun a ha => memH a (pb.mem_iff.mp ha)
    clear pb gg pn pw
    induction pt with
    | nil => exact .nil
    | @cons a k l1 l2 r1 _ ih =>
      refine .cons ?_ (ih fun a ha => memB a (List.mem_cons_of_mem _ ha))
      obtain ⟨k', e⟩ := memB a (List.mem_cons_self ..)
      rw [e, r1.inj ((tupI_of I1 e).to fun b u _ z => kp2 b u z)]
end
end L2
set_option Elab.async false
set_option linter.all false
set_option maxRecDepth 100000
set_option maxHeartbeats 4000000
namespace L2
open PySem PySem.W PyProof.Rows Srt
section
variable {prog : Program} {w : World} {A : Around} {R : Result → Shared → Prop} {s : Shared}
theorem new_set {prog : Program} {w : World} {A : Around} {E : Value → Shared → Prop} {s : Shared} {Q : Value → Shared → Prop} (h : Q (.ref s.heap.objs.size) { s with heap := s.heap.push (SetA.newO (!w.params.followText "set-order")) }) : wpAny (model prog w) A (newSet (.type "set")) Q E s := by
  unfold newSet
  refine wpAny_bind (SetA.setsByText_w ?_)
  dsimp only
  simp only [newObj]
  exact wpAny_bind (wpAny_alloc (wpAny_pure h))
end
end L2
set_option Elab.async false
set_option linter.all false
set_option maxRecDepth 100000
set_option maxHeartbeats 4000000
namespace L2
open PySem PySem.W PyProof.Rows Srt SetA
def setG (prog : Program) (w : World) (S : Addr) (qs : List Addr) (ks : List (List Int)) : HO := .ext fun h => ∃ o es ep t, h.get? S = some o ∧ o.ExactSet ∧ o.data = .set es ep t ∧ Tb es t ∧ Lean_ t ∧ t.plain = true ∧ (t.led = !w.params.followText "set-order") ∧ es.toList.map (·.2) = qs.map Value.ref ∧ es.toList.map (·.1) = ks.map (hsh prog w)
theorem setG_ok {prog : Program} {w : World} {H : Hp} {h : Heap} {S : Addr} {qs : List Addr} {ks : List (List Int)} {o : Obj} {es : Array (Int × Value)} {ep : Nat} {t : SetTable} (g : h.get? S = some o) (a1 : o.ExactSet) (a2 : o.data = .set es ep t) (a3 : Tb es t) (a4 : Lean_ t) (a5 : t.plain = true) (a6 : t.led = !w.params.followText "set-order") (a7 : es.toList.map (·.2) = qs.map Value.ref) (a8 : es.toList.map (·.1) = ks.map (hsh prog w)) :
    ObjOk prog w H h S (setG prog w S qs ks) :=
  ⟨⟨o, es, ep, t, g, a1, a2, a3, a4, a5, a6, a7, a8⟩, ⟨o, g⟩, fun h1 h2 ⟨o, es, ep, t, g, r⟩ k => ⟨o, es, ep, t, k o g, r⟩⟩
theorem setG_raw {prog : Program} {w : World} {S : Addr} {qs : List Addr} {ks : List (List Int)} : ∀ h : Heap, (∃ o es ep t, h.get? S = some o ∧ o.ExactSet ∧ o.data = .set es ep t ∧ Tb es t ∧ Lean_ t ∧ t.plain = true ∧ (t.led = !w.params.followText "set-order") ∧ es.toList.map (·.2) = qs.map Value.ref ∧ es.toList.map (·.1) = ks.map (hsh prog w)) →
    ∃ es ep t, Raw w S es ep t h ∧ es.toList.map (·.2) = qs.map Value.ref := fun h ⟨o, es, ep, t, g, a1, a2, a3, a4, a5, a6, a7, a8⟩ => ⟨es, ep, t, ⟨⟨o, g, a1, a2⟩, a3.rs, a3.fits, a5, a6⟩, a7⟩
section
variable {X : Cx} {pins : List (Addr × Obj)} {σ : St} {H : Hp} {s : Shared} {A : Around} {E : Value → Shared → Prop}
theorem el_of {prog : Program} {w : World} {T : List Addr} {g : Heap} : ∀ {l : List (Int × Value)} {qs : List Addr} {ks : List (List Int)}, l.map (·.2) = qs.map Value.ref → l.map (·.1) = ks.map (hsh prog w) → Paired (fun q k => TupI g (.ref q) k) qs ks → (∀ q ∈ qs, q ∈ T) → Paired (El prog w T g) l ks
  | [], [], _, _, _, .nil, _ => .nil
  | e :: l, q :: qs, k :: ks, h1, h2, .cons r z, m => by
    simp only [List.map_cons, List.cons.injEq] at h1 h2
    exact .cons ⟨by rw [h1.1]; exact r, h2.1, q, m q (List.mem_cons_self ..), h1.1⟩ (el_of h1.2 h2.2 z fun q hq => m q (List.mem_cons_of_mem _ hq))
  | [], _ :: _, _, h, _, _, _ => by simp at h
  | _ :: _, [], _, h, _, _, _ => by simp at h
theorem el_hash {prog : Program} {w : World} {T : List Addr} {g : Heap} : ∀ {l : List (Int × Value)} {ks : List (List Int)}, Paired (El prog w T g) l ks → l.map (·.1) = ks.map (hsh prog w)
  | _, _, .nil => rfl
  | _ :: _, _ :: _, .cons r z => by rw [List.map_cons, List.map_cons, r.2.1, el_hash z]
theorem s_addT {S q : Addr} {qs : List Addr} {ks : List (List Int)} {k : List Int} {Q : Value → Shared → Prop} (hu : A.units + 1 < cLine) (I : Inv X pins σ H s) (hS : H S = some (setG X.prog X.w S qs ks)) (ht : TupsAt H qs ks) (nd : ks.Nodup) (few : ks.length ≤ 600) (hq : H q = some (.tup (k.map V.int)))
    (h : ∀ s' qs' ks', (∀ x, x ∈ ks' ↔ x = k ∨ x ∈ ks) → ks'.Nodup → TupsAt H qs' ks' → Inv X pins σ (upd H S (setG X.prog X.w S qs' ks')) s' → Q .none s') : wpAny (model X.prog X.w) A (call (.builtin "set.add") [.ref S, .ref q]) Q E s := by
  obtain ⟨⟨o, es, ep, t, g, a1, a2, a3, a4, a5, a6, a7, a8⟩, _, _⟩ := I.hok S _ hS
  have memH := tups_mem ht
  have tk := tupI_of I hq
  have tq : Paired (fun q k => TupI s.heap (.ref q) k) qs ks := Paired.mapP ht fun a k e => tupI_of I e
  have C : Cell X.prog X.w (q :: qs) s.heap S o es ep t ks := ⟨g, a1, a2, a3, a4, a5, el_of a7 a8 tq fun q hq => List.mem_cons_of_mem _ hq, nd, a6⟩
  refine wpAny_call_entry PySem.F.slot_set_add ⟨o, g, a1.1⟩ PySem.F.entry_set_add ?_ (PySem.F.args_set_add_2 _ _)
  unfold Builtin.«set.add» Builtin.Frozenset.oneOther
  refine wpAny_bind ?_
  show wpAny _ _ (Builtin.Frozenset.addrOf (.ref S) >>= fun a => pure (a, Value.ref q)) _ _ _
  unfold Builtin.Frozenset.addrOf
  refine wpAny_bind (wpAny_pure (wpAny_pure ?_))
  show wpAny _ _ (setAdd S (.ref q) >>= fun _ => ret Value.none) _ _ _
  unfold setAdd
  refine wpAny_bind (wpAny_holding (wpAny_bind (wpAny_pyHash_tuple (show A.in1.units < cLine from hu) (tupKey (prog := X.prog) (w := X.w) tk).1 ?_)))
  have I1 : Inv X pins σ H { s with toks := s.toks + (k.length + 1) } := I.kept (t' := s.toks + (k.length + 1)) fun b u e => e
  refine addT (s := { s with toks := s.toks + (k.length + 1) }) (show A.in1.units < cLine from hu) C few tk (List.mem_cons_self ..) (fun hm => ?_) (fun hm h' o' es' ep' t' ms C2 pm sb => ?_)
  · refine wpAny_pure ⟨_, rfl, h _ qs ks (fun x => ⟨.inr, fun z => z.elim (fun e => e ▸ hm) id⟩) nd ht ?_⟩
    have e : upd H S (setG X.prog X.w S qs ks) = H := by
      funext b
      unfold upd
      split
      · next z => rw [z]; exact hS.symm
      · rfl
    rw [e]
    exact I1
  · have kp : ∀ b u, b ≠ S → s.heap.get? b = some u → h'.get? b = some u := fun b u hb z => (sb.2 b hb).trans z
    have hX : ∀ a (n : List Int), H a = some (.tup (n.map V.int)) → a ≠ S := fun a n e z => by
      rw [z, hS] at e
      cases e
    obtain ⟨qs', e1, e2, e3⟩ := refs_pick C2.el
    have tq' : TupsAt H qs' ms := by
      have all : ∀ a ∈ qs', ∃ n : List Int, H a = some (.tup (n.map V.int)) := fun a ha => by
        rcases List.mem_cons.mp (e2 a ha) with z | z
        · rw [z]; exact ⟨k, hq⟩
        · exact memH a z
      clear e1 e2 C2 pm
      induction e3 with
      | nil => exact .nil
      | @cons a n l1 l2 r1 _ ih =>
        refine .cons ?_ (ih fun a ha => all a (List.mem_cons_of_mem _ ha))
        obtain ⟨n', e⟩ := all a (List.mem_cons_self ..)
        have z := (tupI_of I e).to (g' := h') fun b u eb zz => kp b u (by cases eb; exact hX a n' e) zz
        rw [e, r1.inj z]
    refine wpAny_pure ⟨_, rfl, h _ qs' ms (fun x => by rw [pm.mem_iff, List.mem_cons]) (pm.nodup_iff.mpr (List.nodup_cons.mpr ⟨hm, nd⟩)) tq' ?_⟩
    exact d_write I1 (by rw [hS]; exact True.intro) sb ⟨o', C2.get⟩ (setG_ok C2.get C2.ex C2.dat C2.tb C2.ln C2.pl C2.ld e1 (el_hash C2.el))
end
end L2
set_option Elab.async false
set_option linter.all false
set_option maxRecDepth 100000
set_option maxHeartbeats 1600000
namespace L2
open PySem PySem.W PyProof.Rows Srt
end L2
set_option Elab.async false
set_option linter.all false
set_option maxRecDepth 100000
set_option maxHeartbeats 400000
namespace L2
open PySem PyProof.Rows
section
variable {K : PySem.W.Frag} {a D : Addr} {xs : List V} {b : Bool} {g : TG} {tc : TT} {tk tv : TE} {cap : List (Option Nat)} {σ : St} {H1 : Hp} {Q : VK}
def ItB (b : Bool) (K : PySem.W.Frag) (a : Addr) : It := match b with
  | true => Itt K a
  | false => Itl K a
theorem Same.seqB {H H' : Hp} (s : Same H H') (h : SqB b K H a xs) : SqB b K H' a xs := by
  cases b
  · exact s.seq h
  · exact s.tupq h
end
end L2
set_option Elab.async false
set_option linter.all false
set_option maxRecDepth 100000
set_option maxHeartbeats 1600000
namespace L2
open PySem PyProof.Rows
theorem star_scomp {e : Expr} {gs : List Comprehension} {sc : Scope} {pos : Pos} {rest : List Expr} {env : Env} : starEach (.SetComp e gs sc pos :: rest) env = (false, eval (.SetComp e gs sc pos) env) :: starEach rest env := rfl
theorem pa_scomp {X : Cx} {es : List Expr} {pos : Pos} {te : TE} {t : TA} {e : Expr} {gs : List Comprehension} {sc : Scope} (ha : PE X (.SetComp e gs sc pos) te) (hr : PA X es t) : PA X (.SetComp e gs sc pos :: es) (tCons te t) := pa_cons ha hr (hs := star_scomp)
end L2
set_option Elab.async false
set_option linter.all false
set_option maxRecDepth 100000
set_option maxHeartbeats 4000000
namespace L2
open PySem PySem.W PyProof.Rows Srt SetA
section
variable {prog : Program} {w : World} {A : Around} {R : Result → Shared → Prop} {s : Shared}
variable {vx target iter i' t' : Expr} {ifs f' : List Expr} {gens : List Comprehension} {scope : Scope} {pos : Pos} {it : Value} {D : Addr} {d : Nat} {env : Env}
theorem sloop_last (hd : gens[d]? = some ⟨target, iter, ifs, 0⟩) (hn : gens[d + 1]? = none) (I : Nat → Shared → Prop)
    (turn : ∀ n s, I n s → wpAny (model prog w) A (pyNext it) (fun r s₁ => match r with
      | none => R (.ok .next) s₁
      | some v => wpAny (model prog w) A (letOwnedTupleGo target it v) (fun _ s₁' => wpAny (model prog w) A (assign target env v) (fun _ s₂ =>
          wpAny (model prog w) A (forIn ifs true fun c r => if r = true then do let ok ← isTrue c env (eval c env); pure (ForInStep.yield ok) else pure (ForInStep.yield r)) (fun ok s₃ =>
            if ok = true then wpAny (model prog w) A (eval vx env) (fun vv s₅ => wpAny (model prog w) A (call (.builtin "set.add") [.ref D, vv]) (fun _ s₆ => ∃ m, m < n ∧ I m s₆) (fun _ _ => False) s₅) (fun _ _ => False) s₃
            else ∃ m, m < n ∧ I m s₃) (fun _ _ => False) s₂) (fun _ _ => False) s₁') (fun _ _ => False) s₁) (fun _ _ => False) s)
    (n : Nat) (h : I n s) : codeAny (model prog w) A (.compLoop (.SetComp vx gens scope pos) d it (.ref D) env) R s := by
  refine codeAny_loop rfl I (fun n s hI => ?_) n h
  show wpAny _ A ((compTurn (.SetComp vx gens scope pos) d it (.ref D) env).onRaise (fun x => do noteFrame x env; theTreesLotGoes x)) _ _ s
  refine wpAny_noted ?_
  unfold compTurn
  dsimp only
  rw [hd]
  dsimp only
  refine wpAny_bind (wpAny_standAt ?_)
  refine wpAny_bind (wpAny_mono (turn n s hI) (fun r s₁ h₁ => ?_) fun _ _ h' => h'.elim)
  cases r with
  | none => exact wpAny_pure h₁
  | some v =>
    refine wpAny_bind (wpAny_mono h₁ (fun _ s₁' h₁' => ?_) fun _ _ h' => h'.elim); refine wpAny_bind (wpAny_mono h₁' (fun _ s₂ h₂ => wpAny_bind (wpAny_mono h₂ (fun ok s₃ h₃ => ?_) fun _ _ h' => h'.elim)) fun _ _ h' => h'.elim)
    cases ok with
    | false => exact wpAny_pure ⟨rfl, h₃⟩
    | true =>
      rw [if_pos rfl, hn]
      refine wpAny_bind (wpAny_bind (wpAny_mono h₃ (fun vv s₅ h₅ => wpAny_bind (wpAny_standAt (wpAny_bind (wpAny_mono h₅ (fun _ s₆ h₆ => wpAny_pure (wpAny_pure ⟨rfl, h₆⟩)) fun _ _ h' => h'.elim)))) fun _ _ h' => h'.elim))
theorem sloop_more (hd : gens[d]? = some ⟨target, iter, ifs, 0⟩) (hn : gens[d + 1]? = some ⟨t', i', f', 0⟩) (hs : ∀ x, foldedSetIterable i' env x = pure x) (I : Nat → Shared → Prop)
    (turn : ∀ n s, I n s → wpAny (model prog w) A (pyNext it) (fun r s₁ => match r with
      | none => R (.ok .next) s₁
      | some v => wpAny (model prog w) A (letOwnedTupleGo target it v) (fun _ s₁' => wpAny (model prog w) A (assign target env v) (fun _ s₂ =>
          wpAny (model prog w) A (forIn ifs true fun c r => if r = true then do let ok ← isTrue c env (eval c env); pure (ForInStep.yield ok) else pure (ForInStep.yield r)) (fun ok s₃ =>
            if ok = true then wpAny (model prog w) A (eval i' env) (fun x s₅ => wpAny (model prog w) A (pyIter x) (fun it' s₆ => codeAny (model prog w) A (.compStart (.SetComp vx gens scope pos) (d + 1) it' (.ref D) env) (fun r s' => match r with
              | .ok _ => ∃ m, m < n ∧ I m s'
              | .error _ => False) s₆) (fun _ _ => False) s₅) (fun _ _ => False) s₃
            else ∃ m, m < n ∧ I m s₃) (fun _ _ => False) s₂) (fun _ _ => False) s₁') (fun _ _ => False) s₁) (fun _ _ => False) s)
    (n : Nat) (h : I n s) : codeAny (model prog w) A (.compLoop (.SetComp vx gens scope pos) d it (.ref D) env) R s := by
  refine codeAny_loop rfl I (fun n s hI => ?_) n h
  show wpAny _ A ((compTurn (.SetComp vx gens scope pos) d it (.ref D) env).onRaise (fun x => do noteFrame x env; theTreesLotGoes x)) _ _ s
  refine wpAny_noted ?_
  unfold compTurn
  dsimp only
  rw [hd]
  dsimp only
  refine wpAny_bind (wpAny_standAt ?_)
  refine wpAny_bind (wpAny_mono (turn n s hI) (fun r s₁ h₁ => ?_) fun _ _ h' => h'.elim)
  cases r with
  | none => exact wpAny_pure h₁
  | some v =>
    refine wpAny_bind (wpAny_mono h₁ (fun _ s₁' h₁' => ?_) fun _ _ h' => h'.elim); refine wpAny_bind (wpAny_mono h₁' (fun _ s₂ h₂ => wpAny_bind (wpAny_mono h₂ (fun ok s₃ h₃ => ?_) fun _ _ h' => h'.elim)) fun _ _ h' => h'.elim)
    cases ok with
    | false => exact wpAny_pure ⟨rfl, h₃⟩
    | true =>
      rw [if_pos rfl, hn]
      dsimp only
      refine wpAny_bind (wpAny_mono h₃ (fun x s₅ h₅ => wpAny_bind (wpAny_standAt ?_)) fun _ _ h' => h'.elim)
      rw [hs x]
      refine wpAny_bind (wpAny_pure (wpAny_bind (wpAny_holding (wpAny_mono h₅ (fun it' s₆ h₆ => wpAny_bind (wpAny_runOwn (codeAny_mono h₆ fun r s' hr => ?_))) fun _ _ h' => h'.elim))))
      cases r with
      | ok f => exact wpAny_pure ⟨rfl, hr⟩
      | error x => exact hr.elim
theorem sstart {it acc : Value} (hd : gens[d]? = some ⟨target, iter, ifs, 0⟩) (h0 : codeAny (model prog w) A (.compLoop (.SetComp vx gens scope pos) d it acc env) R s)
    (h : wpAny (model prog w) A (pyIter it) (fun it' s' => codeAny (model prog w) A (.compLoop (.SetComp vx gens scope pos) d it' acc env) R s') (notedBy (model prog w) A env fun x s' => R (.error x) s') s) : codeAny (model prog w) A (.compStart (.SetComp vx gens scope pos) d it acc env) R s := by
  refine codeAny_of_tree ?_; show wpAny _ A ((compStart (.SetComp vx gens scope pos) d it acc env).onRaise (fun x => do noteFrame x env; standAt theWindowsPlace)) _ _ s
  refine wpAny_notedAt ?_; unfold compStart
  have hc : (clausesOf (.SetComp vx gens scope pos))[d]? = some ⟨target, iter, ifs, 0⟩ := hd
  rw [hc]
  show wpAny _ A (ask >>= _) _ _ s; refine wpAny_bind (wpAny_askSetting (wpAny_ite ?_)); split
  · first | exact wpAny_bind (wpAny_pure (wpAny_pure (And.intro rfl h0))) | exact wpAny_pure (And.intro rfl h0)
  · refine wpAny_bind (wpAny_rule ?_); show wpAny _ _ (standAt iter.pos >>= _) _ _ s; refine wpAny_bind (wpAny_standAt (wpAny_bind (wpAny_mono h (fun it' s' h' => wpAny_pure (And.intro rfl h')) fun _ _ x => x)))
end
abbrev TB := St → Hp → (Hp → Prop) → Prop
def tLoop (wi : TI) (g : TG) (tc : TT) (body : TB) : TB := fun σ H Q => wi σ H fun J H1 => ∃ (n : Nat) (P : Nat → Hp → Prop), P 0 H1 ∧
  ∀ i H, i ≤ n → P i H → (J.stop i H ∧ Q H) ∨ (i < n ∧ J.go i H ∧ ∀ x H', J.yld i H x H' → g x σ H' fun σ2 H2 => Kp σ σ2 ∧ tc σ2 H2 fun b H3 => if b = true then body σ2 H3 (P (i + 1)) else P (i + 1) H3)
def tEmit (prog : Program) (w : World) (D : Addr) (tv : TE) : TB := fun σ H Q => tv σ H fun y H5 => ∃ qs ks q k, H5 D = some (setG prog w D qs ks) ∧ TupsAt H5 qs ks ∧ ks.Nodup ∧ ks.length ≤ 600 ∧ y = .ref q ∧ H5 q = some (.tup (k.map V.int)) ∧
  ∀ qs' ks', (∀ x, x ∈ ks' ↔ x = k ∨ x ∈ ks) → ks'.Nodup → TupsAt H5 qs' ks' → Q (upd H5 D (setG prog w D qs' ks'))
def PN (Y : Cx) (e : Expr) (d : Nat) (iter : Expr) (D : Addr) (b : TB) : Prop := ∀ (pins : List (Addr × Obj)) (s : Shared) (σ : St) (H : Hp) (Q : Hp → Prop), Inv Y pins σ H s → b σ H Q →
  wpAny (model Y.prog Y.w) Y.A (eval iter Y.env) (fun x s1 => wpAny (model Y.prog Y.w) Y.A (pyIter x) (fun it s2 => codeAny (model Y.prog Y.w) Y.A (.compStart e d it (.ref D) Y.env) (fun r s' => match r with
    | .ok _ => ∃ H', Inv Y pins σ H' s' ∧ Q H'
    | .error _ => False) s2) (fun _ _ => False) s1) (fun _ _ => False) s
section
variable {Y : Cx} {vx tg iter i' t' : Expr} {ifs f' : List Expr} {gens : List Comprehension} {scope : Scope} {pos : Pos} {D : Addr} {d : Nat} {wi : TI} {g : TG} {tc : TT} {tv : TE} {b : TB}
theorem pn_last (hx : ∀ v s, Y.xe v s → False) (hc : Y.calm = true) (hu : Y.A.units + 1 < cLine) (hd : gens[d]? = some ⟨tg, iter, ifs, 0⟩) (hn : gens[d + 1]? = none) (hi : PI Y tg iter wi) (hg : PG Y tg g) (ht : PF Y ifs tc) (he : PE Y vx tv) :
    PN Y (.SetComp vx gens scope pos) d iter D (tLoop wi g tc (tEmit Y.prog Y.w D tv)) := by
  intro pins s σ H Q I h
  refine wpAny_mono (hi pins s σ H _ I h) (fun v s1 h1 => wpAny_mono h1 (fun itv s2 h2 => ?_) fun _ _ z => hx _ _ z) fun _ _ z => hx _ _ z
  obtain ⟨it, fp, tn, J, H2, e, I2, T, st2, f2, n, P, p0, turn⟩ := h2
  subst e
  have stat : ∀ {H' : Hp}, (∀ b ∈ fp, H' b = none) → ∀ b ∈ fp, FpOk Y pins H' b := fun hn b hb => ⟨hn b hb, (f2 b hb).2⟩
  have inF : ∀ {pl : List (Addr × Obj)} {p : Addr × Obj}, p ∈ pl → p ∈ Y.pn ++ (pins ++ pl) := fun {pl p} hp => List.mem_append_right _ (List.mem_append_right _ hp)
  have loop : codeAny (model Y.prog Y.w) Y.A (.compLoop (.SetComp vx gens scope pos) d (.ref it) (.ref D) Y.env) (fun r s' => match r with
    | .ok _ => ∃ H', Inv Y pins σ H' s' ∧ Q H'
    | .error _ => False) s2 := by
    refine sloop_last hd hn (fun m s' => ∃ i H', m = n - i ∧ i ≤ n ∧ Inv Y pins σ H' s' ∧ tn i s'.heap ∧ (∀ b ∈ fp, H' b = none) ∧ P i H') ?_ n ⟨0, H2, rfl, Nat.zero_le _, I2, st2, fun b hb => (f2 b hb).1, p0⟩
    rintro m s3 ⟨i, H3, rfl, hin, I3, st3, fr3, p3⟩
    rcases turn i H3 hin p3 with ⟨stop, q⟩ | ⟨hlt, go, step⟩
    · refine thn (T.done Y rfl rfl rfl hc i _ s3 _ H3 (fun _ _ => False) I3 (stat fr3) st3 stop) fun r s4 ⟨hr, I4⟩ => ?_
      subst hr
      exact ⟨H3, I4, q⟩
    · refine thn (T.item Y rfl rfl rfl hc i _ s3 _ H3 (fun _ _ => False) I3 (stat fr3) st3 go) fun r s4 ⟨u, hr, h4⟩ => ?_
      subst hr
      refine thn h4 fun _ s5 ⟨x, H5, I5, r5, y5, st5, fr5⟩ => ?_
      have I5' := I5.pinned (stat fr5) (T.obj _ _ st5)
      refine wpAny_mono (hg _ s5 _ H5 x u _ I5' r5 (step x H5 y5)) (fun _ s6 ⟨σ6, H6, I6, kp, q6⟩ => ?_) fun _ _ z => hx _ _ z
      refine wpAny_mono (ht _ s6 σ6 H6 _ I6 q6) (fun b s7 ⟨H7, I7, q7⟩ => ?_) fun _ _ z => hx _ _ z
      cases b with
      | false =>
        rw [if_neg Bool.false_ne_true] at q7 ⊢
        refine ⟨n - (i + 1), Nat.sub_succ_lt_self n i hlt, i + 1, H7, rfl, hlt, I7.unpinned.weak kp.length kp.get, ?_, fun b hb => ?_, q7⟩
        · exact T.keep _ _ _ st5 fun b hb o e => (I7.pin (b, o) (inF (mem_pinsAt hb e))).1
        · obtain ⟨o, e, d⟩ := T.obj _ _ st5 b hb
          exact (I7.pin (b, o) (inF (mem_pinsAt hb e))).2.1
      | true =>
        rw [if_pos rfl] at q7 ⊢
        refine wpAny_mono (he _ s7 σ6 H7 _ I7 q7) (fun yv s9 ⟨y, H9, I9, r9, q9⟩ => ?_) fun _ _ z => hx _ _ z
        obtain ⟨qs, ks, q, k, hS, hT, nd, few, rfl, hq, q9⟩ := q9
        cases r9
        refine s_addT (X := Y) hu I9 hS hT nd few hq fun s10 qs' ks' m1 m2 m3 I10 => ?_
        refine ⟨n - (i + 1), Nat.sub_succ_lt_self n i hlt, i + 1, _, rfl, hlt, I10.unpinned.weak kp.length kp.get, ?_, fun b hb => ?_, q9 qs' ks' m1 m2 m3⟩
        · exact T.keep _ _ _ st5 fun b hb o e => (I10.pin (b, o) (inF (mem_pinsAt hb e))).1
        · obtain ⟨o, e, d⟩ := T.obj _ _ st5 b hb
          exact (I10.pin (b, o) (inF (mem_pinsAt hb e))).2.1
  exact sstart hd loop (T.self Y.A 0 _ _ _ st2 loop)
theorem pn_more (hx : ∀ v s, Y.xe v s → False) (hc : Y.calm = true) (hd : gens[d]? = some ⟨tg, iter, ifs, 0⟩) (hn : gens[d + 1]? = some ⟨t', i', f', 0⟩) (hi : PI Y tg iter wi) (hg : PG Y tg g) (ht : PF Y ifs tc) (hb : PN Y (.SetComp vx gens scope pos) (d + 1) i' D b)
    (hs : ∀ x, foldedSetIterable i' Y.env x = pure x := by intro _; rfl) : PN Y (.SetComp vx gens scope pos) d iter D (tLoop wi g tc b) := by
  intro pins s σ H Q I h
  refine wpAny_mono (hi pins s σ H _ I h) (fun v s1 h1 => wpAny_mono h1 (fun itv s2 h2 => ?_) fun _ _ z => hx _ _ z) fun _ _ z => hx _ _ z
  obtain ⟨it, fp, tn, J, H2, e, I2, T, st2, f2, n, P, p0, turn⟩ := h2
  subst e
  have stat : ∀ {H' : Hp}, (∀ b ∈ fp, H' b = none) → ∀ b ∈ fp, FpOk Y pins H' b := fun hn b hb => ⟨hn b hb, (f2 b hb).2⟩
  have inF : ∀ {pl : List (Addr × Obj)} {p : Addr × Obj}, p ∈ pl → p ∈ Y.pn ++ (pins ++ pl) := fun {pl p} hp => List.mem_append_right _ (List.mem_append_right _ hp)
  have loop : codeAny (model Y.prog Y.w) Y.A (.compLoop (.SetComp vx gens scope pos) d (.ref it) (.ref D) Y.env) (fun r s' => match r with
    | .ok _ => ∃ H', Inv Y pins σ H' s' ∧ Q H'
    | .error _ => False) s2 := by
    refine sloop_more hd hn hs (fun m s' => ∃ i H', m = n - i ∧ i ≤ n ∧ Inv Y pins σ H' s' ∧ tn i s'.heap ∧ (∀ b ∈ fp, H' b = none) ∧ P i H') ?_ n ⟨0, H2, rfl, Nat.zero_le _, I2, st2, fun b hb => (f2 b hb).1, p0⟩
    rintro m s3 ⟨i, H3, rfl, hin, I3, st3, fr3, p3⟩
    rcases turn i H3 hin p3 with ⟨stop, q⟩ | ⟨hlt, go, step⟩
    · refine thn (T.done Y rfl rfl rfl hc i _ s3 _ H3 (fun _ _ => False) I3 (stat fr3) st3 stop) fun r s4 ⟨hr, I4⟩ => ?_
      subst hr
      exact ⟨H3, I4, q⟩
    · refine thn (T.item Y rfl rfl rfl hc i _ s3 _ H3 (fun _ _ => False) I3 (stat fr3) st3 go) fun r s4 ⟨u, hr, h4⟩ => ?_
      subst hr
      refine thn h4 fun _ s5 ⟨x, H5, I5, r5, y5, st5, fr5⟩ => ?_
      have I5' := I5.pinned (stat fr5) (T.obj _ _ st5)
      refine wpAny_mono (hg _ s5 _ H5 x u _ I5' r5 (step x H5 y5)) (fun _ s6 ⟨σ6, H6, I6, kp, q6⟩ => ?_) fun _ _ z => hx _ _ z
      refine wpAny_mono (ht _ s6 σ6 H6 _ I6 q6) (fun b s7 ⟨H7, I7, q7⟩ => ?_) fun _ _ z => hx _ _ z
      have fin : ∀ H8 s8, Inv Y (pins ++ pinsAt fp s5.heap) σ6 H8 s8 → P (i + 1) H8 → ∃ m, m < n - i ∧ ∃ i H', m = n - i ∧ i ≤ n ∧ Inv Y pins σ H' s8 ∧ tn i s8.heap ∧ (∀ b ∈ fp, H' b = none) ∧ P i H' := fun H8 s8 I8 p8 => by
        refine ⟨n - (i + 1), Nat.sub_succ_lt_self n i hlt, i + 1, H8, rfl, hlt, I8.unpinned.weak kp.length kp.get, ?_, fun b hb => ?_, p8⟩
        · exact T.keep _ _ _ st5 fun b hb o e => (I8.pin (b, o) (inF (mem_pinsAt hb e))).1
        · obtain ⟨o, e, d⟩ := T.obj _ _ st5 b hb
          exact (I8.pin (b, o) (inF (mem_pinsAt hb e))).2.1
      cases b with
      | false =>
        rw [if_neg Bool.false_ne_true] at q7 ⊢
        exact fin H7 s7 I7 q7
      | true =>
        rw [if_pos rfl] at q7 ⊢
        refine thn (hb _ s7 σ6 H7 _ I7 q7) fun x s8 h8 => thn h8 fun it' s9 h9 => codeAny_mono h9 fun r s10 hr => ?_
        cases r with
        | error x => exact hr
        | ok f =>
          obtain ⟨H10, I10, p10⟩ := hr
          exact fin H10 s10 I10 p10
  exact sstart hd loop (T.self Y.A 0 _ _ _ st2 loop)
end
def tSCompN (prog : Program) (w : World) (cap : List (Option Nat)) (wi : TI) (g : TG) (tc : TT) (bN : Addr → TB) : TE := fun σ H Q => wi σ H fun J H1 => ∀ D, H1 D = none → ∃ (n : Nat) (P : Nat → Hp → Prop), P 0 (upd H1 D (setG prog w D [] [])) ∧
  ∀ i H, i ≤ n → P i H → (J.stop i H ∧ Q (.ref D) H) ∨
    (i < n ∧ J.go i H ∧ ∀ x H', J.yld i H x H' → g x (capt cap σ) H' fun σ2 H2 => Kp (capt cap σ) σ2 ∧ tc σ2 H2 fun b H3 => if b = true then bN D σ2 H3 (P (i + 1)) else P (i + 1) H3)
section
variable {X : Cx} {vx tg iter i' t' : Expr} {ifs f' : List Expr} {gs : List Comprehension} {scope : Scope} {pos : Pos} {N' : List Str} {cap : List (Option Nat)} {wi : TI} {g : TG} {tc : TT} {bN : Addr → TB}
theorem scompN_run (hc : X.calm = true) (S : CompScope N' cap X.N X.env.scope scope) (hi : PI X tg iter wi) (hg : ∀ C s H fp, PG (cxIn X N' scope C s H fp) tg g)
    (ht : ∀ C s H fp, PF (cxIn X N' scope C s H fp) ifs tc) (hb : ∀ C s H fp D, PN (cxIn X N' scope C s H fp) (.SetComp vx (⟨tg, iter, ifs, 0⟩ :: ⟨t', i', f', 0⟩ :: gs) scope pos) 1 i' D (bN D)) (hs' : ∀ C s H fp x, foldedSetIterable i' (cxIn X N' scope C s H fp).env x = pure x)
    {pins : List (Addr × Obj)} {s : Shared} {σ : St} {H : Hp} {Q : VK} (I : Inv X pins σ H s) (h : tSCompN X.prog X.w cap wi g tc bN σ H Q) :
    wpAny (model X.prog X.w) X.A (eval iter X.env) (fun x s₁ => wpAny (model X.prog X.w) X.A (pyIter x) (fun it s₂ => wpAny (model X.prog X.w) X.A (newSet (.type "set")) (fun acc s₃ =>
      wpAny (model X.prog X.w) X.A (newFunctionEnv scope X.env.globals (closCl X.env.cells scope.names []) [] X.env.qual none .none (some X.env)) (fun cenv s₄ =>
        codeAny (model X.prog X.w) X.A (.compStart (.SetComp vx (⟨tg, iter, ifs, 0⟩ :: ⟨t', i', f', 0⟩ :: gs) scope pos) 0 it acc { cenv with scope := relabel scope X.env }) (CompEnd X pins σ Q acc cenv.locals) s₄) X.xe s₃) X.xe s₂) X.xe s₁) X.xe s := by
  refine thn (hi pins s σ H _ I h) fun v s1 h1 => thn h1 fun itv s2 h2 => ?_
  obtain ⟨it, fp, tn, J, H2, e, I2, T, st2, f2, turns⟩ := h2
  subst e
  obtain ⟨n, P, p0, turn⟩ := turns s2.heap.objs.size (I2.hok.fresh (Nat.le_refl _))
  refine new_set (wpAny_newFunctionEnv S.nocell (by intro y hy; simp at hy) (fun h₁ hns₁ hsb₁ => ?_) S.kind)
  dsimp only at hns₁ hsb₁ ⊢
  generalize hHp : s2.heap.push (SetA.newO (!X.w.params.followText "set-order")) = Hq at hns₁ hsb₁ ⊢
  have hC : Hq.objs.size = s2.heap.objs.size + 1 := by rw [← hHp, Heap.size_push]
  have hDC : s2.heap.objs.size ≠ Hq.objs.size := by rw [hC]; exact Nat.ne_of_lt (Nat.lt_succ_self _)
  have hCle : s2.heap.objs.size ≤ Hq.objs.size := by rw [hC]; exact Nat.le_succ _
  have old : ∀ b o, s2.heap.get? b = some o → h₁.get? b = some o := fun b o e =>
    hsb₁.extBut b o (by rw [hC]; exact Nat.ne_of_lt (Nat.lt_succ_of_lt (Heap.lt_size e))) (Heap.get?_push_of_some _ (hHp ▸ Heap.get?_push_of_some _ e))
  have hacc : h₁.get? s2.heap.objs.size = some (SetA.newO (!X.w.params.followText "set-order")) := hsb₁.extBut _ _ hDC (Heap.get?_push_of_some _ (hHp ▸ Heap.get?_push_size _ rfl))
  have hfo : ∀ b ∈ fp, ∃ o, s2.heap.get? b = some o := fun b hb => let ⟨o, e, _⟩ := T.obj _ _ st2 b hb; ⟨o, e⟩
  have st4 : tn 0 h₁ := T.keep _ _ _ st2 fun b _ o e => old b o e
  let D : Addr := s2.heap.objs.size
  let C : Addr := Hq.objs.size
  let Y : Cx := cxIn X N' scope C s2 H2 fp
  have hDfp : D ∉ fp := fun hb => by
    obtain ⟨o, e⟩ := hfo D hb
    exact Nat.lt_irrefl _ (Heap.lt_size e)
  have stat : ∀ {H' : Hp}, (∀ b ∈ fp, H' b = none) → ∀ b ∈ fp, FpOk Y pins H' b := fun {H'} hn b hb => by
    obtain ⟨f0, f1, fx, f3, f4, f5⟩ := f2 b hb
    obtain ⟨o, e⟩ := hfo b hb
    refine ⟨hn b hb, fun z => ?_, fun z => ?_, .inl hb, fun x c e => f4 x c (closCl_sound _ _ (S.clos I2) (fun y c e => by simp at e) x c e), f5⟩
    · have h1 := Nat.lt_of_lt_of_le (Heap.lt_size e) hCle
      have z : b = Hq.objs.size := z
      rw [z] at h1
      exact Nat.lt_irrefl _ h1
    · rcases List.mem_cons.mp (I2.stkSub b z) with e | e
      · exact f1 e
      · exact fx e
  have loop : ∀ s₃ : Shared, s₃ = { s2 with heap := h₁, toks := s2.toks + ([] : List (Str × Value)).length } →
      codeAny (model X.prog X.w) X.A (.compLoop (.SetComp vx (⟨tg, iter, ifs, 0⟩ :: ⟨t', i', f', 0⟩ :: gs) scope pos) 0 (.ref it) (.ref s2.heap.objs.size) (compEnvC scope (closCl X.env.cells scope.names []) Hq.objs.size X.env))
        (CompEnd X pins σ Q (.ref s2.heap.objs.size) Hq.objs.size) s₃ := by
    rintro s₃ rfl
    have inF : ∀ {pl : List (Addr × Obj)} {p : Addr × Obj}, p ∈ pl → p ∈ Y.pn ++ (pins ++ pl) := fun {pl p} hp => List.mem_append_right _ (List.mem_append_right _ hp)
    refine sloop_more rfl rfl (hs' C s2 H2 fp) (fun m s' => ∃ i H', m = n - i ∧ i ≤ n ∧ Inv Y pins (capt cap σ) H' s' ∧ tn i s'.heap ∧ (∀ b ∈ fp, H' b = none) ∧ P i H') ?_ n ?_
    · rintro m s3 ⟨i, H3, rfl, hin, I3, st3, fr3, p3⟩
      rcases turn i H3 hin p3 with ⟨stop, q⟩ | ⟨hlt, go, step⟩
      · refine thn (T.done Y rfl rfl rfl hc i _ s3 _ H3 (fun _ _ => False) I3 (stat fr3) st3 stop) fun r s4 ⟨hr, I4⟩ => ?_
        subst hr
        have IX : Inv X pins σ H3 s4 := I2.call' (ch := fp) I4.os I4.base I4.hok I4.bare fun b hb => by
          obtain ⟨f0, f1, fx, f3, f4, f5⟩ := f2 b hb
          exact ⟨f3, f1, f4, f5⟩
        obtain ⟨m', hm', _⟩ := I4.loc
        exact ⟨.ref D, _, IX, rfl, q, ⟨m', hm'⟩, I2.fpOk hCle I4.free⟩
      · refine thn (T.item Y rfl rfl rfl hc i _ s3 _ H3 (fun _ _ => False) I3 (stat fr3) st3 go) fun r s4 ⟨u, hr, h4⟩ => ?_
        subst hr
        refine thn h4 fun _ s5 ⟨x, H5, I5, r5, y5, st5, fr5⟩ => ?_
        have I5' := I5.pinned (stat fr5) (T.obj _ _ st5)
        refine thn (hg C s2 H2 fp _ s5 _ H5 x u _ I5' r5 (step x H5 y5)) fun _ s6 ⟨σ6, H6, I6, kp, q6⟩ => ?_
        refine thn (ht C s2 H2 fp _ s6 σ6 H6 _ I6 q6) fun b s7 ⟨H7, I7, q7⟩ => ?_
        cases b with
        | false =>
          rw [if_neg Bool.false_ne_true] at q7 ⊢
          refine ⟨n - (i + 1), Nat.sub_succ_lt_self n i hlt, i + 1, H7, rfl, hlt, I7.unpinned.weak kp.length kp.get, ?_, fun b hb => ?_, q7⟩
          · exact T.keep _ _ _ st5 fun b hb o e => (I7.pin (b, o) (inF (mem_pinsAt hb e))).1
          · obtain ⟨o, e, d⟩ := T.obj _ _ st5 b hb
            exact (I7.pin (b, o) (inF (mem_pinsAt hb e))).2.1
        | true =>
          rw [if_pos rfl] at q7 ⊢
          refine thn (hb C s2 H2 fp D _ s7 σ6 H7 _ I7 q7) fun x s8 h8 => thn h8 fun it' s9 h9 => codeAny_mono h9 fun r s10 hr => ?_
          cases r with
          | error x => exact hr
          | ok f =>
            obtain ⟨H10, I10, q9⟩ := hr
            refine ⟨n - (i + 1), Nat.sub_succ_lt_self n i hlt, i + 1, H10, rfl, hlt, I10.unpinned.weak kp.length kp.get, ?_, fun b hb => ?_, q9⟩
            · exact T.keep _ _ _ st5 fun b hb o e => (I10.pin (b, o) (inF (mem_pinsAt hb e))).1
            · obtain ⟨o, e, d⟩ := T.obj _ _ st5 b hb
              exact (I10.pin (b, o) (inF (mem_pinsAt hb e))).2.1
    · have I4 := cxIn_inv (s4 := { s2 with heap := h₁, toks := s2.toks + ([] : List (Str × Value)).length }) S I2 hCle f2 hfo rfl rfl old hns₁ hacc (Nat.le_refl _) hDC fun v z => by cases z
      obtain ⟨_, pD1, pD2, pD3, _⟩ := I4.pin (D, (SetA.newO (!X.w.params.followText "set-order"))) (List.mem_append_right _ (List.mem_append_right _ (List.mem_singleton.mpr rfl)))
      have I5 : Inv Y pins (capt cap σ) H2 { s2 with heap := h₁, toks := s2.toks + ([] : List (Str × Value)).length } := I4.pins_of fun p hp => I4.pin p (List.mem_append_right _ (List.mem_append_left _ hp))
      have fD : FpOk Y pins H2 D := ⟨pD1, pD2, pD3, .inr (Nat.le_refl _), fun x c e z => by
        obtain ⟨v, q⟩ := I2.cell x c (closCl_sound _ _ (S.clos I2) (fun y c e => by simp at e) x c e)
        have h1 := q.lt
        rw [show c = s2.heap.objs.size from z] at h1
        exact Nat.lt_irrefl _ h1, fun p hp z => by
        have h1 := Heap.lt_size (I2.pin p hp).1
        rw [show p.1 = s2.heap.objs.size from z] at h1
        exact Nat.lt_irrefl _ h1⟩
      have new : ObjOk X.prog X.w (upd H2 D (setG X.prog X.w D [] [])) h₁ D (setG X.prog X.w D [] []) := have FC := fresh_cell (prog := X.prog) (w := X.w) (T := []) rfl hacc; setG_ok FC.get FC.ex FC.dat FC.tb FC.ln FC.pl FC.ld rfl rfl
      refine ⟨0, upd H2 D (setG X.prog X.w D [] []), rfl, Nat.zero_le _, I5.track fD new, st4, fun b hb => ?_, p0⟩
      rw [upd_ne (fun z => hDfp (by rw [← z]; exact hb))]
      exact (f2 b hb).1
  exact sstart rfl (loop _ rfl) (T.self X.A 0 _ _ _ st4 (loop _ rfl))
theorem pe_scompN (hc : X.calm = true) (S : CompScope N' cap X.N X.env.scope scope) (hi : PI X tg iter wi) (hg : ∀ C s H fp, PG (cxIn X N' scope C s H fp) tg g)
    (ht : ∀ C s H fp, PF (cxIn X N' scope C s H fp) ifs tc) (hb : ∀ C s H fp D, PN (cxIn X N' scope C s H fp) (.SetComp vx (⟨tg, iter, ifs, 0⟩ :: ⟨t', i', f', 0⟩ :: gs) scope pos) 1 i' D (bN D)) (hs' : ∀ C s H fp x, foldedSetIterable i' (cxIn X N' scope C s H fp).env x = pure x)
    (hs : ∀ x, foldedSetIterable iter X.env x = pure x := by intro _; rfl) : PE X (.SetComp vx (⟨tg, iter, ifs, 0⟩ :: ⟨t', i', f', 0⟩ :: gs) scope pos) (tSCompN X.prog X.w cap wi g tc bN) := by
  intro pins s σ H Q I h
  rw [arm_eval_SetComp]
  refine wpAny_comprehension_free (use := none) rfl hs (closureFor_cells (S.clos I)) S.kind S.loc (thn (scompN_run (pos := pos) hc S hi hg ht hb hs' I h) fun x s1 h1 => thn h1 fun it s2 h2 => thn h2 fun acc s3 h3 => thn h3 fun cenv s4 h4 => ?_)
  refine codeAny_mono h4 fun r s' hr => ?_
  cases r with
  | error x => exact hr.elim
  | ok f =>
    obtain ⟨v, H', I', rv, q, ⟨m, hn⟩, f0, f1, f2, f3, f4, f5⟩ := hr
    refine ⟨m, hn, fun h' sb => ⟨v, H', I'.turned (it := cenv.locals) (t' := s'.toks) (fun b o hb e => (sb.2 b hb).trans e) f0 f1 f3 f4 f5, rv, q⟩⟩
end
section
variable {K : PySem.W.Frag} {a : Addr} {xs : List V} {b : Bool} {g : TG} {tc : TT} {body : TB} {σ : St} {H1 : Hp} {Q : Hp → Prop}
theorem seq_loop (P : Nat → Hp → Prop) (p0 : P 0 H1) (hl : ∀ i H, i ≤ xs.length → P i H → SqB b K H a xs)
    (hs : ∀ i x H, xs[i]? = some x → P i H → g x σ H fun σ2 H2 => Kp σ σ2 ∧ tc σ2 H2 fun b H3 => if b = true then body σ2 H3 (P (i + 1)) else P (i + 1) H3)
    (hd : ∀ H, P xs.length H → Q H) : ∃ (n : Nat) (P : Nat → Hp → Prop), P 0 H1 ∧ ∀ i H, i ≤ n → P i H → ((ItB b K a).stop i H ∧ Q H) ∨ (i < n ∧ (ItB b K a).go i H ∧ ∀ x H', (ItB b K a).yld i H x H' → g x σ H' fun σ2 H2 => Kp σ σ2 ∧ tc σ2 H2 fun b H3 => if b = true then body σ2 H3 (P (i + 1)) else P (i + 1) H3) := by
  refine ⟨xs.length, P, p0, fun i H il p => ?_⟩
  have q := hl i H il p
  by_cases hlt : i < xs.length
  · cases b
    all_goals
      refine .inr ⟨hlt, ⟨xs, xs[i], q, by simp [hlt]⟩, fun x H' y => ?_⟩
      obtain ⟨e, y⟩ := y
      subst e
      exact hs i x _ (y xs q) p
  · have e : i = xs.length := by omega
    subst e
    cases b
    all_goals exact .inl ⟨⟨xs, q, Nat.le_refl _⟩, hd H p⟩
def iAny (K : PySem.W.Frag) (tl : TE) : TI := fun σ H R => tl σ H fun x H1 => ∃ a b, x = .ref a ∧ (∃ xs, SqB b K H1 a xs) ∧ R (ItB b K a) H1
theorem pi_any {X : Cx} {tg l : Expr} {tl : TE} (hl : PE X l tl) : PI X tg l (iAny X.K tl) := by
  intro pins s σ H R I h
  refine thn (hl pins s σ H _ I h) fun v s1 ⟨x, H1, I1, r1, q1⟩ => ?_
  obtain ⟨a, b, e, ⟨xs, hq⟩, q⟩ := q1
  subst e
  cases r1
  cases b
  · obtain ⟨its, rv, p, hz⟩ := I1.list hq
    refine wpAny_pyIter_list p.isList ?_
    refine ⟨s1.heap.objs.size, [s1.heap.objs.size], _, _, H1, rfl, I1.kept (t' := s1.toks) fun b o e => Heap.get?_push_of_some _ e, turn_list a _, ⟨_, Heap.get?_push_size _ rfl, rfl, rfl⟩, fun b hb => ?_, q⟩
    have e : b = s1.heap.objs.size := by simpa using hb
    subst e
    exact I1.fpOk (Nat.le_refl _) (I1.hok.fresh (Nat.le_refl _))
  · obtain ⟨its, rv, p, hz⟩ := I1.tuple hq
    refine wpAny_pyIter_tuple (show s1.heap.IsTuple a its.toArray from p) ?_
    refine ⟨s1.heap.objs.size, [s1.heap.objs.size], _, _, H1, rfl, I1.kept (t' := s1.toks) fun b o e => Heap.get?_push_of_some _ e, turn_tuple a _, ⟨_, Heap.get?_push_size _ rfl, rfl, rfl⟩, fun b hb => ?_, q⟩
    have e : b = s1.heap.objs.size := by simpa using hb
    subst e
    exact I1.fpOk (Nat.le_refl _) (I1.hok.fresh (Nat.le_refl _))
theorem pi_anyK {X : Cx} (K : PySem.W.Frag) (e : X.K = K) {tg l : Expr} {tl : TE} (hl : PE X l tl) : PI X tg l (iAny K tl) := e ▸ pi_any hl
theorem pn_lastP {Y : Cx} (P : Program) (w : World) (eP : Y.prog = P) (eW : Y.w = w) {vx tg iter : Expr} {ifs : List Expr} {gens : List Comprehension} {scope : Scope} {pos : Pos} {D : Addr} {d : Nat} {wi : TI} {g : TG} {tc : TT} {tv : TE} (hx : ∀ v s, Y.xe v s → False) (hc : Y.calm = true) (hu : Y.A.units + 1 < cLine) (hd : gens[d]? = some ⟨tg, iter, ifs, 0⟩) (hn : gens[d + 1]? = none) (hi : PI Y tg iter wi) (hg : PG Y tg g) (ht : PF Y ifs tc) (he : PE Y vx tv) :
    PN Y (.SetComp vx gens scope pos) d iter D (tLoop wi g tc (tEmit P w D tv)) := by
  subst eP eW
  exact pn_last hx hc hu hd hn hi hg ht he
end
end L2
set_option Elab.async false
set_option linter.all false
set_option maxRecDepth 100000
set_option maxHeartbeats 4000000
namespace L2
open PySem PySem.W PyProof.Rows Srt
end L2
set_option Elab.async false
set_option linter.all false
set_option maxRecDepth 100000
set_option maxHeartbeats 4000000
namespace L2
open PySem PySem.Spec PySem.W PyProof.Rows
end L2
set_option Elab.async false
set_option linter.all false
set_option maxRecDepth 100000
set_option maxHeartbeats 4000000
namespace L2
open PySem PySem.Spec PySem.W PyProof.Rows
end L2
set_option Elab.async false
set_option linter.all false
set_option maxRecDepth 100000
set_option maxHeartbeats 4000000
namespace L2
open PySem PySem.Spec PySem.W PyProof.Rows
end L2
set_option Elab.async false
set_option linter.all false
set_option maxRecDepth 100000
set_option maxHeartbeats 4000000
namespace L2
open PySem PySem.W PyProof.Rows
end L2
set_option Elab.async false
set_option linter.all false
set_option maxRecDepth 100000
set_option maxHeartbeats 400000
namespace K58
open PySem L2 PyProof.Rows
structure CalF (P : Program) (w : World) (K : PySem.W.Frag) (mg : Str → Option Value) (base : Heap) (k : Nat) (x : Str) (ps : List Str) (sp : Sp) (g : Addr) (gd : FuncData) : Prop where
  ok : FnOk P w K mg base CX0 k g gd ps sp
  mg : mg x = some (.ref g)
  kp : PySem.W.keepIn K (.ref g) = true
  bd : Binds K gd ps []
structure Txt2 (mg : Str → Option Value) : Prop where
  all : mg "all" = none
  zip : mg "zip" = none
  any : mg "any" = none
abbrev scO (l : List (Str × NameKind)) : Scope := { kind := .function, names := l, isGenerator := false, isCoroutine := false }
def SeqIs (b : Bool) (H : Hp) (a : Addr) (xs : List V) : Prop := match b with
  | true => H a = some (.tup xs)
  | false => H a = some (.lst xs)
theorem SeqIs.sqB {b : Bool} {K : PySem.W.Frag} {H : Hp} {a : Addr} {xs : List V} (h : SeqIs b H a xs) : SqB b K H a xs := by
  cases b
  · exact SqL.of h
  · exact SqT.of h
theorem SeqIs.same {b : Bool} {H H' : Hp} {a : Addr} {xs : List V} (h : SeqIs b H a xs) (s : Same H H') : SeqIs b H' a xs := by
  cases b
  · exact s _ _ h
  · exact s _ _ h
theorem SeqIs.kept {b : Bool} {H H' : Hp} {a p : Addr} {xs : List V} (h : SeqIs b H a xs) (ne : a ≠ p) (k : Kept p H H') : SeqIs b H' a xs := by
  cases b
  · exact k _ _ ne h
  · exact k _ _ ne h
theorem SeqIs.or {b : Bool} {K : PySem.W.Frag} {H : Hp} {a : Addr} {xs : List V} (h : SeqIs b H a xs) : SqL K H a xs ∨ SqT K H a xs := by
  cases b
  · exact .inl (SqL.of h)
  · exact .inr (SqT.of h)
theorem nodup_le {α : Type} [DecidableEq α] : ∀ {l m : List α}, l.Nodup → (∀ x ∈ l, x ∈ m) → l.length ≤ m.length
  | [], m, _, _ => Nat.zero_le _
  | x :: l, m, nd, h => by
    have hx := h x (List.mem_cons_self ..)
    obtain ⟨n1, n2⟩ := List.nodup_cons.mp nd
    have ih := nodup_le (m := m.erase x) n2 fun y hy => (List.mem_erase_of_ne (fun z : y = x => n1 (z ▸ hy))).mpr (h y (List.mem_cons_of_mem _ hy))
    rw [List.length_erase_of_mem hx] at ih
    have : 0 < m.length := List.length_pos_of_mem hx
    rw [List.length_cons]
    omega
abbrev Gp := Bool × List Int
def GrpsAt (H : Hp) (as : List Addr) (gs : List Gp) : Prop := Paired (fun a g => SeqIs g.1 H a (g.2.map V.int)) as gs
theorem GrpsAt.same {H H' : Hp} {as : List Addr} {gs : List Gp} (h : GrpsAt H as gs) (s : Same H H') : GrpsAt H' as gs := Paired.mapP h fun a g e => SeqIs.same e s
def GOk (gs : List Gp) : Prop := ∀ g ∈ gs, g.2.length ≤ 20 ∧ ∀ z ∈ g.2, 0 ≤ z ∧ z < 30
def isPair (gs : List Gp) (k : List Int) : Prop := ∃ g ∈ gs, ∃ a ∈ g.2, ∃ b ∈ g.2, a < b ∧ k = [a, b]
def allP : List (List Int) := (List.range 30).flatMap fun (b : Nat) => (List.range b).map fun (a : Nat) => [(a : Int), (b : Int)]
theorem allP_len : allP.length = 435 := by decide +kernel
theorem mem_allP {a b : Int} (h0 : 0 ≤ a) (h1 : a < b) (h2 : b < 30) : [a, b] ∈ allP := by
  obtain ⟨x, rfl⟩ : ∃ x : Nat, a = x := ⟨a.toNat, by omega⟩
  obtain ⟨y, rfl⟩ : ∃ y : Nat, b = y := ⟨b.toNat, by omega⟩
  refine List.mem_flatMap.mpr ⟨y, List.mem_range.mpr (by omega), List.mem_map.mpr ⟨x, List.mem_range.mpr (by omega), rfl⟩⟩
theorem pair_all {gs : List Gp} (ok : GOk gs) {k : List Int} (h : isPair gs k) : k ∈ allP := by
  obtain ⟨g, hg, a, ha, b, hb, lt, rfl⟩ := h
  exact mem_allP ((ok g hg).2 a ha).1 lt ((ok g hg).2 b hb).2
end K58
set_option Elab.async false
set_option linter.all false
set_option maxRecDepth 100000
set_option maxHeartbeats 400000
namespace K58
open PySem L2 PyProof.Rows
def spSame (n : Nat) : Sp := fun vs H Q _ => ∃ (f u : V) (d : Dt), vs = [f, u] ∧ Dat H n f d ∧ Dat H n u d ∧ ∀ H', Same H H' → Q (.bl true) H'
section
variable {P : Program} {w : World} {K : PySem.W.Frag} {mg : Str → Option Value} {base : Heap}
theorem scSame : FnScope ["_law_found", "_law_due_here"] ["_law_found", "_law_due_here"] (defScope sSame) := ⟨rfl, rfl, rfl, by decide +kernel, rfl, by decide +kernel, by decide +kernel⟩
theorem csSame : CompScope ["_law_one", "_law_other"] [none, none] ["_law_found", "_law_due_here"] (defScope sSame) (scO [(".0", .local), ("_law_one", .local), ("_law_other", .local), ("_law_same", .globalImplicit)]) := ⟨rfl, by decide +kernel, by decide +kernel, by decide +kernel, rfl, capB_ok (by decide +kernel)⟩
theorem ndSame : (["_law_one", "_law_other"] : List Str).Nodup := by decide +kernel
theorem same_flat {f : Addr} {cdv : Value} {A : Around} {outer : List Env} {s : Shared} {H : Hp} {Q : VK} {E : XK} (T : Txt mg) {x : V} {d : Dt} (hx : Dat H 0 x d) (q : ∀ H', Same H H' → Q (.bl true) H') :
    ∃ t, PSs (cxOf CX0 P w K mg base ["_law_found", "_law_due_here"] "_law_same" (defScope sSame) f cdv A outer s H E).nox (defBody sSame) t ∧ t { nx := fun _ H' => Q .non H', rt := Q } (start ["_law_found", "_law_due_here"] [x, x]) H := by
  cases d with
  | int i =>
    have ex : x = .int i := hx
    subst ex
    refine ⟨_, pss_cons (ps_if (pt_val (pe_callB call_isinst2 (by rfl) T.isinst boot_isinstance (@pa_nam _ _ _ _ _ _ (pv 1) (@pa_tup _ _ _ _ _ _ _ (pe_tup (@pa_nam _ _ _ _ _ _ (pe_bltn (v := .ty "list") (by rfl) T.list boot_list rfl) (@pa_nam _ _ _ _ _ _ (pe_bltn (v := .ty "tuple") (by rfl) T.tuple boot_tuple rfl) pa_nil))) pa_nil)))) pss_never pss_nil)
      (pss_cons (ps_if (PW.pt (pw_or (pt_cmpR op_isN (pv 1) pe_non (nomark _)) (pw_or1 (pt_val (pe_callB call_isinst (by rfl) T.isinst boot_isinstance (@pa_nam _ _ _ _ _ _ (pv 1) (@pa_nam _ _ _ _ _ _ (pe_bltn (v := .ty "str") (by rfl) T.str boot_str rfl) pa_nil))))))) pss_never pss_nil)
      (pss_cons (ps_if (pt_val (pe_callB call_isinst (by rfl) T.isinst boot_isinstance (@pa_nam _ _ _ _ _ _ (pv 1) (@pa_nam _ _ _ _ _ _ (pe_bltn (v := .ty "bool") (by rfl) T.bool boot_bool rfl) pa_nil)))) pss_never pss_nil)
      (pss_one (ps_ret (pe_and (pe_callB call_isinst (by rfl) T.isinst boot_isinstance (@pa_nam _ _ _ _ _ _ (pv 0) (@pa_nam _ _ _ _ _ _ (pe_bltn (v := .ty "int") (by rfl) T.int boot_int rfl) pa_nil)))
        (pe_and (pe_not (pe_callB call_isinst (by rfl) T.isinst boot_isinstance (@pa_nam _ _ _ _ _ _ (pv 0) (@pa_nam _ _ _ _ _ _ (pe_bltn (v := .ty "bool") (by rfl) T.bool boot_bool rfl) pa_nil))))
        (pe_one (pe_cmpR op_eq (pv 0) (pv 1) (nomark _))))))))), ?_⟩
    refine ⟨_, rfl, (by show 2 ≤ sizeLine; decide), fun tp htp => ⟨_, _, tp, false, rfl, TyF.int i, upd_same, rfl, _, rfl, iteF ?_⟩⟩
    refine ⟨_, rfl, rfl, _, rfl, ?_⟩
    refine ite2 (fun h => absurd (of_decide_eq_true h) (by intro z; cases z)) (fun _ => ?_)
    refine ⟨_, rfl, _, _, "str", false, rfl, TyOf.int i, rfl, _, rfl, iteF ?_⟩
    refine ⟨_, rfl, _, _, "bool", false, rfl, TyOf.int i, rfl, _, rfl, iteF ?_⟩
    refine ⟨_, rfl, _, _, "int", true, rfl, TyOf.int i, rfl, _, rfl, iteT ?_⟩
    refine ⟨_, rfl, _, _, "bool", false, rfl, TyOf.int i, rfl, _, rfl, _, rfl, iteT ?_⟩
    refine ⟨_, rfl, _, rfl, rfl, ?_⟩
    rw [decide_eq_true rfl]
    exact q _ (Same.new htp)
  | bl i =>
    have ex : x = .bl i := hx
    subst ex
    refine ⟨_, pss_cons (ps_if (pt_val (pe_callB call_isinst2 (by rfl) T.isinst boot_isinstance (@pa_nam _ _ _ _ _ _ (pv 1) (@pa_tup _ _ _ _ _ _ _ (pe_tup (@pa_nam _ _ _ _ _ _ (pe_bltn (v := .ty "list") (by rfl) T.list boot_list rfl) (@pa_nam _ _ _ _ _ _ (pe_bltn (v := .ty "tuple") (by rfl) T.tuple boot_tuple rfl) pa_nil))) pa_nil)))) pss_never pss_nil)
      (pss_cons (ps_if (PW.pt (pw_or (pt_cmpR op_isN (pv 1) pe_non (nomark _)) (pw_or1 (pt_val (pe_callB call_isinst (by rfl) T.isinst boot_isinstance (@pa_nam _ _ _ _ _ _ (pv 1) (@pa_nam _ _ _ _ _ _ (pe_bltn (v := .ty "str") (by rfl) T.str boot_str rfl) pa_nil))))))) pss_never pss_nil)
      (pss_cons (ps_if (pt_val (pe_callB call_isinst (by rfl) T.isinst boot_isinstance (@pa_nam _ _ _ _ _ _ (pv 1) (@pa_nam _ _ _ _ _ _ (pe_bltn (v := .ty "bool") (by rfl) T.bool boot_bool rfl) pa_nil))))
        (pss_one (ps_ret (pe_and (pe_callB call_isinst (by rfl) T.isinst boot_isinstance (@pa_nam _ _ _ _ _ _ (pv 0) (@pa_nam _ _ _ _ _ _ (pe_bltn (v := .ty "bool") (by rfl) T.bool boot_bool rfl) pa_nil))) (pe_one (pe_cmpR op_eq (pv 0) (pv 1) (nomark _)))))) pss_nil)
      (pss_one ps_never))), ?_⟩
    refine ⟨_, rfl, (by show 2 ≤ sizeLine; decide), fun tp htp => ⟨_, _, tp, false, rfl, TyF.bl i, upd_same, rfl, _, rfl, iteF ?_⟩⟩
    refine ⟨_, rfl, rfl, _, rfl, ?_⟩
    refine ite2 (fun h => absurd (of_decide_eq_true h) (by intro z; cases z)) (fun _ => ?_)
    refine ⟨_, rfl, _, _, "str", false, rfl, TyOf.bl i, rfl, _, rfl, iteF ?_⟩
    refine ⟨_, rfl, _, _, "bool", true, rfl, TyOf.bl i, rfl, _, rfl, iteT ?_⟩
    refine ⟨_, rfl, _, _, "bool", true, rfl, TyOf.bl i, rfl, _, rfl, iteT ?_⟩
    refine ⟨_, rfl, _, rfl, rfl, ?_⟩
    rw [decide_eq_true rfl]
    exact q _ (Same.new htp)
  | non =>
    have ex : x = .non := hx
    subst ex
    refine ⟨_, pss_cons (ps_if (pt_val (pe_callB call_isinst2 (by rfl) T.isinst boot_isinstance (@pa_nam _ _ _ _ _ _ (pv 1) (@pa_tup _ _ _ _ _ _ _ (pe_tup (@pa_nam _ _ _ _ _ _ (pe_bltn (v := .ty "list") (by rfl) T.list boot_list rfl) (@pa_nam _ _ _ _ _ _ (pe_bltn (v := .ty "tuple") (by rfl) T.tuple boot_tuple rfl) pa_nil))) pa_nil)))) pss_never pss_nil)
      (pss_cons (ps_if (PW.pt (pw_or (pt_cmpR op_isN (pv 1) pe_non (nomark _)) (pw_or1 (pt_val (pe_callB call_isinst (by rfl) T.isinst boot_isinstance (@pa_nam _ _ _ _ _ _ (pv 1) (@pa_nam _ _ _ _ _ _ (pe_bltn (v := .ty "str") (by rfl) T.str boot_str rfl) pa_nil)))))))
        (pss_one (ps_ret (pe_and (pe_cmpR op_eq (pv 0) (pv 1) (nomark _)) (pe_one (pe_cmpR op_eq (pe_callB call_isinst (by rfl) T.isinst boot_isinstance (@pa_nam _ _ _ _ _ _ (pv 0) (@pa_nam _ _ _ _ _ _ (pe_bltn (v := .ty "str") (by rfl) T.str boot_str rfl) pa_nil))) (pe_callB call_isinst (by rfl) T.isinst boot_isinstance (@pa_nam _ _ _ _ _ _ (pv 1) (@pa_nam _ _ _ _ _ _ (pe_bltn (v := .ty "str") (by rfl) T.str boot_str rfl) pa_nil))) (nomark _)))))) pss_nil)
      (pss_cons ps_never (pss_one ps_never))), ?_⟩
    refine ⟨_, rfl, (by show 2 ≤ sizeLine; decide), fun tp htp => ⟨_, _, tp, false, rfl, TyF.non, upd_same, rfl, _, rfl, iteF ?_⟩⟩
    refine ⟨_, rfl, rfl, _, rfl, ?_⟩
    refine ite2 (fun _ => ?_) (fun h => absurd (decide_eq_true rfl) h)
    refine iteT ?_
    refine ⟨_, rfl, _, rfl, rfl, _, rfl, ?_⟩
    refine ite2 (fun _ => ?_) (fun h => absurd (decide_eq_true rfl) h)
    refine ⟨_, rfl, _, _, "str", false, rfl, TyOf.non, rfl, _, rfl, _, _, "str", false, rfl, TyOf.non, rfl, rfl, ?_⟩
    rw [decide_eq_true rfl]
    exact q _ (Same.new htp)
  | str i =>
    have ex : x = .str i := hx
    subst ex
    refine ⟨_, pss_cons (ps_if (pt_val (pe_callB call_isinst2 (by rfl) T.isinst boot_isinstance (@pa_nam _ _ _ _ _ _ (pv 1) (@pa_tup _ _ _ _ _ _ _ (pe_tup (@pa_nam _ _ _ _ _ _ (pe_bltn (v := .ty "list") (by rfl) T.list boot_list rfl) (@pa_nam _ _ _ _ _ _ (pe_bltn (v := .ty "tuple") (by rfl) T.tuple boot_tuple rfl) pa_nil))) pa_nil)))) pss_never pss_nil)
      (pss_cons (ps_if (PW.pt (pw_or (pt_cmpR op_isN (pv 1) pe_non (nomark _)) (pw_or1 (pt_val (pe_callB call_isinst (by rfl) T.isinst boot_isinstance (@pa_nam _ _ _ _ _ _ (pv 1) (@pa_nam _ _ _ _ _ _ (pe_bltn (v := .ty "str") (by rfl) T.str boot_str rfl) pa_nil)))))))
        (pss_one (ps_ret (pe_and (pe_cmpR op_eq (pv 0) (pv 1) (nomark _)) (pe_one (pe_cmpR op_eq (pe_callB call_isinst (by rfl) T.isinst boot_isinstance (@pa_nam _ _ _ _ _ _ (pv 0) (@pa_nam _ _ _ _ _ _ (pe_bltn (v := .ty "str") (by rfl) T.str boot_str rfl) pa_nil))) (pe_callB call_isinst (by rfl) T.isinst boot_isinstance (@pa_nam _ _ _ _ _ _ (pv 1) (@pa_nam _ _ _ _ _ _ (pe_bltn (v := .ty "str") (by rfl) T.str boot_str rfl) pa_nil))) (nomark _)))))) pss_nil)
      (pss_cons ps_never (pss_one ps_never))), ?_⟩
    refine ⟨_, rfl, (by show 2 ≤ sizeLine; decide), fun tp htp => ⟨_, _, tp, false, rfl, TyF.str i, upd_same, rfl, _, rfl, iteF ?_⟩⟩
    refine ⟨_, rfl, rfl, _, rfl, ?_⟩
    refine ite2 (fun h => absurd (of_decide_eq_true h) (by intro z; cases z)) (fun _ => ?_)
    refine ⟨_, rfl, _, _, "str", true, rfl, TyOf.str i, rfl, _, rfl, iteT ?_⟩
    refine ⟨_, rfl, _, rfl, rfl, _, rfl, ?_⟩
    refine ite2 (fun _ => ?_) (fun h => absurd (decide_eq_true rfl) h)
    refine ⟨_, rfl, _, _, "str", true, rfl, TyOf.str i, rfl, _, rfl, _, _, "str", true, rfl, TyOf.str i, rfl, rfl, ?_⟩
    rw [decide_eq_true rfl]
    exact q _ (Same.new htp)
  | lst ds => exact (show False from hx).elim
  | tup ds => exact (show False from hx).elim
end
end K58
set_option Elab.async false
set_option linter.all false
set_option maxRecDepth 100000
set_option maxHeartbeats 400000
namespace K58
open PySem L2 PyProof.Rows
theorem rep_snoc (i : Nat) : (List.replicate i true).map V.bl ++ [V.bl true] = (List.replicate (i + 1) true).map V.bl := by rw [List.replicate_succ', List.map_append]; rfl
theorem rep_all (i : Nat) : (List.replicate i true).all id = true := by simp
section
variable {P : Program} {w : World} {K : PySem.W.Frag} {mg : Str → Option Value} {base : Heap}
theorem paired_len {H : Hp} {n : Nat} {xs : List V} {ds : List Dt} (h : Paired (Dat H n) xs ds) : xs.length = ds.length := Paired.length h
theorem same_seq {n : Nat} {f : Addr} {fd : FuncData} {cdv : Value} {A : Around} {outer : List Env} {s : Shared} {H : Hp} {Q : VK} {E : XK} (T : Txt mg) (T2 : Txt2 mg) (G : CalF P w K mg base (n + 1) "_law_same" ["_law_found", "_law_due_here"] (spSame n) f fd)
    (hr : Room (n + 1) (A.deeper (envOfC "_law_same" (defScope sSame) s.heap.objs.size f cdv))) (b : Bool) {p1 p2 : Addr} {xs ys : List V} {ds : List Dt} {t : Value} (ty1 : TyF H (.ref p1) t) (ty2 : TyF H (.ref p2) t) (kt : t = if b then .type "tuple" else .type "list")
    (q1 : SqB b K H p1 xs) (q2 : SqB b K H p2 ys) (l1 : xs.length ≤ sizeLine) (r1 : Paired (Dat H n) xs ds) (r2 : Paired (Dat H n) ys ds) (q : ∀ H', Same H H' → Q (.bl true) H') :
    ∃ t, PSs (cxOf CX0 P w K mg base ["_law_found", "_law_due_here"] "_law_same" (defScope sSame) f cdv A outer s H E).nox (defBody sSame) t ∧ t { nx := fun _ H' => Q .non H', rt := Q } (start ["_law_found", "_law_due_here"] [.ref p1, .ref p2]) H := by
  have e1 := paired_len r1
  have e2 := paired_len r2
  refine ⟨_, pss_cons (ps_if (pt_val (pe_callB call_isinst2 (by rfl) T.isinst boot_isinstance (@pa_nam _ _ _ _ _ _ (pv 1) (@pa_tup _ _ _ _ _ _ _ (pe_tup (@pa_nam _ _ _ _ _ _ (pe_bltn (v := .ty "list") (by rfl) T.list boot_list rfl) (@pa_nam _ _ _ _ _ _ (pe_bltn (v := .ty "tuple") (by rfl) T.tuple boot_tuple rfl) pa_nil))) pa_nil))))
      (pss_cons (ps_if (PW.pt (pw_or (pt_cmpR op_ne (pe_callB call_isinst (by rfl) T.isinst boot_isinstance (@pa_nam _ _ _ _ _ _ (pv 0) (@pa_nam _ _ _ _ _ _ (pe_bltn (v := .ty "list") (by rfl) T.list boot_list rfl) pa_nil))) (pe_callB call_isinst (by rfl) T.isinst boot_isinstance (@pa_nam _ _ _ _ _ _ (pv 1) (@pa_nam _ _ _ _ _ _ (pe_bltn (v := .ty "list") (by rfl) T.list boot_list rfl) pa_nil))) (nomark _))
        (pw_or1 (pt_cmpR op_ne (pe_callB call_isinst (by rfl) T.isinst boot_isinstance (@pa_nam _ _ _ _ _ _ (pv 0) (@pa_nam _ _ _ _ _ _ (pe_bltn (v := .ty "tuple") (by rfl) T.tuple boot_tuple rfl) pa_nil))) (pe_callB call_isinst (by rfl) T.isinst boot_isinstance (@pa_nam _ _ _ _ _ _ (pv 1) (@pa_nam _ _ _ _ _ _ (pe_bltn (v := .ty "tuple") (by rfl) T.tuple boot_tuple rfl) pa_nil))) (nomark _))))) pss_never pss_nil)
      (pss_one (ps_ret (pe_and (pe_cmpR op_eq (pe_callB call_len_seq (by rfl) T.len PySem.boot_len (@pa_nam _ _ _ _ _ _ (pv 0) pa_nil)) (pe_callB call_len_seq (by rfl) T.len PySem.boot_len (@pa_nam _ _ _ _ _ _ (pv 1) pa_nil)) (nomark _))
        (pe_one (pe_callB (call_all rfl) (by rfl) T2.all boot_all (@pa_comp _ _ _ _ _ _ _ _ (pe_comp rfl csSame (pi_zip b b (by rfl) T2.zip (@pa_nam _ _ _ _ _ _ (pv 0) (@pa_nam _ _ _ _ _ _ (pv 1) pa_nil)))
          (fun C s H fp => pg_tupK K rfl (n := 2) rfl (pgs_cons (pg_name (i := 0) ndSame rfl (Or.inl rfl)) (pgs_cons (pg_name (i := 1) ndSame rfl (Or.inl rfl)) pgs_nil)) rfl rfl) (fun C s H fp => pf_nil)
          (fun C s H fp => pe_call G.ok hr rfl G.mg G.kp G.bd .nil pass0 (@pa_nam _ _ _ _ _ _ (pv 0) (@pa_nam _ _ _ _ _ _ (pv 1) pa_nil)))) pa_nil))))))) pss_nil)
    (pss_cons ps_never (pss_cons ps_never (pss_one ps_never))), ?_⟩
  refine ⟨_, rfl, (by show 2 ≤ sizeLine; decide), fun tp htp => ?_⟩
  have s0 : Same H (upd H tp (.tup [.ty "list", .ty "tuple"])) := Same.new htp
  have up : ∀ {x : V} {t : Value}, TyF H x t → TyF (upd H tp (.tup [.ty "list", .ty "tuple"])) x t := fun h => by
    cases h with
    | non => exact .non
    | bl x => exact .bl x
    | int i => exact .int i
    | str x => exact .str x
    | lst e => exact .lst (s0 _ _ e)
    | tup e => exact .tup (s0 _ _ e)
  have y1 := up ty1
  have y2 := up ty2
  have k1 : ∃ c, PySem.W.kitOne K t (.type "list") = some c := by rw [kt]; cases b <;> exact ⟨_, rfl⟩
  have k2 : ∃ c, PySem.W.kitOne K t (.type "tuple") = some c := by rw [kt]; cases b <;> exact ⟨_, rfl⟩
  have k3 : PySem.W.kitAny K t [.type "list", .type "tuple"] = some true := by rw [kt]; cases b <;> rfl
  obtain ⟨c1, k1⟩ := k1
  obtain ⟨c2, k2⟩ := k2
  refine ⟨_, t, tp, true, rfl, y2, upd_same, k3, _, rfl, iteT ?_⟩
  refine ⟨_, rfl, _, t, "list", c1, rfl, y1.of, k1, _, rfl, _, t, "list", c1, rfl, y2.of, k1, rfl, _, rfl, ?_⟩
  refine iteNS rfl ?_
  refine ⟨_, rfl, _, t, "tuple", c2, rfl, y1.of, k2, _, rfl, _, t, "tuple", c2, rfl, y2.of, k2, rfl, _, rfl, ?_⟩
  refine iteNS rfl ?_
  have seqOr : ∀ {a : Addr} {zs : List V}, SqB b K H a zs → SqL K (upd H tp (.tup [.ty "list", .ty "tuple"])) a zs ∨ SqT K (upd H tp (.tup [.ty "list", .ty "tuple"])) a zs := fun h => by
    have h' := s0.seqB h
    cases b
    · exact .inl h'
    · exact .inr h'
  refine ⟨_, rfl, p1, xs, rfl, seqOr q1, _, rfl, p2, ys, rfl, seqOr q2, rfl, _, rfl, ?_⟩
  refine ite2 (fun _ => ?_) (fun h => absurd (decide_eq_true (by rw [e1, e2])) h)
  refine ⟨_, rfl, _, rfl, p1, p2, rfl, ⟨_, s0.seqB q1⟩, ⟨_, s0.seqB q2⟩, ?_⟩
  refine comp_zip (K := K) (b1 := b) (b2 := b) (l1 := p1) (l2 := p2) (xs := xs) (ys := ys) (fun i zs G => Same H G ∧ zs = (List.replicate i true).map V.bl) (by omega) ⟨s0, rfl⟩ (fun i zs G _ z => ⟨z.1.seqB q1, z.1.seqB q2⟩) ?_ ?_
  · rintro i x y zs G U hx hy ⟨sm, rfl⟩ hU
    obtain ⟨il, ex⟩ := List.getElem?_eq_some_iff.mp hx
    obtain ⟨jl, ey⟩ := List.getElem?_eq_some_iff.mp hy
    subst ex ey
    have di : i < ds.length := by omega
    have sU := sm.trans (Same.new (o := .tup [xs[i], ys[i]]) hU)
    refine ⟨U, _, rfl, SqT.of upd_same, rfl, _, _, rfl, _, _, rfl, rfl, trivial, tTru_if ⟨_, rfl, _, rfl, xs[i], ys[i], ds[i], rfl, Dat.same sU (Paired.at r1 i il di), Dat.same sU (Paired.at r2 i jl di), fun G2 sm2 => ⟨sU.trans sm2, rep_snoc i⟩⟩⟩
  · rintro zs G _ ⟨sm, rfl⟩ D hD
    refine ⟨D, _, rfl, SqL.of upd_same, ?_⟩
    rw [rep_all]
    exact q _ (sm.trans (Same.new hD))
theorem ok_same {f : Addr} {fd : FuncData} (F : Fun K "_law_same" "_law_same" sSame f fd) (T : Txt mg) (T2 : Txt2 mg) (mf : mg "_law_same" = some (.ref f)) (bd : Binds K fd ["_law_found", "_law_due_here"] []) : ∀ n : Nat, FnOk P w K mg base CX0 (n + 1) f fd ["_law_found", "_law_due_here"] (spSame n)
  | 0 => by
    refine F.ok scSame (fun vs H Q E h => ?_) (fun cdv A outer s H vs Q E hr h => ?_)
    · obtain ⟨x, u, d, rfl, _⟩ := h
      rfl
    · obtain ⟨x, u, d, rfl, h1, h2, q⟩ := h
      cases d with
      | lst ds => exact (show False from h1).elim
      | tup ds => exact (show False from h1).elim
      | non => cases (show x = .non from h1); cases (show u = .non from h2); exact same_flat (d := .non) T rfl q
      | bl i => cases (show x = .bl i from h1); cases (show u = .bl i from h2); exact same_flat (d := .bl i) T rfl q
      | int i => cases (show x = .int i from h1); cases (show u = .int i from h2); exact same_flat (d := .int i) T rfl q
      | str i => cases (show x = .str i from h1); cases (show u = .str i from h2); exact same_flat (d := .str i) T rfl q
  | n + 1 => by
    have IH := ok_same F T T2 mf bd n
    refine F.ok scSame (fun vs H Q E h => ?_) (fun cdv A outer s H vs Q E hr h => ?_)
    · obtain ⟨x, u, d, rfl, _⟩ := h
      rfl
    · obtain ⟨x, u, d, rfl, h1, h2, q⟩ := h
      cases d with
      | lst ds =>
        obtain ⟨p1, xs, rfl, l1, a1, r1⟩ := h1
        obtain ⟨p2, ys, rfl, _, a2, r2⟩ := h2
        exact same_seq T T2 ⟨IH, mf, F.kp, bd⟩ hr false (.lst a1) (.lst a2) rfl (SqL.of a1) (SqL.of a2) (by rw [sizeLine_eq]; omega) r1 r2 q
      | tup ds =>
        obtain ⟨p1, xs, rfl, l1, a1, r1⟩ := h1
        obtain ⟨p2, ys, rfl, _, a2, r2⟩ := h2
        exact same_seq T T2 ⟨IH, mf, F.kp, bd⟩ hr true (.tup a1) (.tup a2) rfl (SqT.of a1) (SqT.of a2) (by rw [sizeLine_eq]; omega) r1 r2 q
      | non => cases (show x = .non from h1); cases (show u = .non from h2); exact same_flat (d := .non) T rfl q
      | bl i => cases (show x = .bl i from h1); cases (show u = .bl i from h2); exact same_flat (d := .bl i) T rfl q
      | int i => cases (show x = .int i from h1); cases (show u = .int i from h2); exact same_flat (d := .int i) T rfl q
      | str i => cases (show x = .str i from h1); cases (show u = .str i from h2); exact same_flat (d := .str i) T rfl q
end
end K58
set_option Elab.async false
set_option linter.all false
set_option maxRecDepth 100000
set_option maxHeartbeats 400000
namespace K58
open PySem L2 PyProof.Rows
def spPO (K : PySem.W.Frag) : Sp := fun vs H Q _ => ∃ (c : Addr) (b : Bool) (as : List Addr) (gs : List Gp), vs = [.ref c] ∧ SqB b K H c (as.map V.ref) ∧ GrpsAt H as gs ∧ GOk gs ∧ gs.length ≤ 100 ∧
  ∀ (l : Addr) (bs : List Addr) (ks : List (List Int)) (H' : Hp), H l = none → H' l = some (.lst (bs.map V.ref)) → TupsAt H' bs ks → ks.Nodup → ks.Pairwise (fun x y => Srt.lexlt y x = false) → (∀ k, k ∈ ks ↔ isPair gs k) → Same H H' → Q (.ref l) H'
def SetIs (P : Program) (w : World) (D : Addr) (H : Hp) (S : List Int → Prop) : Prop := ∃ qs ks, H D = some (setG P w D qs ks) ∧ TupsAt H qs ks ∧ ks.Nodup ∧ ∀ k, k ∈ ks ↔ S k
theorem SetIs.iff {P : Program} {w : World} {D : Addr} {H : Hp} {S S' : List Int → Prop} (h : SetIs P w D H S) (e : ∀ k, S k ↔ S' k) : SetIs P w D H S' := by
  obtain ⟨qs, ks, h1, h2, h3, h4⟩ := h
  exact ⟨qs, ks, h1, h2, h3, fun k => (h4 k).trans (e k)⟩
theorem SetIs.few {P : Program} {w : World} {D : Addr} {H : Hp} {S : List Int → Prop} {qs : List Addr} {ks : List (List Int)} (nd : ks.Nodup) (m : ∀ k, k ∈ ks ↔ S k) (sub : ∀ k, S k → k ∈ allP) : ks.length ≤ 435 := by
  have := nodup_le nd fun k hk => sub k ((m k).mp hk)
  rwa [allP_len] at this
theorem emit_ok {P : Program} {w : World} {D l : Addr} {H G : Hp} {S : List Int → Prop} {a b : Int} (h : SetIs P w D G S) (sub : ∀ k, S k → k ∈ allP) (hD : H D = none) (s : Same H G) (hl : G l = none) {Q : Hp → Prop}
    (q : ∀ G', SetIs P w D G' (fun k => S k ∨ k = [a, b]) → Same H G' → Q G') : ∃ qs ks q k, (upd G l (.tup [.int a, .int b])) D = some (setG P w D qs ks) ∧ TupsAt (upd G l (.tup [.int a, .int b])) qs ks ∧ ks.Nodup ∧ ks.length ≤ 600 ∧ V.ref l = .ref q ∧ (upd G l (.tup [.int a, .int b])) q = some (.tup (List.map V.int k)) ∧
      ∀ qs' ks', (∀ x, x ∈ ks' ↔ x = k ∨ x ∈ ks) → ks'.Nodup → TupsAt (upd G l (.tup [.int a, .int b])) qs' ks' → Q (upd (upd G l (.tup [.int a, .int b])) D (setG P w D qs' ks')) := by
  obtain ⟨qs, ks, h1, h2, h3, h4⟩ := h
  have sl : Same G (upd G l (.tup [.int a, .int b])) := Same.new hl
  have few := SetIs.few (P := P) (w := w) (D := D) (H := G) (qs := qs) h3 h4 sub
  refine ⟨qs, ks, l, [a, b], sl _ _ h1, Paired.mapP h2 fun a k e => sl _ _ e, h3, by omega, rfl, upd_same, fun qs' ks' m nd tq => q _ ⟨qs', ks', upd_same, Paired.mapP tq fun x k e => ?_, nd, fun k => ?_⟩ fun x o e => ?_⟩
  · have ne : x ≠ D := fun z => by
      rw [z, sl _ _ h1] at e
      cases e
    rw [upd_ne ne]
    exact e
  · rw [m k, h4 k]
    exact Or.comm
  · rw [upd_ne (ne_of_none e hD)]
    exact sl _ _ (s _ _ e)
section
variable {P : Program} {w : World} {K : PySem.W.Frag} {mg : Str → Option Value} {base : Heap}
theorem scPO : FnScope ["groups"] ["groups"] (defScope sPairsOf) := ⟨rfl, rfl, rfl, by decide +kernel, rfl, by decide +kernel, by decide +kernel⟩
theorem csPO : CompScope ["group", "a", "b"] [none, none, none] ["groups"] (defScope sPairsOf) (scO [(".0", .local), ("group", .local), ("a", .local), ("b", .local)]) := ⟨rfl, by decide +kernel, by decide +kernel, by decide +kernel, rfl, capB_ok (by decide +kernel)⟩
theorem ndPO : (["group", "a", "b"] : List Str).Nodup := by decide +kernel
theorem ok_pairs {f : Addr} {fd : FuncData} (F : Fun K "pairs_of" "pairs_of" sPairsOf f fd) (T : Txt mg) : FnOk P w K mg base CX0 1 f fd ["groups"] (spPO K) := by
  refine F.ok scPO (fun vs H Q E h => ?_) (fun cdv A outer s H vs Q E hr h => ?_)
  · obtain ⟨c, b, as, gs, rfl, _⟩ := h
    rfl
  · obtain ⟨c, b, as, gs, rfl, hc, hg, ok, gl, q⟩ := h
    refine ⟨_, pss_one (ps_ret (pe_callB call_sortedG (by rfl) T.sorted boot_sorted (@pa_scomp _ _ _ _ _ _ _ _ (pe_scompN rfl csPO (pi_any (pv 0)) (fun C s H fp => pg_name (i := 0) ndPO rfl (Or.inl rfl)) (fun C s H fp => pf_nil)
      (fun C s H fp D => pn_more (fun _ _ h => h) rfl rfl rfl (pi_anyK K rfl (pv 0)) (pg_name (i := 1) ndPO rfl (Or.inl rfl)) pf_nil
        (pn_lastP P w rfl rfl (fun _ _ h => h) rfl (Nat.lt_of_le_of_lt (Nat.add_le_add_left (by decide : 1 ≤ 64) _) hr.units) rfl rfl (pi_anyK K rfl (pv 0)) (pg_name (i := 2) ndPO rfl (Or.inl rfl)) (pf_one (pt_cmpR op_lt (pv 1) (pv 2) (nomark _)))
          (@pe_tup _ _ _ _ _ (@pa_nam _ _ _ _ _ _ (pv 1) (@pa_nam _ _ _ _ _ _ (pv 2) pa_nil)))))
      (fun C s H fp x => rfl)) pa_nil))), ?_⟩
    refine ⟨_, rfl, c, b, rfl, ⟨_, hc⟩, fun D hD => ?_⟩
    have la : as.length = gs.length := Paired.length hg
    refine seq_loop (b := b) (K := K) (a := c) (xs := as.map V.ref) (fun i G => SetIs P w D G (isPair (gs.take i)) ∧ Same H G) ⟨⟨[], [], upd_same, .nil, List.nodup_nil, fun k => ?_⟩, Same.new hD⟩ (fun i G _ z => z.2.seqB hc) ?_ ?_
    · rw [List.take_zero]
      exact ⟨(fun h => nomatch h), (fun ⟨g, hg, _⟩ => nomatch hg)⟩
    · rintro i x G hx ⟨SG, sG⟩
      obtain ⟨il, e⟩ := List.getElem?_eq_some_iff.mp hx
      rw [List.length_map] at il
      rw [List.getElem_map] at e
      subst e
      have ig : i < gs.length := by omega
      have gi : SeqIs gs[i].1 H as[i] (gs[i].2.map V.int) := Paired.at hg i il ig
      have oi := (ok gs[i] (List.getElem_mem ig)).2
      have sub0 : ∀ k, isPair (gs.take i) k → k ∈ allP := fun k ⟨g, hg, r⟩ => pair_all ok ⟨g, List.mem_of_mem_take hg, r⟩
      have ext : ∀ k, isPair (gs.take (i + 1)) k ↔ isPair (gs.take i) k ∨ ∃ a ∈ gs[i].2, ∃ b ∈ gs[i].2, a < b ∧ k = [a, b] := fun k => by
        unfold isPair
        rw [List.take_succ_eq_append_getElem ig]
        constructor
        · rintro ⟨g, hg, r⟩
          rcases List.mem_append.mp hg with h | h
          · exact .inl ⟨g, h, r⟩
          · rw [List.mem_singleton.mp h] at r
            exact .inr r
        · rintro (⟨g, hg, r⟩ | r)
          · exact ⟨g, List.mem_append_left _ hg, r⟩
          · exact ⟨_, List.mem_append_right _ (List.mem_singleton.mpr rfl), r⟩
      generalize gs[i] = gr at gi oi ext
      refine ⟨trivial, tTru_if ?_⟩
      refine ⟨_, rfl, as[i], gr.1, rfl, ⟨_, (gi.same sG).sqB⟩, ?_⟩
      refine seq_loop (b := gr.1) (K := K) (a := as[i]) (xs := gr.2.map V.int) (fun j G => SetIs P w D G (fun k => isPair (gs.take i) k ∨ ∃ a ∈ gr.2.take j, ∃ b ∈ gr.2, a < b ∧ k = [a, b]) ∧ Same H G) ⟨SG.iff fun k => ?_, sG⟩ (fun j G _ z => (gi.same z.2).sqB) ?_ ?_
      · rw [List.take_zero]
        exact ⟨.inl, fun h => h.elim id fun ⟨a, ha, _⟩ => nomatch ha⟩
      · rintro j x G2 hx ⟨SG2, sG2⟩
        obtain ⟨jl, e⟩ := List.getElem?_eq_some_iff.mp hx
        rw [List.length_map] at jl
        rw [List.getElem_map] at e
        subst e
        have oj := oi _ (List.getElem_mem jl)
        have sub1 : ∀ k, (isPair (gs.take i) k ∨ ∃ a ∈ gr.2.take j, ∃ b ∈ gr.2, a < b ∧ k = [a, b]) → k ∈ allP := fun k h => by
          rcases h with h | ⟨a, ha, b, hb, lt, rfl⟩
          · exact sub0 k h
          · exact mem_allP (oi a (List.mem_of_mem_take ha)).1 lt (oi b hb).2
        have ext1 : ∀ k, (isPair (gs.take i) k ∨ ∃ a ∈ gr.2.take (j + 1), ∃ b ∈ gr.2, a < b ∧ k = [a, b]) ↔ ((isPair (gs.take i) k ∨ ∃ a ∈ gr.2.take j, ∃ b ∈ gr.2, a < b ∧ k = [a, b]) ∨ ∃ b ∈ gr.2, gr.2[j] < b ∧ k = [gr.2[j], b]) := fun k => by
          rw [List.take_succ_eq_append_getElem jl]
          constructor
          · rintro (h | ⟨a, ha, r⟩)
            · exact .inl (.inl h)
            · rcases List.mem_append.mp ha with h | h
              · exact .inl (.inr ⟨a, h, r⟩)
              · rw [List.mem_singleton.mp h] at r
                exact .inr r
          · rintro ((h | ⟨a, ha, r⟩) | r)
            · exact .inl h
            · exact .inr ⟨a, List.mem_append_left _ ha, r⟩
            · exact .inr ⟨_, List.mem_append_right _ (List.mem_singleton.mpr rfl), r⟩
        generalize gr.2[j] = aj at oj ext1
        obtain ⟨S1, eS⟩ : ∃ S1 : List Int → Prop, ∀ k, S1 k ↔ (isPair (gs.take i) k ∨ ∃ a ∈ gr.2.take j, ∃ b ∈ gr.2, a < b ∧ k = [a, b]) := ⟨_, fun _ => Iff.rfl⟩
        have SG2 : SetIs P w D G2 S1 := SG2.iff fun k => (eS k).symm
        have sub1 : ∀ k, S1 k → k ∈ allP := fun k h => sub1 k ((eS k).mp h)
        have ext1 : ∀ k, (isPair (gs.take i) k ∨ ∃ a ∈ gr.2.take (j + 1), ∃ b ∈ gr.2, a < b ∧ k = [a, b]) ↔ (S1 k ∨ ∃ b ∈ gr.2, aj < b ∧ k = [aj, b]) := fun k => by rw [eS k]; exact ext1 k
        refine ⟨⟨rfl, trivial⟩, tTru_if ?_⟩
        refine ⟨_, rfl, as[i], gr.1, rfl, ⟨_, (gi.same sG2).sqB⟩, ?_⟩
        refine seq_loop (b := gr.1) (K := K) (a := as[i]) (xs := gr.2.map V.int) (fun m G => SetIs P w D G (fun k => S1 k ∨ ∃ b ∈ gr.2.take m, aj < b ∧ k = [aj, b]) ∧ Same H G) ⟨SG2.iff fun k => ?_, sG2⟩ (fun m G _ z => (gi.same z.2).sqB) ?_ ?_
        · rw [List.take_zero]
          exact ⟨.inl, fun h => h.elim id fun ⟨a, ha, _⟩ => nomatch ha⟩
        · rintro m x G3 hx ⟨SG3, sG3⟩
          obtain ⟨ml, e⟩ := List.getElem?_eq_some_iff.mp hx
          rw [List.length_map] at ml
          rw [List.getElem_map] at e
          subst e
          have om := oi _ (List.getElem_mem ml)
          have sub2 : ∀ k, (S1 k ∨ ∃ b ∈ gr.2.take m, aj < b ∧ k = [aj, b]) → k ∈ allP := fun k h => by
            rcases h with h | ⟨b, hb, lt, rfl⟩
            · exact sub1 k h
            · exact mem_allP oj.1 lt (oi b (List.mem_of_mem_take hb)).2
          have ext2 : ∀ k, (S1 k ∨ ∃ b ∈ gr.2.take (m + 1), aj < b ∧ k = [aj, b]) ↔ ((S1 k ∨ ∃ b ∈ gr.2.take m, aj < b ∧ k = [aj, b]) ∨ (aj < gr.2[m] ∧ k = [aj, gr.2[m]])) := fun k => by
            rw [List.take_succ_eq_append_getElem ml]
            constructor
            · rintro (h | ⟨b, hb, r⟩)
              · exact .inl (.inl h)
              · rcases List.mem_append.mp hb with h | h
                · exact .inl (.inr ⟨b, h, r⟩)
                · rw [List.mem_singleton.mp h] at r
                  exact .inr r
            · rintro ((h | ⟨b, hb, r⟩) | r)
              · exact .inl h
              · exact .inr ⟨b, List.mem_append_left _ hb, r⟩
              · exact .inr ⟨_, List.mem_append_right _ (List.mem_singleton.mpr rfl), r⟩
          generalize gr.2[m] = bm at om ext2
          obtain ⟨S2, eS⟩ : ∃ S2 : List Int → Prop, ∀ k, S2 k ↔ (S1 k ∨ ∃ b ∈ gr.2.take m, aj < b ∧ k = [aj, b]) := ⟨_, fun _ => Iff.rfl⟩
          have SG3 : SetIs P w D G3 S2 := SG3.iff fun k => (eS k).symm
          have sub2 : ∀ k, S2 k → k ∈ allP := fun k h => sub2 k ((eS k).mp h)
          have ext2 : ∀ k, (S1 k ∨ ∃ b ∈ gr.2.take (m + 1), aj < b ∧ k = [aj, b]) ↔ (S2 k ∨ (aj < bm ∧ k = [aj, bm])) := fun k => by rw [eS k]; exact ext2 k
          refine ⟨⟨rfl, rfl, trivial⟩, _, rfl, _, rfl, aj, bm, rfl, rfl, _, rfl, ?_⟩
          refine ite2 (fun lt => ?_) (fun nl => ?_)
          · have lt := of_decide_eq_true lt
            refine ⟨_, rfl, _, rfl, (by show 2 ≤ sizeLine; decide), fun l hl => ?_⟩
            refine emit_ok (a := aj) (b := bm) (Q := fun G => SetIs P w D G (fun k => S1 k ∨ ∃ b ∈ gr.2.take (m + 1), aj < b ∧ k = [aj, b]) ∧ Same H G) SG3 sub2 hD sG3 hl fun G' SG' sG' => ⟨SG'.iff fun k => ?_, sG'⟩
            rw [ext2 k]
            exact ⟨fun h => h.imp id fun e => ⟨lt, e⟩, fun h => h.imp id fun e => e.2⟩
          · have nl : ¬ aj < bm := fun h => nl (decide_eq_true h)
            refine ⟨SG3.iff fun k => ?_, sG3⟩
            rw [ext2 k]
            exact ⟨.inl, fun h => h.elim id fun e => absurd e.1 nl⟩
        · rintro G3 ⟨SG3, sG3⟩
          refine ⟨SG3.iff fun k => ?_, sG3⟩
          rw [ext1 k, List.take_of_length_le (l := gr.2) (by rw [List.length_map]; exact Nat.le_refl _)]
      · rintro G2 ⟨SG2, sG2⟩
        refine ⟨SG2.iff fun k => ?_, sG2⟩
        rw [ext k, List.take_of_length_le (l := gr.2) (by rw [List.length_map]; exact Nat.le_refl _)]
    · rintro G ⟨⟨qs, ks, g1, g2, g3, g4⟩, sG⟩
      rw [List.length_map, la, List.take_length] at g4
      have few := SetIs.few (P := P) (w := w) (D := D) (H := G) (qs := qs) g3 g4 fun k h => pair_all ok h
      have lq := tups_len g2
      refine ⟨D, _, qs, ks, rfl, g1, setG_raw, g2, hr.hd, fun k hk => ?_, by omega, fun l bs ns hl pn pw tb => ?_⟩
      · obtain ⟨_, _, a, _, b, _, _, rfl⟩ := (g4 k).mp hk
        exact fun z => nomatch z
      · have sl := Same.new (o := .lst (bs.map V.ref)) hl
        refine q l bs ns _ ?_ upd_same (Paired.mapP tb fun a k e => sl _ _ e) (pn.nodup_iff.mpr g3) pw (fun k => pn.mem_iff.trans (g4 k)) (sG.trans sl)
        cases e : H l with
        | none => rfl
        | some o => rw [sG _ _ e] at hl; cases hl
end
end K58
set_option Elab.async false
set_option linter.all false
set_option maxRecDepth 100000
set_option maxHeartbeats 400000
namespace L2
open PySem
theorem Paired.appP {α β : Type} {F : α → β → Prop} : ∀ {l₁ m₁ : List α} {l₂ m₂ : List β}, Paired F l₁ l₂ → Paired F m₁ m₂ → Paired F (l₁ ++ m₁) (l₂ ++ m₂)
  | _, _, _, _, .nil, r => r
  | _, _, _, _, .cons h t, r => .cons h (Paired.appP t r)
end L2
namespace K58
open PySem L2 PyProof.Rows
def pB (gs : List Gp) (k : List Int) : Bool := match k with
  | [a, b] => gs.any fun g => g.2.contains a && g.2.contains b
  | _ => false
def row (a : Nat) : List (List Int) := (List.range (29 - a)).map fun (j : Nat) => [(a : Int), (a : Int) + 1 + (j : Int)]
def dueU (gs : List Gp) (i j : Nat) : List (List Int) := ((List.range i).flatMap row ++ (row i).take j).filter (pB gs)
theorem dueU_in {gs : List Gp} {i j : Nat} (h : j < 29 - i) : dueU gs i (j + 1) = dueU gs i j ++ (if pB gs [(i : Int), (i : Int) + 1 + (j : Int)] = true then [[(i : Int), (i : Int) + 1 + (j : Int)]] else []) := by
  have l : j < (row i).length := by unfold row; rw [List.length_map, List.length_range]; exact h
  have e : (row i)[j] = [(i : Int), (i : Int) + 1 + (j : Int)] := by simp only [row, List.getElem_map, List.getElem_range]
  unfold dueU
  rw [List.take_succ_eq_append_getElem l, ← List.append_assoc, List.filter_append, e]
  congr 1
  rw [List.filter_cons, List.filter_nil]
theorem dueU_out {gs : List Gp} {i : Nat} : dueU gs i (29 - i) = dueU gs (i + 1) 0 := by
  unfold dueU
  rw [List.take_zero, List.append_nil, List.range_succ, List.flatMap_append, List.flatMap_singleton]
  rw [List.take_of_length_le (by unfold row; rw [List.length_map, List.length_range]; exact Nat.le_refl _)]
def dueL (gs : List Gp) : List (List Int) := dueU gs 30 0
def spDue : Sp := fun vs H Q _ => ∃ (c : Addr) (as : List Addr) (gs : List Gp), vs = [.ref c] ∧ H c = some (.lst (as.map V.ref)) ∧ GrpsAt H as gs ∧ GOk gs ∧ gs.length ≤ 100 ∧
  ∀ (l : Addr) (bs : List Addr) (H' : Hp), H l = none → H' l = some (.lst (bs.map V.ref)) → TupsAt H' bs (dueL gs) → Same H H' → Q (.ref l) H'
structure DI (H : Hp) (lo : Addr) (gs : List Gp) (i j : Nat) (G : Hp) : Prop where
  get : ∃ bs : List Addr, G lo = some (.lst (bs.map V.ref)) ∧ TupsAt G bs (dueU gs i j)
  sam : Same H G
theorem pB_any (gs : List Gp) (x y : Int) : (gs.map fun g => g.2.contains x && g.2.contains y).any id = pB gs [x, y] := by
  rw [List.any_map]
  rfl
theorem dueU_le (gs : List Gp) {i j : Nat} (h : i ≤ 30) : (dueU gs i j).length ≤ 1000 := by
  have h1 : (dueU gs i j).length ≤ ((List.range i).flatMap row ++ (row i).take j).length := List.length_filter_le ..
  have h2 : ((List.range i).flatMap row).length ≤ i * 29 := by
    rw [List.length_flatMap]
    have key : ∀ l : List Nat, (l.map fun a => (row a).length).sum ≤ l.length * 29 := by
      intro l
      induction l with
      | nil => exact Nat.le_refl _
      | cons a l ih =>
        rw [List.map_cons, List.sum_cons, List.length_cons]
        have : (row a).length ≤ 29 := by unfold row; rw [List.length_map, List.length_range]; omega
        omega
    have := key (List.range i)
    rwa [List.length_range] at this
  have h3 : ((row i).take j).length ≤ 29 := by
    rw [List.length_take]
    unfold row
    rw [List.length_map, List.length_range]
    omega
  rw [List.length_append] at h1
  omega
section
variable {P : Program} {w : World} {K : PySem.W.Frag} {mg : Str → Option Value} {base : Heap}
abbrev nDue : List Str := ["_law_groups", "_law_found", "_law_a", "_law_b"]
theorem scDue : FnScope nDue ["_law_groups"] (defScope sDue) := ⟨rfl, rfl, rfl, by decide +kernel, rfl, by decide +kernel, by decide +kernel⟩
theorem csDue : CompScope ["_law_group_here", "_law_a", "_law_b"] [none, some 2, some 3] nDue (defScope sDue) (scO [(".0", .local), ("_law_group_here", .local), ("_law_a", .free), ("_law_b", .free)]) := ⟨rfl, by decide +kernel, by decide +kernel, by decide +kernel, rfl, capB_ok (by decide +kernel)⟩
theorem ndDue : (["_law_group_here", "_law_a", "_law_b"] : List Str).Nodup := by decide +kernel
theorem ok_due {f : Addr} {fd : FuncData} (F : Fun K "_law_due" "_law_due" sDue f fd) (T : Txt mg) (T2 : Txt2 mg) : FnOk P w K mg base CX0 1 f fd ["_law_groups"] spDue := by
  refine F.ok scDue (fun vs H Q E h => ?_) (fun cdv A outer s H vs Q E hr h => ?_)
  · obtain ⟨c, as, gs, rfl, _⟩ := h
    rfl
  · obtain ⟨c, as, gs, rfl, hc, hg, ok, gl, q⟩ := h
    refine ⟨_, pss_cons (ps_set (i := 1) scDue.nd rfl (Or.inl rfl) (@pe_lst _ _ _ _ pa_nil))
      (pss_cons (ps_for PassesOwn.never rfl (pi_range1 rfl T.range (@pa_cst _ _ _ _ _ _ _ pe_int pa_nil)) (pg_name (i := 2) scDue.nd rfl (Or.inr rfl))
        (pss_one (ps_for PassesOwn.never rfl (pi_range2 rfl T.range (@pa_bin _ _ _ _ _ _ _ _ (pe_op op_add (pv 2) pe_int) (@pa_cst _ _ _ _ _ _ _ pe_int pa_nil))) (pg_name (i := 3) scDue.nd rfl (Or.inr rfl))
          (pss_one (ps_if (pt_val (pe_callB (call_any rfl) (by rfl) T2.any boot_any (@pa_comp _ _ _ _ _ _ _ _ (pe_comp rfl csDue (pi_list (pv 0)) (fun C s H fp => pg_name (i := 0) ndDue rfl (Or.inl rfl)) (fun C s H fp => pf_nil)
            (fun C s H fp => pe_and (pe_cmpR (op_inK K rfl) (pv 1) (pv 0) rfl) (pe_one (pe_cmpR (op_inK K rfl) (pv 2) (pv 0) rfl)))) pa_nil)))
            (pss_one (ps_expr (pe_bm PySem.F.plainAttrs_list PySem.F.slot_list_append PySem.F.type_list_append mt_append (pv 1) (@pa_tup _ _ _ _ _ _ _ (@pe_tup _ _ _ _ _ (@pa_nam _ _ _ _ _ _ (pv 2) (@pa_nam _ _ _ _ _ _ (pv 3) pa_nil))) pa_nil)))) pss_nil)))))
      (pss_one (ps_ret (pv 1)))), ?_⟩
    refine ⟨(by show 0 ≤ sizeLine; decide), fun lo hlo => ?_⟩
    have la : as.length = gs.length := Paired.length hg
    refine ⟨30, rfl, by decide, by decide, ?_⟩
    refine for_range (lo := 0) (n := 30) (fun i σ G => ∃ v2 v3, σ = [some (.ref c), some (.ref lo), v2, v3] ∧ DI H lo gs i 0 G) ⟨_, _, rfl, ⟨⟨[], upd_same, .nil⟩, Same.new hlo⟩⟩ ?_ ?_
    · rintro i σ G1 hi ⟨v2, v3, rfl, D1⟩
      rw [show (0 : Int) + (i : Int) = i from Int.zero_add _]
      refine ⟨_, rfl, _, _, rfl, rfl, _, _, rfl, ⟨by omega, by omega, by omega, by omega⟩, ?_⟩
      rw [show ((30 : Int) - ((i : Int) + 1)).toNat = 29 - i by omega]
      refine for_range (lo := (i : Int) + 1) (n := 29 - i) (fun j σ G => ∃ v3, σ = [some (.ref c), some (.ref lo), some (.int i), v3] ∧ DI H lo gs i j G) ⟨_, rfl, D1⟩ ?_ ?_
      · clear D1
        rintro j σ G2 hj ⟨v3, rfl, D⟩
        obtain ⟨⟨bs, g1, g2⟩, sG⟩ := D
        refine ⟨_, rfl, c, rfl, ⟨_, SqL.of (sG _ _ hc)⟩, ?_⟩
        refine comp_list (K := K) (a := c) (xs := as.map V.ref) (fun k ys G => Same G2 G ∧ ys = ((gs.take k).map fun g => g.2.contains (i : Int) && g.2.contains ((i : Int) + 1 + (j : Int))).map V.bl) (by rw [List.length_map, sizeLine_eq]; omega) ⟨Same.refl _, rfl⟩ (fun k ys G _ z => SqL.of (z.1 _ _ (sG _ _ hc))) ?_ ?_
        · rintro k x ys G hx ⟨sm, rfl⟩
          obtain ⟨il, e⟩ := List.getElem?_eq_some_iff.mp hx
          rw [List.length_map] at il
          rw [List.getElem_map] at e
          subst e
          have ik : k < gs.length := by omega
          have gk : SeqIs gs[k].1 G as[k] (gs[k].2.map V.int) := (Paired.at hg k il ik).same (sG.trans sm)
          have ext : ∀ b, (gs[k].2.contains (i : Int) && gs[k].2.contains ((i : Int) + 1 + (j : Int))) = b → ((gs.take k).map fun g => g.2.contains (i : Int) && g.2.contains ((i : Int) + 1 + (j : Int))).map V.bl ++ [V.bl b] = ((gs.take (k + 1)).map fun g => g.2.contains (i : Int) && g.2.contains ((i : Int) + 1 + (j : Int))).map V.bl := fun b e => by
            rw [List.take_succ_eq_append_getElem ik, List.map_append, List.map_append, List.map_cons, List.map_cons, e]
            rfl
          refine ⟨⟨rfl, rfl, trivial⟩, tTru_if ?_⟩
          refine ⟨_, rfl, _, rfl, as[k], _, rfl, gk.or, rfl, flat_ints _, _, rfl, ?_⟩
          show (if inV (V.int (i : Int)) (gs[k].2.map V.int) = true then _ else _)
          rw [inV_ints]
          refine ite2 (fun h1 => ?_) (fun h1 => ?_)
          · refine ⟨_, rfl, _, rfl, as[k], _, rfl, gk.or, rfl, flat_ints _, sm, ?_⟩
            show _ ++ [V.bl (inV (V.int ((i : Int) + 1 + (j : Int))) (gs[k].2.map V.int))] = _
            rw [inV_ints]
            exact ext _ (by rw [h1]; rfl)
          · exact ⟨sm, ext _ (by rw [Bool.eq_false_iff.mpr h1]; rfl)⟩
        · rintro ys G _ ⟨sm, rfl⟩ d hd
          rw [List.length_map, la, List.take_length]
          have sd := Same.new (o := .lst (((gs.map fun g => g.2.contains (i : Int) && g.2.contains ((i : Int) + 1 + (j : Int)))).map V.bl)) hd
          refine ⟨d, _, rfl, SqL.of upd_same, _, rfl, ?_⟩
          rw [pB_any]
          have s2 := sm.trans sd
          have g1' := s2 _ _ g1
          have g2' : TupsAt _ bs (dueU gs i j) := Paired.mapP g2 fun a k e => s2 _ _ e
          have sH := sG.trans s2
          have lod : H d = none := by
            cases e : H d with
            | none => rfl
            | some o => rw [sm _ _ (sG _ _ e)] at hd; cases hd
          generalize upd G d _ = G3 at s2 g1' g2' sH
          have lb : bs.length = (dueU gs i j).length := tups_len g2
          have le := dueU_le gs (i := i) (j := j) (by omega)
          refine ite2 (fun h1 => ?_) (fun h1 => ?_)
          · refine ⟨_, rfl, .inl ⟨rfl, _, SqL.of g1'⟩, _, rfl, _, rfl, (by show 2 ≤ sizeLine; decide), fun tt htt => ?_⟩
            have st := Same.new (o := .tup [.int (i : Int), .int ((i : Int) + 1 + (j : Int))]) htt
            refine ⟨lo, _, _, rfl, rfl, st _ _ g1', by rw [List.length_map, sizeLine_eq]; omega, _, rfl, ⟨bs ++ [tt], ?_, ?_⟩, fun b o e => ?_⟩
            · rw [upd_same, List.map_append]
              rfl
            · rw [dueU_in hj, if_pos h1]
              have ne : ∀ a (k : List Int), (upd G3 tt (.tup [.int (i : Int), .int ((i : Int) + 1 + (j : Int))])) a = some (.tup (k.map V.int)) → a ≠ lo := fun a k e z => by
                rw [z, st _ _ g1'] at e
                cases e
              refine Paired.appP (Paired.mapP g2' fun a k e => ?_) (.cons ?_ .nil)
              · have e' := st _ _ e
                rw [upd_ne (ne a k e')]
                exact e'
              · have e' : (upd G3 tt (.tup [.int (i : Int), .int ((i : Int) + 1 + (j : Int))])) tt = some (.tup (List.map V.int [(i : Int), (i : Int) + 1 + (j : Int)])) := upd_same
                rw [upd_ne (ne tt _ e')]
                exact e'
            · rw [upd_ne (ne_of_none e hlo)]
              exact st _ _ (sH _ _ e)
          · refine ⟨_, rfl, ⟨bs, g1', ?_⟩, sH⟩
            rw [dueU_in hj, if_neg h1, List.append_nil]
            exact g2'
      · rintro σ G2 ⟨v3, rfl, ⟨g, sG⟩⟩
        rw [dueU_out] at g
        exact ⟨_, _, rfl, ⟨g, sG⟩⟩
    · rintro σ G ⟨v2, v3, rfl, ⟨bs, g1, g2⟩, sG⟩
      exact ⟨_, rfl, q lo bs G hlo g1 g2 sG⟩
end
end K58
set_option Elab.async false
set_option linter.all false
set_option maxRecDepth 100000
set_option maxHeartbeats 400000
namespace K58
open PySem L2 PyProof.Rows Srt
theorem uniq : ∀ {l m : List (List Int)}, l.Pairwise (fun x y => lexlt x y = true) → m.Pairwise (fun x y => lexlt x y = true) → (∀ k, k ∈ l ↔ k ∈ m) → l = m
  | [], [], _, _, _ => rfl
  | [], b :: m, _, _, h => nomatch (h b).mpr (List.mem_cons_self ..)
  | a :: l, [], _, _, h => nomatch (h a).mp (List.mem_cons_self ..)
  | a :: l, b :: m, p, q, h => by
    obtain ⟨p1, p2⟩ := List.pairwise_cons.mp p
    obtain ⟨q1, q2⟩ := List.pairwise_cons.mp q
    have no : ∀ x y, lexlt x y = true → lexlt y x = true → False := fun x y h1 h2 => by
      have := lexlt_trans x y x h1 h2
      rw [lexlt_irrefl] at this
      cases this
    have e : a = b := by
      rcases List.mem_cons.mp ((h a).mp (List.mem_cons_self ..)) with e | e
      · exact e
      · rcases List.mem_cons.mp ((h b).mpr (List.mem_cons_self ..)) with z | z
        · exact z.symm
        · exact (no _ _ (q1 a e) (p1 b z)).elim
    subst e
    have un : ∀ {x : List Int} {r : List (List Int)}, (∀ y ∈ r, lexlt x y = true) → x ∉ r := fun h m => by
      have := h _ m
      rw [lexlt_irrefl] at this
      cases this
    rw [uniq p2 q2 fun k => ⟨fun hk => ?_, fun hk => ?_⟩]
    · rcases List.mem_cons.mp ((h k).mp (List.mem_cons_of_mem _ hk)) with e | e
      · rw [e] at hk
        exact (un p1 hk).elim
      · exact e
    · rcases List.mem_cons.mp ((h k).mpr (List.mem_cons_of_mem _ hk)) with e | e
      · rw [e] at hk
        exact (un q1 hk).elim
      · exact e
theorem strict {l : List (List Int)} (nd : l.Nodup) (h : l.Pairwise (fun x y => lexlt y x = false)) : l.Pairwise (fun x y => lexlt x y = true) := by
  refine (h.and nd).imp fun {x y} ⟨h1, h2⟩ => ?_
  cases e : lexlt x y with
  | true => rfl
  | false => exact absurd (lexlt_total x y e h1) h2
def allQ : List (List Int) := (List.range 30).flatMap row
theorem allQ_lt : allQ.Pairwise (fun x y => lexlt x y = true) := by decide +kernel
theorem due_eq (gs : List Gp) : dueL gs = allQ.filter (pB gs) := by
  unfold dueL dueU allQ
  rw [List.take_zero, List.append_nil]
theorem pB_iff {gs : List Gp} {x y : Int} : pB gs [x, y] = true ↔ ∃ g ∈ gs, x ∈ g.2 ∧ y ∈ g.2 := by
  show (gs.any fun g => g.2.contains x && g.2.contains y) = true ↔ _
  rw [List.any_eq_true]
  constructor
  · rintro ⟨g, hg, h⟩
    rw [Bool.and_eq_true, List.contains_iff_mem, List.contains_iff_mem] at h
    exact ⟨g, hg, h⟩
  · rintro ⟨g, hg, h⟩
    refine ⟨g, hg, ?_⟩
    rw [Bool.and_eq_true, List.contains_iff_mem, List.contains_iff_mem]
    exact h
theorem due_mem {gs : List Gp} (ok : GOk gs) (k : List Int) : k ∈ dueL gs ↔ isPair gs k := by
  rw [due_eq, List.mem_filter]
  constructor
  · rintro ⟨h1, h2⟩
    obtain ⟨a, ha, h⟩ := List.mem_flatMap.mp h1
    unfold row at h
    obtain ⟨j, hj, rfl⟩ := List.mem_map.mp h
    obtain ⟨g, hg, hx, hy⟩ := pB_iff.mp h2
    exact ⟨g, hg, _, hx, _, hy, by omega, rfl⟩
  · rintro ⟨g, hg, a, ha, b, hb, lt, rfl⟩
    have oa := (ok g hg).2 a ha
    have ob := (ok g hg).2 b hb
    refine ⟨List.mem_flatMap.mpr ⟨a.toNat, List.mem_range.mpr (by omega), ?_⟩, pB_iff.mpr ⟨g, hg, ha, hb⟩⟩
    unfold row
    refine List.mem_map.mpr ⟨(b - a - 1).toNat, List.mem_range.mpr (by omega), ?_⟩
    rw [show ((a.toNat : Nat) : Int) = a by omega, show a + 1 + (((b - a - 1).toNat : Nat) : Int) = b by omega]
theorem due_one {gs : List Gp} (ok : GOk gs) {ks : List (List Int)} (nd : ks.Nodup) (h : ks.Pairwise (fun x y => lexlt y x = false)) (m : ∀ k, k ∈ ks ↔ isPair gs k) : ks = dueL gs := by
  refine uniq (strict nd h) ?_ fun k => (m k).trans (due_mem ok k).symm
  rw [due_eq]
  exact allQ_lt.filter _
end K58
set_option Elab.async false
set_option linter.all false
set_option maxRecDepth 100000
set_option maxHeartbeats 400000
namespace K58
open PySem L2 PyProof.Rows
theorem BoxAt.same {H H' : Hp} {p : Addr} {N : Nat} (B : BoxAt H p N) (s : Same H H') : BoxAt H' p N := by
  obtain ⟨a, b, c, e, r⟩ := B
  exact ⟨a, b, c, s _ _ e, r⟩
theorem Same.kept' {p : Addr} {H H' : Hp} (s : Same H H') : Kept p H H' := fun b o _ e => s b o e
def spGrp : Sp := fun vs H Q _ => ∃ (p : Addr) (N : Nat), vs = [.ref p] ∧ BoxAt H p N ∧ N + 100 < 2 ^ 40 ∧
  ∀ (a : Addr) (g : Gp) (H' : Hp), H a = none → SeqIs g.1 H' a (g.2.map V.int) → g.2.length ≤ 20 → (∀ z ∈ g.2, 0 ≤ z ∧ z < 30) → BoxAt H' p (N + 100) → Kept p H H' → Q (.ref a) H'
section
variable {P : Program} {w : World} {K : PySem.W.Frag} {mg : Str → Option Value} {base : Heap}
abbrev nGrp : List Str := ["_law_box_here", "_law_far", "_law_found", "_law_turn", "_law_place"]
theorem scGrp : FnScope nGrp ["_law_box_here"] (defScope sGroup) := ⟨rfl, rfl, rfl, by decide +kernel, rfl, by decide +kernel, by decide +kernel⟩
theorem ok_grp {f g g2 : Addr} {fd gd d2 : FuncData} (F : Fun K "_law_group" "_law_group" sGroup f fd) (T : Txt mg) (G : TakeF P w K mg base g gd) (GM : CalF P w K mg base 2 "_law_many" ["_law_box_here", "_law_least", "_law_few", "_law_most"] spMany g2 d2) : FnOk P w K mg base CX0 3 f fd ["_law_box_here"] spGrp := by
  refine F.ok scGrp (fun vs H Q E h => ?_) (fun cdv A outer s H vs Q E hr h => ?_)
  · obtain ⟨p, N, rfl, _⟩ := h
    rfl
  · obtain ⟨p, N, rfl, B, hN, q⟩ := h
    have hr1 : Room 1 _ := hr.mono (by decide)
    refine ⟨_, pss_cons (ps_set (i := 1) scGrp.nd rfl (Or.inl rfl) (@pe_ix _ _ _ _ _ _ _ ix_list (@pe_lst _ _ _ _ (@pa_cst _ _ _ _ _ _ _ pe_int (@pa_cst _ _ _ _ _ _ _ pe_int (@pa_cst _ _ _ _ _ _ _ pe_int pa_nil)))) (pe_call G.ok hr1 rfl G.mg G.kp G.bd .nil pass0 (@pa_nam _ _ _ _ _ _ (pv 0) (@pa_cst _ _ _ _ _ _ _ pe_int pa_nil))) (fun _ _ => rfl)))
      (pss_cons (ps_set (i := 2) scGrp.nd rfl (Or.inl rfl) (@pe_lst _ _ _ _ pa_nil))
      (pss_cons (ps_for PassesOwn.never rfl (pi_range1 rfl T.range (@pa_sub _ _ _ _ _ _ _ (@pe_ix _ _ _ _ _ _ _ ix_list (@pe_lst _ _ _ _ (@pa_call _ _ _ _ _ _ _ _ (pe_call G.ok hr1 rfl G.mg G.kp G.bd .nil pass0 (@pa_nam _ _ _ _ _ _ (pv 0) (@pa_cst _ _ _ _ _ _ _ pe_int pa_nil))) (@pa_call _ _ _ _ _ _ _ _ (pe_call G.ok hr1 rfl G.mg G.kp G.bd .nil pass0 (@pa_nam _ _ _ _ _ _ (pv 0) (@pa_cst _ _ _ _ _ _ _ pe_int pa_nil)))
          (@pa_call _ _ _ _ _ _ _ _ (pe_call GM.ok hr rfl GM.mg GM.kp GM.bd .nil pass0 (@pa_nam _ _ _ _ _ _ (pv 0) (@pa_cst _ _ _ _ _ _ _ pe_int (@pa_cst _ _ _ _ _ _ _ pe_int (@pa_cst _ _ _ _ _ _ _ pe_int pa_nil))))) pa_nil)))) (pe_call G.ok hr1 rfl G.mg G.kp G.bd .nil pass0 (@pa_nam _ _ _ _ _ _ (pv 0) (@pa_cst _ _ _ _ _ _ _ pe_int pa_nil))) (fun _ _ => rfl)) pa_nil)) (pg_name (i := 3) scGrp.nd rfl (Or.inl rfl))
        (pss_cons (ps_set (i := 4) scGrp.nd rfl (Or.inl rfl) (pe_call G.ok hr1 rfl G.mg G.kp G.bd .nil pass0 (@pa_nam _ _ _ _ _ _ (pv 0) (@pa_nam _ _ _ _ _ _ (pv 1) pa_nil))))
        (pss_one (ps_if (PW.pt (pw_or (pt_cmpR op_notIn_seq (pv 4) (pv 2) rfl) (pw_or1 (pt_cmpR op_eq (pe_call G.ok hr1 rfl G.mg G.kp G.bd .nil pass0 (@pa_nam _ _ _ _ _ _ (pv 0) (@pa_cst _ _ _ _ _ _ _ pe_int pa_nil))) pe_int (nomark _)))))
          (pss_one (ps_expr (pe_bm PySem.F.plainAttrs_list PySem.F.slot_list_append PySem.F.type_list_append mt_append (pv 2) (@pa_nam _ _ _ _ _ _ (pv 4) pa_nil)))) pss_nil))))
      (pss_one (ps_ret (@pe_ix _ _ _ _ _ _ _ ix_list (@pe_lst _ _ _ _ (@pa_nam _ _ _ _ _ _ (pv 2) (@pa_call _ _ _ _ _ _ _ _ (pe_callTy call_tuple_of (by rfl) T.tuple boot_tuple (@pa_nam _ _ _ _ _ _ (pv 2) pa_nil)) pa_nil))) (pe_call G.ok hr1 rfl G.mg G.kp G.bd .nil pass0 (@pa_nam _ _ _ _ _ _ (pv 0) (@pa_cst _ _ _ _ _ _ _ pe_int pa_nil))) (fun _ _ => rfl)))))), ?_⟩
    refine ⟨(by show 3 ≤ sizeLine; decide), fun l1 hl1 => ?_⟩
    refine ⟨_, rfl, p, _, N, rfl, B.new hl1, by omega, by decide, by decide, fun z H1 z0 z1 B1 k1 => ?_⟩
    have e1 := k1 l1 _ (B.ne hl1) upd_same
    have K1 : Kept p H H1 := (Kept.new hl1).trans k1
    obtain ⟨zn, rfl⟩ : ∃ zn : Nat, z = (zn : Int) := ⟨z.toNat, by omega⟩
    have h3 : zn < 3 := by omega
    obtain ⟨far, hv, f0, f1⟩ : ∃ v : Int, [V.int 6, V.int 12, V.int 30][zn]? = some (V.int v) ∧ 0 < v ∧ v ≤ 30 := by
      match zn, h3 with
      | 0, _ => exact ⟨_, rfl, by decide, by decide⟩
      | 1, _ => exact ⟨_, rfl, by decide, by decide⟩
      | 2, _ => exact ⟨_, rfl, by decide, by decide⟩
    refine ⟨l1, _, _, _, rfl, rfl, SqL.of e1, atI_nat hv, (by show 0 ≤ sizeLine; decide), fun fo hfo => ?_⟩
    have fop : fo ≠ p := B1.ne hfo
    have hfo0 : H fo = none := K1.free B1 hfo
    have B2 := B1.new (o := .lst []) hfo
    have K2 : Kept p H (upd H1 fo (.lst [])) := K1.trans (Kept.new hfo)
    have gf : (upd H1 fo (.lst [])) fo = some (.lst (([] : List Int).map V.int)) := upd_same
    clear k1 e1 K1 B1 hl1
    generalize (upd H1 fo (.lst [])) = H2 at B2 K2 gf
    refine ⟨_, rfl, p, _, _, rfl, B2, by omega, by decide, by decide, fun c1 H3 c10 c11 B3 k3 => ?_⟩
    refine ⟨_, rfl, p, _, _, rfl, B3, by omega, by decide, by decide, fun c2 H4 c20 c21 B4 k4 => ?_⟩
    refine ⟨_, rfl, p, 0, 5, 12, _, rfl, B4, by omega, by decide, by decide, by decide, by decide, fun c3 H5 hc3 B5 k5 => ?_⟩
    refine ⟨(by show 3 ≤ sizeLine; decide), fun l2 hl2 => ?_⟩
    refine ⟨_, rfl, p, _, _, rfl, B5.new hl2, by omega, by decide, by decide, fun z H6 z0' z1' B6 k6 => ?_⟩
    have e2 := k6 l2 _ (B5.ne hl2) upd_same
    have K6 : Kept p H2 H6 := k3.trans (k4.trans (k5.trans ((Kept.new hl2).trans k6)))
    have gf6 := K6 _ _ fop gf
    have K7 := K2.trans K6
    obtain ⟨yn, rfl⟩ : ∃ yn : Nat, z = (yn : Int) := ⟨z.toNat, by omega⟩
    have h3' : yn < 3 := by omega
    obtain ⟨ct, hct, t0, t1⟩ : ∃ v : Int, [V.int c1, V.int c2, V.int c3][yn]? = some (V.int v) ∧ 0 ≤ v ∧ v ≤ 12 := by
      match yn, h3' with
      | 0, _ => exact ⟨_, rfl, c10, by omega⟩
      | 1, _ => exact ⟨_, rfl, c20, by omega⟩
      | 2, _ => exact ⟨_, rfl, by omega, by omega⟩
    refine ⟨l2, _, _, _, rfl, rfl, SqL.of e2, atI_nat hct, _, rfl, by omega, by omega, ?_⟩
    clear k3 k4 k5 k6 B3 B4 B5 e2 hl2 gf B2 K2 K6
    obtain ⟨cn, rfl⟩ : ∃ cn : Nat, ct = (cn : Int) := ⟨ct.toNat, by omega⟩
    rw [show ((cn : Int)).toNat = cn by omega]
    refine for_range (lo := 0) (n := cn) (fun i σ G => ∃ (v3 v4 : Option V) (ns : List Int), σ = [some (.ref p), some (.int far), some (.ref fo), v3, v4] ∧ BoxAt G p (N + 10 + 2 * i) ∧ Kept p H G ∧ G fo = some (.lst (ns.map V.int)) ∧ ns.length ≤ i ∧ ∀ z ∈ ns, 0 ≤ z ∧ z < 30)
      ⟨_, _, [], rfl, B6.mono (by omega), K7, gf6, Nat.le_refl _, fun z hz => nomatch hz⟩ ?_ ?_
    · rintro i σ G0 hi ⟨v3, v4, ns, rfl, B3, k3, gf, nl, nr⟩
      refine ⟨_, rfl, _, rfl, p, _, _, rfl, B3, by omega, f0, by omega, fun x G1 x0 x1 B4 k4 => ?_⟩
      have gf4 := k4 _ _ fop gf
      have fin : ∀ (G2 : Hp), Kept p H G2 → G2 fo = some (.lst (ns.map V.int)) → BoxAt G2 p (N + 10 + 2 * (i + 1)) → ∃ (v3 v4 : Option V) (ns' : List Int), ([some (.ref p), some (.int far), some (.ref fo), some (.int (0 + (i : Int))), some (.int x)] : L2.St) = [some (.ref p), some (.int far), some (.ref fo), v3, v4] ∧ BoxAt (upd G2 fo (.lst (ns.map V.int ++ [.int x]))) p (N + 10 + 2 * (i + 1)) ∧ Kept p H (upd G2 fo (.lst (ns.map V.int ++ [.int x]))) ∧ (upd G2 fo (.lst (ns.map V.int ++ [.int x]))) fo = some (.lst (ns'.map V.int)) ∧ ns'.length ≤ i + 1 ∧ ∀ z ∈ ns', 0 ≤ z ∧ z < 30 := fun G2 k5 g5 B5 => by
        refine ⟨_, _, ns ++ [x], rfl, B5.put fop, k5.put hfo0, by rw [upd_same, List.map_append]; rfl, by rw [List.length_append]; exact Nat.add_le_add_right nl 1, fun z hz => ?_⟩
        rcases List.mem_append.mp hz with h | h
        · exact nr z h
        · rw [List.mem_singleton.mp h]
          omega
      refine ⟨_, rfl, _, rfl, fo, _, rfl, .inl (SqL.of gf4), rfl, flat_ints _, _, rfl, ite2 (fun h => ?_) (fun h => ?_)⟩
      · refine iteT ⟨_, rfl, .inl ⟨rfl, _, SqL.of gf4⟩, _, rfl, fo, _, _, rfl, rfl, gf4, by rw [List.length_map, sizeLine_eq]; omega, ?_⟩
        exact fin G1 (k3.trans k4) gf4 (B4.mono (by omega))
      · refine ⟨_, rfl, p, _, _, rfl, B4, by omega, by decide, by decide, fun y G2 y0 y1 B5 k5 => ⟨rfl, _, rfl, ?_⟩⟩
        have gf5 := k5 _ _ fop gf4
        refine ite2 (fun h => ?_) (fun h => ?_)
        · refine ⟨_, rfl, .inl ⟨rfl, _, SqL.of gf5⟩, _, rfl, fo, _, _, rfl, rfl, gf5, by rw [List.length_map, sizeLine_eq]; omega, ?_⟩
          exact fin G2 (k3.trans (k4.trans k5)) gf5 (B5.mono (by omega))
        · exact ⟨_, _, ns, rfl, B5.mono (by omega), k3.trans (k4.trans k5), gf5, by omega, nr⟩
    · rintro σ G0 ⟨v3, v4, ns, rfl, B3, k3, gf, nl, nr⟩
      refine ⟨_, rfl, _, rfl, fo, _, rfl, .inl ⟨SqL.of gf, fun tp htp => ⟨(by show 2 ≤ sizeLine; decide), fun l3 hl3 => ?_⟩⟩⟩
      have tpp : tp ≠ p := B3.ne htp
      have htp0 : H tp = none := k3.free B3 htp
      have s1 := (Same.new (o := .tup (ns.map V.int)) htp).trans (Same.new (o := .lst [.ref fo, .ref tp]) hl3)
      have gt : (upd (upd G0 tp (.tup (ns.map V.int))) l3 (.lst [.ref fo, .ref tp])) tp = some (.tup (ns.map V.int)) := (Same.new hl3) _ _ upd_same
      have g3 : (upd (upd G0 tp (.tup (ns.map V.int))) l3 (.lst [.ref fo, .ref tp])) l3 = some (.lst [.ref fo, .ref tp]) := upd_same
      have l3p : l3 ≠ p := (B3.new htp).ne hl3
      have gf' := s1 _ _ gf
      generalize (upd (upd G0 tp (.tup (ns.map V.int))) l3 (.lst [.ref fo, .ref tp])) = G1 at s1 gt g3 gf'
      refine ⟨_, rfl, p, _, _, rfl, B3.same s1, by omega, by decide, by decide, fun y G2 y0 y1 B4 k4 => ?_⟩
      have g34 := k4 _ _ l3p g3
      have K4 : Kept p H G2 := k3.trans ((Same.kept' s1).trans k4)
      by_cases e : y = 0
      · subst e
        exact ⟨l3, _, _, V.ref fo, rfl, rfl, SqL.of g34, rfl, q fo (false, ns) G2 hfo0 (k4 _ _ fop gf') (by show ns.length ≤ 20; omega) nr (B4.mono (by omega)) K4⟩
      · have e : y = 1 := by omega
        subst e
        exact ⟨l3, _, _, V.ref tp, rfl, rfl, SqL.of g34, rfl, q tp (true, ns) G2 htp0 (k4 _ _ tpp gt) (by show ns.length ≤ 20; omega) nr (B4.mono (by omega)) K4⟩
end
end K58
set_option Elab.async false
set_option linter.all false
set_option maxRecDepth 100000
set_option maxHeartbeats 400000
namespace L2
open PySem PySem.W PyProof.Rows Srt
section
variable {X : Cx}
abbrev ListsAt (H : Hp) (as : List Addr) (ks : List (List Int)) : Prop := Paired (fun a k => H a = some (.lst (List.map V.int k))) as ks
def rNeLL : R2 := fun x y H Q => ∃ p q as bs ks, x = .ref p ∧ y = .ref q ∧ H p = some (.lst (List.map V.ref as)) ∧ H q = some (.lst (List.map V.ref bs)) ∧ ListsAt H as ks ∧ ListsAt H bs ks ∧ Q (.bl false) H
theorem op_neLL (hu : X.A.units + 1 < cLine) : OpR X (compareOp .NotEq) rNeLL := by
  intro pins s σ H x y v u Q I rx ry h
  obtain ⟨p, q', as, bs, ks, rfl, rfl, h1, h2, t1, t2, q⟩ := h
  cases rx
  cases ry
  obtain ⟨its, r, pl, hz⟩ := I.list (SqL.of h1)
  obtain ⟨its', r', pl', hz'⟩ := I.list (SqL.of h2)
  have er := refs_of r
  have er' := refs_of r'
  subst er er'
  have l1 : as.length = ks.length := Paired.length t1
  have l2 : bs.length = ks.length := Paired.length t2
  have hu' : X.A.units < cLine := Nat.lt_of_succ_lt hu
  refine SeqAt.RcNeAt.lists pl.isList pl'.isList (by simp only [List.size_toArray, List.length_map]; omega) hu' (e := fun j => true) (fun j h1 h2 => ?_) _ _ _ _ ?_
  · simp only [List.size_toArray, List.length_map] at h1 h2
    have a1 : H as[j] = _ := Paired.at t1 j h1 (by omega)
    have a2 : H bs[j] = _ := Paired.at t2 j h2 (by omega)
    obtain ⟨iv, rv, pv, _⟩ := I.list (SqL.of a1)
    obtain ⟨iv', rv', pv', _⟩ := I.list (SqL.of a2)
    have m1 := rv.length
    have m2 := rv'.length
    rw [List.length_map] at m1 m2
    have z : SeqAt.EqAt X.A.in1 s (.ref as[j]) (.ref bs[j]) true := by
      by_cases e : as[j] = bs[j]
      · rw [e]
        exact SeqAt.EqAt.same _
      · refine SeqAt.EqAt.of_refs e ?_
        have key := SeqAt.RcAt.lists (A := X.A.in1) (s := s) (e := fun m => decide ((ks[j]'(by omega))[m]? = (ks[j]'(by omega))[m]?)) pv.isList pv'.isList (by simp only [List.size_toArray]; omega) hu (eqAt_ints rv rv')
        rw [List.size_toArray, all_ints rv rv' rfl, decide_eq_true rfl] at key
        exact key
    simpa using z
  · rw [show (List.range (as.map Value.ref).toArray.size).all (fun _ => true) = true by simp]
    exact ⟨.bl _, H, I, rfl, q⟩
theorem call_list_ofK (K : PySem.W.Frag) (e : X.K = K) : CallR X (.type "list") (fun xs H Q => ∃ p ys, xs = [.ref p] ∧ (SqL K H p ys ∨ SqT K H p ys) ∧ ∀ l, H l = none → Q (.ref l) (upd H l (.lst ys))) := e ▸ call_list_of
end
end L2
namespace K58
open PySem L2 PyProof.Rows
theorem Kept.same {p : Addr} {H H' : Hp} (h : H p = none) (k : Kept p H H') : Same H H' := fun b o e => k b o (ne_of_none e h) e
def cuD (k : List Int) : Dt := .tup (k.map Dt.int)
theorem dat_ints {H : Hp} : ∀ l : List Int, Paired (Dat H 0) (l.map V.int) (l.map Dt.int)
  | [] => .nil
  | _ :: r => .cons rfl (dat_ints r)
theorem dat_cut {H : Hp} : ∀ {as : List Addr} {ks : List (List Int)}, TupsAt H as ks → (∀ k ∈ ks, k.length ≤ 1000) → Paired (Dat H 1) (as.map V.ref) (ks.map cuD)
  | _, _, .nil, _ => .nil
  | _, _, .cons h t, b => .cons ⟨_, _, rfl, by rw [List.length_map]; exact b _ (List.mem_cons_self ..), h, dat_ints _⟩ (dat_cut t fun k hk => b k (List.mem_cons_of_mem _ hk))
theorem due_dat {H : Hp} {gs : List Gp} (ok : GOk gs) {c : Addr} {as : List Addr} (g : H c = some (.lst (as.map V.ref))) (t : TupsAt H as (dueL gs)) : Dat H 2 (.ref c) (.lst ((dueL gs).map cuD)) := by
  have l := tups_len t
  have kl := dueU_le gs (i := 30) (j := 0) (Nat.le_refl _)
  exact ⟨c, _, rfl, by rw [List.length_map, l]; exact kl, g, dat_cut t fun k hk => by
    obtain ⟨_, _, a, _, b, _, _, rfl⟩ := (due_mem ok k).mp hk
    show 2 ≤ 1000
    decide⟩
def spLaw (K : PySem.W.Frag) : Sp := fun vs H Q _ => ∃ (a : Addr) (ns : List Int), vs = [.ref a] ∧ SqL K H a (ns.map V.int) ∧ ns.length ≤ 63 ∧ ∀ H', Q (.bl true) H'
section
variable {P : Program} {w : World} {K : PySem.W.Frag} {mg : Str → Option Value} {base : Heap}
abbrev nLaw : List Str := ["_law_script", "_law_k", "_law_box_here", "_law_turn", "_law_groups", "_law_kept", "_law_due_here", "_law_found"]
theorem scLaw : FnScope nLaw ["_law_script"] (defScope sLaw) := ⟨rfl, rfl, rfl, by decide +kernel, rfl, by decide +kernel, by decide +kernel⟩
theorem csL1 : CompScope ["_law_turn", "_law_box_here"] [none, some 2] nLaw (defScope sLaw) (scO [(".0", .local), ("_law_turn", .local), ("_law_group", .globalImplicit), ("_law_box_here", .free)]) := ⟨rfl, by decide +kernel, by decide +kernel, by decide +kernel, rfl, capB_ok (by decide +kernel)⟩
theorem ndL1 : (["_law_turn", "_law_box_here"] : List Str).Nodup := by decide +kernel
theorem csL2 : CompScope ["_law_group_here"] [none] nLaw (defScope sLaw) (scO [(".0", .local), ("_law_group_here", .local), ("list", .globalImplicit)]) := ⟨rfl, by decide +kernel, by decide +kernel, by decide +kernel, rfl, capB_ok (by decide +kernel)⟩
theorem ndL2 : (["_law_group_here"] : List Str).Nodup := by decide +kernel
structure Fs (P : Program) (w : World) (K : PySem.W.Frag) (mg : Str → Option Value) (base : Heap) (g1 g2 g3 g4 g5 g6 : Addr) (d1 d2 d3 d4 d5 d6 : FuncData) : Prop where
  box : CalF P w K mg base 2 "_law_box" ["_law_script", "_law_k"] (spBox K) g1 d1
  mny : CalF P w K mg base 2 "_law_many" ["_law_box_here", "_law_least", "_law_few", "_law_most"] spMany g2 d2
  gr : CalF P w K mg base 3 "_law_group" ["_law_box_here"] spGrp g3 d3
  due : CalF P w K mg base 1 "_law_due" ["_law_groups"] spDue g4 d4
  po : CalF P w K mg base 1 "pairs_of" ["groups"] (spPO K) g5 d5
  sm : CalF P w K mg base 3 "_law_same" ["_law_found", "_law_due_here"] (spSame 2) g6 d6
theorem lists_ok {H : Hp} {D : Addr} {as : List Addr} {gs : List Gp} {σ : L2.St} {Q : VK} (gD : H D = some (.lst (as.map V.ref))) (hg : GrpsAt H as gs) (gl : gs.length ≤ 100) (q : ∀ (l : Addr) (ls : List Addr) (G : Hp), G l = some (.lst (ls.map V.ref)) → ListsAt G ls (gs.map (·.2)) → Same H G → Q (.ref l) G) :
    compTurns (Itl K D) [none] σ H Q (gName 0) tTru (tCB (fun xs H Q => ∃ p ys, xs = [.ref p] ∧ (SqL K H p ys ∨ SqT K H p ys) ∧ ∀ l, H l = none → Q (.ref l) (upd H l (.lst ys))) (tCons (tVar 0) tNil)) := by
  have la : as.length = gs.length := Paired.length hg
  refine comp_list (K := K) (a := D) (xs := as.map V.ref) (fun k ys G => Same H G ∧ ∃ ls : List Addr, ys = ls.map V.ref ∧ ListsAt G ls ((gs.take k).map (·.2))) (by rw [List.length_map, sizeLine_eq]; omega) ⟨Same.refl _, [], rfl, .nil⟩ (fun k ys G _ z => SqL.of (z.1 _ _ gD)) ?_ ?_
  · rintro k x ys G hx ⟨sG, ls, rfl, hl⟩
    obtain ⟨il, e⟩ := List.getElem?_eq_some_iff.mp hx
    rw [List.length_map] at il
    rw [List.getElem_map] at e
    subst e
    have ik : k < gs.length := by omega
    have gk : SeqIs gs[k].1 G as[k] (gs[k].2.map V.int) := (Paired.at hg k il ik).same sG
    refine ⟨trivial, tTru_if ⟨_, rfl, as[k], _, rfl, gk.or, fun l hl2 => ?_⟩⟩
    have sl := Same.new (o := .lst (gs[k].2.map V.int)) hl2
    refine ⟨sG.trans sl, ls ++ [l], by rw [List.map_append]; rfl, ?_⟩
    rw [List.take_succ_eq_append_getElem ik, List.map_append]
    exact Paired.appP (Paired.mapP hl fun a k e => sl _ _ e) (.cons upd_same .nil)
  · rintro ys G _ ⟨sG, ls, rfl, hl⟩ D2 hD2
    rw [List.length_map, la, List.take_length] at hl
    have sl := Same.new (o := .lst (ls.map V.ref)) hD2
    exact q D2 ls _ upd_same (Paired.mapP hl fun a k e => sl _ _ e) (sG.trans sl)
theorem ok_law {f g1 g2 g3 g4 g5 g6 : Addr} {fd d1 d2 d3 d4 d5 d6 : FuncData} (F : Fun K "law" "law" sLaw f fd) (T : Txt mg) (S : Fs P w K mg base g1 g2 g3 g4 g5 g6 d1 d2 d3 d4 d5 d6) : FnOk P w K mg base CX0 4 f fd ["_law_script"] (spLaw K) := by
  refine F.ok scLaw (fun vs H Q E h => ?_) (fun cdv A outer s H vs Q E hr h => ?_)
  · obtain ⟨a, ns, rfl, _⟩ := h
    rfl
  · obtain ⟨a, ns, rfl, hS, hlen, q⟩ := h
    have hr2 : Room 2 _ := hr.mono (by decide)
    have hr1 : Room 1 _ := hr.mono (by decide)
    have hu1 : _ + 1 < cLine := Nat.lt_of_le_of_lt (Nat.add_le_add_left (by decide : 1 ≤ 64) _) hr.units
    refine ⟨_, pss_cons (ps_for PassesOwn.never rfl (pi_range1 rfl T.range (@pa_call _ _ _ _ _ _ _ _ (pe_callB (call_max2 rfl) (by rfl) T.max boot_max (@pa_cst _ _ _ _ _ _ _ pe_int (@pa_call _ _ _ _ _ _ _ _ (pe_callB (call_min2 rfl) (by rfl) T.min boot_min (@pa_call _ _ _ _ _ _ _ _ (pe_callB call_len_seq (by rfl) T.len PySem.boot_len (@pa_nam _ _ _ _ _ _ (pv 0) pa_nil)) (@pa_cst _ _ _ _ _ _ _ pe_int pa_nil))) pa_nil))) pa_nil)) (pg_name (i := 1) scLaw.nd rfl (Or.inl rfl))
      (pss_cons (ps_set (i := 2) scLaw.nd rfl (Or.inr rfl) (pe_call S.box.ok hr2 rfl S.box.mg S.box.kp S.box.bd .nil pass0 (@pa_nam _ _ _ _ _ _ (pv 0) (@pa_nam _ _ _ _ _ _ (pv 1) pa_nil))))
      (pss_cons (ps_comp (i := 4) scLaw.nd rfl (Or.inl rfl) rfl csL1 (pi_range1 rfl T.range (@pa_call _ _ _ _ _ _ _ _ (pe_call S.mny.ok hr2 rfl S.mny.mg S.mny.kp S.mny.bd .nil pass0 (@pa_nam _ _ _ _ _ _ (pv 2) (@pa_cst _ _ _ _ _ _ _ pe_int (@pa_cst _ _ _ _ _ _ _ pe_int (@pa_cst _ _ _ _ _ _ _ pe_int pa_nil))))) pa_nil)) (fun C s H fp => pg_name (i := 0) ndL1 rfl (Or.inl rfl)) (fun C s H fp => pf_nil)
        (fun C s H fp => pe_call S.gr.ok hr rfl S.gr.mg S.gr.kp S.gr.bd .nil pass0 (@pa_nam _ _ _ _ _ _ (pv 1) pa_nil)))
      (pss_cons (ps_comp (i := 5) scLaw.nd rfl (Or.inl rfl) rfl csL2 (pi_list (pv 4)) (fun C s H fp => pg_name (i := 0) ndL2 rfl (Or.inl rfl)) (fun C s H fp => pf_nil) (fun C s H fp => pe_callTy (call_list_ofK K rfl) (by rfl) T.list boot_list (@pa_nam _ _ _ _ _ _ (pv 0) pa_nil)))
      (pss_cons (ps_set (i := 6) scLaw.nd rfl (Or.inl rfl) (pe_call S.due.ok hr1 rfl S.due.mg S.due.kp S.due.bd .nil pass0 (@pa_nam _ _ _ _ _ _ (pv 4) pa_nil)))
      (pss_one (ps_for PassesOwn.never rfl (pi_range1 rfl T.range (@pa_cst _ _ _ _ _ _ _ pe_int pa_nil)) (pg_name (i := 3) scLaw.nd rfl (Or.inl rfl))
        (pss_cons (ps_set (i := 7) scLaw.nd rfl (Or.inl rfl) (pe_call S.po.ok hr1 rfl S.po.mg S.po.kp S.po.bd .nil pass0 (@pa_sub _ _ _ _ _ _ _ (@pe_ix _ _ _ _ _ _ _ ix_list (@pe_lst _ _ _ _ (@pa_nam _ _ _ _ _ _ (pv 4) (@pa_call _ _ _ _ _ _ _ _ (pe_callTy call_tuple_of (by rfl) T.tuple boot_tuple (@pa_nam _ _ _ _ _ _ (pv 4) pa_nil)) pa_nil))) (pv 3) (fun _ _ => rfl)) pa_nil)))
        (pss_cons (ps_if (PW.pt (pw_or (pt_not (pt_val (pe_call S.sm.ok hr rfl S.sm.mg S.sm.kp S.sm.bd .nil pass0 (@pa_nam _ _ _ _ _ _ (pv 7) (@pa_nam _ _ _ _ _ _ (pv 6) pa_nil)))))
          (pw_or1 (pt_cmpR (op_neLL hu1) (pe_comp rfl csL2 (pi_list (pv 4)) (fun C s H fp => pg_name (i := 0) ndL2 rfl (Or.inl rfl)) (fun C s H fp => pf_nil) (fun C s H fp => pe_callTy (call_list_ofK K rfl) (by rfl) T.list boot_list (@pa_nam _ _ _ _ _ _ (pv 0) pa_nil))) (pv 5) (nomark _))))) pss_never pss_nil)
        (pss_cons (ps_expr (pe_bm0 PySem.F.plainAttrs_list PySem.F.slot_list_reverse PySem.F.type_list_reverse mt_reverse (pv 7)))
        (pss_one (ps_expr (pe_bm PySem.F.plainAttrs_list PySem.F.slot_list_append PySem.F.type_list_append mt_append (pv 7) (@pa_tup _ _ _ _ _ _ _ (@pe_tup _ _ _ _ _ (@pa_cst _ _ _ _ _ _ _ pe_int (@pa_cst _ _ _ _ _ _ _ pe_int pa_nil))) pa_nil))))))))))))))
      (pss_one (ps_ret pe_bl)), ?_⟩
    refine ⟨_, rfl, a, _, rfl, .inl hS, _, _, rfl, _, _, rfl, _, rfl, ?_, ?_, ?_⟩
    · split <;> (try split) <;> omega
    · split <;> (try split) <;> omega
    generalize (Int.toNat _) = turns
    refine for_range (lo := 0) (n := turns) (fun i σ H' => ∃ v1 v2 v3 v4 v5 v6 v7, σ = [some (.ref a), v1, v2, v3, v4, v5, v6, v7] ∧ Same H H') ⟨_, _, _, _, _, _, _, rfl, Same.refl _⟩ ?_ ?_
    · rintro i σ H0 hi ⟨v1, v2, v3, v4, v5, v6, v7, rfl, s0⟩
      refine ⟨_, rfl, _, rfl, a, ns, 0 + i, by rw [Int.zero_add, Nat.zero_add]; rfl, s0.seq hS, fun p H1 hp B1 k1 => ?_⟩
      refine ⟨_, rfl, p, 0, 4, 9, _, rfl, B1, by omega, by decide, by decide, by decide, by decide, fun z H2 hz B2 k2 => ?_⟩
      refine ⟨_, rfl, by omega, by omega, ?_⟩
      obtain ⟨cn, rfl⟩ : ∃ cn : Nat, z = (cn : Int) := ⟨z.toNat, by omega⟩
      rw [show ((cn : Int)).toNat = cn by omega]
      have k12 := k1.trans k2
      refine comp_range (lo := 0) (n := cn) (fun j ys G => BoxAt G p (2 + 100 * j) ∧ Kept p H0 G ∧ ∃ (as : List Addr) (gs : List Gp), ys = as.map V.ref ∧ GrpsAt G as gs ∧ (∀ x ∈ as, x ≠ p) ∧ GOk gs ∧ gs.length = j) (by rw [sizeLine_eq]; omega)
        ⟨B2.mono (by omega), k12, [], [], rfl, .nil, (fun _ h => nomatch h), (fun _ h => nomatch h), rfl⟩ ?_ ?_
      · rintro j ys G hj ⟨B3, k3, as, gs, rfl, hg, ap, ok, gl⟩
        refine ⟨⟨rfl, trivial⟩, tTru_if ⟨_, rfl, p, _, rfl, B3, by omega, fun x g G2 hx gx gxl gxr B4 k4 => ?_⟩⟩
        refine ⟨B4.mono (by omega), k3.trans k4, as ++ [x], gs ++ [g], by rw [List.map_append]; rfl, ?_, ?_, ?_, by rw [List.length_append, gl]; rfl⟩
        · refine Paired.appP ?_ (.cons gx .nil)
          clear gl ok
          induction hg with
          | nil => exact .nil
          | cons r _ ih => exact .cons (SeqIs.kept r (ap _ (List.mem_cons_self ..)) k4) (ih fun x hx => ap x (List.mem_cons_of_mem _ hx))
        · intro y hy
          rcases List.mem_append.mp hy with h | h
          · exact ap y h
          · rw [List.mem_singleton.mp h]
            exact B3.ne hx
        · intro y hy
          rcases List.mem_append.mp hy with h | h
          · exact ok y h
          · rw [List.mem_singleton.mp h]
            exact ⟨gxl, gxr⟩
      · rintro ys G _ ⟨B3, k3, as, gs, rfl, hg, ap, ok, gl⟩ D hD
        have gl100 : gs.length ≤ 100 := by omega
        have la : as.length = gs.length := Paired.length hg
        have sD := Same.new (o := .lst (as.map V.ref)) hD
        have gD : (upd G D (.lst (as.map V.ref))) D = some (.lst (as.map V.ref)) := upd_same
        have s1 : Same H (upd G D (.lst (as.map V.ref))) := (s0.trans (Kept.same hp k3)).trans sD
        have hg1 := hg.same sD
        clear hg ap B3 k3 k12 k1 k2 B1 B2
        generalize (upd G D (.lst (as.map V.ref))) = G1 at sD gD s1 hg1
        refine ⟨_, rfl, D, rfl, ⟨_, SqL.of gD⟩, lists_ok gD hg1 gl100 fun kp ls G2 gkp hls s2 => ?_⟩
        have gD2 := s2 _ _ gD
        have hg2 := hg1.same s2
        refine ⟨_, rfl, D, as, gs, rfl, gD2, hg2, ok, gl100, fun du bd G3 hdu gdu tdu s3 => ?_⟩
        have gD3 := s3 _ _ gD2
        have hg3 := hg2.same s3
        have gkp3 := s3 _ _ gkp
        have hls3 : ListsAt G3 ls (gs.map (·.2)) := Paired.mapP hls fun a k e => s3 _ _ e
        have s03 := s1.trans (s2.trans s3)
        clear gD gD2 hg1 hg2 gkp hls s1 s2 s3 sD hD hdu
        refine ⟨2, rfl, by decide, by decide, ?_⟩
        refine for_range (lo := 0) (n := 2) (fun j σ G => ∃ v1 v2 v3 v7, σ = [some (.ref a), v1, v2, v3, some (.ref D), some (.ref kp), some (.ref du), v7] ∧ Same G3 G) ⟨_, _, _, _, rfl, Same.refl _⟩ ?_ ?_
        · rintro j σ G4 hj ⟨w1, w2, w3, w7, rfl, s4⟩
          rw [show (0 : Int) + (j : Int) = (j : Int) by omega]
          refine ⟨_, rfl, _, rfl, D, _, rfl, .inl ⟨SqL.of (s4 _ _ gD3), fun tp htp => ⟨(by show 2 ≤ sizeLine; decide), fun l3 hl3 => ?_⟩⟩⟩
          have s5 := (Same.new (o := .tup (as.map V.ref)) htp).trans (Same.new (o := .lst [.ref D, .ref tp]) hl3)
          have gt : (upd (upd G4 tp (.tup (as.map V.ref))) l3 (.lst [.ref D, .ref tp])) tp = some (.tup (as.map V.ref)) := (Same.new hl3) _ _ upd_same
          have g3 : (upd (upd G4 tp (.tup (as.map V.ref))) l3 (.lst [.ref D, .ref tp])) l3 = some (.lst [.ref D, .ref tp]) := upd_same
          generalize (upd (upd G4 tp (.tup (as.map V.ref))) l3 (.lst [.ref D, .ref tp])) = G5 at s5 gt g3
          have s45 := s4.trans s5
          obtain ⟨c, b, hc, sq⟩ : ∃ (c : Addr) (b : Bool), [V.ref D, V.ref tp][j]? = some (V.ref c) ∧ SeqIs b G5 c (as.map V.ref) := by
            match j, hj with
            | 0, _ => exact ⟨D, false, rfl, s45 _ _ gD3⟩
            | 1, _ => exact ⟨tp, true, rfl, gt⟩
          refine ⟨_, rfl, l3, _, _, V.ref c, rfl, rfl, SqL.of g3, atI_nat hc, ?_⟩
          refine ⟨c, b, as, gs, rfl, sq.sqB, hg3.same s45, ok, gl100, fun fo bf ks G6 hfo gfo tfo nd pw mem s6 => ?_⟩
          have ek := due_one ok nd pw mem
          subst ek
          have s46 := s45.trans s6
          have fo3 : G3 fo = none := s45.free hfo
          refine ⟨_, rfl, _, rfl, .ref fo, .ref du, _, rfl, due_dat ok gfo tfo, due_dat ok (s46 _ _ gdu) (Paired.mapP tdu fun a k e => s46 _ _ e), fun G7 s7 => ?_⟩
          have s47 := s46.trans s7
          refine ⟨_, rfl, iteF ?_⟩
          refine ⟨_, rfl, D, rfl, ⟨_, SqL.of (s47 _ _ gD3)⟩, lists_ok (s47 _ _ gD3) (hg3.same s47) gl100 fun k2 ls2 G8 gk2 hls2 s8 => ?_⟩
          have s48 := s47.trans s8
          refine ⟨_, rfl, k2, kp, ls2, ls, _, rfl, rfl, gk2, s48 _ _ gkp3, hls2, Paired.mapP hls3 fun a k e => s48 _ _ e, _, rfl, iteF ?_⟩
          have gfo8 := s8 _ _ (s7 _ _ gfo)
          have lb : bf.length ≤ 1000 := by
            have := tups_len tfo
            have := dueU_le gs (i := 30) (j := 0) (Nat.le_refl _)
            unfold dueL at *
            omega
          refine ⟨_, rfl, .inl ⟨rfl, _, SqL.of gfo8⟩, fo, _, rfl, rfl, gfo8, ?_⟩
          have gr : (upd G8 fo (.lst (bf.map V.ref).reverse)) fo = some (.lst (bf.map V.ref).reverse) := upd_same
          refine ⟨_, rfl, .inl ⟨rfl, _, SqL.of gr⟩, (by show 2 ≤ sizeLine; decide), fun tt htt => ?_⟩
          have st := Same.new (o := .tup [.int 0, .int 0]) htt
          refine ⟨fo, _, _, rfl, rfl, st _ _ gr, by rw [List.length_reverse, List.length_map, sizeLine_eq]; omega, _, _, _, _, rfl, fun b o e => ?_⟩
          have nb : b ≠ fo := ne_of_none e fo3
          rw [upd_ne nb]
          refine st _ _ ?_
          rw [upd_ne nb]
          exact s48 _ _ e
        · rintro σ G4 ⟨w1, w2, w3, w7, rfl, s4⟩
          exact ⟨_, _, _, _, _, _, _, rfl, s03.trans s4⟩
    · rintro σ H' ⟨v1, v2, v3, v4, v5, v6, v7, rfl, s0⟩
      exact q H'
end
end K58
set_option Elab.async false
set_option linter.all false
set_option maxRecDepth 100000
set_option maxHeartbeats 4000000
namespace K58
open PySem L2 PyProof.Rows
@[elab_as_elim] theorem le1 {motive : List Value → Prop} (us : List Value) (hl : us.length = 1) (k : ∀ a0, motive [a0]) : motive us := match us, hl with | [a0], _ => k a0
@[elab_as_elim] theorem le2 {motive : List Value → Prop} (us : List Value) (hl : us.length = 2) (k : ∀ a0 a1, motive [a0, a1]) : motive us := match us, hl with | [a0, a1], _ => k a0 a1
@[elab_as_elim] theorem le4 {motive : List Value → Prop} (us : List Value) (hl : us.length = 4) (k : ∀ a0 a1 a2 a3, motive [a0, a1, a2, a3]) : motive us := match us, hl with | [a0, a1, a2, a3], _ => k a0 a1 a2 a3
theorem all_mk {l : PySem.W.OpenLaw} {w : World} {K : PySem.W.Frag} {h : Heap} {mg : Str → Option Value} {fa f1 f2 f3 f4 f5 f6 f7 f8 f9 : Addr} (X : K.In h) (G : h.Ns mainGlobals mg) (hfa : mg "law" = some (.ref fa))
    {od1 an1 od2 an2 od3 an3 od4 an4 od5 an5 od6 an6 od7 an7 od8 an8 od9 an9 : Option Addr} {sl1 sl2 sl3 sl4 sl5 sl6 sl7 sl8 sl9 : Array (Option Value)} {oc1 kV1 dc1 pm1 cd1 ct1 oc2 kV2 dc2 pm2 cd2 ct2 oc3 kV3 dc3 pm3 cd3 ct3 oc4 kV4 dc4 pm4 cd4 ct4 oc5 kV5 dc5 pm5 cd5 ct5 oc6 kV6 dc6 pm6 cd6 ct6 oc7 kV7 dc7 pm7 cd7 ct7 oc8 kV8 dc8 pm8 cd8 ct8 oc9 kV9 dc9 pm9 cd9 ct9 : Value}
    (a1 : PySem.W.nsIn K mainGlobals "pairs_of" = some (some (.ref f1))) (l1 : K.lookup f1 = some ⟨oc1, od1, .func (PySem.W.fnOf "pairs_of" "pairs_of" (defArgs sPairsOf) (defBody sPairsOf) (defScope sPairsOf) .none kV1 dc1 pm1 an1 cd1 ct1), sl1⟩) (c1 : PySem.W.codeIn K cd1 "pairs_of" = true) (k1 : PySem.W.keepIn K (.ref f1) = true)
    (a2 : PySem.W.nsIn K mainGlobals "_law_cell_at" = some (some (.ref f2))) (l2 : K.lookup f2 = some ⟨oc2, od2, .func (PySem.W.fnOf "_law_cell_at" "_law_cell_at" (defArgs sCell) (defBody sCell) (defScope sCell) .none kV2 dc2 pm2 an2 cd2 ct2), sl2⟩) (c2 : PySem.W.codeIn K cd2 "_law_cell_at" = true) (k2 : PySem.W.keepIn K (.ref f2) = true)
    (a3 : PySem.W.nsIn K mainGlobals "_law_box" = some (some (.ref f3))) (l3 : K.lookup f3 = some ⟨oc3, od3, .func (PySem.W.fnOf "_law_box" "_law_box" (defArgs sBox) (defBody sBox) (defScope sBox) .none kV3 dc3 pm3 an3 cd3 ct3), sl3⟩) (c3 : PySem.W.codeIn K cd3 "_law_box" = true) (k3 : PySem.W.keepIn K (.ref f3) = true)
    (a4 : PySem.W.nsIn K mainGlobals "_law_take" = some (some (.ref f4))) (l4 : K.lookup f4 = some ⟨oc4, od4, .func (PySem.W.fnOf "_law_take" "_law_take" (defArgs sTake) (defBody sTake) (defScope sTake) .none kV4 dc4 pm4 an4 cd4 ct4), sl4⟩) (c4 : PySem.W.codeIn K cd4 "_law_take" = true) (k4 : PySem.W.keepIn K (.ref f4) = true)
    (a5 : PySem.W.nsIn K mainGlobals "_law_many" = some (some (.ref f5))) (l5 : K.lookup f5 = some ⟨oc5, od5, .func (PySem.W.fnOf "_law_many" "_law_many" (defArgs sMany) (defBody sMany) (defScope sMany) .none kV5 dc5 pm5 an5 cd5 ct5), sl5⟩) (c5 : PySem.W.codeIn K cd5 "_law_many" = true) (k5 : PySem.W.keepIn K (.ref f5) = true)
    (a6 : PySem.W.nsIn K mainGlobals "_law_same" = some (some (.ref f6))) (l6 : K.lookup f6 = some ⟨oc6, od6, .func (PySem.W.fnOf "_law_same" "_law_same" (defArgs sSame) (defBody sSame) (defScope sSame) .none kV6 dc6 pm6 an6 cd6 ct6), sl6⟩) (c6 : PySem.W.codeIn K cd6 "_law_same" = true) (k6 : PySem.W.keepIn K (.ref f6) = true)
    (a7 : PySem.W.nsIn K mainGlobals "_law_group" = some (some (.ref f7))) (l7 : K.lookup f7 = some ⟨oc7, od7, .func (PySem.W.fnOf "_law_group" "_law_group" (defArgs sGroup) (defBody sGroup) (defScope sGroup) .none kV7 dc7 pm7 an7 cd7 ct7), sl7⟩) (c7 : PySem.W.codeIn K cd7 "_law_group" = true) (k7 : PySem.W.keepIn K (.ref f7) = true)
    (a8 : PySem.W.nsIn K mainGlobals "_law_due" = some (some (.ref f8))) (l8 : K.lookup f8 = some ⟨oc8, od8, .func (PySem.W.fnOf "_law_due" "_law_due" (defArgs sDue) (defBody sDue) (defScope sDue) .none kV8 dc8 pm8 an8 cd8 ct8), sl8⟩) (c8 : PySem.W.codeIn K cd8 "_law_due" = true) (k8 : PySem.W.keepIn K (.ref f8) = true)
    (a9 : PySem.W.nsIn K mainGlobals "law" = some (some (.ref f9))) (l9 : K.lookup f9 = some ⟨oc9, od9, .func (PySem.W.fnOf "law" "law" (defArgs sLaw) (defBody sLaw) (defScope sLaw) .none kV9 dc9 pm9 an9 cd9 ct9), sl9⟩) (c9 : PySem.W.codeIn K cd9 "law" = true) (k9 : PySem.W.keepIn K (.ref f9) = true)
    (z1 : PySem.W.nsIn K mainGlobals "abs" = some none) (z2 : PySem.W.nsIn K mainGlobals "int" = some none) (z3 : PySem.W.nsIn K mainGlobals "len" = some none) (z4 : PySem.W.nsIn K mainGlobals "range" = some none) (z5 : PySem.W.nsIn K mainGlobals "min" = some none) (z6 : PySem.W.nsIn K mainGlobals "max" = some none) (z7 : PySem.W.nsIn K mainGlobals "tuple" = some none) (z8 : PySem.W.nsIn K mainGlobals "sorted" = some none) (z9 : PySem.W.nsIn K mainGlobals "isinstance" = some none) (z10 : PySem.W.nsIn K mainGlobals "list" = some none) (z11 : PySem.W.nsIn K mainGlobals "str" = some none) (z12 : PySem.W.nsIn K mainGlobals "bool" = some none) (z13 : PySem.W.nsIn K mainGlobals "sum" = some none) (z14 : PySem.W.nsIn K mainGlobals "all" = some none) (z15 : PySem.W.nsIn K mainGlobals "zip" = some none) (z16 : PySem.W.nsIn K mainGlobals "any" = some none) :
    ∃ fd : FuncData, (∀ (s : Shared) (v : Value), BindsTo s fd ⟨[v], []⟩ [("_law_script", v)]) ∧ ∀ base : Heap, K.In base → base.Ns mainGlobals mg → FnOk l.prog w K mg base CX0 4 fa fd ["_law_script"] (spLaw K) := by
  have e := hfa.symm.trans (PySem.W.mg_of X G a9)
  cases e
  have T : Txt mg := ⟨PySem.W.mg_none_of X G z1, PySem.W.mg_none_of X G z2, PySem.W.mg_none_of X G z3, PySem.W.mg_none_of X G z4, PySem.W.mg_none_of X G z5, PySem.W.mg_none_of X G z6, PySem.W.mg_none_of X G z7, PySem.W.mg_none_of X G z8, PySem.W.mg_none_of X G z9, PySem.W.mg_none_of X G z10, PySem.W.mg_none_of X G z11, PySem.W.mg_none_of X G z12, PySem.W.mg_none_of X G z13⟩
  have T2 : Txt2 mg := ⟨PySem.W.mg_none_of X G z14, PySem.W.mg_none_of X G z15, PySem.W.mg_none_of X G z16⟩
  have F1 := fun_mk (st := sPairsOf) l1 c1 k1
  have F2 := fun_mk (st := sCell) l2 c2 k2
  have F3 := fun_mk (st := sBox) l3 c3 k3
  have F4 := fun_mk (st := sTake) l4 c4 k4
  have F5 := fun_mk (st := sMany) l5 c5 k5
  have F6 := fun_mk (st := sSame) l6 c6 k6
  have F7 := fun_mk (st := sGroup) l7 c7 k7
  have F8 := fun_mk (st := sDue) l8 c8 k8
  have F9 := fun_mk (st := sLaw) l9 c9 k9
  have b1 := F1.binds (ps := ["groups"]) fun _ _ _ _ _ _ us hl => le1 us hl fun _ => rfl
  have b2 := F2.binds (ps := ["_law_script", "_law_k"]) fun _ _ _ _ _ _ us hl => le2 us hl fun _ _ => rfl
  have b3 := F3.binds (ps := ["_law_script", "_law_k"]) fun _ _ _ _ _ _ us hl => le2 us hl fun _ _ => rfl
  have b4 := F4.binds (ps := ["_law_box_here", "_law_many_here"]) fun _ _ _ _ _ _ us hl => le2 us hl fun _ _ => rfl
  have b5 := F5.binds (ps := ["_law_box_here", "_law_least", "_law_few", "_law_most"]) fun _ _ _ _ _ _ us hl => le4 us hl fun _ _ _ _ => rfl
  have b6 := F6.binds (ps := ["_law_found", "_law_due_here"]) fun _ _ _ _ _ _ us hl => le2 us hl fun _ _ => rfl
  have b7 := F7.binds (ps := ["_law_box_here"]) fun _ _ _ _ _ _ us hl => le1 us hl fun _ => rfl
  have b8 := F8.binds (ps := ["_law_groups"]) fun _ _ _ _ _ _ us hl => le1 us hl fun _ => rfl
  have m1 := PySem.W.mg_of X G a1
  have m2 := PySem.W.mg_of X G a2
  have m3 := PySem.W.mg_of X G a3
  have m4 := PySem.W.mg_of X G a4
  have m5 := PySem.W.mg_of X G a5
  have m6 := PySem.W.mg_of X G a6
  have m7 := PySem.W.mg_of X G a7
  have m8 := PySem.W.mg_of X G a8
  have m9 := PySem.W.mg_of X G a9
  refine ⟨PySem.W.fnOf "law" "law" (defArgs sLaw) (defBody sLaw) (defScope sLaw) .none kV9 dc9 pm9 an9 cd9 ct9, fun s v => .of_eq rfl, fun base _ _ => ?_⟩
  have TK : TakeF l.prog w K mg base f4 _ := ⟨ok_take F4, m4, k4, b4⟩
  have C__law_box : CalF l.prog w K mg base 2 "_law_box" ["_law_script", "_law_k"] (spBox K) f3 _ := ⟨ok_box F3 T F2 m2 b2, m3, k3, b3⟩
  have C__law_many : CalF l.prog w K mg base 2 "_law_many" ["_law_box_here", "_law_least", "_law_few", "_law_most"] spMany f5 _ := ⟨ok_many F5 TK, m5, k5, b5⟩
  have C__law_group : CalF l.prog w K mg base 3 "_law_group" ["_law_box_here"] spGrp f7 _ := ⟨ok_grp F7 T TK C__law_many, m7, k7, b7⟩
  have C__law_due : CalF l.prog w K mg base 1 "_law_due" ["_law_groups"] spDue f8 _ := ⟨ok_due F8 T T2, m8, k8, b8⟩
  have C_pairs_of : CalF l.prog w K mg base 1 "pairs_of" ["groups"] (spPO K) f1 _ := ⟨ok_pairs F1 T, m1, k1, b1⟩
  have C__law_same : CalF l.prog w K mg base 3 "_law_same" ["_law_found", "_law_due_here"] (spSame 2) f6 _ := ⟨ok_same F6 T T2 m6 b6 2, m6, k6, b6⟩
  exact ok_law F9 T ⟨C__law_box, C__law_many, C__law_group, C__law_due, C_pairs_of, C__law_same⟩
theorem walk {l : PySem.W.OpenLaw} {q : Program} {loose : List Str} {XP : (Str → Option Value) → Heap → Prop} {YP : World → Heap → Prop} {d : DefRec} {K : Params → PySem.W.Frag} (hn : l.most = some 63) (hdf : d.params.defaults = []) (hY : ∀ (w : World) (h : Heap), YP w h → (K w.params).In h)
    (F : ∀ (w : World) (mg : Str → Option Value) (fa : Addr) (h : Heap), (K w.params).In h → h.Ns mainGlobals mg → mg d.name = some (.ref fa) → ∃ fd : FuncData, (∀ (s : Shared) (u : Value), BindsTo s fd ⟨[u], []⟩ [("_law_script", u)]) ∧ ∀ base : Heap, (K w.params).In base → base.Ns mainGlobals mg → FnOk l.prog w (K w.params) mg base CX0 4 fa fd ["_law_script"] (spLaw (K w.params))) :
    PySem.W.WalkO q loose XP YP l.row.toRowW d [] (fun f vs => PySem.call f vs) :=
  L2.walk_of (n := 63) (k := 4) (x := "_law_script") (CX := fun _ => CX0) (sp := fun w => spLaw (K w.params)) hn (by decide) hdf ⟨rfl, by decide, by decide, rfl⟩ hY F (fun _ _ a ns hl _ hS => ⟨a, ns, rfl, hS, hl, fun _ => rfl⟩) fun _ _ _ _ _ z => z
end K58
open PySem PySem.W PyProof.Rows
set_option maxRecDepth 100000 in
set_option maxHeartbeats 0 in
theorem PySem.Challenge.cw_partedweb_k58_pairs_of_groups_holds : PySem.Challenge.rw_partedweb_k58_pairs_of_groups.Holds := by
  w_on; o_law; k_head; (case hw => w_witness2)
  k_fill
  refine K58.walk (l := PySem.Challenge.rw_partedweb_k58_pairs_of_groups) rfl rfl (fun w h Y => PySem.W.kIn_of Y) ?F
  case F =>
    intro w mg fa h KX G hmg
    refine' K58.all_mk KX G hmg ?a1 ?l1 ?c1 ?k1 ?a2 ?l2 ?c2 ?k2 ?a3 ?l3 ?c3 ?k3 ?a4 ?l4 ?c4 ?k4 ?a5 ?l5 ?c5 ?k5 ?a6 ?l6 ?c6 ?k6 ?a7 ?l7 ?c7 ?k7 ?a8 ?l8 ?c8 ?k8 ?a9 ?l9 ?c9 ?k9 ?z1 ?z2 ?z3 ?z4 ?z5 ?z6 ?z7 ?z8 ?z9 ?z10 ?z11 ?z12 ?z13 ?z14 ?z15 ?z16
    (case a1 => k_is); (case l1 => k_is); (case c1 => k_is); (case k1 => k_is); (case a2 => k_is); (case l2 => k_is)
    (case c2 => k_is); (case k2 => k_is); (case a3 => k_is); (case l3 => k_is); (case c3 => k_is); (case k3 => k_is)
    (case a4 => k_is); (case l4 => k_is); (case c4 => k_is); (case k4 => k_is); (case a5 => k_is); (case l5 => k_is)
    (case c5 => k_is); (case k5 => k_is); (case a6 => k_is); (case l6 => k_is); (case c6 => k_is); (case k6 => k_is)
    (case a7 => k_is); (case l7 => k_is); (case c7 => k_is); (case k7 => k_is); (case a8 => k_is); (case l8 => k_is)
    (case c8 => k_is); (case k8 => k_is); (case a9 => k_is); (case l9 => k_is); (case c9 => k_is); (case k9 => k_is)
    (case z1 => k_is); (case z2 => k_is); (case z3 => k_is); (case z4 => k_is); (case z5 => k_is); (case z6 => k_is)
    (case z7 => k_is); (case z8 => k_is); (case z9 => k_is); (case z10 => k_is); (case z11 => k_is); (case z12 => k_is)
    (case z13 => k_is); (case z14 => k_is); (case z15 => k_is); (case z16 => k_is)
#print axioms PySem.Challenge.cw_partedweb_k58_pairs_of_groups_holds
