import PyProof.Rows.All
import Wide.All
import OpenK.AllK
import Wide.FinOn
import Lean
import PyProof.EqAt
import PyProof.EqKinds
import PyProof.TupleCall
import PySem.Challenge.RW_partedweb_k32_owners_shares_rounded
set_option Elab.async false
set_option linter.all false
set_option maxRecDepth 100000
abbrev zA:=@PySem.wpAny_bind
abbrev zB:=@List.length_map
abbrev zC:=@Nat.le_trans
abbrev zD:=@PySem.Heap.get?_push_of_some
abbrev zE:=@Nat.lt_of_lt_of_le
abbrev zF:=@List.getElem?_eq_getElem
abbrev zG:=@PySem.wpAny_pure
abbrev zH:=@List.getElem?_eq_some_iff
abbrev zI:=@Nat.lt_of_le_of_lt
abbrev zJ:=@Nat.le_refl
abbrev zK:=@Nat.add_le_add_left
abbrev zL:=@List.take_succ_eq_append_getElem
abbrev zN:=@PySem.Heap.lt_size
abbrev zO:=@List.getElem_map
abbrev zP:=@List.mem_append_right
abbrev zQ:=@Nat.le_add_right
abbrev zS:=@PySem.Heap.get?_push_size
abbrev zT:=@List.mem_cons_self
abbrev zU:=@List.map_append
abbrev zV:=@List.size_toArray
abbrev zW:=@Bool.false_ne_true
abbrev zX:=@List.getElem_mem
abbrev zY:=@List.mem_cons_of_mem
abbrev zZ:=@List.mem_singleton
abbrev zAA:=@Nat.le_of_lt
abbrev zAB:=@Nat.le_of_eq
abbrev zAC:=@List.length_append
abbrev zAD:=@List.mem_append
abbrev zAE:=@Nat.ne_of_lt
abbrev zAF:=@List.mem_cons
abbrev zAG:=@Nat.add_sub_of_le
abbrev zAH:=@Nat.lt_irrefl
abbrev zAI:=@List.map_cons
abbrev zAJ:=@List.getElem?_map
abbrev zAK:=@Nat.add_assoc
abbrev zAL:=@List.append_assoc
abbrev zAM:=@Nat.add_lt_add_left
abbrev zAN:=@Nat.lt_of_le_of_ne
abbrev zAO:=@List.lookup_cons
abbrev zAP:=@List.take_length
abbrev zAQ:=@Int.toNat_natCast
abbrev zAR:=@List.mem_map
abbrev zAS:=@Array.getElem?_eq_getElem
abbrev zAT:=@Nat.lt_of_lt_of_eq
abbrev zAU:=@List.pairwise_append
abbrev zAV:=@Nat.le_add_left
abbrev zAW:=@Nat.zero_le
abbrev zAX:=@List.getD_eq_getElem?_getD
abbrev zAY:=@Nat.lt_of_succ_lt_succ
abbrev zAZ:=@List.mem_append_left
abbrev zBA:=@Nat.sub_le
abbrev zBB:=@Nat.add_lt_of_lt_sub'
abbrev zBC:=@Nat.lt_succ_self
abbrev zBD:=@List.length_cons
abbrev zBE:=@Nat.add_le_add_right
abbrev zBF:=@List.length_take
abbrev zBG:=@List.getElem_of_mem
abbrev zBH:=@Int.ofNat_le
abbrev zBI:=@Nat.le_sub_one_of_lt
abbrev zBJ:=@Nat.add_sub_assoc
abbrev zBK:=@Bool.eq_false_iff
abbrev zBL:=@Nat.le_of_lt_succ
abbrev zBM:=@Int.natAbs_of_nonneg
abbrev zBN:=@Nat.zero_add
abbrev zBO:=@Nat.ne_of_gt
abbrev zBP:=@Nat.sub_succ_lt_self
abbrev zBQ:=@Nat.pos_of_ne_zero
abbrev zBR:=@Array.getElem?_toList
abbrev zBS:=@Int.le_of_lt
abbrev zBT:=@Array.length_toList
abbrev zBU:=@List.map_map
abbrev zBV:=@List.not_mem_nil
abbrev zBW:=@Nat.zero_lt_of_lt
abbrev zBX:=@List.pairwise_iff_getElem
abbrev zBY:=@Int.ofNat_lt
abbrev zBZ:=@Int.lt_of_le_of_lt
abbrev zCA:=@List.take_append_drop
abbrev zCB:=@Nat.one_pos
abbrev zCC:=@Int.natCast_nonneg
abbrev zCD:=@Nat.add_right_comm
abbrev zCE:=@Bool.false_eq_true
abbrev zCF:=@List.mem_filter
abbrev zCG:=@Int.mul_assoc
abbrev zCH:=@Nat.min_le_right
abbrev zCI:=@List.take_of_length_le
abbrev zCJ:=@Nat.sub_lt_left_of_lt_add
abbrev zCK:=@Nat.mul_le_mul_left
abbrev zCL:=@Array.toList_append
abbrev zCM:=@List.map_congr_left
abbrev zCN:=@Nat.le_succ
abbrev zCO:=@Nat.le_of_ble_eq_true
abbrev zCP:=@List.mem_range
abbrev zCQ:=@Nat.le_antisymm
abbrev zCR:=@Nat.min_eq_left
abbrev zCS:=@Nat.lt_add_of_pos_right
abbrev zCT:=@List.length_drop
abbrev zCU:=@Nat.sub_lt
abbrev zCV:=@Nat.add_le_add
abbrev zCW:=@Nat.lt_succ_of_lt
abbrev zCX:=@Nat.min_le_left
abbrev zCY:=@List.append_nil
abbrev zCZ:=@List.nodup_cons
abbrev zDA:=@Nat.sub_add_cancel
abbrev zDB:=@Nat.succ_le_succ
abbrev zDC:=@Int.emod_lt_of_pos
abbrev zDD:=@Bool.and_eq_true
abbrev zDE:=@Nat.sub_pos_of_lt
abbrev zDF:=@Nat.le_succ_of_le
abbrev zDG:=@List.filter_cons_of_pos
abbrev zDH:=@List.filter_cons_of_neg
abbrev zDI:=@Int.ediv_mul_cancel
abbrev zDJ:=@Int.toNat_sub
theorem zh1{n:Nat}:-2^62<=(n:Int):=by omega
theorem zh2{n:Nat}:-2^63<=(n:Int):=by omega
theorem zh3{y:Int}(h:0<=y):y=↑y.toNat:=(Int.toNat_of_nonneg h).symm
theorem zh4{n:Nat}(h:0<n):n-1<n:=zCU h zCB
theorem zh5{n:Nat}(h:0<n):n=n-1+1:=(zDA h).symm
theorem zh7{i j:Nat}(h:i<j)(e:j=k):i<k:=zAT h e
theorem zh8{i j:Nat}(h:i<j)(e:k=j):i<k:=zAT h e.symm
theorem zh9{i j k:Nat}(h:j<=k)(e:i=j):i<=k:=zC (zAB e) h
theorem zi1{k:Nat}{L:Nat}(h:(k:Int)<L):((0<=if(k:Int)<0 then(k:Int)+(L:Int)else(k:Int))/\(if(k:Int)<0 then(k:Int)+(L:Int)else(k:Int))<L)/\(if(k:Int)<0 then(k:Int)+(L:Int)else(k:Int)).toNat=k:=by rw[if_neg (Int.not_lt.mpr (zCC k))];exact⟨⟨zCC k,h⟩,zAQ k⟩
theorem zi2{k L:Nat}(h:k<L):(k:Int)<(L:Int):=zBY.mpr h
theorem zi3{k L:Nat}(h:(k:Int)<(L:Int)):k<L:=zBY.mp h
theorem zi4{x:Int}{i n:Nat}(h:i<n)(e:(i:Int)=x):0<=x/\x<(n:Int):=e ▸⟨zCC i,zBY.mpr h⟩
theorem zi5{i n:Nat}(h:i<n):0<=(i:Int)/\(i:Int)<(n:Int):=⟨zCC i,zBY.mpr h⟩
theorem zi6{i n:Nat}(h:i<n+1):i<=n:=zBL h
theorem zi9{i j n:Nat}(h:i<j)(g:j<=n):i<n:=zE h g
theorem zj1{i n:Nat}(h:i+1<n):i<n:=Nat.lt_of_succ_lt h
theorem zj2{i n:Nat}(h:i+1<=n):i<=n:=Nat.le_of_succ_le h
theorem zj3{i n:Nat}(h:¬i<n):n<=i:=Nat.le_of_not_lt h
theorem zj5{i n:Nat}(h:¬i=n)(g:i<=n):i<n:=zAN g h
theorem zj7{i n:Nat}(h:i<=n)(g:¬i<n):i=n:=zCQ h (Nat.le_of_not_lt g)
theorem zj9{i n:Nat}(h:i<n):0<n:=zBW h
theorem zl1{a k c:Nat}(h:a<=k)(d:Nat.ble k c=true):a<=c:=zC h (zCO d)
theorem zl2{a k c:Nat}(h:a<=k)(d:Nat.ble (k+1) c=true):a<c:=zI h (zCO d)
theorem zl3{a k c:Nat}(h:a<k)(d:Nat.ble k c=true):a<c:=zE h (zCO d)
theorem zl4{a k c:Nat}(h:a<k)(d:Nat.ble k c=true):a<=c:=zC (zAA h) (zCO d)
theorem zm1{n m k:Nat}(h:n<=m)(g:m=k):n<=k:=zC h (zAB g)
theorem zm2{n:Nat}{k:Nat}(h:n<=k)(d:Nat.ble k 4611686018427387903=true):(n:Int)<2^62:=by have:=zCO d;omega
theorem zm3{n k:Nat}(h:n<=k)(d:Nat.ble k 1000000=true):(n:Int)<=1000000:=zBH.mpr (zC h (zCO d))
theorem zm5{k m n:Nat}(h:(k:Int)<(m:Int))(e:n=m):k<n:=zAT (zBY.mp h) e.symm
theorem zn1{n:Nat}{x y:Int}(e:x=(n:Int))(h:x<y):(n:Int)<y:=e▸h
theorem zn2{n:Nat}{k:Nat}(h:n<=k)(d:Nat.ble k 255=true):((n:Int)).natAbs<2^8:=zI (zC h (zCO d)) (by decide:255<2^8)
theorem zn3{x:Int}(h:0<x):0<2*x:=Int.mul_pos (by decide) h
theorem zn4{a b:Nat}:a+b+1<=a+(b+1):=zJ _
theorem zn5{a b:Nat}(h:a<b):a+1<=b:=h
theorem zn6{a b:Nat}(h:a+1<b+1):a<b:=zAY h
theorem zn7{n:Nat}:(-1+(n:Int)).toNat=n-1:=by rw[Int.add_comm];exact zDJ n 1
theorem zn8{n:Nat}:min (n-1) n=n-1:=zCR (zBA n 1)
theorem zaa{a b:Nat}:a<b->b-(a+1)<b-a:=fun h=>Nat.sub_lt_sub_left h (zBC a)
theorem zab{a b c d:Nat}:a+1<=b->c+b-(a+1)<=d->b-(a+1)<=d-c:=fun h k=>Nat.le_sub_of_add_le' (zC (zAB (zBJ h c).symm) k)
theorem zac{a:Int}{b:Nat}:¬a<0->min a (↑b:Int)=(↑(min a.toNat b):Int):=by lia
theorem zad{a b:Nat}:a<=b->a+(b-a)=b:=zAG
theorem zae{a b c:Nat}:a+1<=b->c+(b-1)=c+b-1:=fun h=>(zBJ (zC (zAV 1 a) h) c).symm
theorem zaf{a b c d:Nat}:a<b->c-d<=b-a->¬d >= c->c-(d+(c-d) / 2+1)<=b-(a+1):=fun _ k _=>Nat.sub_le_sub_right (zC (Nat.sub_le_sub_left (zQ d _) c) k) 1
theorem zag{a b c:Nat}:a+1<=b->c<=c+b-(a+1):=fun h=>Nat.le_sub_of_add_le (zK h c)
theorem zah{a b c d:Nat}:a<=b->min (c-d) (a-d)<=b:=fun h=>zC (zCH ..) (zC (zBA ..) h)
theorem zai{a b c d:Nat}:a+1<=b->c+b-(a+1)<=d->c+(d-c)=d:=fun h k=>zAG (zC (Nat.le_sub_of_add_le (zK h c)) k)
theorem zaj{a b c:Nat}:a<=b->b<c->c-1-b<=c-1-a:=fun h _=>Nat.sub_le_sub_left h _
theorem zak{a:Nat}:a > 1->a-2<a:=fun h=>zCU (zBW h) Nat.zero_lt_two
theorem zal{a:Nat}:a > 1->a-2<a->a-2+1<a:=fun h _=>zAT (zBC _) (zDA h)
theorem zam{a b:Nat}:a<=b->max a b=b:=Nat.max_eq_right
theorem zan{a b c:Nat}:¬a >= b->a+min (b-a) c<=b:=fun h=>zC (zK (zCX ..) a) (zAB (zAG (zAA (Nat.not_le.mp h))))
theorem zao{a b c d:Nat}:a+b<=c->d<b->a+d<c:=fun h k=>zE (zAM k a) h
theorem zap{a b c d e:Nat}:a+b<=c->d<b->e+1<=d->a+d-1<c:=fun h k _=>zI (zBA _ _) (zE (zAM k a) h)
theorem zaq{a:Int}:0<a->0<=a:=zBS
theorem zar{a b c d e:Nat}:a=b->c<min d (a-e)->e+c<a:=fun _ k=>zBB (zE k (zCH ..))
theorem zas{a b c:Nat}:a<=b->c<a+(b-a)->c<b:=fun h k=>zAT k (zAG h)
theorem zat{a:Int}:(-a).natAbs<=a.natAbs:=zAB (Int.natAbs_neg a)
theorem zau{a b c d e:Nat}:a<min b (c-d)->c=e->d+a<c:=fun h _=>zBB (zE h (zCH ..))
theorem zav{a b:Nat}:a<b->b-1-a<b:=fun h=>zI (zBA _ _) (zCU (zBW h) Nat.zero_lt_one)
theorem zaw{a b c d:Nat}:a<b->c-d<=b-a->¬d >= c->d+(c-d) / 2-d<=b-(a+1):=fun _ k l=>zC (zAB (Nat.add_sub_cancel_left ..)) (zBI (zE (Nat.div_lt_self (zDE (Nat.not_le.mp l)) (zBC 1)) k))
theorem zax{a b c:Nat}:a<=b->c+1<=b->¬a=b->a<=b-1:=fun h _ k=>zBI (zAN h k)
theorem zay{a:Int}:0<a->a≠0:=Int.ne_of_gt
theorem zaz{a b c:Nat}:a<b->c+(c+b)-1-(c+a)=c+(b-1-a):=fun h=>by rw[zBJ (zC (zBW h) (zAV b c)),Nat.add_sub_add_left,zBJ (zBW h),zBJ (zBI h)]
theorem zba{a b c:Nat}:a<=b->¬c >= a->c+(a-c) / 2<b:=fun h k=>zE (zAT (zAM (Nat.div_lt_self (zDE (Nat.not_le.mp k)) (zBC 1)) c) (zAG (zAA (Nat.not_le.mp k)))) h
theorem zbb{a:Int}{b:Nat}:0<=a/\a <(↑b:Int)->a.toNat<b:=fun h=>(Int.toNat_lt h.1).mpr h.2
theorem zbc{a b c:Nat}:a<min b c->min b c-(a+1)<min b c-a:=fun h=>Nat.sub_lt_sub_left h (zBC a)
theorem zbd{a b c d e:Nat}:a<min b (c-d)->c=e->d+a<e:=fun h k=>zAT (zBB (zE h (zCH ..))) k
theorem zbe{a b c:Nat}:1<=a->a<=b->c+(b-1)=c+b-1:=fun h k=>(zBJ (zC h k) c).symm
theorem zbf{a b c d:Nat}:a<=b->b<c->d+(d+c)-1-(d+a)=d+(c-1-a):=fun h k=>by rw[zBJ (zC (zBW k) (zAV c d)),Nat.add_sub_add_left,zBJ (zBW k),zBJ (zC h (zBI k))]
theorem zbg{a b c:Nat}:a+64<b->c<=50->a+1+c<b:=fun h k=>zI (zC (zK k (a+1)) (zK (by decide:51<=64) a)) h
theorem zbh{a:Nat}:1<=a->a<=30->((↑a:Int)-1).toNat<=a-1+0:=fun _ _=>zAB (zDJ a 1)
theorem zbi{a b c:Nat}:a > 1->b<c+a->c+(a-1)=c+a-1:=fun h _=>(zBJ (zAA h) c).symm
theorem zbj{a b:Int}:0<a->0<b->b<=a->b.natAbs<=a.natAbs:=fun h k l=>zBH.mp (by rw[zBM (zBS k),zBM (zBS h)];exact l)
theorem zbk{a b c d:Nat}:a+b<=c->d<=b->a+d<=c:=fun h k=>zC (zK k a) h
theorem zbl{a b c:Nat}:a > 1->b<=c->c<b+a->c-b<=a-1:=fun _ k l=>zBI (zCJ k l)
theorem zbm{a b c:Nat}:a<=b->b<a+c->b-a<c:=zCJ
theorem zbn{a b c:Nat}:a<b-c->c+a<b:=fun h=>zBB h
theorem zbo{a b:Int}:0<a->b<a->b.toNat<a.toNat:=fun h h_1=>(Int.toNat_lt_toNat h).mpr h_1
theorem zbp{a b c:Nat}:a<=b->(↑c:Int)=0->a-c=b->a=b:=fun _ k l=>by rw[Int.ofNat_eq_zero.mp k]at l;exact l
theorem zbq{a:Nat}:2<=(↑a:Int)/\(↑a:Int)<=6\/7<=(↑a:Int)/\(↑a:Int)<=30->a<=30:=fun h=>h.elim (fun k=>zC (zBH.mp k.2) (by decide)) (fun k=>zBH.mp k.2)
theorem zbr{a b c:Nat}:a+1000<2 ^ 40->1<=b->b<=30->c <((↑b:Int)-1).toNat->a+1+4 * c+1+2<2 ^ 40:=fun h h1 h2 h3=>zI (by show a+1+4*c+3<=_;rw[zAK,zAK];exact zK (zC (zK (zBE (zCK 4 (zC (zAA (zAT h3 (zDJ _ 1))) (zC (zBA _ 1) h2))) 3) 1) (by decide)) a) h
theorem zbs{a b c:Int}:a<b->b<c->a<c:=fun h h_1=>Int.lt_trans h h_1
theorem zbt{a b c d e f:Nat}:a=b->c=d->a=e->c=e->f<b->f<c:=fun h _ k l m=>zAT m (l.trans (k.symm.trans h)).symm
theorem zbu{a b c d:Nat}:a<=b-c->a<d->a<=min (b-c) d:=fun h k=>Nat.le_min.mpr ⟨h,zAA k⟩
theorem zbv{a b c d:Nat}:a+1<=b->a > 0->c<d+b->c-d<b:=fun h _ k=>(Nat.lt_or_ge c d).elim (fun l=>zI (zAB (Nat.sub_eq_zero_of_le (zAA l))) (zBW h)) (fun l=>zCJ l k)
theorem zbw{a b c:Nat}:a<min b c->a<c:=fun h=>zE h (zCH ..)
theorem zbx{a b c:Nat}:a<min b c->a<b:=fun h=>zE h (zCX ..)
theorem zby{a b c d:Nat}:a<min b (c-d)->a<b:=fun h=>zE h (zCX ..)
theorem zbz{a b c:Nat}:1<=a->a<=30->b<=91-a->c<=a-1+b->c<128:=fun _ h k l=>zI (zC l (zCV (zC (zBA ..) h) (zC k (zBA ..)))) (by decide)
theorem zca{a b:Nat}:a<=b->¬a=b->a<=b-1:=fun h k=>zBI (zAN h k)
theorem zcb{a b c:Nat}:a<2 ^ 63->b<=a->b=c->(↑c:Int)<2 ^ 63:=fun h k l=>zBY.mpr (l▸zI k h)
theorem zcc{a b c d e:Nat}:a=b->b-c=d+1->c<=b->e=c->c<b:=fun _ h_1 _ _=>Nat.lt_of_sub_eq_succ h_1
theorem zcd{a b c:Nat}:a<=b->b<c->c-1-a<c:=fun _ k=>zI (zBA _ _) (zCU (zBW k) Nat.zero_lt_one)
theorem zce{a b c d:Nat}:a<min b c->c=d->a<b:=fun h _=>zE h (zCX ..)
theorem zcf{a b c d:Nat}:a=b->c<a->d<min c b->d<b:=fun _ _ k=>zE k (zCH ..)
theorem zcg{a b:Nat}:¬a >= b->1<=b-a:=fun h=>zDE (Nat.lt_of_not_le h)
theorem zch{a b c:Nat}:a+(b+1)<c->a+1+b<c:=fun h=>zI (zAB (zCD a 1 b)) h
theorem zci{a b c:Nat}:a<=b->b<=c->b-a<=c-0:=fun _ h=>zC (zBA ..) h
theorem zcj{a b c d:Nat}{e f:Int}:1<=a->a<=30->b<=91-a->c<b->d<=a-1+c->e≠f->d<16777216:=fun _ h k l m _=>zI (zC m (zCV (zC (zBA ..) h) (zC (zAA l) (zC k (zBA ..))))) (by decide)
theorem zck{a b c d e:Nat}:a+b<=c->1<=d->d<=e->e<b->a+e-1<c:=fun h _ _ k=>zI (zBA _ _) (zE (zAM k a) h)
theorem zcl{a b c d:Nat}:a<min b (c-d)->d+a<d+b:=fun h=>zAM (zE h (zCX ..)) d
theorem zcm{a b c d:Nat}:a<min b c->c=d->a<c:=fun h _=>zE h (zCH b c)
theorem zcn{a:Nat}:a<=6->2<=a->0=a->False:=fun _ h k=>absurd (k▸h) (by decide)
theorem zco{a b c:Nat}:a<=b->¬c >= a->c+(a-c) / 2<=b:=fun h k=>zC (zK (Nat.div_le_self _ _) c) (zC (zAB (zAG (zAA (Nat.not_le.mp k)))) h)
theorem zcp{a:Int}{b c:Nat}:0<=a->a <(↑b:Int)->a.toNat=c->c<b:=fun h k l=>l ▸(Int.toNat_lt h).mpr k
theorem zcq{a b c:Nat}:a<=b->b-a<=c-max 0 c->a=b:=fun h k=>zCQ h (Nat.sub_eq_zero_iff_le.mp (Nat.le_zero.mp (zC k (zAB (by rw[Nat.zero_max,Nat.sub_self])))))
theorem zcr{a b c:Nat}:a<=1000->a=b->c<a->c<a-1->1+c<b:=fun _ k _ l=>zAT (zI (zAB (Nat.add_comm 1 c)) (Nat.add_lt_of_lt_sub l)) k
theorem zcs{a b c d:Nat}:a<min b c->c=d->a<d:=fun h k=>zE h (zC (zCH ..) (zAB k))
theorem zct{a b:Nat}:¬a >= b->a+(b-a) / 2+1<=b:=fun h=>zAT (zAM (Nat.div_lt_self (zDE (Nat.not_le.mp h)) (zBC 1)) a) (zAG (zAA (Nat.not_le.mp h)))
theorem zcu{a:Int}:¬0<=a->a<0:=fun h=>Int.lt_of_not_ge h
theorem zcv{a b c:Nat}:a<=b->0<c->a+1<=b+c:=fun h h_1=>zCV h h_1
theorem zcw{a:Int}{b:Nat}:0<=a/\a <(↑b:Int)->(↑a.toNat:Int)=a:=fun h=>Int.toNat_of_nonneg h.1
theorem zcx{a b:Nat}:a<=min a b\/b<=min a b:=(Nat.le_total a b).imp (fun h=>Nat.le_min.mpr ⟨zJ _,h⟩) (fun h=>Nat.le_min.mpr ⟨h,zJ _⟩)
theorem zcy{a b c:Nat}:a<b->a<c->a<min b c:=fun h k=>Nat.lt_min.mpr ⟨h,k⟩
theorem zcz{a b c d e:Nat}:1<=a->a<=30->b<=91-a->c<=a-1+b->d=e->e=c->d<=16777216:=fun _ h k l m n=>zC (zAB (m.trans n)) (zC l (zC (zCV (zC (zBA ..) h) (zC k (zBA ..))) (by decide)))
theorem zda{a:Int}{b c:Nat}:¬0<=a->-(↑b:Int)<=a->(a+(↑b:Int)).toNat=c->c<b:=by lia
theorem zdb{a b c d:Nat}:a=b->c<a->d<min c b->d<c:=fun _ _ k=>zE k (zCX ..)
theorem zdc{a:Int}:1<=a->a<=9999->0<a:=fun h _=>Int.lt_of_add_one_le h
theorem zdd{a b c:Nat}:a<=b->1<=c->a+1<=b+c:=fun h h_1=>zCV h h_1
theorem zde{a b c d:Nat}:a+b<=c->d<b->a+d<=c:=fun h k=>zC (zK (zAA k) a) h
theorem zdf{a b c d:Nat}:a+1000<2 ^ 40->1<=b->b<=30->c<=91-b->d<c->a+200+4 * d<2 ^ 40:=fun h _ _ h3 h4=>zI (by rw[zAK];exact zK (zC (zK (zCK 4 (zC (zAA h4) (zC h3 (zBA 91 b)))) 200) (by decide)) a) h
theorem zdg{a b:Nat}:1<=a->a<=30->b <((↑a:Int)-1).toNat->1+(↑b:Int) <(↑a:Int):=fun _ _ h=>zBY.mpr (show 1+b<a from zBB (zAT h (zDJ _ 1)))
theorem zdh{a b c d e:Nat}:a=b->c=d->a=e->c=e->b=d:=fun h k l m=>h.symm.trans (l.trans (m.symm.trans k))
theorem zdi{a b:Nat}{c:Int}{d:Nat}:  1<=a->a<=30->b<=91-a->c<=(↑(d+200+4 * b):Int)->c<=(↑(d+1000):Int):=fun _ _ h3 h4=>Int.le_trans h4 (zBH.mpr (by rw[zAK];exact zK (zC (zK (zCK 4 (zC h3 (zBA 91 a))) 200) (by decide)) d))
theorem zdj{a b c:Nat}:1<=a->a<=30->b <((↑a:Int)-1).toNat->c<=b->c<16777216:=fun _ h k l=>zI l (zE k (zC (zAB (zDJ a 1)) (zC (zBA ..) (zC h (by decide)))))
theorem zdk{a b c d:Nat}:a+b<=c->d<=b->d > 1->a+d-1<c:=fun h k l=>zE (zCU (zE (zBW l) (zAV d a)) Nat.zero_lt_one) (zC (zK k a) h)
theorem zdl{a b c d:Nat}:a+1000<2 ^ 40->1<=b->b<=30->c<=91-b->d<c->a+200+4 * d+1<2 ^ 40:=fun h _ _ h3 h4=>zI (by rw[zAK,zAK];exact zK (zC (zK (zBE (zCK 4 (zC (zAA h4) (zC h3 (zBA 91 b)))) 1) 200) (by decide)) a) h
theorem zdm{a:Int}:1<=a->0<=a:=fun h=>zBS h
theorem zdn{a:Int}:0<a->a<1073741824->a.natAbs<1073741824:=fun h k=>zBY.mp (by rw[zBM (zBS h)];exact k)
theorem zdo{a:Int}:0<a->a<3->a.natAbs<65536:=fun h k=>zBY.mp (by rw[zBM (zBS h)];exact Int.lt_trans k (by decide))
theorem zdp{a b c:Nat}:a<b->c+a<c+b:=fun h=>zAM h c
theorem zdq{a b:Nat}:¬a >= b->a+(b-a)<=b:=fun h=>zAB (zAG (zAA (Nat.not_le.mp h)))
theorem zdr{a:Int}:0<=a->a<9999->(1+a).natAbs<65536:=fun h g=>zBY.mp (by rw[zBM (Int.add_nonneg (by decide) h)];exact Int.lt_trans (Int.add_lt_add_left g 1) (by decide))
theorem zds{a:Int}{b c d e:Nat}{f:Int}:0<a->b<c->d<e->0<=f->f<=a->f.natAbs<=a.natAbs:=fun h _ _ k l=>zBH.mp (by rw[zBM k,zBM (zBS h)];exact l)
theorem zdt{a:Nat}:(↑a:Int)=0->a=0:=fun h=>Int.ofNat_eq_zero.mp h
theorem zdu{a b:Nat}:a+1000<2 ^ 40->1<=b->b<=30->a+1+4 * ((↑b:Int)-1).toNat<2 ^ 40:=fun h _ h2=>zI (by rw[zAK];exact zK (zC (zK (zCK 4 (zC (zAB (zDJ b 1)) (zC (zBA b 1) h2))) 1) (by decide)) a) h
theorem zdv{a b c d:Nat}:a=b->b-c=0->c<=b->d=c->c=b:=fun _ h k _=>zCQ k (Nat.sub_eq_zero_iff_le.mp h)
theorem zdw{a b:Int}:0<a->0<=b->b<=a->b.natAbs<=a.natAbs:=fun h k l=>zBH.mp (by rw[zBM k,zBM (zBS h)];exact l)
theorem zdx{a b c:Nat}:a+1000<2 ^ 40->1<=b->b<=30->c <((↑b:Int)-1).toNat->a+1+4 * c<2 ^ 40:=fun h h1 h2 h3=>zI (by rw[zAK];exact zK (zC (zK (zCK 4 (zC (zAA (zAT h3 (zDJ _ 1))) (zC (zBA _ 1) h2))) 1) (by decide)) a) h
theorem zdy{a b c d:Nat}{e f:Int}:  a+1000<2 ^ 40->1<=b->b<=30->c<=91-b->d<c->e≠f->a+200+4 * d+1+1+2<2 ^ 40:=fun h _ _ h3 h4 _=>zI (by show a+200+4*d+4<=_;rw[zAK,zAK];exact zK (zC (zK (zBE (zCK 4 (zC (zAA h4) (zC h3 (zBA 91 b)))) 4) 200) (by decide)) a) h
theorem zdz{a:Nat}:1<=a->a<=30->0 <(↑a:Int):=fun h _=>Int.natCast_pos.mpr h
theorem zea{a b c:Int}:a=b->c<a->b<=c->False:=fun h k l=>Int.lt_irrefl c (Int.lt_of_lt_of_le k (h▸l))
theorem zeb{a:Int}{b c d:Nat}:1<=a->a<=1073741824->b<c->d<c->a<2 ^ 64:=fun _ h _ _=>zBZ h (by decide)
theorem zec{a:Int}:0<a->a<1073741824->a≠0:=fun h _=>Ne.symm (Int.ne_of_lt h)
theorem zed{a b c:Nat}:a<=1000->a=b->min a c<=16777216:=fun h _=>zC (zCX ..) (zC h (by decide))
theorem zee{a:Int}{b c d:Nat}:1<=a->a<=1073741824->b<c->d<c->-2 ^ 64<a:=fun h _ _ _=>Int.lt_of_lt_of_le (by decide) h
theorem zef{a:Int}:2<=a/\a<=6\/7<=a/\a<=30->a=(↑a.toNat:Int):=fun h=>(Int.toNat_of_nonneg (h.elim (fun k=>Int.le_trans (by decide) k.1) (fun k=>Int.le_trans (by decide) k.1))).symm
theorem zeg{a:Nat}:1<=a->a<=30->(↑a:Int)<1073741824:=fun _ h=>zBZ (zBH.mpr h) (by decide)
theorem zeh{a b c d e:Nat}:a<=b->c<a->d=c->d+e=b->0 <(↑e:Int):=fun h k l m=>zBY.mpr (zBQ fun z=>zAH c (zE k (zC h (zAB (m.symm.trans ((congrArg (d + ·) z).trans l))))))
theorem zei{a b c d e:Nat}:a+(b+c)<=d->e<b+c->e<d:=fun h g=>zE g (zC (zAV _ a) h)
theorem zej{a:Nat}:¬(↑a:Int)<0:=Int.not_ofNat_neg a
theorem zek{a:Int}:0<=a->a<3->a.natAbs<65536:=fun h k=>zBY.mp (by rw[zBM h];exact Int.lt_trans k (by decide))
theorem zel{a b c d e:Nat}:a<b->c<d->0<e->0 <(↑e:Int):=fun _ _ h_2=>Int.natCast_pos.mpr h_2
theorem zem{a b c:Nat}:a=b->c=b->min a c=b:=fun h k=>by rw[h,k,Nat.min_self]
theorem zen{a:Int}:0<=a->a<9999->0<1+a:=fun h _=>Int.lt_add_of_neg_add_lt h
theorem zeo{a b c:Int}:a<b->a<c\/c<b:=fun h=>(Int.lt_or_le a c).imp id fun k=>zBZ k h
theorem zep{a b:Int}:a=b->0<b->a<=0->False:=fun h k l=>Int.lt_irrefl 0 (Int.lt_of_lt_of_le k (h▸l))
theorem zeq{a b c d e:Nat}:a+b+(c+1)<=d->e=d->a+b<e:=fun h k=>zAT (zI (zQ _ c) h) k.symm
theorem zer{a b c:Nat}:a<=6->2<=a->b=a->c+1+a<=c+20:=fun h _ _=>by rw[zAK];exact zK (zC (zK h 1) (by decide)) c
theorem zes{a b c d:Nat}:a=b->c=d->b+c=d+a:=fun e g=>by rw[e,g,Nat.add_comm]
theorem zet{a b:Nat}:1<=a->a<=30->b+1+4 * ((↑a:Int)-1).toNat+1<=b+200+4 * 0:=fun _ h2=>by show _<=b+200;rw[zAK,zAK];exact zK (zC (zK (zBE (zCK 4 (zC (zAB (zDJ a 1)) (zC (zBA a 1) h2))) 1) 1) (by decide)) b
theorem zeu{a b:Nat}:a<128->a=b->b<128:=fun h h_1=>lt_of_eq_of_lt (id (Eq.symm h_1)) h
theorem zev{a b c d:Nat}:a+1=b->b+c<=d->a+(c+1)<=d:=fun e h=>by rw[Nat.add_comm c 1,<- zAK,e];exact h
theorem zew{a b:Nat}:1<=a->a<=30->b <((↑a:Int)-1).toNat->1+(↑b:Int)<1073741824:=fun _ h k=>zBZ (show((1+b:Nat):Int)<=((30:Nat):Int)from zBH.mpr (zC (zAB (Nat.add_comm 1 b)) (zC k (zC (zAB (zDJ _ 1)) (zC (zBA ..) h))))) (by decide)
theorem zex{a b c:Int}:a<b->¬a<c->c<b:=fun h g=>zBZ (Int.not_lt.mp g) h
theorem zey{a b c:Int}:a<b->b=c->a<c:=fun h h_1=>lt_of_lt_of_eq h h_1
theorem zez{a b c d e:Nat}:a+100<2 ^ 40->2<=b->b<=30->c=d->c+e=b->a+1+d<2 ^ 40:=fun h _ k l m=>zI (zC (zK (zC (zAB l.symm) (zC (zQ c e) (zC (zAB m) k))) (a+1)) (zK (by decide:31<=100) a)) h
theorem zfa{a b c d e:Nat}:a=b->c=b->d=a->e=c->min d e=b:=fun h k l m=>by rw[m,l,h,k,Nat.min_self]
theorem zfb{a:Int}:0<a->a=(↑a.toNat:Int):=fun h=>(Int.toNat_of_nonneg (zBS h)).symm
theorem zfc{a b c:Int}:a=b->b<c->a<c:=fun h h_1=>lt_of_eq_of_lt h h_1
theorem zfd{a b c:Nat}:a<b->c<=c+a/\c+a<c+b:=fun h=>⟨zQ c a,zAM h c⟩
theorem zfe{a b c d:Nat}:1<=a->a<=6->b=a->c=b->d<=a->d+1<=16777216:=fun _ h _ _ k=>zC (zDB (zC k h)) (by decide)
theorem zff{a b c d:Nat}:a<=b->b<c->d+a<d+c:=fun h g=>zAM (zI h g) d
theorem zfg{a b c:Int}:a=b->¬a<c->¬c=b->c<b:=fun h k l=>Int.lt_iff_le_and_ne.mpr ⟨h▸Int.not_lt.mp k,l⟩
theorem zfh{a:Nat}:2<=(↑a:Int)/\(↑a:Int)<=6\/7<=(↑a:Int)/\(↑a:Int)<=30->2<=a:=fun h=>h.elim (fun k=>zBH.mp k.1) (fun k=>zC (by decide) (zBH.mp k.1))
theorem zfi{a b c d:Nat}:a<=120->b=a->c<=d->d<b->c<16777216:=fun h k l m=>zI l (zE m (zC (zAB k) (zC h (by decide))))
theorem zfj{a b:Nat}:a=b->min b a=b:=fun e=>by rw[e,Nat.min_self]
theorem zfk{a:Int}{b:Nat}{c:Int}:  0<=a->a<=(↑b:Int) * 1073741824->1<=c->c<=1073741824->0<=c+a/\c+a<=(↑(b+1):Int) * 1073741824:=fun h k g m=>⟨Int.add_nonneg (Int.le_trans (by decide) g) h,by rw[Int.natCast_add,Int.add_mul,Int.add_comm c];exact Int.add_le_add k m⟩
theorem zfl{a:Nat}:0<=(↑a:Int)->(↑a:Int)<4->a<4:=fun _ h_1=>zBY.mp h_1
theorem zfm{a:Nat}:0<=(↑a:Int)->(↑a:Int)<3->a<3:=fun _ h_1=>zBY.mp h_1
theorem zfn{a b c:Nat}:a+b<=c->1<=b->a<c:=fun h g=>zE (zCS g) h
theorem zfo{a b c d:Nat}:a<=b->b<c->d<=d+a/\d+a<d+c:=fun h k=>⟨zQ d a,zAM (zI h k) d⟩
theorem zfp{a:Int}:0<a->a<1073741824->0<=a:=fun h _=>zBS h
theorem zfq{a b c d:Nat}:a+100<2 ^ 40->b<=30->c<b->d=c->a+c<2 ^ 40:=fun h k l _=>zI (zK (zC (zAA l) (zC k (by decide))) a) h
theorem zfr{a b:Nat}:a=b->min a b=a:=fun h=>by rw[<- h,Nat.min_self]
theorem zfs{a b c d:Nat}:a+b+(c+1)<=d->a+(b+1)+c<=d:=fun h=>by rw[<- zAK a b 1,zAK _ 1 c,Nat.add_comm 1 c];exact h
theorem zft{a b c d:Nat}{e:Int}:a<b->c<d->0<e->0<=e:=fun _ _ h_2=>zBS h_2
theorem zfu{a b c:Nat}:a=b->a<=1000->c=a->min a b<=16777216:=fun _ h _=>zC (zCX a b) (zC h (by decide))
theorem zfv{a:Nat}:a<=6->2<=a->-2 ^ 64<2 * (↑a:Int):=fun _ _=>Rat.intCast_lt_intCast.mp rfl
theorem zfw{a b c d e:Nat}:a<=6->2<=a->b=c->c<a->b+d=a->(↑e:Int) <(↑d:Int)->(↑e:Int)<2 ^ 63:=fun h _ _ _ k g=>Int.lt_trans g (zBZ (zBH.mpr (zC (zC (zAV d b) (zAB k)) h)) (by decide))
theorem zfx{a b:Int}:a % 2147483629=b->b<2 ^ 64:=fun e=>Int.lt_trans (show b<2147483629 by rw[<- e];exact zDC a (by decide)) (by decide)
theorem zfy{a b c:Int}:a=b->¬a<c->¬a=c->c<b:=fun h k l=>Int.lt_iff_le_and_ne.mpr ⟨h▸Int.not_lt.mp k,fun z=>l (h.trans z.symm)⟩
theorem zfz{a:Int}{b c d e:Nat}:0<a->b<c->d<e->0<=a:=fun h _ _=>zBS h
theorem zga{a b:Nat}:a+200+4 * b+1+1+2<=a+200+4 * (b+1):=zJ (a+200+4 * b+1+1+2)
theorem zgb{a b:Int}:0<a->a<=b->1<=b:=fun h h_1=>Int.le_trans h h_1
theorem zgc{a b c d e f g:Nat}:a=b->c=b->d=a->e=c->min f g=b->min a c=b:=fun h k _ _ _=>by rw[h,k,Nat.min_self]
theorem zgd{a b c d:Nat}:a<=6->2<=a->b=c->b+d=a->(↑d:Int)<1073741824:=fun h _ _ k=>zBZ (zBH.mpr (zC (zAV d b) (zC (zAB k) h))) (by decide)
theorem zge{a:Nat}:2<=(↑a:Int)/\(↑a:Int)<=6\/7<=(↑a:Int)/\(↑a:Int)<=30->a<=30->0<a:=fun h _=>h.elim (fun k=>zC (by decide) ((zBH (m:=2)).mp k.1)) fun k=>zC (by decide) ((zBH (m:=7)).mp k.1)
theorem zgf{a b c:Nat}:a<=b->¬a=b->c+a<c+b:=fun h g=>zAM (zAN h g) c
theorem zgg{a b c d:Nat}:2<=a->a<=30->b=c->b+d=a->(↑d:Int)<1073741824:=fun _ h _ k=>zBZ (zBH.mpr (zC (zAV d b) (zC (zAB k) h))) (by decide)
theorem zgh{a b:Int}:a<=b->b-a<1000->b-a+1<1073741824:=fun _ h=>zBZ (Int.add_one_le_of_lt h) (by decide)
theorem zgi{a b c:Nat}:a=b->a+c=b->c=0:=fun h k=>Nat.add_left_cancel (n:=a) (k.trans h.symm)
theorem zgj{a b:Nat}:a<=6->2<=a->b=a->3000+a+1<2 ^ 40:=fun h _ _=>zI (zDB (zK h 3000)) (by decide)
theorem zgk{a b:Int}:0<a->0 * b<a * 1:=fun h=>by rw[Int.zero_mul,Int.mul_one];exact h
theorem zgl{a b:Int}:a<b->1+a<=b:=fun h=>Int.add_comm a 1▸h
theorem zgm{a b:Nat}:a+1+4 * b+1+2+1<=a+1+4 * (b+1):=zJ (a+1+4 * b+1+2+1)
theorem zgn{a:Nat}:2<=(↑a:Int)/\(↑a:Int)<=6\/7<=(↑a:Int)/\(↑a:Int)<=30->1<=a:=fun h=>h.elim (fun k=>zC (by decide) ((zBH (m:=2)).mp k.1)) fun k=>zC (by decide) ((zBH (m:=7)).mp k.1)
theorem zgo{a b:Int}:a % 2147483629=b->-2 ^ 64<b:=fun e=>Int.lt_of_lt_of_le (by decide) (show 0<=b by rw[<- e];exact Int.emod_nonneg a (by decide))
theorem zgp{a b c d:Nat}:a<=6->2<=a->b=c->c<a->b+d=a->3000+c<2 ^ 40:=fun h _ _ g _=>zI (zK (zC (zAA g) h) 3000) (by decide)
theorem zgq{a b c d:Nat}:a=b->b<c->a+d=c->0 <(↑d:Int):=fun h k l=>zBY.mpr (zBQ fun z=>zAH a (zI (zAB h) (zAT k (l.symm.trans (congrArg (a + ·) z)))))
theorem zgr{a:Int}:7<=a->a<1000->0<a-6:=fun h _=>Int.sub_pos_of_lt h
theorem zgs{a:Nat}:0+(↑a:Int)=(↑a:Int):=Int.zero_add ↑a
theorem zgt{a b c d e f:Nat}:  2<=a->a<=30->b<=6->2<=b->c<b->d=c->d+e=a->(↑f:Int) <(↑e:Int)->(↑f:Int)<2 ^ 63:=fun _ h _ _ _ _ k l=>Int.lt_trans l (zBZ (zBH.mpr (zC (zAV e d) (zC (zAB k) h))) (by decide))
theorem zgu{a b c:Nat}:a+3 * (b+1)+5<c->a+1+3 * b+5<c:=fun h=>zI (zBE (zC (zAB (zCD a 1 (3 * b))) (zK (by decide:1<=3) (a+3 * b))) 5) h
theorem zgv{a b c:Nat}:a+16 * (b+1)+200<c->a+3+16 * b+200<c:=fun h=>zI (zBE (by rw[Nat.mul_add,zAK a 3,Nat.add_comm 3];exact zK (zK (by decide) _) a) 200) h
theorem zgw{a b c d e:Nat}:a=b->b<=c->d=e->e<b->d+1<=c+1:=fun _ h k l=>zDB (zC (zAB k) (zC (zAA l) h))
theorem zgx{a b:Int}:0<a->a<1073741824->0<=b->b<a->1<=1+b/\1+b<=1073741824:=fun _ k h g=>⟨Int.le_add_of_nonneg_right h,Int.le_trans (by rw[Int.add_comm];exact g) (zBS k)⟩
theorem zgy{a:Int}:0<=a->0<1+a:=fun h=>Int.lt_add_of_neg_add_lt h
theorem zgz{a b c d:Nat}:a<=b->c<a->¬(b<=c/\c<d):=fun h g k=>absurd (zE g h) (Nat.not_lt_of_le k.1)
theorem zha{a:Int}:2<=a->a<=6->0<a-1:=fun h _=>Int.sub_pos_of_lt h
theorem zhb{a:Int}:1<=a->0<a:=fun h=>Int.lt_of_add_one_le h
theorem zhc{a b:Nat}:a+1<=b->a+1+1<=b+1:=fun h=>zBE h 1
theorem zhd{a b c d e:Nat}:a=b->b<=c->d=e->e<b->d<=c:=fun _ h e g=>zC (zAB e) (zAA (zE g h))
theorem zhe{a:Nat}:1<=a->a<=6->0 <(↑a:Int):=fun h _=>Int.natCast_pos.mpr h
theorem zhf{a b:Nat}:a<b->(↑a:Int)<=(↑b:Int):=fun h=>zBH.mpr (zAA h)
theorem zhg{a:Int}{b:Nat}:0<=a->-(↑b:Int)<=a:=fun h=>Int.le_trans (Int.neg_nonpos_of_nonneg (zCC b)) h
theorem zhh{a b:Nat}:a<=b->b<1->a=b:=fun h g=>zCQ h (zC (zBL g) (zAW a))
theorem zhi{a b c:Int}:a+b=c->b=c-a:=fun h=>by rw[<- h,Int.add_comm,Int.add_sub_cancel]
theorem zhj{a b c d e:Nat}:a=b->c=d->e+1+c=0+a->¬a<c:=fun _ _ h k=>zAH c (zI (zC (zAV c (e+1)) (zAB (h.trans (zBN a)))) k)
theorem zhk{a b:Nat}:2<=a->b+max 0 a<=a->b<=1:=fun _ h=>by rw[Nat.zero_max]at h;exact zC (Nat.le_of_add_le_add_right (b:=a) (c:=0) (by rw[zBN];exact h)) (zAW 1)
theorem zhl{a:Nat}:a<=6->2<=a->0 <(↑a:Int):=fun _ h=>zBY.mpr (zE (by decide) h)
theorem zhm{a b:Int}:a + -b=a-b:=Int.add_neg_eq_sub
theorem zhn{a:Nat}:1<=a->a<=30->0<2 * (↑a:Int)+1:=fun _ _=>Int.sign_eq_one_iff_pos.mp rfl
theorem zho{a b c d:Nat}:a<=30->b=a->c=a->d+a<=d+30:=fun h _ _=>Nat.add_le_add_iff_left.mpr h
theorem zhp{a b:Nat}:a+200+4 * b+1+1<=a+200+4 * (b+1):=zAA (Nat.lt_of_succ_le (zAA (zBC _)))
theorem zhq{a:Nat}{b:Int}{c:Nat}:-(↑a:Int)<=b->a=c->-(↑c:Int)<=b:=fun h h_1=>le_of_eq_of_le (congrArg Neg.neg (congrArg Nat.cast (id (Eq.symm h_1)))) h
theorem zhr{a:Int}{b:Nat}:¬0<=a->-(↑b:Int)<=a->a <(↑b:Int):=by lia
theorem zhs{a b c:Nat}:a+1<=b->b+1-(a+1+1)<=c->c<b+1->¬c=b->b-(a+1)<=c:=fun _ h _ _=>zC (zAB (Nat.add_sub_add_right b 1 (a+1)).symm) h
theorem zht{a b c:Int}:a<b-c+1->c+a<=b:=fun h=>by have:=Int.add_le_add_left (Int.lt_add_one_iff.mp h) c;rwa [Int.add_comm c (b-c),Int.sub_add_cancel]at this
theorem zhu{a b c d:Nat}:a=b->c=d->0+c=0+a->¬a<c:=fun _ _ h=>by rw[zBN,zBN]at h;rw[h];exact zAH _
theorem zhv{a:Int}:0<=a->¬a=0->0<a:=fun h h_1=>Std.lt_of_le_of_ne h fun a_1=>h_1 (id (Eq.symm a_1))
theorem zhw{a b:Int}:a<=b->b<=a->b=a:=fun h h_1=>Int.le_antisymm h_1 h
theorem zhx{a b:Nat}:a+1+4 * b+1<=a+1+4 * (b+1):=zK (zQ (4 * b+1) 3) (a+1)
theorem zhy{a b c d e:Nat}:a=b->c=d->0+c=e+1+a->a<c:=fun _ _ h=>zAT (zE (zBC a) (zC (zAB (Nat.add_comm a 1)) (zBE (zDB (zAW e)) a))) (h.symm.trans (zBN c))
theorem zhz{a b c d e f:Nat}:a<b->c<b->d=e->f=e->d=f:=fun _ _ h k=>h.trans k.symm
theorem zia{a b c d e f:Nat}:a=b->c=d->e+1+c=f+1+a->e+c=f+a:=fun _ _ h=>Nat.add_right_cancel (m:=1) (by rw[zCD e c 1,zCD f a 1];exact h)
theorem zib{a b c:Nat}{d:Int}{e:Nat}:a<=b->c<a->-(↑a:Int)<=d->a=e->b<2 ^ 63->-2 ^ 63<=d:=by lia
theorem zic{a:Int}:0<=a->0<=a+1:=fun h=>Int.le_add_one h
theorem zid{a b:Int}:0<=a->b<=b+a:=fun h=>Int.le_add_of_nonneg_right h
theorem zie{a b:Nat}:a<=b->a >= b->a=b:=fun h h_1=>zCQ h h_1
theorem zif{a b c:Nat}:a+(b+1)+c=a+b+(c+1):=Nat.succ_add_eq_add_succ (a.add b) c
theorem zig{a:Int}:0<=a->7<=7+a:=fun h=>Int.le_add_of_nonneg_right h
theorem zih{a:Int}:0<=a->a<9999->1<=1+a:=fun h _=>Int.le_add_of_nonneg_right h
theorem zii{a b c:Nat}:a+b+c<=a+(c+b):=zAB (by rw[zAK,Nat.add_comm b c])
theorem zij{a:Nat}:0<a->(↑a:Int)≠0:=fun h=>Int.natCast_ne_zero_iff_pos.mpr h
theorem zik{a b:Nat}:(↑a:Int)=(↑b:Int)->a=b:=fun h=>Int.ofNat_inj.mp h
theorem zil{a:Int}:1<=a->a<=9999->0<=a:=fun h _=>zBS h
theorem zim{a b c d e:Nat}{f:Int}:a<=6->2<=a->b<c->d<e->f <(↑a:Int)->f.toNat<a:=by lia
theorem zin{a b c:Nat}{d:Int}{e:Nat}:a<=b->c<a->d <(↑a:Int)->a=e->b<2 ^ 63->d<2 ^ 63:=by lia
theorem zio{a b:Int}:a<b-6->7+a<=b:=by lia
theorem ziq{a b c:Nat}:a=b->c=a->min a b=c:=by lia
theorem zir{a:Int}{b:Nat}:max (a+(↑b:Int)) 0=(↑(a+(↑b:Int)).toNat:Int):=Eq.symm (Int.ofNat_toNat (a + ↑b))
theorem zis{a b:Nat}:a<=900->b<=a->b+1<=1000:=by lia
theorem zit{a b:Nat}:a<=6->2<=a->b=a->3000+a<2 ^ 40:=by lia
theorem ziu{a b:Nat}:a+(b+1)=a+b+1:=Eq.symm (zAK a b 1)
theorem ziv{a:Nat}:a<=6->2<=a->(↑a:Int)<1073741824:=by lia
theorem ziw{a:Nat}:a<=6->2<=a->-2 ^ 64<3 * (↑a:Int)-2:=by lia
theorem zix{a:Nat}:(↑a:Int)-1 - -1 - -1-1=(↑a:Int):=by rw[Int.sub_neg,Int.sub_neg,Int.sub_add_cancel,Int.add_sub_cancel]
theorem ziy{a b:Nat}{c:Int}:a<=b->c<=(↑a:Int)->c<=(↑b:Int):=by lia
theorem ziz{a:Nat}:a<0->¬a<0:=fun _=>Nat.not_lt_zero a
theorem zja{a:Int}{b:Nat}:a<=(↑b:Int)->a<=(↑(b+1):Int):=by lia
theorem zjb{a:Int}{b:Nat}:a<=(↑b:Int)->a+1<=(↑(b+1):Int):=by lia
theorem zjc:-2 ^ 62<=0:=Int.neg_ofNat_le_ofNat (2 ^ 62) 0
theorem zjd{a:Nat}{b c d:Int}:a<2 ^ 40->0<=b->b<=(↑a:Int)->c % 2147483647=d->d+(b+1)<2 ^ 64:=by lia
theorem zje{a:Nat}:a<=6->2<=a->3 * (↑a:Int)-2<2 ^ 64:=by lia
namespace L2
open PySem PySem.Spec PyProof.Rows
noncomputable abbrev Key:=Sum Int Str
noncomputable def keyIs:Key->Value->Bool
 | .inl k,v=>Value.isInt k v
 | .inr x,v=>Value.isStrOf x v
noncomputable def keyH(w:World):Key->Int
 | .inl k=>hashInt k
 | .inr x=>hashStr w x
theorem keyIs_shape:∀ {k:Key}{v:Value},keyIs k v=true->(∃ i t,k=Sum.inl i/\v=Value.int i t)\/(∃ x t,k=Sum.inr x/\v=Value.str x t)
 | .inl i,v,h=>by
  obtain⟨t,e⟩:=Value.isInt_shape (k:=i) (v:=v) h
  exact .inl ⟨i,t,rfl,e⟩
 | .inr x,v,h=>by
  obtain⟨t,e⟩:=Value.isStrOf_shape (x:=x) (v:=v) h
  exact .inr ⟨x,t,rfl,e⟩
theorem keyIs_int(i:Int)(t:Tok):keyIs (.inl i) (.int i t)=true:=by simp[keyIs,Value.isInt]
theorem keyIs_str(x:Str)(t:Tok):keyIs (.inr x) (.str x t)=true:=by simp[keyIs,Value.isStrOf]
theorem key_ll(a b:Int):decide ((Sum.inl a:Key)=Sum.inl b)=(a == b):=by
 by_cases e:a=b
 ·subst e;simp
 ·have h:¬(Sum.inl a:Key)=Sum.inl b:=fun q=>e (Sum.inl.inj q)
  rw[decide_eq_false h]
  exact(beq_eq_false_iff_ne.mpr e).symm
theorem key_rr(a b:Str):decide ((Sum.inr a:Key)=Sum.inr b)=decide (a=b):=by
 by_cases e:a=b
 ·subst e;simp
 ·have h:¬(Sum.inr a:Key)=Sum.inr b:=fun q=>e (Sum.inr.inj q)
  rw[decide_eq_false h,decide_eq_false e]
theorem key_lr(a:Int)(b:Str):decide ((Sum.inl a:Key)=Sum.inr b)=false:=decide_eq_false (fun q=>nomatch q)
theorem key_rl(a:Str)(b:Int):decide ((Sum.inr a:Key)=Sum.inl b)=false:=decide_eq_false (fun q=>nomatch q)
noncomputable def mixKind(prog:Program)(w:World):PySem.KeyKind prog w Key where
 is:=keyIs
 hash:=keyH w
 inj:=fun v a b ha hb=>by
  rcases keyIs_shape ha with⟨i,t,rfl,rfl⟩ |⟨x,t,rfl,rfl⟩
  ·rcases keyIs_shape hb with⟨j,u,rfl,e⟩ |⟨y,u,rfl,e⟩
   ·injection e with e1 _;rw[e1]
   ·exact nomatch e
  ·rcases keyIs_shape hb with⟨j,u,rfl,e⟩ |⟨y,u,rfl,e⟩
   ·exact nomatch e
   ·injection e with e1 _;rw[e1]
 byValue:=fun k v h=>by
  rcases keyIs_shape h with⟨i,t,rfl,rfl⟩ |⟨x,t,rfl,rfl⟩ <;> rfl
 pyHash:=fun hv h=>by
  rcases keyIs_shape hv with⟨i,t,rfl,rfl⟩ |⟨x,t,rfl,rfl⟩
  ·exact wpAny_pyHash_int h
  ·exact wpAny_pyHash_str h
 eqBool:=fun hu hv h=>by
  rcases keyIs_shape hu with⟨i,t,rfl,rfl⟩ |⟨x,t,rfl,rfl⟩
  ·rcases keyIs_shape hv with⟨j,u,rfl,rfl⟩ |⟨y,u,rfl,rfl⟩
   ·rw[key_ll]at h;exact wpAny_eqBool_int h
   ·rw[key_lr]at h;exact SeqAt.EqAt.int_str i t y u _ _ _ _ h
  ·rcases keyIs_shape hv with⟨j,u,rfl,rfl⟩ |⟨y,u,rfl,rfl⟩
   ·rw[key_rl]at h;exact SeqAt.EqAt.str_int x t j u _ _ _ _ h
   ·rw[key_rr]at h;exact wpAny_eqBool_str h
 «strs»:=fun k x t v h=>by
  rcases keyIs_shape h with⟨i,u,rfl,e⟩ |⟨y,u,rfl,e⟩
  ·exact nomatch e
  ·injection e with e1 _
   subst e1
   cases v <;> rfl
theorem mixKind_int(prog:Program)(w:World)(i:Int)(t:Tok):(mixKind prog w).is (.inl i) (.int i t)=true:=keyIs_int i t
theorem mixKind_str(prog:Program)(w:World)(x:Str)(t:Tok):(mixKind prog w).is (.inr x) (.str x t)=true:=keyIs_str x t
open PySem PySem.Spec PyProof.Rows
inductive V where
 |non | bl (b:Bool) | int (i:Int) | str (x:Str) | byt (b:Array UInt8) | flt (b:UInt64) | ref (a:Addr) | ty (n:String)
 deriving DecidableEq
noncomputable def RelV:V->Value->Prop
 | .non,u=>u=Value.none
 | .bl b,u=>u=Value.bool b
 | .int i,u=>∃ t,u=Value.int i t
 | .str x,u=>∃ t,u=Value.str x t
 | .byt b,u=>∃ t,u=Value.bytes b t
 | .flt b,u=>∃ t,u=Value.float b t
 | .ref a,u=>u=Value.ref a
 | .ty n,u=>u=Value.type n
noncomputable abbrev Vals:List V->List Value->Prop:=Paired RelV
theorem Vals.length{xs:List V}{us:List Value}(r:Vals xs us):xs.length=us.length:=Paired.length r
theorem Vals.get:∀ {xs:List V}{us:List Value}{i:Nat}{x:V},Vals xs us->xs[i]?=some x->∃ u,us[i]?=some u/\RelV x u
 | _,_,_,_,.nil,e=>by simp at e
 | _,_,0,_,.cons r _,e=>by simp at e;subst e;exact⟨_,rfl,r⟩
 | _,_,i+1,x,.cons _ t,e=>by
  obtain⟨u,h1,h2⟩:=Vals.get (i:=i) (x:=x) t (by simpa using e)
  exact⟨u,by simpa using h1,h2⟩
theorem Vals.set{x:V}{u:Value}(r:RelV x u):∀ {xs:List V}{us:List Value} (i:Nat),Vals xs us->Vals (xs.set i x) (us.set i u)
 | _,_,_,.nil=>.nil
 | _,_,0,.cons _ t=>.cons r t
 | _,_,i+1,.cons q t=>.cons q (Vals.set r i t)
theorem Vals.append:∀ {xs ys:List V}{us ws:List Value},Vals xs us->Vals ys ws->Vals (xs++ys) (us++ws)
 | _,_,_,_,.nil,s=>s
 | _,_,_,_,.cons r t,s=>.cons r (Vals.append t s)
theorem Vals.take:∀ {xs:List V}{us:List Value} (n:Nat),Vals xs us->Vals (xs.take n) (us.take n)
 | _,_,0,_=>.nil
 | _,_,_+1,.nil=>.nil
 | _,_,n+1,.cons r t=>.cons r (Vals.take n t)
theorem Vals.drop:∀ {xs:List V}{us:List Value} (n:Nat),Vals xs us->Vals (xs.drop n) (us.drop n)
 | _,_,0,r=>r
 | _,_,_+1,.nil=>.nil
 | _,_,n+1,.cons _ t=>Vals.drop n t
noncomputable def RelO:Option V->Option Value->Prop
 |some v,some u=>RelV v u
 |none,none=>True
 | _,_=>False
noncomputable def KV{κ:Type}:List (κ×V)->List (κ×Value)->Prop:=Paired fun(p:κ×V) (q:κ×Value)=>p.1=q.1/\RelV p.2 q.2
noncomputable def kV:Key->V
 | .inl i=>.int i
 | .inr x=>.str x
inductive HO where
 /-- a list -/
 |lst (xs:List V)
 /-- a tuple (never changes) -/
 |tup (xs:List V)
 /-- a dict whose keys are ints and texts;one whose keys are tuples of ints and texts (the empty one is both) -/
 |dK (kvs:List (Key×V)) | dT (kvs:List (List Key×V))
 /-- a set of ints: its members,its size -/
 |set (S:Int->Bool) (n:Nat)
 /-- an instance of the class at C,its dict at dx,its attributes -/
 |ins (C dx:Addr) (fs:List (Str×V))
 /-- the dict of the instance at x -/
 |own (x:Addr)
 /-- the dict of an exception -/
 |xd (fs:List (Str×V))
 /-- a bound method,f of x -/
 |met (f x:Addr)
 /-- a range object lo,lo+1,.. below hi -/
 |rng (lo hi:Int)
 /-- a thing that is known to the object (the script;a dict while a loop walks it): read,never written while it is so -/
 |frz (o:Obj) (u:HO)
 /-- a code object's table -/
 |tbl (ps:Array Value)
 /-- any other thing,by what is true of its one object (a def of one's own: SetO a S n:=HO.ext fun h=>..) -/
 |ext (φ:Heap->Prop)
noncomputable abbrev Hp:=Addr->Option HO
noncomputable def upd(H:Hp)(a:Addr)(o:HO):Hp:=fun b=>if b=a then some o else H b
theorem upd_same{H:Hp}{a:Addr}{o:HO}:upd H a o a=some o:=by unfold upd;rw[if_pos rfl]
theorem upd_ne{H:Hp}{a b:Addr}{o:HO}(h:b≠a):upd H a o b=H b:=by unfold upd;rw[if_neg h]
theorem ne_of{H:Hp}{a b:Addr}{o u:HO}(h:H a=some o)(h':H b=some u)(d:o≠u):a≠b:=by
 intro e;subst e;rw[h]at h';exact d (Option.some.inj h')
theorem ne_of_none{H:Hp}{a b:Addr}{o:HO}(h:H a=some o)(h':H b=none):a≠b:=by
 intro e;subst e;rw[h]at h';cases h'
section
variable(P:Program)(w:World)
noncomputable def ObjOk(H:Hp)(h:Heap)(a:Addr):HO->Prop
 | .lst xs=>xs.length<=sizeLine/\∃ (its:List Value) (n:Nat),Vals xs its/\h.get? a=some { cls:=.type "list",data:=.seq its.toArray n }
 | .tup xs=>xs.length<=sizeLine/\∃ its:List Value,Vals xs its/\IsTup h a its.toArray
 | .dK kvs=>kvs.length<=sizeLine/\(a == sysModules)=false/\∃ vs,KV kvs vs/\h.DictOf (mixKind P w) a vs
 | .dT kvs=>kvs.length<=sizeLine/\(a == sysModules)=false/\∃ xs:List (List Key×Addr×Value),
   Paired (fun(p:List Key×V) (q:List Key×Addr×Value)=>p.1=q.1/\H q.2.1=some (.tup (p.1.map kV))/\RelV p.2 q.2.2) kvs xs /\
   ∃ o es ep,h.get? a=some o/\o.ExactDict/\o.data = .dict es ep/\es.toList=xs.map (entryOfKey (tupleKind (mixKind P w)))/\(xs.map (·.1)).Nodup
 | .set S n=>h.SetOf (intKind P w) a S n
 | .ins C dx fs=>H dx=some (.own a)/\fs.length<=1000/\dx≠a/\h.get? a=some (PySem.W.instObj C dx) /\
   ∃ mA,h.Ns1 dx mA/\(∀ f,RelO (fs.lookup f) (mA f))/\PySem.Within mA (fs.map (·.1))
 | .own _=>∃ o,h.get? a=some o
 | .xd fs=>∃ mA,h.Ns1 a mA/\∀ f,RelO (fs.lookup f) (mA f)
 | .rng lo hi=>∃ t u v,h.get? a=some { cls:=.type "range",data:=.fields #[.int lo t,.int hi u,.int 1 v] }
 | .frz o u=>h.get? a=some o/\ObjOk H h a u
 | .tbl ps=>h.get? a=some { cls:=.none,data:=.fields ps }
 | .met f x=>h.get? a=some (PySem.W.methodObj (.ref f) (.ref x))
 | .ext φ=>φ h/\(∃ o,h.get? a=some o)/\∀ h1 h2:Heap,φ h1->(∀ o,h1.get? a=some o->h2.get? a=some o)->φ h2
noncomputable def HOk(H:Hp)(h:Heap):Prop:=∀ a o,H a=some o->ObjOk P w H h a o
end
section
variable{P:Program}{w:World}{H H':Hp}{h h':Heap}{a:Addr}{o:HO}
theorem ObjOk.lt(x:ObjOk P w H h a o):a<h.objs.size:=by
 cases o with
 |lst xs=>obtain⟨_,_,_,_,e⟩:=x;exact zN e
 |tup xs=>obtain⟨_,_,_,p⟩:=x;exact p.lt
 |dK kvs=>obtain⟨_,_,_,_,o,_,_,e,_⟩:=x;exact zN e
 |dT kvs=>obtain⟨_,_,_,_,o,_,_,e,_⟩:=x;exact zN e
 |set S n=>obtain⟨o,_,_,_,e,_⟩:=x;exact zN e
 |ins C dx fs=>obtain⟨_,_,_,e,_⟩:=x;exact zN e
 |own y=>obtain⟨_,e⟩:=x;exact zN e
 |xd fs=>obtain⟨_,⟨_,_,_,e,_⟩,_⟩:=x;exact zN e
 |rng lo hi=>obtain⟨_,_,_,e⟩:=x;exact zN e
 |frz ob u=>obtain⟨e,_⟩:=x;exact zN e
 |tbl ps=>exact zN (show h.get? a=some _ from x)
 |met f y=>exact zN (show h.get? a=some _ from x)
 |ext φ=>obtain⟨_,⟨_,e⟩,_⟩:=x;exact zN e
theorem Paired.mapP{α β:Type}{F G:α->β->Prop}:∀ {l₁:List α}{l₂:List β},Paired F l₁ l₂->(∀ a b,F a b->G a b)->Paired G l₁ l₂
 | _,_,.nil,_=>.nil
 | _,_,.cons r t,f=>.cons (f _ _ r) (Paired.mapP t f)
theorem ObjOk.stay(x:ObjOk P w H h a o)(k:∀ b u,(b=a\/H b=some (.own a))->h.get? b=some u->h'.get? b=some u)
  (ho:∀ b,H b=some (.own a)->H' b=some (.own a)) (ht:∀ b xs,H b=some (.tup xs)->H' b=some (.tup xs)):ObjOk P w H' h' a o:=by
 induction o with
 |lst xs=>obtain⟨z,its,n,r,e⟩:=x;exact⟨z,its,n,r,k _ _ (.inl rfl) e⟩
 |tup xs=>obtain⟨z,its,r,ob,e,c⟩:=x;exact⟨z,its,r,ob,k _ _ (.inl rfl) e,c⟩
 |dK kvs=>obtain⟨z,y,vs,r,ob,es,ep,e,c⟩:=x;exact⟨z,y,vs,r,ob,es,ep,k _ _ (.inl rfl) e,c⟩
 |dT kvs =>
  obtain⟨z,y,xs,r,ob,es,ep,e,c⟩:=x
  exact⟨z,y,xs,Paired.mapP r fun p q z=>⟨z.1,ht _ _ z.2.1,z.2.2⟩,ob,es,ep,k _ _ (.inl rfl) e,c⟩
 |set S n=>obtain⟨ob,es,ep,t,e,c⟩:=x;exact⟨ob,es,ep,t,k _ _ (.inl rfl) e,c⟩
 |ins C dx fs =>
  obtain⟨d,z,ne,e,mA,⟨od,es,ep,e2,c⟩,r⟩:=x
  exact⟨ho _ d,z,ne,k _ _ (.inl rfl) e,mA,⟨od,es,ep,k _ _ (.inr d) e2,c⟩,r⟩
 |own y=>obtain⟨ob,e⟩:=x;exact⟨ob,k _ _ (.inl rfl) e⟩
 |xd fs=>obtain⟨mA,⟨od,es,ep,e,c⟩,r⟩:=x;exact⟨mA,⟨od,es,ep,k _ _ (.inl rfl) e,c⟩,r⟩
 |rng lo hi=>obtain⟨t,u,v,e⟩:=x;exact⟨t,u,v,k _ _ (.inl rfl) e⟩
 |frz ob u ih=>obtain⟨e,q⟩:=x;exact⟨k _ _ (.inl rfl) e,ih q⟩
 |tbl ps =>
  have e:h.get? a=some { cls:=.none,data:=.fields ps }:=x
  show h'.get? a=some { cls:=.none,data:=.fields ps }
  exact k a _ (.inl rfl) e
 |met f y =>
  have e:h.get? a=some (PySem.W.methodObj (.ref f) (.ref y)):=x
  show h'.get? a=some (PySem.W.methodObj (.ref f) (.ref y))
  exact k a _ (.inl rfl) e
 |ext φ=>obtain⟨p,⟨o,e⟩,st⟩:=x;exact⟨st _ _ p fun o q=>k _ _ (.inl rfl) q,⟨o,k _ _ (.inl rfl) e⟩,st⟩
theorem HOk.lt(x:HOk P w H h)(e:H a=some o):a<h.objs.size:=(x a o e).lt
theorem HOk.fresh(x:HOk P w H h)(e:h.objs.size<=a):H a=none:=by
 cases q:H a with
 |none=>rfl
 |some u=>exact absurd (zE (x.lt q) e) (zAH _)
theorem HOk.kept(x:HOk P w H h)(k:∀ b u,h.get? b=some u->h'.get? b=some u):HOk P w H h':=fun a o e =>
 (x a o e).stay (fun b u _ q=>k b u q) (fun _ q=>q) fun _ _ q=>q
theorem HOk.laid(x:HOk P w H h)(k:∀ b u,h.get? b=some u->h'.get? b=some u)(hp:h.objs.size<=a)(new:ObjOk P w (upd H a o) h' a o):HOk P w (upd H a o) h':=fun b u e=>by
 have hn:=x.fresh hp
 by_cases hb:b=a
 ·subst hb;rw[upd_same]at e;cases e;exact new
 ·rw[upd_ne hb]at e
  exact(x b u e).stay (fun c v _ q=>k c v q) (fun c q=>by rw[upd_ne (ne_of_none q hn)];exact q) fun c xs q=>by rw[upd_ne (ne_of_none q hn)];exact q
end
noncomputable def Rd(H:Hp)(a:Addr)(u:HO):Prop:=H a=some u\/∃ o,H a=some (.frz o u)
theorem Rd.ok{P:Program}{w:World}{H:Hp}{h:Heap}{a:Addr}{u:HO}(r:Rd H a u)(x:HOk P w H h):ObjOk P w H h a u:=by
 rcases r with r |⟨o,r⟩
 ·exact x a u r
 ·obtain⟨_,q⟩:=x a _ r
  exact q
noncomputable def Mut:Option HO->Prop
 |some (.lst _)=>True
 |some (.dK _)=>True
 |some (.dT _)=>True
 |some (.set _ _)=>True
 |some (.ins _ _ _)=>True
 |some (.ext _)=>True
 | _=>False
section
variable{P:Program}{w:World}{H:Hp}{h h':Heap}{x e:Addr}{o':HO}
theorem HOk.write(ok:HOk P w H h)(mu:Mut (H x))(he:e=x\/H e=some (.own x))(k:∀ b u,b≠e->h.get? b=some u->h'.get? b=some u)(heo:∃ u,h'.get? e=some u)
  (new:ObjOk P w (upd H x o') h' x o'):HOk P w (upd H x o') h':=fun b u q=>by
 have nown:∀ c y,H c=some (.own y)->c≠x:=fun c y r z=>by subst z;rw[r]at mu;exact mu
 have ntup:∀ c xs,H c=some (.tup xs)->c≠x:=fun c xs r z=>by subst z;rw[r]at mu;exact mu
 by_cases hb:b=x
 ·subst hb;rw[upd_same]at q;cases q;exact new
 ·rw[upd_ne hb]at q
  by_cases hbe:b=e
  ·have q':H b=some (.own x):=by
    rcases he with z | z
    ·exact absurd (hbe.trans z) hb
    ·rw[hbe];exact z
   rw[q]at q';cases q'
   obtain⟨v,hv⟩:=heo
   exact⟨v,by rw[hbe];exact hv⟩
  ·refine(ok b u q).stay (fun c v hc r=>k c v ?_ r) (fun c r=>by rw[upd_ne (nown c b r)];exact r) fun c xs r=>by rw[upd_ne (ntup c xs r)];exact r
   rcases hc with rfl | hc
   ·exact hbe
   ·rintro rfl
    rcases he with z | z
    ·exact nown c b hc z
    ·rw[hc]at z;cases z;exact hb rfl
end
structure Un(fs ex:List Addr)(H H':Hp)(h h':Heap):Prop where
 keep:∀ b o,h.get? b=some o->H b=none->b∉fs->b∉ex->h'.get? b=some o
 slot:∀ b o,h.get? b=some o->H b=none->b∈fs->b∉ex->∃ sl,h'.get? b=some { o with slots:=sl }
 free:∀ b o,h.get? b=some o->H b=none->b∉ex->H' b=none
 there:∀ b o,h.get? b=some o->b∉ex->∃ o',h'.get? b=some o'
 tups:∀ b xs,H b=some (.tup xs)->H' b=some (.tup xs)
 frzs:∀ b o u,H b=some (.frz o u)->H' b=some (.frz o u)
 tbls:∀ b ps,H b=some (.tbl ps)->∃ more,H' b=some (.tbl (ps++more))
 tupo:∀ b xs o,H b=some (.tup xs)->h.get? b=some o->h'.get? b=some o
section
variable{fs fs' ex ex':List Addr}{H H1 H2:Hp}{h h1 h2 h':Heap}{a x e:Addr}{o:HO}
theorem Un.any(u:Un fs ex H H1 h h1){b:Addr}{ob:Obj}(q:h.get? b=some ob)(n:H b=none)(hx:b∉ex):∃ sl,h1.get? b=some { ob with slots:=sl }:=by
 by_cases hb:b∈fs
 ·exact u.slot b ob q n hb hx
 ·exact⟨ob.slots,u.keep b ob q n hb hx⟩
theorem Un.kept(k:∀ b u,h.get? b=some u->h'.get? b=some u):Un fs ex H H h h' :=
 ⟨fun b ob q _ _ _=>k b ob q,fun b ob q _ _ _=>⟨ob.slots,k b ob q⟩,fun _ _ _ n _=>n,fun b ob q _=>⟨ob,k b ob q⟩,fun _ _ q=>q,fun _ _ _ q=>q,fun _ ps q=>⟨#[],by rw[q];simp⟩,fun b _ o _ e=>k b o e⟩
theorem Un.refl:Un fs ex H H h h:=Un.kept fun _ _ q=>q
theorem Un.laid(k:∀ b u,h.get? b=some u->h'.get? b=some u)(hp:h.objs.size<=a)(hn:H a=none):Un fs ex H (upd H a o) h h' where
 keep:=fun b u q _ _ _=>k b u q
 slot:=fun b u q _ _ _=>⟨u.slots,k b u q⟩
 free:=fun b u q n _=>by rw[upd_ne (zAE (zE (zN q) hp))];exact n
 there:=fun b u q _=>⟨u,k b u q⟩
 tups:=fun b xs q=>by rw[upd_ne (ne_of_none q hn)];exact q
 frzs:=fun b u xs q=>by rw[upd_ne (ne_of_none q hn)];exact q
 tbls:=fun b ps q=>⟨#[],by rw[upd_ne (ne_of_none q hn),q];simp⟩
 tupo:=fun b _ o _ e=>k b o e
theorem Un.write(mu:Mut (H x))(he:e=x\/H e=some (.own x))(k:∀ b u,b≠e->h.get? b=some u->h'.get? b=some u)(heo:∃ u,h'.get? e=some u):Un fs ex H (upd H x o) h h':=by
 have hx:∀ b,H b=none->b≠x:=fun b n z=>by subst z;rw[n]at mu;exact mu
 have hb:∀ b,H b=none->b≠e:=fun b n z=>by
  subst z
  rcases he with r | r
  ·exact hx b n r
  ·rw[n]at r;cases r
 have hm:∀ b u,H b=some u->¬ Mut (some u)->b≠x:=fun b u q nm z=>by subst z;rw[q]at mu;exact nm mu
 refine⟨fun b u q n _ _=>k b u (hb b n) q,fun b u q n _ _=>⟨u.slots,k b u (hb b n) q⟩,fun b u q n _=>by rw[upd_ne (hx b n)];exact n,fun b u q _=>?_,
  fun b xs q=>by rw[upd_ne (hm b _ q fun z=>z)];exact q,fun b u xs q=>by rw[upd_ne (hm b _ q fun z=>z)];exact q,fun b ps q=>⟨#[],by rw[upd_ne (hm b _ q fun z=>z),q];simp⟩,fun b xs o q e'=>k b o (fun z=>he.elim (fun r=>hm b _ q (fun z=>z) (z.trans r)) fun r=>by rw[<- z,q]at r;cases r) e'⟩
 by_cases hbe:b=e
 ·subst hbe;exact heo
 ·exact⟨u,k b u hbe q⟩
end
noncomputable def trk(h:Heap)(H:Hp):List Addr:=(List.range h.objs.size).filter fun a=>(H a).isSome
noncomputable def hidT(h:Heap)(H:Hp):Heap:=PySem.W.hideAll h (trk h H)
theorem hidT_size(h:Heap)(H:Hp):(hidT h H).objs.size=h.objs.size:=PySem.W.hideAll_size _ _
theorem hidT_get{h:Heap}{H:Hp}{b:Addr}{o:Obj}(e:h.get? b=some o)(n:H b=none):(hidT h H).get? b=some o :=
 PySem.W.hideAll_get _ e fun hm=>by
  have q:(H b).isSome=true:=(zCF.mp hm).2
  rw[n]at q;simp at q
theorem of_hidT{h:Heap}{H:Hp}{b:Addr}{o:Obj}(e:(hidT h H).get? b=some o):h.get? b=some o/\H b=none:=by
 have e':h.get? b=some o:=PySem.W.of_hideAll (trk h H) e
 refine⟨e',?_⟩
 cases q:H b with
 |none=>rfl
 |some x =>
  have hm:b∈trk h H:=zCF.mpr ⟨zCP.mpr (zN e'),by simp[q]⟩
  have z:(hidT h H).get? b=none:=PySem.W.hideAll_none (trk h H) hm
  rw[z]at e;cases e
open PySem PySem.Spec PyProof.Rows
structure Mod(K:PySem.W.Frag)(mg:Str->Option Value)(base:Heap):Prop where
 kin:K.In base
 glob:base.Ns mainGlobals mg
 blt:∃ mb,base.Ns builtinsNs mb/\∀ x:Str,x≠"__name__"->mb x=bootBuiltins x
 nolimit:base.NoLimit
structure Cx where
 prog:Program
 w:World
 K:PySem.W.Frag
 mg:Str->Option Value
 base:Heap
 A:Around
 N:List Str
 s₀:Shared
 H₀:Hp
 env:Env
 outer:List Env
 stack:List Env
 ex:List Addr
 fn:Str->Bool
 calm:Bool
 pn:List (Addr×Obj)
 xe:Value->Shared->Prop
noncomputable def frs(l:List Env):List Addr:=l.filterMap (·.frame)
noncomputable abbrev Cx.fs(X:Cx):List Addr:=frs X.outer
noncomputable def Vis(sc:Scope)(x:Str):Prop:=sc.names.lookup x=some .local\/sc.names.lookup x=some .cell\/sc.names.lookup x=some .free
noncomputable def Loc(sc:Scope)(x:Str):Prop:=sc.names.lookup x=some .local\/sc.names.lookup x=some .cell
noncomputable def Look(env:Env)(h:Heap)(m:Str->Option Value)(x:Str)(u:Value):Prop :=
 (env.kindOf x=some .local/\m x=some u)\/((env.kindOf x=some .cell\/env.kindOf x=some .free)/\∃ c,env.cells.lookup x=some c/\h.IsCell c (some u))
structure Cx.Ok(X:Cx):Prop where
 mod:Mod X.K X.mg X.base
 kind:X.env.scope.kind = .function
 glob:X.env.globals=mainGlobals
 blt:X.env.builtins=builtinsNs
 above:X.s₀.heap.objs.size<=X.env.locals
 inj:∀ x y c,X.env.cells.lookup x=some c->X.env.cells.lookup y=some c->x=y
 has:∀ x,(X.env.kindOf x=some .cell\/X.env.kindOf x=some .free)->∃ c,X.env.cells.lookup x=some c
 cab:∀ x c,X.fn x=true->X.env.cells.lookup x=some c->X.s₀.heap.objs.size<=c
 hd:X.calm=true->X.A.handled=none
 frames:X.A.frames=some X.stack
 stk:X.stack=X.outer\/(X.stack=X.env :: X.outer/\X.env.frame=some X.env.locals)
 exf:∀ b∈X.ex,b≠X.env.locals/\∀ x c,X.env.cells.lookup x=some c->c≠b
 bs:∀ b o,X.base.get? b=some o->X.s₀.heap.get? b=some o/\X.H₀ b=none
 bsz:X.base.objs.size<=X.s₀.heap.objs.size
 noex:∀ b o,X.base.get? b=some o->b∉X.ex
 exfs:∀ b∈X.ex,b∉X.fs
 funs:X.s₀.heap.FunFrames X.base X.outer
 frf:∀ b∈X.fs,X.H₀ b=none
structure Inv(X:Cx)(pins:List (Addr×Obj))(σ:List (Option V))(H:Hp)(s:Shared):Prop where
 ok:X.Ok
 os:s.os=X.s₀.os
 bare:AllBare s.gens
 base:Un X.fs X.ex X.H₀ H X.s₀.heap s.heap
 loc:∃ m,s.heap.Ns X.env.locals m/\∀ (i:Nat) (x:Str) (v:V),X.N[i]?=some x->σ[i]?=some (some v)->Vis X.env.scope x->∃ u,RelV v u/\Look X.env s.heap m x u
 cell:∀ x c,X.env.cells.lookup x=some c->∃ v,s.heap.IsCell c v
 free:H X.env.locals=none
 freeC:∀ x c,X.env.cells.lookup x=some c->H c=none
 pin:∀ p∈X.pn++pins,s.heap.get? p.1=some p.2/\H p.1=none/\p.1≠X.env.locals/\p.1∉X.fs/\∀ v,p.2.data≠.cell v
 hok:HOk X.prog X.w H s.heap
 len:σ.length=X.N.length
section
variable{X:Cx}{pins:List (Addr×Obj)}{σ:List (Option V)}{H H':Hp}{s:Shared}{h':Heap}
theorem Cx.Ok.nofr(ok:X.Ok){b:Addr}{o:Obj}(e:X.base.get? b=some o):b∉X.fs:=fun hb=>by
 have:=(ok.funs.mem hb).1
 rw[e]at this;cases this
theorem Inv.bs(I:Inv X pins σ H s):∀ b o,X.base.get? b=some o->s.heap.get? b=some o/\H b=none:=fun b o e =>
 ⟨I.base.keep b o (I.ok.bs b o e).1 (I.ok.bs b o e).2 (I.ok.nofr e) (I.ok.noex b o e),I.base.free b o (I.ok.bs b o e).1 (I.ok.bs b o e).2 (I.ok.noex b o e)⟩
theorem Inv.bk(I:Inv X pins σ H s):∀ b o,X.base.get? b=some o->s.heap.get? b=some o:=fun b o e=>(I.bs b o e).1
theorem Inv.mod(I:Inv X pins σ H s):Mod X.K X.mg X.base:=I.ok.mod
theorem Inv.kIn(I:Inv X pins σ H s):X.K.In s.heap:=I.ok.mod.kin.keeps I.bk
theorem Inv.lt(I:Inv X pins σ H s):X.env.locals<s.heap.objs.size:=let ⟨_,hn,_⟩:=I.loc;hn.lt
theorem Inv.sz(I:Inv X pins σ H s):X.s₀.heap.objs.size<=s.heap.objs.size:=zC I.ok.above (zAA I.lt)
theorem Inv.nofs(I:Inv X pins σ H s){a:Addr}(h:s.heap.objs.size<=a):a∉X.fs:=fun hb=>by
 obtain⟨_,o,ho,_⟩:=I.ok.funs.mem hb
 exact absurd (zE (zN ho) (zC I.sz h)) (zAH _)
theorem Inv.cne(I:Inv X pins σ H s):∀ x c,X.env.cells.lookup x=some c->c≠X.env.locals:=fun x c e z=>by
 obtain⟨v,o,ho,hd⟩:=I.cell x c e
 obtain⟨m,⟨o',es,ep,ho',hd',_⟩,_⟩:=I.loc
 rw[z,ho']at ho;cases ho;rw[hd']at hd;cases hd
theorem Inv.funs(I:Inv X pins σ H s):s.heap.FunFrames X.base X.outer:=by
 have all:∀ (l:List Env),(∀ b∈frs l,b∈X.fs)->X.s₀.heap.FunFrames X.base l->s.heap.FunFrames X.base l:=by
  intro l
  induction l with
  |nil=>intro _ _;trivial
  |cons env r ih =>
   intro hs hl
   obtain⟨hk,⟨L,o,hf,hn,ho,hd⟩,hr⟩:=hl
   have hL:L∈X.fs:=hs L (by unfold frs;rw[List.filterMap_cons,hf];exact zT)
   obtain⟨sl,e⟩:=I.base.slot L o ho (I.ok.frf L hL) hL fun z=>I.ok.exfs L z hL
   exact⟨hk,⟨L,_,hf,hn,e,hd⟩,ih (fun b hb=>hs b (by unfold frs;rw[List.filterMap_cons,hf];exact zY _ hb)) hr⟩
 exact all X.outer (fun _ hb=>hb) I.ok.funs
theorem Inv.stack(I:Inv X pins σ H s):s.heap.FunFrames X.base X.stack:=by
 rcases I.ok.stk with e |⟨e,hf⟩
 ·rw[e];exact I.funs
 ·rw[e]
  obtain⟨m,hn,_⟩:=I.loc
  refine .cons (by rw[I.ok.kind];decide) hf hn ?_ I.funs
  exact Heap.get?_none_of_le (zC I.ok.bsz I.ok.above)
theorem Inv.stkSub(I:Inv X pins σ H s):∀ b∈frs X.stack,b∈X.env.locals :: X.fs:=fun b hb=>by
 rcases I.ok.stk with e |⟨e,hf⟩
 ·rw[e]at hb;exact zY _ hb
 ·rw[e]at hb
  unfold frs at hb
  rw[List.filterMap_cons,hf]at hb
  exact hb
theorem Inv.stkFree(I:Inv X pins σ H s):∀ b∈frs X.stack,H b=none:=fun b hb=>by
 rcases zAF.mp (I.stkSub b hb)with e | hb
 ·rw[e];exact I.free
 ·obtain⟨_,o,ho,_⟩:=I.ok.funs.mem hb
  exact I.base.free b o ho (I.ok.frf b hb) fun z=>I.ok.exfs b z hb
theorem Inv.step{g':Array GenState}{t':Nat}{d':Drawn}{ch:List Addr}(I:Inv X pins σ H s)
  (hch:∀ b∈ch,(b∈X.ex\/X.s₀.heap.objs.size<=b)/\b≠X.env.locals/\(∀ x c,X.env.cells.lookup x=some c->c≠b)/\∀ p∈X.pn++pins,p.1≠b)
  (keep:∀ b o,b≠X.env.locals->b∉X.fs->b∉ch->s.heap.get? b=some o->H b=none->h'.get? b=some o)
  (slot:∀ b o,b≠X.env.locals->b∈X.fs->b∉ch->s.heap.get? b=some o->H b=none->∃ sl,h'.get? b=some { o with slots:=sl }) (free:∀ b o,b∉ch->s.heap.get? b=some o->H b=none->H' b=none)
  (there:∀ b o,b∉ch->s.heap.get? b=some o->∃ o',h'.get? b=some o')
  (tups:∀ b xs,H b=some (.tup xs)->H' b=some (.tup xs)) (frzs:∀ b o u,H b=some (.frz o u)->H' b=some (.frz o u)) (tbls:∀ b ps,H b=some (.tbl ps)->∃ more,H' b=some (.tbl (ps++more)))
  (ns:∀ m,s.heap.Ns X.env.locals m->h'.Ns X.env.locals m) (hok:HOk X.prog X.w H' h') (hg:AllBare g') (tupo:∀ b xs o,H b=some (.tup xs)->s.heap.get? b=some o->h'.get? b=some o) :
  Inv X pins σ H' { s with heap:=h',gens:=g',drawn:=d',toks:=t' }:=by
 have neL:∀ b o,X.s₀.heap.get? b=some o->b≠X.env.locals:=fun b o e=>zAE (zE (zN e) I.ok.above)
 have neC:∀ b o,X.s₀.heap.get? b=some o->b∉X.ex->b∉ch:=fun b o e hx hb=>by
  rcases(hch b hb).1 with z | z
  ·exact hx z
  ·exact absurd (zE (zN e) z) (zAH _)
 have cellK:∀ x c,X.env.cells.lookup x=some c->∀ v,s.heap.IsCell c v->h'.IsCell c v:=fun x c e v ⟨o,ho,hd⟩=>by
  have nch:c∉ch:=fun z=>(hch c z).2.2.1 x c e rfl
  by_cases hc:c∈X.fs
  ·obtain⟨sl,q⟩:=slot c o (I.cne x c e) hc nch ho (I.freeC x c e)
   exact⟨_,q,hd⟩
  ·exact⟨o,keep c o (I.cne x c e) hc nch ho (I.freeC x c e),hd⟩
 refine⟨I.ok,I.os,hg,⟨fun b o e n hb hx=>?_,fun b o e n hb hx=>?_,fun b o e n hx=>?_,fun b o e hx=>?_,fun b xs e=>tups b xs (I.base.tups b xs e),fun b o xs e=>frzs b o xs (I.base.frzs b o xs e),fun b ps e=>?_,fun b xs o q e=>tupo b xs o (I.base.tups b xs q) (I.base.tupo b xs o q e)⟩,?_,fun x c e=>?_,?_,fun x c e=>?_,fun p hp=>?_,hok,I.len⟩
 ·exact keep b o (neL b o e) hb (neC b o e hx) (I.base.keep b o e n hb hx) (I.base.free b o e n hx)
 ·obtain⟨sl,e1⟩:=I.base.slot b o e n hb hx
  obtain⟨sl',e2⟩:=slot b _ (neL b o e) hb (neC b o e hx) e1 (I.base.free b o e n hx)
  exact⟨sl',e2⟩
 ·obtain⟨o',e1⟩:=I.base.there b o e hx
  exact free b o' (neC b o e hx) e1 (I.base.free b o e n hx)
 ·obtain⟨o',e1⟩:=I.base.there b o e hx
  exact there b o' (neC b o e hx) e1
 ·obtain⟨m1,e1⟩:=I.base.tbls b ps e
  obtain⟨m2,e2⟩:=tbls b _ e1
  exact⟨m1++m2,by rw[e2,Array.append_assoc]⟩
 ·obtain⟨m,hn,hl⟩:=I.loc
  refine⟨m,ns m hn,fun i x v e1 e2 e3=>?_⟩
  obtain⟨u,r,l⟩:=hl i x v e1 e2 e3
  refine⟨u,r,?_⟩
  rcases l with l |⟨k,c,e,z⟩
  ·exact .inl l
  ·exact .inr ⟨k,c,e,cellK x c e _ z⟩
 ·obtain⟨v,z⟩:=I.cell x c e
  exact⟨v,cellK x c e v z⟩
 ·obtain⟨m,⟨o,_,_,ho,_⟩,_⟩:=I.loc
  exact free _ o (fun z=>(hch _ z).2.1 rfl) ho I.free
 ·obtain⟨v,o,ho,hd⟩:=I.cell x c e
  exact free c o (fun z=>(hch c z).2.2.1 x c e rfl) ho (I.freeC x c e)
 ·obtain⟨e,n,ne,nf,d⟩:=I.pin p hp
  have nch:p.1∉ch:=fun z=>(hch p.1 z).2.2.2 p hp rfl
  exact⟨keep p.1 p.2 ne nf nch e n,free p.1 p.2 nch e n,ne,nf,d⟩
theorem Inv.un{t':Nat}(I:Inv X pins σ H s)(u:Un X.fs [] H H' s.heap h')(hok:HOk X.prog X.w H' h'):Inv X pins σ H' { s with heap:=h',toks:=t' }:=by
 obtain⟨m,⟨o,es,ep,ho,r⟩,_⟩:=id I.loc
 obtain⟨sl,hL⟩:=u.any ho I.free (by simp)
 exact I.step (g':=s.gens) (d':=s.drawn) (ch:=[]) (fun _ z=>nomatch z) (fun b o _ hb _ e n=>u.keep b o e n hb (by simp)) (fun b o _ hb _ e n=>u.slot b o e n hb (by simp)) (fun b o _ e n=>u.free b o e n (by simp)) (fun b o _ e=>u.there b o e (by simp)) u.tups u.frzs u.tbls (fun m' hm=>by
  obtain⟨o',es',ep',ho',r'⟩:=hm
  rw[ho]at ho';cases ho'
  exact⟨_,es',ep',hL,r'⟩) hok I.bare u.tupo
theorem Inv.call{g':Array GenState}{t':Nat}{d':Drawn}{ch:List Addr}(I:Inv X pins σ H s)(u:Un (frs X.stack) ch H H' s.heap h')(hok:HOk X.prog X.w H' h')(hg:AllBare g')
  (hch:∀ b∈ch,(b∈X.ex\/X.s₀.heap.objs.size<=b)/\b≠X.env.locals/\(∀ x c,X.env.cells.lookup x=some c->c≠b)/\∀ p∈X.pn++pins,p.1≠b) :
  Inv X pins σ H' { s with heap:=h',gens:=g',drawn:=d',toks:=t' }:=by
 obtain⟨m,⟨o,es,ep,ho,r⟩,_⟩:=id I.loc
 obtain⟨sl,hL⟩:=u.any ho I.free fun z=>(hch _ z).2.1 rfl
 exact I.step (ch:=ch) hch (fun b o hL hb hc e n=>u.keep b o e n (fun z=>(zAF.mp (I.stkSub b z)).elim hL hb) hc) (fun b o _ _ hc e n=>u.any e n hc) (fun b o hc e n=>u.free b o e n hc) (fun b o hc e=>u.there b o e hc) u.tups u.frzs u.tbls (fun m' hm=>by
  obtain⟨o',es',ep',ho',r'⟩:=hm
  rw[ho]at ho';cases ho'
  exact⟨_,es',ep',hL,r'⟩) hok hg u.tupo
theorem Inv.turned{t':Nat}{it:Addr}(I:Inv X pins σ H s)(k:∀ b o,b≠it->s.heap.get? b=some o->h'.get? b=some o)(hn:H it=none)(hL:it≠X.env.locals)
  (h1:it∈X.ex\/X.s₀.heap.objs.size<=it) (h2:∀ x c,X.env.cells.lookup x=some c->c≠it) (h3:∀ p∈X.pn++pins,p.1≠it):Inv X pins σ H { s with heap:=h',toks:=t' }:=by
 have nit:∀ b u,H b=some u->b≠it:=fun b u e z=>by rw[z,hn]at e;cases e
 refine I.step (g':=s.gens) (d':=s.drawn) (ch:=[it]) (fun b hb=>?_) (fun b o _ _ hc e _=>k b o (fun z=>hc (by simp[z])) e) (fun b o _ _ hc e _=>⟨o.slots,k b o (fun z=>hc (by simp[z])) e⟩) (fun _ _ _ _ n=>n)
  (fun b o hc e=>⟨o,k b o (fun z=>hc (by simp[z])) e⟩) (fun _ _ e=>e) (fun _ _ _ e=>e) (fun b ps e=>⟨#[],by rw[e];simp⟩) (fun m hm=>?_) (fun b u e=>?_) I.bare (fun b xs o q e=>k b o (nit b _ q) e)
 ·have e:b=it:=by simpa using hb
  subst e
  exact⟨h1,hL,h2,h3⟩
 ·obtain⟨o,es,ep,ho,r⟩:=hm
  exact⟨o,es,ep,k _ o (Ne.symm hL) ho,r⟩
 ·refine(I.hok b u e).stay (fun c v hc q=>k c v ?_ q) (fun _ q=>q) fun _ _ q=>q
  rcases hc with z | z
  ·rw[z];exact nit b u e
  ·exact nit c _ z
theorem Inv.tok(I:Inv X pins σ H s)(t:Nat):Inv X pins σ H { s with toks:=t }:=I.un (h':=s.heap) (t':=t) Un.refl I.hok
theorem Inv.kept{t':Nat}(I:Inv X pins σ H s)(k:∀ b u,s.heap.get? b=some u->h'.get? b=some u):Inv X pins σ H { s with heap:=h',toks:=t' }:=I.un (Un.kept k) (I.hok.kept k)
theorem Inv.laid{a:Addr}{o:HO}{t':Nat}(I:Inv X pins σ H s)(k:∀ b u,s.heap.get? b=some u->h'.get? b=some u)(hp:s.heap.objs.size<=a)(new:ObjOk X.prog X.w (upd H a o) h' a o) :
  Inv X pins σ (upd H a o) { s with heap:=h',toks:=t' }:=I.un (Un.laid k hp (I.hok.fresh hp)) (I.hok.laid k hp new)
theorem Inv.write{x e:Addr}{o:HO}{t':Nat}(I:Inv X pins σ H s)(mu:Mut (H x))(he:e=x\/H e=some (.own x))(k:∀ b u,b≠e->s.heap.get? b=some u->h'.get? b=some u)(heo:∃ u,h'.get? e=some u)
  (new:ObjOk X.prog X.w (upd H x o) h' x o):Inv X pins σ (upd H x o) { s with heap:=h',toks:=t' }:=I.un (Un.write mu he k heo) (I.hok.write mu he k heo new)
theorem Inv.weak{σ':List (Option V)}(I:Inv X pins σ H s)(hl:σ'.length=σ.length)(w:∀ (i:Nat) v,σ'[i]?=some (some v)->σ[i]?=some (some v)):Inv X pins σ' H s :=
 ⟨I.ok,I.os,I.bare,I.base,let ⟨m,hn,hl'⟩:=I.loc;⟨m,hn,fun i x v e1 e2 e3=>hl' i x v e1 (w i v e2) e3⟩,I.cell,I.free,I.freeC,I.pin,I.hok,hl.trans I.len⟩
theorem Inv.pins_of{pins':List (Addr×Obj)}(I:Inv X pins σ H s)(h:∀ p∈pins',s.heap.get? p.1=some p.2/\H p.1=none/\p.1≠X.env.locals/\p.1∉X.fs/\∀ v,p.2.data≠.cell v):Inv X pins' σ H s :=
 ⟨I.ok,I.os,I.bare,I.base,I.loc,I.cell,I.free,I.freeC,fun p hp=>(zAD.mp hp).elim (fun z=>I.pin p (zAZ _ z)) (h p),I.hok,I.len⟩
theorem nodup_ix{N:List Str}(hN:N.Nodup){i j:Nat}{x:Str}(a:N[i]?=some x)(b:N[j]?=some x):i=j:=by
 obtain⟨h1,e1⟩:=zH.mp a
 obtain⟨h2,e2⟩:=zH.mp b
 exact(List.getElem_inj hN).mp (e1.trans e2.symm)
theorem store_ok2{M:Model}{A:Around}{E:Value->Shared->Prop}{i:Nat}{x:Str}{v:V}{u:Value}{Q:Unit->Shared->Prop}(I:Inv X pins σ H s)(hN:X.N.Nodup)(hi:X.N[i]?=some x)(hx:Loc X.env.scope x)(r:RelV v u)
  (h:∀ s',Inv X pins (σ.set i (some v)) H s'->(∃ a,Heap.SameBut a s.heap s'.heap/\(a=X.env.locals\/X.env.cells.lookup x=some a))->Q () s') (hf:X.fn x=true\/X.env.scope.names.lookup x=some .local:=by first | exact .inl rfl | exact .inr rfl | assumption):wpAny M A (storeName X.env x u) Q E s:=by
 obtain⟨m,hn,hl⟩:=id I.loc
 have hcls:(X.env.scope.kind == .class ||(X.env.scope.kind == .module && X.env.locals != X.env.globals))=false:=by rw[I.ok.kind];rfl
 have hiσ:i<σ.length:=by rw[I.len];exact(zH.mp hi).1
 have cne:=I.cne
 have tracked:∀ {a:Addr}{h':Heap},(∃ o,s.heap.get? a=some o/\H a=none)->Heap.SameBut a s.heap h'->HOk X.prog X.w H h':=fun {a h'} ha hs b ob e=>by
  obtain⟨_,_,hfree⟩:=ha
  refine(I.hok b ob e).stay (fun c w' hc q=>(hs.2 c ?_).trans q) (fun _ q=>q) fun _ _ q=>q
  rintro rfl
  rcases hc with rfl | hc
  ·rw[hfree]at e;cases e
  ·rw[hfree]at hc;cases hc
 rcases hx with hk | hk
 ·refine wpAny_storeName_local hk hn (fun h' hn' hs=>?_) hcls
  obtain⟨oL,_,_,hoL,_⟩:=id hn
  refine h _ ⟨I.ok,I.os,I.bare,⟨fun b o e n hb hx=>?_,fun b o e n hb hx=>?_,I.base.free,fun b o e hx=>?_,I.base.tups,I.base.frzs,I.base.tbls,fun b xs o q e=>(hs.2 b (zAE (zE (zN e) I.ok.above))).trans (I.base.tupo b xs o q e)⟩,⟨_,hn',fun j y v' e1 e2 e3=>?_⟩,fun y c e=>?_,I.free,I.freeC,fun p hp=>?_,tracked ⟨oL,hoL,I.free⟩ hs,by simpa using I.len⟩ ⟨_,hs,.inl rfl⟩
  ·exact(hs.2 b (zAE (zE (zN e) I.ok.above))).trans (I.base.keep b o e n hb hx)
  ·obtain⟨sl,e1⟩:=I.base.slot b o e n hb hx
   exact⟨sl,(hs.2 b (zAE (zE (zN e) I.ok.above))).trans e1⟩
  ·obtain⟨o',e1⟩:=I.base.there b o e hx
   exact⟨o',(hs.2 b (zAE (zE (zN e) I.ok.above))).trans e1⟩
  ·by_cases hj:j=i
   ·subst hj
    rw[hi]at e1;cases e1
    rw[List.getElem?_set_self hiσ]at e2
    cases e2
    exact⟨u,r,.inl ⟨hk,by simp⟩⟩
   ·rw[List.getElem?_set_ne (Ne.symm hj)]at e2
    obtain⟨u',r',q⟩:=hl j y v' e1 e2 e3
    refine⟨u',r',?_⟩
    rcases q with⟨k,e⟩ |⟨k,c,e,z⟩
    ·refine .inl ⟨k,?_⟩
     have:y≠x:=fun e=>hj (nodup_ix hN e1 (e▸hi))
     simp[this,e]
    ·exact .inr ⟨k,c,e,z.sameBut hs (cne y c e)⟩
  ·obtain⟨w',z⟩:=I.cell y c e
   exact⟨w',z.sameBut hs (cne y c e)⟩
  ·obtain⟨e,n,ne,nf,d⟩:=I.pin p hp
   exact⟨(hs.2 p.1 ne).trans e,n,ne,nf,d⟩
 ·have hfn:X.fn x=true:=by
   rcases hf with z | z
   ·exact z
   ·rw[z]at hk;cases hk
  obtain⟨c,hc⟩:=I.ok.has x (.inl hk)
  obtain⟨w',z⟩:=I.cell x c hc
  refine wpAny_storeName_cell I.ok.kind hk hc z (fun h' hc' hs=>?_)
  obtain⟨oc,hoc,hocd⟩:=id z
  refine h { s with heap:=h' } ⟨I.ok,I.os,I.bare,⟨fun b o e n hb hx=>?_,fun b o e n hb hx=>?_,I.base.free,fun b o e hx=>?_,I.base.tups,I.base.frzs,I.base.tbls,fun b xs o q e=>(hs.2 b (zAE (zE (zN e) (I.ok.cab x c hfn hc)))).trans (I.base.tupo b xs o q e)⟩,⟨m,hn.sameBut hs (Ne.symm (cne x c hc)),fun j y v' e1 e2 e3=>?_⟩,fun y c' e=>?_,I.free,I.freeC,fun p hp=>?_,tracked ⟨oc,hoc,I.freeC x c hc⟩ hs,by simpa using I.len⟩ ⟨c,hs,.inr hc⟩
  ·exact(hs.2 b (zAE (zE (zN e) (I.ok.cab x c hfn hc)))).trans (I.base.keep b o e n hb hx)
  ·obtain⟨sl,e1⟩:=I.base.slot b o e n hb hx
   exact⟨sl,(hs.2 b (zAE (zE (zN e) (I.ok.cab x c hfn hc)))).trans e1⟩
  ·obtain⟨o',e1⟩:=I.base.there b o e hx
   exact⟨o',(hs.2 b (zAE (zE (zN e) (I.ok.cab x c hfn hc)))).trans e1⟩
  ·by_cases hj:j=i
   ·subst hj
    rw[hi]at e1;cases e1
    rw[List.getElem?_set_self hiσ]at e2
    cases e2
    exact⟨u,r,.inr ⟨.inl hk,c,hc,hc'⟩⟩
   ·rw[List.getElem?_set_ne (Ne.symm hj)]at e2
    obtain⟨u',r',q⟩:=hl j y v' e1 e2 e3
    refine⟨u',r',?_⟩
    rcases q with q |⟨k,c',e,z'⟩
    ·exact .inl q
    ·refine .inr ⟨k,c',e,z'.sameBut hs ?_⟩
     rintro rfl
     exact hj (nodup_ix hN e1 (I.ok.inj _ _ _ e hc▸hi))
  ·by_cases hcc:c'=c
   ·subst hcc;exact⟨_,hc'⟩
   ·obtain⟨w2,z2⟩:=I.cell y c' e
    exact⟨w2,z2.sameBut hs hcc⟩
  ·obtain⟨e,n,ne,nf,d⟩:=I.pin p hp
   refine⟨(hs.2 p.1 ?_).trans e,n,ne,nf,d⟩
   intro q
   rw[q,hoc]at e
   have q':oc=p.2:=Option.some.inj e
   exact d w' (by rw[<- q'];exact hocd)
theorem store_ok{M:Model}{A:Around}{E:Value->Shared->Prop}{i:Nat}{x:Str}{v:V}{u:Value}{Q:Unit->Shared->Prop}(I:Inv X pins σ H s)(hN:X.N.Nodup)(hi:X.N[i]?=some x)(hx:Loc X.env.scope x)(r:RelV v u)
  (h:∀ s',Inv X pins (σ.set i (some v)) H s'->Q () s') (hf:X.fn x=true\/X.env.scope.names.lookup x=some .local:=by first | exact .inl rfl | exact .inr rfl | assumption):wpAny M A (storeName X.env x u) Q E s :=
 store_ok2 I hN hi hx r (fun s' I' _=>h s' I') hf
theorem Inv.call'{s':Shared}{ch:List Addr}(I:Inv X pins σ H s)(ho:s'.os=s.os)(u:Un (frs X.stack) ch H H' s.heap s'.heap)(hok:HOk X.prog X.w H' s'.heap)(hg:AllBare s'.gens)
  (hch:∀ b∈ch,(b∈X.ex\/X.s₀.heap.objs.size<=b)/\b≠X.env.locals/\(∀ x c,X.env.cells.lookup x=some c->c≠b)/\∀ p∈X.pn++pins,p.1≠b):Inv X pins σ H' s':=by
 obtain⟨h',g',d',t',o'⟩:=s'
 have e:o'=s.os:=ho
 subst e
 exact I.call (g':=g') (t':=t') (d':=d') u hok hg hch
end
noncomputable abbrev XK:=Value->Option Addr->Hp->Prop
noncomputable abbrev St:=List (Option V)
noncomputable abbrev VK:=V->Hp->Prop
noncomputable abbrev TE:=St->Hp->VK->Prop
noncomputable abbrev TT:=St->Hp->(Bool->Hp->Prop)->Prop
noncomputable abbrev TA:=St->Hp->(List V->Hp->Prop)->Prop
structure Ends where
 nx:St->Hp->Prop
 rt:VK
 bk:St->Hp->Prop:=fun _ _=>False
 ct:St->Hp->Prop:=fun _ _=>False
noncomputable abbrev TS:=Ends->St->Hp->Prop
noncomputable def EP(X:Cx)(pins:List (Addr×Obj))(σ:St)(Q:VK)(u:Value)(s':Shared):Prop:=∃ v H',Inv X pins σ H' s'/\RelV v u/\Q v H'
noncomputable def TP(X:Cx)(pins:List (Addr×Obj))(σ:St)(Q:Bool->Hp->Prop)(b:Bool)(s':Shared):Prop:=∃ H',Inv X pins σ H' s'/\Q b H'
noncomputable def AP(X:Cx)(pins:List (Addr×Obj))(σ:St)(Q:List V->Hp->Prop)(us:List Value)(s':Shared):Prop:=∃ vs H',Inv X pins σ H' s'/\Vals vs us/\Q vs H'
noncomputable def SP(X:Cx)(pins:List (Addr×Obj))(D:Ends)(f:Flow)(s':Shared):Prop :=
 match f with
 | .next=>∃ σ' H',Inv X pins σ' H' s'/\D.nx σ' H'
 | .brk=>∃ σ' H',Inv X pins σ' H' s'/\D.bk σ' H'
 | .cont=>∃ σ' H',Inv X pins σ' H' s'/\D.ct σ' H'
 | .ret u=>∃ v σ' H',Inv X pins σ' H' s'/\RelV v u/\D.rt v H'
noncomputable def PE(X:Cx)(e:Expr)(t:TE):Prop :=
 ∀ (pins:List (Addr×Obj)) (s:Shared) (σ:St) (H:Hp) (Q:VK),Inv X pins σ H s->t σ H Q->wpAny (model X.prog X.w) X.A (eval e X.env) (EP X pins σ Q) X.xe s
noncomputable def PT(X:Cx)(e:Expr)(t:TT):Prop :=
 ∀ (pins:List (Addr×Obj)) (s:Shared) (σ:St) (H:Hp) (Q:Bool->Hp->Prop),Inv X pins σ H s->t σ H Q->wpAny (model X.prog X.w) X.A (isTrue e X.env (eval e X.env)) (TP X pins σ Q) X.xe s
noncomputable def PW(X:Cx)(e:Expr)(t:TT):Prop :=
 ∀ (whole:Sem Value) (pins:List (Addr×Obj)) (s:Shared) (σ:St) (H:Hp) (Q:Bool->Hp->Prop),Inv X pins σ H s->t σ H Q->wpAny (model X.prog X.w) X.A (isTrue e X.env whole) (TP X pins σ Q) X.xe s
theorem PW.pt{X:Cx}{e:Expr}{t:TT}(h:PW X e t):PT X e t:=h _
noncomputable def PA(X:Cx)(es:List Expr)(t:TA):Prop :=
 ∀ (pos:Pos) (pins:List (Addr×Obj)) (s:Shared) (σ:St) (H:Hp) (Q:List V->Hp->Prop),Inv X pins σ H s->t σ H Q->wpAny (model X.prog X.w) X.A (spliced (backTo pos (starEach es X.env))) (AP X pins σ Q) X.xe s
noncomputable def PS(X:Cx)(st:Stmt)(t:TS):Prop :=
 ∀ (pins:List (Addr×Obj)) (s:Shared) (σ:St) (H:Hp) (D:Ends),Inv X pins σ H s->t D σ H->wpAny (model X.prog X.w) X.A (exec st X.env) (SP X pins D) X.xe s
noncomputable def PSs(X:Cx)(st:List Stmt)(t:TS):Prop :=
 ∀ (pins:List (Addr×Obj)) (s:Shared) (σ:St) (H:Hp) (D:Ends),Inv X pins σ H s->t D σ H->wpAny (model X.prog X.w) X.A (execs st X.env) (SP X pins D) X.xe s
theorem thn{α:Type}{t:Sem α}{Q Q':α->Shared->Prop}{M:Model}{A:Around}{E:Value->Shared->Prop}{s:Shared}(h:wpAny M A t Q E s)(hQ:∀ a s,Q a s->Q' a s):wpAny M A t Q' E s:=wpAny_mono h hQ fun _ _ x=>x
open PySem PySem.Spec PyProof.Rows
section
variable{X:Cx}
inductive Ex3{t0 t1 t2:Type}(P:t0->t1->t2->Prop):Prop where
 |mk (a0:t0) (a1:t1) (a2:t2) (h:P a0 a1 a2)
inductive Ex4{t0 t1 t2 t3:Type}(P:t0->t1->t2->t3->Prop):Prop where
 |mk (a0:t0) (a1:t1) (a2:t2) (a3:t3) (h:P a0 a1 a2 a3)
inductive Ex5{t0 t1 t2 t3 t4:Type}(P:t0->t1->t2->t3->t4->Prop):Prop where
 |mk (a0:t0) (a1:t1) (a2:t2) (a3:t3) (a4:t4) (h:P a0 a1 a2 a3 a4)
inductive Ex13{t0 t1 t2 t3 t4 t5 t6 t7 t8 t9 t10 t11 t12:Type}(P:t0->t1->t2->t3->t4->t5->t6->t7->t8->t9->t10->t11->t12->Prop):Prop where
 |mk (a0:t0) (a1:t1) (a2:t2) (a3:t3) (a4:t4) (a5:t5) (a6:t6) (a7:t7) (a8:t8) (a9:t9) (a10:t10) (a11:t11) (a12:t12) (h:P a0 a1 a2 a3 a4 a5 a6 a7 a8 a9 a10 a11 a12)
inductive tVarI(i:Nat)(σ:St)(H:Hp)(Q:VK):Prop where
 |mk (v:_) (h1:σ[i]?=some (some v)) (h2:Q v H)
noncomputable def tVar(i:Nat):TE:=fun σ H Q=>tVarI i σ H Q
noncomputable def tC(v:V):TE:=fun _ H Q=>Q v H
theorem pe_var{i:Nat}{x:Str}{pos:Pos}(hN:X.N[i]?=some x)(hv:Vis X.env.scope x)(hd:(x ==("__debug__":Str))=false:=by decide)(hcd:(x ==("__classdict__":Str))=false:=by decide):PE X (.Name x pos) (tVar i):=by
 intro pins s σ H Q I h
 obtain⟨v,e,h⟩:=h
 obtain⟨m,hn,hl⟩:=I.loc
 obtain⟨u,r,l⟩:=hl i x v hN e hv
 have fin:EP X pins σ Q u s:=⟨v,H,I,r,h⟩
 rcases l with⟨hk,hm⟩ |⟨hk,c,hc,hcell⟩
 ·exact wpAny_Name (wpAny_loadName_local I.ok.kind hk hn hm fin) hd
 ·rcases hk with hk | hk
  ·exact wpAny_Name (wpAny_loadName_cell I.ok.kind hk hc hcell fin) hd
  ·exact wpAny_Name (wpAny_loadName_free I.ok.kind hk hc hcell fin hcd) hd
theorem pe_int{i j pos}:PE X (.Constant (.int i) j pos) (tC (.int i)):=fun _ _ _ H _ I h=>wpAny_Constant_int ⟨.int i,H,I.tok _,⟨_,rfl⟩,h⟩
theorem pe_bl{b j pos}:PE X (.Constant (.bool b) j pos) (tC (.bl b)):=fun _ _ _ H _ I h=>Constant_bool ⟨.bl b,H,I,rfl,h⟩
theorem pe_non{j pos}:PE X (.Constant .none j pos) (tC .non):=fun _ _ _ H _ I h=>Constant_none ⟨.non,H,I,rfl,h⟩
noncomputable def Gl(X:Cx)(x:Str):Prop:=X.env.kindOf x=some .globalImplicit
theorem ld_glob{E:Value->Shared->Prop}{pins:List (Addr×Obj)}{s:Shared}{σ:St}{H:Hp}{x:Str}{u:Value}{pos:Pos}{Q:Value->Shared->Prop}(I:Inv X pins σ H s)(hg:Gl X x)(hm:X.mg x=some u)(h:Q u s)
  (hd:(x ==("__debug__":Str))=false:=by decide):wpAny (model X.prog X.w) X.A (eval (.Name x pos) X.env) Q E s :=
 Calls.Name_function_global I.ok.kind hg (Calls.loadGlobal_global (by rw[I.ok.glob];exact I.mod.glob.keeps I.bk) hm h) hd
theorem ld_blt{E:Value->Shared->Prop}{pins:List (Addr×Obj)}{s:Shared}{σ:St}{H:Hp}{x:Str}{u:Value}{pos:Pos}{Q:Value->Shared->Prop}(I:Inv X pins σ H s)(hg:Gl X x)(hm:X.mg x=none)(hv:bootBuiltins x=some u)(h:Q u s)
  (hn:x≠"__name__":=by decide) (hd:(x ==("__debug__":Str))=false:=by decide):wpAny (model X.prog X.w) X.A (eval (.Name x pos) X.env) Q E s:=by
 obtain⟨mb,h1,h2⟩:=I.mod.blt
 exact Calls.Name_function_global I.ok.kind hg (Calls.loadGlobal_builtin (by rw[I.ok.glob];exact I.mod.glob.keeps I.bk) hm (by rw[I.ok.blt];exact h1.keeps I.bk) ((h2 x hn).trans hv) h) hd
theorem pe_glob{x:Str}{v:V}{u:Value}{pos:Pos}(hg:Gl X x)(hm:X.mg x=some u)(r:RelV v u)(hd:(x ==("__debug__":Str))=false:=by decide):PE X (.Name x pos) (tC v) :=
 fun _ _ _ H _ I h=>ld_glob I hg hm ⟨v,H,I,r,h⟩ hd
theorem pe_bltn{x:Str}{v:V}{u:Value}{pos:Pos}(hg:Gl X x)(hm:X.mg x=none)(hv:bootBuiltins x=some u)(r:RelV v u)(hn:x≠"__name__":=by decide)(hd:(x ==("__debug__":Str))=false:=by decide):PE X (.Name x pos) (tC v) :=
 fun _ _ _ H _ I h=>ld_blt I hg hm hv ⟨v,H,I,r,h⟩ hn hd
variable{a b:Expr}{ta tb:TE}{pos:Pos}
noncomputable def PC(X:Cx)(op:CmpOp)(a b:Expr)(t:TE):Prop :=
 ∀ (pins:List (Addr×Obj)) (s:Shared) (σ:St) (H:Hp) (Q:VK),Inv X pins σ H s->t σ H Q ->
  wpAny (model X.prog X.w) X.A (eval a X.env) (fun v s₁=>wpAny (model X.prog X.w) X.A (eval b X.env) (fun u s₂=>wpAny (model X.prog X.w) X.A (compareOp op v u) (EP X pins σ Q) X.xe s₂) X.xe s₁) X.xe s
theorem nobehind(b:Expr){op:CmpOp}(h:op≠.In)(h2:op≠.NotIn):behindInMarks op b=false:=by
 have e1:(op == CmpOp.In)=false:=by cases op <;> first | rfl | exact absurd rfl h
 have e2:(op == CmpOp.NotIn)=false:=by cases op <;> first | rfl | exact absurd rfl h2
 cases b <;> simp[behindInMarks,e1,e2]
noncomputable def tIsN(ta:TE):TE:=fun σ H Q=>ta σ H fun x H1=>Q (.bl (decide (x = .non))) H1
theorem RelV.none_iff{x:V}{v:Value}(r:RelV x v):(v == Value.none)=decide (x = .non):=by
 cases x with
 |non=>cases r;rfl
 |bl _=>cases r;rfl
 |int _=>obtain⟨t,rfl⟩:=r;rfl
 |str _=>obtain⟨t,rfl⟩:=r;rfl
 |byt _=>obtain⟨t,rfl⟩:=r;rfl
 |flt _=>obtain⟨t,rfl⟩:=r;rfl
 |ref _=>cases r;rfl
 |ty _=>cases r;rfl
theorem pc_isN{j pos'}(ha:PE X a ta):PC X .Is a (.Constant .none j pos') (tIsN ta):=by
 intro pins s σ H Q I h
 refine thn (ha pins s σ H _ I h) fun v s1 ⟨x,H1,I1,r1,q1⟩=>?_
 exact Constant_none (is_none_gen ⟨.bl _,H1,I1,by rw[r1.none_iff];rfl,q1⟩)
inductive ExB(x:V)(Q:Bool->Prop):Prop where
 |mk (c:Bool) (e:x = .bl c) (h:Q c)
noncomputable def tB(t:TE):TT:=fun σ H Q=>t σ H fun x H1=>ExB x fun c=>Q c H1
theorem pe_cmp{op:CmpOp}{t:TE}(h:PC X op a b t)(h1:behindInMarks op b=false:=by first | exact nobehind _ (by decide) (by decide) | rfl):PE X (.Compare a [op] [b] pos) t:=fun pins s σ H Q I hw=>wpAny_Compare1 (h pins s σ H Q I hw) h1
theorem pt_cmp{op:CmpOp}{t:TE}(h:PC X op a b t)(h1:behindInMarks op b=false:=by first | exact nobehind _ (by decide) (by decide) | rfl):PT X (.Compare a [op] [b] pos) (tB t):=by
 intro pins s σ H Q I hw
 refine wpAny_isTrue_Compare1 (thn (h pins s σ H _ I hw) fun v s1 h1=>thn h1 fun u s2 h2=>thn h2 fun c s3 ⟨x,H1,I1,r1,q1⟩=>?_) h1
 obtain⟨d,rfl,q⟩:=q1
 cases r1
 exact wpAny_truthy_bool ⟨H1,I1,q⟩
theorem pt_val{e:Expr}{t:TE}(h:PE X e t)(he:∀ whole,isTrue e X.env whole=(do let v <- whole;standAt e.pos;holding [v] (truthy v)):=by intro _;rfl):PT X e (tB t):=by
 intro pins s σ H Q I hw
 refine isTrue_plain (thn (h pins s σ H _ I hw) fun v s1 ⟨x,H1,I1,r1,q1⟩=>?_) (he _)
 obtain⟨d,rfl,q⟩:=q1
 cases r1
 exact wpAny_truthy_bool ⟨H1,I1,q⟩
variable{tA tB':TT}{rest:List Expr}
noncomputable def tAnd(t u:TT):TT:=fun σ H Q=>t σ H fun c H1=>if c=true then u σ H1 Q else Q false H1
noncomputable def tOr(t u:TT):TT:=fun σ H Q=>t σ H fun c H1=>if c=true then Q true H1 else u σ H1 Q
noncomputable def tNot(t:TT):TT:=fun σ H Q=>t σ H fun c H1=>Q (!c) H1
theorem pw_and1(ha:PT X a tA):PW X (.BoolOp .And [a] pos) tA:=by
 intro wh pins s σ H Q I h
 refine isTrue_and (thn (ha pins s σ H Q I h) fun c s1 e=>?_)
 cases c with
 |true=>exact isTrue_and_nil e
 |false=>exact e
theorem pw_or1(ha:PT X a tA):PW X (.BoolOp .Or [a] pos) tA:=by
 intro wh pins s σ H Q I h
 refine isTrue_or (thn (ha pins s σ H Q I h) fun c s1 e=>?_)
 cases c with
 |false=>exact isTrue_or_nil e
 |true=>exact e
theorem pw_and(ha:PT X a tA)(hb:PW X (.BoolOp .And (b :: rest) pos) tB'):PW X (.BoolOp .And (a :: b :: rest) pos) (tAnd tA tB'):=by
 intro wh pins s σ H Q I h
 refine isTrue_and (thn (ha pins s σ H _ I h) fun c s1 ⟨H1,I1,q1⟩=>?_)
 cases c with
 |true=>exact hb wh pins s1 σ H1 Q I1 q1
 |false=>exact⟨H1,I1,q1⟩
theorem pw_or(ha:PT X a tA)(hb:PW X (.BoolOp .Or (b :: rest) pos) tB'):PW X (.BoolOp .Or (a :: b :: rest) pos) (tOr tA tB'):=by
 intro wh pins s σ H Q I h
 refine isTrue_or (thn (ha pins s σ H _ I h) fun c s1 ⟨H1,I1,q1⟩=>?_)
 cases c with
 |true=>exact⟨H1,I1,q1⟩
 |false=>exact hb wh pins s1 σ H1 Q I1 q1
theorem pt_not(ha:PT X a tA):PT X (.UnaryOp .Not a pos) (tNot tA):=by
 intro pins s σ H Q I h
 exact isTrue_not (ha pins s σ H (fun c H1=>Q (!c) H1) I h)
noncomputable def tAndV(ta tb:TE):TE:=fun σ H Q=>ta σ H fun x H1=>ExB x fun c=>if c=true then tb σ H1 Q else Q (.bl false) H1
noncomputable def tNotV(ta:TE):TE:=fun σ H Q=>ta σ H fun x H1=>ExB x fun c=>Q (.bl (!c)) H1
theorem pe_one{op}{t:TE}(h:PE X a t):PE X (.BoolOp op [a] pos) t:=fun pins s σ H Q I hw=>BoolOp_one (h pins s σ H Q I hw)
theorem pe_and(ha:PE X a ta)(hb:PE X (.BoolOp .And (b :: rest) pos) tb):PE X (.BoolOp .And (a :: b :: rest) pos) (tAndV ta tb):=by
 intro pins s σ H Q I h
 refine BoolOp_and (thn (ha pins s σ H _ I h) fun v s1 ⟨x,H1,I1,r1,q1⟩=>?_)
 obtain⟨c,rfl,q1⟩:=q1
 cases r1
 refine wpAny_truthy_bool ?_
 cases c with
 |true=>exact hb pins s1 σ H1 Q I1 q1
 |false=>exact⟨.bl false,H1,I1,rfl,q1⟩
theorem pe_not(ha:PE X a ta):PE X (.UnaryOp .Not a pos) (tNotV ta):=by
 intro pins s σ H Q I h
 refine UnaryOp_ (thn (ha pins s σ H _ I h) fun v s1 ⟨x,H1,I1,r1,q1⟩=>?_)
 obtain⟨c,rfl,q1⟩:=q1
 cases r1
 exact not_of (wpAny_truthy_bool ⟨.bl (!c),H1,I1,rfl,q1⟩)
noncomputable def tIf(t:TT)(ta tb:TE):TE:=fun σ H Q=>t σ H fun c H1=>if c=true then ta σ H1 Q else tb σ H1 Q
theorem pe_ifExp{c:Expr}(hc:PT X c tA)(ha:PE X a ta)(hb:PE X b tb):PE X (.IfExp c a b pos) (tIf tA ta tb):=by
 intro pins s σ H Q I h
 refine wpAny_IfExp (thn (hc pins s σ H _ I h) fun d s1 ⟨H1,I1,q1⟩=>?_)
 cases d with
 |true=>exact ha pins s1 σ H1 Q I1 q1
 |false=>exact hb pins s1 σ H1 Q I1 q1
end
open PySem PySem.Spec PyProof.Rows
noncomputable def SqL(K:PySem.W.Frag)(H:Hp)(a:Addr)(xs:List V):Prop :=
 Rd H a (.lst xs) \/
  ∃ (o:Obj) (its:Array Value) (n:Nat),K.lookup a=some o/\o.cls = .type "list"/\o.dict=none/\o.data = .seq its n/\its.size<=sizeLine/\Vals xs its.toList
noncomputable def SqT(K:PySem.W.Frag)(H:Hp)(a:Addr)(xs:List V):Prop :=
 Rd H a (.tup xs) \/
  ∃ (o:Obj) (its:Array Value) (n:Nat),K.lookup a=some o/\o.cls = .type "tuple"/\o.data = .seq its n/\its.size<=sizeLine/\Vals xs its.toList
noncomputable def absV:Value->Option V
 | .none=>some .non
 | .bool b=>some (.bl b)
 | .int i _=>some (.int i)
 | .str x _=>some (.str x)
 | .bytes b _=>some (.byt b)
 | .float b _=>some (.flt b)
 | .ref a=>some (.ref a)
 | .type n=>some (.ty n)
 | _=>none
theorem RelV.abs{x:V}{u:Value}(r:RelV x u):absV u=some x:=by
 cases x with
 |non=>cases r;rfl
 |bl _=>cases r;rfl
 |int _=>obtain⟨t,rfl⟩:=r;rfl
 |str _=>obtain⟨t,rfl⟩:=r;rfl
 |byt _=>obtain⟨t,rfl⟩:=r;rfl
 |flt _=>obtain⟨t,rfl⟩:=r;rfl
 |ref _=>cases r;rfl
 |ty _=>cases r;rfl
theorem RelV.inj{x y:V}{u:Value}(r:RelV x u)(q:RelV y u):x=y:=Option.some.inj (r.abs.symm.trans q.abs)
theorem Vals.inj:∀ {xs ys:List V}{us:List Value},Vals xs us->Vals ys us->xs=ys:=by
 intro xs ys us h
 induction h generalizing ys with
 |nil=>intro h';cases h';rfl
 |cons r t ih =>
  intro h'
  cases h' with
  |cons r' t'=>rw[r.inj r',ih t']
section
variable{X:Cx}{pins:List (Addr×Obj)}{σ:St}{H:Hp}{s:Shared}{a:Addr}{xs ys:List V}
theorem SqL.of{K:PySem.W.Frag}(h:H a=some (.lst xs)):SqL K H a xs:=.inl (.inl h)
theorem SqT.of{K:PySem.W.Frag}(h:H a=some (.tup xs)):SqT K H a xs:=.inl (.inl h)
theorem Inv.list(I:Inv X pins σ H s)(h:SqL X.K H a xs):∃ its:List Value,Vals xs its/\PlainL s.heap a its.toArray/\xs.length<=sizeLine:=by
 rcases h with h |⟨o,its,n,hk,hc,hd,hs,hz,r⟩
 ·obtain⟨z,its,n,r,e⟩:=h.ok I.hok
  exact⟨its,r,⟨_,n,e,rfl,rfl,rfl⟩,z⟩
 ·refine⟨its.toList,r,⟨o,n,I.kIn a o hk,hc,hd,by simpa using hs⟩,?_⟩
  have e:=r.length
  simp only[zBT]at e
  exact zh9 hz e
theorem Inv.tuple(I:Inv X pins σ H s)(h:SqT X.K H a xs):∃ its:List Value,Vals xs its/\IsTup s.heap a its.toArray/\xs.length<=sizeLine:=by
 rcases h with h |⟨o,its,n,hk,hc,hs,hz,r⟩
 ·obtain⟨z,its,r,p⟩:=h.ok I.hok
  exact⟨its,r,p,z⟩
 ·refine⟨its.toList,r,⟨o,I.kIn a o hk,hc,n,by simpa using hs⟩,?_⟩
  have e:=r.length
  simp only[zBT]at e
  exact zh9 hz e
theorem Inv.list_inj(I:Inv X pins σ H s)(h:SqL X.K H a xs)(h':SqL X.K H a ys):xs=ys:=by
 obtain⟨its,r,⟨o,n,e,_,_,d⟩,_⟩:=I.list h
 obtain⟨its',r',⟨o',n',e',_,_,d'⟩,_⟩:=I.list h'
 rw[e]at e';cases e'
 rw[d]at d'
 injection d' with d1 _
 have:its=its':=by simpa using congrArg Array.toList d1
 subst this
 exact r.inj r'
theorem Inv.tuple_inj(I:Inv X pins σ H s)(h:SqT X.K H a xs)(h':SqT X.K H a ys):xs=ys:=by
 obtain⟨its,r,⟨o,e,_,n,d⟩,_⟩:=I.tuple h
 obtain⟨its',r',⟨o',e',_,n',d'⟩,_⟩:=I.tuple h'
 rw[e]at e';cases e'
 rw[d]at d'
 injection d' with d1 _
 have:its=its':=by simpa using congrArg Array.toList d1
 subst this
 exact r.inj r'
end
noncomputable abbrev Cx.wish(X:Cx)(E:Value->Shared->Prop):Cx:={ X with xe:=E }
noncomputable abbrev Cx.nox(X:Cx):Cx:=X.wish fun _ _=>False
theorem Cx.Ok.wish{X:Cx}(ok:X.Ok)(E:Value->Shared->Prop):(X.wish E).Ok :=
 ⟨ok.mod,ok.kind,ok.glob,ok.blt,ok.above,ok.inj,ok.has,ok.cab,ok.hd,ok.frames,ok.stk,ok.exf,ok.bs,ok.bsz,ok.noex,ok.exfs,ok.funs,ok.frf⟩
theorem Cx.Ok.unwish{X:Cx}{E:Value->Shared->Prop}(ok:(X.wish E).Ok):X.Ok :=
 ⟨ok.mod,ok.kind,ok.glob,ok.blt,ok.above,ok.inj,ok.has,ok.cab,ok.hd,ok.frames,ok.stk,ok.exf,ok.bs,ok.bsz,ok.noex,ok.exfs,ok.funs,ok.frf⟩
section
variable{X:Cx}{pins:List (Addr×Obj)}{σ:St}{H:Hp}{s:Shared}{E:Value->Shared->Prop}
theorem Inv.wish(I:Inv X pins σ H s)(E:Value->Shared->Prop):Inv (X.wish E) pins σ H s:=⟨I.ok.wish E,I.os,I.bare,I.base,I.loc,I.cell,I.free,I.freeC,I.pin,I.hok,I.len⟩
theorem Inv.unwish(I:Inv (X.wish E) pins σ H s):Inv X pins σ H s:=⟨I.ok.unwish,I.os,I.bare,I.base,I.loc,I.cell,I.free,I.freeC,I.pin,I.hok,I.len⟩
theorem SP.unwish{D:Ends}{f:Flow}{s':Shared}(h:SP (X.wish E) pins D f s'):SP X pins D f s':=by
 cases f with
 |next=>obtain⟨σ',H',I,q⟩:=h;exact⟨σ',H',I.unwish,q⟩
 |brk=>obtain⟨σ',H',I,q⟩:=h;exact⟨σ',H',I.unwish,q⟩
 |cont=>obtain⟨σ',H',I,q⟩:=h;exact⟨σ',H',I.unwish,q⟩
 |ret u=>obtain⟨v,σ',H',I,r,q⟩:=h;exact⟨v,σ',H',I.unwish,r,q⟩
theorem PSs.nox{st:List Stmt}{t:TS}(h:PSs X.nox st t):PSs X st t:=fun pins s σ H D I hw =>
 wpAny_mono (h pins s σ H D (I.wish _) hw) (fun _ _ q=>q.unwish) fun _ _ z=>False.elim z
end
section
variable{X:Cx}{st:Stmt}{rest:List Stmt}{t u:TS}{e:Expr}{te:TE}{pos:Pos}
noncomputable def tNext:TS:=fun D σ H=>D.nx σ H
noncomputable def tSeq(t u:TS):TS:=fun D σ H=>t { D with nx:=u D } σ H
theorem pss_nil:PSs X [] tNext:=fun _ _ σ H _ I h=>wpAny_execs_nil ⟨σ,H,I,h⟩
theorem pss_cons(h1:PS X st t)(h2:PSs X rest u):PSs X (st :: rest) (tSeq t u):=by
 intro pins s σ H D I h
 refine wpAny_execs_cons (thn (h1 pins s σ H { D with nx:=u D } I h) fun f s1 q=>?_)
 cases f with
 |next =>
  obtain⟨σ',H',I',q⟩:=q
  exact h2 pins s1 σ' H' D I' q
 |ret v=>exact q
 |brk=>exact q
 |cont=>exact q
theorem pss_one(h1:PS X st t):PSs X [st] t:=by
 intro pins s σ H D I h
 refine wpAny_execs_cons (thn (h1 pins s σ H D I h) fun f s1 q=>?_)
 cases f with
 |next=>exact wpAny_execs_nil q
 |ret v=>exact q
 |brk=>exact q
 |cont=>exact q
noncomputable def tRet(te:TE):TS:=fun D σ H=>te σ H D.rt
theorem ps_ret(he:PE X e te):PS X (.Return (some e) pos) (tRet te):=by
 intro pins s σ H D I h
 exact wpAny_Return_some (thn (he pins s σ H _ I h) fun v s1 ⟨x,H1,I1,r1,q1⟩=>⟨x,σ,H1,I1,r1,q1⟩)
noncomputable def tIfS(c:TT)(t u:TS):TS:=fun D σ H=>c σ H fun b H1=>if b=true then t D σ H1 else u D σ H1
theorem ps_if{c:Expr}{a b:List Stmt}{tc:TT}(hc:PT X c tc)(ha:PSs X a t)(hb:PSs X b u):PS X (.If c a b pos) (tIfS tc t u):=by
 intro pins s σ H D I h
 refine wpAny_If (thn (hc pins s σ H _ I h) fun d s1 ⟨H1,I1,q1⟩=>?_)
 cases d with
 |true=>exact ha pins s1 σ H1 D I1 q1
 |false=>exact hb pins s1 σ H1 D I1 q1
noncomputable def tNever:TS:=fun _ _ _=>False
theorem pss_never{sts:List Stmt}:PSs X sts tNever:=fun _ _ _ _ _ _ h=>h.elim
end
noncomputable abbrev TG:=V->St->Hp->(St->Hp->Prop)->Prop
noncomputable abbrev TGs:=List V->St->Hp->(St->Hp->Prop)->Prop
noncomputable def PG(X:Cx)(target:Expr)(t:TG):Prop :=
 ∀ (pins:List (Addr×Obj)) (s:Shared) (σ:St) (H:Hp) (v:V) (u:Value) (Q:St->Hp->Prop),Inv X pins σ H s->RelV v u->t v σ H Q ->
  wpAny (model X.prog X.w) X.A (assign target X.env u) (fun _ s'=>∃ σ' H',Inv X pins σ' H' s'/\Q σ' H') X.xe s
noncomputable def PGs(X:Cx)(ts:List Expr)(t:TGs):Prop :=
 ∀ (pins:List (Addr×Obj)) (s:Shared) (σ:St) (H:Hp) (vs:List V) (us:List Value) (Q:St->Hp->Prop),Inv X pins σ H s->Vals vs us->t vs σ H Q ->
  wpAny (model X.prog X.w) X.A (assignInOrder ((assignEach ts X.env).map (·.2)) us) (fun _ s'=>∃ σ' H',Inv X pins σ' H' s'/\Q σ' H') X.xe s
noncomputable abbrev TSet:=V->V->V->Hp->(Hp->Prop)->Prop
noncomputable def PSet(X:Cx)(t:TSet):Prop :=
 ∀ (pins:List (Addr×Obj)) (s:Shared) (σ:St) (H:Hp) (o i v:V) (ov iv u:Value) (Q:Hp->Prop),Inv X pins σ H s->RelV o ov->RelV i iv->RelV v u->t o i v H Q ->
  wpAny (model X.prog X.w) X.A (setItem ov iv u) (fun _ s'=>∃ H',Inv X pins σ H' s'/\Q H') X.xe s
section
variable{X:Cx}{pos:Pos}
noncomputable def gName(i:Nat):TG:=fun v σ H Q=>Q (σ.set i (some v)) H
theorem pg_name{i:Nat}{x:Str}(hN:X.N.Nodup)(hi:X.N[i]?=some x)(hx:Loc X.env.scope x)(hf:X.fn x=true\/X.env.scope.names.lookup x=some .local:=by first | exact .inl rfl | exact .inr rfl | assumption):PG X (.Name x pos) (gName i):=by
 intro pins s σ H v u Q I r h
 exact wpAny_assign_Name (store_ok I hN hi hx r (fun s' I'=>⟨_,H,I',h⟩) hf)
noncomputable def gNil:TGs:=fun vs σ H Q=>vs=[]/\Q σ H
inductive gConsI(t:TG)(u:TGs)(vs:List V)(σ:St)(H:Hp)(Q:St->Hp->Prop):Prop where
 |mk (v:_) (r:_) (h1:vs=v :: r) (h2:t v σ H fun σ' H'=>u r σ' H' Q)
noncomputable def gCons(t:TG)(u:TGs):TGs:=fun vs σ H Q=>gConsI t u vs σ H Q
theorem pgs_nil:PGs X [] gNil:=by
 intro pins s σ H vs us Q I r h
 obtain⟨e,h⟩:=h
 subst e
 cases r
 exact assignInOrder_nil ⟨σ,H,I,h⟩
theorem pgs_cons{e:Expr}{es:List Expr}{t:TG}{u:TGs}(h1:PG X e t)(h2:PGs X es u)
  (hs:(assignEach (e :: es) X.env).map (·.2)=assign e X.env :: (assignEach es X.env).map (·.2):=by rfl):PGs X (e :: es) (gCons t u):=by
 intro pins s σ H vs us Q I r h
 obtain⟨v,vr,e1,h⟩:=h
 subst e1
 cases r with
 |cons r rr =>
  rw[hs]
  refine assignInOrder_cons (thn (h1 pins s σ H _ _ _ I r h) fun _ s1 ⟨σ1,H1,I1,q1⟩=>?_)
  exact h2 pins s1 σ1 H1 _ _ Q I1 rr q1
inductive gTupI(K:PySem.W.Frag)(n:Nat)(t:TGs)(v:V)(σ:St)(H:Hp)(Q:St->Hp->Prop):Prop where
 |mk (a:_) (xs:_) (h1:v = .ref a) (h2:SqT K H a xs) (h3:xs.length=n) (h4:t xs σ H Q)
noncomputable def gTup(K:PySem.W.Frag)(n:Nat)(t:TGs):TG:=fun v σ H Q=>gTupI K n t v σ H Q
theorem pg_tup{es:List Expr}{k:Nat}{t:TGs}{n:Nat}(hc:X.calm=true)(h:PGs X es t)
  (hn:(assignEach es X.env).length=n:=by rfl) (hst:(assignEach es X.env).findIdx? (·.1)=none:=by rfl):PG X (.Tuple es k pos) (gTup X.K n t):=by
 intro pins s σ H v u Q I r hw
 obtain⟨a,xs,e1,hq,hl,hw⟩:=hw
 subst e1
 cases r
 obtain⟨its,rv,ht,hz⟩:=I.tuple hq
 refine assign_Tuple_tuple (I.ok.hd hc) ht (by simp[hn,<- hl,rv.length]) hst fun h' hx=>?_
 have I1:Inv X pins σ H { s with heap:=h' }:=I.kept (t':=s.toks) fun b o e=>hx b o (zAE (zN e)) e
 exact h pins _ σ H xs _ Q I1 (by simpa using rv) hw
noncomputable def gSub(to ti:TE)(t:TSet):TG:=fun v σ H Q=>to σ H fun o H1=>ti σ H1 fun i H2=>t o i v H2 fun H3=>Q σ H3
theorem pg_sub{o i:Expr}{to ti:TE}{t:TSet}(ho:PE X o to)(hi:PE X i ti)(hs:PSet X t)
  (ha:∀ v,assign (.Subscript o i pos) X.env v=(do
   let ov <- holding [v] (eval o X.env)
   let iv <- holding [v,ov] (eval i X.env)
   standAt pos
   holding [v,ov,iv] (setItem ov iv v)
   release [v,ov,iv] []):=by intro _;rfl):PG X (.Subscript o i pos) (gSub to ti t):=by
 intro pins s σ H v u Q I r h
 rw[ha]
 refine zA (wpAny_holding (thn (ho pins s σ H _ I h) fun ov s1 ⟨x,H1,I1,r1,q1⟩=>?_))
 refine zA (wpAny_holding (thn (hi pins s1 σ H1 _ I1 q1) fun iv s2 ⟨y,H2,I2,r2,q2⟩=>?_))
 refine zA (wpAny_standAt (zA (wpAny_holding (thn (hs pins s2 σ H2 x y v ov iv u _ I2 r1 r2 r q2) fun _ s3 ⟨H3,I3,q3⟩=>?_))))
 exact wpAny_release ⟨σ,H3,I3,q3⟩
noncomputable def tAsg(te:TE)(g:TG):TS:=fun D σ H=>te σ H fun x H1=>g x σ H1 D.nx
theorem ps_asg{tg e:Expr}{te:TE}{g:TG}(he:PE X e te)(hg:PG X tg g)(hs:swapsWithSole [tg] e pos.line X.env=pure false:=by rfl)(hw:swappedStores [tg] e X.env=pure none:=by rfl)
  (h1:(assignEach [tg] X.env).map (·.2)=[assign tg X.env]:=by rfl):PS X (.Assign [tg] e pos) (tAsg te g):=by
 intro pins s σ H D I h
 refine wpAny_Assign_stores (thn (he pins s σ H _ I h) fun v s1 ⟨x,H1,I1,r1,q1⟩=>?_) hs hw
 rw[h1]
 exact thn (hg pins s1 σ H1 x v _ I1 r1 q1) fun _ s2 q=>q
theorem ps_set{i:Nat}{x:Str}{e:Expr}{te:TE}{pos':Pos}(hN:X.N.Nodup)(hi:X.N[i]?=some x)(hx:Loc X.env.scope x)(he:PE X e te)(hs:swapsWith e (some (.Name x pos')) pos.line X.env=pure false:=by rfl)(hf:X.fn x=true\/X.env.scope.names.lookup x=some .local:=by first | exact .inl rfl | exact .inr rfl | assumption) :
  PS X (.Assign [.Name x pos'] e pos) (tAsg te (gName i)):=by
 intro pins s σ H D I h
 refine wpAny_Assign_Name (thn (he pins s σ H _ I h) fun v s1 ⟨y,H1,I1,r1,q1⟩=>?_) hs
 exact store_ok I1 hN hi hx r1 (fun s2 I2=>⟨_,H1,I2,q1⟩) hf
noncomputable def tPar(i j:Nat)(ta:TA):TS:=fun D σ H=>ta σ H fun vs H1=>∃ v w,vs=[v,w]/\D.nx ((σ.set i (some v)).set j (some w)) H1
theorem ps_par{i j:Nat}{x y:Str}{a b:Expr}{ta:TA}{px py pt:Pos}{kt k2 pt2}(hc:X.calm=true)(hN:X.N.Nodup)(hi:X.N[i]?=some x)(hj:X.N[j]?=some y)(hij:i≠j)
  (hx:X.env.scope.names.lookup x=some .local) (hy:X.env.scope.names.lookup y=some .local) (ha:PA X [a,b] ta)
  (hw:swappedStores [.Tuple [.Name x px,.Name y py] kt pt] (.Tuple [a,b] k2 pt2) X.env=pure (some [x,y]))
  (hs:swapsWithSole [.Tuple [.Name x px,.Name y py] kt pt] (.Tuple [a,b] k2 pt2) pos.line X.env=pure false:=by rfl) :
  PS X (.Assign [.Tuple [.Name x px,.Name y py] kt pt] (.Tuple [a,b] k2 pt2) pos) (tPar i j ta):=by
 intro pins s σ H D I h
 rw[exec_Assign_arm]
 refine zA (wpAny_standAt ?_)
 rw[hs]
 refine zA (zG ?_)
 rw[if_neg (by decide)]
 refine zA (Tuple_ (thn (ha _ pins s σ H _ I h) fun us s1 ⟨vs,H1,I1,r1,q1⟩=>?_))
 obtain⟨v,w,e1,q1⟩:=q1
 subst e1
 obtain⟨u1,u2,rfl,rv,rw'⟩:∃ u1 u2,us=[u1,u2]/\RelV v u1/\RelV w u2:=by
  cases r1 with
  |cons p q =>
   cases q with
   |cons p' q' =>
    cases q'
    exact⟨_,_,rfl,p,p'⟩
 refine wpAny_newObj_type ?_ (by show 2<=sizeLine;decide)
 have I2:Inv X pins σ H1 { s1 with heap:=s1.heap.push { cls:=.type "tuple",data:=.seq [u1,u2].toArray } }:=I1.kept (t':=s1.toks) fun b o e=>zD _ e
 rw[hw]
 refine zA (zG ?_)
 show wpAny (model X.prog X.w) X.A (do rule "assign.swapped-stores";let items <- unpackItems (.ref s1.heap.objs.size) 2 none;assignInOrder [fun v=>bindName X.env y v,fun v=>bindName X.env x v] items.reverse;pure Flow.next) _ _ _
 refine zA (wpAny_rule (zA (unpackItems_tuple (items:=#[u1,u2]) (I.ok.hd hc) (IsTup.new s1.heap _) fun h' hx'=>?_)))
 have I3:=I2.kept (h':=h') (t':=s1.toks) fun b o e=>hx' b o (zAE (zN e)) e
 show wpAny _ _ (assignInOrder [fun v=>bindName X.env y v,fun v=>bindName X.env x v] [u2,u1] >>= fun _=>pure Flow.next) _ _ _
 refine zA (assignInOrder_cons (wpAny_bindName (store_ok I3 hN hj (.inl hy) rw' (fun s2 I4=>?_) (.inr hy))))
 refine assignInOrder_cons (wpAny_bindName (store_ok I4 hN hi (.inl hx) rv (fun s3 I5=>assignInOrder_nil (zG ?_)) (.inr hx)))
 rw[List.set_comm _ _ (Ne.symm hij)]at I5
 exact⟨_,H1,I5,q1⟩
end
section
variable{X:Cx}{pos:Pos}
noncomputable def tWhile(c:TT)(tb:TS):TS:=fun D σ H=>∃ W:Nat->St->Hp->Prop,(∃ m,W m σ H)/\∀ m σ H,W m σ H ->
 c σ H fun b H1=>if b=true then ∃ N:St->Hp->Prop,(∀ σ' H',N σ' H'->∃ m',m'<m/\W m' σ' H')/\tb { D with nx:=N,ct:=N,bk:=D.nx } σ H1 else D.nx σ H1
theorem ps_while{c:Expr}{body:List Stmt}{tc:TT}{tb:TS}(hp:PassesOwn (model X.prog X.w) X.A X.env X.xe)(hc:PT X c tc)(hb:PSs X body tb):PS X (.While c body [] pos) (tWhile tc tb):=by
 intro pins s σ H D I h
 obtain⟨W,⟨m0,w0⟩,turn⟩:=h
 refine wpAny_While (codeAny_whileLoop (fun n s'=>∃ σ' H',Inv X pins σ' H' s'/\W n σ' H') ?_ m0 ⟨σ,H,I,w0⟩)
 rintro n s1 ⟨σ1,H1,I1,w1⟩
 refine wpAny_passesOwn hp (thn (hc pins s1 σ1 H1 _ I1 (turn n σ1 H1 w1)) fun b s2 ⟨H2,I2,q2⟩=>?_)
 cases b with
 |true =>
  obtain⟨N,hN,q2⟩:=q2
  rw[if_pos rfl]
  refine wpAny_passesOwn hp (thn (hb pins s2 σ1 H2 _ I2 q2) fun f s3 q3=>?_)
  cases f with
  |next =>
   obtain⟨σ3,H3,I3,n3⟩:=q3
   obtain⟨m',hm,w3⟩:=hN σ3 H3 n3
   exact⟨m',hm,σ3,H3,I3,w3⟩
  |cont =>
   obtain⟨σ3,H3,I3,n3⟩:=q3
   obtain⟨m',hm,w3⟩:=hN σ3 H3 n3
   exact⟨m',hm,σ3,H3,I3,w3⟩
  |brk=>exact q3
  |ret v=>exact q3
 |false =>
  rw[if_neg zW]
  exact wpAny_execs_nil ⟨σ1,H2,I2,q2⟩
end
structure It where
 go:Nat->Hp->Prop
 yld:Nat->Hp->V->Hp->Prop
 stop:Nat->Hp->Prop
noncomputable def FpOk(X:Cx)(pins:List (Addr×Obj))(H:Hp)(b:Addr):Prop :=
 H b=none/\b≠X.env.locals/\b∉X.fs/\(b∈X.ex\/X.s₀.heap.objs.size<=b)/\(∀ x c,X.env.cells.lookup x=some c->c≠b)/\∀ p∈X.pn++pins,p.1≠b
theorem Inv.fpOk{X:Cx}{pins:List (Addr×Obj)}{σ:St}{H H':Hp}{s:Shared}{b:Addr}(I:Inv X pins σ H s)(hb:s.heap.objs.size<=b)(hn:H' b=none):FpOk X pins H' b:=by
 refine⟨hn,zBO (zE I.lt hb),I.nofs hb,.inr (zC I.sz hb),fun x c e z=>?_,fun p hp z=>?_⟩
 ·obtain⟨v,q⟩:=I.cell x c e
  exact absurd (zE q.lt (by rw[z];exact hb)) (zAH _)
 ·exact absurd (zE (zN (I.pin p hp).1) (by rw[z];exact hb)) (zAH _)
structure Turn(P:Program)(w:World)(K:PySem.W.Frag)(tg:Expr)(J:It)(fp:List Addr)(it:Addr)(tn:Nat->Heap->Prop):Prop where
 mem:it∈fp
 obj:∀ i h,tn i h->∀ b∈fp,∃ o,h.get? b=some o/\∀ v,o.data≠.cell v
 keep:∀ i h h',tn i h->(∀ b∈fp,∀ o,h.get? b=some o->h'.get? b=some o)->tn i h'
 item:∀ (X:Cx),X.prog=P->X.w=w->X.K=K->X.calm=true->∀ (i:Nat) (pins:List (Addr×Obj)) (s:Shared) (σ:St) (H:Hp) (E:Value->Shared->Prop),Inv X pins σ H s->(∀ b∈fp,FpOk X pins H b)->tn i s.heap->J.go i H ->
  wpAny (model P w) X.A (pyNext (.ref it)) (fun r s1=>∃ u,r=some u /\
   wpAny (model P w) X.A (letOwnedTupleGo tg (.ref it) u) (fun _ s2=>∃ x H',Inv X pins σ H' s2/\RelV x u/\J.yld i H x H'/\tn (i+1) s2.heap/\∀ b∈fp,H' b=none) E s1) E s
 done:∀ (X:Cx),X.prog=P->X.w=w->X.K=K->X.calm=true->∀ (i:Nat) (pins:List (Addr×Obj)) (s:Shared) (σ:St) (H:Hp) (E:Value->Shared->Prop),Inv X pins σ H s->(∀ b∈fp,FpOk X pins H b)->tn i s.heap->J.stop i H ->
  wpAny (model P w) X.A (pyNext (.ref it)) (fun r s1=>r=none/\Inv X pins σ H s1) E s
 self:∀ (A:Around) (i:Nat) (s:Shared) (Q:Value->Shared->Prop) (E:Value->Shared->Prop),tn i s.heap->Q (.ref it) s->wpAny (model P w) A (pyIter (.ref it)) Q E s
noncomputable abbrev TI:=St->Hp->(It->Hp->Prop)->Prop
noncomputable def PIE(X:Cx)(pins:List (Addr×Obj))(σ:St)(tg:Expr)(R:It->Hp->Prop)(itv:Value)(s2:Shared):Prop :=
 ∃ (it:Addr) (fp:List Addr) (tn:Nat->Heap->Prop) (J:It) (H':Hp),itv = .ref it/\Inv X pins σ H' s2/\Turn X.prog X.w X.K tg J fp it tn/\tn 0 s2.heap/\(∀ b∈fp,FpOk X pins H' b)/\R J H'
noncomputable def PI(X:Cx)(tg iter:Expr)(wi:TI):Prop :=
 ∀ (pins:List (Addr×Obj)) (s:Shared) (σ:St) (H:Hp) (R:It->Hp->Prop),Inv X pins σ H s->wi σ H R ->
  wpAny (model X.prog X.w) X.A (eval iter X.env) (fun v s1=>wpAny (model X.prog X.w) X.A (pyIter v) (PIE X pins σ tg R) X.xe s1) X.xe s
theorem go_of {M : Model} {A : Around} {E : Value → Shared → Prop} {s : Shared} {tg : Expr} {it : Addr} {u : Value} {o : Obj} {n : String} {vs : Array Value} {Q : Unit → Shared → Prop} (ho : s.heap.get? it = some o) (hc : o.cls = .type n) (hd : o.data = .fields vs)
    (hn : ["enumerate", "zip", "dict_itemiterator", "dict_reverseitemiterator", "odict_iterator", "itertools.zip_longest", "itertools.pairwise"].contains n = false) (hQ : Q () s) : wpAny M A (letOwnedTupleGo tg (.ref it) u) Q E s := by
  unfold letOwnedTupleGo
  cases tg <;> first
    | exact zG hQ
    | (cases u <;> first
        | exact zG hQ
        | (refine zA (wpAny_load ho ?_)
           rw [hc, hd]
           show wpAny M A (if (["enumerate", "zip", "dict_itemiterator", "dict_reverseitemiterator", "odict_iterator", "itertools.zip_longest", "itertools.pairwise"].contains n && vs[0]? == some (rawInt _)) = true then _ else _) Q E s
           rw [if_neg (by intro h; rw [hn, Bool.false_and] at h; cases h)]
           exact zG hQ))
noncomputable def Itl(K:PySem.W.Frag)(a:Addr):It :=
 ⟨fun i H=>∃ xs x,SqL K H a xs/\xs[i]?=some x,fun i H x H'=>H'=H/\∀ xs,SqL K H a xs->xs[i]?=some x,fun i H=>∃ xs,SqL K H a xs/\xs.length<=i⟩
noncomputable def Itt(K:PySem.W.Frag)(a:Addr):It :=
 ⟨fun i H=>∃ xs x,SqT K H a xs/\xs[i]?=some x,fun i H x H'=>H'=H/\∀ xs,SqT K H a xs->xs[i]?=some x,fun i H=>∃ xs,SqT K H a xs/\xs.length<=i⟩
noncomputable def Itr(lo:Int)(n:Nat):It:=⟨fun i _=>i<n,fun i H x H'=>H'=H/\x = .int (lo+i),fun i _=>n<=i⟩
theorem turn_list{P:Program}{w:World}{K:PySem.W.Frag}{tg:Expr}(a it:Addr):Turn P w K tg (Itl K a) [it] it (fun i h=>h.IsListIter it a i)where
 mem:=by simp
 obj:=fun i h st b hb=>by
  have e:b=it:=by simpa using hb
  subst e
  obtain⟨o,e,c,d⟩:=st
  exact⟨o,e,fun v z=>by rw[d]at z;cases z⟩
 keep:=fun i h h' st k=>st.at fun o e=>k it (by simp) o e
 item:=by
  intro X hP hw hK hc i pins s σ H E I hf st hg
  subst hP hw hK
  obtain⟨xs,x,hq,hx⟩:=hg
  obtain⟨its,rv,p,hz⟩:=I.list hq
  obtain⟨u,hu,ru⟩:=rv.get hx
  obtain⟨f0,f1,f2,f3,f4,f5⟩:=hf it (by simp)
  refine wpAny_pyNext_list_item st p.isList (x:=u) (by simpa using hu) fun h' st' sb=>?_
  have I1:Inv X pins σ H { s with heap:=h' }:=I.turned (t':=s.toks) (fun b o hb e=>(sb.2 b hb).trans e) f0 f1 f3 f4 f5
  obtain⟨o,e,c,d⟩:=id st'
  exact⟨u,rfl,go_of (s:={ s with heap:=h' }) e c d (by decide) ⟨x,H,I1,ru,⟨rfl,fun ys hy=>by rw[I.list_inj hy hq];exact hx⟩,st',fun b hb=>(hf b hb).1⟩⟩
 done:=by
  intro X hP hw hK hc i pins s σ H E I hf st hg
  subst hP hw hK
  obtain⟨xs,hq,hx⟩:=hg
  obtain⟨its,rv,p,hz⟩:=I.list hq
  obtain⟨f0,f1,f2,f3,f4,f5⟩:=hf it (by simp)
  have hl:=rv.length
  exact wpAny_pyNext_list_end (I.ok.hd hc) st p.isList (by simp;exact zh9 hx (Eq.symm hl)) fun h' eb=>⟨rfl,I.turned (t':=s.toks) (fun b o hb e=>eb b o hb e) f0 f1 f3 f4 f5⟩
 self:=fun _ _ _ _ _ st h=>wpAny_pyIter_listiter st h
theorem turn_tuple{P:Program}{w:World}{K:PySem.W.Frag}{tg:Expr}(a it:Addr):Turn P w K tg (Itt K a) [it] it (fun i h=>h.IsTupleIter it a i)where
 mem:=by simp
 obj:=fun i h st b hb=>by
  have e:b=it:=by simpa using hb
  subst e
  obtain⟨o,e,c,d⟩:=st
  exact⟨o,e,fun v z=>by rw[d]at z;cases z⟩
 keep:=fun i h h' st k=>st.at fun o e=>k it (by simp) o e
 item:=by
  intro X hP hw hK hc i pins s σ H E I hf st hg
  subst hP hw hK
  obtain⟨xs,x,hq,hx⟩:=hg
  obtain⟨its,rv,p,hz⟩:=I.tuple hq
  obtain⟨u,hu,ru⟩:=rv.get hx
  obtain⟨f0,f1,f2,f3,f4,f5⟩:=hf it (by simp)
  refine wpAny_pyNext_tuple_item st (show s.heap.IsTuple a its.toArray from p) (x:=u) (by simpa using hu) fun h' st' sb=>?_
  have I1:Inv X pins σ H { s with heap:=h' }:=I.turned (t':=s.toks) (fun b o hb e=>(sb.2 b hb).trans e) f0 f1 f3 f4 f5
  obtain⟨o,e,c,d⟩:=id st'
  exact⟨u,rfl,go_of (s:={ s with heap:=h' }) e c d (by decide) ⟨x,H,I1,ru,⟨rfl,fun ys hy=>by rw[I.tuple_inj hy hq];exact hx⟩,st',fun b hb=>(hf b hb).1⟩⟩
 done:=by
  intro X hP hw hK hc i pins s σ H E I hf st hg
  subst hP hw hK
  obtain⟨xs,hq,hx⟩:=hg
  obtain⟨its,rv,p,hz⟩:=I.tuple hq
  obtain⟨f0,f1,f2,f3,f4,f5⟩:=hf it (by simp)
  have hl:=rv.length
  exact wpAny_pyNext_tuple_end (I.ok.hd hc) st (show s.heap.IsTuple a its.toArray from p) (by simp;exact zh9 hx (Eq.symm hl)) fun h' eb=>⟨rfl,I.turned (t':=s.toks) (fun b o hb e=>eb b o hb e) f0 f1 f3 f4 f5⟩
 self:=fun _ _ _ _ _ st h=>wpAny_pyIter_tupleiter st h
theorem turn_range{P:Program}{w:World}{K:PySem.W.Frag}{tg:Expr}(it:Addr)(lo:Int)(n:Nat):Turn P w K tg (Itr lo n) [it] it (fun i h=>IsRangeIter h it (lo+(i:Nat) * 1) ((n:Int)-(i:Nat)) 1)where
 mem:=by simp
 obj:=fun i h st b hb=>by
  have e:b=it:=by simpa using hb
  subst e
  exact⟨_,st,fun v z=>by
   have z':Data.fields _=Data.cell v:=z
   cases z'⟩
 keep:=fun i h h' st k=>k it (by simp) _ st
 item:=by
  intro X hP hw hK hc i pins s σ H E I hf st hg
  subst hP hw hK
  obtain⟨f0,f1,f2,f3,f4,f5⟩:=hf it (by simp)
  have W:=Walks.range (prog:=X.prog) (w:=X.w) (I.ok.hd hc) it lo 1 n
  refine W.item i s _ _ hg st fun v h' tk hv st' kk=>?_
  obtain⟨t,rfl⟩:=hv
  have I1:Inv X pins σ H { s with heap:=h',toks:=tk }:=I.turned (fun b o hb e=>kk b o (by simpa using hb) e) f0 f1 f3 f4 f5
  refine⟨_,rfl,go_of (s:={ s with heap:=h',toks:=tk }) (n:="range_iterator") st' rfl rfl (by decide) ⟨.int (lo+i),H,I1,⟨t,?_⟩,⟨rfl,rfl⟩,st',fun b hb=>(hf b hb).1⟩⟩
  rw[Int.mul_one]
 done:=by
  intro X hP hw hK hc i pins s σ H E I hf st hg
  subst hP hw hK
  obtain⟨f0,f1,f2,f3,f4,f5⟩:=hf it (by simp)
  exact wpAny_pyNext_range_end (I.ok.hd hc) st (by have:n<=i:=hg;lia) fun h' eb=>⟨rfl,I.turned (t':=s.toks) (fun b o hb e=>eb b o hb e) f0 f1 f3 f4 f5⟩
 self:=fun _ _ _ _ _ st h=>wpAny_pyIter_rangeiter st h
open PySem PySem.Spec PyProof.Rows
section
variable{X:Cx}{tg:Expr}
inductive ExS(x:V)(S Q:Addr->Prop):Prop where
 |mk (a:Addr) (e:x = .ref a) (s:S a) (h:Q a)
noncomputable def iList(K:PySem.W.Frag)(tl:TE):TI:=fun σ H R=>tl σ H fun x H1=>ExS x (fun a=>∃ xs,SqL K H1 a xs) fun a=>R (Itl K a) H1
noncomputable def iTup(K:PySem.W.Frag)(tl:TE):TI:=fun σ H R=>tl σ H fun x H1=>ExS x (fun a=>∃ xs,SqT K H1 a xs) fun a=>R (Itt K a) H1
theorem pi_list{l:Expr}{tl:TE}(hl:PE X l tl):PI X tg l (iList X.K tl):=by
 intro pins s σ H R I h
 refine thn (hl pins s σ H _ I h) fun v s1 ⟨x,H1,I1,r1,q1⟩=>?_
 obtain⟨a,e,⟨xs,hq⟩,q⟩:=q1
 subst e
 cases r1
 obtain⟨its,rv,p,hz⟩:=I1.list hq
 refine wpAny_pyIter_list p.isList ?_
 refine⟨s1.heap.objs.size,[s1.heap.objs.size],_,_,H1,rfl,I1.kept (t':=s1.toks) fun b o e=>zD _ e,turn_list a _,⟨_,zS _ rfl,rfl,rfl⟩,fun b hb=>?_,q⟩
 have e:b=s1.heap.objs.size:=by simpa using hb
 subst e
 exact I1.fpOk (zJ _) (I1.hok.fresh (zJ _))
theorem pi_tup{l:Expr}{tl:TE}(hl:PE X l tl):PI X tg l (iTup X.K tl):=by
 intro pins s σ H R I h
 refine thn (hl pins s σ H _ I h) fun v s1 ⟨x,H1,I1,r1,q1⟩=>?_
 obtain⟨a,e,⟨xs,hq⟩,q⟩:=q1
 subst e
 cases r1
 obtain⟨its,rv,p,hz⟩:=I1.tuple hq
 refine wpAny_pyIter_tuple (show s1.heap.IsTuple a its.toArray from p) ?_
 refine⟨s1.heap.objs.size,[s1.heap.objs.size],_,_,H1,rfl,I1.kept (t':=s1.toks) fun b o e=>zD _ e,turn_tuple a _,⟨_,zS _ rfl,rfl,rfl⟩,fun b hb=>?_,q⟩
 have e:b=s1.heap.objs.size:=by simpa using hb
 subst e
 exact I1.fpOk (zJ _) (I1.hok.fresh (zJ _))
theorem range_it{pins:List (Addr×Obj)}{σ:St}{H:Hp}{s:Shared}{R:It->Hp->Prop}{E:Value->Shared->Prop}{lo hi:Int}{t u v:Tok}{tk:Nat}(I:Inv X pins σ H s)(h1:-(2 ^ 62)<=lo)(h2:lo<2 ^ 62)(h3:-(2 ^ 62)<=hi)(h4:hi<2 ^ 62)
  (q:R (Itr lo (hi-lo).toNat) H):wpAny (model X.prog X.w) X.A (pyIter (.ref s.heap.objs.size)) (PIE X pins σ tg R) E { s with heap:=s.heap.push { cls:=.type "range",data:=.fields #[.int lo t,.int hi u,.int 1 v] },toks:=tk }:=by
 refine wpAny_pyIter_range (IsRange.new ..) (small_one h1 h2 h3 h4) ?_
 have I1:Inv X pins σ H { s with heap:=s.heap.push { cls:=.type "range",data:=.fields #[.int lo t,.int hi u,.int 1 v] },toks:=tk }:=I.kept fun b o e=>zD _ e
 refine⟨(s.heap.push { cls:=.type "range",data:=.fields #[.int lo t,.int hi u,.int 1 v] }).objs.size,[(s.heap.push { cls:=.type "range",data:=.fields #[.int lo t,.int hi u,.int 1 v] }).objs.size],_,_,H,rfl,
  I1.kept (t':=tk) fun b o e=>zD _ e,turn_range _ lo (hi-lo).toNat,?_,fun b hb=>?_,q⟩
 ·have e1:lo+((0:Nat):Int) * 1=lo:=by simp
  have e2:(((hi-lo).toNat:Nat):Int)-((0:Nat):Int)=Builtin.Range.rangeSize lo hi 1:=by rw[rangeSize_one];split <;> lia
  show IsRangeIter _ _ (lo+((0:Nat):Int) * 1) ((((hi-lo).toNat:Nat):Int)-((0:Nat):Int)) 1
  rw[e1,e2]
  exact zS _ rfl
 ·have e:b=(s.heap.push { cls:=.type "range",data:=.fields #[.int lo t,.int hi u,.int 1 v] }).objs.size:=by simpa using hb
  subst e
  exact I1.fpOk (zJ _) (I1.hok.fresh (zJ _))
noncomputable def iRng1(ta:TA):TI:=fun σ H R=>ta σ H fun vs H1=>∃ j:Int,vs=[.int j]/\-(2 ^ 62)<=j/\j<2 ^ 62/\R (Itr 0 j.toNat) H1
noncomputable def iRng2(ta:TA):TI:=fun σ H R=>ta σ H fun vs H1=>∃ i j:Int,vs=[.int i,.int j]/\(-(2 ^ 62)<=i/\i<2 ^ 62/\-(2 ^ 62)<=j/\j<2 ^ 62)/\R (Itr i (j-i).toNat) H1
theorem pi_range1{a:Expr}{ta:TA}{p pos:Pos}(hg:Gl X "range")(hm:X.mg "range" = none)(ha:PA X [a] ta)(hs:starEach [a] X.env=[(false,eval a X.env)]:=by rfl):PI X tg (.Call (.Name "range" p) [a] [] pos) (iRng1 ta):=by
 intro pins s σ H R I h
 refine Call_ (ld_blt I hg hm boot_range (PyProof.Rows.callWith_type1 (thn (ha pos pins s σ H _ I h) fun us s1 ⟨vs,H1,I1,r1,q1⟩=>?_) hs rfl))
 obtain⟨j,e,q1,q2,q⟩:=q1
 subst e
 cases r1 with
 |cons r rr =>
  cases rr
  obtain⟨t,rfl⟩:=r
  exact call_range_1 (range_it I1 (by exact zjc) (by lia) q1 q2 (by simpa using q))
theorem pi_range2{a b:Expr}{ta:TA}{p pos:Pos}(hg:Gl X "range")(hm:X.mg "range" = none)(ha:PA X [a,b] ta)(hs:starEach [a,b] X.env=[(false,eval a X.env),(false,eval b X.env)]:=by rfl)(hs2:starEach [b] X.env=[(false,eval b X.env)]:=by rfl) :
  PI X tg (.Call (.Name "range" p) [a,b] [] pos) (iRng2 ta):=by
 intro pins s σ H R I h
 refine Call_ (ld_blt I hg hm boot_range (PyProof.Rows.callWith_type1 (thn (ha pos pins s σ H _ I h) fun us s1 ⟨vs,H1,I1,r1,q1⟩=>?_) (by rw[hs,hs2]) (by rw[hs2];rfl)))
 obtain⟨i,j,e,⟨q1,q2,q3,q4⟩,q⟩:=q1
 subst e
 cases r1 with
 |cons r rr =>
  cases rr with
  |cons r' rr =>
   cases rr
   obtain⟨t,rfl⟩:=r
   obtain⟨t',rfl⟩:=r'
   exact call_range_2 (range_it I1 q1 q2 q3 q4 q)
noncomputable def tFor(wi:TI)(g:TG)(tb:TS):TS:=fun D σ H=>wi σ H fun J H1=>∃ W:Nat->Nat->St->Hp->Prop,(∃ m,W 0 m σ H1)/\∀ i m σ H,W i m σ H ->
 (J.stop i H/\D.nx σ H)\/(J.go i H/\∃ N:St->Hp->Prop,(∀ σ' H',N σ' H'->∃ m',m'<m/\W (i+1) m' σ' H')/\∀ x H',J.yld i H x H'->g x σ H' fun σ2 H2=>tb { D with nx:=N,ct:=N,bk:=D.nx } σ2 H2)
noncomputable def pinsAt(fp:List Addr)(h:Heap):List (Addr×Obj):=fp.filterMap fun b=>(h.get? b).map fun o=>(b,o)
theorem mem_pinsAt{fp:List Addr}{h:Heap}{b:Addr}{o:Obj}(hb:b∈fp)(e:h.get? b=some o):(b,o)∈pinsAt fp h:=List.mem_filterMap.mpr ⟨b,hb,by rw[e];rfl⟩
theorem of_pinsAt{fp:List Addr}{h:Heap}{p:Addr×Obj}(hp:p∈pinsAt fp h):p.1∈fp/\h.get? p.1=some p.2:=by
 obtain⟨b,hb,e⟩:=List.mem_filterMap.mp hp
 cases q:h.get? b with
 |none=>rw[q]at e;cases e
 |some o =>
  rw[q]at e
  have e':(b,o)=p:=Option.some.inj e
  subst e'
  exact⟨hb,q⟩
theorem Inv.pinned{pins:List (Addr×Obj)}{σ:St}{H:Hp}{s:Shared}{fp:List Addr}(I:Inv X pins σ H s)(hf:∀ b∈fp,FpOk X pins H b)(ho:∀ b∈fp,∃ o,s.heap.get? b=some o/\∀ v,o.data≠.cell v):Inv X (pins++pinsAt fp s.heap) σ H s :=
 I.pins_of fun p hp=>(zAD.mp hp).elim (fun z=>I.pin p (zP _ z)) fun z=>by
  obtain⟨hb,e⟩:=of_pinsAt z
  obtain⟨f0,f1,f2,_⟩:=hf p.1 hb
  obtain⟨o,e',d⟩:=ho p.1 hb
  rw[e]at e';cases e'
  exact⟨e,f0,f1,f2,d⟩
theorem Inv.unpinned{pins pl:List (Addr×Obj)}{σ:St}{H:Hp}{s:Shared}(I:Inv X (pins++pl) σ H s):Inv X pins σ H s:=I.pins_of fun p hp=>I.pin p (zP _ (zAZ _ hp))
theorem ps_for{iter:Expr}{body:List Stmt}{wi:TI}{g:TG}{tb:TS}{pos:Pos}(hp:PassesOwn (model X.prog X.w) X.A X.env X.xe)(hc:X.calm=true)(hi:PI X tg iter wi)(hg:PG X tg g)(hb:PSs X body tb)
  (hs:∀ x,foldedSetIterable iter X.env x=pure x:=by intro _;rfl):PS X (.For tg iter body [] pos) (tFor wi g tb):=by
 intro pins s σ H D I h
 refine wpAny_For (thn (hi pins s σ H _ I h) fun v s1 h1=>thn h1 fun itv s2 h2=>?_) hs
 obtain⟨it,fp,tn,J,H2,e,I2,T,st2,f2,W,⟨m0,w0⟩,turn⟩:=h2
 subst e
 -- what stays true of the iterator's objects through the loop
 have stat:∀ {H':Hp},(∀ b∈fp,H' b=none)->∀ b∈fp,FpOk X pins H' b:=fun hn b hb=>⟨hn b hb,(f2 b hb).2⟩
 refine codeAny_forLoop_any (fun n s'=>∃ i σ' H',Inv X pins σ' H' s'/\tn i s'.heap/\(∀ b∈fp,H' b=none)/\W i n σ' H') ?_ m0 ⟨0,σ,H2,I2,st2,fun b hb=>(f2 b hb).1,w0⟩
 rintro n s3 ⟨i,σ3,H3,I3,st3,fr3,w3⟩
 rcases turn i n σ3 H3 w3 with⟨stop,qn⟩ |⟨go,N,hN,step⟩
 ·refine wpAny_passesOwn hp (thn (T.done X rfl rfl rfl hc i pins s3 σ3 H3 X.xe I3 (stat fr3) st3 stop) fun r s4 ⟨hr,I4⟩=>?_)
  subst hr
  exact wpAny_execs_nil ⟨σ3,H3,I4,qn⟩
 ·refine wpAny_passesOwn hp (thn (T.item X rfl rfl rfl hc i pins s3 σ3 H3 X.xe I3 (stat fr3) st3 go) fun r s4 ⟨u,hr,h4⟩=>?_)
  subst hr
  refine wpAny_passesOwn hp (thn h4 fun _ s5 ⟨x,H5,I5,r5,y5,st5,fr5⟩=>?_)
  have I5':=I5.pinned (stat fr5) (T.obj _ _ st5)
  refine wpAny_passesOwn hp (thn (hg _ s5 σ3 H5 x u _ I5' r5 (step x H5 y5)) fun _ s6 ⟨σ6,H6,I6,q6⟩=>?_)
  refine wpAny_passesOwn hp (thn (hb _ s6 σ6 H6 _ I6 q6) fun f s7 q7=>?_)
  have again:∀ {σ7:St}{H7:Hp},Inv X (pins++pinsAt fp s5.heap) σ7 H7 s7->N σ7 H7->∃ m,m<n/\∃ i σ' H',Inv X pins σ' H' s7/\tn i s7.heap/\(∀ b∈fp,H' b=none)/\W i m σ' H':=fun {σ7 H7} I7 n7=>by
   obtain⟨m',hm,w7⟩:=hN σ7 H7 n7
   refine⟨m',hm,i+1,σ7,H7,I7.unpinned,T.keep _ _ _ st5 fun b hb o e=>(I7.pin (b,o) (zP _ (zP _ (mem_pinsAt hb e)))).1,fun b hb=>?_,w7⟩
   obtain⟨o,e,d⟩:=T.obj _ _ st5 b hb
   exact(I7.pin (b,o) (zP _ (zP _ (mem_pinsAt hb e)))).2.1
  cases f with
  |next=>obtain⟨σ7,H7,I7,n7⟩:=q7;exact again I7 n7
  |cont=>obtain⟨σ7,H7,I7,n7⟩:=q7;exact again I7 n7
  |brk=>obtain⟨σ7,H7,I7,q7⟩:=q7;exact⟨σ7,H7,I7.unpinned,q7⟩
  |ret v=>obtain⟨x7,σ7,H7,I7,r7,q7⟩:=q7;exact⟨x7,σ7,H7,I7.unpinned,r7,q7⟩
end
theorem for_list{K:PySem.W.Frag}{a:Addr}{xs:List V}{g:TG}{tb:TS}{D:Ends}{σ:St}{H:Hp}(Pv:Nat->St->Hp->Prop)(h0:Pv 0 σ H)(hl:∀ i σ H,i<=xs.length->Pv i σ H->SqL K H a xs)
  (hs:∀ i x σ H,xs[i]?=some x->Pv i σ H->g x σ H fun σ2 H2=>tb { D with nx:=Pv (i+1),ct:=Pv (i+1),bk:=D.nx } σ2 H2) (hd:∀ σ H,Pv xs.length σ H->D.nx σ H) :
  ∃ W:Nat->Nat->St->Hp->Prop,(∃ m,W 0 m σ H)/\∀ i m σ H,W i m σ H ->
   ((Itl K a).stop i H/\D.nx σ H)\/((Itl K a).go i H/\∃ N:St->Hp->Prop,(∀ σ' H',N σ' H'->∃ m',m'<m/\W (i+1) m' σ' H')/\∀ x H',(Itl K a).yld i H x H'->g x σ H' fun σ2 H2=>tb { D with nx:=N,ct:=N,bk:=D.nx } σ2 H2):=by
 refine⟨fun i m σ H=>m=xs.length-i/\i<=xs.length/\Pv i σ H,⟨xs.length,by simp,zAW _,h0⟩,?_⟩
 rintro i m σ H ⟨rfl,hi,p⟩
 have q:=hl i σ H hi p
 by_cases hlt:i<xs.length
 ·refine .inr ⟨⟨xs,xs[i],q,by simp[hlt]⟩,Pv (i+1),fun σ' H' p'=>⟨xs.length-(i+1),by exact zaa hlt,rfl,hlt,p'⟩,fun x H' y=>?_⟩
  obtain⟨e,y⟩:=y
  subst e
  exact hs i x σ _ (y xs q) p
 ·have e:i=xs.length:=by exact zj7 hi hlt
  subst e
  exact .inl ⟨⟨xs,q,zJ _⟩,hd σ H p⟩
theorem for_tup{K:PySem.W.Frag}{a:Addr}{xs:List V}{g:TG}{tb:TS}{D:Ends}{σ:St}{H:Hp}(Pv:Nat->St->Hp->Prop)(h0:Pv 0 σ H)(hl:∀ i σ H,i<=xs.length->Pv i σ H->SqT K H a xs)
  (hs:∀ i x σ H,xs[i]?=some x->Pv i σ H->g x σ H fun σ2 H2=>tb { D with nx:=Pv (i+1),ct:=Pv (i+1),bk:=D.nx } σ2 H2) (hd:∀ σ H,Pv xs.length σ H->D.nx σ H) :
  ∃ W:Nat->Nat->St->Hp->Prop,(∃ m,W 0 m σ H)/\∀ i m σ H,W i m σ H ->
   ((Itt K a).stop i H/\D.nx σ H)\/((Itt K a).go i H/\∃ N:St->Hp->Prop,(∀ σ' H',N σ' H'->∃ m',m'<m/\W (i+1) m' σ' H')/\∀ x H',(Itt K a).yld i H x H'->g x σ H' fun σ2 H2=>tb { D with nx:=N,ct:=N,bk:=D.nx } σ2 H2):=by
 refine⟨fun i m σ H=>m=xs.length-i/\i<=xs.length/\Pv i σ H,⟨xs.length,by simp,zAW _,h0⟩,?_⟩
 rintro i m σ H ⟨rfl,hi,p⟩
 have q:=hl i σ H hi p
 by_cases hlt:i<xs.length
 ·refine .inr ⟨⟨xs,xs[i],q,by simp[hlt]⟩,Pv (i+1),fun σ' H' p'=>⟨xs.length-(i+1),by exact zaa hlt,rfl,hlt,p'⟩,fun x H' y=>?_⟩
  obtain⟨e,y⟩:=y
  subst e
  exact hs i x σ _ (y xs q) p
 ·have e:i=xs.length:=by exact zj7 hi hlt
  subst e
  exact .inl ⟨⟨xs,q,zJ _⟩,hd σ H p⟩
theorem for_range{lo:Int}{n:Nat}{g:TG}{tb:TS}{D:Ends}{σ:St}{H:Hp}(Pv:Nat->St->Hp->Prop)(h0:Pv 0 σ H)
  (hs:∀ i σ H,i<n->Pv i σ H->g (.int (lo+i)) σ H fun σ2 H2=>tb { D with nx:=Pv (i+1),ct:=Pv (i+1),bk:=D.nx } σ2 H2) (hd:∀ σ H,Pv n σ H->D.nx σ H) :
  ∃ W:Nat->Nat->St->Hp->Prop,(∃ m,W 0 m σ H)/\∀ i m σ H,W i m σ H ->
   ((Itr lo n).stop i H/\D.nx σ H)\/((Itr lo n).go i H/\∃ N:St->Hp->Prop,(∀ σ' H',N σ' H'->∃ m',m'<m/\W (i+1) m' σ' H')/\∀ x H',(Itr lo n).yld i H x H'->g x σ H' fun σ2 H2=>tb { D with nx:=N,ct:=N,bk:=D.nx } σ2 H2):=by
 refine⟨fun i m σ H=>m=n-i/\i<=n/\Pv i σ H,⟨n,by simp,zAW _,h0⟩,?_⟩
 rintro i m σ H ⟨rfl,hi,p⟩
 by_cases hlt:i<n
 ·refine .inr ⟨hlt,Pv (i+1),fun σ' H' p'=>⟨n-(i+1),by omega,rfl,hlt,p'⟩,fun x H' y=>?_⟩
  obtain⟨e,y⟩:=y
  subst e y
  exact hs i σ _ hlt p
 ·have e:i=n:=by lia
  subst e
  exact .inl ⟨zJ _,hd σ H p⟩
open PySem PySem.Spec PyProof.Rows
noncomputable abbrev R2:=V->V->Hp->VK->Prop
noncomputable def OpR(X:Cx)(f:Value->Value->Sem Value)(r:R2):Prop :=
 ∀ (pins:List (Addr×Obj)) (s:Shared) (σ:St) (H:Hp) (x y:V) (v u:Value) (Q:VK),Inv X pins σ H s->RelV x v->RelV y u->r x y H Q ->
  wpAny (model X.prog X.w) X.A (f v u) (EP X pins σ Q) X.xe s
noncomputable def UnR(X:Cx)(f:Value->Sem Value)(r:V->Hp->VK->Prop):Prop :=
 ∀ (pins:List (Addr×Obj)) (s:Shared) (σ:St) (H:Hp) (x:V) (v:Value) (Q:VK),Inv X pins σ H s->RelV x v->r x H Q ->
  wpAny (model X.prog X.w) X.A (f v) (EP X pins σ Q) X.xe s
noncomputable def CallR(X:Cx)(f:Value)(r:List V->Hp->VK->Prop):Prop :=
 ∀ (pins:List (Addr×Obj)) (s:Shared) (σ:St) (H:Hp) (xs:List V) (us:List Value) (Q:VK),Inv X pins σ H s->Vals xs us->r xs H Q ->
  wpAny (model X.prog X.w) X.A (call f us) (EP X pins σ Q) X.xe s
noncomputable def tOp(r:R2)(ta tb:TE):TE:=fun σ H Q=>ta σ H fun x H1=>tb σ H1 fun y H2=>r x y H2 Q
noncomputable def tUn(r:V->Hp->VK->Prop)(ta:TE):TE:=fun σ H Q=>ta σ H fun x H1=>r x H1 Q
inductive rII(C:Int->Int->Prop)(g:Int->Int->V)(x:V)(y:V)(H:Hp)(Q:VK):Prop where
 |mk (i:_) (j:_) (h1:x = .int i) (h2:y = .int j) (h3:C i j) (h4:Q (g i j) H)
noncomputable def rI(C:Int->Int->Prop)(g:Int->Int->V):R2:=fun x y H Q=>rII C g x y H Q
inductive rI0I(g:Int->Int->V)(x:V)(y:V)(H:Hp)(Q:VK):Prop where
 |mk (i:_) (j:_) (h1:x = .int i) (h2:y = .int j) (h3:Q (g i j) H)
noncomputable def rI0(g:Int->Int->V):R2:=fun x y H Q=>rI0I g x y H Q
inductive rUI(g:Int->V)(x:V)(H:Hp)(Q:VK):Prop where
 |mk (i:_) (h1:x = .int i) (h2:Q (g i) H)
noncomputable def rU(g:Int->V):V->Hp->VK->Prop:=fun x H Q=>rUI g x H Q
section
variable{X:Cx}{a b c:Expr}{ta tb tc:TE}{pos:Pos}
theorem binT(ha:PE X a ta)(hb:PE X b tb){pins:List (Addr×Obj)}{s:Shared}{σ:St}{H:Hp}{R:V->V->Hp->Prop}(I:Inv X pins σ H s)
  (h:ta σ H fun x H1=>tb σ H1 fun y H2=>R x y H2) {Q:Value->Shared->Prop}{f:Value->Value->Sem Value}
  (hf:∀ v u s2 x y H2,Inv X pins σ H2 s2->RelV x v->RelV y u->R x y H2->wpAny (model X.prog X.w) X.A (f v u) Q X.xe s2) :
  wpAny (model X.prog X.w) X.A (eval a X.env) (fun v s₁=>wpAny (model X.prog X.w) X.A (eval b X.env) (fun u s₂=>wpAny (model X.prog X.w) X.A (f v u) Q X.xe s₂) X.xe s₁) X.xe s:=by
 refine thn (ha pins s σ H _ I h) fun v s1 ⟨x,H1,I1,r1,q1⟩=>?_
 refine thn (hb pins s1 σ H1 _ I1 q1) fun u s2 ⟨y,H2,I2,r2,q2⟩=>?_
 exact hf v u s2 x y H2 I2 r1 r2 q2
theorem pe_op{op:Operator}{r:R2}(ho:OpR X (binaryOp op) r)(ha:PE X a ta)(hb:PE X b tb):PE X (.BinOp a op b pos) (tOp r ta tb):=by
 intro pins s σ H Q I h
 exact wpAny_BinOp (binT ha hb I h fun v u s2 x y H2 I2 rx ry q=>ho pins s2 σ H2 x y v u Q I2 rx ry q)
theorem pe_un{op:UnaryOp}{r:V->Hp->VK->Prop}(ho:UnR X (unaryOp op) r)(ha:PE X a ta):PE X (.UnaryOp op a pos) (tUn r ta):=by
 intro pins s σ H Q I h
 exact UnaryOp_ (thn (ha pins s σ H _ I h) fun v s1 ⟨x,H1,I1,r1,q1⟩=>ho pins s1 σ H1 x v Q I1 r1 q1)
theorem opI{f:Value->Value->Sem Value}{C:Int->Int->Prop}{g:Int->Int->Int}
  (rule:∀ (i j:Int) (t u:Tok) (s:Shared) (Q:Value->Shared->Prop) (E:Value->Shared->Prop),C i j->Q (.int (g i j) s.toks) { s with toks:=s.toks+1 }->wpAny (model X.prog X.w) X.A (f (.int i t) (.int j u)) Q E s) :
  OpR X f (rI C fun i j=>.int (g i j)):=by
 intro pins s σ H x y v u Q I rx ry h
 obtain⟨i,j,rfl,rfl,hc,q⟩:=h
 obtain⟨t,rfl⟩:=rx
 obtain⟨t',rfl⟩:=ry
 exact rule i j t t' s _ _ hc ⟨.int (g i j),H,I.tok _,⟨_,rfl⟩,q⟩
theorem opI0{f:Value->Value->Sem Value}{g:Int->Int->Int}
  (rule:∀ (i j:Int) (t u:Tok) (s:Shared) (Q:Value->Shared->Prop) (E:Value->Shared->Prop),Q (.int (g i j) s.toks) { s with toks:=s.toks+1 }->wpAny (model X.prog X.w) X.A (f (.int i t) (.int j u)) Q E s) :
  OpR X f (rI0 fun i j=>.int (g i j)):=by
 intro pins s σ H x y v u Q I rx ry h
 obtain⟨i,j,rfl,rfl,q⟩:=h
 obtain⟨t,rfl⟩:=rx
 obtain⟨t',rfl⟩:=ry
 exact rule i j t t' s _ _ ⟨.int (g i j),H,I.tok _,⟨_,rfl⟩,q⟩
theorem opB0{f:Value->Value->Sem Value}{g:Int->Int->Bool}
  (rule:∀ (i j:Int) (t u:Tok) (s:Shared) (Q:Value->Shared->Prop) (E:Value->Shared->Prop),Q (.bool (g i j)) s->wpAny (model X.prog X.w) X.A (f (.int i t) (.int j u)) Q E s) :
  OpR X f (rI0 fun i j=>.bl (g i j)):=by
 intro pins s σ H x y v u Q I rx ry h
 obtain⟨i,j,rfl,rfl,q⟩:=h
 obtain⟨t,rfl⟩:=rx
 obtain⟨t',rfl⟩:=ry
 exact rule i j t t' s _ _ ⟨.bl (g i j),H,I,rfl,q⟩
noncomputable def CDiv(i j:Int):Prop:=0<j/\j<1073741824
noncomputable def CPow(i j:Int):Prop:=0<=j/\j<=1000000/\i.natAbs<2 ^ 64
noncomputable def CMul(i j:Int):Prop:=(-(2 ^ 64)<i/\i<2 ^ 64)\/(-(2 ^ 64)<j/\j<2 ^ 64)
theorem CMul.ok{i j:Int}(h:CMul i j):IntMulOk i j:=by
 rcases h with⟨h1,h2⟩ |⟨h1,h2⟩
 ·exact .of_left (intBits_le_64 h1 h2)
 ·exact .of_right (intBits_le_64 h1 h2)
theorem op_add:OpR X (binaryOp .Add) (rI0 fun i j=>.int (i+j)):=opI0 fun _ _ _ _ _ _ _ q=>add_int q
theorem op_sub:OpR X (binaryOp .Sub) (rI0 fun i j=>.int (i-j)):=opI0 fun _ _ _ _ _ _ _ q=>sub_int q
theorem op_mul:OpR X (binaryOp .Mult) (rI CMul fun i j=>.int (i * j)):=opI fun _ _ _ _ _ _ _ hc q=>mul_int q hc.ok
theorem op_fdiv:OpR X (binaryOp .FloorDiv) (rI CDiv fun i j=>.int (i / j)):=opI fun i j _ _ _ _ _ hc q=>by
 have h1:(0:Int)<j:=hc.1
 have h2:j<1073741824:=hc.2
 exact floordiv_int (by exact zec h1 h2) (by rw[Int.fdiv_eq_ediv_of_nonneg i (by exact zfp h1 h2)];exact q) (.inl (PyProof.noPylong_small (by exact zdn h1 h2)))
theorem op_mod:OpR X (binaryOp .Mod) (rI (fun _ j=>0<j) fun i j=>.int (i % j)):=opI fun i j _ _ _ _ _ hc q=>by
 have h1:(0:Int)<j:=hc
 exact mod_int' (by exact zay hc) (by rw[Int.fmod_eq_emod_of_nonneg i (by exact zaq hc)];exact q)
theorem op_pow:OpR X (binaryOp .Pow) (rI CPow fun i j=>.int (i ^ j.toNat)):=opI fun _ _ _ _ _ _ _ hc q=>pow_int_small hc.1 hc.2.1 hc.2.2 q
theorem unI{f:Value->Sem Value}{g:Int->Int}
  (rule:∀ (i:Int) (t:Tok) (s:Shared) (Q:Value->Shared->Prop) (E:Value->Shared->Prop),Q (.int (g i) s.toks) { s with toks:=s.toks+1 }->wpAny (model X.prog X.w) X.A (f (.int i t)) Q E s) :
  UnR X f (rU fun i=>.int (g i)):=by
 intro pins s σ H x v Q I rx h
 obtain⟨i,rfl,q⟩:=h
 obtain⟨t,rfl⟩:=rx
 exact rule i t s _ _ ⟨.int (g i),H,I.tok _,⟨_,rfl⟩,q⟩
theorem un_neg:UnR X (unaryOp .USub) (rU fun i=>.int (-i)):=unI fun _ _ _ _ _ q=>neg_int q
end
noncomputable def scal:V->V->Bool
 | .non,.non=>true | .non,.int _=>true | .int _,.non=>true | .non,.bl _=>true | .bl _,.non=>true | .non,.str _=>true | .str _,.non=>true
 | .int _,.int _=>true | .bl _,.bl _=>true | .str _,.str _=>true | .byt _,.byt _=>true
 | .int _,.str _=>true | .str _,.int _=>true | .bl _,.str _=>true | .str _,.bl _=>true
 | _,_=>false
noncomputable def rEq:R2:=fun x y H Q=>scal x y=true/\Q (.bl (decide (x=y))) H
noncomputable def rNe:R2:=fun x y H Q=>scal x y=true/\Q (.bl (!decide (x=y))) H
theorem dec_int{i j:Int}:decide (V.int i=V.int j)=(i == j):=by
 rw[Bool.eq_iff_iff]
 simp
theorem dec_bl{i j:Bool}:decide (V.bl i=V.bl j)=(i == j):=by
 rw[Bool.eq_iff_iff]
 simp
theorem dec_str{i j:Str}:decide (V.str i=V.str j)=(i == j):=by
 rw[Bool.eq_iff_iff]
 simp
theorem dec_byt{i j:Array UInt8}:decide (V.byt i=V.byt j)=(i.toList == j.toList):=by
 rw[Bool.eq_iff_iff]
 cases i
 cases j
 simp
section
variable{X:Cx}{a b c:Expr}{ta tb tc:TE}{pos:Pos}
theorem fin_bl{pins:List (Addr×Obj)}{σ:St}{H:Hp}{s:Shared}{Q:VK}{k k':Bool}(I:Inv X pins σ H s)(q:Q (.bl k) H)(e:k=k'):EP X pins σ Q (.bool k') s:=by
 subst e
 exact⟨.bl k,H,I,rfl,q⟩
theorem op_eq:OpR X (compareOp .Eq) rEq:=by
 intro pins s σ H x y v u Q I rx ry h
 obtain⟨hs,q⟩:=h
 cases x with
 |non =>
  cases rx
  cases y with
  |non=>cases ry;exact PySem.EqNone.eq_none_none (fin_bl I q (by simp))
  |bl j=>cases ry;exact PySem.EqNone.eq_none_bool (fin_bl I q (by simp))
  |int j=>obtain⟨t',rfl⟩:=ry;exact PySem.EqNone.eq_none_int (fin_bl I q (by simp))
  |str j=>obtain⟨t',rfl⟩:=ry;exact PySem.EqNone.eq_none_str (fin_bl I q (by simp))
  | _=>exact absurd (show false=true from hs) zW
 |bl i =>
  cases rx
  cases y with
  |non=>cases ry;exact PySem.EqNone.eq_bool_none (fin_bl I q (by simp))
  |bl j=>cases ry;exact eq_bool (fin_bl I q dec_bl)
  |str j=>obtain⟨t',rfl⟩:=ry;exact PySem.EqMixed.eq_bool_str (fin_bl I q (by simp))
  | _=>exact absurd (show false=true from hs) zW
 |int i =>
  obtain⟨t,rfl⟩:=rx
  cases y with
  |non=>cases ry;exact PySem.EqNone.eq_int_none (fin_bl I q (by simp))
  |int j=>obtain⟨t',rfl⟩:=ry;exact eq_int (fin_bl I q dec_int)
  |str j=>obtain⟨t',rfl⟩:=ry;exact PySem.EqMixed.eq_int_str (fin_bl I q (by simp))
  | _=>exact absurd (show false=true from hs) zW
 |str i =>
  obtain⟨t,rfl⟩:=rx
  cases y with
  |non=>cases ry;exact PySem.EqNone.eq_str_none (fin_bl I q (by simp))
  |bl j=>cases ry;exact PySem.EqMixed.eq_str_bool (fin_bl I q (by simp))
  |int j=>obtain⟨t',rfl⟩:=ry;exact PySem.EqMixed.eq_str_int (fin_bl I q (by simp))
  |str j=>obtain⟨t',rfl⟩:=ry;exact eq_str (fin_bl I q dec_str)
  | _=>exact absurd (show false=true from hs) zW
 |byt i =>
  obtain⟨t,rfl⟩:=rx
  cases y with
  |byt j=>obtain⟨t',rfl⟩:=ry;exact PySem.W.eq_bytes (fin_bl I q dec_byt)
  | _=>exact absurd (show false=true from hs) zW
 | _=>cases y <;> exact absurd (show false=true from hs) zW
theorem op_ne:OpR X (compareOp .NotEq) rNe:=by
 intro pins s σ H x y v u Q I rx ry h
 obtain⟨hs,q⟩:=h
 cases x with
 |non =>
  cases rx
  cases y with
  |non=>cases ry;exact PySem.EqNone.ne_none_none (fin_bl I q (by simp))
  |bl j=>cases ry;exact PySem.EqNone.ne_none_bool (fin_bl I q (by simp))
  |int j=>obtain⟨t',rfl⟩:=ry;exact PySem.EqNone.ne_none_int (fin_bl I q (by simp))
  |str j=>obtain⟨t',rfl⟩:=ry;exact PySem.EqNone.ne_none_str (fin_bl I q (by simp))
  | _=>exact absurd (show false=true from hs) zW
 |bl i =>
  cases rx
  cases y with
  |non=>cases ry;exact PySem.EqNone.ne_bool_none (fin_bl I q (by simp))
  |bl j=>cases ry;exact ne_bool (fin_bl I q (congrArg not dec_bl))
  |str j=>obtain⟨t',rfl⟩:=ry;exact PySem.EqMixed.ne_bool_str (fin_bl I q (by simp))
  | _=>exact absurd (show false=true from hs) zW
 |int i =>
  obtain⟨t,rfl⟩:=rx
  cases y with
  |non=>cases ry;exact PySem.EqNone.ne_int_none (fin_bl I q (by simp))
  |int j=>obtain⟨t',rfl⟩:=ry;exact ne_int (fin_bl I q (congrArg not dec_int))
  |str j=>obtain⟨t',rfl⟩:=ry;exact PySem.EqMixed.ne_int_str (fin_bl I q (by simp))
  | _=>exact absurd (show false=true from hs) zW
 |str i =>
  obtain⟨t,rfl⟩:=rx
  cases y with
  |non=>cases ry;exact PySem.EqNone.ne_str_none (fin_bl I q (by simp))
  |bl j=>cases ry;exact PySem.EqMixed.ne_str_bool (fin_bl I q (by simp))
  |int j=>obtain⟨t',rfl⟩:=ry;exact PySem.EqMixed.ne_str_int (fin_bl I q (by simp))
  |str j=>obtain⟨t',rfl⟩:=ry;exact ne_str (fin_bl I q (congrArg not dec_str))
  | _=>exact absurd (show false=true from hs) zW
 |byt i =>
  obtain⟨t,rfl⟩:=rx
  cases y with
  |byt j=>obtain⟨t',rfl⟩:=ry;exact PySem.W.ne_bytes (fin_bl I q (congrArg not dec_byt))
  | _=>exact absurd (show false=true from hs) zW
 | _=>cases y <;> exact absurd (show false=true from hs) zW
theorem op_lt:OpR X (compareOp .Lt) (rI0 fun i j=>.bl (decide (i<j))):=opB0 fun _ _ _ _ _ _ _ q=>lt_int q
theorem op_le:OpR X (compareOp .LtE) (rI0 fun i j=>.bl (decide (i<=j))):=opB0 fun _ _ _ _ _ _ _ q=>le_int q
theorem op_gt:OpR X (compareOp .Gt) (rI0 fun i j=>.bl (decide (j<i))):=opB0 fun _ _ _ _ _ _ _ q=>gt_int q
theorem op_ge:OpR X (compareOp .GtE) (rI0 fun i j=>.bl (decide (j<=i))):=opB0 fun _ _ _ _ _ _ _ q=>ge_int q
theorem nomark(b:Expr){op:CmpOp}(h:op≠.In:=by decide)(h2:op≠.NotIn:=by decide):behindInMarks op b=false:=by
 have e1:(op == CmpOp.In)=false:=by cases op <;> first | rfl | exact absurd rfl h
 have e2:(op == CmpOp.NotIn)=false:=by cases op <;> first | rfl | exact absurd rfl h2
 cases b <;> simp[behindInMarks,e1,e2]
theorem pe_cmpR{op:CmpOp}{r:R2}(ho:OpR X (compareOp op) r)(ha:PE X a ta)(hb:PE X b tb)(hm:behindInMarks op b=false):PE X (.Compare a [op] [b] pos) (tOp r ta tb):=by
 intro pins s σ H Q I h
 exact wpAny_Compare1 (binT ha hb I h fun v u s2 x y H2 I2 rx ry q=>ho pins s2 σ H2 x y v u Q I2 rx ry q) hm
noncomputable def tTest(t:TE):TT:=fun σ H Q=>t σ H fun x H'=>ExB x fun k=>Q k H'
theorem pt_cmpR{op:CmpOp}{r:R2}(ho:OpR X (compareOp op) r)(ha:PE X a ta)(hb:PE X b tb)(hm:behindInMarks op b=false):PT X (.Compare a [op] [b] pos) (tTest (tOp r ta tb)):=by
 intro pins s σ H Q I h
 refine wpAny_isTrue_Compare1 (thn (ha pins s σ H _ I h) fun v s1 ⟨x,H1,I1,r1,q1⟩=>thn (hb pins s1 σ H1 _ I1 q1) fun u s2 ⟨y,H2,I2,r2,q2⟩ =>
  thn (ho pins s2 σ H2 x y v u _ I2 r1 r2 q2) fun c s3 ⟨z,H3,I3,r3,k,e,q3⟩=>?_) hm
 subst e
 cases r3
 exact wpAny_truthy_bool ⟨H3,I3,q3⟩
noncomputable def tChain(r r':R2)(ta tb tc:TE):TE:=fun σ H Q=>ta σ H fun x H1=>tb σ H1 fun y H2=>r x y H2 fun z H3=>ExB z fun k =>
 (if k=true then tc σ H3 fun w' H4=>r' y w' H4 Q else Q (.bl false) H3)
theorem pe_chain{op op':CmpOp}{r r':R2}(ho:OpR X (compareOp op) r)(ho':OpR X (compareOp op') r')(ha:PE X a ta)(hb:PE X b tb)(hc:PE X c tc)
  (hm:lastMarks [op,op'] [b,c]=false:=by with_unfolding_all rfl):PE X (.Compare a [op,op'] [b,c] pos) (tChain r r' ta tb tc):=by
 intro pins s σ H Q I h
 refine Compare_chain (thn (ha pins s σ H _ I h) fun v s1 ⟨x,H1,I1,r1,q1⟩=>chain_link (thn (hb pins s1 σ H1 _ I1 q1) fun u s2 ⟨y,H2,I2,r2,q2⟩ =>
  thn (ho pins s2 σ H2 x y v u _ I2 r1 r2 q2) fun d s3 ⟨z,H3,I3,r3,k,e,q3⟩=>?_)) hm
 subst e
 cases r3
 refine wpAny_truthy_bool ?_
 cases k with
 |false=>exact ite_ff ⟨.bl false,H3,I3,rfl,q3⟩
 |true=>exact ite_tt (chain_last (thn (hc pins s3 σ H3 _ I3 q3) fun w' s4 ⟨z',H4,I4,r4,q4⟩=>ho' pins s4 σ H4 y z' u w' Q I4 r2 r4 q4))
theorem line63:(sizeLine:Nat)<2 ^ 63:=by rw[sizeLine_eq];decide
theorem vals1{x:V}{us:List Value}(r:Vals [x] us):∃ u,us=[u]/\RelV x u:=by
 cases r with
 |cons r1 r2=>cases r2;exact⟨_,rfl,r1⟩
theorem vals2{x y:V}{us:List Value}(r:Vals [x,y] us):∃ u w',us=[u,w']/\RelV x u/\RelV y w':=by
 cases r with
 |cons r1 r2 =>
  cases r2 with
  |cons r3 r4=>cases r4;exact⟨_,_,rfl,r1,r3⟩
theorem call_abs:CallR X (.builtin "abs") (fun xs H Q=>∃ i,xs=[.int i]/\Q (.int (if i<0 then -i else i)) H):=by
 intro pins s σ H xs us Q I r h
 obtain⟨i,rfl,q⟩:=h
 obtain⟨u,rfl,t,rfl⟩:=vals1 r
 exact call_abs_int fun u tk=>⟨.int (if i<0 then -i else i),H,I.tok _,⟨_,rfl⟩,q⟩
theorem call_max2(hc:X.calm=true):CallR X (.builtin "max") (fun xs H Q=>∃ i j,xs=[.int i,.int j]/\Q (.int (if j > i then j else i)) H):=by
 intro pins s σ H xs us Q I r h
 obtain⟨i,j,rfl,q⟩:=h
 obtain⟨u,w',rfl,⟨t,rfl⟩,⟨t',rfl⟩⟩:=vals2 r
 refine max_two_ints (I.ok.hd hc) fun h' tk k=>⟨_,H,I.kept k,?_,q⟩
 by_cases hj:j > i
 ·rw[if_pos hj,if_pos hj];exact⟨_,rfl⟩
 ·rw[if_neg hj,if_neg hj];exact⟨_,rfl⟩
theorem call_min2(hc:X.calm=true):CallR X (.builtin "min") (fun xs H Q=>∃ i j,xs=[.int i,.int j]/\Q (.int (if j<i then j else i)) H):=by
 intro pins s σ H xs us Q I r h
 obtain⟨i,j,rfl,q⟩:=h
 obtain⟨u,w',rfl,⟨t,rfl⟩,⟨t',rfl⟩⟩:=vals2 r
 refine min_two_ints (I.ok.hd hc) fun h' tk k=>⟨_,H,I.kept k,?_,q⟩
 by_cases hj:j<i
 ·rw[if_pos hj,if_pos hj];exact⟨_,rfl⟩
 ·rw[if_neg hj,if_neg hj];exact⟨_,rfl⟩
theorem call_int1:CallR X (.type "int") (fun xs H Q=>(∃ i,xs=[.int i]/\Q (.int i) H)\/∃ k,xs=[.bl k]/\Q (.int (if k then 1 else 0)) H):=by
 intro pins s σ H xs us Q I r h
 rcases h with⟨i,rfl,q⟩ |⟨k,rfl,q⟩
 ·obtain⟨u,rfl,t,rfl⟩:=vals1 r
  exact call_int_int ⟨.int i,H,I,⟨_,rfl⟩,q⟩
 ·obtain⟨u,rfl,r1⟩:=vals1 r
  cases r1
  exact call_int_bool ⟨.int (if k then 1 else 0),H,I.tok _,⟨_,rfl⟩,q⟩
end
open PySem PySem.Spec PyProof.Rows
structure ObjM(h:Heap)(x dx C:Addr)(mA:Str->Option Value):Prop where
 obj:h.get? x=some (PySem.W.instObj C dx)
 ns:h.Ns1 dx mA
 ne:dx≠x
theorem lookIn_ns{h:Heap}{dx:Addr}{mA:Str->Option Value}(n:h.Ns1 dx mA):∃ od,h.get? dx=some od/\∀ name,PySem.W.lookIn name od=some (mA name):=by
 obtain⟨o,es,ep,ho,hd,hk,_,hm⟩:=n
 refine⟨o,ho,fun name=>?_⟩
 have e:=hm name
 unfold nsFind findBy at e
 rw[<- Array.find?_toList]at e
 unfold PySem.W.lookIn
 rw[hd]
 dsimp only
 split
 ·rename_i y q
  rw[q]at e
  exact congrArg some e
 ·rename_i q
  rw[q]at e
  have a:es.toList.any (·.refKey)=false:=by
   rw[List.any_eq_false]
   intro y hy
   obtain⟨z,t,hkey⟩:=hk y (Array.mem_toList_iff.mp hy)
   simp[DictEntry.refKey,hkey]
  have a':¬ es.toList.any (·.refKey)=true:=by rw[a];exact zW
  rw[if_neg a']
  exact congrArg some e
theorem ObjM.look{h:Heap}{x dx C:Addr}{mA:Str->Option Value}(I:ObjM h x dx C mA):∃ od,PySem.W.InstAt h x (PySem.W.instObj C dx) C (some od)/\∀ name,PySem.W.lookIn name od=some (mA name) :=
 let ⟨od,ho,hl⟩:=lookIn_ns I.ns
 ⟨od,⟨I.obj,rfl,rfl,ho⟩,hl⟩
theorem RelO.some_of{v:V}{o:Option Value}(r:RelO (some v) o):∃ u,o=some u/\RelV v u:=by
 cases o with
 |none=>exact(show False from r).elim
 |some u=>exact⟨u,rfl,r⟩
section
variable{P:Program}{w:World}{H H':Hp}{h h':Heap}{a C dx:Addr}{fs fs':List (Str×V)}
theorem ins_get(hok:HOk P w H h)(e:H a=some (.ins C dx fs)):∃ mA,ObjM h a dx C mA/\(∀ f,RelO (fs.lookup f) (mA f))/\PySem.Within mA (fs.map (·.1))/\fs.length<=1000/\H dx=some (.own a):=by
 obtain⟨d,z,ne,ob,mA,n,r,q⟩:=(show ObjOk P w H h a (.ins C dx fs)from hok a _ e)
 exact⟨mA,⟨ob,n,ne⟩,r,q,z,d⟩
end
structure Cls(K:PySem.W.Frag)(C:Addr):Prop where
 pg:PySem.W.plainGet K C Str.empty=true
 hd:PySem.W.hasDictIn K C=true
 po:PySem.W.plainOver K C=true
 sa:PySem.W.findIn K (.ref C) "__setattr__" = some (some (.builtin "object.__setattr__"))
theorem Cls.get{K:PySem.W.Frag}{C:Addr}(c:Cls K C)(f:Str):PySem.W.plainGet K C f=true:=c.pg
section
variable{X:Cx}{pins:List (Addr×Obj)}{σ:St}{H:Hp}{s:Shared}{A:Around}{E:Value->Shared->Prop}{Q:Value->Shared->Prop}{c:Value}{b:Bool}
inductive TyOf(K:PySem.W.Frag)(H:Hp):V->Value->Prop where
 |non:TyOf K H .non (.type "NoneType")
 |bl (x:Bool):TyOf K H (.bl x) (.type "bool")
 |int (i:Int):TyOf K H (.int i) (.type "int")
 |str (x:Str):TyOf K H (.str x) (.type "str")
 |flt (x:UInt64):TyOf K H (.flt x) (.type "float")
 |lst {a:Addr}{xs:List V} (e:H a=some (.lst xs)):TyOf K H (.ref a) (.type "list")
 |frz {a:Addr}{o:Obj}{xs:List V} (e:H a=some (.frz o (.lst xs))):TyOf K H (.ref a) (.type "list")
 |tup {a:Addr}{xs:List V} (e:H a=some (.tup xs)):TyOf K H (.ref a) (.type "tuple")
 |dK {a:Addr}{kvs:List (Key×V)} (e:H a=some (.dK kvs)):TyOf K H (.ref a) (.type "dict")
 |dT {a:Addr}{kvs:List (List Key×V)} (e:H a=some (.dT kvs)):TyOf K H (.ref a) (.type "dict")
 |ins {a C dx:Addr}{fs:List (Str×V)} (e:H a=some (.ins C dx fs)) (cl:Cls K C) (ha:PySem.W.findIn K (.ref C) "__class__" = some (some (.builtin "object.__class__")))
   (hn:PySem.W.specialIn K (.builtin "object.__class__") "__get__" = some (some (.builtin "getset_descriptor.__get__"))) (htk:PySem.W.takesIn K (.builtin "object.__class__")=some true)
   (hm:PySem.W.mroIn K C (.type "object")=some true):TyOf K H (.ref a) (.ref C)
theorem isinst_ok{x:V}{u t:Value}(I:Inv X pins σ H s)(rx:RelV x u)(ty:TyOf X.K H x t)(e:PySem.W.kitOne X.K t c=some b)(h:∀ tk,Q (.bool b) { s with toks:=tk }) :
  wpAny (model X.prog X.w) A (call (.builtin "isinstance") [u,c]) Q E s:=by
 cases ty with
 |non=>cases(show u=Value.none from rx);exact PySem.W.kia_one PySem.W.kitx_none I.kIn True.intro e (fun z=>nomatch z) h
 |bl y=>cases(show u=Value.bool y from rx);exact PySem.W.kia_one PySem.W.kitx_bool I.kIn True.intro e (fun z=>nomatch z) h
 |int i=>obtain⟨t,q⟩:=(show ∃ t,u=Value.int i t from rx);cases q;exact PySem.W.kia_one PySem.W.kitx_int I.kIn True.intro e (fun z=>nomatch z) h
 |str y=>obtain⟨t,q⟩:=(show ∃ t,u=Value.str y t from rx);cases q;exact PySem.W.kia_one PySem.W.kitx_str I.kIn True.intro e (fun z=>nomatch z) h
 |flt y=>obtain⟨t,q⟩:=(show ∃ t,u=Value.float y t from rx);cases q;exact PySem.W.kia_one PySem.W.kitx_float I.kIn True.intro e (fun z=>nomatch z) h
 | @lst a xs ea =>
  cases(show u=Value.ref a from rx)
  obtain⟨_,_,n,_,h1⟩:=(show ObjOk X.prog X.w H s.heap a (.lst xs)from I.hok a _ ea)
  exact PySem.W.kia_one PySem.W.kitx_list I.kIn ⟨_,h1,rfl⟩ e (fun z=>nomatch z) h
 | @frz a ob xs ea =>
  cases(show u=Value.ref a from rx)
  obtain⟨_,_,_,n,_,h1⟩:=(show ObjOk X.prog X.w H s.heap a (.frz ob (.lst xs))from I.hok a _ ea)
  exact PySem.W.kia_one PySem.W.kitx_list I.kIn ⟨_,h1,rfl⟩ e (fun z=>nomatch z) h
 | @tup a xs ea =>
  cases(show u=Value.ref a from rx)
  obtain⟨_,_,_,p⟩:=(show ObjOk X.prog X.w H s.heap a (.tup xs)from I.hok a _ ea)
  obtain⟨o,h1,h2,_⟩:=p
  exact PySem.W.kia_one PySem.W.kitx_tuple I.kIn ⟨o,h1,h2⟩ e (fun z=>nomatch z) h
 | @dK a kvs ea =>
  cases(show u=Value.ref a from rx)
  obtain⟨_,_,vs,_,p⟩:=(show ObjOk X.prog X.w H s.heap a (.dK kvs)from I.hok a _ ea)
  obtain⟨o,es,ep,h1,h2,_⟩:=p
  exact PySem.W.kia_one PySem.W.kitx_dict I.kIn ⟨o,h1,h2.1⟩ e (fun z=>nomatch z) h
 | @dT a kvs ea =>
  cases(show u=Value.ref a from rx)
  obtain⟨_,_,xs,_,o,es,ep,h1,h2,_⟩:=(show ObjOk X.prog X.w H s.heap a (.dT kvs)from I.hok a _ ea)
  exact PySem.W.kia_one PySem.W.kitx_dict I.kIn ⟨o,h1,h2.1⟩ e (fun z=>nomatch z) h
 | @ins a C dx fs ea cl ha hn htk hm =>
  cases(show u=Value.ref a from rx)
  obtain⟨mA,O,_⟩:=ins_get I.hok ea
  obtain⟨od,J,_⟩:=O.look
  exact PySem.W.kia_one (PySem.W.kitx_own (cl.get _) cl.hd ha hn htk hm) I.kIn J e (fun z=>nomatch z) h
end
open PySem PySem.Spec PyProof.Rows
theorem deep_gd{A:Around}{env:Env}(h:A.guards=some []):(A.deeper env).guards=some []:=by
 first | exact h | simp[Around.deeper,h]
structure Room(k:Nat)(A:Around):Prop where
 hd:A.handled=none
 dp:A.depth+3 * k+5<recursionLimit
 un:A.units+16 * k+200<cLine
 gd:A.guards=some []
theorem Room.mono{j k:Nat}{A:Around}(r:Room k A)(h:j<=k):Room j A:=⟨r.hd,by have:=r.dp;lia,by have:=r.un;lia,r.gd⟩
theorem Room.deeper{k:Nat}{A:Around}(r:Room (k+1) A)(env:Env):Room k (A.deeper env) :=
 ⟨r.hd,by have:=r.dp;show A.depth+1+3 * k+5<_;exact zgu this,by have:=r.un;show A.units+3+16 * k+200<_;exact zgv this,deep_gd r.gd⟩
theorem Room.depth{k:Nat}{A:Around}(r:Room k A):A.depth<recursionLimit:=by have:=r.dp;lia
theorem Room.units{k:Nat}{A:Around}(r:Room k A):A.units+64<cLine:=by have:=r.un;lia
theorem Room.units0{k:Nat}{A:Around}(r:Room k A):A.units<cLine:=by have:=r.un;lia
noncomputable def tNil:TA:=fun _ H Q=>Q [] H
noncomputable def tCons(ta:TE)(tr:TA):TA:=fun σ H Q=>ta σ H fun x H1=>tr σ H1 fun xs H2=>Q (x :: xs) H2
section
variable{X:Cx}{e:Expr}{es:List Expr}{te:TE}{t:TA}{pos:Pos}
theorem pa_nil:PA X [] tNil:=fun _ _ _ _ H Q I h=>Calls.spliced_nil ⟨[],H,I,.nil,h⟩
theorem pa_cons(ha:PE X e te)(hr:PA X es t)(hs:starEach (e :: es) X.env=(false,eval e X.env) :: starEach es X.env:=by rfl):PA X (e :: es) (tCons te t):=by
 intro pos pins s σ H Q I h
 rw[hs]
 show wpAny _ _ (spliced ((false,eval e X.env) :: backTo pos (starEach es X.env))) _ _ s
 refine Calls.spliced_cons (thn (ha pins s σ H _ I h) fun u s1 ⟨x,H1,I1,r1,q1⟩=>?_)
 exact thn (hr pos pins s1 σ H1 _ I1 q1) fun us s2 ⟨xs,H2,I2,r2,q2⟩=>⟨x :: xs,H2,I2,.cons r1 r2,q2⟩
noncomputable def tTup(t:TA):TE:=fun σ H Q=>t σ H fun xs H1=>xs.length<=sizeLine/\∀ p,H1 p=none->Q (.ref p) (upd H1 p (.tup xs))
noncomputable def tLst(t:TA):TE:=fun σ H Q=>t σ H fun xs H1=>xs.length<=sizeLine/\∀ p,H1 p=none->Q (.ref p) (upd H1 p (.lst xs))
theorem pe_tup{x1}(h:PA X es t):PE X (.Tuple es x1 pos) (tTup t):=by
 intro pins s σ H Q I hq
 refine wpAny_Tuple_spliced (thn (h pos pins s σ H _ I hq) fun us s1 ⟨xs,H1,I1,r,z,q⟩=>⟨by rw[<- r.length];exact z,?_⟩)
 have hf:H1 s1.heap.objs.size=none:=I1.hok.fresh (zJ _)
 refine⟨.ref s1.heap.objs.size,upd H1 s1.heap.objs.size (.tup xs),I1.laid (t':=s1.toks) (fun b u e=>zD _ e) (zJ _) ?_,rfl,q _ hf⟩
 exact⟨z,us,r,⟨_,zS _ rfl,rfl,_,rfl⟩⟩
theorem pe_lst(h:PA X es t):PE X (.List es pos) (tLst t):=by
 intro pins s σ H Q I hq
 refine wpAny_List_spliced (thn (h pos pins s σ H _ I hq) fun us s1 ⟨xs,H1,I1,r,z,q⟩=>⟨by rw[<- r.length];exact z,?_⟩)
 have hf:H1 s1.heap.objs.size=none:=I1.hok.fresh (zJ _)
 refine⟨.ref s1.heap.objs.size,upd H1 s1.heap.objs.size (.lst xs),I1.laid (t':=s1.toks) (fun b u e=>zD _ e) (zJ _) ?_,rfl,q _ hf⟩
 exact⟨z,us,0,r,zS _ rfl⟩
end
noncomputable abbrev Sp:=List V->Hp->VK->XK->Prop
noncomputable abbrev CXT:=List Env->Hp->Shared->XK->Value->Shared->Prop
structure Env0(P:Program)(w:World)(K:PySem.W.Frag)(mg:Str->Option Value)(base:Heap)(A:Around)(outer:List Env)(s:Shared)(H:Hp):Prop where
 frames:A.frames=some outer
 mod:Mod K mg base
 bs:∀ b o,base.get? b=some o->s.heap.get? b=some o/\H b=none
 bsz:base.objs.size<=s.heap.objs.size
 funs:s.heap.FunFrames base outer
 frf:∀ b∈frs outer,H b=none
 hok:HOk P w H s.heap
 bare:AllBare s.gens
noncomputable def CE(outer:List Env)(P:Program)(w:World)(H:Hp)(s:Shared)(Q:VK)(u:Value)(s':Shared):Prop :=
 ∃ v H',s'.os=s.os/\AllBare s'.gens/\Un (frs outer) [] H H' s.heap s'.heap/\HOk P w H' s'.heap/\RelV v u/\Q v H'
noncomputable def CR(CX:CXT)(outer:List Env)(P:Program)(w:World)(H:Hp)(s:Shared)(Q:VK)(E:XK)(r:Result)(s':Shared):Prop :=
 match r with
 | .ok (.ret u)=>CE outer P w H s Q u s'
 | .ok _=>False
 | .error e=>CX outer H s E e s'
structure FnOk(P:Program)(w:World)(K:PySem.W.Frag)(mg:Str->Option Value)(base:Heap)(CX:CXT)(k:Nat)(f:Addr)(fd:FuncData)(ps:List Str)(sp:Sp):Prop where
 len:∀ vs H Q E,sp vs H Q E->vs.length=ps.length
 run:∀ (A:Around) (outer:List Env) (s:Shared) (H:Hp) (args:Args) (us:List Value) (vs:List V) (Q:VK) (E:XK),Room k A->Env0 P w K mg base A outer s H->BindsTo s fd args (ps.zip us)->Vals vs us->sp vs H Q E ->
  codeAny (model P w) A (.call (.ref f) args) (CR CX outer P w H s Q E) s
section
variable{X:Cx}{pins:List (Addr×Obj)}{σ:St}{H:Hp}{s s':Shared}
theorem Inv.env0(I:Inv X pins σ H s):Env0 X.prog X.w X.K X.mg X.base X.A X.stack s H :=
 ⟨I.ok.frames,I.ok.mod,I.bs,zC I.ok.bsz I.sz,I.stack,I.stkFree,I.hok,I.bare⟩
theorem Inv.after{Q:VK}{u:Value}(I:Inv X pins σ H s)(h:CE X.stack X.prog X.w H s Q u s'):EP X pins σ Q u s':=by
 obtain⟨v,H',os,bare,un,hok,r,q⟩:=h
 obtain⟨hh,g,d,t,os'⟩:=s'
 obtain rfl:os'=s.os:=os
 exact⟨v,H',I.call (h':=hh) (g':=g) (d':=d) (t':=t) (ch:=[]) un hok bare (fun b z=>absurd z (by simp)),r,q⟩
end
noncomputable def tCall(sp:Sp)(dvs:List V)(E:XK)(t:TA):TE:=fun σ H Q=>t σ H fun vs H1=>sp (vs++dvs) H1 Q E
noncomputable def Binds(K:PySem.W.Frag)(fd:FuncData)(ps:List Str)(ds:List Value):Prop :=
 ∀ (s:Shared) (us:List Value),K.In s.heap->(us++ds).length=ps.length->BindsTo s fd ⟨us,[]⟩ (ps.zip (us++ds))
theorem Binds.all{K:PySem.W.Frag}{fd:FuncData}{ps:List Str}(h:∀ us:List Value,us.length=ps.length->bindArgs fd ⟨us,[]⟩=pure (ps.zip us)):Binds K fd ps []:=fun s us _ hl=>by
 rw[zCY]at hl ⊢
 exact .of_eq (h us hl)
noncomputable def Passes(CX:CXT)(X:Cx)(E:XK):Prop:=∀ (pins:List (Addr×Obj)) (σ:St) (H:Hp) (s:Shared) (e:Value) (s':Shared),Inv X pins σ H s->CX X.stack H s E e s'->X.xe e s'
section
variable{X:Cx}{CX:CXT}{k:Nat}{f C:Addr}{fd:FuncData}{ps:List Str}{sp:Sp}{dvs:List V}{ds:List Value}{E:XK}{x m:Str}{p pos apos:Pos}{e o:Expr}{es:List Expr}{ta:TE}{t:TA}
theorem run_fn{pins:List (Addr×Obj)}{σ:St}{H:Hp}{s:Shared}{Q:VK}{us:List Value}{vs:List V}(F:FnOk X.prog X.w X.K X.mg X.base CX k f fd ps sp)(hr:Room k X.A)(hb:Binds X.K fd ps ds)(hd:Vals dvs ds)(hx:Passes CX X E)
  (I:Inv X pins σ H s) (r:Vals vs us) (h:sp (vs++dvs) H Q E):wpAny (model X.prog X.w) X.A (call (.ref f) us) (EP X pins σ Q) X.xe s:=by
 have r2:Vals (vs++dvs) (us++ds):=r.append hd
 have hl:(us++ds).length=ps.length:=by rw[<- r2.length];exact F.len _ _ _ _ h
 refine wpAny_call (codeAny_mono (F.run X.A X.stack s H ⟨us,[]⟩ (us++ds) (vs++dvs) Q E hr I.env0 (hb s us I.kIn hl) r2 h) fun r s' hq=>?_)
 cases r with
 |error e=>exact hx pins σ H s e s' I hq
 |ok fl =>
  cases fl with
  |ret u=>exact I.after hq
  |next=>exact False.elim hq
  |brk=>exact False.elim hq
  |cont=>exact False.elim hq
theorem pe_call(F:FnOk X.prog X.w X.K X.mg X.base CX k f fd ps sp)(hr:Room k X.A)(hg:Gl X x)(hm:X.mg x=some (.ref f))(hk:PySem.W.keepIn X.K (.ref f)=true)(hb:Binds X.K fd ps ds)(hd:Vals dvs ds)(hx:Passes CX X E)
  (ha:PA X (e :: es) t) (hdb:(x ==("__debug__":Str))=false:=by decide) (he:starEach (e :: es) X.env=(false,eval e X.env) :: starEach es X.env:=by rfl) (hpl:(backTo pos (starEach es X.env)).any (·.1)=false:=by rfl) :
  PE X (.Call (.Name x p) (e :: es) [] pos) (tCall sp dvs E t):=by
 intro pins s σ H Q I h
 refine wpAny_Call_Name_kw (ld_glob I hg hm ?_ hdb)
 refine PySem.W.callWith_K (h₀:=X.base) I.ok.mod.kin hk (thn (ha pos pins s σ H _ I h) fun us s1 ⟨vs,H1,I1,r,q⟩=>⟨I1.kIn,?_⟩) he hpl
 exact run_fn F hr hb hd hx I1 r q
end
structure FnScope(N P:List Str)(sc:Scope):Prop where
 kind:sc.kind = .function
 co:sc.isCoroutine=false
 gen:sc.isGenerator=false
 nd:N.Nodup
 pre:N.take P.length=P
 par:∀ x∈P,sc.names.lookup x=some .local\/sc.names.lookup x=some .cell
 nofree:∀ y∈sc.names,y.2≠.free
theorem bindL_out{kindOf:Str->Option NameKind}{x:Str}:∀ {binds:List (Str×Value)}{m:Str->Option Value},(∀ v,(x,v)∉binds)->bindL kindOf binds m x=m x
 |[],_,_=>rfl
 |(n,v) :: r,m,h=>by
  unfold bindL
  rw[bindL_out fun w hw=>h w (zY _ hw)]
  split
  ·have:x≠n:=by rintro rfl;exact h v zT
   simp[this]
  ·rfl
theorem bindC_out{kindOf:Str->Option NameKind}{x:Str}:∀ {binds:List (Str×Value)}{m:Str->Option Value},(∀ v,(x,v)∉binds)->bindC kindOf binds m x=m x
 |[],_,_=>rfl
 |(n,v) :: r,m,h=>by
  unfold bindC
  rw[bindC_out fun w hw=>h w (zY _ hw)]
  split
  ·rfl
  ·have:x≠n:=by rintro rfl;exact h v zT
   simp[this]
theorem bindL_get{kindOf:Str->Option NameKind}{x:Str}{v:Value}:∀ {P:List Str}{vs:List Value}{i:Nat}{m:Str->Option Value},P.Nodup->P[i]?=some x->vs[i]?=some v->kindOf x=some .local ->
  bindL kindOf (P.zip vs) m x=some v
 |[],_,_,_,_,h,_,_=>by simp at h
 | _ :: _,[],_,_,_,_,h,_=>by simp at h
 |p :: P,w :: vs,0,m,nd,h1,h2,hk=>by
  simp at h1 h2;subst h1;subst h2
  show bindL kindOf ((p,w) :: P.zip vs) m p=_
  unfold bindL
  rw[bindL_out fun v hv=>(zCZ.mp nd).1 (List.of_mem_zip hv).1,if_pos hk]
  simp
 |p :: P,w :: vs,i+1,m,nd,h1,h2,hk=>by
  show bindL kindOf ((p,w) :: P.zip vs) m x=_
  unfold bindL
  exact bindL_get (i:=i) (zCZ.mp nd).2 (by simpa using h1) (by simpa using h2) hk
theorem bindC_get{kindOf:Str->Option NameKind}{x:Str}{v:Value}:∀ {P:List Str}{vs:List Value}{i:Nat}{m:Str->Option Value},P.Nodup->P[i]?=some x->vs[i]?=some v->kindOf x≠some .local ->
  bindC kindOf (P.zip vs) m x=some v
 |[],_,_,_,_,h,_,_=>by simp at h
 | _ :: _,[],_,_,_,_,h,_=>by simp at h
 |p :: P,w :: vs,0,m,nd,h1,h2,hk=>by
  simp at h1 h2;subst h1;subst h2
  show bindC kindOf ((p,w) :: P.zip vs) m p=_
  unfold bindC
  rw[bindC_out fun v hv=>(zCZ.mp nd).1 (List.of_mem_zip hv).1,if_neg hk]
  simp
 |p :: P,w :: vs,i+1,m,nd,h1,h2,hk=>by
  show bindC kindOf ((p,w) :: P.zip vs) m x=_
  unfold bindC
  exact bindC_get (i:=i) (zCZ.mp nd).2 (by simpa using h1) (by simpa using h2) hk
noncomputable def start(N:List Str)(vs:List V):St:=vs.map some++List.replicate (N.length-vs.length) none
noncomputable def cxOf(CX:CXT)(P:Program)(w:World)(K:PySem.W.Frag)(mg:Str->Option Value)(base:Heap)(N:List Str)(qual:Str)(scope:Scope)(f:Addr)(cd:Value)(A:Around)(outer:List Env)(s:Shared)(H:Hp)(E:XK):Cx where
 prog:=P
 w:=w
 K:=K
 mg:=mg
 base:=base
 A:=A.deeper (envOfC qual scope s.heap.objs.size f cd)
 N:=N
 s₀:=s
 H₀:=H
 env:=envOfC qual scope s.heap.objs.size f cd
 outer:=outer
 stack:=envOfC qual scope s.heap.objs.size f cd :: outer
 ex:=[]
 calm:=true
 fn:=fun _=>true
 pn:=[]
 xe:=fun e s'=>wpAny (model P w) (A.deeper (envOfC qual scope s.heap.objs.size f cd)) (leaving (envOfC qual scope s.heap.objs.size f cd) e) (fun _ s''=>CX outer H s E e s'') (fun e' s''=>CX outer H s E e' s'') s'
theorem cell_has{sc:Scope}{n:Nat}{x:Str}(h:sc.names.lookup x=some .cell):∃ c,(cellsFrom n sc.names []).lookup x=some c:=by
 have q:=PySem.W.cellsFrom_some sc.names n [] (.inl h)
 exact Option.isSome_iff_exists.mp q
theorem inv_start{CX:CXT}{P:Program}{w:World}{K:PySem.W.Frag}{mg:Str->Option Value}{base:Heap}{N ps:List Str}{qual:Str}{scope:Scope}{f:Addr}{cd:Value}{A:Around}{outer:List Env}{s s1:Shared}{H:Hp}{E:XK}{us:List Value}{vs:List V}
  (S:FnScope N ps scope) (hd:A.handled=none) (e0:Env0 P w K mg base A outer s H) (hl:vs.length=ps.length) (r:Vals vs us)
  (x:InCallC s s.heap.objs.size (bindL (envOfC qual scope s.heap.objs.size f cd).kindOf (ps.zip us) fun _=>none) (cellsFrom (s.heap.objs.size+1) scope.names []) (bindC (envOfC qual scope s.heap.objs.size f cd).kindOf (ps.zip us) fun _=>none) s1) :
  Inv (cxOf CX P w K mg base N qual scope f cd A outer s H E) [] (start N vs) H s1:=by
 have hpl:ps.length<=N.length:=by have:=congrArg List.length S.pre;rw[zBF]at this;lia
 obtain⟨h1,tk,rfl,hk⟩:=x.done
 have noA:∀ b:Addr,b∉(cxOf CX P w K mg base N qual scope f cd A outer s H E).ex:=fun b z=>absurd (show b∈([]:List Addr)from z) (by simp)
 refine⟨⟨e0.mod,S.kind,rfl,rfl,zJ _,fun y z c h1 h2=>?_,fun y hy=>?_,fun y c _ h=>?_,fun _=>hd,Around.frames_deeper e0.frames,.inr ⟨rfl,rfl⟩,fun b z=>absurd z (noA b),e0.bs,e0.bsz,fun b _ _=>noA b,fun b z=>absurd z (noA b),e0.funs,e0.frf⟩,
  rfl,e0.bare,Un.kept hk,⟨_,x.toInCall.ns,fun i y v h1 h2 h3=>?_⟩,fun y c h=>⟨_,x.cell y c h⟩,e0.hok.fresh (zJ _),fun y c h=>?_,fun p hp=>absurd (show p∈([]:List (Addr×Obj))from hp) (by simp),e0.hok.kept hk,?_⟩
 ·exact name_of_addr x.apart (PySem.mem_of_lookup h1) (PySem.mem_of_lookup h2)
 ·have hy:scope.names.lookup y=some .cell\/scope.names.lookup y=some .free:=hy
  rcases hy with hy | hy
  ·exact cell_has hy
  ·exact absurd rfl (S.nofree _ (PySem.mem_of_lookup hy))
 ·exact zAA (x.above y c (PySem.mem_of_lookup h))
 ·have hi:i<vs.length:=by
   unfold start at h2
   by_cases hi:i<vs.length
   ·exact hi
   ·rw[List.getElem?_append_right (by simpa using hi)]at h2
    rw[List.getElem?_replicate]at h2
    split at h2 <;> cases h2
  have ha:vs[i]?=some v:=by
   unfold start at h2
   rw[List.getElem?_append_left (by simpa using hi),zAJ]at h2
   cases e:vs[i]? with
   |none=>rw[e]at h2;cases h2
   |some a=>rw[e]at h2;cases h2;rfl
  obtain⟨u,hu,rv⟩:=r.get ha
  have hp:ps[i]?=some y:=by
   rw[<- S.pre,List.getElem?_take_of_lt (by lia)];exact h1
  have ndP:ps.Nodup:=by rw[<- S.pre];exact S.nd.sublist (List.take_sublist _ _)
  refine⟨u,rv,?_⟩
  rcases S.par y (List.mem_of_getElem? hp)with k | k
  ·exact .inl ⟨k,bindL_get ndP hp hu k⟩
  ·obtain⟨c,e⟩:=cell_has (n:=s.heap.objs.size+1) k
   refine .inr ⟨.inl k,c,e,?_⟩
   have q:=x.cell y c e
   rw[bindC_get ndP hp hu (by show scope.names.lookup y≠_;rw[k];decide)]at q
   exact q
 ·exact e0.hok.fresh (zAA (x.above y c (PySem.mem_of_lookup h)))
 ·unfold start
  show _=N.length
  rw[zAC,zB,List.length_replicate]
  lia
theorem fn_of{CX:CXT}{P:Program}{w:World}{K:PySem.W.Frag}{mg:Str->Option Value}{base:Heap}{k:Nat}{f:Addr}{name qual:Str}{params:Arguments}{body:List Stmt}{scope:Scope}{dV kV doc pm cdv ct oc:Value}{an od:Option Addr}
  {osl:Array (Option Value)}{N ps:List Str}{sp:Sp} (lk:K.lookup f=some ⟨oc,od,.func (PySem.W.fnOf name qual params body scope dV kV doc pm an cdv ct),osl⟩) (hcd:PySem.W.codeIn K cdv qual=true) (S:FnScope N ps scope)
  (len:∀ vs H Q E,sp vs H Q E->vs.length=ps.length)
  (hbody:∀ (A:Around) (outer:List Env) (s:Shared) (H:Hp) (vs:List V) (Q:VK) (E:XK),Room k (A.deeper (envOfC qual scope s.heap.objs.size f cdv))->sp vs H Q E ->
   ∃ t,PSs (cxOf CX P w K mg base N qual scope f cdv A outer s H E) body t/\t { nx:=fun _ H'=>Q .non H',rt:=Q } (start N vs) H) :
  FnOk P w K mg base CX (k+1) f (PySem.W.fnOf name qual params body scope dV kV doc pm an cdv ct) ps sp:=by
 refine⟨len,fun A outer s H args us vs Q E hr e0 hb r hsp=>?_⟩
 have hl:=len _ _ _ _ hsp
 have KX:K.In s.heap:=e0.mod.kin.keeps fun b o e=>(e0.bs b o e).1
 have lim:s.heap.NoLimit:=e0.mod.nolimit.keeps fun b o e=>(e0.bs b o e).1
 have hkind:∀ y∈ps.zip us,scope.names.lookup y.1=some .local\/(scope.names.lookup y.1=some .cell/\((cellsFrom (s.heap.objs.size+1) scope.names []).lookup y.1).isSome=true):=fun⟨n,v⟩ hy=>by
  rcases S.par n (List.of_mem_zip hy).1 with q | q
  ·exact .inl q
  ·exact .inr ⟨q,PySem.W.cellsFrom_some _ _ _ (.inl q)⟩
 refine codeAny_call_function hr.depth (KX _ _ lk) rfl S.co S.gen rfl (PySem.W.codeRec_of KX hcd) (hb _ _ _ _ ?_)
 refine wpAny_newFunctionEnv_cells S.kind hkind fun env he s1 x=>?_
 subst he
 refine⟨lim.keeps x.toInCall.keep,codeAny_func ?_⟩
 obtain⟨t,ht,hq⟩:=hbody A outer s H vs Q E (hr.deeper _) hsp
 have I:Inv (cxOf CX P w K mg base N qual scope f cdv A outer s H E) [] (start N vs) H s1:=inv_start S hr.hd e0 hl r x
 refine wpAny_mono (ht [] s1 (start N vs) H _ I hq) (fun fl s' hs=>?_) fun e s' hs=>hs
 have fin:∀ {σ':St}{H':Hp}{v:V}{u:Value},Inv (cxOf CX P w K mg base N qual scope f cdv A outer s H E) [] σ' H' s'->RelV v u->Q v H'->CE outer P w H s Q u s' :=
  fun {σ' H' v u} J rv q=>⟨v,H',J.os,J.bare,J.base,J.hok,rv,q⟩
 cases fl with
 |ret u =>
  obtain⟨v,σ',H',J,rv,q⟩:=hs
  exact fin J rv q
 |next =>
  obtain⟨σ',H',J,q⟩:=hs
  exact fin (v:=V.non) (u:=Value.none) J rfl q
 |brk =>
  obtain⟨_,_,_,q⟩:=hs
  exact False.elim q
 |cont =>
  obtain⟨_,_,_,q⟩:=hs
  exact False.elim q
open PySem PySem.Spec PyProof.Rows
section
variable{X:Cx}{x:Str}{p pos:Pos}{e:Expr}{es:List Expr}{t:TA}{id T:String}{r:List V->Hp->VK->Prop}
noncomputable def tCB(r:List V->Hp->VK->Prop)(t:TA):TE:=fun σ H Q=>t σ H fun vs H1=>r vs H1 Q
theorem pe_callB(hc:CallR X (.builtin id) r)(hg:Gl X x)(hm:X.mg x=none)(hv:bootBuiltins x=some (.builtin id))(ha:PA X (e :: es) t)(hn:x≠"__name__":=by decide)(hdb:(x ==("__debug__":Str))=false:=by decide)
  (he:starEach (e :: es) X.env=(false,eval e X.env) :: starEach es X.env:=by rfl) (hpl:(backTo pos (starEach es X.env)).any (·.1)=false:=by rfl):PE X (.Call (.Name x p) (e :: es) [] pos) (tCB r t):=by
 intro pins s σ H Q I h
 refine wpAny_Call_Name_kw (ld_blt I hg hm hv ?_ hn hdb)
 exact PyProof.Rows.callWith_builtin1 (thn (ha pos pins s σ H _ I h) fun us s1 ⟨vs,H1,I1,r1,q1⟩=>hc pins s1 σ H1 vs us Q I1 r1 q1) he hpl
theorem pe_callTy(hc:CallR X (.type T) r)(hg:Gl X x)(hm:X.mg x=none)(hv:bootBuiltins x=some (.type T))(ha:PA X (e :: es) t)(hn:x≠"__name__":=by decide)(hdb:(x ==("__debug__":Str))=false:=by decide)
  (he:starEach (e :: es) X.env=(false,eval e X.env) :: starEach es X.env:=by rfl) (hpl:(backTo pos (starEach es X.env)).any (·.1)=false:=by rfl):PE X (.Call (.Name x p) (e :: es) [] pos) (tCB r t):=by
 intro pins s σ H Q I h
 refine wpAny_Call_Name_kw (ld_blt I hg hm hv ?_ hn hdb)
 exact PyProof.Rows.callWith_type1 (thn (ha pos pins s σ H _ I h) fun us s1 ⟨vs,H1,I1,r1,q1⟩=>hc pins s1 σ H1 vs us Q I1 r1 q1) he hpl
end
open PySem PySem.Spec PyProof.Rows
section
variable{κ:Type}[DecidableEq κ]
noncomputable def valV(kvs:List (κ×V))(k:κ):Option V:=(kvs.find? fun kv=>decide (kv.1=k)).map (·.2)
noncomputable def putK(kvs:List (κ×V))(k:κ)(v:V):List (κ×V) :=
 if(kvs.any fun kv=>decide (kv.1=k))=true then kvs.map (fun kv=>if kv.1=k then(kv.1,v)else kv)else kvs++[(k,v)]
theorem valV_nil{k:κ}:valV ([]:List (κ×V)) k=none:=rfl
theorem valV_pos{p:κ×V}{r:List (κ×V)}{k:κ}(e:p.1=k):valV (p :: r) k=some p.2:=by simp[valV,List.find?_cons,e]
theorem valV_neg{p:κ×V}{r:List (κ×V)}{k:κ}(e:¬ p.1=k):valV (p :: r) k=valV r k:=by simp[valV,List.find?_cons,e]
theorem valV_any(k:κ):∀ kvs:List (κ×V),(kvs.any fun kv=>decide (kv.1=k))=(valV kvs k).isSome
 |[]=>rfl
 |p :: r=>by
  rw[List.any_cons]
  by_cases e:p.1=k
  ·simp only[valV_pos e,decide_eq_true e,Bool.true_or,Option.isSome_some]
  ·rw[valV_neg e,decide_eq_false e,Bool.false_or];exact valV_any k r
theorem valV_map(k j:κ)(y:V):∀ kvs:List (κ×V),valV (kvs.map fun kv=>if kv.1=k then(kv.1,y)else kv) j=(valV kvs j).map fun x=>if j=k then y else x
 |[]=>rfl
 |p :: r=>by
  have ih:=valV_map k j y r
  rw[zAI]
  by_cases h:p.1=k
  ·rw[if_pos h]
   by_cases e:p.1=j
   ·rw[valV_pos (p:=(p.1,y)) e,valV_pos e,Option.map_some,if_pos (e.symm.trans h)]
   ·rw[valV_neg (p:=(p.1,y)) e,valV_neg e,ih]
  ·rw[if_neg h]
   by_cases e:p.1=j
   ·rw[valV_pos (p:=p) e,valV_pos e,Option.map_some,if_neg (fun z=>h (e.trans z))]
   ·rw[valV_neg (p:=p) e,valV_neg e,ih]
theorem valV_snoc(k j:κ)(y:V):∀ kvs:List (κ×V),valV kvs k=none->valV (kvs++[(k,y)]) j=if j=k then some y else valV kvs j
 |[],_=>by
  by_cases e:k=j
  ·rw[if_pos e.symm];exact valV_pos (p:=(k,y)) e
  ·rw[if_neg (fun z=>e z.symm)];exact valV_neg (p:=(k,y)) e
 |p :: r,hn=>by
  rw[List.cons_append]
  have hk:¬ p.1=k:=fun z=>by rw[valV_pos z]at hn;cases hn
  rw[valV_neg hk]at hn
  have ih:=valV_snoc k j y r hn
  by_cases e:p.1=j
  ·rw[valV_pos e,valV_pos e,if_neg (fun z=>hk (e.trans z))]
  ·rw[valV_neg e,valV_neg e,ih]
theorem valV_put(kvs:List (κ×V))(k j:κ)(y:V):valV (putK kvs k y) j=if j=k then some y else valV kvs j:=by
 unfold putK
 by_cases a:(kvs.any fun kv=>decide (kv.1=k))=true
 ·rw[if_pos a,valV_map]
  rw[valV_any]at a
  by_cases e:j=k
  ·obtain⟨x,hx⟩:=Option.isSome_iff_exists.mp a
   rw[if_pos e,e,hx,Option.map_some,if_pos rfl]
  ·rw[if_neg e]
   cases valV kvs j with
   |none=>rfl
   |some x=>rw[Option.map_some,if_neg e]
 ·rw[if_neg a]
  refine valV_snoc k j y kvs ?_
  rw[valV_any]at a
  cases q:valV kvs k with
  |none=>rfl
  |some x=>rw[q]at a;exact(a rfl).elim
theorem length_putK(kvs:List (κ×V))(k:κ)(v:V):(putK kvs k v).length<=kvs.length+1:=by
 unfold putK
 split
 ·rw[zB];exact zQ kvs.length 1
 ·rw[zAC,zBD,List.length_nil];exact zJ (kvs.length+(0+1))
theorem putK_new{kvs:List (κ×V)}{k:κ}(v:V)(h:valV kvs k=none):putK kvs k v=kvs++[(k,v)]:=by
 unfold putK
 rw[valV_any,h]
 exact if_neg (by decide)
theorem RelO.isSome_eq{o:Option V}{u:Option Value}(r:RelO o u):o.isSome=u.isSome:=by
 cases o with
 |none=>cases u with
  |none=>rfl
  |some _=>exact(show False from r).elim
 |some _=>cases u with
  |none=>exact(show False from r).elim
  |some _=>rfl
theorem KV.val{kvs:List (κ×V)}{vs:List (κ×Value)}(r:KV kvs vs)(k:κ):RelO (valV kvs k) (valueAt vs k):=by
 unfold KV at r
 induction r with
 |nil=>exact True.intro
 | @cons p q ps qs h t ih =>
  obtain⟨h1,h2⟩:=h
  by_cases e:p.1=k
  ·have e':q.1=k:=h1.symm.trans e
   have b:valueAt (q :: qs) k=some q.2:=by simp[valueAt,List.find?_cons,e']
   rw[valV_pos e,b];exact h2
  ·have e':¬ q.1=k:=fun z=>e (h1.trans z)
   have b:valueAt (q :: qs) k=valueAt qs k:=by simp[valueAt,List.find?_cons,e']
   rw[valV_neg e,b];exact ih
theorem KV.any{kvs:List (κ×V)}{vs:List (κ×Value)}(r:KV kvs vs)(k:κ):(kvs.any fun kv=>decide (kv.1=k))=vs.any fun kv=>decide (kv.1=k):=by
 unfold KV at r
 induction r with
 |nil=>rfl
 |cons h t ih=>rw[List.any_cons,List.any_cons,ih,h.1]
theorem KV.repl{kvs:List (κ×V)}{vs:List (κ×Value)}(r:KV kvs vs)(k:κ){y:V}{u:Value}(ry:RelV y u) :
  KV (kvs.map fun kv=>if kv.1=k then(kv.1,y)else kv) (vs.map fun kv=>if kv.1=k then(kv.1,u)else kv):=by
 unfold KV at r ⊢
 induction r with
 |nil=>exact .nil
 | @cons p q ps qs h t ih =>
  rw[zAI,zAI]
  refine .cons ?_ ih
  obtain⟨h1,h2⟩:=h
  by_cases e:p.1=k
  ·rw[if_pos e,if_pos (h1.symm.trans e)];exact⟨h1,ry⟩
  ·rw[if_neg e,if_neg (fun z=>e (h1.trans z))];exact⟨h1,h2⟩
theorem KV.put{kvs:List (κ×V)}{vs:List (κ×Value)}(r:KV kvs vs)(k:κ){y:V}{u:Value}(ry:RelV y u):KV (putK kvs k y) (stored vs k u):=by
 unfold putK stored
 rw[r.any k]
 by_cases e:(vs.any fun kv=>decide (kv.1=k))=true
 ·rw[if_pos e,if_pos e];exact r.repl k ry
 ·rw[if_neg e,if_neg e];exact Paired.snoc r ⟨rfl,ry⟩
theorem KV.length{kvs:List (κ×V)}{vs:List (κ×Value)}(r:KV kvs vs):kvs.length=vs.length:=Paired.length r
end
theorem kV_is{P:Program}{w:World}{k:Key}{u:Value}(r:RelV (kV k) u):(mixKind P w).is k u=true:=by
 cases k with
 |inl i=>obtain⟨t,e⟩:=(show ∃ t,u=Value.int i t from r);subst e;exact mixKind_int P w i t
 |inr x=>obtain⟨t,e⟩:=(show ∃ t,u=Value.str x t from r);subst e;exact mixKind_str P w x t
theorem items_are{P:Program}{w:World}:∀ {ks:List Key}{us:List Value},Vals (ks.map kV) us->ItemsAre (mixKind P w) ks us
 |[],_,r=>by rw[List.map_nil]at r;cases r;exact .nil
 |k :: ks,_,r=>by
  rw[zAI]at r
  cases r with
  |cons h t=>exact .cons (kV_is h) (items_are t)
noncomputable abbrev KT(H:Hp):List (List Key×V)->List (List Key×Addr×Value)->Prop:=Paired fun p q=>p.1=q.1/\H q.2.1=some (.tup (p.1.map kV))/\RelV p.2 q.2.2
theorem KT.val{H:Hp}{kvs:List (List Key×V)}{xs:List (List Key×Addr×Value)}(r:KT H kvs xs)(k:List Key):RelO (valV kvs k) ((atKey xs k).map (·.2)):=by
 induction r with
 |nil=>exact True.intro
 | @cons p q ps qs h t ih =>
  obtain⟨h1,_,h2⟩:=h
  by_cases e:p.1=k
  ·have e':q.1=k:=h1.symm.trans e
   have b:atKey (q :: qs) k=some q.2:=by simp[atKey,List.find?_cons,e']
   rw[valV_pos e,b];exact h2
  ·have e':¬ q.1=k:=fun z=>e (h1.trans z)
   have b:atKey (q :: qs) k=atKey qs k:=by simp[atKey,List.find?_cons,e']
   rw[valV_neg e,b];exact ih
theorem KT.repl{H:Hp}{kvs:List (List Key×V)}{xs:List (List Key×Addr×Value)}(r:KT H kvs xs)(k:List Key){y:V}{u:Value}(ry:RelV y u) :
  KT H (kvs.map fun kv=>if kv.1=k then(kv.1,y)else kv) (xs.map (putAt k u)):=by
 induction r with
 |nil=>exact .nil
 | @cons p q ps qs h t ih =>
  rw[zAI,zAI]
  refine .cons ?_ ih
  obtain⟨h1,h2,h3⟩:=h
  unfold putAt
  by_cases e:p.1=k
  ·rw[if_pos e,if_pos (h1.symm.trans e)];exact⟨h1,h2,ry⟩
  ·rw[if_neg e,if_neg (fun z=>e (h1.trans z))];exact⟨h1,h2,h3⟩
theorem KT.put{H:Hp}{kvs:List (List Key×V)}{xs:List (List Key×Addr×Value)}(r:KT H kvs xs)(k:List Key){b:Addr}{y:V}{u:Value}(hb:H b=some (.tup (k.map kV)))(ry:RelV y u) :
  KT H (putK kvs k y) (storedH xs k b u):=by
 have e:(kvs.any fun kv=>decide (kv.1=k))=(atKey xs k).isSome:=by
  rw[valV_any,(r.val k).isSome_eq,Option.isSome_map]
 unfold putK storedH
 rw[e]
 by_cases q:(atKey xs k).isSome=true
 ·rw[if_pos q,if_pos q];exact r.repl k ry
 ·rw[if_neg q,if_neg q];exact Paired.snoc r ⟨rfl,hb,ry⟩
theorem KT.keeps{H H':Hp}{kvs:List (List Key×V)}{xs:List (List Key×Addr×Value)}(r:KT H kvs xs)(ht:∀ b ys,H b=some (.tup ys)->H' b=some (.tup ys)):KT H' kvs xs :=
 Paired.mapP r fun _ _ z=>⟨z.1,ht _ _ z.2.1,z.2.2⟩
section
variable{P:Program}{w:World}{H:Hp}{h:Heap}{a:Addr}
theorem rd_of{u:HO}(ok:HOk P w H h)(e:Rd H a u):ObjOk P w H h a u:=e.ok ok
theorem dk_rd{kvs:List (Key×V)}(ok:HOk P w H h)(e:Rd H a (.dK kvs)):kvs.length<=sizeLine/\(a == sysModules)=false/\∃ vs,KV kvs vs/\h.DictOf (mixKind P w) a vs :=
 show ObjOk P w H h a (.dK kvs)from rd_of ok e
theorem dk_of{kvs:List (Key×V)}(ok:HOk P w H h)(e:H a=some (.dK kvs)):kvs.length<=sizeLine/\(a == sysModules)=false/\∃ vs,KV kvs vs/\h.DictOf (mixKind P w) a vs:=dk_rd ok (.inl e)
theorem key_of{ks:List Key}(ok:HOk P w H h)(e:H a=some (.tup (ks.map kV))):(tupleKind (mixKind P w)).is h ks a:=by
 obtain⟨_,its,r,o,h1,h2,n,h3⟩:=(show ObjOk P w H h a (.tup (ks.map kV))from ok a _ e)
 exact⟨o,its.toArray,n,h1,h2,h3,by simpa using items_are r⟩
theorem dt_rd{kvs:List (List Key×V)}(ok:HOk P w H h)(e:Rd H a (.dT kvs)):kvs.length<=sizeLine/\(a == sysModules)=false /\
  ∃ xs,KT H kvs xs/\h.DictOfH (tupleKind (mixKind P w)) a xs:=by
 obtain⟨z,y,xs,r,o,es,ep,h1,h2,h3,h4,h5⟩:=(show ObjOk P w H h a (.dT kvs)from rd_of ok e)
 refine⟨z,y,xs,r,o,es,ep,h1,h2,h3,h4,fun x hx=>?_,h5⟩
 have all:∀ {l:List (List Key×V)}{m:List (List Key×Addr×Value)},KT H l m->∀ x∈m,(tupleKind (mixKind P w)).is h x.1 x.2.1:=by
  intro l m q
  induction q with
  |nil=>intro x hx;exact nomatch hx
  | @cons p q ps qs hq t ih =>
   intro x hx
   rcases zAF.mp hx with e | hx
   ·subst e
    exact key_of ok (by rw[<- hq.1];exact hq.2.1)
   ·exact ih x hx
 exact all r x hx
theorem dt_of{kvs:List (List Key×V)}(ok:HOk P w H h)(e:H a=some (.dT kvs)):kvs.length<=sizeLine/\(a == sysModules)=false /\
  ∃ xs,KT H kvs xs/\h.DictOfH (tupleKind (mixKind P w)) a xs:=dt_rd ok (.inl e)
end
noncomputable def DGet(H:Hp)(a:Addr)(y:V)(r:Option V):Prop :=
 (∃ kvs k,Rd H a (.dK kvs)/\y=kV k/\r=valV kvs k)\/∃ kvs k b,Rd H a (.dT kvs)/\y = .ref b/\H b=some (.tup (k.map kV))/\r=valV kvs k
noncomputable def DPut(H:Hp)(a:Addr)(y v:V)(H':Hp):Prop :=
 (∃ kvs k,H a=some (.dK kvs)/\y=kV k/\kvs.length<sizeLine/\H'=upd H a (.dK (putK kvs k v))) \/
 ∃ kvs k b,H a=some (.dT kvs)/\y = .ref b/\H b=some (.tup (k.map kV))/\kvs.length<sizeLine/\H'=upd H a (.dT (putK kvs k v))
theorem DGet.t{H:Hp}{a b:Addr}{kvs:List (List Key×V)}{k:List Key}(e:H a=some (.dT kvs))(eb:H b=some (.tup (k.map kV))):DGet H a (.ref b) (valV kvs k):=.inr ⟨kvs,k,b,.inl e,rfl,eb,rfl⟩
theorem DPut.t{H:Hp}{a b:Addr}{kvs:List (List Key×V)}{k:List Key}{v:V}(e:H a=some (.dT kvs))(eb:H b=some (.tup (k.map kV)))(hl:kvs.length<sizeLine) :
  DPut H a (.ref b) v (upd H a (.dT (putK kvs k v))):=.inr ⟨kvs,k,b,e,rfl,eb,hl,rfl⟩
section
variable{X:Cx}{pins:List (Addr×Obj)}{σ:St}{H:Hp}{s:Shared}{a:Addr}{y v:V}{u r:Value}{o:Option V}{A:Around}{E:Value->Shared->Prop}
theorem Inv.big(I:Inv X pins σ H s):sysModules<s.heap.objs.size:=by
 have h:mainGlobals<s.heap.objs.size:=(I.mod.glob.keeps I.bk).lt
 exact Nat.lt_trans (by decide) h
theorem d_getItem{Q:Value->Shared->Prop}(hu:A.units+1<cLine)(I:Inv X pins σ H s)(g:DGet H a y (some v))(ry:RelV y u)(h:∀ w' s',Inv X pins σ H s'->RelV v w'->Q w' s') :
  wpAny (model X.prog X.w) A (getItem (.ref a) u) Q E s:=by
 rcases g with⟨kvs,k,e,ey,l⟩ |⟨kvs,k,b,e,ey,eb,l⟩
 ·subst ey
  obtain⟨z,hd,vs,rel,dd⟩:=dk_rd I.hok e
  obtain⟨w',hw,rw'⟩:=RelO.some_of (v:=v) (o:=valueAt vs k) (by rw[l];exact rel.val k)
  exact wpAny_getItem_of (kV_is ry) dd.mapOf hw (h w' _ (I.tok _) rw')
 ·subst ey
  cases(show u=Value.ref b from ry)
  obtain⟨z,hd,xs,rel,dd⟩:=dt_rd I.hok e
  obtain⟨w',hw,rw'⟩:=RelO.some_of (v:=v) (o:=(atKey xs k).map (·.2)) (by rw[l];exact rel.val k)
  obtain⟨p,hp,hp2⟩:=Option.map_eq_some_iff.mp hw
  refine wpAny_getItem_heap (tupleKind_room_in1 hu) (key_of I.hok eb) dd hp ?_
  rw[hp2]
  exact h w' _ (I.tok _) rw'
theorem d_in{Q:Value->Shared->Prop}(hu:A.units+1<cLine)(I:Inv X pins σ H s)(g:DGet H a y o)(ry:RelV y u)(h:∀ s',Inv X pins σ H s'->Q (.bool o.isSome) s') :
  wpAny (model X.prog X.w) A (compareOp .In u (.ref a)) Q E s:=by
 rcases g with⟨kvs,k,e,ey,l⟩ |⟨kvs,k,b,e,ey,eb,l⟩
 ·subst ey
  obtain⟨z,hd,vs,rel,dd⟩:=dk_rd I.hok e
  refine wpAny_in_of (kV_is ry) hd dd.mapOf ?_
  rw[<-(rel.val k).isSome_eq,<- l]
  exact h _ (I.tok _)
 ·subst ey
  cases(show u=Value.ref b from ry)
  obtain⟨z,hd,xs,rel,dd⟩:=dt_rd I.hok e
  refine wpAny_in_heap (tupleKind_room_in1 hu) (key_of I.hok eb) hd dd ?_
  have q:=(rel.val k).isSome_eq
  rw[Option.isSome_map]at q
  rw[<- q,<- l]
  exact h _ (I.tok _)
theorem d_write{h':Heap}{t':Nat}{ob:HO}(I:Inv X pins σ H s)(mu:Mut (H a))(hs:Heap.SameBut a s.heap h')(he:∃ q,h'.get? a=some q)(new:ObjOk X.prog X.w (upd H a ob) h' a ob) :
  Inv X pins σ (upd H a ob) { s with heap:=h',toks:=t' } :=
 I.write (x:=a) (e:=a) mu (.inl rfl) (fun b q hb z=>(hs.2 b hb).trans z) he new
theorem dk_new{P:Program}{w:World}{H':Hp}{h':Heap}{kvs:List (Key×V)}{vs:List (Key×Value)}(z:kvs.length<=sizeLine)(hd:(a == sysModules)=false)(rel:KV kvs vs)(dd:h'.DictOf (mixKind P w) a vs) :
  ObjOk P w H' h' a (.dK kvs):=⟨z,hd,vs,rel,dd⟩
theorem d_setItem{H':Hp}{Q:Unit->Shared->Prop}(hu:A.units+1<cLine)(I:Inv X pins σ H s)(g:DPut H a y v H')(ry:RelV y u)(rv:RelV v r)(h:∀ s',Inv X pins σ H' s'->Q () s') :
  wpAny (model X.prog X.w) A (setItem (.ref a) u r) Q E s:=by
 rcases g with⟨kvs,k,e,ey,l,eH⟩ |⟨kvs,k,b,e,ey,eb,l,eH⟩
 ·subst ey eH
  obtain⟨z,hd,vs,rel,dd⟩:=dk_of I.hok e
  have hz:vs.length<=sizeLine:=by rw[<- rel.length];exact z
  have hl:(putK kvs k v).length<=sizeLine:=by have:=length_putK kvs k v;exact zC this (zn5 l)
  refine wpAny_setItem_pairs (hsz:=hz) (kV_is ry) dd fun h' dd' hs=>h _ ?_
  have he:∃ q,h'.get? a=some q:=let ⟨q,_,_,hq,_⟩:=dd';⟨q,hq⟩
  exact d_write I (by rw[e];exact True.intro) hs he (dk_new hl hd (rel.put k rv) dd')
 ·subst ey eH
  cases(show u=Value.ref b from ry)
  obtain⟨z,hd,xs,rel,dd⟩:=dt_of I.hok e
  have hz:xs.length<=sizeLine:=by rw[<- Paired.length rel];exact z
  have hl:(putK kvs k v).length<=sizeLine:=by have:=length_putK kvs k v;exact zC this (zn5 l)
  refine wpAny_setItem_heap (hsz:=hz) (tupleKind_room_in1 hu) (key_of I.hok eb) dd fun h' dd' hs=>h _ ?_
  obtain⟨q,es,ep,hq,h2,h3,h4,_,h5⟩:=dd'
  refine d_write I (by rw[e];exact True.intro) hs ⟨q,hq⟩ ⟨hl,hd,_,(rel.put k eb rv).keeps fun c ys ec=>?_,q,es,ep,hq,h2,h3,h4,h5⟩
  rw[upd_ne (ne_of ec e (fun z=>nomatch z))]
  exact ec
end
noncomputable def NoSl(i:Expr):Prop:=∀ ov iv,subscripted i false ov iv=operate [ov,iv] (getItem ov iv)
theorem subD_of{prog:Program}{w:World}{A:Around}{E:Value->Shared->Prop}{s:Shared}{env:Env}{value slice:Expr}{pos:Pos}{T id:String}{Q:Value->Shared->Prop}
  (hl:typeLookup (.type T) "__getitem__" = pure (some (.builtin id))) (hs:NoSl slice)
  (h:wpAny (model prog w) A (eval value env) (fun o s₁=>wpAny (model prog w) A (eval slice env) (fun i s₂=>s₂.TypeIs o T/\wpAny (model prog w) A (getItem o i) Q E s₂) E s₁) E s) :
  wpAny (model prog w) A (eval (.Subscript value slice pos) env) Q E s:=by
 refine Subscript_ (wpAny_mono h (fun o s₁ h₁=>wpAny_mono h₁ (fun i s₂ h₂=>?_) fun _ _ x=>x) fun _ _ x=>x)
 obtain⟨hT,h₂⟩:=h₂
 unfold subscriptTail
 refine zA ?_
 rw[getitemInPython_of_ne hT.not_modules]
 refine zA (wpAny_specialOf hT hl ?_)
 have fin:wpAny (model prog w) A (subscripted slice false o i) (fun r s₃=>wpAny (model prog w) A (letTemporaryGo value o r >>= fun _=>pure r) Q E s₃) E s₂:=by
  rw[hs o i]
  exact wpAny_operating (wpAny_mono h₂ (fun r s₃ h₃=>zA (wpAny_letTemporaryGo (zG h₃))) fun _ _ x=>x)
 first
  |exact zG (zA fin)
  |exact zA (zG (zA fin))
  |exact zA fin
theorem dict_typeIs{X:Cx}{pins:List (Addr×Obj)}{σ:St}{H:Hp}{s:Shared}{a:Addr}{y:V}{o:Option V}(I:Inv X pins σ H s)(g:DGet H a y o):s.TypeIs (.ref a) "dict":=by
 rcases g with⟨kvs,k,e,_,_⟩ |⟨kvs,k,b,e,_,_,_⟩
 ·obtain⟨_,_,vs,_,dd⟩:=dk_rd I.hok e
  exact dd.typeIs
 ·obtain⟨_,_,xs,_,dd⟩:=dt_rd I.hok e
  exact dd.typeIs
noncomputable def tDGet(td ty:TE):TE:=fun σ H Q=>td σ H fun x H1=>ty σ H1 fun y H2=>∃ a v,x = .ref a/\DGet H2 a y (some v)/\Q v H2
noncomputable def tDIn(ty td:TE):TE:=fun σ H Q=>ty σ H fun y H1=>td σ H1 fun x H2=>∃ a o,x = .ref a/\DGet H2 a y o/\Q (.bl o.isSome) H2
noncomputable def sDPut(td ty tv:TE):TS:=fun D σ H=>tv σ H fun v H1=>td σ H1 fun x H2=>ty σ H2 fun y H3=>∃ a H4,x = .ref a/\DPut H3 a y v H4/\D.nx σ H4
section
variable{X:Cx}{o i e value:Expr}{pos pos' tpos:Pos}{td ty tv:TE}
theorem pe_dget(hu:X.A.units+1<cLine)(ho:PE X o td)(hi:PE X i ty)(hs:NoSl i):PE X (.Subscript o i pos) (tDGet td ty):=by
 intro pins s σ H Q I h
 refine subD_of PySem.F.slot_dict_getitem.lookup hs (thn (ho pins s σ H _ I h) fun u s1 ⟨x,H1,I1,rx,q1⟩=>thn (hi pins s1 σ H1 _ I1 q1) fun iv s2 ⟨y,H2,I2,ry,a,v,ex,g,q2⟩=>?_)
 subst ex
 obtain rfl:u=Value.ref a:=rx
 exact⟨dict_typeIs I2 g,d_getItem hu I2 g ry fun w' s3 I3 rw'=>⟨v,H2,I3,rw',q2⟩⟩
theorem pc_din(hu:X.A.units+1<cLine)(hi:PE X i ty)(ho:PE X o td):PC X .In i o (tDIn ty td):=by
 intro pins s σ H Q I h
 refine thn (hi pins s σ H _ I h) fun iv s1 ⟨y,H1,I1,ry,q1⟩=>thn (ho pins s1 σ H1 _ I1 q1) fun u s2 ⟨x,H2,I2,rx,a,ov,ex,g,q2⟩=>?_
 subst ex
 obtain rfl:u=Value.ref a:=rx
 exact d_in hu I2 g ry fun s3 I3=>⟨.bl ov.isSome,H2,I3,rfl,q2⟩
theorem ps_dput(hu:X.A.units+1<cLine)(ho:PE X o td)(hi:PE X i ty)(hv:PE X value tv)(hs:swapsWith value (some (.Subscript o i pos')) pos.line X.env=pure false) :
  PS X (.Assign [.Subscript o i pos'] value pos) (sDPut td ty tv):=by
 intro pins s σ H D I h
 refine wpAny_Assign_Subscript (thn (hv pins s σ H _ I h) fun r s1 ⟨v,H1,I1,rv,q1⟩=>thn (ho pins s1 σ H1 _ I1 q1) fun u s2 ⟨x,H2,I2,rx,q2⟩=>thn (hi pins s2 σ H2 _ I2 q2) fun iv s3 ⟨y,H3,I3,ry,a,H4,ex,g,q3⟩=>?_) hs
 subst ex
 obtain rfl:u=Value.ref a:=rx
 exact d_setItem hu I3 g ry rv fun s4 I4=>⟨σ,H4,I4,q3⟩
end
theorem dt_empty{P:Program}{w:World}{H:Hp}(h:Heap)(hb:sysModules<h.objs.size):ObjOk P w H (h.push { cls:=.type "dict",data:=.dict #[] }) h.objs.size (.dT []) :=
 ⟨zAW _,beq_eq_false_iff_ne.mpr (Ne.symm (zAE hb)),[],.nil,_,#[],0,zS _ rfl,⟨rfl,rfl,rfl⟩,rfl,rfl,List.nodup_nil⟩
noncomputable def tDNewT:TE:=fun _ H Q=>∀ p,H p=none->Q (.ref p) (upd H p (.dT []))
section
variable{X:Cx}{pos:Pos}
theorem pe_dnewT:PE X (.Dict [] [] pos) tDNewT:=fun pins s σ H Q I h =>
 wpAny_Dict_empty ⟨.ref s.heap.objs.size,_,I.laid (a:=s.heap.objs.size) (o:=.dT []) (t':=s.toks) (fun _ _ q=>zD _ q) (zJ _) (dt_empty s.heap I.big),rfl,h _ (I.hok.fresh (zJ _))⟩
end
end L2
namespace HT
open PySem PyProof.Rows
noncomputable def lexLt:List Int->List Int->Bool
 |[],[]=>false
 |[],_ :: _=>true
 | _ :: _,[]=>false
 |x :: xs,y :: ys=>if x=y then lexLt xs ys else decide (x<y)
theorem lexLt_cons(x y:Int)(xs ys:List Int):lexLt (x :: xs) (y :: ys)=if x=y then lexLt xs ys else decide (x<y):=rfl
theorem lexLt_nil_nil:lexLt [] []=false:=rfl
theorem lexLt_nil_cons(y:Int)(ys:List Int):lexLt [] (y :: ys)=true:=rfl
theorem lexLt_cons_nil(x:Int)(xs:List Int):lexLt (x :: xs) []=false:=rfl
theorem eqAt_int(A:Around)(s:Shared)(a:Int)(t:Tok)(c:Int)(u:Tok):∃ e,SeqAt.EqAt A s (.int a t) (.int c u) e/\(e=true↔a=c) :=
 ⟨(a == c),SeqAt.EqAt.int_int a t c u,by simp⟩
theorem rcLt_int(A:Around)(s:Shared)(a:Int)(t:Tok)(c:Int)(u:Tok)(prog:Program)(w:World)(E:Value->Shared->Prop)(Q:Value->Shared->Prop)(h:Q (.bool (decide (a<c))) s) :
  wpAny (model prog w) A (richCompare .Lt (.int a t) (.int c u)) Q E s :=
 (PyProof.Rows.lt_int h:wpAny (model prog w) A (compareOp .Lt (.int a t) (.int c u)) Q E s)
section
open PySem.SeqAt
open PySem.AutoSeq1 (wpAny_loadPart')
open PySem.MeetsSeq PySem.MeetsSeq2 PySem.MeetsSeq3
theorem tuple_lt_ints(l b:Addr)(items items2:Array Value)(n n2:Nat)(dd dd2:Option Addr)(sl sl2:Array (Option Value))(ns ms:List Int)(hi:IntsAre items.toList ns)(hj:IntsAre items2.toList ms) :
  Meets (Builtin.«tuple.__lt__» ⟨[.ref l,.ref b],[]⟩)
   (fun _ R s=>s.heap.get? l=some { cls:=.type "tuple",dict:=dd,data:=.seq items n,slots:=sl }/\s.heap.get? b=some { cls:=.type "tuple",dict:=dd2,data:=.seq items2 n2,slots:=sl2 } /\
    R (.ok (.ret (.bool (lexLt ns ms)))) s) :=
 .of_wp fun prog w A R s h=>by
  obtain⟨hp,g,d,tk,os⟩:=s;obtain⟨hl,hb,h⟩:=h
  have f2:=AutoSeq1.sub_tuple_tuple
  have z1:items.size=ns.length:=by rw[<- hi.length];simp
  have z2:items2.size=ms.length:=by rw[<- hj.length];simp
  wp_walk using wpAny_loadPart' hl,wpAny_loadPart' hb,wpAny_forIn_list _ (fun rest b s'=>b.1=none/\s'=⟨hp,g,d,tk,os⟩/\∃ (vs ws:List Value) (ns' ms':List Int),rest=vs.zip ws /\
   IntsAre vs ns'/\IntsAre ws ms'/\ns'.length+items2.size=ms'.length+items.size/\R (.ok (.ret (.bool (lexLt ns' ms')))) ⟨hp,g,d,tk,os⟩) _
  case turn =>
   rintro⟨y,x⟩ rest b s' ⟨hb',rfl,vs,ws,ns',ms',hz,hvi,hwi,hlen,hR⟩
   cases hvi with
   |nil=>rw[List.zip_nil_left]at hz;cases hz
   |cons a t hvi' =>
    cases hwi with
    |nil=>rw[List.zip_nil_right]at hz;cases hz
    |cons c u hwi' =>
     rw[List.zip_cons_cons]at hz
     injection hz with hyx hrest
     injection hyx with hy hx
     subst hy hx
     rw[lexLt_cons]at hR
     simp only[zBD]at hlen
     obtain⟨e,he,hiff⟩:=eqAt_int A.in1 ⟨hp,g,d,tk,os⟩ a t c u
     refine zA (he prog w _ _ ?_)
     cases e with
     |true =>
      rw[if_pos (hiff.mp rfl)]at hR
      wp_walk
      exact⟨rfl,rfl,_,_,_,_,hrest,hvi',hwi',by exact zia z1 z2 hlen,hR⟩
     |false =>
      rw[if_neg (fun q=>absurd (hiff.mpr q) zW)]at hR
      have hri:=rcLt_int A.in1 ⟨hp,g,d,tk,os⟩ a t c u prog w
      wp_walk using hri
      exact⟨_,rfl,by simpa using hR⟩
  case fin =>
   rintro⟨b1,b2⟩ s' ⟨hb',rfl,vs,ws,ns',ms',hz,hvi,hwi,hlen,hR⟩
   simp only at hb'
   subst hb'
   have hv:lexLt ns' ms'=decide (items.size<items2.size):=by
    cases hvi with
    |nil =>
     cases hwi with
     |nil =>
      simp only[List.length_nil]at hlen
      rw[lexLt_nil_nil]
      exact(decide_eq_false (by exact zhu z1 z2 hlen)).symm
     |cons c u hw =>
      simp only[List.length_nil,zBD]at hlen
      rw[lexLt_nil_cons]
      exact(decide_eq_true (by exact zhy z1 z2 hlen)).symm
    |cons a t hv =>
     cases hwi with
     |nil =>
      simp only[List.length_nil,zBD]at hlen
      rw[lexLt_cons_nil]
      exact(decide_eq_false (by exact zhj z1 z2 hlen)).symm
     |cons c u hw =>
      rw[List.zip_cons_cons]at hz
      cases hz
   rw[hv]at hR
   wp_walk
   exact⟨_,rfl,by simpa[Builtin.Tuple.tupleCompareSizes]using hR⟩
  case h =>
   exact⟨rfl,rfl,items.toList,items2.toList,ns,ms,rfl,hi,hj,by exact zes z1 z2,h⟩
end
section
variable{prog:Program}{w:World}{A:Around}{E:Value->Shared->Prop}{s:Shared}
theorem lt_tupInts{l b:Addr}{items items2:Array Value}{ns ms:List Int}{Q:Value->Shared->Prop}(hl:IsTup s.heap l items)(hb:IsTup s.heap b items2)(hi:IntsAre items.toList ns)(hj:IntsAre items2.toList ms)
  (hu:A.units<cLine) (h:Q (.bool (lexLt ns ms)) s):wpAny (model prog w) A (compareOp .Lt (.ref l) (.ref b)) Q E s:=by
 obtain⟨⟨cls,dd,data,sl⟩,ho,hc,n,hd⟩:=id hl
 obtain⟨⟨cls2,dd2,data2,sl2⟩,ho2,hc2,n2,hd2⟩:=id hb
 simp only at hc hd hc2 hd2
 subst hc hd hc2 hd2
 exact richCompare_meets_room (op:=.Lt) ⟨_,ho,rfl⟩ ⟨_,ho2,rfl⟩ PySem.F.slot_tuple_lt PySem.F.entry_tuple_lt (PySem.F.args_tuple_lt_2 _ _) (tuple_lt_ints l b items items2 n n2 dd dd2 sl sl2 ns ms hi hj)
  ⟨ho,ho2,show Value.bool (lexLt ns ms)≠Value.notImplemented/\Q (.bool (lexLt ns ms)) s from⟨(fun x=>nomatch x),h⟩⟩ hu
theorem cat_tup{t b:Addr}{vs ws:List Value}{Q:Value->Shared->Prop}(ht:IsTup s.heap t vs.toArray)(hb:IsTup s.heap b ws.toArray)(hv:vs≠[])
  (h1:ws=[]->Q (.ref t) s) (h2:ws≠[]->Q (.ref s.heap.objs.size) { s with heap:=s.heap.push { cls:=.type "tuple",data:=.seq (vs++ws).toArray } })
  (hsz:vs.length+ws.length<=sizeLine):wpAny (model prog w) A (binaryOp .Add (.ref t) (.ref b)) Q E s:=by
 obtain⟨⟨cls,dd,data,sl⟩,ho,hc,n,hd⟩:=id ht
 obtain⟨⟨cls2,dd2,data2,sl2⟩,ho2,hc2,n2,hd2⟩:=id hb
 simp only at hc hd hc2 hd2
 subst hc hd hc2 hd2
 have e:vs.toArray++ws.toArray=(vs++ws).toArray:=by simp
 by_cases hw:ws=[]
 ·exact concat_meets ⟨_,ho,rfl⟩ ⟨_,ho2,rfl⟩ noFill_tuple_add seq_tuple_add PySem.F.slot_tuple_add PySem.F.entry_tuple_add (PySem.F.args_tuple_add_2 _ _)
   (tuple_addW1 t b vs.toArray ws.toArray n n2 dd dd2 sl sl2 (by simpa using hv) (by simp[hw])) ⟨ho,ho2,h1 hw⟩
 ·refine concat_meets ⟨_,ho,rfl⟩ ⟨_,ho2,rfl⟩ noFill_tuple_add seq_tuple_add PySem.F.slot_tuple_add PySem.F.entry_tuple_add (PySem.F.args_tuple_add_2 _ _)
   (tuple_addW2 t b vs.toArray ws.toArray n n2 dd dd2 sl sl2 (by simpa using hv) (by simpa using hw) (by rw[zV,zV];exact hsz)) ⟨ho,ho2,?_⟩
  rw[e]
  exact h2 hw
noncomputable def sIx(n d:Nat):Option Int->Nat
 |none=>d
 |some v=>if v<0 then(v+(n:Int)).toNat else min v.toNat n
theorem sIx_le(n d:Nat)(hd:d<=n)(o:Option Int):sIx n d o<=n:=by
 cases o with
 |none=>exact hd
 |some v =>
  show(if v<0 then(v+(n:Int)).toNat else min v.toNat n)<=n
  by_cases hv:v<0
  ·rw[if_pos hv];lia
  ·rw[if_neg hv];exact zCH _ _
theorem clip_eq(v:Int)(n d:Nat):(if v<0 then max (v+(n:Int)) 0 else min v (n:Int))=((sIx n d (some v):Nat):Int):=by
 show(if v<0 then max (v+(n:Int)) 0 else min v (n:Int))=(((if v<0 then(v+(n:Int)).toNat else min v.toNat n):Nat):Int)
 by_cases hv:v<0
 ·simp only[if_pos hv];exact zir
 ·simp only[if_neg hv];exact zac hv
theorem adjust_gen(lo hi:Option Int)(n:Nat):Builtin.Slice.sliceAdjust lo hi 1 (n:Int)=(((sIx n 0 lo:Nat):Int),((sIx n n hi:Nat):Int)):=by
 have h1:¬((1:Int)<0):=by lia
 unfold Builtin.Slice.sliceAdjust
 simp only[h1,if_false]
 refine Prod.ext ?_ ?_
 ·cases lo with
  |none=>rfl
  |some v=>exact clip_eq v n 0
 ·cases hi with
  |none=>rfl
  |some v=>exact clip_eq v n n
theorem places_gen(i j:Nat):Builtin.Slice.slicePlaces (i:Int) (j:Int) 1=j-i:=by
 unfold Builtin.Slice.slicePlaces
 have h1:(1:Int) > 0:=by lia
 simp only[h1,if_true,Int.ediv_one]
 split <;> lia
theorem slicePart_{v:Value}{o:Option Int}{Q:Option Int->Shared->Prop}(p:IsPart v o)(h:Q o s):wpAny (model prog w) A (Builtin.Slice.slicePartIndex v) Q E s:=by
 cases p with
 |none=>exact slicePart_none h
 |int i t=>exact slicePart_int h
theorem sliceApplied_gen{sl:Addr}{vl vu:Value}{lo hi:Option Int}{n:Nat}{Q:Int×Int×Nat->Shared->Prop}(hs:s.heap.IsSliceOf sl vl vu .none)(pl:IsPart vl lo)(pu:IsPart vu hi)
  (h:Q (((sIx n 0 lo:Nat):Int),1,sIx n n hi-sIx n 0 lo) s):wpAny (model prog w) A (Builtin.Slice.sliceApplied (.ref sl) (pure (n:Int))) Q E s:=by
 obtain⟨os,hos,hcs,hds⟩:=id hs
 unfold Builtin.Slice.sliceApplied Builtin.Slice.sliceFields
 refine zA (zA (wpAny_field hos hds (x:=vl) rfl (zA (wpAny_field hos hds (x:=vu) rfl (zA (wpAny_field hos hds (x:=.none) rfl (zG ?_)))))))
 refine zA (slicePart_none ?_)
 show wpAny _ _ (if((1:Int) == 0)=true then _ else _) _ _ s
 rw[if_neg (by decide)]
 refine zA (slicePart_ pl (zA (slicePart_ pu (zA (zG ?_)))))
 show wpAny _ _ (match Builtin.Slice.sliceAdjust lo hi 1 (n:Int)with |(lo,hi)=>pure (lo,(1:Int),Builtin.Slice.slicePlaces lo hi 1)) _ _ s
 rw[adjust_gen lo hi n]
 show wpAny _ _ (pure (((sIx n 0 lo:Nat):Int),(1:Int),Builtin.Slice.slicePlaces ((sIx n 0 lo:Nat):Int) ((sIx n n hi:Nat):Int) 1)) _ _ s
 rw[places_gen]
 exact zG h
theorem pick_gen(xs:Array Value)(i k:Nat):((List.range k).filterMap fun(m:Nat)=>xs[((i:Int)+(m:Int) * 1).toNat]?).toArray=((xs.toList.drop i).take k).toArray:=by
 have e:(fun(m:Nat)=>xs[((i:Int)+(m:Int) * 1).toNat]?)=fun m=>xs[i+m]?:=by
  funext m
  have:((i:Int)+(m:Int) * 1).toNat=i+m:=by lia
  rw[this]
 rw[e]
 have:=pick_run xs i k
 rw[List.filterMap_map]at this
 have e2:((fun x=>xs[x]?) ∘ fun x=>i+x)=fun m=>xs[i+m]?:=rfl
 rw[e2]at this
 rw[this]
theorem getItem_tuple_cut{t sl:Addr}{items:Array Value}{vl vu:Value}{lo hi:Option Int}{Q:Value->Shared->Prop}(ht:IsTup s.heap t items)(hs:s.heap.IsSliceOf sl vl vu .none)(pl:IsPart vl lo)(pu:IsPart vu hi)
  (hw:¬(sIx items.size 0 lo=0/\sIx items.size items.size hi=items.size))
  (h:Q (.ref s.heap.objs.size) { s with heap:=s.heap.push { cls:=.type "tuple",data:=.seq ((items.toList.drop (sIx items.size 0 lo)).take (sIx items.size items.size hi-sIx items.size 0 lo)).toArray } })
  (hsz:items.size<=sizeLine):wpAny (model prog w) A (getItem (.ref t) (.ref sl)) Q E s:=by
 have htake:sizeOk (.seq ((items.toList.drop (sIx items.size 0 lo)).take (sIx items.size items.size hi-sIx items.size 0 lo)).toArray):=by
  show((items.toList.drop (sIx items.size 0 lo)).take (sIx items.size items.size hi-sIx items.size 0 lo)).toArray.size<=sizeLine
  rw[zV,zBF,zCT,zBT]
  exact zah hsz
 have hj:sIx items.size items.size hi<=items.size:=sIx_le _ _ (zJ _) hi
 obtain⟨os,hos,hcs,hds⟩:=id hs
 have hTs:s.TypeIs (.ref sl) "slice":=⟨os,hos,hcs⟩
 unfold getItem
 try with_reducible refine wpAny_holding ?_
 first | refine zA (zG ?_) | skip
 refine zA (wpAny_sequenceKey ht.typeIs (by decide) ?_)
 refine zA (wpAny_callSpecial?_slot (name:=Str.ofString "__getitem__") ht.typeIs PyProof.Rows.slot_tuple_getitem
  (wpAny_call_entry PyProof.Rows.slot_tuple_getitem ht.typeIs entry_tuple_getitem ?_ (args_tuple_getitem _ _)))
 show wpAny _ _ (Builtin.Tuple.tupleItemsOf (.ref t) >>= _) _ _ s
 refine zA (tupleItemsOf_ ht ?_)
 refine zA (wpAny_typeOf hTs ?_)
 rw[if_pos (by decide)]
 refine zA (sliceApplied_gen hs pl pu ?_)
 have hno:¬((((sIx items.size 0 lo:Nat):Int) == 0 && (1:Int) == 1 && (sIx items.size items.size hi-sIx items.size 0 lo) == items.size)=true):=by
  intro q
  rw[zDD,zDD]at q
  have q1:((sIx items.size 0 lo:Nat):Int)=0:=eq_of_beq q.1.1
  have q2:sIx items.size items.size hi-sIx items.size 0 lo=items.size:=eq_of_beq q.2
  exact hw ⟨by exact zdt q1,by exact zbp hj q1 q2⟩
 show wpAny _ _ (if(((sIx items.size 0 lo:Nat):Int) == 0 && (1:Int) == 1 && (sIx items.size items.size hi-sIx items.size 0 lo) == items.size)=true then _ else _) _ _ s
 rw[if_neg hno,pick_gen]
 first
  |exact zA (m:=Builtin.Tuple.tupleExact _) (wpAny_newObj_type (zG ⟨_,rfl,zG h⟩) htake)
  |exact zA (m:=Builtin.Tuple.tupleExact _) (wpAny_newObj_type (zA (zG (zG ⟨_,rfl,zG h⟩))) htake)
  |exact zA (zA (m:=Builtin.Tuple.tupleExact _) (wpAny_newObj_type (zG (zG ⟨_,rfl,zG h⟩)) htake))
  |exact zA (zA (m:=Builtin.Tuple.tupleExact _) (wpAny_newObj_type (zG ⟨_,rfl,zG h⟩) htake))
end
end HT
namespace L2
open PySem PySem.Spec PyProof.Rows
noncomputable abbrev TO:=St->Hp->(Option Int->Hp->Prop)->Prop
noncomputable def PO(X:Cx)(e:Option Expr)(t:TO):Prop :=
 ∀ (pins:List (Addr×Obj)) (s:Shared) (σ:St) (H:Hp) (Q:Option Int->Hp->Prop),Inv X pins σ H s->t σ H Q ->
  wpAny (model X.prog X.w) X.A (evalPart e X.env) (fun u s'=>∃ o H',Inv X pins σ H' s'/\IsPart u o/\Q o H') X.xe s
noncomputable def tNoPart:TO:=fun _ H Q=>Q none H
noncomputable def tPart(t:TE):TO:=fun σ H Q=>t σ H fun x H1=>∃ i,x = .int i/\Q (some i) H1
theorem intsAre_of{ns:List Int}:∀ {us:List Value},Vals (ns.map V.int) us->IntsAre us ns:=by
 induction ns with
 |nil=>intro us r;rw[List.map_nil]at r;cases r;exact .nil
 |cons n ns ih =>
  intro us r
  rw[zAI]at r
  cases r with
  |cons r1 r2 =>
   obtain⟨t,e⟩:=r1
   subst e
   exact .cons n t (ih r2)
section
variable{X:Cx}{e:Expr}{te:TE}{lo hi:Option Expr}{tl th:TO}{pos p2:Pos}
theorem po_none:PO X none tNoPart:=by
 intro pins s σ H Q I h
 rw[evalPart_none]
 exact zG ⟨none,H,I,.none,h⟩
theorem po_some(h:PE X e te):PO X (some e) (tPart te):=by
 intro pins s σ H Q I hw
 rw[evalPart_some]
 refine thn (h pins s σ H _ I hw) fun u s1 ⟨x,H1,I1,r1,q1⟩=>?_
 obtain⟨i,rfl,q⟩:=q1
 obtain⟨t,rfl⟩:=r1
 exact⟨some i,H1,I1,.int i t,q⟩
noncomputable def SlR(X:Cx)(r:V->Option Int->Option Int->Hp->VK->Prop):Prop :=
 ∀ (pins:List (Addr×Obj)) (s:Shared) (σ:St) (H:Hp) (x:V) (v vl vu:Value) (lo hi:Option Int) (sl:Addr) (Q:VK),Inv X pins σ H s->RelV x v->s.heap.IsSliceOf sl vl vu .none->IsPart vl lo->IsPart vu hi->r x lo hi H Q ->
  ∃ T id,typeLookup (.type T) "__getitem__" = pure (some (.builtin id))/\s.TypeIs v T/\wpAny (model X.prog X.w) X.A (getItem v (.ref sl)) (EP X pins σ Q) X.xe s
noncomputable def tSl(r:V->Option Int->Option Int->Hp->VK->Prop)(te:TE)(tl th:TO):TE:=fun σ H Q=>te σ H fun x H1=>tl σ H1 fun l H2=>th σ H2 fun u H3=>r x l u H3 Q
theorem pe_slice{r:V->Option Int->Option Int->Hp->VK->Prop}(hr:SlR X r)(he:PE X e te)(hl:PO X lo tl)(hu:PO X hi th):PE X (.Subscript e (.Slice lo hi none p2) pos) (tSl r te tl th):=by
 intro pins s σ H Q I h
 refine Subscript_ (thn (he pins s σ H _ I h) fun v s1 ⟨x,H1,I1,r1,q1⟩=>?_)
 refine wpAny_Slice (thn (hl pins s1 σ H1 _ I1 q1) fun vl s2 ⟨l,H2,I2,pl,q2⟩=>thn (hu pins s2 σ H2 _ I2 q2) fun vu s3 ⟨u,H3,I3,pu,q3⟩=>?_)
 rw[evalPart_none]
 refine zG ?_
 have I4:Inv X pins σ H3 { s3 with heap:=s3.heap.push { cls:=.type "slice",data:=.fields #[vl,vu,.none] } }:=I3.kept (t':=s3.toks) fun b ob q=>zD _ q
 obtain⟨T,id,hT,ht,hg⟩:=hr pins { s3 with heap:=s3.heap.push { cls:=.type "slice",data:=.fields #[vl,vu,.none] } } σ H3 x v vl vu l u s3.heap.objs.size Q I4 r1 (Heap.IsSliceOf.new ..) pl pu q3
 show wpAny (model X.prog X.w) X.A (subscriptTail e (.Slice lo hi none p2) v (.ref s3.heap.objs.size)) (EP X pins σ Q) X.xe { s3 with heap:=s3.heap.push { cls:=.type "slice",data:=.fields #[vl,vu,.none] } }
 exact tail_any (ops:=[.ref s3.heap.objs.size,v]) ht hT hg (by with_unfolding_all rfl)
noncomputable def cutV(xs:List V)(lo hi:Option Int):List V:=(xs.drop (HT.sIx xs.length 0 lo)).take (HT.sIx xs.length xs.length hi-HT.sIx xs.length 0 lo)
theorem cutV_length(xs:List V)(lo hi:Option Int):(cutV xs lo hi).length<=xs.length:=by
 unfold cutV
 rw[zBF,zCT]
 omega
inductive rSlTI(K:PySem.W.Frag)(x:V)(lo:Option Int)(hi:Option Int)(H:Hp)(Q:VK):Prop where
 |mk (a:_) (xs:_) (h1:x = .ref a) (h2:SqT K H a xs) (h3:¬(HT.sIx xs.length 0 lo=0/\HT.sIx xs.length xs.length hi=xs.length)) (h4:∀ p,H p=none->Q (.ref p) (upd H p (.tup (cutV xs lo hi))))
noncomputable def rSlT(K:PySem.W.Frag):V->Option Int->Option Int->Hp->VK->Prop:=fun x lo hi H Q=>rSlTI K x lo hi H Q
theorem sl_tup:SlR X (rSlT X.K):=by
 intro pins s σ H x v vl vu lo hi sl Q I rx hs pl pu h
 obtain⟨a,xs,rfl,hx,hw,q⟩:=h
 cases rx
 obtain⟨its,r,ht,hz⟩:=I.tuple hx
 have hlen:its.toArray.size=xs.length:=by rw[zV];exact r.length.symm
 refine⟨"tuple",_,PyProof.Rows.slot_tuple_getitem.lookup,ht.typeIs,?_⟩
 refine HT.getItem_tuple_cut ht hs pl pu (by rw[hlen];exact hw) ?_ (by rw[hlen];exact hz)
 rw[hlen]
 refine⟨.ref s.heap.objs.size,_,I.laid (t':=s.toks) (o:=.tup (cutV xs lo hi)) (fun b ob q=>zD _ q) (zJ _) ?_,rfl,q _ (I.hok.fresh (zJ _))⟩
 exact⟨zC (cutV_length xs lo hi) hz,_,(r.drop (HT.sIx xs.length 0 lo)).take (HT.sIx xs.length xs.length hi-HT.sIx xs.length 0 lo),IsTup.new _ _⟩
inductive rLtTI(K:PySem.W.Frag)(x:V)(y:V)(H:Hp)(Q:VK):Prop where
 |mk (a:_) (b:_) (ns:_) (ms:_) (h1:x = .ref a) (h2:y = .ref b) (h3:SqT K H a (ns.map V.int)) (h4:SqT K H b (ms.map V.int)) (h5:Q (.bl (HT.lexLt ns ms)) H)
noncomputable def rLtT(K:PySem.W.Frag):R2:=fun x y H Q=>rLtTI K x y H Q
theorem op_ltT(hu:X.A.units<cLine):OpR X (compareOp .Lt) (rLtT X.K):=by
 intro pins s σ H x y v u Q I rx ry h
 obtain⟨a,b,ns,ms,rfl,rfl,ha,hb,q⟩:=h
 cases rx
 cases ry
 obtain⟨its,r1,p1,_⟩:=I.tuple ha
 obtain⟨its2,r2,p2,_⟩:=I.tuple hb
 have i1:IntsAre its.toArray.toList ns:=intsAre_of r1
 have i2:IntsAre its2.toArray.toList ms:=intsAre_of r2
 exact HT.lt_tupInts p1 p2 i1 i2 hu ⟨.bl (HT.lexLt ns ms),H,I,rfl,q⟩
noncomputable def rCatT(K:PySem.W.Frag):R2:=fun x y H Q=>∃ a b xs ys,x = .ref a/\y = .ref b/\SqT K H a xs/\SqT K H b ys/\xs≠[]/\xs.length+ys.length<=sizeLine /\
 (ys=[]->Q (.ref a) H)/\(ys≠[]->∀ p,H p=none->Q (.ref p) (upd H p (.tup (xs++ys))))
theorem Vals.nil_iff{xs:List V}{us:List Value}(r:Vals xs us):us=[]↔xs=[]:=by
 cases r with
 |nil=>simp
 |cons _ _=>simp
theorem op_catT:OpR X (binaryOp .Add) (rCatT X.K):=by
 intro pins s σ H x y v u Q I rx ry h
 obtain⟨a,b,xs,ys,rfl,rfl,ha,hb,hx,hz,q1,q2⟩:=h
 cases rx
 cases ry
 obtain⟨its,r1,p1,_⟩:=I.tuple ha
 obtain⟨its2,r2,p2,_⟩:=I.tuple hb
 refine HT.cat_tup p1 p2 (fun z=>hx (r1.nil_iff.mp z)) (fun z=>⟨.ref a,H,I,rfl,q1 (r2.nil_iff.mp z)⟩) (fun z=>?_) (by rw[<- r1.length,<- r2.length];exact hz)
 refine⟨.ref s.heap.objs.size,_,I.laid (t':=s.toks) (o:=.tup (xs++ys)) (fun b ob q=>zD _ q) (zJ _) ?_,rfl,q2 (fun w=>z (r2.nil_iff.mpr w)) _ (I.hok.fresh (zJ _))⟩
 exact⟨by rw[zAC];exact hz,_,r1.append r2,IsTup.new _ _⟩
end
open PySem PySem.Spec PyProof.Rows
noncomputable def ixN(n:Nat)(i:Int):Option Nat:=if 0<=i then(if i<n then some i.toNat else none)else if -(n:Int)<=i then some (i+n).toNat else none
noncomputable def atI{α:Type}(xs:List α)(i:Int):Option α:=(ixN xs.length i).bind fun j=>xs[j]?
theorem ixN_seq{n:Nat}{i:Int}{j:Nat}(h:ixN n i=some j):seqIndex? i n=some j/\j<n/\-(n:Int)<=i/\i<n:=by
 unfold ixN at h
 by_cases h0:0<=i
 ·rw[if_pos h0]at h
  by_cases h1:i<n
  ·rw[if_pos h1]at h
   have e:i.toNat=j:=Option.some.inj h
   exact⟨by rw[seqIndex_of h0 h1,e],by exact zcp h0 h1 e,by exact zhg h0,h1⟩
  ·rw[if_neg h1]at h;cases h
 ·rw[if_neg h0]at h
  by_cases h1:-(n:Int)<=i
  ·rw[if_pos h1]at h
   have e:(i+n).toNat=j:=Option.some.inj h
   exact⟨by rw[seqIndex_neg (by exact zcu h0) h1,e],by exact zda h0 h1 e,h1,by exact zhr h0 h1⟩
  ·rw[if_neg h1]at h;cases h
theorem atI_get{α:Type}{xs:List α}{i:Int}{v:α}(h:atI xs i=some v):∃ j,seqIndex? i xs.length=some j/\xs[j]?=some v/\j<xs.length/\-(xs.length:Int)<=i/\i<xs.length:=by
 unfold atI at h
 cases e:ixN xs.length i with
 |none=>rw[e]at h;cases h
 |some j =>
  rw[e]at h
  obtain⟨h1,h2,h3,h4⟩:=ixN_seq e
  exact⟨j,h1,h,h2,h3,h4⟩
theorem atI_nat{α:Type}{xs:List α}{j:Nat}{v:α}(h:xs[j]?=some v):atI xs (j:Int)=some v:=by
 have hj:j<xs.length:=(zH.mp h).1
 have e:ixN xs.length (j:Int)=some j:=by
  unfold ixN
  rw[if_pos (by exact zCC j),if_pos (by exact zi2 hj)];simp
 unfold atI;rw[e];exact h
theorem atI_last{α:Type}(xs:List α)(v:α):atI (xs++[v]) (-1)=some v:=by
 have hl:(xs++[v]).length=xs.length+1:=by simp
 have e:ixN (xs++[v]).length (-1)=some xs.length:=by
  unfold ixN
  rw[hl,if_neg (by decide),if_pos (by lia)]
  congr 1
  lia
 unfold atI
 rw[e]
 show(xs++[v])[xs.length]?=some v
 simp
noncomputable def PlainIx(b:Expr):Prop:=∀ o i,subscripted b false o i=operate [o,i] (getItem o i)
noncomputable def IxR(X:Cx)(r:R2):Prop :=
 ∀ (value slice:Expr) (pins:List (Addr×Obj)) (s:Shared) (σ:St) (H:Hp) (x y:V) (v u:Value) (Q:VK),Inv X pins σ H s->RelV x v->RelV y u->r x y H Q ->
  subscripted slice false v u=operate [v,u] (getItem v u)->wpAny (model X.prog X.w) X.A (subscriptTail value slice v u) (EP X pins σ Q) X.xe s
noncomputable def MtR(X:Cx)(id:String)(r:V->List V->Hp->VK->Prop):Prop :=
 ∀ (pins:List (Addr×Obj)) (s:Shared) (σ:St) (H:Hp) (x:V) (xs:List V) (v:Value) (us:List Value) (Q:VK),Inv X pins σ H s->RelV x v->Vals xs us->r x xs H Q ->
  wpAny (model X.prog X.w) X.A (call (.builtin id) (v :: us)) (EP X pins σ Q) X.xe s
section
variable{X:Cx}{a b:Expr}{ta tb:TE}{pos:Pos}
theorem pe_ix{r:R2}(hr:IxR X r)(ha:PE X a ta)(hb:PE X b tb)(hs:PlainIx b):PE X (.Subscript a b pos) (tOp r ta tb):=by
 intro pins s σ H Q I h
 exact Subscript_ (binT ha hb I h fun v u s2 x y H2 I2 rx ry q=>hr a b pins s2 σ H2 x y v u Q I2 rx ry q (hs _ _))
inductive rIxLI(K:PySem.W.Frag)(x:V)(y:V)(H:Hp)(Q:VK):Prop where
 |mk (p:_) (xs:_) (i:_) (v:_) (h1:x = .ref p) (h2:y = .int i) (h3:SqL K H p xs) (h4:atI xs i=some v) (h5:Q v H)
noncomputable def rIxL(K:PySem.W.Frag):R2:=fun x y H Q=>rIxLI K x y H Q
inductive rIxTI(K:PySem.W.Frag)(x:V)(y:V)(H:Hp)(Q:VK):Prop where
 |mk (p:_) (xs:_) (i:_) (v:_) (h1:x = .ref p) (h2:y = .int i) (h3:SqT K H p xs) (h4:atI xs i=some v) (h5:Q v H)
noncomputable def rIxT(K:PySem.W.Frag):R2:=fun x y H Q=>rIxTI K x y H Q
theorem ix_list:IxR X (rIxL X.K):=by
 intro value slice pins s σ H x y v u Q I rx ry h hs
 obtain⟨p,xs,i,z,rfl,rfl,hq,he,q⟩:=h
 cases rx
 obtain⟨t,rfl⟩:=ry
 obtain⟨its,r,pl,hz⟩:=I.list hq
 obtain⟨j,h1,h2,h3,h4,h5⟩:=atI_get he
 obtain⟨w,ew,rw'⟩:=r.get h2
 have hl:=r.length
 have hn:=line63
 have fin:EP X pins σ Q w s:=⟨z,H,I,rw',q⟩
 by_cases h0:0<=i
 ·have hj:i.toNat=j:=by
   rw[seqIndex_of h0 h5]at h1
   exact Option.some.inj h1
  exact item_listR pl.isList h0 (by lia) (by rw[hj];simpa using ew) fin hs
 ·have hj:(i+(its.toArray.size:Int)).toNat=j:=by
   rw[seqIndex_neg (by exact zcu h0) h4]at h1
   rw[zV,<- hl]
   exact Option.some.inj h1
  exact subscriptTail_builtinR (x:=w) pl.isList.typeIs slot_list_getitem.lookup
   (wpAny_getItem_list_neg (Q:=fun r s'=>r=w/\EP X pins σ Q r s') pl.isList (by exact zcu h0) (by rw[zV] <;> exact zhq h4 hl) (by lia) (by rw[hj];simpa using ew) ⟨rfl,fin⟩) hs
theorem ix_tup:IxR X (rIxT X.K):=by
 intro value slice pins s σ H x y v u Q I rx ry h hs
 obtain⟨p,xs,i,z,rfl,rfl,hq,he,q⟩:=h
 cases rx
 obtain⟨t,rfl⟩:=ry
 obtain⟨its,r,pl,hz⟩:=I.tuple hq
 obtain⟨j,h1,h2,h3,h4,h5⟩:=atI_get he
 obtain⟨w,ew,rw'⟩:=r.get h2
 have hl:=r.length
 have hn:=line63
 have fin:EP X pins σ Q w s:=⟨z,H,I,rw',q⟩
 exact subscriptTail_builtinR (x:=w) pl.typeIs slot_tuple_getitem.lookup
  (getItem_tuple (j:=j) (Q:=fun r s'=>r=w/\EP X pins σ Q r s') pl (by exact zib hz h3 h4 hl hn) (by exact zin hz h3 h5 hl hn) (by rw[zV,<- hl];exact h1) (by simpa using ew) ⟨rfl,fin⟩) hs
theorem mapSeq_set(its:List Value)(n j:Nat)(u:Value):Obj.mapSeq (·.setIfInBounds j u) { cls:=.type "list",data:=.seq its.toArray n } = { cls:=.type "list",data:=.seq (its.set j u).toArray n }:=by
 simp[Obj.mapSeq]
theorem Inv.lst{pins:List (Addr×Obj)}{σ:St}{H:Hp}{s:Shared}{p:Addr}{xs:List V}(I:Inv X pins σ H s)(h:H p=some (.lst xs)) :
  ∃ (its:List Value) (n:Nat),Vals xs its/\s.heap.get? p=some { cls:=.type "list",data:=.seq its.toArray n }/\xs.length<=sizeLine:=by
 obtain⟨z,its,n,r,e⟩:=I.hok p _ h
 exact⟨its,n,r,e,z⟩
theorem Inv.lstUpd{pins:List (Addr×Obj)}{σ:St}{H:Hp}{s:Shared}{p:Addr}{xs ys:List V}{its its':List Value}{n n':Nat}{f:Obj->Obj}(I:Inv X pins σ H s)(h:H p=some (.lst xs))
  (ho:s.heap.get? p=some { cls:=.type "list",data:=.seq its.toArray n }) (hf:f { cls:=.type "list",data:=.seq its.toArray n } = { cls:=.type "list",data:=.seq its'.toArray n' }) (r:Vals ys its') (hz:ys.length<=sizeLine) (t:Nat) :
  Inv X pins σ (upd H p (.lst ys)) { s with heap:=s.heap.update p f,toks:=t }:=by
 have e:(s.heap.update p f).get? p=some { cls:=.type "list",data:=.seq its'.toArray n' }:=by
  rw[Heap.get?_update_self f ho (by rw[hf] <;> rfl),hf]
 refine I.write (x:=p) (e:=p) (by rw[h];trivial) (.inl rfl) (fun b u hb q=>(Heap.get?_update_other _ _ (Ne.symm hb)).trans q) ⟨_,e⟩ ?_
 exact⟨hz,its',n',r,e⟩
inductive rSetLI(o:V)(i:V)(v:V)(H:Hp)(Q:Hp->Prop):Prop where
 |mk (p:_) (xs:_) (k:_) (j:_) (h1:o = .ref p) (h2:i = .int k) (h3:H p=some (.lst xs)) (h4:ixN xs.length k=some j) (h5:Q (upd H p (.lst (xs.set j v))))
noncomputable def rSetL:V->V->V->Hp->(Hp->Prop)->Prop:=fun o i v H Q=>rSetLI o i v H Q
theorem set_list:PSet X rSetL:=by
 intro pins s σ H o i v ov iv u Q I ro ri rv h
 obtain⟨p,xs,k,j,rfl,rfl,hp,hj,q⟩:=h
 cases ro
 obtain⟨t,rfl⟩:=ri
 obtain⟨its,n,r,ho,hz⟩:=I.lst hp
 obtain⟨h1,h2,h3,h4⟩:=ixN_seq hj
 have hl:=r.length
 have hn:=line63
 have I':Inv X pins σ (upd H p (.lst (xs.set j v))) { s with heap:=s.heap.update p (Obj.mapSeq (·.setIfInBounds j u)) } :=
  I.lstUpd hp ho (mapSeq_set its n j u) (r.set rv j) (by rw[List.length_set];exact hz) s.toks
 by_cases h0:0<=k
 ·have hk:k.toNat=j:=by
   rw[seqIndex_of h0 h4]at h1
   exact Option.some.inj h1
  exact PySem.W.ki_setAt ho h0 (by lia) (by rw[zV,<- hl];exact h4) (by rw[hk];exact⟨_,I',q⟩)
 ·have hk:(k+(its.toArray.size:Int)).toNat=j:=by
   rw[seqIndex_neg (by lia) h3]at h1
   rw[zV,<- hl]
   exact Option.some.inj h1
  exact PySem.W.ki_setBack ho (by lia) (by rw[zV,<- hl];exact h3) (by lia) (by rw[hk];exact⟨_,I',q⟩)
theorem slice_bounds(lo hi:Option Int)(n:Nat):(sliceBounds lo hi none n).1=((HT.sIx n 0 lo:Nat):Int)/\(sliceBounds lo hi none n).2.1=((HT.sIx n n hi:Nat):Int)/\(sliceBounds lo hi none n).2.2=1:=by
 refine⟨?_,?_,rfl⟩
 ·cases lo with
  |none=>simp[sliceBounds,HT.sIx]
  |some i =>
   simp only[sliceBounds,HT.sIx,Option.getD_none,show(1:Int) > 0 by decide,if_true]
   by_cases h:i<0
   ·simp only[h,if_true] <;> lia
   ·simp only[h,if_false] <;> lia
 ·cases hi with
  |none=>simp[sliceBounds,HT.sIx]
  |some i =>
   simp only[sliceBounds,HT.sIx,Option.getD_none,show(1:Int) > 0 by decide,if_true]
   by_cases h:i<0
   ·simp only[h,if_true] <;> lia
   ·simp only[h,if_false] <;> lia
theorem slicePick_cut(its:List Value)(lo hi:Option Int):slicePick its.toArray lo hi none=((its.drop (HT.sIx its.length 0 lo)).take (HT.sIx its.length its.length hi-HT.sIx its.length 0 lo)).toArray:=by
 obtain⟨h1,h2,h3⟩:=slice_bounds lo hi its.toArray.size
 unfold slicePick
 rw[h1,h2,h3]
 simp only[sliceRange_one,pick_run,zV] <;> rfl
inductive rSlLI(K:PySem.W.Frag)(x:V)(lo:Option Int)(hi:Option Int)(H:Hp)(Q:VK):Prop where
 |mk (a:_) (xs:_) (h1:x = .ref a) (h2:SqL K H a xs) (h3:∀ p,H p=none->Q (.ref p) (upd H p (.lst (cutV xs lo hi))))
noncomputable def rSlL(K:PySem.W.Frag):V->Option Int->Option Int->Hp->VK->Prop:=fun x lo hi H Q=>rSlLI K x lo hi H Q
theorem sl_list:SlR X (rSlL X.K):=by
 intro pins s σ H x v vl vu lo hi sl Q I rx hs pl pu h
 obtain⟨a,xs,rfl,hx,q⟩:=h
 cases rx
 obtain⟨its,r,ht,hz⟩:=I.list hx
 have hlen:=r.length
 refine⟨"list",_,slot_list_getitem.lookup,ht.isList.typeIs,?_⟩
 refine wpAny_getItem_list_slice ht.isList hs pl pu .none (by simp) ?_ (by rw[zV] <;> lia)
 rw[slicePick_cut,<- hlen]
 refine⟨.ref s.heap.objs.size,_,I.laid (t':=s.toks) (o:=.lst (cutV xs lo hi)) (fun b ob q=>zD _ q) (zJ _) ?_,rfl,q _ (I.hok.fresh (zJ _))⟩
 exact⟨zC (cutV_length xs lo hi) hz,_,0,(r.drop (HT.sIx xs.length 0 lo)).take (HT.sIx xs.length xs.length hi-HT.sIx xs.length 0 lo),zS _ rfl⟩
noncomputable def flatV:V->Bool
 | .non=>true
 | .bl _=>true
 | .int _=>true
 | .str _=>true
 | _=>false
noncomputable def eqV:V->V->Bool
 | .non,.non=>true
 | .bl a,.bl b=>a == b
 | .bl a,.int b=>(if a then 1 else 0) == b
 | .int a,.bl b=>a ==(if b then 1 else 0)
 | .int a,.int b=>a == b
 | .str a,.str b=>a == b
 | _,_=>false
theorem eqAt_V{A:Around}{s:Shared}{y x:V}{u v:Value}(ry:RelV y u)(rx:RelV x v)(fy:flatV y=true)(fx:flatV x=true):SeqAt.EqAt A s u v (eqV y x):=by
 cases y with
 |non =>
  cases ry
  cases x with
  |non=>cases rx;exact SeqAt.EqAt.same _
  |bl b=>cases rx;exact SeqAt.EqAt.none_bool b
  |int b=>obtain⟨t,rfl⟩:=rx;exact SeqAt.EqAt.none_int b t
  |str b=>obtain⟨t,rfl⟩:=rx;exact SeqAt.EqAt.none_str b t
  | _=>exact absurd (show false=true from fx) zW
 |bl a =>
  cases ry
  cases x with
  |non=>cases rx;exact SeqAt.EqAt.bool_none a
  |bl b=>cases rx;exact SeqAt.EqAt.bool_bool a b
  |int b=>obtain⟨t,rfl⟩:=rx;exact SeqAt.EqAt.bool_int a b t
  |str b=>obtain⟨t,rfl⟩:=rx;exact SeqAt.EqAt.bool_str a b t
  | _=>exact absurd (show false=true from fx) zW
 |int a =>
  obtain⟨t',rfl⟩:=ry
  cases x with
  |non=>cases rx;exact SeqAt.EqAt.int_none a t'
  |bl b=>cases rx;exact SeqAt.EqAt.int_bool a t' b
  |int b=>obtain⟨t,rfl⟩:=rx;exact SeqAt.EqAt.int_int a t' b t
  |str b=>obtain⟨t,rfl⟩:=rx;exact SeqAt.EqAt.int_str a t' b t
  | _=>exact absurd (show false=true from fx) zW
 |str a =>
  obtain⟨t',rfl⟩:=ry
  cases x with
  |non=>cases rx;exact SeqAt.EqAt.str_none a t'
  |bl b=>cases rx;exact SeqAt.EqAt.str_bool a t' b
  |int b=>obtain⟨t,rfl⟩:=rx;exact SeqAt.EqAt.str_int a t' b t
  |str b=>obtain⟨t,rfl⟩:=rx;exact SeqAt.EqAt.str_str a t' b t
  | _=>exact absurd (show false=true from fx) zW
 | _=>exact absurd (show false=true from fy) zW
noncomputable def eqU(x:V)(u:Value):Bool:=match u with
 | .none=>eqV .non x
 | .bool b=>eqV (.bl b) x
 | .int i _=>eqV (.int i) x
 | .str z _=>eqV (.str z) x
 | _=>false
theorem eqU_of{x y:V}{u:Value}(r:RelV y u)(f:flatV y=true):eqU x u=eqV y x:=by
 cases y with
 |non=>cases r;rfl
 |bl b=>cases r;rfl
 |int i=>obtain⟨t,rfl⟩:=r;rfl
 |str z=>obtain⟨t,rfl⟩:=r;rfl
 | _=>exact absurd (show false=true from f) zW
theorem any_eqU{x:V}:∀ {xs:List V}{us:List Value},Vals xs us->xs.all flatV=true->us.any (eqU x)=xs.any fun y=>eqV y x
 | _,_,.nil,_=>rfl
 |y :: xs,u :: us,.cons r t,f=>by
  rw[List.all_cons,zDD]at f
  rw[List.any_cons,List.any_cons,eqU_of r f.1,any_eqU t f.2]
theorem mem_eqAt{A:Around}{s:Shared}{x:V}{v:Value}(rx:RelV x v)(fx:flatV x=true):∀ {xs:List V}{us:List Value},Vals xs us->xs.all flatV=true->∀ u∈us,SeqAt.EqAt A s u v (eqU x u)
 | _,_,.nil,_=>fun u hu=>by cases hu
 |y :: xs,u :: us,.cons r t,f=>fun u' hu=>by
  rw[List.all_cons,zDD]at f
  rcases zAF.mp hu with rfl | hu
  ·rw[eqU_of r f.1];exact eqAt_V r rx f.1 fx
  ·exact mem_eqAt rx fx t f.2 u' hu
noncomputable def inV(x:V)(xs:List V):Bool:=xs.any fun y=>eqV y x
inductive rInI(K:PySem.W.Frag)(neg:Bool)(x:V)(y:V)(H:Hp)(Q:VK):Prop where
 |mk (p:_) (xs:_) (h1:y = .ref p) (h2:(SqL K H p xs\/SqT K H p xs)) (h3:flatV x=true) (h4:xs.all flatV=true) (h5:Q (.bl (if neg then !inV x xs else inV x xs)) H)
noncomputable def rIn(K:PySem.W.Frag)(neg:Bool):R2:=fun x y H Q=>rInI K neg x y H Q
theorem op_in_seq:OpR X (compareOp .In) (rIn X.K false):=by
 intro pins s σ H x y v u Q I rx ry h
 obtain⟨p,xs,rfl,hq,fx,fs,q⟩:=h
 cases ry
 rcases hq with hq | hq
 ·obtain⟨its,r,pl,hz⟩:=I.list hq
  refine SeqAt.in_listAt (eqU x) pl.isList (fun w hw=>mem_eqAt rx fx r fs w (by simpa using hw)) ⟨.bl _,H,I,rfl,?_⟩
  rw[show its.toArray.any (eqU x)=its.any (eqU x) by simp,any_eqU r fs]
  exact q
 ·obtain⟨its,r,pl,hz⟩:=I.tuple hq
  refine SeqAt.in_tupleAt (eqU x) pl (fun w hw=>mem_eqAt rx fx r fs w (by simpa using hw)) ⟨.bl _,H,I,rfl,?_⟩
  rw[show its.toArray.any (eqU x)=its.any (eqU x) by simp,any_eqU r fs]
  exact q
theorem call_len_seq:CallR X (.builtin "len") (fun xs H Q=>∃ p ys,xs=[.ref p]/\(SqL X.K H p ys\/SqT X.K H p ys)/\Q (.int ys.length) H):=by
 intro pins s σ H xs us Q I r h
 obtain⟨p,ys,rfl,hq,q⟩:=h
 obtain⟨u,rfl,rx⟩:=vals1 r
 cases rx
 have hn:=line63
 rcases hq with hq | hq
 ·obtain⟨its,r',pl,hz⟩:=I.list hq
  have hlen:=r'.length
  exact Calls.call_len_list pl.isList (by simp only[zV] <;> exact zcb hn hz hlen) ⟨.int ys.length,H,I.tok _,⟨s.toks+1,by rw[zV,hlen]⟩,q⟩
 ·obtain⟨its,r',pl,hz⟩:=I.tuple hq
  have hlen:=r'.length
  exact len_tuple pl (by simp only[zV] <;> exact zcb hn hz hlen) ⟨.int ys.length,H,I.tok _,⟨s.toks+1,by rw[zV,hlen]⟩,q⟩
theorem call_list_of:CallR X (.type "list") (fun xs H Q=>∃ p ys,xs=[.ref p]/\(SqL X.K H p ys\/SqT X.K H p ys)/\∀ l,H l=none->Q (.ref l) (upd H l (.lst ys))):=by
 intro pins s σ H xs us Q I r h
 obtain⟨p,ys,rfl,hq,q⟩:=h
 obtain⟨u,rfl,rx⟩:=vals1 r
 cases rx
 have fin:∀ (its:List Value),Vals ys its->ys.length<=sizeLine->∀ (h':Heap) (c':Nat),(∀ b o',s.heap.get? b=some o'->h'.get? b=some o') ->
   h'.get? s.heap.objs.size=some { cls:=.type "list",dict:=none,data:=.seq its.toArray c',slots:=#[] }->EP X pins σ Q (.ref s.heap.objs.size) { s with heap:=h' }:=fun its r' hz h' c' kp e =>
  ⟨.ref s.heap.objs.size,_,I.laid (t':=s.toks) kp (zJ _) (show ObjOk X.prog X.w _ h' _ (.lst ys)from⟨hz,its,c',r',e⟩),rfl,q _ (I.hok.fresh (zJ _))⟩
 rcases hq with hq | hq
 ·obtain⟨its,r',pl,hz⟩:=I.list hq
  have hlen:=r'.length
  obtain⟨o,ho,hc,n,hd⟩:=pl.isList
  exact call_list_seq p (.inl rfl) ho hc hd (fun h' c' kp e=>fin its r' hz h' c' kp e) (by simp only[zV] <;> exact zh9 hz (Eq.symm hlen))
 ·obtain⟨its,r',pl,hz⟩:=I.tuple hq
  have hlen:=r'.length
  obtain⟨o,ho,hc,n,hd⟩:=pl
  exact call_list_seq p (.inr rfl) ho hc hd (fun h' c' kp e=>fin its r' hz h' c' kp e) (by simp only[zV] <;> exact zh9 hz (Eq.symm hlen))
theorem call_tuple_of:CallR X (.type "tuple") (fun xs H Q=>∃ p ys,xs=[.ref p]/\((SqL X.K H p ys/\∀ l,H l=none->Q (.ref l) (upd H l (.tup ys)))\/(SqT X.K H p ys/\Q (.ref p) H))):=by
 intro pins s σ H xs us Q I r h
 obtain⟨p,ys,rfl,h⟩:=h
 obtain⟨u,rfl,rx⟩:=vals1 r
 cases rx
 rcases h with⟨hq,q⟩ |⟨hq,q⟩
 ·obtain⟨its,r',pl,hz⟩:=I.list hq
  have hlen:=r'.length
  refine call_tuple_list pl.isList (fun h' kp=>?_) (by simp only[zV] <;> lia)
  have I1:Inv X pins σ H { s with heap:=h' }:=I.kept (t':=s.toks) kp
  have I2:Inv X pins σ (upd H h'.objs.size (.tup ys)) { s with heap:=h'.push { cls:=.type "tuple",data:=.seq its.toArray } } :=
   I1.laid (t':=s.toks) (fun b o e=>zD _ e) (zJ _) (show ObjOk X.prog X.w _ _ _ (.tup ys)from⟨hz,its,r',IsTup.new _ _⟩)
  exact⟨.ref h'.objs.size,_,I2,rfl,q _ (I1.hok.fresh (zJ _))⟩
 ·obtain⟨its,r',pl,hz⟩:=I.tuple hq
  exact call_tuple_same pl ⟨.ref p,H,I,rfl,q⟩
noncomputable def tyV(K:PySem.W.Frag)(T:String)(x:V)(H:Hp):Prop:=match x with
 | .str _=>T = "str"
 | .int _=>T = "int"
 | .ref p=>(T = "list"/\∃ xs,SqL K H p xs)\/(T = "tuple"/\∃ o,K.lookup p=some o/\o.cls = .type "tuple"/\o.dict=none) \/
   (T = "dict"/\((∃ kvs,H p=some (.dK kvs))\/∃ kvs,H p=some (.dT kvs)))\/(T = "set"/\∃ S n,H p=some (.set S n))
 | _=>False
theorem tyV_is{pins:List (Addr×Obj)}{σ:St}{H:Hp}{s:Shared}{T:String}{x:V}{v:Value}(I:Inv X pins σ H s)(r:RelV x v)(ty:tyV X.K T x H) :
  s.TypeIs v T/\∀ a,v = .ref a->∃ ob,s.heap.get? a=some ob/\ob.dict=none:=by
 cases x with
 |str z =>
  obtain⟨t,rfl⟩:=r
  cases(show T = "str" from ty)
  exact⟨typeIs_str s z t,fun _ e=>nomatch e⟩
 |int i =>
  obtain⟨t,rfl⟩:=r
  cases(show T = "int" from ty)
  exact⟨typeIs_int s i t,fun _ e=>nomatch e⟩
 |ref p =>
  cases r
  rcases ty with⟨rfl,xs,hq⟩ |⟨rfl,o,hk,hc,hd⟩ |⟨rfl,hk⟩ |⟨rfl,S,n,hk⟩
  ·obtain⟨its,_,pl,_⟩:=I.list hq
   refine⟨pl.isList.typeIs,fun a e=>?_⟩
   cases e
   obtain⟨o,n,e,c,hd,_⟩:=pl
   exact⟨o,e,hd⟩
  ·refine⟨⟨o,I.kIn p o hk,hc⟩,fun a e=>?_⟩
   cases e
   exact⟨o,I.kIn _ o hk,hd⟩
  ·have z:∃ o,s.heap.get? p=some o/\o.ExactDict:=by
    rcases hk with⟨kvs,hk⟩ |⟨kvs,hk⟩
    ·obtain⟨_,_,_,_,o,_,_,e,ex,_⟩:=I.hok p _ hk
     exact⟨o,e,ex⟩
    ·obtain⟨_,_,_,_,o,_,_,e,ex,_⟩:=I.hok p _ hk
     exact⟨o,e,ex⟩
   obtain⟨o,e,ex⟩:=z
   refine⟨⟨o,e,ex.1⟩,fun a e2=>?_⟩
   cases e2
   exact⟨o,e,ex.2.1⟩
  ·obtain⟨o,_,_,_,e,ex,_⟩:=I.hok p _ hk
   refine⟨⟨o,e,ex.1⟩,fun a e2=>?_⟩
   cases e2
   exact⟨o,e,ex.2.1⟩
 | _=>exact False.elim ty
noncomputable def tBM(K:PySem.W.Frag)(T:String)(r:V->List V->Hp->VK->Prop)(to:TE)(t:TA):TE:=fun σ H Q=>to σ H fun x H1=>tyV K T x H1/\t σ H1 fun xs H2=>r x xs H2 Q
variable{o e:Expr}{es:List Expr}{to:TE}{t:TA}{name:Str}{apos cpos:Pos}{T id:String}{r:V->List V->Hp->VK->Prop}
theorem pe_bm(pa:PlainAttrs T)(slot:Slot T name id)(hty:typeOf (.builtin id)=pure (.type "method_descriptor"))(hm:MtR X id r)(ho:PE X o to)(ha:PA X (e :: es) t)
  (hbase:attributeBase o name X.env (eval o X.env)=eval o X.env:=by rfl)
  (hfew:((backTo cpos (starEach (e :: es) X.env)).all (fun x=>!x.1) && (backToKw cpos (keywordEach [] X.env)).all (fun x=>x.1.isSome)
   && decide ((e :: es).length+([]:List Keyword).length+(if([]:List Keyword).isEmpty then 0 else 1)<30))=true:=by rfl)
  (hline:(apos.endLine == cpos.line)=true:=by rfl) (hs:starEach (e :: es) X.env=(false,eval e X.env) :: starEach es X.env:=by rfl) (hplain:(backTo cpos (starEach es X.env)).any (·.1)=false:=by rfl) :
  PE X (.Call (.Attribute o name apos) (e :: es) [] cpos) (tBM X.K T r to t):=by
 intro pins s σ H Q I h
 refine wpAny_Call_method_late hbase hfew hline rfl (thn (ho pins s σ H _ I h) fun v s1 ⟨x,H1,I1,r1,ty,q1⟩=>?_)
 obtain⟨h1,h2⟩:=tyV_is I1 r1 ty
 refine⟨T,id,pa,slot,hty,h1,h2,?_⟩
 have hA:=ha cpos pins s1 σ H1 _ I1 q1
 rw[hs]at hA ⊢
 refine Calls.callWith_builtin (by show(false ||(backTo cpos (starEach es X.env)).any (·.1))=false;rw[hplain] <;> rfl) (Calls.evalArgs_plain ?_)
 exact thn hA fun us s2 ⟨vs,H2,I2,r2,q2⟩=>hm pins s2 σ H2 x vs v us Q I2 r1 r2 q2
end
open PySem PySem.Spec PyProof.Rows
noncomputable def MtM(X:Cx)(id:String)(r:V->List V->Hp->VK->Prop):Prop :=
 ∀ (pins:List (Addr×Obj)) (s:Shared) (σ:St) (H:Hp) (x:V) (xs:List V) (v:Value) (us:List Value) (Q:VK),Inv X pins σ H s->RelV x v->Vals xs us->r x xs H Q ->
  wpAny (model X.prog X.w) X.A (call (.builtin id) (v :: us)) (EP X pins σ Q) X.xe s
theorem Vals.one{x:V}{us:List Value}(h:Vals [x] us):∃ u,us=[u]/\RelV x u:=by
 cases h with | cons r q=>cases q;exact⟨_,rfl,r⟩
theorem Vals.eraseIdx:∀ {xs:List V}{us:List Value} (i:Nat),Vals xs us->Vals (xs.eraseIdx i) (us.eraseIdx i)
 | _,_,_,.nil=>.nil
 | _,_,0,.cons _ t=>t
 | _,_,i+1,.cons r t=>.cons r (Vals.eraseIdx i t)
theorem len_erase{α:Type}:∀ (l:List α) (i:Nat),(l.eraseIdx i).length<=l.length
 |[],_=>zJ _
 | _ :: _,0=>zCN _
 | _ :: r,i+1=>zDB (len_erase r i)
section
variable{X:Cx}{pins:List (Addr×Obj)}{σ:St}{H:Hp}{s:Shared}{l b:Addr}{xs ys zs:List V}
theorem Inv.lset{its its':List Value}{n:Nat}{f:Array Value->Array Value}{t':Nat}(I:Inv X pins σ H s)(hH:H l=some (.lst xs))
  (e:s.heap.get? l=some { cls:=.type "list",data:=.seq its.toArray n }) (hf:f its.toArray=its'.toArray) (hv:Vals ys its') (hz:ys.length<=sizeLine) :
  Inv X pins σ (upd H l (.lst ys)) { s with heap:=s.heap.update l (Obj.mapSeq f),toks:=t' }:=by
 have q:=PySem.IsL.update e f
 rw[hf]at q
 refine I.write (x:=l) (e:=l) (by rw[hH];exact trivial) (.inl rfl) (fun b' u hb hu=>(Heap.get?_update_other s.heap (Obj.mapSeq f) (Ne.symm hb)).trans hu) ⟨_,q⟩ ?_
 exact⟨hz,its',_,hv,q⟩
theorem Inv.lnew{its:List Value}{t':Nat}(I:Inv X pins σ H s)(hv:Vals ys its)(hz:ys.length<=sizeLine) :
  Inv X pins σ (upd H s.heap.objs.size (.lst ys)) { s with heap:=s.heap.push { cls:=.type "list",data:=.seq its.toArray },toks:=t' } :=
 I.laid (fun _ _ q=>zD _ q) (zJ _) ⟨hz,its,0,hv,zS _ rfl⟩
theorem Inv.fresh(I:Inv X pins σ H s):H s.heap.objs.size=none:=I.hok.fresh (zJ _)
theorem Inv.lstM(I:Inv X pins σ H s)(hH:H l=some (.lst xs)):xs.length<=sizeLine/\∃ (its:List Value) (n:Nat),Vals xs its/\xs.length=its.length/\s.heap.get? l=some { cls:=.type "list",data:=.seq its.toArray n }:=by
 obtain⟨z,its,n,r,e⟩:=I.hok l _ hH
 exact⟨z,its,n,r,r.length,e⟩
end
section
variable{X:Cx}
inductive rPopAtI(x:V)(vs:List V)(H:Hp)(Q:VK):Prop where
 |mk (l:_) (xs:_) (i:_) (k:_) (y:_) (h1:x = .ref l) (h2:vs=[.int i]) (h3:H l=some (.lst xs)) (h4:-(2 ^ 63)<=i) (h5:i<2 ^ 63) (h6:seqIndex? i xs.length=some k) (h7:xs[k]?=some y) (h8:Q y (upd H l (.lst (xs.eraseIdx k))))
noncomputable def rPopAt:V->List V->Hp->VK->Prop:=fun x vs H Q=>rPopAtI x vs H Q
theorem mt_popAt:MtM X "list.pop" rPopAt:=by
 intro pins s σ H x vs v us Q I rx rv h
 obtain⟨l,xs,i,k,y,rfl,rfl,hH,h1,h2,hk,hy,q⟩:=h
 cases rx
 obtain⟨u,rfl,ru⟩:=rv.one
 obtain⟨t,rfl⟩:=ru
 obtain⟨z,its,n,r,hl,e⟩:=I.lstM hH
 obtain⟨w,hw,rw'⟩:=r.get hy
 refine call_meets F.slot_list_pop ⟨_,e,rfl⟩ F.entry_list_pop (F.args_list_pop_2 _ _)
  (MeetsSeq.list_pop_at l its.toArray n i t k w (fitsIndex_both h1 h2) (by rw[zV,<- hl];exact hk) (by rw[<- zBR];exact hw) (by rw[zV];exact zh9 z (Eq.symm hl))) ⟨e,?_⟩
 refine⟨y,_,I.lset (its':=its.eraseIdx k) hH e ?_ (r.eraseIdx k) ?_,rw',q⟩
 ·show its.toArray.eraseIdxIfInBounds k=(its.eraseIdx k).toArray
  rw[List.eraseIdxIfInBounds_toArray]
 ·have:=len_erase xs k
  exact zC this z
inductive rCatI(x:V)(y:V)(H:Hp)(Q:VK):Prop where
 |mk (l:_) (b:_) (xs:_) (zs:_) (h1:x = .ref l) (h2:y = .ref b) (h3:H l=some (.lst xs)) (h4:H b=some (.lst zs)) (h5:xs.length+zs.length<=sizeLine) (h6:∀ p,H p=none->Q (.ref p) (upd H p (.lst (xs++zs))))
noncomputable def rCat:R2:=fun x y H Q=>rCatI x y H Q
theorem op_cat:OpR X (binaryOp .Add) rCat:=by
 intro pins s σ H x y v u Q I rx ry h
 obtain⟨l,b,xs,zs,rfl,rfl,hH,hB,hz,q⟩:=h
 cases rx
 cases ry
 obtain⟨z,its,n,r,hl,e⟩:=I.lstM hH
 obtain⟨z2,its2,n2,r2,hl2,e2⟩:=I.lstM hB
 refine PySem.P.add_list e e2 ?_ (by rw[zV,zV];lia)
 have ea:its.toArray++its2.toArray=(its++its2).toArray:=by simp
 rw[ea]
 exact⟨.ref _,_,I.lnew (t':=s.toks) (r.append r2) (by rw[zAC];omega),rfl,q _ I.fresh⟩
end
end L2
namespace Att
open PySem PySem.W PySem.Calls PyProof.Rows
theorem ints_of_wellAll{P:Params}{h:Heap}:∀ (ns:List Int) (vs:List Value),WellAll P h vs (ns.map WData.int)->IntsAre vs ns:=by
 intro ns
 induction ns with
 |nil =>
  intro vs w
  rw[List.map_nil]at w
  cases w
  exact .nil
 |cons n ns ih =>
  intro vs w
  rw[zAI]at w
  cases w with
  |cons a b =>
   cases a
   exact .cons _ _ (ih _ b)
theorem script_of{l:OpenLaw}{n:Nat}(hn:l.most=some n){P:Params}{h:Heap}{args:List WData}{vals:List Value}
  (hpre:l.row.toRowW.claim.pre args=true) (hwl:WellAll P h vals args) :
  ∃ a vs ns,vals=[Value.ref a]/\args=[WData.list (ns.map WData.int)]/\h.get? a=some { cls:=.type "list",data:=.seq vs.toArray }/\IntsAre vs ns/\ns.length<=n:=by
 have hsh:WShape.hasAll [] args [.list .int]=true:=(pre_splitW hpre).1
 have hc:l.pre.holds [] { args:=args } = true:=(pre_splitW hpre).2
 obtain⟨d,r,rfl,h1,h2⟩:=hasAllW_cons hsh
 obtain rfl:=hasAllW_nil h2
 obtain⟨xs,rfl,h3⟩:=hasW_list h1
 obtain⟨ns,rfl⟩:=items_int h3
 have hlen:ns.length<=n:=by
  unfold OpenLaw.pre at hc
  have h4:(WTm.not (.lt (.lit (.int (n:Int))) (.len (.arg 0)))).holds [] { args:=[.list (ns.map .int)] } = true:=by
   have h4:=(holds_andW hc).1
   rw[hn]at h4
   exact h4
  have h5:=condW_of h4 (w_not (w_lt w_lit (w_len_list (w_arg rfl))))
  rw[zB]at h5
  refine Nat.le_of_not_lt fun q=>?_
  have q':(n:Int) <((ns.length:Nat):Int):=by exact zi2 q
  first
   |(rw[decide_eq_true q']at h5;exact absurd h5 (by decide))
   |(simp at h5;omega)
 cases hwl with
 |cons w1 w2 =>
  cases w2
  cases w1 with
  |list ho hall=>exact⟨_,_,ns,rfl,rfl,ho,ints_of_wellAll ns _ hall,hlen⟩
theorem post_true(l:OpenLaw)(args:List WData):l.row.toRowW.claim.post args (.bool true) args=true :=
 postW_of (r:=l.row.toRowW) (X:=(true == true))
  (show WShape.has [] (.bool true) .bool=true by first | rfl | decide | simp[WShape.has,WShape.arms,WShape.armsAll])
  (show(WTm.eq .res (.lit (.bool true))).value [] { args:=args,res:=some (.bool true),after:=args } = some (.bool (true == true))from w_eq_bool (w_res rfl) w_lit) rfl
theorem attach_call{l:OpenLaw}{n:Nat}{q:Program}{loose:List Str}{XP:(Str->Option Value)->Heap->Prop}{YP:World->Heap->Prop}{d:DefRec}
  (hn:l.most=some n) (hdf:d.params.defaults=[])
  (call:∀ (w:World) (s₀ s₁:Shared) (mg mb:Str->Option Value) (fa:Addr) (o:Obj) (pm cd doc:Value) (a:Addr) (vs:List Value) (ns:List Int),
   Ground q loose [] XP w s₀ mg mb s₁.heap->YP w s₁.heap ->
   s₁.heap.get? fa=some o->o.data = .func (docDef d.name d.params d.body d.scope pm cd doc)->s₁.heap.CodeRec cd d.name->mg d.name=some (.ref fa) ->
   s₁.heap.get? a=some { cls:=.type "list",data:=.seq vs.toArray }->IntsAre vs ns->ns.length<=n->s₁.gens = #[] ->
   codeAny (model l.prog w) callerA (.call (.ref fa) ⟨[.ref a],[]⟩) (fun r s'=>r = .ok (.ret (.bool true))/\OldK s₁.heap s'.heap/\s'.os=s₁.os/\AllBare s'.gens) s₁) :
  WalkO q loose XP YP l.row.toRowW d [] (fun f vs=>PySem.call f vs):=by
 intro w s₀ s₁ mg mb G Y fa o pm cd doc dV kV ho hd hcd hD hmg hg args vals as hpre hlay hrd hwl hlo
 obtain rfl:dV = .none:=Dflts.none hD hdf
 obtain rfl:kV = .none:=Dflts.noKw hD
 obtain⟨a,vs,ns,rfl,rfl,hobj,hints,hlen⟩:=script_of hn hpre hwl
 refine enter_call (codeAny_mono (call w s₀ s₁ mg mb fa o pm cd doc a vs ns G Y ho (fd_plain hd) hcd hmg hobj hints hlen hg) fun r s' hq=>?_)
 obtain⟨rfl,h2,h3,h4⟩:=hq
 exact⟨.inl ⟨.bool true,.bool true,[],rfl,fun _=>rfl,.bool true,post_true l _,fun _=>⟨List.Pairwise.nil,fun _ hm=>(nomatch hm)⟩⟩,h2,h3,h4⟩
end Att
namespace L2
open PySem PySem.Spec PyProof.Rows
theorem vals_ints:∀ {vs:List Value}{ns:List Int},IntsAre vs ns->Vals (ns.map V.int) vs
 | _,_,.nil=>.nil
 | _,_,.cons n t h=>.cons ⟨t,rfl⟩ (vals_ints h)
open PySem PySem.Spec PyProof.Rows
open PySem PySem.Spec PyProof.Rows
noncomputable def defArgs(s:Stmt):Arguments:=match s with
 | .FunctionDef _ a _ _ _ _ _ _ _ _=>a
 | _=>{ posonlyargs:=[],args:=[],vararg:=none,kwonlyargs:=[],kw_defaults:=[],kwarg:=none,defaults:=[] }
noncomputable def defBody(s:Stmt):List Stmt:=match s with
 | .FunctionDef _ _ b _ _ _ _ _ _ _=>b
 | _=>[]
noncomputable def defScope(s:Stmt):Scope:=match s with
 | .FunctionDef _ _ _ _ _ _ sc _ _ _=>sc
 | _=>{ kind:=.function,names:=[],isGenerator:=false,isCoroutine:=false }
noncomputable abbrev CX0:CXT:=fun _ _ _ _ _ _=>False
noncomputable abbrev E0:XK:=fun _ _ _=>False
theorem pass0{X:Cx}:Passes CX0 X E0:=fun _ _ _ _ _ _ _ h=>h.elim
structure Fun(K:PySem.W.Frag)(x qual:Str)(st:Stmt)(f:Addr)(fd:FuncData):Prop where
 ex:∃ (oc:Value) (od:Option Addr) (kV doc pm:Value) (an:Option Addr) (cdv ct:Value) (osl:Array (Option Value)),
  fd=PySem.W.fnOf x qual (defArgs st) (defBody st) (defScope st) .none kV doc pm an cdv ct/\K.lookup f=some ⟨oc,od,.func fd,osl⟩/\PySem.W.codeIn K cdv qual=true
 kp:PySem.W.keepIn K (.ref f)=true
section
variable{P:Program}{w:World}{K:PySem.W.Frag}{mg:Str->Option Value}{base:Heap}
theorem Fun.ok{x qual:Str}{st:Stmt}{f:Addr}{fd:FuncData}{N ps:List Str}{k:Nat}{sp:Sp}(F:Fun K x qual st f fd)(S:FnScope N ps (defScope st))(len:∀ vs H Q E,sp vs H Q E->vs.length=ps.length)
  (hbody:∀ (cdv:Value) (A:Around) (outer:List Env) (s:Shared) (H:Hp) (vs:List V) (Q:VK) (E:XK),Room k (A.deeper (envOfC qual (defScope st) s.heap.objs.size f cdv))->sp vs H Q E ->
   ∃ t,PSs (cxOf CX0 P w K mg base N qual (defScope st) f cdv A outer s H E).nox (defBody st) t/\t { nx:=fun _ H'=>Q .non H',rt:=Q } (start N vs) H):FnOk P w K mg base CX0 (k+1) f fd ps sp:=by
 obtain⟨oc,od,kV,doc,pm,an,cdv,ct,osl,rfl,lk,hcd⟩:=F.ex
 refine fn_of lk hcd S len fun A outer s H vs Q E hr hsp=>?_
 obtain⟨t,h,q⟩:=hbody cdv A outer s H vs Q E hr hsp
 exact⟨t,h.nox,q⟩
theorem Fun.binds{x qual:Str}{st:Stmt}{f:Addr}{fd:FuncData}{ps:List Str}(F:Fun K x qual st f fd)
  (h:∀ (kV doc pm:Value) (an:Option Addr) (cdv ct:Value) (us:List Value),us.length=ps.length->bindArgs (PySem.W.fnOf x qual (defArgs st) (defBody st) (defScope st) .none kV doc pm an cdv ct) ⟨us,[]⟩=pure (ps.zip us)):Binds K fd ps []:=by
 obtain⟨oc,od,kV,doc,pm,an,cdv,ct,osl,rfl,lk,hcd⟩:=F.ex
 exact .all (h kV doc pm an cdv ct)
theorem fun_mk{x qual:Str}{st:Stmt}{f:Addr}{oc:Value}{od an:Option Addr}{osl:Array (Option Value)}{kV doc pm cdv ct:Value}(l:K.lookup f=some ⟨oc,od,.func (PySem.W.fnOf x qual (defArgs st) (defBody st) (defScope st) .none kV doc pm an cdv ct),osl⟩)
  (c:PySem.W.codeIn K cdv qual=true) (k:PySem.W.keepIn K (.ref f)=true):Fun K x qual st f (PySem.W.fnOf x qual (defArgs st) (defBody st) (defScope st) .none kV doc pm an cdv ct):=⟨⟨oc,od,kV,doc,pm,an,cdv,ct,osl,rfl,l,c⟩,k⟩
end
theorem hu_of{A:Around}{k:Nat}(hr:Room k A):A.units+1<cLine:=zI (zK (by decide:1<=64) _) hr.units
section
variable{X:Cx}
theorem pv(i:Nat){x:Str}{pos:Pos}(hN:X.N[i]?=some x:=by rfl)(hv:Vis X.env.scope x:=by first | exact Or.inl rfl | exact Or.inr (Or.inl rfl) | exact Or.inr (Or.inr rfl))(hd:(x ==("__debug__":Str))=false:=by decide)
  (hcd:(x ==("__classdict__":Str))=false:=by decide):PE X (.Name x pos) (tVar i):=pe_var hN hv hd hcd
end
theorem iteF{A B:Prop}(h:B):if false=true then A else B:=by
 rw[if_neg zW]
 exact h
theorem iteT{A B:Prop}(h:A):if true=true then A else B:=by
 rw[if_pos rfl]
 exact h
theorem ite2{c A B:Prop}[Decidable c](h1:c->A)(h2:¬ c->B):if c then A else B:=by
 by_cases h:c
 ·rw[if_pos h]
  exact h1 h
 ·rw[if_neg h]
  exact h2 h
noncomputable def Same(H H':Hp):Prop:=∀ b o,H b=some o->H' b=some o
theorem Same.refl(H:Hp):Same H H:=fun _ _ h=>h
theorem Same.trans{H H1 H2:Hp}(a:Same H H1)(b:Same H1 H2):Same H H2:=fun c o h=>b c o (a c o h)
theorem Same.free{H H':Hp}(e:Same H H'){l:Addr}(h:H' l=Option.none):H l=Option.none:=by
 cases q:H l with
 |none=>rfl
 |some o =>
  rw[e l o q]at h
  cases h
theorem Same.seq{K:PySem.W.Frag}{H H':Hp}{a:Addr}{xs:List V}(e:Same H H')(h:SqL K H a xs):SqL K H' a xs:=by
 rcases h with(h |⟨o,h⟩) | h
 ·exact .inl (.inl (e _ _ h))
 ·exact .inl (.inr ⟨o,e _ _ h⟩)
 ·exact .inr h
open PySem PySem.Spec PyProof.Rows
end L2
set_option maxHeartbeats 4000000
namespace L2
open PySem PySem.Spec PyProof.Rows
noncomputable def closCl(cells:List (Str×Addr)):List (Str×NameKind)->List (Str×Addr)->List (Str×Addr)
 |[],acc=>acc
 |(n,k) :: r,acc=>closCl cells r (if k == .free then(n,(cells.lookup n).getD 0) :: acc else acc)
theorem closureFor_cells{scope:Scope}{env:Env}(h:∀ x∈scope.names,x.2 = .free->∃ c,env.cells.lookup x.1=some c) :
  closureFor scope env=pure (closCl env.cells scope.names []):=by
 have gen:∀ (l:List (Str×NameKind)) (acc:List (Str×Addr)),(∀ x∈l,x.2 = .free->∃ c,env.cells.lookup x.1=some c) ->
   (forIn l acc fun(x:Str×NameKind) (cs:List (Str×Addr))=>(do
    if x.2 == .free then
     let c <- cellOf env x.1
     pure (ForInStep.yield ((x.1,c) :: cs))
    else pure (ForInStep.yield cs):Sem (ForInStep (List (Str×Addr)))))=pure (closCl env.cells l acc):=by
  intro l
  induction l with
  |nil=>intro acc _;rfl
  |cons x r ih =>
   intro acc hx
   obtain⟨n,k⟩:=x
   rw[List.forIn_cons]
   have hr:=fun y hy=>hx y (zY _ hy)
   by_cases hk:k = .free
   ·subst hk
    obtain⟨c,hc⟩:=hx (n,.free) zT rfl
    have e1:cellOf env n=pure c:=by unfold cellOf;rw[hc]
    simp only[e1,beq_self_eq_true,if_true,pure_bind]
    rw[ih _ hr]
    have hc':env.cells.lookup n=some c:=hc
    simp[closCl,hc']
   ·have hb:(k == NameKind.free)=false:=by simpa using hk
    simp only[hb,zCE,if_false,pure_bind]
    rw[ih _ hr]
    simp[closCl,hb]
 have g:=gen scope.names [] h
 unfold closureFor
 simp only[bind_pure]
 exact g
theorem closCl_sound{cells:List (Str×Addr)}:∀ (l:List (Str×NameKind)) (acc:List (Str×Addr)),(∀ x∈l,x.2 = .free->∃ c,cells.lookup x.1=some c) ->
  (∀ y c,acc.lookup y=some c->cells.lookup y=some c)->∀ y c,(closCl cells l acc).lookup y=some c->cells.lookup y=some c
 |[],_,_,ha,y,c,e=>ha y c e
 |(n,k) :: r,acc,h,ha,y,c,e=>by
  refine closCl_sound r _ (fun x hx=>h x (zY _ hx)) ?_ y c e
  intro y c e
  by_cases hk:k = .free
  ·subst hk
   obtain⟨c',hc⟩:=h (n,.free) zT rfl
   have hc:cells.lookup n=some c':=hc
   simp only[beq_self_eq_true,if_true,zAO]at e
   by_cases hy:y == n
   ·have:y=n:=by simpa using hy
    subst this
    simp[hc]at e
    rw[hc,e]
   ·simp only[hy]at e
    exact ha y c e
  ·have hb:(k == NameKind.free)=false:=by simpa using hk
   rw[hb,if_neg (by simp)]at e
   exact ha y c e
theorem closCl_acc{cells:List (Str×Addr)}:∀ (l:List (Str×NameKind)) (acc:List (Str×Addr)) (y:Str),(∃ c,acc.lookup y=some c)->∃ c,(closCl cells l acc).lookup y=some c
 |[],_,_,h=>h
 |(n,k) :: r,acc,y,h=>by
  refine closCl_acc r _ y ?_
  by_cases hk:(k == NameKind.free)=true
  ·rw[if_pos hk,zAO]
   by_cases hy:(y == n)=true
   ·rw[hy];exact⟨_,rfl⟩
   ·rw[zBK.mpr hy];exact h
  ·rw[if_neg hk];exact h
theorem closCl_has{cells:List (Str×Addr)}:∀ (l:List (Str×NameKind)) (acc:List (Str×Addr)) (y:Str),(y,NameKind.free)∈l->∃ c,(closCl cells l acc).lookup y=some c
 |[],_,_,h=>nomatch h
 |(n,k) :: r,acc,y,h=>by
  rcases zAF.mp h with e | h
  ·have e1:n=y:=(congrArg Prod.fst e).symm
   have e2:k=NameKind.free:=(congrArg Prod.snd e).symm
   subst e1 e2
   refine closCl_acc r _ n ?_
   rw[if_pos (by rfl),zAO,beq_self_eq_true]
   exact⟨_,rfl⟩
  ·exact closCl_has r _ y h
theorem relabel_mem{scope:Scope}{env:Env}:∀ {l:List (Str×NameKind)}{x:Str}{k':NameKind},
  (l.map fun(n,k)=>if(k == NameKind.free && env.scope.kind == .function && env.kindOf n == some .cell)then(n,NameKind.cell)else(n,k)).lookup x=some k' ->
  ∃ k,(x,k)∈l/\(k=k'\/(k = .free/\k' = .cell))
 |[],_,_,h=>by simp at h
 |(n,k) :: r,x,k',h=>by
  rw[zAI]at h
  dsimp only at h
  by_cases hc:(k == NameKind.free && env.scope.kind == .function && env.kindOf n == some .cell)=true
  ·simp only[hc,if_true,zAO]at h
   by_cases hx:(x == n)=true
   ·rw[hx]at h
    have:x=n:=by simpa using hx
    subst this
    have hk:k = .free:=by
     rw[zDD,zDD]at hc
     simpa using hc.1.1
    exact⟨k,zT,.inr ⟨hk,by cases h;rfl⟩⟩
   ·rw[zBK.mpr hx]at h
    obtain⟨k1,h1,h2⟩:=relabel_mem (scope:=scope) h
    exact⟨k1,zY _ h1,h2⟩
  ·rw[if_neg hc,zAO]at h
   by_cases hx:(x == n)=true
   ·rw[hx]at h
    have:x=n:=by simpa using hx
    subst this
    exact⟨k,zT,.inl (by cases h;rfl)⟩
   ·rw[zBK.mpr hx]at h
    obtain⟨k1,h1,h2⟩:=relabel_mem (scope:=scope) h
    exact⟨k1,zY _ h1,h2⟩
theorem relabel_free{env:Env}:∀ {l:List (Str×NameKind)}{x:Str},l.lookup x=some .free ->
  (l.map fun(n,k)=>if(k == NameKind.free && env.scope.kind == .function && env.kindOf n == some .cell)then(n,NameKind.cell)else(n,k)).lookup x=some .cell \/
  (l.map fun(n,k)=>if(k == NameKind.free && env.scope.kind == .function && env.kindOf n == some .cell)then(n,NameKind.cell)else(n,k)).lookup x=some .free
 |[],_,h=>by simp at h
 |(n,k) :: r,x,h=>by
  rw[zAI]
  dsimp only
  rw[zAO]at h
  by_cases hx:(x == n)=true
  ·rw[hx]at h
   have hk:k = .free:=by cases h;rfl
   by_cases hc:(k == NameKind.free && env.scope.kind == .function && env.kindOf n == some .cell)=true
   ·left;rw[if_pos hc,zAO,hx]
   ·right;rw[if_neg hc,zAO,hx,hk]
  ·rw[zBK.mpr hx]at h
   have ih:=relabel_free (env:=env) h
   by_cases hc:(k == NameKind.free && env.scope.kind == .function && env.kindOf n == some .cell)=true
   ·rw[if_pos hc,zAO,zBK.mpr hx];exact ih
   ·rw[if_neg hc,zAO,zBK.mpr hx];exact ih
theorem lookup_mem{α:Type}[BEq α][LawfulBEq α]{β:Type}:∀ {l:List (α×β)}{x:α}{k:β},l.lookup x=some k->(x,k)∈l
 |[],_,_,h=>by simp at h
 |(n,k') :: r,x,k,h=>by
  rw[zAO]at h
  by_cases hx:(x == n)=true
  ·rw[hx]at h
   have:x=n:=by simpa using hx
   subst this
   cases h
   exact zT
  ·rw[zBK.mpr hx]at h
   exact zY _ (lookup_mem h)
noncomputable def cxIn(X:Cx)(N':List Str)(scope:Scope)(C:Addr)(s2:Shared)(H2:Hp)(fp:List Addr):Cx :=
 { X with N:=N',s₀:=s2,H₀:=H2,env:=compEnvC scope (closCl X.env.cells scope.names []) C X.env,outer:=X.stack,ex:=fp,fn:=fun _=>false,xe:=fun _ _=>False }
noncomputable def capt(cap:List (Option Nat))(σ:St):St:=cap.map fun o=>o.bind fun j=>(σ[j]?).join
structure CompScope(N':List Str)(cap:List (Option Nat))(N:List Str)(sc0 scope:Scope):Prop where
 kind:scope.kind = .function
 nocell:∀ x∈scope.names,x.2≠.cell
 loc:∀ x∈scope.names,x.2 = .local->scope.names.lookup x.1=some .local
 fre:∀ x∈scope.names,x.2 = .free->sc0.names.lookup x.1=some .cell\/sc0.names.lookup x.1=some .free
 len:cap.length=N'.length
 cap:∀ j∈List.range cap.length,match cap[j]? with
  |some (some i)=>match N'[j]? with
   |some x=>N[i]?=some x/\scope.names.lookup x=some .free
   |none=>False
  | _=>True
section
variable{X:Cx}{N':List Str}{cap:List (Option Nat)}{scope:Scope}{C:Addr}{s2 s4:Shared}{H2:Hp}{fp:List Addr}{pins:List (Addr×Obj)}{σ:St}
theorem CompScope.clos(S:CompScope N' cap X.N X.env.scope scope)(I:Inv X pins σ H2 s2):∀ x∈scope.names,x.2 = .free->∃ c,X.env.cells.lookup x.1=some c :=
 fun x hx hf=>I.ok.has x.1 (S.fre x hx hf)
theorem cxIn_ok(S:CompScope N' cap X.N X.env.scope scope)(I:Inv X pins σ H2 s2)(hC:s2.heap.objs.size<=C)(hfp:∀ b∈fp,FpOk X pins H2 b)(hfo:∀ b∈fp,∃ o,s2.heap.get? b=some o):(cxIn X N' scope C s2 H2 fp).Ok where
 mod:=I.ok.mod
 kind:=S.kind
 glob:=I.ok.glob
 blt:=I.ok.blt
 above:=hC
 inj:=fun x y c e1 e2=>I.ok.inj x y c (closCl_sound _ _ (S.clos I) (fun y c e=>by simp at e) x c e1) (closCl_sound _ _ (S.clos I) (fun y c e=>by simp at e) y c e2)
 has:=fun x h=>by
  have hm:(x,NameKind.free)∈scope.names:=by
   rcases h with h | h
   ·obtain⟨k,hk,e |⟨e,_⟩⟩:=relabel_mem (scope:=scope) (l:=scope.names) h
    ·subst e;exact absurd rfl (S.nocell _ hk)
    ·subst e;exact hk
   ·obtain⟨k,hk,e |⟨_,e⟩⟩:=relabel_mem (scope:=scope) (l:=scope.names) h
    ·subst e;exact hk
    ·cases e
  exact closCl_has _ _ x hm
 cab:=fun _ _ h _=>nomatch h
 hd:=I.ok.hd
 frames:=I.ok.frames
 stk:=.inl rfl
 exf:=fun b hb=>⟨fun z=>by
   obtain⟨o,ho⟩:=hfo b hb
   have h1:=zE (zN ho) hC
   have z:b=C:=z
   rw[z]at h1
   exact zAH _ h1,fun x c e=>(hfp b hb).2.2.2.2.1 x c (closCl_sound _ _ (S.clos I) (fun y c e=>by simp at e) x c e)⟩
 bs:=I.bs
 bsz:=zC I.ok.bsz I.sz
 noex:=fun b o e hb=>by
  rcases(hfp b hb).2.2.2.1 with z | z
  ·exact I.ok.noex b o e z
  ·exact absurd (zE (zN e) (zC I.ok.bsz z)) (zAH _)
 exfs:=fun b hb z=>by
  rcases zAF.mp (I.stkSub b z)with e | e
  ·exact(hfp b hb).2.1 e
  ·exact(hfp b hb).2.2.1 e
 funs:=I.stack
 frf:=I.stkFree
theorem cxIn_inv(S:CompScope N' cap X.N X.env.scope scope)(I:Inv X pins σ H2 s2)(hC:s2.heap.objs.size<=C)(hfp:∀ b∈fp,FpOk X pins H2 b)(hfo:∀ b∈fp,∃ o,s2.heap.get? b=some o)
  (ho:s4.os=s2.os) (hg:s4.gens=s2.gens) (k:∀ b o,s2.heap.get? b=some o->s4.heap.get? b=some o) {m:Str->Option Value} (hn:s4.heap.Ns C m) {D:Addr}{oD:Obj}
  (hD:s4.heap.get? D=some oD) (hDs:s2.heap.objs.size<=D) (hDC:D≠C) (hDc:∀ v,oD.data≠.cell v) :
  Inv (cxIn X N' scope C s2 H2 fp) (pins++[(D,oD)]) (capt cap σ) H2 s4 where
 ok:=cxIn_ok S I hC hfp hfo
 os:=ho
 bare:=by rw[hg];exact I.bare
 base:=Un.kept k
 loc:=by
  refine⟨m,hn,fun j x v e1 e2 _=>?_⟩
  have hj:j<cap.length:=by rw[S.len];exact(zH.mp e1).1
  have e1:N'[j]?=some x:=e1
  have hc:=S.cap j (zCP.mpr hj)
  unfold capt at e2
  rw[zAJ]at e2
  cases hq:cap[j]? with
  |none=>rw[hq]at e2;cases e2
  |some o =>
   rw[hq]at e2 hc
   cases o with
   |none=>cases e2
   |some i =>
    simp only[e1]at hc
    obtain⟨hN,hfr⟩:=hc
    have e3:σ[i]?=some (some v):=by
     have e2:(σ[i]?).join=some v:=Option.some.inj e2
     cases hs:σ[i]? with
     |none=>rw[hs]at e2;cases e2
     |some w=>rw[hs]at e2;have e2:w=some v:=e2;rw[e2]
    have hm:=lookup_mem hfr
    have hk:=S.fre _ hm rfl
    obtain⟨m0,hn0,hl0⟩:=I.loc
    obtain⟨u,r,l⟩:=hl0 i x v hN e3 (.inr hk)
    refine⟨u,r,?_⟩
    rcases l with⟨l,_⟩ |⟨_,c,e,z⟩
    ·rcases hk with hk | hk
     ·rw[show X.env.kindOf x=some .cell from hk]at l;cases l
     ·rw[show X.env.kindOf x=some .free from hk]at l;cases l
    ·obtain⟨c',hc'⟩:=closCl_has (cells:=X.env.cells) scope.names [] x hm
     have hs:=closCl_sound scope.names [] (S.clos I) (fun y c e=>by simp at e) x c' hc'
     rw[e]at hs
     cases hs
     refine .inr ⟨relabel_free hfr,c,hc',?_⟩
     obtain⟨oc,ho',hd'⟩:=z
     exact⟨oc,k _ _ ho',hd'⟩
 cell:=fun x c e=>by
  obtain⟨v,oc,ho',hd'⟩:=I.cell x c (closCl_sound scope.names [] (S.clos I) (fun y c e=>by simp at e) x c e)
  exact⟨v,oc,k _ _ ho',hd'⟩
 free:=I.hok.fresh hC
 freeC:=fun x c e=>I.freeC x c (closCl_sound scope.names [] (S.clos I) (fun y c e=>by simp at e) x c e)
 pin:=fun p hp=>by
  have hp:p∈X.pn++(pins++[(D,oD)]):=hp
  have cne:∀ b o,s2.heap.get? b=some o->b≠C:=fun b o e z=>by
   have h1:=zE (zN e) hC
   rw[z]at h1
   exact zAH _ h1
  rw[<- zAL]at hp
  rcases zAD.mp hp with hp | hp
  ·obtain⟨e,n,ne,nf,d⟩:=I.pin p hp
   exact⟨k _ _ e,n,cne _ _ e,fun z=>by
    rcases zAF.mp (I.stkSub p.1 z)with e | e
    ·exact ne e
    ·exact nf e,d⟩
  ·have e:p=(D,oD):=by simpa using hp
   subst e
   refine⟨hD,I.hok.fresh hDs,hDC,fun z=>?_,hDc⟩
   rcases zAF.mp (I.stkSub D z)with e | e
   ·have h1:=zE I.lt hDs
    rw[e]at h1
    exact zAH _ h1
   ·exact I.nofs hDs e
 hok:=I.hok.kept k
 len:=by unfold capt;rw[zB];exact S.len
end
noncomputable def PF(X:Cx)(ifs:List Expr)(t:TT):Prop :=
 ∀ (pins:List (Addr×Obj)) (s:Shared) (σ:St) (H:Hp) (Q:Bool->Hp->Prop),Inv X pins σ H s->t σ H Q ->
  wpAny (model X.prog X.w) X.A (forIn ifs true fun c r=>if r=true then do let ok <- isTrue c X.env (eval c X.env);pure (ForInStep.yield ok)else pure (ForInStep.yield r)) (TP X pins σ Q) X.xe s
noncomputable def tTru:TT:=fun _ H Q=>Q true H
theorem pf_nil{X:Cx}:PF X [] tTru:=fun _ _ _ H _ I h=>wpAny_tests_nil ⟨H,I,h⟩
theorem pf_one{X:Cx}{c:Expr}{t:TT}(h:PT X c t):PF X [c] t:=fun pins s σ H Q I q=>wpAny_tests_one (h pins s σ H Q I q)
section
variable{prog:Program}{w:World}{A:Around}{E:Value->Shared->Prop}{R:Result->Shared->Prop}{s:Shared}
theorem codeAny_compLoop_any{elt target iter:Expr}{ifs:List Expr}{scope:Scope}{pos:Pos}{it acc:Value}{env:Env}(I:Nat->Shared->Prop)
  (turn:∀ n s,I n s->wpAny (model prog w) A (pyNext it) (fun r s₁=>match r with
   |none=>R (.ok .next) s₁
   |some v=>wpAny (model prog w) A (letOwnedTupleGo target it v) (fun _ s₁'=>wpAny (model prog w) A (assign target env v) (fun _ s₂ =>
     wpAny (model prog w) A (forIn ifs true fun c r=>if r=true then do let ok <- isTrue c env (eval c env);pure (ForInStep.yield ok)else pure (ForInStep.yield r)) (fun ok s₃ =>
      if ok=true then wpAny (model prog w) A (eval elt env) (fun x s₄ =>
       wpAny (model prog w) A (call (.builtin "list.append") [acc,x]) (fun _ s₅=>∃ m,m<n/\I m s₅) (fun _ _=>False) s₄) (fun _ _=>False) s₃
      else ∃ m,m<n/\I m s₃) (fun _ _=>False) s₂) (fun _ _=>False) s₁') (fun _ _=>False) s₁) (fun _ _=>False) s)
  (n:Nat) (h:I n s) :
  codeAny (model prog w) A (.compLoop (.ListComp elt [⟨target,iter,ifs,0⟩] scope pos) 0 it acc env) R s:=by
 refine codeAny_loop rfl I (fun n s hI=>?_) n h
 show wpAny _ A ((compTurn (.ListComp elt [⟨target,iter,ifs,0⟩] scope pos) 0 it acc env).onRaise (fun x=>do noteFrame x env;theTreesLotGoes x)) _ _ s
 refine wpAny_noted ?_
 rw[compTurn_list]
 refine zA (wpAny_standAt (zA (wpAny_mono (turn n s hI) (fun r s₁ h₁=>?_) fun _ _ h'=>h'.elim)))
 cases r with
 |none=>exact zG h₁
 |some v =>
  refine zA (wpAny_mono h₁ (fun _ s₁' h₁'=>?_) fun _ _ h'=>h'.elim)
  refine zA (wpAny_mono h₁' (fun _ s₂ h₂=>zA (wpAny_mono h₂ (fun ok s₃ h₃=>?_) fun _ _ h'=>h'.elim)) fun _ _ h'=>h'.elim)
  cases ok with
  |false=>exact zG ⟨rfl,h₃⟩
  |true =>
   exact zA (zA (wpAny_mono h₃ (fun x s₄ h₄=>zA (wpAny_mono h₄ (fun _ s₅ h₅=>zG (zG ⟨rfl,h₅⟩)) fun _ _ h'=>h'.elim)) fun _ _ h'=>h'.elim))
end
noncomputable def Kp:St->St->Prop
 |[],[]=>True
 |none :: r,_ :: r'=>Kp r r'
 |some v :: r,o :: r'=>o=some v/\Kp r r'
 | _,_=>False
theorem Kp.length:∀ {a b:St},Kp a b->a.length=b.length
 |[],[],_=>rfl
 |none :: r,_ :: r',h=>congrArg (· + 1) (Kp.length (a:=r) (b:=r') h)
 |some v :: r,o :: r',h=>congrArg (· + 1) (Kp.length (a:=r) (b:=r') h.2)
 |[],_ :: _,h=>h.elim
 |none :: _,[],h=>h.elim
 |some _ :: _,[],h=>h.elim
theorem Kp.get:∀ {a b:St},Kp a b->∀ (i:Nat) (v:V),a[i]?=some (some v)->b[i]?=some (some v)
 |[],[],_,i,v,e=>e
 |none :: r,_ :: r',h,0,v,e=>by simp at e
 |none :: r,_ :: r',h,i+1,v,e=>by simpa using Kp.get (a:=r) (b:=r') h i v (by simpa using e)
 |some w :: r,o :: r',h,0,v,e=>by rw[h.1];simpa using e
 |some w :: r,o :: r',h,i+1,v,e=>by simpa using Kp.get (a:=r) (b:=r') h.2 i v (by simpa using e)
 |[],_ :: _,h,_,_,_=>h.elim
 |none :: _,[],h,_,_,_=>h.elim
 |some _ :: _,[],h,_,_,_=>h.elim
noncomputable def compTurns(J:It)(cap:List (Option Nat))(σ:St)(H1:Hp)(Q:VK)(g:TG)(tc:TT)(te:TE):Prop:=∃ (n:Nat) (P:Nat->List V->Hp->Prop),n<=sizeLine/\P 0 [] H1 /\
 ∀ i ys H,ys.length<=i->i<=n->P i ys H->(J.stop i H/\∀ D,H D=none->Q (.ref D) (upd H D (.lst ys))) \/
  (i<n/\J.go i H/\∀ x H',J.yld i H x H'->g x (capt cap σ) H' fun σ2 H2=>Kp (capt cap σ) σ2/\tc σ2 H2 fun b H3=>if b=true then te σ2 H3 fun y H4=>P (i+1) (ys++[y]) H4 else P (i+1) ys H3)
noncomputable def tComp(cap:List (Option Nat))(wi:TI)(g:TG)(tc:TT)(te:TE):TE:=fun σ H Q=>wi σ H fun J H1=>compTurns J cap σ H1 Q g tc te
noncomputable def CompEnd(X:Cx)(pins:List (Addr×Obj))(σ:St)(Q:VK)(acc:Value)(C:Addr)(r:Result)(s':Shared):Prop :=
 match r with
 | .ok _=>∃ v H',Inv X pins σ H' s'/\RelV v acc/\Q v H'/\(∃ m,s'.heap.Ns C m)/\FpOk X pins H' C
 | .error _=>False
section
variable{X:Cx}{elt tg iter:Expr}{ifs:List Expr}{scope:Scope}{pos:Pos}{N':List Str}{cap:List (Option Nat)}{wi:TI}{g:TG}{tc:TT}{te:TE}
theorem comp_run(hc:X.calm=true)(S:CompScope N' cap X.N X.env.scope scope)(hi:PI X tg iter wi)(hg:∀ C s H fp,PG (cxIn X N' scope C s H fp) tg g)
  (ht:∀ C s H fp,PF (cxIn X N' scope C s H fp) ifs tc) (he:∀ C s H fp,PE (cxIn X N' scope C s H fp) elt te)
  {pins:List (Addr×Obj)}{s:Shared}{σ:St}{H:Hp}{Q:VK} (I:Inv X pins σ H s) (h:tComp cap wi g tc te σ H Q) :
  wpAny (model X.prog X.w) X.A (eval iter X.env) (fun x s₁=>wpAny (model X.prog X.w) X.A (pyIter x) (fun it s₂=>wpAny (model X.prog X.w) X.A (newList []) (fun acc s₃ =>
   wpAny (model X.prog X.w) X.A (newFunctionEnv scope X.env.globals (closCl X.env.cells scope.names []) [] X.env.qual none .none (some X.env)) (fun cenv s₄ =>
    codeAny (model X.prog X.w) X.A (.compStart (.ListComp elt [⟨tg,iter,ifs,0⟩] scope pos) 0 it acc { cenv with scope:=relabel scope X.env }) (CompEnd X pins σ Q acc cenv.locals) s₄) X.xe s₃) X.xe s₂) X.xe s₁) X.xe s:=by
 refine thn (hi pins s σ H _ I h) fun v s1 h1=>thn h1 fun itv s2 h2=>?_
 obtain⟨it,fp,tn,J,H2,e,I2,T,st2,f2,n,P,hn,p0,turn⟩:=h2
 subst e
 refine wpAny_newObj_type (wpAny_newFunctionEnv S.nocell (by intro y hy;simp at hy) (fun h₁ hns₁ hsb₁=>?_) S.kind)
 dsimp only at hns₁ hsb₁ ⊢
 generalize hHp:s2.heap.push { cls:=.type "list",dict:=none,data:=.seq ([]:List Value).toArray } = Hq at hns₁ hsb₁ ⊢
 have hC:Hq.objs.size=s2.heap.objs.size+1:=by rw[<- hHp,Heap.size_push]
 have hDC:s2.heap.objs.size≠Hq.objs.size:=by rw[hC];exact zAE (zBC _)
 have hCle:s2.heap.objs.size<=Hq.objs.size:=by rw[hC];exact zCN _
 have old:∀ b o,s2.heap.get? b=some o->h₁.get? b=some o:=fun b o e =>
  hsb₁.extBut b o (by rw[hC];exact zAE (zCW (zN e))) (zD _ (hHp▸zD _ e))
 have hacc:h₁.PlainList s2.heap.objs.size #[]:=⟨_,hsb₁.extBut _ _ hDC (zD _ (hHp▸zS _ rfl))⟩
 have hfo:∀ b∈fp,∃ o,s2.heap.get? b=some o:=fun b hb=>let ⟨o,e,_⟩:=T.obj _ _ st2 b hb;⟨o,e⟩
 have st4:tn 0 h₁:=T.keep _ _ _ st2 fun b _ o e=>old b o e
 let D:Addr:=s2.heap.objs.size
 let C:Addr:=Hq.objs.size
 let Y:Cx:=cxIn X N' scope C s2 H2 fp
 have hDfp:D∉fp:=fun hb=>by
  obtain⟨o,e⟩:=hfo D hb
  exact zAH _ (zN e)
 -- the iterator's objects,seen from within
 have stat:∀ {H':Hp}{oD:Obj},(∀ b∈fp,H' b=none)->∀ b∈fp,FpOk Y (pins++[(D,oD)]) H' b:=fun {H' oD} hn b hb=>by
  obtain⟨f0,f1,fx,f3,f4,f5⟩:=f2 b hb
  obtain⟨o,e⟩:=hfo b hb
  refine⟨hn b hb,fun z=>?_,fun z=>?_,.inl hb,fun x c e=>f4 x c (closCl_sound _ _ (S.clos I2) (fun y c e=>by simp at e) x c e),fun p hp=>?_⟩
  ·have h1:=zE (zN e) hCle
   have z:b=Hq.objs.size:=z
   rw[z]at h1
   exact zAH _ h1
  ·rcases zAF.mp (I2.stkSub b z)with e | e
   ·exact f1 e
   ·exact fx e
  ·have hp:p∈X.pn++(pins++[(D,oD)]):=hp
   rw[<- zAL]at hp
   rcases zAD.mp hp with hp | hp
   ·exact f5 p hp
   ·have q:p=(D,oD):=by simpa using hp
    subst q
    exact fun z=>hDfp (by rw[show D=b from z];exact hb)
 have loop:∀ s₃:Shared,s₃ = { s2 with heap:=h₁,toks:=s2.toks+([]:List (Str×Value)).length } ->
   codeAny (model X.prog X.w) X.A (.compLoop (.ListComp elt [⟨tg,iter,ifs,0⟩] scope pos) 0 (.ref it) (.ref s2.heap.objs.size) (compEnvC scope (closCl X.env.cells scope.names []) Hq.objs.size X.env))
    (CompEnd X pins σ Q (.ref s2.heap.objs.size) Hq.objs.size) s₃:=by
  rintro s₃ rfl
  have cellD:∀ x c,Y.env.cells.lookup x=some c->c≠D:=fun x c e z=>by
   obtain⟨v,q⟩:=I2.cell x c (closCl_sound _ _ (S.clos I2) (fun y c e=>by simp at e) x c e)
   have h1:=q.lt
   rw[show c=s2.heap.objs.size from z]at h1
   exact zAH _ h1
  have pinD:∀ p∈X.pn++pins,p.1≠D:=fun p hp z=>by
   have h1:=zN (I2.pin p hp).1
   rw[show p.1=s2.heap.objs.size from z]at h1
   exact zAH _ h1
  have inD:∀ {pl:List (Addr×Obj)}{oD:Obj},(D,oD)∈Y.pn++((pins++[(D,oD)])++pl):=fun {pl oD}=>zP _ (zAZ _ (zP _ (by simp)))
  have inF:∀ {pl:List (Addr×Obj)}{oD:Obj}{p:Addr×Obj},p∈pl->p∈Y.pn++((pins++[(D,oD)])++pl):=fun {pl oD p} hp=>zP _ (zP _ hp)
  refine codeAny_compLoop_any (fun m s'=>∃ i ys H' its ep,m=n-i/\i<=n/\ys.length<=i/\Vals ys its/\Inv Y (pins++[(D,{ cls:=.type "list",data:=.seq its.toArray ep })]) (capt cap σ) H' s'/\tn i s'.heap/\(∀ b∈fp,H' b=none)/\P i ys H') ?_ n ?_
  ·rintro m s3 ⟨i,ys,H3,its,ep,rfl,hin,hyl,rv,I3,st3,fr3,p3⟩
   rcases turn i ys H3 hyl hin p3 with⟨stop,q⟩ |⟨hlt,go,step⟩
   ·refine thn (T.done Y rfl rfl rfl hc i _ s3 _ H3 (fun _ _=>False) I3 (stat fr3) st3 stop) fun r s4 ⟨hr,I4⟩=>?_
    subst hr
    obtain⟨eD,nD,_⟩:=I4.pin (D,{ cls:=.type "list",data:=.seq its.toArray ep }) (zP _ (zP _ (by simp)))
    have nD:H3 D=none:=nD
    have okn:ObjOk X.prog X.w (upd H3 D (.lst ys)) s4.heap D (.lst ys):=⟨zC hyl (zC hin hn),its,ep,rv,eD⟩
    have hok:HOk X.prog X.w (upd H3 D (.lst ys)) s4.heap:=fun b u e=>by
     by_cases hb:b=D
     ·subst hb;rw[upd_same]at e;cases e;exact okn
     ·rw[upd_ne hb]at e
      exact(I4.hok b u e).stay (fun c v _ q=>q) (fun c q=>by rw[upd_ne (ne_of_none q nD)];exact q) fun c xs q=>by rw[upd_ne (ne_of_none q nD)];exact q
    have B:=I4.base
    have u:Un (frs X.stack) fp H2 (upd H3 D (.lst ys)) s2.heap s4.heap :=
     ⟨B.keep,B.slot,fun b o e n hx=>by rw[upd_ne (zAE (zN e))];exact B.free b o e n hx,B.there,fun b xs e=>by rw[upd_ne (ne_of_none (B.tups b xs e) nD)];exact B.tups b xs e,
      fun b o xs e=>by rw[upd_ne (ne_of_none (B.frzs b o xs e) nD)];exact B.frzs b o xs e,fun b ps e=>by
       obtain⟨more,z⟩:=B.tbls b ps e
       exact⟨more,by rw[upd_ne (ne_of_none z nD)];exact z⟩,B.tupo⟩
    have IX:Inv X pins σ (upd H3 D (.lst ys)) s4:=I2.call' (ch:=fp) I4.os u hok I4.bare fun b hb=>by
     obtain⟨f0,f1,fx,f3,f4,f5⟩:=f2 b hb
     exact⟨f3,f1,f4,f5⟩
    have nC:(upd H3 D (.lst ys)) Hq.objs.size=none:=by rw[upd_ne (Ne.symm hDC)];exact I4.free
    obtain⟨m',hm',_⟩:=I4.loc
    exact⟨.ref D,_,IX,rfl,q D nD,⟨m',hm'⟩,I2.fpOk hCle nC⟩
   ·refine thn (T.item Y rfl rfl rfl hc i _ s3 _ H3 (fun _ _=>False) I3 (stat fr3) st3 go) fun r s4 ⟨u,hr,h4⟩=>?_
    subst hr
    refine thn h4 fun _ s5 ⟨x,H5,I5,r5,y5,st5,fr5⟩=>?_
    have I5':=I5.pinned (stat fr5) (T.obj _ _ st5)
    refine thn (hg C s2 H2 fp _ s5 _ H5 x u _ I5' r5 (step x H5 y5)) fun _ s6 ⟨σ6,H6,I6,kp,q6⟩=>?_
    refine thn (ht C s2 H2 fp _ s6 σ6 H6 _ I6 q6) fun b s7 ⟨H7,I7,q7⟩=>?_
    cases b with
    |false =>
     rw[if_neg zW]at q7 ⊢
     refine⟨n-(i+1),zBP n i hlt,i+1,ys,H7,its,ep,rfl,hlt,zDF hyl,rv,I7.unpinned.weak kp.length kp.get,?_,fun b hb=>?_,q7⟩
     ·exact T.keep _ _ _ st5 fun b hb o e=>(I7.pin (b,o) (inF (mem_pinsAt hb e))).1
     ·obtain⟨o,e,d⟩:=T.obj _ _ st5 b hb
      exact(I7.pin (b,o) (inF (mem_pinsAt hb e))).2.1
    |true =>
     rw[if_pos rfl]at q7 ⊢
     refine thn (he C s2 H2 fp _ s7 σ6 H7 _ I7 q7) fun yv s8 ⟨y,H8,I8,r8,q8⟩=>?_
     obtain⟨eD,nD,_⟩:=I8.pin (D,{ cls:=.type "list",data:=.seq its.toArray ep }) inD
     have hsz:its.toArray.size<=sizeLine:=by
      rw[zV,<- rv.length]
      exact zC hyl (zC hin hn)
     refine wpAny_list_append_plain (items:=its.toArray) ⟨ep,eD⟩ (fun h9 pl9 sb9=>?_) hsz
     obtain⟨ep',e9⟩:=pl9
     have e9:h9.get? D=some { cls:=.type "list",data:=.seq (its++[yv]).toArray ep' }:=by rw[e9];simp
     have Ia:Inv Y pins σ6 H8 s8:=I8.pins_of fun p hp=>I8.pin p (zP _ (zAZ _ (zAZ _ hp)))
     have Ib:Inv Y pins σ6 H8 { s8 with heap:=h9 }:=Ia.turned (it:=D) (t':=s8.toks) (fun b o hb e=>(sb9.2 b hb).trans e) nD hDC (.inr (zJ _)) cellD pinD
     have Ic:Inv Y (pins++[(D,{ cls:=.type "list",data:=.seq (its++[yv]).toArray ep' })]) σ6 H8 { s8 with heap:=h9 }:=Ib.pins_of fun p hp=>by
      rcases zAD.mp hp with hp | hp
      ·exact Ib.pin p (zP _ hp)
      ·have q:p=(D,{ cls:=.type "list",data:=.seq (its++[yv]).toArray ep' }):=by simpa using hp
       subst q
       obtain⟨_,_,z1,z2,_⟩:=I8.pin (D,{ cls:=.type "list",data:=.seq its.toArray ep }) inD
       exact⟨e9,nD,z1,z2,fun v z=>by cases z⟩
     refine⟨n-(i+1),zBP n i hlt,i+1,ys++[y],H8,its++[yv],ep',rfl,hlt,by simp;omega,Vals.append rv (.cons r8 .nil),Ic.weak kp.length kp.get,?_,fun b hb=>?_,q8⟩
     ·exact T.keep _ _ _ st5 fun b hb o e=>sb9.extBut b o (fun z=>hDfp (by rw[show D=b from Eq.symm z];exact hb)) (I8.pin (b,o) (inF (mem_pinsAt hb e))).1
     ·obtain⟨o,e,d⟩:=T.obj _ _ st5 b hb
      exact(I8.pin (b,o) (inF (mem_pinsAt hb e))).2.1
  ·obtain⟨ep,e⟩:=hacc
   refine⟨0,[],H2,[],ep,rfl,zAW _,zJ _,.nil,?_,st4,fun b hb=>(f2 b hb).1,p0⟩
   exact cxIn_inv (s4:={ s2 with heap:=h₁,toks:=s2.toks+([]:List (Str×Value)).length }) S I2 hCle f2 hfo rfl rfl old hns₁ e (zJ _) hDC fun v z=>by cases z
 exact codeAny_compStart_list (loop _ rfl) (T.self X.A 0 _ _ _ st4 (loop _ rfl))
theorem pe_comp(hc:X.calm=true)(S:CompScope N' cap X.N X.env.scope scope)(hi:PI X tg iter wi)(hg:∀ C s H fp,PG (cxIn X N' scope C s H fp) tg g)
  (ht:∀ C s H fp,PF (cxIn X N' scope C s H fp) ifs tc) (he:∀ C s H fp,PE (cxIn X N' scope C s H fp) elt te)
  (hs:∀ x,foldedSetIterable iter X.env x=pure x:=by intro _;rfl):PE X (.ListComp elt [⟨tg,iter,ifs,0⟩] scope pos) (tComp cap wi g tc te):=by
 intro pins s σ H Q I h
 rw[eval_ListComp]
 refine wpAny_comprehension_free (use:=none) rfl hs (closureFor_cells (S.clos I)) S.kind S.loc (thn (comp_run (pos:=pos) hc S hi hg ht he I h) fun x s1 h1=>thn h1 fun it s2 h2=>thn h2 fun acc s3 h3=>thn h3 fun cenv s4 h4=>?_)
 refine codeAny_mono h4 fun r s' hr=>?_
 cases r with
 |error x=>exact hr.elim
 |ok f =>
  obtain⟨v,H',I',rv,q,⟨m,hn⟩,f0,f1,f2,f3,f4,f5⟩:=hr
  refine⟨m,hn,fun h' sb=>⟨v,H',I'.turned (it:=cenv.locals) (t':=s'.toks) (fun b o hb e=>(sb.2 b hb).trans e) f0 f1 f3 f4 f5,rv,q⟩⟩
theorem ps_comp{i:Nat}{x:Str}{pos' spos:Pos}(hN:X.N.Nodup)(hx:X.N[i]?=some x)(hl:Loc X.env.scope x)(hc:X.calm=true)(S:CompScope N' cap X.N X.env.scope scope)(hi:PI X tg iter wi)(hg:∀ C s H fp,PG (cxIn X N' scope C s H fp) tg g)
  (ht:∀ C s H fp,PF (cxIn X N' scope C s H fp) ifs tc) (he:∀ C s H fp,PE (cxIn X N' scope C s H fp) elt te)
  (hs:∀ x,foldedSetIterable iter X.env x=pure x:=by intro _;rfl) (hsw:swapsWith (.ListComp elt [⟨tg,iter,ifs,0⟩] scope pos) (some (.Name x pos')) spos.line X.env=pure true:=by rfl)
  (hf:X.fn x=true\/X.env.scope.names.lookup x=some .local:=by first | exact .inl rfl | exact .inr rfl | assumption) :
  PS X (.Assign [.Name x pos'] (.ListComp elt [⟨tg,iter,ifs,0⟩] scope pos) spos) (tAsg (tComp cap wi g tc te) (gName i)):=by
 intro pins s σ H D I h
 rw[exec_Assign_Name_used _ _ _ _ hsw]
 refine zA (wpAny_standAt (zA ?_))
 show wpAny _ _ (do let _ <- comprehension (.ListComp elt [⟨tg,iter,ifs,0⟩] scope pos) scope X.env _ (newList []) false (eval iter X.env) (some (assign (.Name x pos') X.env))) _ _ s
 refine zA (wpAny_mono (wpAny_comprehension_free (use:=some (assign (.Name x pos') X.env)) (Q:=fun _ s'=>SP X pins D .next s') rfl hs (closureFor_cells (S.clos I)) S.kind S.loc
  (thn (comp_run (pos:=pos) hc S hi hg ht he I h) fun x s1 h1=>thn h1 fun it s2 h2=>thn h2 fun acc s3 h3=>thn h3 fun cenv s4 h4=>?_)) (fun _ s' hq=>zG (zG hq)) fun _ _ e=>e)
 refine codeAny_mono h4 fun r s' hr=>?_
 cases r with
 |error x=>exact hr.elim
 |ok f =>
  obtain⟨v,H',I',rv,q,⟨m,hn⟩,f0,f1,f2,f3,f4,f5⟩:=hr
  show wpAny _ _ (assign (.Name _ pos') X.env acc) _ _ _
  refine wpAny_assign_Name (store_ok2 I' hN hx hl rv (fun s'' I'' ⟨a,sb,ha⟩=>?_) hf)
  have hac:cenv.locals≠a:=by
   rcases ha with ha | ha
   ·rw[ha];exact f1
   ·exact Ne.symm (f4 _ a ha)
  refine⟨m,hn.sameBut sb hac,fun h' sb'=>⟨_,H',I''.turned (it:=cenv.locals) (t':=s''.toks) (fun b o hb e=>(sb'.2 b hb).trans e) f0 f1 f3 f4 f5,q⟩⟩
end
end L2
namespace Srt
open PySem PyProof.Rows
noncomputable def LtOk(κ:KeyKind)(kd:SortKind)(prog:Program)(w:World)(A:Around)(s:Shared):Prop :=
 ∀ (E:Value->Shared->Prop) (x y:Keyed) (a b:κ.α) (Q:Option Bool->SortSt->Prop) (st:SortSt),kindOf st=kd->κ.keyOf x.1=some a->κ.keyOf y.1=some b ->
  Q (some (κ.blt a b)) st->wpS (model prog w) A E s (lt' x y) Q st
structure SB(kd:SortKind)(a₀ b:Array Keyed)(lo:Nat)(pd:Array (Nat×Nat×Nat))(st:SortSt):Prop where
 perm:(arrOf st).Perm a₀
 kind:kindOf st=kd
 failed:failedOf st=none
 pend:pendingOf st=pd
 low:∀ k,k<lo->(arrOf st)[k]?=b[k]?
noncomputable def SIn(κ:KeyKind)(xs:Array Keyed)(lo n:Nat):Prop:=∀ i j,i<=j->j<n->κ.kle (KK κ xs (lo+i)) (KK κ xs (lo+j))
noncomputable def DIn(κ:KeyKind)(xs:Array Keyed)(lo n:Nat):Prop:=∀ i j,i<=j->j<n->κ.kle (KK κ xs (lo+j)) (KK κ xs (lo+i))
theorem at_key{κ:KeyKind}{a₀ xs:Array Keyed}(hp:xs.Perm a₀)(h0:KeysOf κ a₀){i:Nat}(hi:i<xs.size):∃ p a,xs[i]?=some p/\κ.keyOf p.1=some a/\KK κ xs i=a:=by
 have hm:xs[i]∈a₀.toList:=(Array.perm_iff_toList_perm.mp hp).mem_iff.mp (by simp)
 obtain⟨a,ha⟩:=h0 _ hm
 have e:xs[i]?=some xs[i]:=getElem?_pos _ i hi
 refine⟨xs[i],a,e,ha,?_⟩
 unfold KK;rw[e];simp[ha]
section
variable{prog:Program}{w:World}{A:Around}{E:Value->Shared->Prop}{s:Shared}{a₀ b:Array Keyed}{κ:KeyKind}{kd:SortKind}{lo:Nat}{pd:Array (Nat×Nat×Nat)}
theorem SB.size{st:SortSt}(h:SB kd a₀ b lo pd st):(arrOf st).size=a₀.size:=h.perm.size_eq
theorem SB.arr{st:SortSt}(h:SB kd a₀ b lo pd st){xs:Array Keyed}(hp:xs.Perm (arrOf st))(hl:∀ k,k<lo->xs[k]?=(arrOf st)[k]?):SB kd a₀ b lo pd (setArr st xs) :=
 ⟨hp.trans h.perm,h.kind,h.failed,h.pend,fun k hk=>(hl k hk).trans (h.low k hk)⟩
theorem SB.mirror{st:SortSt}(h:SB kd a₀ b lo pd st){i j:Nat}(hi:lo<=i)(hj:j<=a₀.size):SB kd a₀ b lo pd (setArr st (mirror (arrOf st) i j ((j-i) / 2))) :=
 h.arr (mirror_perm _ _ _ _) fun k hk=>by rw[getElem?_mirror_all (by rw[h.size];exact hj),if_neg (by exact zgz hi hk)]
theorem elem_ok{arr:Array Keyed}{i:Nat}{p:Keyed}{Q:Keyed->SortSt->Prop}{st:SortSt}(h:arr[i]?=some p)(hq:Q p st):wpS (model prog w) A E s (elem' arr i) Q st:=by
 rw[elem'_eq,h];exact wpS_pure hq
theorem ltAt_ok{st:SortSt}{i j:Nat}{Q:Option Bool->SortSt->Prop}(hO:LtOk κ kd prog w A s)(hB:SB kd a₀ b lo pd st)(h0:KeysOf κ a₀)(hi:i<a₀.size)(hj:j<a₀.size)
  (h:Q (some (κ.blt (KK κ (arrOf st) i) (KK κ (arrOf st) j))) st):wpS (model prog w) A E s (ltAt' i j) Q st:=by
 obtain⟨x,a,e1,ha,ka⟩:=at_key hB.perm h0 (i:=i) (by rw[hB.size];exact hi)
 obtain⟨y,c,e2,hc,kc⟩:=at_key hB.perm h0 (i:=j) (by rw[hB.size];exact hj)
 rw[ka,kc]at h
 rw[ltAt'_eq]
 refine wpS_bind (wpS_get (wpS_bind (elem_ok e1 (wpS_bind (elem_ok e2 ?_)))))
 exact hO E x y a c Q st hB.kind ha hc h
theorem rev_ok{st:SortSt}{i j:Nat}{Q:Unit->SortSt->Prop}(h:Q () (setArr st (mirror (arrOf st) i j ((j-i) / 2)))):wpS (model prog w) A E s (reverseSlice' i j) Q st:=by
 rw[reverseSlice'_eq];exact wpS_modify h
theorem bcong{σ α β:Type}{m m':StateT σ Sem α}{f f':α->StateT σ Sem β}(h:m=m')(hf:∀ a,f a=f' a):(m >>= f)=(m' >>= f'):=by
 subst h
 rw[show f=f' from funext hf]
noncomputable def asc(lo a nrem:Nat):StateT SortSt Sem AscSt :=
 forIn [a:nrem] ((none,a):AscSt) fun _ c=>do
  let x <- ltAt' (lo+c.2) (lo+c.2-1)
  match x with
  |some sm=>if sm=true then pure (ForInStep.done (none,c.2))else pure (ForInStep.yield (none,c.2+1))
  | _=>pure (ForInStep.done (some none,c.2))
noncomputable def tl3(lo n nrem:Nat):StateT SortSt Sem (Option Nat):=do
 reverseSlice' lo (lo+n)
 let c <- asc lo n nrem
 match c.1 with
 |some r=>pure r
 |none=>pure (some c.2)
noncomputable def dsc(lo n nrem:Nat):StateT SortSt Sem DescSt :=
 forIn [n:nrem] ((none,n,0):DescSt) fun _ c=>do
  let x <- ltAt' (lo+c.2.1) (lo+c.2.1-1)
  match x with
  |some sm =>
   if sm=true then
    if c.2.2 > 0 then do
     reverseSlice' (lo+c.2.1-(c.2.2+1)) (lo+c.2.1)
     pure (ForInStep.yield (none,c.2.1+1,0))
    else pure (ForInStep.yield (none,c.2.1+1,0))
   else do
    let x <- ltAt' (lo+c.2.1-1) (lo+c.2.1)
    match x with
    |some la =>
     if la=true then pure (ForInStep.done (none,c.2.1,c.2.2))
     else pure (ForInStep.yield (none,c.2.1+1,c.2.2+1))
    | _=>pure (ForInStep.done (some none,c.2.1,c.2.2))
  | _=>pure (ForInStep.done (some none,c.2.1,c.2.2))
noncomputable def dpt(lo n nrem:Nat):StateT SortSt Sem (Option Nat):=do
 liftM (rule "list.sort.descending-run")
 let c <- dsc lo (n+1) nrem
 match c.1 with
 |some r=>pure r
 |none =>
  if c.2.2 > 0 then do
   reverseSlice' (lo+c.2.1-(c.2.2+1)) (lo+c.2.1)
   tl3 lo c.2.1 nrem
  else tl3 lo c.2.1 nrem
theorem count_eq(lo nrem:Nat):countRun' lo nrem=(do
  let c <- asc lo 1 nrem
  match c.1 with
  |some r=>pure r
  |none =>
   if(c.2 == nrem)=true then pure (some c.2)
   else if c.2 > 1 then do
    let x <- ltAt' lo (lo+c.2-1)
    match x with
    |some rose=>if rose=true then pure (some c.2)else do
      reverseSlice' lo (lo+c.2)
      dpt lo c.2 nrem
    | _=>pure none
   else dpt lo c.2 nrem):=by
 rw[countRun'_eq]
 unfold dpt tl3 dsc asc
 refine bcong rfl fun c=>?_
 obtain⟨r,n⟩:=c
 cases r with
 |some r=>rfl
 |none =>
  dsimp only
  split
  ·rfl
  ·split
   ·refine bcong rfl fun x=>?_
    cases x with
    |none=>rfl
    |some rose =>
     dsimp only
     split
     ·rfl
     ·refine bcong rfl fun _=>bcong rfl fun _=>bcong rfl fun s2=>?_
      obtain⟨r2,n2,q2⟩:=s2
      cases r2 with
      |some r2=>rfl
      |none =>
       dsimp only
       split
       ·refine bcong rfl fun _=>bcong rfl fun _=>bcong rfl fun s3=>?_
        obtain⟨r3,n3⟩:=s3
        cases r3 <;> rfl
       ·refine bcong rfl fun _=>bcong rfl fun s3=>?_
        obtain⟨r3,n3⟩:=s3
        cases r3 <;> rfl
   ·refine bcong rfl fun _=>bcong rfl fun s2=>?_
    obtain⟨r2,n2,q2⟩:=s2
    cases r2 with
    |some r2=>rfl
    |none =>
     dsimp only
     split
     ·refine bcong rfl fun _=>bcong rfl fun _=>bcong rfl fun s3=>?_
      obtain⟨r3,n3⟩:=s3
      cases r3 <;> rfl
     ·refine bcong rfl fun _=>bcong rfl fun s3=>?_
      obtain⟨r3,n3⟩:=s3
      cases r3 <;> rfl
theorem asc_ok{st:SortSt}{a nrem:Nat}{Q:AscSt->SortSt->Prop}(hO:LtOk κ kd prog w A s)(h0:KeysOf κ a₀)(hn:lo+nrem<=a₀.size)(ha:1<=a)(han:a<=nrem)(hB:SB kd a₀ b lo pd st)(hs:SIn κ (arrOf st) lo a)
  (h:∀ n,a<=n->n<=nrem->SIn κ (arrOf st) lo n->(n=nrem\/κ.klt (KK κ (arrOf st) (lo+n)) (KK κ (arrOf st) (lo+n-1)))->Q (none,n) st):wpS (model prog w) A E s (asc lo a nrem) Q st:=by
 unfold asc
 refine wpS_forRange (I:=fun x c st'=>st'=st/\c=(none,x)/\SIn κ (arrOf st) lo x) ?step ?fin ⟨rfl,rfl,hs⟩
 case fin =>
  rintro c st' ⟨rfl,rfl,g⟩
  rw[show max a nrem=nrem by exact zam han]at g ⊢
  exact h nrem han (zJ _) g (.inl rfl)
 case step =>
  rintro x c st' hax hxn ⟨rfl,rfl,g⟩
  dsimp only
  refine wpS_bind (ltAt_ok hO hB h0 (by exact zao hn hxn) (by exact zck hn ha hax hxn) ?_)
  cases q:κ.blt (KK κ (arrOf st') (lo+x)) (KK κ (arrOf st') (lo+x-1))with
  |true=>exact wpS_pure (h x hax (by exact zAA hxn) g (.inr q))
  |false =>
   refine wpS_pure ⟨rfl,rfl,fun i j hij hj=>?_⟩
   by_cases z:j<x
   ·exact g i j hij z
   ·have z:j=x:=by exact zj7 (zi6 hj) z
    subst z
    by_cases y:i=j
    ·subst y;exact KeyOrd.kle_refl _
    ·have u:=g i (j-1) (by exact zca hij y) (by exact zh4 (Nat.lt_of_succ_le (zC ha hax)))
     rw[show lo+(j-1)=lo+j-1 by exact zbe ha hax]at u
     exact KeyOrd.kle_trans u q
theorem tl3_ok{st:SortSt}{n nrem:Nat}{Q:Option Nat->SortSt->Prop}(hO:LtOk κ kd prog w A s)(h0:KeysOf κ a₀)(hn:lo+nrem<=a₀.size)(h1:1<=n)(hnn:n<=nrem)(hB:SB kd a₀ b lo pd st)(hs:DIn κ (arrOf st) lo n)
  (h:∀ m st',SB kd a₀ b lo pd st'->1<=m->m<=nrem->SIn κ (arrOf st') lo m->Q (some m) st'):wpS (model prog w) A E s (tl3 lo n nrem) Q st:=by
 unfold tl3
 have hsz:lo+n<=(arrOf st).size:=by rw[hB.size];exact zbk hn hnn
 have hB':=hB.mirror (i:=lo) (j:=lo+n) (zJ _) (by exact zbk hn hnn)
 refine wpS_bind (rev_ok (wpS_bind (asc_ok hO h0 hn h1 hnn hB' ?_ fun m p1 p2 p3 _=>wpS_pure (h m _ hB' (by exact zC h1 p1) p2 p3))))
 intro i j hij hj
 show κ.kle (KK κ (mirror (arrOf st) lo (lo+n) ((lo+n-lo) / 2)) (lo+i)) (KK κ (mirror (arrOf st) lo (lo+n) ((lo+n-lo) / 2)) (lo+j))
 rw[KK_mirror hsz,KK_mirror hsz,if_pos (by exact zfo hij hj),if_pos (by exact zfd hj),show lo+(lo+n)-1-(lo+i)=lo+(n-1-i) by exact zbf hij hj,show lo+(lo+n)-1-(lo+j)=lo+(n-1-j) by exact zaz hj]
 exact hs _ _ (by exact zaj hij hj) (by exact zcd hij hj)
theorem dsc_ok{st:SortSt}{n nrem:Nat}{Q:DescSt->SortSt->Prop}(hO:LtOk κ kd prog w A s)(h0:KeysOf κ a₀)(hn:lo+nrem<=a₀.size)(h1:1<=n)(hnn:n<=nrem)(hB:SB kd a₀ b lo pd st)(hs:DIn κ (arrOf st) lo n)
  (h:∀ m q st',SB kd a₀ b lo pd st'->n<=m->m<=nrem->DIn κ (arrOf st') lo m->q+1<=m->(∀ i,m-(q+1)<=i->i<m->KK κ (arrOf st') (lo+i)=KK κ (arrOf st') (lo+m-1))->Q (none,m,q) st') :
  wpS (model prog w) A E s (dsc lo n nrem) Q st:=by
 unfold dsc
 refine wpS_forRange (I:=fun x c st'=>∃ q,c=(none,x,q)/\SB kd a₀ b lo pd st'/\DIn κ (arrOf st') lo x/\q+1<=x/\(∀ i,x-(q+1)<=i->i<x->KK κ (arrOf st') (lo+i)=KK κ (arrOf st') (lo+x-1))) ?step ?fin
  ⟨0,rfl,hB,hs,by exact h1,fun i h1 h2=>by rw[show lo+i=lo+n-1 by lia]⟩
 case fin =>
  rintro c st' ⟨q,rfl,g1,g2,g3,g4⟩
  rw[show max n nrem=nrem by exact zam hnn]at g2 g3 g4 ⊢
  exact h nrem q st' g1 hnn (zJ _) g2 g3 g4
 case step =>
  rintro x c st' hax hxn ⟨q,rfl,g1,g2,g3,g4⟩
  dsimp only
  have hsz:lo+x<=(arrOf st').size:=by rw[g1.size];exact zde hn hxn
  refine wpS_bind (ltAt_ok hO g1 h0 (by exact zao hn hxn) (by exact zap hn hxn g3) ?_)
  cases t:κ.blt (KK κ (arrOf st') (lo+x)) (KK κ (arrOf st') (lo+x-1))with
  |true =>
   have step1:∀ xs:Array Keyed,(∀ k,KK κ xs k=KK κ (arrOf st') k)->DIn κ xs lo (x+1):=by
    intro xs hk i j hij hj
    rw[hk,hk]
    by_cases z:j<x
    ·exact g2 i j hij z
    ·have z:j=x:=by exact zj7 (zi6 hj) z
     subst z
     by_cases y:i=j
     ·subst y;exact KeyOrd.kle_refl _
     ·have u:=g2 i (j-1) (by exact zax hij g3 y) (by exact zh4 (zj9 (Nat.lt_of_succ_le g3)))
      rw[show lo+(j-1)=lo+j-1 by exact zae g3]at u
      exact KeyOrd.kle_trans (KeyOrd.kle_of_klt t) u
   dsimp only
   rw[if_pos rfl]
   by_cases y:q > 0
   ·rw[if_pos y]
    have eqs:∀ k,lo+x-(q+1)<=k->k<lo+x->KK κ (arrOf st') k=KK κ (arrOf st') (lo+x-1):=fun k k1 k2=>by
     have u:=g4 (k-lo) (by exact zab g3 k1) (by exact zbv g3 y k2)
     rwa [show lo+(k-lo)=k by exact zai g3 k1]at u
    refine wpS_bind (rev_ok (wpS_pure ⟨0,rfl,g1.mirror (by exact zag g3) (by exact zde hn hxn),step1 _ (KK_mirror_equal hsz eqs),by exact zAV (0+1) x,fun i h1 h2=>by rw[show lo+i=lo+(x+1)-1 by lia]⟩))
   ·rw[if_neg y]
    exact wpS_pure ⟨0,rfl,g1,step1 _ (fun _=>rfl),by exact zAV (0+1) x,fun i h1 h2=>by rw[show lo+i=lo+(x+1)-1 by lia]⟩
  |false =>
   dsimp only
   rw[if_neg zW]
   refine wpS_bind (ltAt_ok hO g1 h0 (by exact zap hn hxn g3) (by exact zao hn hxn) ?_)
   cases u:κ.blt (KK κ (arrOf st') (lo+x-1)) (KK κ (arrOf st') (lo+x))with
   |true=>exact wpS_pure (h x q st' g1 hax (by exact zAA hxn) g2 g3 g4)
   |false =>
    have ex:KK κ (arrOf st') (lo+x)=KK κ (arrOf st') (lo+x-1):=KeyOrd.kle_antisymm u t
    refine wpS_pure ⟨q+1,rfl,g1,fun i j hij hj=>?_,by exact zhc g3,fun i h1 h2=>?_⟩
    ·by_cases z:j<x
     ·exact g2 i j hij z
     ·have z:j=x:=by exact zj7 (zi6 hj) z
      subst z
      by_cases y:i=j
      ·subst y;exact KeyOrd.kle_refl _
      ·rw[ex]
       have v:=g2 i (j-1) (by exact zax hij g3 y) (by exact zh4 (zj9 (Nat.lt_of_succ_le g3)))
       rwa [show lo+(j-1)=lo+j-1 by exact zae g3]at v
    ·rw[show lo+(x+1)-1=lo+x by lia]
     by_cases z:i=x
     ·subst z;rfl
     ·rw[ex];exact g4 i (by exact zhs g3 h1 h2 z) (by exact zj5 z (zi6 h2))
theorem dpt_ok{st:SortSt}{n nrem:Nat}{Q:Option Nat->SortSt->Prop}(hO:LtOk κ kd prog w A s)(h0:KeysOf κ a₀)(hn:lo+nrem<=a₀.size)(hnn:n+1<=nrem)(hB:SB kd a₀ b lo pd st)(hs:DIn κ (arrOf st) lo (n+1))
  (h:∀ m st',SB kd a₀ b lo pd st'->1<=m->m<=nrem->SIn κ (arrOf st') lo m->Q (some m) st'):wpS (model prog w) A E s (dpt lo n nrem) Q st:=by
 unfold dpt
 refine wpS_bind (wpS_lift (wpAny_rule ⟨rfl,wpS_bind (dsc_ok hO h0 hn (by exact zAV 1 n) hnn hB hs fun m q st' g1 m1 m2 g2 g3 g4=>?_)⟩))
 dsimp only
 have hsz:lo+m<=(arrOf st').size:=by rw[g1.size];lia
 by_cases y:q > 0
 ·rw[if_pos y]
  have eqs:∀ k,lo+m-(q+1)<=k->k<lo+m->KK κ (arrOf st') k=KK κ (arrOf st') (lo+m-1):=fun k k1 k2=>by
   have u:=g4 (k-lo) (by exact zab g3 k1) (by exact zbv g3 y k2)
   rwa [show lo+(k-lo)=k by exact zai g3 k1]at u
  refine wpS_bind (rev_ok (tl3_ok hO h0 hn (by exact zC (zAV 1 q) g3) m2 (g1.mirror (by exact zag g3) (by exact zbk hn m2)) (fun i j hij hj=>?_) h))
  show κ.kle (KK κ (mirror (arrOf st') _ _ _) (lo+j)) (KK κ (mirror (arrOf st') _ _ _) (lo+i))
  rw[KK_mirror_equal hsz eqs,KK_mirror_equal hsz eqs]
  exact g2 i j hij hj
 ·rw[if_neg y]
  exact tl3_ok hO h0 hn (by exact zC (zAV 1 q) g3) m2 g1 g2 h
theorem count_ok{st:SortSt}{nrem:Nat}{Q:Option Nat->SortSt->Prop}(hO:LtOk κ kd prog w A s)(h0:KeysOf κ a₀)(hn:lo+nrem<=a₀.size)(h1:1<=nrem)(hB:SB kd a₀ b lo pd st)
  (h:∀ m st',SB kd a₀ b lo pd st'->1<=m->m<=nrem->SIn κ (arrOf st') lo m->Q (some m) st'):wpS (model prog w) A E s (countRun' lo nrem) Q st:=by
 rw[count_eq]
 refine wpS_bind (asc_ok hO h0 hn (zJ 1) h1 hB (fun i j hij hj=>by rw[show i=j by exact zhh hij hj];exact KeyOrd.kle_refl _) fun n n1 n2 g1 g2=>?_)
 dsimp only
 by_cases z:n=nrem
 ·rw[if_pos (by simpa using z)]
  exact wpS_pure (h n st hB n1 n2 g1)
 ·rw[if_neg (by simpa using z)]
  have t:=g2.resolve_left z
  by_cases y:n > 1
  ·rw[if_pos y]
   refine wpS_bind (ltAt_ok hO hB h0 (by exact zfn hn h1) (by exact zdk hn n2 y) ?_)
   cases u:κ.blt (KK κ (arrOf st) lo) (KK κ (arrOf st) (lo+n-1))with
   |true=>exact wpS_pure (h n st hB n1 n2 g1)
   |false =>
    have hsz:lo+n<=(arrOf st).size:=by rw[hB.size];lia
    have eqs:∀ k,lo<=k->k<lo+n->KK κ (arrOf st) k=KK κ (arrOf st) (lo+n-1):=fun k k1 k2=>by
     have a1:=g1 0 (k-lo) (by exact zAW (k-lo)) (by exact zbm k1 k2)
     have a2:=g1 (k-lo) (n-1) (by exact zbl y k1 k2) (by exact zh4 (zj1 y))
     rw[show lo+(k-lo)=k by exact zad k1]at a1 a2
     rw[show lo+(n-1)=lo+n-1 by exact zbi y k2]at a2
     exact KeyOrd.kle_antisymm a2 (KeyOrd.kle_trans u a1)
    dsimp only
    rw[if_neg zW]
    refine wpS_bind (rev_ok (dpt_ok hO h0 hn (by exact zn5 (zj5 z n2)) (hB.mirror (zJ _) (by exact zbk hn n2)) (fun i j hij hj=>?_) h))
    show κ.kle (KK κ (mirror (arrOf st) _ _ _) (lo+j)) (KK κ (mirror (arrOf st) _ _ _) (lo+i))
    rw[KK_mirror_equal hsz eqs,KK_mirror_equal hsz eqs]
    by_cases v:j<n
    ·rw[eqs (lo+i) (by exact zQ lo i) (by exact zff hij v),eqs (lo+j) (by exact zQ lo j) (by exact zdp v)];exact KeyOrd.kle_refl _
    ·have v:j=n:=by exact zj7 (zi6 hj) v
     subst v
     by_cases v:i=j
     ·subst v;exact KeyOrd.kle_refl _
     ·rw[eqs (lo+i) (by exact zQ lo i) (by exact zgf hij v)];exact KeyOrd.kle_of_klt t
  ·rw[if_neg y]
   have z:n=1:=by exact Eq.symm (zj7 n1 y)
   subst z
   refine dpt_ok hO h0 hn (by exact zn5 (zj5 z h1)) hB (fun i j hij hj=>?_) h
   by_cases v:i=j
   ·subst v;exact KeyOrd.kle_refl _
   ·have e1:i=0:=by lia
    have e2:j=1:=by lia
    subst e1 e2
    exact KeyOrd.kle_of_klt t
theorem bin_ok{st:SortSt}{n ok:Nat}{Q:Bool->SortSt->Prop}(hO:LtOk κ kd prog w A s)(h0:KeysOf κ a₀)(hn:lo+n<=a₀.size)(hok:ok<=n)(hB:SB kd a₀ b lo pd st)(hs:SIn κ (arrOf st) lo ok)
  (h:∀ st',SB kd a₀ b lo pd st'->SIn κ (arrOf st') lo n->Q true st'):wpS (model prog w) A E s (binarySort' lo n ok) Q st:=by
 rw[binarySort'_eq]
 refine wpS_bind (wpS_mono (wpS_forRange (I:=fun k c st'=>c=(none,())/\SB kd a₀ b lo pd st'/\SIn κ (arrOf st') lo (min k n)) (Q:=fun c st'=>c=(none,())/\SB kd a₀ b lo pd st'/\SIn κ (arrOf st') lo n) ?step ?fin ?init) ?post)
 case post =>
  rintro c st' ⟨rfl,g1,g2⟩
  exact wpS_pure (h st' g1 g2)
 case init =>
  refine⟨rfl,hB,fun i j hij hj=>?_⟩
  have j1:=zE hj (zCX _ _)
  by_cases h1:ok=0
  ·rw[h1]at j1
   rw[zCQ hij (zC (zBL j1) (zAW i))];exact KeyOrd.kle_refl _
  ·rw[Nat.max_eq_left (zBQ h1)]at j1
   exact hs i j hij j1
 case fin =>
  rintro c st' ⟨g0,g1,g2⟩
  refine⟨g0,g1,?_⟩
  rwa [Nat.min_eq_right (Nat.le_max_right _ _)]at g2
 case step =>
  rintro k c st' hak hkn ⟨rfl,g1,g2⟩
  rw[zCR (zAA hkn)]at g2
  have hk:lo+k<a₀.size:=zE (zAM hkn lo) hn
  refine wpS_bind (wpS_mono (wpS_forRange (I:=fun x c st''=>st''=st'/\∃ l r,c=(none,l,r)/\l<=r/\r<=k/\r-l<=k-x/\(∀ i,i<l->κ.kle (KK κ (arrOf st') (lo+i)) (KK κ (arrOf st') (lo+k))) /\
     (∀ i,r<=i->i<k->κ.klt (KK κ (arrOf st') (lo+k)) (KK κ (arrOf st') (lo+i))))
   (Q:=fun c st''=>st''=st'/\∃ l r,c=(none,l,r)/\l<=k/\(∀ i,i<l->κ.kle (KK κ (arrOf st') (lo+i)) (KK κ (arrOf st') (lo+k)))/\(∀ i,l<=i->i<k->κ.klt (KK κ (arrOf st') (lo+k)) (KK κ (arrOf st') (lo+i)))) ?istep ?ifin ?iinit) ?ipost)
  case iinit=>exact⟨rfl,0,k,rfl,zAW k,zJ k,zJ k,fun i hi=>absurd hi (Nat.not_lt_zero i),fun i h1 h2=>absurd h2 (Nat.not_lt_of_le h1)⟩
  case ifin =>
   rintro c st'' ⟨rfl,l,r,rfl,i1,i2,i3,i4,i5⟩
   have z:l=r:=zCQ i1 (Nat.le_of_sub_eq_zero (Nat.le_zero.mp (by rwa [Nat.zero_max,Nat.sub_self]at i3)))
   subst z
   exact⟨rfl,l,l,rfl,i2,i4,i5⟩
  case istep =>
   rintro x c st'' _ hxk ⟨rfl,l,r,rfl,i1,i2,i3,i4,i5⟩
   dsimp only
   by_cases y:l >= r
   ·rw[if_pos y]
    have z:l=r:=zCQ i1 y
    subst z
    exact wpS_pure ⟨rfl,l,l,rfl,i2,i4,i5⟩
   ·rw[if_neg y]
    have d1:l<=(l+r) / 2:=(Nat.le_div_iff_mul_le Nat.two_pos).mpr (by rw[Nat.mul_two];exact zK i1 l)
    have d2:(l+r) / 2<r:=Nat.div_lt_of_lt_mul (by rw[Nat.two_mul];exact Nat.add_lt_add_right (Nat.lt_of_not_le y) r)
    have d3:=zE d2 i2
    refine wpS_bind (ltAt_ok hO g1 h0 hk (Nat.lt_trans (zAM d3 lo) hk) ?_)
    cases t:κ.blt (KK κ (arrOf st'') (lo+k)) (KK κ (arrOf st'') (lo+(l+r) / 2))with
    |true =>
     refine wpS_pure ⟨rfl,l,(l+r) / 2,rfl,d1,zAA d3,zBI (zE (Nat.sub_lt_sub_right d1 d2) i3),i4,fun i h1 h2=>?_⟩
     exact KeyOrd.klt_of_klt_of_kle t (g2 _ _ h1 h2)
    |false =>
     refine wpS_pure ⟨rfl,(l+r) / 2+1,r,rfl,d2,i2,zC (Nat.sub_le_sub_right (Nat.sub_le_sub_left d1 r) 1) (Nat.sub_le_sub_right i3 1),fun i h1=>?_,i5⟩
     exact KeyOrd.kle_trans (g2 i ((l+r) / 2) (zBL h1) d3) (show κ.kle _ _ from t)
  case ipost =>
   rintro c st'' ⟨rfl,l,r,rfl,i2,i4,i5⟩
   show wpS _ _ _ _ (do moveDown' (lo+k) (lo+l);pure (ForInStep.yield (none,()))) _ _
   rw[moveDown'_eq]
   have hks:lo+k <(arrOf st'').size:=by rw[g1.size];exact hk
   refine wpS_bind (wpS_modify (wpS_pure ⟨rfl,g1.arr (bubble_perm _ _ _) fun m hm=>?_,?_⟩))
   ·rw[getElem?_bubble hks _ (zBA _ _),if_neg (by omega),if_neg (by omega)]
   rw[zCR hkn]
   intro i j hij hj
   show κ.kle (KK κ (bubble (arrOf st'') (lo+k) (lo+k-(lo+l))) (lo+i)) (KK κ (bubble (arrOf st'') (lo+k) (lo+k-(lo+l))) (lo+j))
   rw[KK_bubble hks (zBA _ _),KK_bubble hks (zBA _ _),Nat.sub_sub_self (zK i2 lo)]
   have sh:∀ m,lo+l<lo+m->lo+m-1=lo+(m-1):=fun m hm=>zBJ (zBW (Nat.lt_of_add_lt_add_left hm)) lo
   repeat' split
   all_goals first
    |(exfalso;omega)
    |exact KeyOrd.kle_refl _
    |exact i4 _ (by omega)
    |(rw[sh _ (by omega)];exact KeyOrd.kle_of_klt (i5 _ (by omega) (by omega)))
    |exact KeyOrd.kle_of_klt (i5 _ (by omega) (by omega))
    |exact g2 _ _ (by omega) (by omega)
    |(rw[sh _ (by omega),sh _ (by omega)];exact g2 _ _ (by omega) (by omega))
    |(rw[sh _ (by omega)];exact g2 _ _ (by omega) (by omega))
end
open PySem PyProof.Rows
noncomputable def gallopP:Bool->Keyed->Array Keyed->Nat->Nat->Nat->StateT SortSt Sem (Option Nat):=sortPriv% PySem.Builtin.gallop
noncomputable def bey(left:Bool)(key:Keyed)(arr:Array Keyed)(base i:Nat):StateT SortSt Sem (Option Bool):=do
 let x <- elem' arr (base+i)
 if left then lt' x key else return (<- lt' key x).map (!·)
noncomputable def gUp(left:Bool)(key:Keyed)(arr:Array Keyed)(base n hint maxofs:Nat):StateT SortSt Sem (Option (Option Nat)×Nat×Nat) :=
 forIn [0:n] ((none,0,1):Option (Option Nat)×Nat×Nat) fun _ c=>do
  if c.2.2 >= maxofs then pure (.done (none,c.2.1,c.2.2))else do
   let x <- bey left key arr base (hint+c.2.2)
   match x with
   |some more=>if(!more)=true then pure (.done (none,c.2.1,c.2.2))else pure (.yield (none,c.2.2,2 * c.2.2+1))
   | _=>pure (.done (some none,c.2.1,c.2.2))
noncomputable def gDn(left:Bool)(key:Keyed)(arr:Array Keyed)(base n hint maxofs:Nat):StateT SortSt Sem (Option (Option Nat)×Nat×Nat) :=
 forIn [0:n] ((none,0,1):Option (Option Nat)×Nat×Nat) fun _ c=>do
  if c.2.2 >= maxofs then pure (.done (none,c.2.1,c.2.2))else do
   let x <- bey left key arr base (hint-c.2.2)
   match x with
   |some found=>if found=true then pure (.done (none,c.2.1,c.2.2))else pure (.yield (none,c.2.2,2 * c.2.2+1))
   | _=>pure (.done (some none,c.2.1,c.2.2))
noncomputable def gBin(left:Bool)(key:Keyed)(arr:Array Keyed)(base n lo hi:Nat):StateT SortSt Sem (Option Nat):=do
 let c <- forIn [0:n] ((none,lo,hi):Option (Option Nat)×Nat×Nat) fun _ c=>do
  if c.2.1 >= c.2.2 then pure (.done (none,c.2.1,c.2.2))else do
   let x <- bey left key arr base (c.2.1+(c.2.2-c.2.1) / 2)
   match x with
   |some more=>if more=true then pure (.yield (none,c.2.1+(c.2.2-c.2.1) / 2+1,c.2.2))else pure (.yield (none,c.2.1,c.2.1+(c.2.2-c.2.1) / 2))
   | _=>pure (.done (some none,c.2.1,c.2.2))
 match c.1 with
 |some r=>pure r
 |none=>pure (some c.2.2)
theorem gallop_eq(left:Bool)(key:Keyed)(arr:Array Keyed)(base n hint:Nat):gallopP left key arr base n hint=(do
  let x <- bey left key arr base hint
  match x with
  |some right =>
   if right=true then do
    let c <- gUp left key arr base n hint (n-hint)
    match c.1 with
    |some r=>pure r
    |none=>gBin left key arr base n (hint+c.2.1+1) (hint+min c.2.2 (n-hint))
   else do
    let c <- gDn left key arr base n hint (hint+1)
    match c.1 with
    |some r=>pure r
    |none=>gBin left key arr base n (hint+1-min c.2.2 (hint+1)) (hint-c.2.1)
  | _=>pure none):=by
 refine bcong (m:=bey left key arr base hint) rfl fun x=>?_
 cases x with
 |none=>rfl
 |some right =>
  dsimp only
  split
  ·refine bcong rfl fun c=>?_
   obtain⟨r,l,o⟩:=c
   cases r with
   |some r=>rfl
   |none =>
    refine bcong rfl fun c=>?_
    obtain⟨r,l,o⟩:=c
    cases r <;> rfl
  ·refine bcong rfl fun c=>?_
   obtain⟨r,l,o⟩:=c
   cases r with
   |some r=>rfl
   |none =>
    refine bcong rfl fun c=>?_
    obtain⟨r,l,o⟩:=c
    cases r <;> rfl
section
variable{prog:Program}{w:World}{A:Around}{E:Value->Shared->Prop}{s:Shared}{kd:SortKind}{left:Bool}{key:Keyed}{arr:Array Keyed}{base n hint:Nat}{Pr:Nat->Bool}{st:SortSt}
noncomputable def BeyOk(prog:Program)(w:World)(A:Around)(s:Shared)(kd:SortKind)(left:Bool)(key:Keyed)(arr:Array Keyed)(base n:Nat)(Pr:Nat->Bool):Prop :=
 ∀ (i:Nat) (E:Value->Shared->Prop) (Q:Option Bool->SortSt->Prop) (st:SortSt),i<n->kindOf st=kd->Q (some (Pr i)) st->wpS (model prog w) A E s (bey left key arr base i) Q st
theorem gBin_ok{lo hi:Nat}{Q:Option Nat->SortSt->Prop}(hb:BeyOk prog w A s kd left key arr base n Pr)(hk:kindOf st=kd)(mono:∀ i j,i<=j->j<n->Pr j=true->Pr i=true)(h1:lo<=hi)(h2:hi<=n)
  (hl:∀ i,i<lo->Pr i=true) (hh:∀ i,hi<=i->i<n->Pr i=false) (h:∀ r,r<=n->(∀ i,i<r->Pr i=true)->(∀ i,r<=i->i<n->Pr i=false)->Q (some r) st) :
  wpS (model prog w) A E s (gBin left key arr base n lo hi) Q st:=by
 unfold gBin
 refine wpS_bind (wpS_mono (wpS_forRange (I:=fun x c st'=>st'=st/\∃ l r,c=(none,l,r)/\l<=r/\r<=n/\r-l<=n-x/\(∀ i,i<l->Pr i=true)/\(∀ i,r<=i->i<n->Pr i=false))
  (Q:=fun c st'=>st'=st/\∃ l r,c=(none,l,r)/\r<=n/\(∀ i,i<r->Pr i=true)/\(∀ i,r<=i->i<n->Pr i=false)) ?step ?fin ⟨rfl,lo,hi,rfl,h1,h2,by exact zci h1 h2,hl,hh⟩) ?post)
 case post =>
  rintro c st' ⟨rfl,l,r,rfl,r1,r2,r3⟩
  exact wpS_pure (h r r1 r2 r3)
 case fin =>
  rintro c st' ⟨rfl,l,r,rfl,r1,r2,r3,r4,r5⟩
  have e:l=r:=by exact zcq r1 r3
  subst e
  exact⟨rfl,l,l,rfl,r2,r4,r5⟩
 case step =>
  rintro x c st' _ hx ⟨rfl,l,r,rfl,r1,r2,r3,r4,r5⟩
  dsimp only
  by_cases y:l >= r
  ·rw[if_pos y]
   have e:l=r:=by exact zie r1 y
   subst e
   exact wpS_pure ⟨rfl,l,l,rfl,r2,r4,r5⟩
  ·rw[if_neg y]
   refine wpS_bind (hb _ _ _ _ (by exact zba r2 y) hk ?_)
   cases t:Pr (l+(r-l) / 2)with
   |true=>exact wpS_pure ⟨rfl,_,_,rfl,by exact zct y,by exact r2,by exact zaf hx r3 y,fun i hi=>mono i _ (by exact zi6 hi) (by exact zba r2 y) t,r5⟩
   |false =>
    refine wpS_pure ⟨rfl,_,_,rfl,by exact zQ l ((r-l) / 2),by exact zco r2 y,by exact zaw hx r3 y,r4,fun i i1 i2=>?_⟩
    cases u:Pr i with
    |false=>rfl
    |true=>rw[mono _ i i1 i2 u]at t;cases t
theorem gallop_ok{Q:Option Nat->SortSt->Prop}(hb:BeyOk prog w A s kd left key arr base n Pr)(hk:kindOf st=kd)(mono:∀ i j,i<=j->j<n->Pr j=true->Pr i=true)(hh:hint<n)
  (h:∀ r,r<=n->(∀ i,i<r->Pr i=true)->(∀ i,r<=i->i<n->Pr i=false)->Q (some r) st):wpS (model prog w) A E s (gallopP left key arr base n hint) Q st:=by
 have anti:∀ i j,i<=j->j<n->Pr i=false->Pr j=false:=fun i j a b c=>by
  cases u:Pr j with
  |false=>rfl
  |true=>rw[mono i j a b u]at c;cases c
 rw[gallop_eq]
 refine wpS_bind (hb _ _ _ _ hh hk ?_)
 cases t:Pr hint with
 |true =>
  dsimp only
  rw[if_pos rfl]
  unfold gUp
  refine wpS_bind (wpS_mono (wpS_forRange (I:=fun x c st'=>st'=st/\∃ l o,c=(none,l,o)/\l<o/\x<o/\l<n-hint/\Pr (hint+l)=true)
   (Q:=fun c st'=>st'=st/\∃ l o,c=(none,l,o)/\l<o/\l<n-hint/\Pr (hint+l)=true/\(o >= n-hint\/(o<n-hint/\Pr (hint+o)=false))) ?step ?fin ⟨rfl,0,1,rfl,zCB,zCB,zDE hh,t⟩) ?post)
  case post =>
   rintro c st' ⟨rfl,l,o,rfl,c1,c2,c3,c4⟩
   dsimp only
   refine gBin_ok hb hk mono (zK (Nat.le_min.mpr ⟨c1,c2⟩) hint) (zC (zK (zCH _ _) hint) (zAB (zAG (zAA hh)))) (fun i hi=>mono i _ (zBL hi) (zBB c2) c3) (fun i i1 i2=>?_) h
   rcases c4 with c4 |⟨c4,c5⟩
   ·omega
   ·exact anti _ i (by rwa [zCR (zAA c4)]at i1) i2 c5
  case fin =>
   rintro c st' ⟨rfl,l,o,rfl,c1,c2,c3,c4⟩
   exact⟨rfl,l,o,rfl,c1,c3,c4,.inl (zC (zBA n hint) (zC (Nat.le_max_right 0 n) (zAA c2)))⟩
  case step =>
   rintro x c st' _ hx ⟨rfl,l,o,rfl,c1,c2,c3,c4⟩
   dsimp only
   by_cases y:o >= n-hint
   ·rw[if_pos y]
    exact wpS_pure ⟨rfl,l,o,rfl,c1,c3,c4,.inl y⟩
   ·rw[if_neg y]
    refine wpS_bind (hb _ _ _ _ (zBB (Nat.lt_of_not_le y)) hk ?_)
    cases u:Pr (hint+o)with
    |true=>exact wpS_pure ⟨rfl,o,_,rfl,Nat.lt_succ_of_le (Nat.le_mul_of_pos_left o Nat.two_pos),Nat.succ_lt_succ (zE c2 (Nat.le_mul_of_pos_left o Nat.two_pos)),Nat.lt_of_not_le y,u⟩
    |false=>exact wpS_pure ⟨rfl,l,o,rfl,c1,c3,c4,.inr ⟨Nat.lt_of_not_le y,u⟩⟩
 |false =>
  dsimp only
  rw[if_neg zW]
  unfold gDn
  refine wpS_bind (wpS_mono (wpS_forRange (I:=fun x c st'=>st'=st/\∃ l o,c=(none,l,o)/\l<o/\x<o/\l<=hint/\Pr (hint-l)=false)
   (Q:=fun c st'=>st'=st/\∃ l o,c=(none,l,o)/\l<o/\l<=hint/\Pr (hint-l)=false/\(o >= hint+1\/(o<hint+1/\Pr (hint-o)=true))) ?dstep ?dfin ⟨rfl,0,1,rfl,zCB,zCB,zAW _,t⟩) ?dpost)
  case dpost =>
   rintro c st' ⟨rfl,l,o,rfl,c1,c2,c3,c4⟩
   dsimp only
   refine gBin_ok hb hk mono (zC (Nat.sub_le_sub_left (Nat.le_min.mpr ⟨c1,zDB c2⟩) (hint+1)) (zAB (Nat.add_sub_add_right hint 1 l))) (zC (zBA hint l) (zAA hh)) (fun i hi=>?_) (fun i i1 i2=>anti _ i i1 i2 c3) h
   rcases c4 with c4 |⟨c4,c5⟩
   ·omega
   ·exact mono i _ (by rw[zCR (zAA c4),Nat.succ_sub (zBL c4)]at hi;exact zBL hi) (zI (zBA hint o) hh) c5
  case dfin =>
   rintro c st' ⟨rfl,l,o,rfl,c1,c2,c3,c4⟩
   exact⟨rfl,l,o,rfl,c1,c3,c4,.inl (zC hh (zC (Nat.le_max_right 0 n) (zAA c2)))⟩
  case dstep =>
   rintro x c st' _ hx ⟨rfl,l,o,rfl,c1,c2,c3,c4⟩
   dsimp only
   by_cases y:o >= hint+1
   ·rw[if_pos y]
    exact wpS_pure ⟨rfl,l,o,rfl,c1,c3,c4,.inl y⟩
   ·rw[if_neg y]
    refine wpS_bind (hb _ _ _ _ (zI (zBA hint o) hh) hk ?_)
    cases u:Pr (hint-o)with
    |false=>exact wpS_pure ⟨rfl,o,_,rfl,Nat.lt_succ_of_le (Nat.le_mul_of_pos_left o Nat.two_pos),Nat.succ_lt_succ (zE c2 (Nat.le_mul_of_pos_left o Nat.two_pos)),zBL (Nat.lt_of_not_le y),u⟩
    |true=>exact wpS_pure ⟨rfl,l,o,rfl,c1,c3,c4,.inr ⟨Nat.lt_of_not_le y,u⟩⟩
end
noncomputable def mergeLoP:Array Keyed->Array Keyed->StateT SortSt Sem (Array Keyed):=sortPriv% PySem.Builtin.mergeLo
noncomputable def mergeHiP:Array Keyed->Array Keyed->StateT SortSt Sem (Array Keyed):=sortPriv% PySem.Builtin.mergeHi
open PySem PyProof.Rows
noncomputable def kk(κ:KeyKind)(p:Keyed):κ.α:=(κ.keyOf p.1).getD κ.dflt
noncomputable def kL(κ:KeyKind)(p q:Keyed):Prop:=κ.kle (kk κ p) (kk κ q)
theorem KK_of{κ:KeyKind}{xs:Array Keyed}{i:Nat}{p:Keyed}(h:xs[i]?=some p):KK κ xs i=kk κ p:=by unfold KK;rw[h];rfl
structure MI(κ:KeyKind)(T o A B:List Keyed):Prop where
 perm:(o++(A++B)).Perm T
 so:o.Pairwise (kL κ)
 cr:∀ x∈o,∀ y∈A++B,kL κ x y
 sA:A.Pairwise (kL κ)
 sB:B.Pairwise (kL κ)
section
variable{κ:KeyKind}{T o A A' B B' blk:List Keyed}
theorem MI.a(h:MI κ T o (blk++A') B)(hx:∀ x∈blk,∀ y∈B,kL κ x y):MI κ T (o++blk) A' B:=by
 obtain⟨s1,s2,s3⟩:=zAU.mp h.sA
 refine⟨?_,zAU.mpr ⟨h.so,s1,fun x hx y hy=>h.cr x hx y (by simp[hy])⟩,fun x hx' y hy=>?_,s2,h.sB⟩
 ·have e:=h.perm
  simp only[zAL]at e ⊢
  exact e
 ·rcases zAD.mp hx' with z | z
  ·exact h.cr x z y (by rcases zAD.mp hy with q | q <;> simp[q])
  ·rcases zAD.mp hy with q | q
   ·exact s3 x z y q
   ·exact hx x z y q
theorem MI.b(h:MI κ T o A (blk++B'))(hx:∀ x∈blk,∀ y∈A,kL κ x y):MI κ T (o++blk) A B':=by
 obtain⟨s1,s2,s3⟩:=zAU.mp h.sB
 refine⟨?_,zAU.mpr ⟨h.so,s1,fun x hx y hy=>h.cr x hx y (by simp[hy])⟩,fun x hx' y hy=>?_,h.sA,s2⟩
 ·refine List.Perm.trans ?_ h.perm
  rw[zAL]
  refine List.Perm.append_left o ?_
  rw[<- zAL,<- zAL]
  exact List.Perm.append_right B' List.perm_append_comm
 ·rcases zAD.mp hx' with z | z
  ·exact h.cr x z y (by rcases zAD.mp hy with q | q <;> simp[q])
  ·rcases zAD.mp hy with q | q
   ·exact hx x z y q
   ·exact s3 x z y q
noncomputable def Good(κ:KeyKind)(T:List Keyed)(R:Array Keyed):Prop:=R.toList.Perm T/\R.toList.Pairwise (kL κ)
theorem MI.endB{R:Array Keyed}(h:MI κ T o A [])(e:R.toList=o++A):Good κ T R:=by
 refine⟨by rw[e];simpa using h.perm,?_⟩
 rw[e]
 exact zAU.mpr ⟨h.so,h.sA,fun x hx y hy=>h.cr x hx y (by simp[hy])⟩
theorem MI.endA{R:Array Keyed}(h:MI κ T o [] B)(e:R.toList=o++B):Good κ T R:=by
 refine⟨by rw[e];simpa using h.perm,?_⟩
 rw[e]
 exact zAU.mpr ⟨h.so,h.sB,fun x hx y hy=>h.cr x hx y (by simp[hy])⟩
theorem MI.last{R:Array Keyed}{l:Keyed}(h:MI κ T o [l] B)(hl:∀ y∈B,kL κ y l)(e:R.toList=o++B++[l]):Good κ T R:=by
 have h2:MI κ T (o++B) [l] []:=MI.b (blk:=B) (B':=[]) (by simpa using h) fun x hx y hy=>by
  rw[zZ.mp hy]
  exact hl x hx
 exact h2.endB e
structure MH(κ:KeyKind)(T o A B:List Keyed):Prop where
 perm:(A++B++o).Perm T
 so:o.Pairwise (kL κ)
 cr:∀ x∈o,∀ y∈A++B,kL κ y x
 sA:A.Pairwise (kL κ)
 sB:B.Pairwise (kL κ)
theorem MH.a(h:MH κ T o (A'++blk) B)(hx:∀ x∈blk,∀ y∈B,kL κ y x):MH κ T (blk++o) A' B:=by
 obtain⟨s1,s2,s3⟩:=zAU.mp h.sA
 refine⟨?_,zAU.mpr ⟨s2,h.so,fun x hx y hy=>h.cr y hy x (by simp[hx])⟩,fun x hx' y hy=>?_,s1,h.sB⟩
 ·refine List.Perm.trans ?_ h.perm
  simp only[zAL]
  refine List.Perm.append_left A' ?_
  rw[<- zAL,<- zAL]
  exact List.Perm.append_right o List.perm_append_comm
 ·rcases zAD.mp hx' with z | z
  ·rcases zAD.mp hy with q | q
   ·exact s3 y q x z
   ·exact hx x z y q
  ·exact h.cr x z y (by rcases zAD.mp hy with q | q <;> simp[q])
theorem MH.b(h:MH κ T o A (B'++blk))(hx:∀ x∈blk,∀ y∈A,kL κ y x):MH κ T (blk++o) A B':=by
 obtain⟨s1,s2,s3⟩:=zAU.mp h.sB
 refine⟨?_,zAU.mpr ⟨s2,h.so,fun x hx y hy=>h.cr y hy x (by simp[hx])⟩,fun x hx' y hy=>?_,h.sA,s1⟩
 ·have e:=h.perm
  simp only[zAL]at e ⊢
  exact e
 ·rcases zAD.mp hx' with z | z
  ·rcases zAD.mp hy with q | q
   ·exact hx x z y q
   ·exact s3 y q x z
  ·exact h.cr x z y (by rcases zAD.mp hy with q | q <;> simp[q])
theorem MH.endA{R:Array Keyed}(h:MH κ T o [] B)(e:R.toList=B++o):Good κ T R:=by
 refine⟨by rw[e];simpa using h.perm,?_⟩
 rw[e]
 exact zAU.mpr ⟨h.sB,h.so,fun x hx y hy=>h.cr y hy x (by simp[hx])⟩
theorem MH.endB{R:Array Keyed}(h:MH κ T o A [])(e:R.toList=A++o):Good κ T R:=by
 refine⟨by rw[e];simpa using h.perm,?_⟩
 rw[e]
 exact zAU.mpr ⟨h.sA,h.so,fun x hx y hy=>h.cr y hy x (by simp[hx])⟩
theorem MH.first{R:Array Keyed}{l:Keyed}(h:MH κ T o A [l])(hl:∀ y∈A,kL κ l y)(e:R.toList=[l]++A++o):Good κ T R:=by
 have h2:MH κ T (A++o) [] [l]:=MH.a (blk:=A) (A':=[]) (by simpa using h) fun x hx y hy=>by
  rw[zZ.mp hy]
  exact hl x hx
 exact h2.endA (by rw[e,zAL])
end
theorem drop_at{xs:Array Keyed}{i:Nat}{p:Keyed}(h:xs[i]?=some p):xs.toList.drop i=[p]++xs.toList.drop (i+1):=by
 have hi:i<xs.toList.length:=by
  have:=(Array.getElem?_eq_some_iff.mp h).1
  simpa using this
 rw[List.drop_eq_getElem_cons hi]
 have e:xs.toList[i]=p:=by
  have:=(Array.getElem?_eq_some_iff.mp h).2
  simpa using this
 rw[e];rfl
theorem take_at{xs:Array Keyed}{i:Nat}{p:Keyed}(h:xs[i]?=some p):xs.toList.take (i+1)=xs.toList.take i++[p]:=by
 rw[List.take_add_one]
 have e:xs.toList[i]?=some p:=by rw[<- h];simp
 rw[e];rfl
theorem mem_drop{xs:Array Keyed}{i:Nat}{y:Keyed}(h:y∈xs.toList.drop i):∃ j,i<=j/\j<xs.size/\xs[j]?=some y:=by
 obtain⟨j,hj,e⟩:=zBG h
 rw[zCT]at hj
 refine⟨i+j,by exact zQ i j,?_,?_⟩
 ·have:xs.toList.length=xs.size:=by simp
  omega
 ·rw[List.getElem_drop]at e
  have:xs.toList[i+j]?=some y:=by rw[<- e];exact zF (by exact zbn hj)
  rw[<- this];simp
theorem mem_take{xs:Array Keyed}{i:Nat}{y:Keyed}(h:y∈xs.toList.take i):∃ j,j<i/\j<xs.size/\xs[j]?=some y:=by
 obtain⟨j,hj,e⟩:=zBG h
 rw[zBF]at hj
 have hl:xs.toList.length=xs.size:=by simp
 refine⟨j,by exact zce hj hl,by exact zcs hj hl,?_⟩
 rw[List.getElem_take]at e
 have:xs.toList[j]?=some y:=by rw[<- e];exact zF (by exact zcm hj hl)
 rw[<- this];simp
theorem get_of_lt{xs:Array Keyed}{i:Nat}(h:i<xs.size):∃ p,xs[i]?=some p:=⟨xs[i],getElem?_pos _ i h⟩
structure Sm(st st':SortSt):Prop where
 k:kindOf st'=kindOf st
 a:arrOf st'=arrOf st
 p:pendingOf st'=pendingOf st
 f:failedOf st'=failedOf st
theorem Sm.refl(st:SortSt):Sm st st:=⟨rfl,rfl,rfl,rfl⟩
theorem Sm.min{st st':SortSt}(h:Sm st st')(g:Nat):Sm st (SortSt.mk' (kindOf st') (arrOf st') (pendingOf st') g (failedOf st')):=⟨h.k,h.a,h.p,h.f⟩
section
variable{prog:Program}{w:World}{A:Around}{E:Value->Shared->Prop}{s:Shared}{κ:KeyKind}{kd:SortKind}{st:SortSt}
theorem lt_ok{x y:Keyed}{Q:Option Bool->SortSt->Prop}(hO:LtOk κ kd prog w A s)(hk:kindOf st=kd)(hx:∃ a,κ.keyOf x.1=some a)(hy:∃ a,κ.keyOf y.1=some a)(h:Q (some (κ.blt (kk κ x) (kk κ y))) st) :
  wpS (model prog w) A E s (lt' x y) Q st:=by
 obtain⟨a,ha⟩:=hx
 obtain⟨c,hc⟩:=hy
 refine hO E x y a c Q st hk ha hc ?_
 have e1:kk κ x=a:=by unfold kk;rw[ha];rfl
 have e2:kk κ y=c:=by unfold kk;rw[hc];rfl
 rwa [e1,e2]at h
noncomputable def Keyd(κ:KeyKind)(xs:Array Keyed):Prop:=∀ (i:Nat) (p:Keyed),xs[i]?=some p->∃ a,κ.keyOf p.1=some a
theorem bey_left{key:Keyed}{arr:Array Keyed}{base n:Nat}(hO:LtOk κ kd prog w A s)(hk:∃ a,κ.keyOf key.1=some a)(ha:Keyd κ arr)(hn:base+n<=arr.size) :
  BeyOk prog w A s kd true key arr base n fun i=>κ.blt (KK κ arr (base+i)) (kk κ key):=by
 intro i E Q st hi hs h
 obtain⟨p,hp⟩:=get_of_lt (xs:=arr) (i:=base+i) (by exact zao hn hi)
 unfold bey
 refine wpS_bind (elem_ok hp ?_)
 rw[if_pos rfl]
 refine lt_ok hO hs (ha _ _ hp) hk ?_
 dsimp only at h
 rwa [KK_of hp]at h
theorem bey_right{key:Keyed}{arr:Array Keyed}{base n:Nat}(hO:LtOk κ kd prog w A s)(hk:∃ a,κ.keyOf key.1=some a)(ha:Keyd κ arr)(hn:base+n<=arr.size) :
  BeyOk prog w A s kd false key arr base n fun i=>!(κ.blt (kk κ key) (KK κ arr (base+i))):=by
 intro i E Q st hi hs h
 obtain⟨p,hp⟩:=get_of_lt (xs:=arr) (i:=base+i) (by exact zao hn hi)
 unfold bey
 refine wpS_bind (elem_ok hp ?_)
 rw[if_neg zW]
 refine wpS_bind (lt_ok hO hs hk (ha _ _ hp) (wpS_pure ?_))
 dsimp only at h
 rwa [KK_of hp]at h
end
open PySem PyProof.Rows
theorem ext_drop(xs:Array Keyed)(i:Nat):(xs.extract i xs.size).toList=xs.toList.drop i:=by
 simp[Array.toList_extract,List.extract_eq_drop_take]
 rw[zCI]
 simp
theorem ext_blk(xs:Array Keyed)(i k:Nat):(xs.extract i (i+k)).toList=(xs.toList.drop i).take k:=by
 simp[Array.toList_extract,List.extract_eq_drop_take]
theorem ext_take(xs:Array Keyed)(k:Nat):(xs.extract 0 k).toList=xs.toList.take k:=by
 simp[Array.toList_extract,List.extract_eq_drop_take]
theorem blk_drop(xs:Array Keyed)(i k:Nat):xs.toList.drop i=(xs.toList.drop i).take k++xs.toList.drop (i+k):=by
 rw[<- List.drop_drop,zCA]
theorem drop_all(xs:Array Keyed):xs.toList.drop xs.size=[]:=by simp
section
variable{κ:KeyKind}{a b out:Array Keyed}{T:List Keyed}{ia ib k:Nat}{p:Keyed}
theorem fin_b(h:MI κ T out.toList (a.toList.drop ia) (b.toList.drop ib))(e:ib=b.size):Good κ T (out++a.extract ia a.size++b.extract ib b.size):=by
 subst e
 rw[drop_all]at h
 exact h.endB (by rw[zCL,zCL,ext_drop,ext_drop,drop_all,zCY])
theorem fin_a(h:MI κ T out.toList (a.toList.drop ia) (b.toList.drop ib))(e:ia=a.size):Good κ T (out++a.extract ia a.size++b.extract ib b.size):=by
 subst e
 rw[drop_all]at h
 exact h.endA (by rw[zCL,zCL,ext_drop,ext_drop,drop_all,zCY])
theorem fin_l(h:MI κ T out.toList (a.toList.drop ia) (b.toList.drop ib))(e:ia+1=a.size)(hl:∀ j,j<b.size->κ.kle (KK κ b j) (KK κ a (a.size-1))):Good κ T (out++b.extract ib b.size++a.extract ia a.size):=by
 obtain⟨l,hl'⟩:=get_of_lt (xs:=a) (i:=ia) (Nat.lt_of_succ_le (zAB e))
 have ed:a.toList.drop ia=[l]:=by rw[drop_at hl',e,drop_all];rfl
 rw[ed]at h
 refine h.last (fun y hy=>?_) (by rw[zCL,zCL,ext_drop,ext_drop,ed])
 obtain⟨j,_,j2,j3⟩:=mem_drop hy
 have q:=hl j j2
 rw[show a.size-1=ia by rw[<- e];rfl,KK_of j3,KK_of hl']at q
 exact q
theorem mv_b(h:MI κ T out.toList (a.toList.drop ia) (b.toList.drop ib))(hp:b[ib]?=some p)(hx:∀ i,ia<=i->i<a.size->κ.kle (KK κ b ib) (KK κ a i)):MI κ T (out.push p).toList (a.toList.drop ia) (b.toList.drop (ib+1)):=by
 rw[drop_at hp]at h
 rw[Array.toList_push]
 refine h.b fun x hx' y hy=>?_
 rw[zZ.mp hx']
 obtain⟨j,j1,j2,j3⟩:=mem_drop hy
 have q:=hx j j1 j2
 rw[KK_of hp,KK_of j3]at q
 exact q
theorem mv_a(h:MI κ T out.toList (a.toList.drop ia) (b.toList.drop ib))(hp:a[ia]?=some p)(hx:∀ j,ib<=j->j<b.size->κ.kle (KK κ a ia) (KK κ b j)):MI κ T (out.push p).toList (a.toList.drop (ia+1)) (b.toList.drop ib):=by
 rw[drop_at hp]at h
 rw[Array.toList_push]
 refine h.a fun x hx' y hy=>?_
 rw[zZ.mp hx']
 obtain⟨j,j1,j2,j3⟩:=mem_drop hy
 have q:=hx j j1 j2
 rw[KK_of hp,KK_of j3]at q
 exact q
theorem mem_blk{xs:Array Keyed}{i k:Nat}{y:Keyed}(h:y∈(xs.toList.drop i).take k):∃ j,i<=j/\j<i+k/\j<xs.size/\xs[j]?=some y:=by
 obtain⟨j,hj,e⟩:=zBG h
 rw[zBF,zCT]at hj
 have hl:xs.toList.length=xs.size:=by simp
 refine⟨i+j,by exact zQ i j,by exact zcl hj,by exact zbd hj hl,?_⟩
 rw[List.getElem_take,List.getElem_drop]at e
 have:xs.toList[i+j]?=some y:=by rw[<- e];exact zF (by exact zau hj hl)
 rw[<- this];simp
theorem blk_a(h:MI κ T out.toList (a.toList.drop ia) (b.toList.drop ib))(hx:∀ i,ia<=i->i<ia+k->i<a.size->∀ j,ib<=j->j<b.size->κ.kle (KK κ a i) (KK κ b j)) :
  MI κ T (out++a.extract ia (ia+k)).toList (a.toList.drop (ia+k)) (b.toList.drop ib):=by
 rw[blk_drop a ia k]at h
 rw[zCL,ext_blk]
 refine h.a fun x hx' y hy=>?_
 obtain⟨i,i1,i2,i3,i4⟩:=mem_blk hx'
 obtain⟨j,j1,j2,j3⟩:=mem_drop hy
 have q:=hx i i1 i2 i3 j j1 j2
 rw[KK_of i4,KK_of j3]at q
 exact q
theorem blk_b(h:MI κ T out.toList (a.toList.drop ia) (b.toList.drop ib))(hx:∀ j,ib<=j->j<ib+k->j<b.size->∀ i,ia<=i->i<a.size->κ.kle (KK κ b j) (KK κ a i)) :
  MI κ T (out++b.extract ib (ib+k)).toList (a.toList.drop ia) (b.toList.drop (ib+k)):=by
 rw[blk_drop b ib k]at h
 rw[zCL,ext_blk]
 refine h.b fun x hx' y hy=>?_
 obtain⟨i,i1,i2,i3,i4⟩:=mem_blk hx'
 obtain⟨j,j1,j2,j3⟩:=mem_drop hy
 have q:=hx i i1 i2 i3 j j1 j2
 rw[KK_of i4,KK_of j3]at q
 exact q
end
theorem wpS_if{M:Model}{A:Around}{E:Value->Shared->Prop}{s:Shared}{σ α:Type}{c:Prop}[Decidable c]{x y:StateT σ Sem α}{Q:α->σ->Prop}{st:σ}(h1:c->wpS M A E s x Q st)(h2:¬ c->wpS M A E s y Q st):wpS M A E s (if c then x else y) Q st:=by
 by_cases h:c
 ·rw[if_pos h];exact h1 h
 ·rw[if_neg h];exact h2 h
theorem pw_of{κ:KeyKind}{xs:Array Keyed}(h:∀ i j,i<=j->j<xs.size->κ.kle (KK κ xs i) (KK κ xs j)):xs.toList.Pairwise (kL κ):=by
 rw[zBX]
 intro i j hi hj hij
 have hl:xs.toList.length=xs.size:=by simp
 have q:=h i j (by exact zAA hij) (by omega)
 rw[KK_of (p:=xs.toList[i]) (by rw[<- zF hi];simp),KK_of (p:=xs.toList[j]) (by rw[<- zF hj];simp)]at q
 exact q
section
variable{prog:Program}{w:World}{A:Around}{E:Value->Shared->Prop}{s:Shared}{κ:KeyKind}{kd:SortKind}{st:SortSt}
variable{a b:Array Keyed}
@[elab_as_elim] theorem el4{α0 α1 α2 α3 ε:Type}{P:α0->α1->α2->α3->Prop}{motive:Option ε×α0×α1×α2×α3->Prop}(c:Option ε×α0×α1×α2×α3)(h:∃ x0 x1 x2 x3,c=(none,x0,x1,x2,x3)/\P x0 x1 x2 x3)(k:∀ x0 x1 x2 x3,P x0 x1 x2 x3->motive (none,x0,x1,x2,x3)):motive c:=by
 obtain⟨x0,x1,x2,x3,rfl,p⟩:=h
 exact k x0 x1 x2 x3 p
@[elab_as_elim] theorem el5{α0 α1 α2 α3 α4 ε:Type}{P:α0->α1->α2->α3->α4->Prop}{motive:Option ε×α0×α1×α2×α3×α4->Prop}(c:Option ε×α0×α1×α2×α3×α4)(h:∃ x0 x1 x2 x3 x4,c=(none,x0,x1,x2,x3,x4)/\P x0 x1 x2 x3 x4)(k:∀ x0 x1 x2 x3 x4,P x0 x1 x2 x3 x4->motive (none,x0,x1,x2,x3,x4)):motive c:=by
 obtain⟨x0,x1,x2,x3,x4,rfl,p⟩:=h
 exact k x0 x1 x2 x3 x4 p
@[elab_as_elim] theorem eo5{α0 α1 α2 α3 α4 ε:Type}{P:α0->α1->α2->α3->α4->Prop}{G:ε->Prop}{motive:Option ε×α0×α1×α2×α3×α4->Prop}(c:Option ε×α0×α1×α2×α3×α4)(h:(∃ R r,c=(some R,r)/\G R)\/∃ x0 x1 x2 x3 x4,c=(none,x0,x1,x2,x3,x4)/\P x0 x1 x2 x3 x4)(k1:∀ R r,G R->motive (some R,r))(k:∀ x0 x1 x2 x3 x4,P x0 x1 x2 x3 x4->motive (none,x0,x1,x2,x3,x4)):motive c:=by
 obtain⟨R,r,rfl,g⟩ | h:=h
 ·exact k1 R r g
 ·exact el5 c h k
@[elab_as_elim] theorem el6{α0 α1 α2 α3 α4 α5 ε:Type}{P:α0->α1->α2->α3->α4->α5->Prop}{motive:Option ε×α0×α1×α2×α3×α4×α5->Prop}(c:Option ε×α0×α1×α2×α3×α4×α5)(h:∃ x0 x1 x2 x3 x4 x5,c=(none,x0,x1,x2,x3,x4,x5)/\P x0 x1 x2 x3 x4 x5)(k:∀ x0 x1 x2 x3 x4 x5,P x0 x1 x2 x3 x4 x5->motive (none,x0,x1,x2,x3,x4,x5)):motive c:=by
 obtain⟨x0,x1,x2,x3,x4,x5,rfl,p⟩:=h
 exact k x0 x1 x2 x3 x4 x5 p
@[elab_as_elim] theorem eo6{α0 α1 α2 α3 α4 α5 ε:Type}{P:α0->α1->α2->α3->α4->α5->Prop}{G:ε->Prop}{motive:Option ε×α0×α1×α2×α3×α4×α5->Prop}(c:Option ε×α0×α1×α2×α3×α4×α5)(h:(∃ R r,c=(some R,r)/\G R)\/∃ x0 x1 x2 x3 x4 x5,c=(none,x0,x1,x2,x3,x4,x5)/\P x0 x1 x2 x3 x4 x5)(k1:∀ R r,G R->motive (some R,r))(k:∀ x0 x1 x2 x3 x4 x5,P x0 x1 x2 x3 x4 x5->motive (none,x0,x1,x2,x3,x4,x5)):motive c:=by
 obtain⟨R,r,rfl,g⟩ | h:=h
 ·exact k1 R r g
 ·exact el6 c h k
structure Shd(P:Prop):Prop where
 out:P
theorem wpS_ifS{c:Prop}[Decidable c]{σ α:Type}{M:Model}{x y:StateT σ Sem α}{Q:α->σ->Prop}{t:σ}{P:Prop}(g:P)(h1:c->Shd P->wpS M A E s x Q t)(h2:¬ c->Shd P->wpS M A E s y Q t):wpS M A E s (if c then x else y) Q t:=by
 split
 ·exact h1 (by assumption) ⟨g⟩
 ·exact h2 (by assumption) ⟨g⟩
theorem upC{x m i l:Nat}(h:x+m<i+l):x+1<i+(l+1):=Nat.succ_lt_succ (zI (zQ x m) h)
theorem upD{x y m i l:Nat}(h:x+m<i+l):x+min (y+1) 1<i+(l+1):=by rw[Nat.min_eq_right (zAV 1 y)];exact upC h
theorem upE{x m i l:Nat}(h:x+m<i+l):x+1<i+1+l:=by rw[zCD];exact upC h
theorem upF{x y m i l:Nat}(h:x+m<i+l):x+min (y+1) 1<i+1+l:=by rw[zCD];exact upD h
theorem mergeLo_ok{Q:Array Keyed->SortSt->Prop}(hO:LtOk κ kd prog w A s)(hk:kindOf st=kd)(ka:Keyd κ a)(kb:Keyd κ b)(hA:∀ i j,i<=j->j<a.size->κ.kle (KK κ a i) (KK κ a j))(hB:∀ i j,i<=j->j<b.size->κ.kle (KK κ b i) (KK κ b j))
  (ha:0<a.size) (hb:0<b.size) (h1:κ.kle (KK κ b 0) (KK κ a 0)) (h2:κ.kle (KK κ b (b.size-1)) (KK κ a (a.size-1)))
  (h:∀ R st',Sm st st'->Good κ (a.toList++b.toList) R->Q R st'):wpS (model prog w) A E s (mergeLoP a b) Q st:=by
 obtain⟨b0,e0⟩:=get_of_lt hb
 generalize hT:a.toList++b.toList=T at h
 have hl:∀ j,j<b.size->κ.kle (KK κ b j) (KK κ a (a.size-1)):=fun j hj=>KeyOrd.kle_trans (hB j (b.size-1) (zBI hj) (zCU hb zCB)) h2
 have m0:MI κ T (#[]:Array Keyed).toList (a.toList.drop 0) (b.toList.drop 0):=⟨by rw[<- hT];simp,.nil,fun x hx=>by simp at hx,by simpa using pw_of hA,by simpa using pw_of hB⟩
 have m1:MI κ T (#[b0]:Array Keyed).toList (a.toList.drop 0) (b.toList.drop 1):=mv_b m0 e0 fun i _ hi=>KeyOrd.kle_trans h1 (hA 0 i (zAW i) hi)
 refine wpS_bind (wpS_lift (wpAny_rule ⟨rfl,wpS_bind (elem_ok e0 ?_)⟩))
 dsimp only
 by_cases y1:1=b.size
 ·rw[if_pos (by simpa using y1)]
  exact wpS_pure (h _ _ (Sm.refl _) (fin_b m1 y1))
 rw[if_neg (by simpa using y1)]
 by_cases y2:0+1=a.size
 ·rw[if_pos (by simpa using y2)]
  exact wpS_pure (h _ _ (Sm.refl _) (fin_l m1 y2 hl))
 rw[if_neg (by simpa using y2)]
 refine wpS_bind (wpS_get ?_)
 refine wpS_bind (wpS_mono (wpS_forRange (I:=fun x c st'=>Sm st st'/\∃ out ia ib mg,c=(none,out,ia,ib,mg)/\MI κ T out.toList (a.toList.drop ia) (b.toList.drop ib)/\ia+1<a.size/\ib<b.size/\x<ia+ib)
  (Q:=fun c st'=>Sm st st'/\∃ R r,c=(some R,r)/\Good κ T R) ?ostep ?ofin ⟨Sm.refl _,_,_,_,_,rfl,m1,zAN ha y2,zAN hb y1,zCB⟩) ?opost)
 case opost =>
  rintro c st' ⟨sm,R,r,rfl,g⟩
  exact wpS_pure (h R st' sm g)
 case ofin =>
  rintro c st' ⟨sm,out,ia,ib,mg,rfl,m,q1,q2,q3⟩
  exact absurd q3 (Nat.not_lt_of_le (zC (zCV (zAA (Nat.lt_of_succ_lt q1)) (zAA q2)) (Nat.le_max_right 0 _)))
 case ostep =>
  intro x c st1 _ hx hI
  have sm1:=hI.1
  refine el4 c hI.2 fun out ia ib mg hP=>?_
  have m:=hP.1
  have q1:=hP.2.1
  have q2:=hP.2.2.1
  have q3:=hP.2.2.2
  clear hI hP
  dsimp only
  refine wpS_bind (wpS_mono (wpS_forRange (I:=fun y c st'=>Sm st st'/\∃ out ia ib ac bc,c=(none,out,ia,ib,ac,bc)/\MI κ T out.toList (a.toList.drop ia) (b.toList.drop ib)/\ia+1<a.size/\ib<b.size/\x+min y 1<ia+ib)
   (Q:=fun c st'=>Sm st st'/\((∃ R r,c=(some R,r)/\Good κ T R)\/∃ out ia ib ac bc,c=(none,out,ia,ib,ac,bc)/\MI κ T out.toList (a.toList.drop ia) (b.toList.drop ib)/\ia+1<a.size/\ib<b.size/\x+1<ia+ib))
   ?istep ?ifin ⟨sm1,_,_,_,_,_,rfl,m,q1,q2,q3⟩) ?ipost)
  case ifin =>
   rintro c st' ⟨sm,out,ia,ib,ac,bc,rfl,m,q1,q2,q3⟩
   exact⟨sm,.inr ⟨out,ia,ib,ac,bc,rfl,m,q1,q2,by rwa [Nat.zero_max,Nat.min_eq_right (Nat.add_pos_left ha _)]at q3⟩⟩
  case istep =>
   intro y c st2 _ hy hI
   have sm:=hI.1
   refine el5 c hI.2 fun out ia ib ac bc hP=>?_
   have m:=hP.1
   have q1:=hP.2.1
   have q2:=hP.2.2.1
   have q3:=hP.2.2.2
   clear hI hP
   dsimp only
   obtain⟨pb,eb⟩:=get_of_lt q2
   obtain⟨pa,ea⟩:=get_of_lt (xs:=a) (i:=ia) (Nat.lt_of_succ_lt q1)
   refine wpS_bind (elem_ok eb (wpS_bind (elem_ok ea (wpS_bind (lt_ok hO (sm.k.trans hk) (kb _ _ eb) (ka _ _ ea) ?_)))))
   cases t:κ.blt (kk κ pb) (kk κ pa)with
   |true =>
    dsimp only
    rw[if_pos rfl]
    have tk:κ.kle (KK κ b ib) (KK κ a ia):=by rw[KK_of eb,KK_of ea];exact KeyOrd.kle_of_klt t
    have m':=mv_b m eb fun i i1 i2=>KeyOrd.kle_trans tk (hA ia i i1 i2)
    refine wpS_bind (elem_ok eb ?_)
    by_cases z:ib+1=b.size
    ·rw[if_pos (by simpa using z)]
     exact wpS_pure ⟨sm,.inl ⟨_,_,rfl,fin_b m' z⟩⟩
    ·rw[if_neg (by simpa using z)]
     split
     ·exact wpS_pure ⟨sm,.inr ⟨_,_,_,_,_,rfl,m',q1,zAN q2 z,upC q3⟩⟩
     ·exact wpS_pure ⟨sm,_,_,_,_,_,rfl,m',q1,zAN q2 z,upD q3⟩
   |false =>
    dsimp only
    rw[if_neg zW]
    have tk:κ.kle (KK κ a ia) (KK κ b ib):=by rw[KK_of eb,KK_of ea];exact t
    have m':=mv_a m ea fun i i1 i2=>KeyOrd.kle_trans tk (hB ib i i1 i2)
    refine wpS_bind (elem_ok ea ?_)
    by_cases z:ia+1+1=a.size
    ·rw[if_pos (by simpa using z)]
     exact wpS_pure ⟨sm,.inl ⟨_,_,rfl,fin_l m' z hl⟩⟩
    ·rw[if_neg (by simpa using z)]
     split
     ·exact wpS_pure ⟨sm,.inr ⟨_,_,_,_,_,rfl,m',zAN q1 z,q2,upE q3⟩⟩
     ·exact wpS_pure ⟨sm,_,_,_,_,_,rfl,m',zAN q1 z,q2,upF q3⟩
  case ipost =>
   intro c st2 hI
   have sm2:=hI.1
   refine eo5 c hI.2 (fun R r g=>?_) fun out ia ib ac bc hP=>?_
   ·exact wpS_pure ⟨sm2,R,_,rfl,g⟩
   have m:=hP.1
   have q1:=hP.2.1
   have q2:=hP.2.2.1
   have q3:=hP.2.2.2
   clear hI hP
   dsimp only
   refine wpS_bind (wpS_lift (wpAny_rule ⟨rfl,?_⟩))
   refine wpS_bind (wpS_mono (wpS_forRange (I:=fun y c st'=>Sm st st'/\∃ out ia ib mg ac bc,c=(none,out,ia,ib,mg,ac,bc)/\MI κ T out.toList (a.toList.drop ia) (b.toList.drop ib)/\ia+1<a.size/\ib<b.size/\x+1<ia+ib)
    (Q:=fun c st'=>Sm st st'/\((∃ R r,c=(some R,r)/\Good κ T R)\/∃ out ia ib mg ac bc,c=(none,out,ia,ib,mg,ac,bc)/\MI κ T out.toList (a.toList.drop ia) (b.toList.drop ib)/\ia+1<a.size/\ib<b.size/\x+1<ia+ib))
    ?gstep ?gfin ⟨sm2,_,_,_,_,_,_,rfl,m,q1,q2,q3⟩) ?gpost)
   case gfin =>
    exact fun c st' hI=>⟨hI.1,.inr hI.2⟩
   case gpost =>
    intro c st3 hI
    have sm3:=hI.1
    refine eo6 c hI.2 (fun R r g=>?_) fun out ia ib mg ac bc hP=>?_
    ·exact wpS_pure ⟨sm3,R,_,rfl,g⟩
    dsimp only
    exact wpS_bind (wpS_modify (wpS_pure ⟨sm3.min _,_,_,_,_,rfl,hP⟩))
   case gstep =>
    intro y c st3 _ hy hI
    have sm:=hI.1
    refine el6 c hI.2 fun out ia ib mg ac bc hP=>?_
    have m:=hP.1
    have q1:=hP.2.1
    have q2:=hP.2.2.1
    have q3:=hP.2.2.2
    clear hI hP
    dsimp only
    obtain⟨pb,eb⟩:=get_of_lt q2
    have qa:=Nat.lt_of_succ_lt q1
    refine' wpS_ifS (P:=_) ?A0 (fun _ H=>?A1) fun _ H=>?A2
    case A1=>generalize mg-1=z;revert z;exact H.out
    case A2=>exact H.out _
    intro mg
    refine wpS_bind (wpS_modify ?_)
    refine wpS_bind (elem_ok eb (wpS_bind (gallop_ok (bey_right hO (kb _ _ eb) ka (base:=ia) (n:=a.size-ia) (zAB (zAG (zAA qa)))) ((sm.min _).k.trans hk) (fun i j hij hj t=>?_) (zDE qa) fun k k1 k2 k3=>?_)))
    ·have t1:κ.kle (KK κ a (ia+j)) (kk κ pb):=by simpa[KeyOrd.kle]using t
     have t2:=KeyOrd.kle_trans (hA (ia+i) (ia+j) (zK hij ia) (zBB hj)) t1
     simpa[KeyOrd.kle]using t2
    dsimp only
    have low:∀ i,ia<=i->i<ia+k->κ.kle (KK κ a i) (KK κ b ib):=fun i i1 i2=>by
     have q:=k2 (i-ia) (zCJ i1 i2)
     rw[zAG i1]at q
     rw[KK_of eb]
     simpa[KeyOrd.kle]using q
    have hi0:∀ i,ia+k<=i->i<a.size->κ.kle (KK κ b ib) (KK κ a i):=fun i i1 i2=>by
     have q:=k3 (i-ia) (Nat.le_sub_of_add_le' i1) (Nat.sub_lt_sub_right (Nat.le_of_add_right_le i1) i2)
     rw[zAG (Nat.le_of_add_right_le i1)]at q
     rw[KK_of eb]
     exact KeyOrd.kle_of_klt (show κ.blt _ _=true by simpa using q)
    refine' wpS_ifS (P:=_) ?B0 (fun kz H=>?B1) fun kz H=>?B2
    case B1 =>
     have mk:=blk_a (k:=k) m fun i i1 i2 _ j j1 j2=>KeyOrd.kle_trans (low i i1 i2) (hB ib j j1 j2)
     by_cases w1:ia+k+1=a.size
     ·rw[if_pos (by simpa using w1)]
      exact wpS_pure ⟨sm.min _,.inl ⟨_,_,rfl,fin_l mk w1 hl⟩⟩
     rw[if_neg (by simpa using w1)]
     by_cases w2:ia+k=a.size
     ·rw[if_pos (by simpa using w2)]
      exact wpS_pure ⟨sm.min _,.inl ⟨_,_,rfl,fin_a mk w2⟩⟩
     rw[if_neg (by simpa using w2)]
     have pr:x+1<ia+k+ib:=zE q3 (zBE (zQ ia k) ib)
     have p1:ia+k+1<a.size:=zAN (zAN (Nat.add_le_of_le_sub' (zAA qa) k1) w2) w1
     have hi1:=hi0
     revert pr p1 hi1 mk
     generalize out++a.extract ia (ia+k)=out1
     generalize ia+k=ia1
     revert out1 ia1
     exact H.out
    case B2 =>
     have k0:k=0:=Nat.eq_zero_of_not_pos kz
     exact H.out _ _ m q3 q1 (fun i i1 i2=>hi0 i (by rw[k0];exact i1) i2)
    clear low hi0 k1 k2 k3 m q3 q1
    intro out1 ia1 m1 pr p1 hi1
    refine wpS_bind (elem_ok eb ?_)
    have m2:=mv_b m1 eb hi1
    by_cases z:ib+1=b.size
    ·rw[if_pos (by simpa using z)]
     exact wpS_pure ⟨sm.min _,.inl ⟨_,_,rfl,fin_b m2 z⟩⟩
    rw[if_neg (by simpa using z)]
    obtain⟨pa,ea⟩:=get_of_lt (xs:=a) (i:=ia1) (Nat.lt_of_succ_lt p1)
    refine wpS_bind (elem_ok ea (wpS_bind (gallop_ok (bey_left hO (ka _ _ ea) kb (base:=ib+1) (n:=b.size-(ib+1)) (zAB (zAG q2))) ((sm.min _).k.trans hk) (fun i j hij hj t=>?_) (zDE (zAN q2 z)) fun k2 l1 l2 l3=>?_)))
    ·exact KeyOrd.klt_of_kle_of_klt (hB (ib+1+i) (ib+1+j) (zK hij _) (zBB hj)) t
    dsimp only
    have low2:∀ j,ib+1<=j->j<ib+1+k2->κ.kle (KK κ b j) (KK κ a ia1):=fun j j1 j2=>by
     have q:=l2 (j-(ib+1)) (zCJ j1 j2)
     rw[zAG j1]at q
     rw[KK_of ea]
     exact KeyOrd.kle_of_klt q
    have high2:∀ j,ib+1+k2<=j->j<b.size->κ.kle (KK κ a ia1) (KK κ b j):=fun j j1 j2=>by
     have q:=l3 (j-(ib+1)) (Nat.le_sub_of_add_le' j1) (Nat.sub_lt_sub_right (Nat.le_of_add_right_le j1) j2)
     rw[zAG (Nat.le_of_add_right_le j1)]at q
     rw[KK_of ea]
     exact q
    refine' wpS_ifS (P:=_) ?C0 (fun kz2 H=>?C1) fun kz2 H=>?C2
    case C1 =>
     have m3:=blk_b (k:=k2) m2 fun j j1 j2 _ i i1 i2=>KeyOrd.kle_trans (low2 j j1 j2) (hA ia1 i i1 i2)
     by_cases z2:ib+1+k2=b.size
     ·rw[if_pos (by simpa using z2)]
      exact wpS_pure ⟨sm.min _,.inl ⟨_,_,rfl,fin_b m3 z2⟩⟩
     rw[if_neg (by simpa using z2)]
     have e1:ib+1+k2<b.size:=zAN (Nat.add_le_of_le_sub' q2 l1) z2
     have e2:x+1<ia1+1+(ib+1+k2):=zE pr (zCV (zCN _) (zC (zCN ib) (zQ _ _)))
     have hi2:=high2
     revert e1 e2 hi2 m3
     generalize out1.push pb++b.extract (ib+1) (ib+1+k2)=out2
     generalize ib+1+k2=ib2
     generalize k2=bc
     revert out2 ib2 bc
     exact H.out
    case C2 =>
     have k0:k2=0:=Nat.eq_zero_of_not_pos kz2
     exact H.out _ _ _ m2 (zAN q2 z) (zE pr (zCV (zCN _) (zCN _))) (fun j j1 j2=>high2 j (by rw[k0];exact j1) j2)
    clear low2 high2 l1 l2 l3 m2 m1
    intro out2 ib2 bc m3 e1 e2 high2
    refine wpS_bind (elem_ok ea ?_)
    have m4:=mv_a m3 ea high2
    by_cases z3:ia1+1+1=a.size
    ·rw[if_pos (by simpa using z3)]
     exact wpS_pure ⟨sm.min _,.inl ⟨_,_,rfl,fin_l m4 z3 hl⟩⟩
    rw[if_neg (by simpa using z3)]
    have e3:ia1+1+1<a.size:=zAN p1 z3
    refine wpS_if (fun _=>?_) fun _=>?_
    ·exact wpS_pure ⟨sm.min _,.inr ⟨_,_,_,_,_,_,rfl,m4,e3,e1,e2⟩⟩
    ·exact wpS_pure ⟨sm.min _,_,_,_,_,_,_,rfl,m4,e3,e1,e2⟩
end
open PySem PyProof.Rows
section
variable{κ:KeyKind}{a b out:Array Keyed}{T:List Keyed}{na nb k:Nat}{p:Keyed}
theorem rev_out(xs ys out:Array Keyed):(xs++ys++out.reverse).toList=xs.toList++ys.toList++out.toList.reverse:=by simp
theorem hf_a(h:MH κ T out.toList.reverse (a.toList.take na) (b.toList.take nb))(e:na=0):Good κ T (a.extract 0 na++b.extract 0 nb++out.reverse):=by
 subst e
 rw[List.take_zero]at h
 exact h.endA (by rw[rev_out,ext_take,ext_take,List.take_zero,List.nil_append])
theorem hf_b(h:MH κ T out.toList.reverse (a.toList.take na) (b.toList.take nb))(e:nb=0):Good κ T (a.extract 0 na++b.extract 0 nb++out.reverse):=by
 subst e
 rw[List.take_zero]at h
 exact h.endB (by rw[rev_out,ext_take,ext_take,List.take_zero,zCY])
theorem hf_f(h:MH κ T out.toList.reverse (a.toList.take na) (b.toList.take nb))(e:nb=1)(hb:0<b.size)(hl:∀ i,i<a.size->κ.kle (KK κ b 0) (KK κ a i)):Good κ T (b.extract 0 nb++a.extract 0 na++out.reverse):=by
 subst e
 obtain⟨l,hl'⟩:=get_of_lt hb
 have ed:b.toList.take 1=[l]:=by rw[take_at hl'];rfl
 rw[ed]at h
 refine h.first (fun y hy=>?_) (by rw[rev_out,ext_take,ext_take,ed])
 obtain⟨j,_,j2,j3⟩:=mem_take hy
 have q:=hl j j2
 rw[KK_of j3,KK_of hl']at q
 exact q
theorem hm_a(h:MH κ T out.toList.reverse (a.toList.take (na+1)) (b.toList.take nb))(hp:a[na]?=some p)(hx:∀ j,j<nb->j<b.size->κ.kle (KK κ b j) (KK κ a na)):MH κ T (out.push p).toList.reverse (a.toList.take na) (b.toList.take nb):=by
 rw[take_at hp]at h
 have e:(out.push p).toList.reverse=[p]++out.toList.reverse:=by simp
 rw[e]
 refine h.a fun x hx' y hy=>?_
 rw[zZ.mp hx']
 obtain⟨j,j1,j2,j3⟩:=mem_take hy
 have q:=hx j j1 j2
 rw[KK_of hp,KK_of j3]at q
 exact q
theorem hm_b(h:MH κ T out.toList.reverse (a.toList.take na) (b.toList.take (nb+1)))(hp:b[nb]?=some p)(hx:∀ i,i<na->i<a.size->κ.kle (KK κ a i) (KK κ b nb)):MH κ T (out.push p).toList.reverse (a.toList.take na) (b.toList.take nb):=by
 rw[take_at hp]at h
 have e:(out.push p).toList.reverse=[p]++out.toList.reverse:=by simp
 rw[e]
 refine h.b fun x hx' y hy=>?_
 rw[zZ.mp hx']
 obtain⟨j,j1,j2,j3⟩:=mem_take hy
 have q:=hx j j1 j2
 rw[KK_of hp,KK_of j3]at q
 exact q
theorem take_blk(xs:Array Keyed){i n:Nat}(h:i<=n):xs.toList.take n=xs.toList.take i++(xs.toList.drop i).take (n-i):=by
 rw[<- List.take_add,Nat.add_sub_cancel' h]
theorem out_blk(out xs:Array Keyed){i n:Nat}(h:i<=n):(out++(xs.extract i n).reverse).toList.reverse=(xs.toList.drop i).take (n-i)++out.toList.reverse:=by
 have e:=ext_blk xs i (n-i)
 rw[Nat.add_sub_cancel' h]at e
 rw[<- e]
 simp
theorem hb_a{i:Nat}(hi:i<=na)(h:MH κ T out.toList.reverse (a.toList.take na) (b.toList.take nb))(hx:∀ m,i<=m->m<na->m<a.size->∀ j,j<nb->j<b.size->κ.kle (KK κ b j) (KK κ a m)) :
  MH κ T (out++(a.extract i na).reverse).toList.reverse (a.toList.take i) (b.toList.take nb):=by
 rw[take_blk a hi]at h
 rw[out_blk _ _ hi]
 refine h.a fun x hx' y hy=>?_
 obtain⟨m,i1,i2,i3,i4⟩:=mem_blk hx'
 obtain⟨j,j1,j2,j3⟩:=mem_take hy
 have q:=hx m i1 (by exact zas hi i2) i3 j j1 j2
 rw[KK_of i4,KK_of j3]at q
 exact q
theorem hb_b{i:Nat}(hi:i<=nb)(h:MH κ T out.toList.reverse (a.toList.take na) (b.toList.take nb))(hx:∀ m,i<=m->m<nb->m<b.size->∀ j,j<na->j<a.size->κ.kle (KK κ a j) (KK κ b m)) :
  MH κ T (out++(b.extract i nb).reverse).toList.reverse (a.toList.take na) (b.toList.take i):=by
 rw[take_blk b hi]at h
 rw[out_blk _ _ hi]
 refine h.b fun x hx' y hy=>?_
 obtain⟨m,i1,i2,i3,i4⟩:=mem_blk hx'
 obtain⟨j,j1,j2,j3⟩:=mem_take hy
 have q:=hx m i1 (by exact zas hi i2) i3 j j1 j2
 rw[KK_of i4,KK_of j3]at q
 exact q
end
section
variable{prog:Program}{w:World}{A:Around}{E:Value->Shared->Prop}{s:Shared}{κ:KeyKind}{kd:SortKind}{st:SortSt}
variable{a b:Array Keyed}
theorem upG{x m n l N:Nat}(h:x+m+(n+1)+l<N):x+1+n+l<N:=zI (zBE (by rw[zCD];exact zDB (zBE (zQ x m) n)) l) h
theorem upH{x y m n l N:Nat}(h:x+m+(n+1)+l<N):x+min (y+1) 1+n+l<N:=by rw[Nat.min_eq_right (zAV 1 y)];exact upG h
theorem upI{x m n l N:Nat}(h:x+m+n+(l+1)<N):x+1+n+l<N:=by rw[zCD (x+1)];exact upG (n:=l) (l:=n) (by rw[zCD (x+m)];exact h)
theorem upJ{x y m n l N:Nat}(h:x+m+n+(l+1)<N):x+min (y+1) 1+n+l<N:=by rw[Nat.min_eq_right (zAV 1 y)];exact upI h
theorem mergeHi_ok{Q:Array Keyed->SortSt->Prop}(hO:LtOk κ kd prog w A s)(hk:kindOf st=kd)(ka:Keyd κ a)(kb:Keyd κ b)(hA:∀ i j,i<=j->j<a.size->κ.kle (KK κ a i) (KK κ a j))(hB:∀ i j,i<=j->j<b.size->κ.kle (KK κ b i) (KK κ b j))
  (ha:0<a.size) (hb:0<b.size) (h1:κ.kle (KK κ b 0) (KK κ a 0)) (h2:κ.kle (KK κ b (b.size-1)) (KK κ a (a.size-1)))
  (h:∀ R st',Sm st st'->Good κ (a.toList++b.toList) R->Q R st'):wpS (model prog w) A E s (mergeHiP a b) Q st:=by
 obtain⟨al,el⟩:=get_of_lt (xs:=a) (i:=a.size-1) (zCU ha zCB)
 generalize hT:a.toList++b.toList=T at h
 have hf:∀ i,i<a.size->κ.kle (KK κ b 0) (KK κ a i):=fun i hi=>KeyOrd.kle_trans h1 (hA 0 i (zAW i) hi)
 have m0:MH κ T (#[]:Array Keyed).toList.reverse (a.toList.take (a.size-1+1)) (b.toList.take b.size):=by
  rw[zDA ha]
  rw[zCI (l:=a.toList) (by simp),zCI (l:=b.toList) (by simp)]
  exact⟨by rw[<- hT];simp,by simp,fun x hx=>by simp at hx,pw_of hA,pw_of hB⟩
 have m1:MH κ T (#[al]:Array Keyed).toList.reverse (a.toList.take (a.size-1)) (b.toList.take b.size):=hm_a m0 el fun j _ hj=>KeyOrd.kle_trans (hB j (b.size-1) (zBI hj) (zCU hb zCB)) h2
 refine wpS_bind (wpS_lift (wpAny_rule ⟨rfl,wpS_bind (elem_ok el ?_)⟩))
 dsimp only
 by_cases y1:a.size-1=0
 ·rw[if_pos (by simpa using y1)]
  exact wpS_pure (h _ _ (Sm.refl _) (hf_a m1 y1))
 rw[if_neg (by simpa using y1)]
 by_cases y2:b.size=1
 ·rw[if_pos (by simpa using y2)]
  exact wpS_pure (h _ _ (Sm.refl _) (hf_f m1 y2 hb hf))
 rw[if_neg (by simpa using y2)]
 refine wpS_bind (wpS_get ?_)
 refine wpS_bind (wpS_mono (wpS_forRange (I:=fun x c st'=>Sm st st'/\∃ na nb out mg,c=(none,na,nb,out,mg)/\MH κ T out.toList.reverse (a.toList.take na) (b.toList.take nb)/\0<na/\na<=a.size/\1<nb/\nb<=b.size/\x+na+nb<a.size+b.size)
  (Q:=fun c st'=>Sm st st'/\∃ R r,c=(some R,r)/\Good κ T R) ?ostep ?ofin ⟨Sm.refl _,_,_,_,_,rfl,m1,zBQ y1,zBA _ _,zAN hb (Ne.symm y2),zJ _,by rw[zBN];exact Nat.add_lt_add_right (zCU ha zCB) _⟩) ?opost)
 case opost =>
  rintro c st' ⟨sm,R,r,rfl,g⟩
  exact wpS_pure (h R st' sm g)
 case ofin =>
  rintro c st' ⟨sm,na,nb,out,mg,rfl,m,q1,q1',q2,q2',q3⟩
  exact absurd q3 (Nat.not_lt_of_le (zC (Nat.le_max_right 0 _) (zC (zQ _ na) (zQ _ nb))))
 case ostep =>
  intro x c st1 _ hx hI
  have sm1:=hI.1
  refine el4 c hI.2 fun na nb out mg hP=>?_
  have m:=hP.1
  have q1:=hP.2.1
  have q1':=hP.2.2.1
  have q2:=hP.2.2.2.1
  have q2':=hP.2.2.2.2.1
  have q3:=hP.2.2.2.2.2
  clear hI hP
  dsimp only
  refine wpS_bind (wpS_mono (wpS_forRange (I:=fun y c st'=>Sm st st'/\∃ na nb out ac bc,c=(none,na,nb,out,ac,bc)/\MH κ T out.toList.reverse (a.toList.take na) (b.toList.take nb)/\0<na/\na<=a.size/\1<nb/\nb<=b.size/\x+min y 1+na+nb<a.size+b.size)
   (Q:=fun c st'=>Sm st st'/\((∃ R r,c=(some R,r)/\Good κ T R)\/∃ na nb out ac bc,c=(none,na,nb,out,ac,bc)/\MH κ T out.toList.reverse (a.toList.take na) (b.toList.take nb)/\0<na/\na<=a.size/\1<nb/\nb<=b.size/\x+1+na+nb<a.size+b.size))
   ?istep ?ifin ⟨sm1,_,_,_,_,_,rfl,m,q1,q1',q2,q2',q3⟩) ?ipost)
  case ifin =>
   rintro c st' ⟨sm,na,nb,out,ac,bc,rfl,m,q1,q1',q2,q2',q3⟩
   exact⟨sm,.inr ⟨na,nb,out,ac,bc,rfl,m,q1,q1',q2,q2',by rwa [Nat.zero_max,Nat.min_eq_right (Nat.add_pos_left ha _)]at q3⟩⟩
  case istep =>
   intro y c st2 _ hy hI
   have sm:=hI.1
   refine el5 c hI.2 fun na nb out ac bc hP=>?_
   have m:=hP.1
   have q1:=hP.2.1
   have q1':=hP.2.2.1
   have q2:=hP.2.2.2.1
   have q2':=hP.2.2.2.2.1
   have q3:=hP.2.2.2.2.2
   clear hI hP
   dsimp only
   obtain⟨n,rfl⟩:∃ n,na=n+1:=⟨_,(zDA q1).symm⟩
   obtain⟨l,rfl⟩:∃ l,nb=l+1:=⟨_,(zDA (zAA q2)).symm⟩
   obtain⟨pb,eb⟩:=get_of_lt (xs:=b) (i:=l) q2'
   obtain⟨pa,ea⟩:=get_of_lt (xs:=a) (i:=n) q1'
   refine wpS_bind (elem_ok eb (wpS_bind (elem_ok ea (wpS_bind (lt_ok hO (sm.k.trans hk) (kb _ _ eb) (ka _ _ ea) ?_)))))
   cases t:κ.blt (kk κ pb) (kk κ pa)with
   |true =>
    dsimp only
    rw[if_pos rfl]
    have tk:κ.kle (KK κ b l) (KK κ a n):=by rw[KK_of eb,KK_of ea];exact KeyOrd.kle_of_klt t
    have m':=hm_a m ea fun j j1 j2=>KeyOrd.kle_trans (hB j l (zBL j1) q2') tk
    refine wpS_bind (elem_ok ea ?_)
    by_cases z:n=0
    ·rw[if_pos (by simpa using z)]
     exact wpS_pure ⟨sm,.inl ⟨_,_,rfl,hf_a m' z⟩⟩
    ·rw[if_neg (by simpa using z)]
     refine wpS_if (fun _=>?_) fun _=>?_
     ·exact wpS_pure ⟨sm,.inr ⟨_,_,_,_,_,rfl,m',zBQ z,zAA q1',q2,q2',upG q3⟩⟩
     ·exact wpS_pure ⟨sm,_,_,_,_,_,rfl,m',zBQ z,zAA q1',q2,q2',upH q3⟩
   |false =>
    dsimp only
    rw[if_neg zW]
    have tk:κ.kle (KK κ a n) (KK κ b l):=by rw[KK_of eb,KK_of ea];exact t
    have m':=hm_b m eb fun j j1 j2=>KeyOrd.kle_trans (hA j n (zBL j1) q1') tk
    refine wpS_bind (elem_ok eb ?_)
    by_cases z:l=1
    ·rw[if_pos (by simpa using z)]
     exact wpS_pure ⟨sm,.inl ⟨_,_,rfl,hf_f m' z hb hf⟩⟩
    ·rw[if_neg (by simpa using z)]
     refine wpS_if (fun _=>?_) fun _=>?_
     ·exact wpS_pure ⟨sm,.inr ⟨_,_,_,_,_,rfl,m',q1,q1',zAN (zAY q2) (Ne.symm z),zAA q2',upI q3⟩⟩
     ·exact wpS_pure ⟨sm,_,_,_,_,_,rfl,m',q1,q1',zAN (zAY q2) (Ne.symm z),zAA q2',upJ q3⟩
  case ipost =>
   intro c st2 hI
   have sm2:=hI.1
   refine eo5 c hI.2 (fun R r g=>?_) fun na nb out ac bc hP=>?_
   ·exact wpS_pure ⟨sm2,R,_,rfl,g⟩
   have m:=hP.1
   have q1:=hP.2.1
   have q1':=hP.2.2.1
   have q2:=hP.2.2.2.1
   have q2':=hP.2.2.2.2.1
   have q3:=hP.2.2.2.2.2
   clear hI hP
   dsimp only
   refine wpS_bind (wpS_lift (wpAny_rule ⟨rfl,?_⟩))
   refine wpS_bind (wpS_mono (wpS_forRange (I:=fun y c st'=>Sm st st'/\∃ na nb out mg ac bc,c=(none,na,nb,out,mg,ac,bc)/\MH κ T out.toList.reverse (a.toList.take na) (b.toList.take nb)/\0<na/\na<=a.size/\1<nb/\nb<=b.size/\x+1+na+nb<a.size+b.size)
    (Q:=fun c st'=>Sm st st'/\((∃ R r,c=(some R,r)/\Good κ T R)\/∃ na nb out mg ac bc,c=(none,na,nb,out,mg,ac,bc)/\MH κ T out.toList.reverse (a.toList.take na) (b.toList.take nb)/\0<na/\na<=a.size/\1<nb/\nb<=b.size/\x+1+na+nb<a.size+b.size))
    ?gstep ?gfin ⟨sm2,_,_,_,_,_,_,rfl,m,q1,q1',q2,q2',q3⟩) ?gpost)
   case gfin =>
    exact fun c st' hI=>⟨hI.1,.inr hI.2⟩
   case gpost =>
    intro c st3 hI
    have sm3:=hI.1
    refine eo6 c hI.2 (fun R r g=>?_) fun na nb out mg ac bc hP=>?_
    ·exact wpS_pure ⟨sm3,R,_,rfl,g⟩
    dsimp only
    have m:=hP.1
    have q1:=hP.2.1
    have q1':=hP.2.2.1
    have q2:=hP.2.2.2.1
    have q2':=hP.2.2.2.2.1
    have q3:=hP.2.2.2.2.2
    clear hI hP
    exact wpS_bind (wpS_modify (wpS_pure ⟨sm3.min _,_,_,_,_,rfl,m,q1,q1',q2,q2',q3⟩))
   case gstep =>
    intro y c st3 _ hy hI
    have sm:=hI.1
    refine el6 c hI.2 fun na nb out mg ac bc hP=>?_
    have m:=hP.1
    have q1:=hP.2.1
    have q1':=hP.2.2.1
    have q2:=hP.2.2.2.1
    have q2':=hP.2.2.2.2.1
    have q3:=hP.2.2.2.2.2
    clear hI hP
    dsimp only
    obtain⟨l,rfl⟩:∃ l,nb=l+1:=⟨_,(zDA (zAA q2)).symm⟩
    obtain⟨pb,eb⟩:=get_of_lt (xs:=b) (i:=l) q2'
    refine' wpS_ifS (P:=_) ?A0 (fun _ H=>?A1) fun _ H=>?A2
    case A1=>generalize mg-1=z;revert z;exact H.out
    case A2=>exact H.out _
    intro mg
    refine wpS_bind (wpS_modify ?_)
    refine wpS_bind (elem_ok eb (wpS_bind (gallop_ok (bey_right hO (kb _ _ eb) ka (base:=0) (n:=na) (by rw[zBN];exact q1')) ((sm.min _).k.trans hk) (fun i j hij hj t=>?_) (zCU q1 zCB) fun k k1 k2 k3=>?_)))
    ·have t1:κ.kle (KK κ a (0+j)) (kk κ pb):=by simpa[KeyOrd.kle]using t
     have t2:=KeyOrd.kle_trans (hA (0+i) (0+j) (zK hij 0) (by rw[zBN];exact zE hj q1')) t1
     simpa[KeyOrd.kle]using t2
    dsimp only
    have lowk:∀ i,i<k->κ.kle (KK κ a i) (KK κ b l):=fun i i1=>by
     have q:=k2 i i1
     rw[zBN]at q
     rw[KK_of eb]
     simpa[KeyOrd.kle]using q
    have upk:∀ i,k<=i->i<na->κ.kle (KK κ b l) (KK κ a i):=fun i i1 i2=>by
     have q:=k3 i i1 i2
     rw[zBN]at q
     rw[KK_of eb]
     exact KeyOrd.kle_of_klt (show κ.blt _ _=true by simpa using q)
    refine' wpS_ifS (P:=_) ?B0 (fun kz H=>?B1) fun kz H=>?B2
    case B1 =>
     have mk:=hb_a k1 m fun i i1 i2 _ j j1 j2=>KeyOrd.kle_trans (hB j l (zBL j1) q2') (upk i i1 i2)
     by_cases w1:k=0
     ·rw[if_pos (by simpa using w1)]
      exact wpS_pure ⟨sm.min _,.inl ⟨_,_,rfl,hf_a mk w1⟩⟩
     rw[if_neg (by simpa using w1)]
     have lo1:=lowk
     have p1:0<k:=zBQ w1
     have p2:k<=a.size:=zC k1 q1'
     have p3:x+1+k+(l+1)<a.size+b.size:=zI (zBE (zK k1 _) _) q3
     revert mk lo1 p1 p2 p3
     generalize out++(a.extract k na).reverse=out1
     generalize na-k=ac1
     generalize k=na1
     revert out1 ac1 na1
     exact H.out
    case B2 =>
     have k0:k=na:=zCQ k1 (Nat.le_of_sub_eq_zero (Nat.eq_zero_of_not_pos kz))
     exact H.out _ _ _ m (fun i i1=>lowk i (by rw[k0];exact i1)) q1 q1' q3
    clear lowk upk k1 k2 k3 m q1 q1' q3
    intro out1 ac1 na1 m1 lo1 p1 p2 p3
    refine wpS_bind (elem_ok eb ?_)
    have m2:=hm_b m1 eb fun i i1 _=>lo1 i i1
    by_cases z:l=1
    ·rw[if_pos (by simpa using z)]
     exact wpS_pure ⟨sm.min _,.inl ⟨_,_,rfl,hf_f m2 z hb hf⟩⟩
    rw[if_neg (by simpa using z)]
    obtain⟨n,rfl⟩:∃ n,na1=n+1:=⟨_,(zDA p1).symm⟩
    obtain⟨pa,ea⟩:=get_of_lt (xs:=a) (i:=n) p2
    refine wpS_bind (elem_ok ea (wpS_bind (gallop_ok (bey_left hO (ka _ _ ea) kb (base:=0) (n:=l) (by rw[zBN];exact zAA q2')) ((sm.min _).k.trans hk) (fun i j hij hj t=>?_) (zCU (zAY q2) zCB) fun k2 l1 l2 l3=>?_)))
    ·exact KeyOrd.klt_of_kle_of_klt (hB (0+i) (0+j) (zK hij 0) (by rw[zBN];exact Nat.lt_trans hj q2')) t
    dsimp only
    have low2:∀ j,j<k2->κ.kle (KK κ b j) (KK κ a n):=fun j j1=>by
     have q:=l2 j j1
     rw[zBN]at q
     rw[KK_of ea]
     exact KeyOrd.kle_of_klt q
    have up2:∀ j,k2<=j->j<l->κ.kle (KK κ a n) (KK κ b j):=fun j j1 j2=>by
     have q:=l3 j j1 j2
     rw[zBN]at q
     rw[KK_of ea]
     exact q
    refine' wpS_ifS (P:=_) ?C0 (fun kz2 H=>?C1) fun kz2 H=>?C2
    case C1 =>
     have m3:=hb_b l1 m2 fun j j1 j2 _ i i1 i2=>KeyOrd.kle_trans (hA i n (zBL i1) p2) (up2 j j1 j2)
     by_cases z2:k2=1
     ·rw[if_pos (by simpa using z2)]
      exact wpS_pure ⟨sm.min _,.inl ⟨_,_,rfl,hf_f m3 z2 hb hf⟩⟩
     rw[if_neg (by simpa using z2)]
     by_cases z4:k2=0
     ·rw[if_pos (by simpa using z4)]
      exact wpS_pure ⟨sm.min _,.inl ⟨_,_,rfl,hf_b m3 z4⟩⟩
     rw[if_neg (by simpa using z4)]
     have lo2:=low2
     have e1:1<k2:=zAN (zBQ z4) (Ne.symm z2)
     have e2:k2<=b.size:=zC l1 (zAA q2')
     have e3:x+1+n+k2<a.size+b.size:=zI (zCV (zCN _) (zDF l1)) p3
     revert m3 lo2 e1 e2 e3
     generalize out1.push pb++(b.extract k2 (l+1-1)).reverse=out2
     generalize l+1-1-k2=bc2
     generalize k2=nb2
     revert out2 bc2 nb2
     exact H.out
    case C2 =>
     have k0:k2=l:=zCQ l1 (Nat.le_of_sub_eq_zero (Nat.eq_zero_of_not_pos kz2))
     exact H.out _ _ _ m2 (fun j j1=>low2 j (by rw[k0];exact j1)) (zAN (zAY q2) (Ne.symm z)) (zAA q2') (zI (zCV (zCN _) (zCN _)) p3)
    clear low2 up2 l1 l2 l3 m2 m1 p1 p3
    intro out2 bc2 nb2 m3 lo2 e1 e2 e3
    refine wpS_bind (elem_ok ea ?_)
    have m4:=hm_a m3 ea fun j j1 _=>lo2 j j1
    by_cases z3:n=0
    ·rw[if_pos (by simpa using z3)]
     exact wpS_pure ⟨sm.min _,.inl ⟨_,_,rfl,hf_a m4 z3⟩⟩
    rw[if_neg (by simpa using z3)]
    have e4:0<n:=zBQ z3
    have e5:n<=a.size:=zAA p2
    refine wpS_if (fun _=>?_) fun _=>?_
    ·exact wpS_pure ⟨sm.min _,.inr ⟨_,_,_,_,_,_,rfl,m4,e4,e5,e1,e2,e3⟩⟩
    ·exact wpS_pure ⟨sm.min _,_,_,_,_,_,_,rfl,m4,e4,e5,e1,e2,e3⟩
end
open PySem PyProof.Rows
theorem write_blk:∀ (m:List Keyed) (xs:Array Keyed) (sa j0:Nat),sa+j0+m.length<=xs.size ->
  ((m.zipIdx j0).foldl (fun(a:Array Keyed) (q:Keyed×Nat)=>a.setIfInBounds (sa+q.2) q.1) xs).toList=xs.toList.take (sa+j0)++m++xs.toList.drop (sa+j0+m.length)
 |[],xs,sa,j0,h=>by simp
 |p :: r,xs,sa,j0,h=>by
  rw[zBD]at h
  rw[List.zipIdx_cons,List.foldl_cons,write_blk r _ sa (j0+1) (by rw[Array.size_setIfInBounds];exact zfs h)]
  have hl:xs.toList.length=xs.size:=by simp
  rw[Array.toList_setIfInBounds]
  have e1:(xs.toList.set (sa+j0) p).take (sa+(j0+1))=xs.toList.take (sa+j0)++[p]:=by
   rw[show sa+(j0+1)=sa+j0+1 by exact ziu,List.take_add_one,List.take_set_of_le (zJ _),List.getElem?_set_self (by exact zeq h hl)]
   rfl
  have e2:(xs.toList.set (sa+j0) p).drop (sa+(j0+1)+r.length)=xs.toList.drop (sa+j0+(p :: r).length):=by
   rw[List.drop_set_of_lt (by lia),zBD]
   congr 1
   exact zif
  rw[e1,e2]
  simp
theorem SIn.pw{κ:KeyKind}{xs:Array Keyed}{lo n:Nat}(h:SIn κ xs lo n):((xs.toList.drop lo).take n).Pairwise (kL κ):=by
 rw[zBX]
 intro i j hi hj hij
 rw[zBF,zCT]at hi hj
 have hl:xs.toList.length=xs.size:=by simp
 have q:=h i j (by exact zAA hij) (by exact zby hj)
 have g:∀ m,(hm:m<min n (xs.toList.length-lo))->xs[lo+m]?=some (((xs.toList.drop lo).take n)[m]'(by rw[zBF,zCT];exact hm)):=fun m hm=>by
  rw[List.getElem_take,List.getElem_drop,<- zF (by exact zar hl hm)]
  simp
 rw[KK_of (g i hi),KK_of (g j hj)]at q
 exact q
section
variable{prog:Program}{w:World}{A:Around}{E:Value->Shared->Prop}{s:Shared}{κ:KeyKind}{kd:SortKind}{st:SortSt}{a₀:Array Keyed}{n1 n2 pw:Nat}
theorem keyd_of{xs:Array Keyed}(hp:xs.Perm a₀)(h0:KeysOf κ a₀):Keyd κ xs:=fun i p hi=>by
 have hm:p∈a₀.toList:=(Array.perm_iff_toList_perm.mp hp).mem_iff.mp (by
  have:=Array.mem_of_getElem? hi
  simpa using this)
 exact h0 p hm
theorem keyd_ext{xs:Array Keyed}(h:Keyd κ xs)(i j:Nat):Keyd κ (xs.extract i j):=fun m p hm=>by
 rw[Array.getElem?_extract]at hm
 split at hm
 ·exact h _ _ hm
 ·cases hm
theorem KK_ext{xs:Array Keyed}{i j m:Nat}(hm:m<min j xs.size-i):KK κ (xs.extract i j) m=KK κ xs (i+m):=by
 apply KK_congr
 rw[Array.getElem?_extract,if_pos hm]
theorem wpS_set{σ:Type}{M:Model}{x st:σ}{Q:PUnit->σ->Prop}(h:Q ⟨⟩ x):wpS M A E s (set x:StateT σ Sem PUnit) Q st:=by
 unfold wpS
 rw[StateT.run_set]
 exact zG ⟨rfl,h⟩
theorem glue{L P X Y S M:List Keyed}(hL:L=P++X++(Y++S))(hM:M.Perm (X++Y))(sM:M.Pairwise (kL κ))(sa:(P++X).Pairwise (kL κ))(sb:(Y++S).Pairwise (kL κ))(hPY:∀ x∈P,∀ y∈Y++S,kL κ x y)(hXS:∀ x∈X,∀ y∈S,kL κ x y) :
  (P++M++S).Perm L/\(P++M++S).Pairwise (kL κ):=by
 obtain⟨p1,p2,p3⟩:=zAU.mp sa
 obtain⟨r1,r2,r3⟩:=zAU.mp sb
 constructor
 ·rw[hL]
  simp only[zAL]
  refine List.Perm.append_left P ?_
  rw[<- zAL X]
  exact List.Perm.append_right S hM
 ·refine zAU.mpr ⟨zAU.mpr ⟨p1,sM,fun x hx y hy=>?_⟩,r2,fun x hx y hy=>?_⟩
  ·rcases zAD.mp (hM.mem_iff.mp hy)with q | q
   ·exact p3 x hx y q
   ·exact hPY x hx y (zAZ _ q)
  ·rcases zAD.mp hx with q | q
   ·exact hPY x q y (zP _ hy)
   ·rcases zAD.mp (hM.mem_iff.mp q)with q | q
    ·exact hXS x q y hy
    ·exact r3 x q y hy
theorem SIn.of_seg{κ:KeyKind}{xs:Array Keyed}{P B S:List Keyed}(e:xs.toList=P++B++S)(h:B.Pairwise (kL κ)):SIn κ xs P.length B.length:=by
 intro i j hij hj
 by_cases ij:i=j
 ·subst ij;exact KeyOrd.kle_refl _
 have g:∀ m (hm:m<B.length),xs[P.length+m]?=some B[m]:=fun m hm=>by
  rw[<- zBR,e,zAL,List.getElem?_append_right (by exact zQ P.length m),Nat.add_sub_cancel_left,List.getElem?_append_left hm,zF hm]
 rw[KK_of (g i (by exact zI hij hj)),KK_of (g j hj)]
 exact(zBX.mp h) i j (by exact zI hij hj) hj (by exact zj5 ij hij)
theorem mergeAt_ok{Q:Bool->SortSt->Prop}{i b pw pw2:Nat}(hO:LtOk κ kd prog w A s)(h0:KeysOf κ a₀)(hk:kindOf st=kd)(hp:(arrOf st).Perm a₀)(hf:failedOf st=none)(hpa:(pendingOf st)[i]?=some (b,n1,pw))(hpb:(pendingOf st)[i+1]?=some (b+n1,n2,pw2))(hsz:b+n1+n2<=a₀.size)(h1:0<n1)(h2:0<n2)
  (s1:SIn κ (arrOf st) b n1) (s2:SIn κ (arrOf st) (b+n1) n2)
  (h:∀ st',(arrOf st').Perm a₀->failedOf st'=none->pendingOf st'=((pendingOf st).setIfInBounds i (b,n1+n2,pw)).eraseIdxIfInBounds (i+1)->SIn κ (arrOf st') b (n1+n2)->kindOf st'=kd->(∀ k,k<b\/b+n1+n2<=k->(arrOf st')[k]?=(arrOf st)[k]?)->Q true st'):wpS (model prog w) A E s (mergeAt' i) Q st:=by
 obtain⟨kd',xs,pend,mg,fl⟩:=st
 change kd'=kd at hk
 change xs.Perm a₀ at hp
 change fl=none at hf
 change pend[i]?=_ at hpa
 change pend[i+1]?=_ at hpb
 change SIn κ xs b n1 at s1
 change SIn κ xs (b+n1) n2 at s2
 subst hk hf
 have hs:b+n1+n2<=xs.size:=by rw[hp.size_eq];exact hsz
 have hl:xs.toList.length=xs.size:=by simp
 have kd0:=keyd_of hp h0
 have hn:b+n1<=xs.size:=zC (zQ _ _) hs
 obtain⟨pb,eb⟩:=get_of_lt (xs:=xs) (i:=b+n1) (zE (zCS h2) hs)
 refine wpS_bind (wpS_get ?_)
 dsimp only
 rw[hpa,hpb]
 dsimp only
 refine wpS_bind (wpS_set ?_)
 change ∀ st':SortSt,(arrOf st').Perm a₀->failedOf st'=none->pendingOf st'=(pend.setIfInBounds i (b,n1+n2,pw)).eraseIdxIfInBounds (i+1)->SIn κ (arrOf st') b (n1+n2)->kindOf st'=kd'->(∀ k,k<b\/b+n1+n2<=k->(arrOf st')[k]?=xs[k]?)->Q true st' at h
 generalize (pend.setIfInBounds i (b,n1+n2,pw)).eraseIdxIfInBounds (i+1)=pend' at h ⊢
 refine wpS_bind (elem_ok eb (wpS_bind (gallop_ok (kd:=kd') (bey_right (arr:=xs) hO (kd0 _ _ eb) kd0 (base:=b) (n:=n1) hn) rfl (fun i j hij hj t=>?_) h1 fun k k1 k2 k3=>?_)))
 ·have t1:κ.kle (KK κ xs (b+j)) (kk κ pb):=by simpa[KeyOrd.kle]using t
  have t2:=KeyOrd.kle_trans (s1 i j hij hj) t1
  simpa[KeyOrd.kle]using t2
 dsimp only
 have lowk:∀ i,i<k->κ.kle (KK κ xs (b+i)) (KK κ xs (b+n1)):=fun i hi=>by
  have q:=k2 i hi
  rw[KK_of eb]
  simpa[KeyOrd.kle]using q
 have upk:∀ i,k<=i->i<n1->κ.kle (KK κ xs (b+n1)) (KK κ xs (b+i)):=fun i i1 i2=>by
  have q:=k3 i i1 i2
  rw[KK_of eb]
  exact KeyOrd.kle_of_klt (show κ.blt _ _=true by simpa using q)
 have hA:∀ i j,i<=j->j<n1->κ.kle (KK κ xs (b+i)) (KK κ xs (b+j)):=s1
 have hB:∀ i j,i<=j->j<n2->κ.kle (KK κ xs (b+n1+i)) (KK κ xs (b+n1+j)):=s2
 have calm:(∀ i j,i<n1->j<n2->κ.kle (KK κ xs (b+i)) (KK κ xs (b+n1+j)))->SIn κ xs b (n1+n2):=fun hc i j hij hj=>by
  by_cases j1:j<n1
  ·exact hA i j hij j1
  ·obtain⟨j',rfl⟩:∃ j',j=n1+j':=⟨_,(zAG (Nat.le_of_not_lt j1)).symm⟩
   rw[<- zAK]
   by_cases i1:i<n1
   ·exact hc i j' i1 (Nat.lt_of_add_lt_add_left hj)
   ·obtain⟨i',rfl⟩:∃ i',i=n1+i':=⟨_,(zAG (Nat.le_of_not_lt i1)).symm⟩
    rw[<- zAK]
    exact hB i' j' (Nat.le_of_add_le_add_left hij) (Nat.lt_of_add_lt_add_left hj)
 by_cases z1:n1-k=0
 ·rw[if_pos (by simpa using z1)]
  refine wpS_pure (h _ hp rfl rfl (calm fun i j i1 j1=>KeyOrd.kle_trans (lowk i (zE i1 (Nat.le_of_sub_eq_zero z1))) ?_) rfl fun _ _=>rfl)
  have:=hB 0 j (zAW _) j1
  rwa [Nat.add_zero]at this
 rw[if_neg (by simpa using z1)]
 have pk:0<n1-k:=zBQ z1
 have eL:b+k+(n1-k)-1=b+(n1-1):=by rw[zAK,zAG k1,zBJ h1]
 have l1:=zCU h1 zCB
 obtain⟨pa,ea'⟩:=get_of_lt (xs:=xs) (i:=b+(n1-1)) (zE (zAM l1 b) hn)
 have ea:xs[b+k+(n1-k)-1]?=some pa:=by rw[eL];exact ea'
 refine wpS_bind (elem_ok ea (wpS_bind (gallop_ok (kd:=kd') (bey_left (arr:=xs) hO (kd0 _ _ ea) kd0 (base:=b+n1) (n:=n2) hs) rfl (fun i j hij hj t=>?_) (zCU h2 zCB) fun m m1 m2 m3=>?_)))
 ·exact KeyOrd.klt_of_kle_of_klt (s2 i j hij hj) t
 dsimp only
 have lowm:∀ j,j<m->κ.kle (KK κ xs (b+n1+j)) (KK κ xs (b+(n1-1))):=fun j j2=>by
  have q:=m2 j j2
  rw[KK_of ea']
  exact KeyOrd.kle_of_klt q
 have upm:∀ j,m<=j->j<n2->κ.kle (KK κ xs (b+(n1-1))) (KK κ xs (b+n1+j)):=fun j j1 j2=>by
  have q:=m3 j j1 j2
  rw[KK_of ea']
  exact q
 by_cases z2:m=0
 ·rw[if_pos (by simpa using z2)]
  exact wpS_pure (h _ hp rfl rfl (calm fun i j i1 j2=>KeyOrd.kle_trans (hA i (n1-1) (zBI i1) l1) (upm j (z2▸zAW j) j2)) rfl fun _ _=>rfl)
 rw[if_neg (by simpa using z2)]
 have pm:0<m:=zBQ z2
 have hm:b+n1+m<=xs.size:=zC (zK m1 _) hs
 have l2:=zCU pm zCB
 have e9:b+k+(n1-k)=b+n1:=by rw[zAK,zAG k1]
 have e8:b+n1+m+(n2-m)=b+n1+n2:=by rw[zAK,zAG m1]
 have zx:(xs.extract (b+k) (b+n1)).size=n1-k:=by rw[Array.size_extract,zCR hn,Nat.add_sub_add_left]
 have zy:(xs.extract (b+n1) (b+n1+m)).size=m:=by rw[Array.size_extract,zCR hm,Nat.add_sub_cancel_left]
 have kx:=keyd_ext kd0 (b+k) (b+n1)
 have ky:=keyd_ext kd0 (b+n1) (b+n1+m)
 have KX:∀ i,i<n1-k->KK κ (xs.extract (b+k) (b+n1)) i=KK κ xs (b+(k+i)):=fun i hi=>by rw[KK_ext (by rw[<- Array.size_extract,zx];exact hi),zAK]
 have KY:∀ i,i<m->KK κ (xs.extract (b+n1) (b+n1+m)) i=KK κ xs (b+n1+i):=fun i hi=>by rw[KK_ext (by rw[<- Array.size_extract,zy];exact hi)]
 have sX:∀ i j,i<=j->j <(xs.extract (b+k) (b+n1)).size->κ.kle (KK κ (xs.extract (b+k) (b+n1)) i) (KK κ (xs.extract (b+k) (b+n1)) j):=fun i j hij hj=>by
  rw[zx]at hj
  rw[KX i (zI hij hj),KX j hj]
  exact hA _ _ (zK hij k) (zBB hj)
 have sY:∀ i j,i<=j->j <(xs.extract (b+n1) (b+n1+m)).size->κ.kle (KK κ (xs.extract (b+n1) (b+n1+m)) i) (KK κ (xs.extract (b+n1) (b+n1+m)) j):=fun i j hij hj=>by
  rw[zy]at hj
  rw[KY i (zI hij hj),KY j hj]
  exact hB _ _ hij (zE hj m1)
 have f1:κ.kle (KK κ (xs.extract (b+n1) (b+n1+m)) 0) (KK κ (xs.extract (b+k) (b+n1)) 0):=by
  rw[KX 0 pk,KY 0 pm]
  exact upk (k+0) (zJ k) (Nat.lt_of_sub_pos pk)
 have f2:κ.kle (KK κ (xs.extract (b+n1) (b+n1+m)) ((xs.extract (b+n1) (b+n1+m)).size-1)) (KK κ (xs.extract (b+k) (b+n1)) ((xs.extract (b+k) (b+n1)).size-1)):=by
  rw[zx,zy,KX _ (zCU pk zCB),KY _ l2,<- zBJ pk,zAG k1]
  exact lowm _ l2
 have eX:(xs.extract (b+k) (b+n1)).toList=(xs.toList.drop (b+k)).take (n1-k):=by
  have e:=ext_blk xs (b+k) (n1-k)
  rwa [e9]at e
 have eY:(xs.extract (b+n1) (b+n1+m)).toList=(xs.toList.drop (b+n1)).take m:=ext_blk xs (b+n1) m
 have eA:(xs.toList.drop b).take n1=(xs.toList.drop b).take k++(xs.toList.drop (b+k)).take (n1-k):=by
  rw[<- List.drop_drop,<- List.take_add,zAG k1]
 have eB:(xs.toList.drop (b+n1)).take n2=(xs.toList.drop (b+n1)).take m++(xs.toList.drop (b+n1+m)).take (n2-m):=by
  rw[<- List.drop_drop (i:=m),<- List.take_add,zAG m1]
 have gat:∀ (c d:Nat) (x:Keyed),x∈(xs.toList.drop c).take d->c+d<=xs.size->∃ j,j<d/\xs[c+j]?=some x:=fun c d x hx hc=>by
  obtain⟨j,j1,j2,j3,j4⟩:=mem_blk hx
  exact⟨j-c,zCJ j1 j2,by rw[zAG j1];exact j4⟩
 have behind:∀ (R:Array Keyed) (st':SortSt),Sm (SortSt.mk' kd' xs pend' mg none) st'->Good κ ((xs.extract (b+k) (b+n1)).toList++(xs.extract (b+n1) (b+n1+m)).toList) R ->
   Q true (setArr st' ((R.toList.zipIdx).foldl (fun(a:Array Keyed) (q:Keyed×Nat)=>a.setIfInBounds (b+k+q.2) q.1) (arrOf st')))/\failedOf st'=none:=by
  intro R st' sm g
  have ea1:arrOf st'=xs:=sm.a
  have zR:R.toList.length=n1-k+m:=by
   rw[g.1.length_eq,zAC,zBT,zBT,zx,zy]
  have e7:b+k+(n1-k+m)=b+n1+m:=by rw[<- zAK,e9]
  have W:=write_blk R.toList xs (b+k) 0 (by rw[zR,Nat.add_zero,e7];exact hm)
  have gl:=glue (κ:=κ) (L:=(xs.toList.drop b).take k++(xs.toList.drop (b+k)).take (n1-k)++((xs.toList.drop (b+n1)).take m++(xs.toList.drop (b+n1+m)).take (n2-m))) (M:=R.toList)
   rfl (by rw[<- eX,<- eY];exact g.1) g.2 (by rw[<- eA];exact SIn.pw s1) (by rw[<- eB];exact SIn.pw s2)
   (fun x hx y hy=>by
    rw[<- eB]at hy
    obtain⟨i,i1,i2⟩:=gat _ _ _ hx (zC (zK k1 b) hn)
    obtain⟨j,j1,j2⟩:=gat _ _ _ hy hs
    have q0:=hB 0 j (zAW _) j1
    rw[Nat.add_zero]at q0
    have q:=KeyOrd.kle_trans (lowk i i1) q0
    rw[KK_of i2,KK_of j2]at q
    exact q)
   (fun x hx y hy=>by
    obtain⟨i,i1,i2⟩:=gat _ _ _ hx (zC (zAB e9) hn)
    obtain⟨j,j1,j2⟩:=gat _ _ _ hy (zC (zAB e8) hs)
    have q:=KeyOrd.kle_trans (hA (k+i) (n1-1) (zBI (zBB i1)) l1) (upm (m+j) (zQ m j) (zBB j1))
    rw[<- zAK,<- zAK,KK_of i2,KK_of j2]at q
    exact q)
  have eP:xs.toList.take (b+k)=xs.toList.take b++(xs.toList.drop b).take k:=List.take_add
  have eS:xs.toList.drop (b+n1+m)=(xs.toList.drop (b+n1+m)).take (n2-m)++xs.toList.drop (b+n1+n2):=by
   have:=zCA (n2-m) (xs.toList.drop (b+n1+m))
   rw[List.drop_drop,e8]at this
   exact this.symm
  have eW:((R.toList.zipIdx).foldl (fun(a:Array Keyed) (q:Keyed×Nat)=>a.setIfInBounds (b+k+q.2) q.1) xs).toList=xs.toList.take b++((xs.toList.drop b).take k++R.toList++(xs.toList.drop (b+n1+m)).take (n2-m))++xs.toList.drop (b+n1+n2):=by
   rw[W,zR,Nat.add_zero,e7,eP]
   conv=>lhs;rw[eS]
   simp only[zAL]
  have eO:xs.toList=xs.toList.take b++((xs.toList.drop b).take k++(xs.toList.drop (b+k)).take (n1-k)++((xs.toList.drop (b+n1)).take m++(xs.toList.drop (b+n1+m)).take (n2-m)))++xs.toList.drop (b+n1+n2):=by
   rw[<- eA,<- eB]
   conv=>lhs;rw[<- zCA b xs.toList,<- zCA n1 (xs.toList.drop b),List.drop_drop,<- zCA n2 (xs.toList.drop (b+n1)),List.drop_drop]
   simp only[zAL]
  have tb:(xs.toList.take b).length=b:=by rw[zBF,hl,zCR (zC (zQ b n1) hn)]
  have zM:((xs.toList.drop b).take k++R.toList++(xs.toList.drop (b+n1+m)).take (n2-m)).length=n1+n2:=by
   rw[zAC,zAC,zBF,zBF,zCT,zCT,zR,hl,zCR (Nat.le_sub_of_add_le' (zC (zK k1 b) hn)),zCR (Nat.le_sub_of_add_le' (zC (zAB e8) hs)),<- zAK,zAG k1,zAK,zAG m1]
  refine⟨?_,sm.f⟩
  rw[ea1]
  generalize hW:(R.toList.zipIdx).foldl (fun(a:Array Keyed) (q:Keyed×Nat)=>a.setIfInBounds (b+k+q.2) q.1) xs=ys at eW
  have pp:ys.Perm a₀:=by
   refine Array.Perm.trans ?_ hp
   rw[Array.perm_iff_toList_perm,eW]
   refine List.Perm.trans ?_ (List.Perm.of_eq eO.symm)
   exact(gl.1.append_left _).append_right _
  refine h _ pp sm.f sm.p ?_ sm.k fun c hc=>?_
  ·have q:=SIn.of_seg (κ:=κ) eW gl.2
   rw[tb,zM]at q
   exact q
  ·show ys[c]?=xs[c]?
   rw[<- zBR,<- zBR,eW]
   rcases hc with hc | hc
   ·rw[zAL,List.getElem?_append_left (by rw[tb];exact hc),List.getElem?_take_of_lt hc]
   ·rw[List.getElem?_append_right (by rw[zAC,tb,zM,<- zAK];exact hc),List.getElem?_drop,zAC,tb,zM,<- zAK,zAG hc]
 refine wpS_if (fun _=>?_) fun _=>?_
 ·refine wpS_bind (mergeLo_ok (kd:=kd') hO rfl kx ky sX sY (zAT pk zx.symm) (zAT pm zy.symm) f1 f2 fun R st' sm g=>?_)
  obtain⟨q1,q2⟩:=behind R st' sm g
  refine wpS_bind (wpS_modify (wpS_bind (wpS_get (wpS_pure ?_))))
  show Q (failedOf st').isNone _
  rw[q2]
  exact q1
 ·refine wpS_bind (mergeHi_ok (kd:=kd') hO rfl kx ky sX sY (zAT pk zx.symm) (zAT pm zy.symm) f1 f2 fun R st' sm g=>?_)
  obtain⟨q1,q2⟩:=behind R st' sm g
  refine wpS_bind (wpS_modify (wpS_bind (wpS_get (wpS_pure ?_))))
  show Q (failedOf st').isNone _
  rw[q2]
  exact q1
end
open PySem PyProof.Rows
section
variable{prog:Program}{w:World}{A:Around}{E:Value->Shared->Prop}{s:Shared}{κ:KeyKind}{kd:SortKind}{st:SortSt}{a₀:Array Keyed}
theorem SIn.congr{xs ys:Array Keyed}{lo n:Nat}(h:SIn κ xs lo n)(e:∀ k,lo<=k->k<lo+n->ys[k]?=xs[k]?):SIn κ ys lo n:=fun i j hij hj=>by
 rw[KK_congr (ys:=xs) (e (lo+i) (by lia) (by lia)),KK_congr (ys:=xs) (e (lo+j) (by lia) (by lia))]
 exact h i j hij hj
noncomputable def Runs(κ:KeyKind)(xs:Array Keyed):List (Nat×Nat)->Nat->Nat->Prop
 |[],s,e=>s=e
 |z :: r,s,e=>z.1=s/\0<z.2/\SIn κ xs s z.2/\Runs κ xs r (s+z.2) e
theorem Runs.len{xs:Array Keyed}:∀ {l:List (Nat×Nat)}{s e:Nat},Runs κ xs l s e->l.length+s<=e
 |[],s,e,h=>by have h:s=e:=h;simp;exact zAB h
 |z :: r,s,e,h=>by
  obtain⟨_,h2,_,h4⟩:=h
  have:=Runs.len h4
  rw[zBD]
  lia
theorem Runs.congr{xs ys:Array Keyed}:∀ {l:List (Nat×Nat)}{s e:Nat},Runs κ xs l s e->(∀ k,s<=k->k<e->ys[k]?=xs[k]?)->Runs κ ys l s e
 |[],_,_,h,_=>h
 |z :: r,s,e,h,c=>by
  obtain⟨h1,h2,h3,h4⟩:=h
  have:=h4.len
  exact⟨h1,h2,h3.congr fun k a b=>c k a (by exact zei this b),Runs.congr h4 fun k a b=>c k (by exact zC (zQ s z.snd) a) b⟩
theorem Runs.app{xs:Array Keyed}{l2:List (Nat×Nat)}{e:Nat}:∀ {l1:List (Nat×Nat)}{s:Nat},Runs κ xs (l1++l2) s e↔∃ m,Runs κ xs l1 s m/\Runs κ xs l2 m e
 |[],s=>by
  constructor
  ·exact fun h=>⟨s,rfl,h⟩
  ·rintro⟨m,h,h'⟩
   cases(show s=m from h)
   exact h'
 |z :: l1,s=>by
  constructor
  ·rintro⟨h1,h2,h3,h4⟩
   obtain⟨m,a,b⟩:=Runs.app.mp h4
   exact⟨m,⟨h1,h2,h3,a⟩,b⟩
  ·rintro⟨m,⟨h1,h2,h3,h4⟩,b⟩
   exact⟨h1,h2,h3,Runs.app.mpr ⟨m,h4,b⟩⟩
noncomputable def pr2(z:Nat×Nat×Nat):Nat×Nat:=(z.1,z.2.1)
noncomputable def prs(p:Array (Nat×Nat×Nat)):List (Nat×Nat):=p.toList.map pr2
theorem prs_len(p:Array (Nat×Nat×Nat)):(prs p).length=p.size:=by unfold prs;simp
theorem prs_push(p:Array (Nat×Nat×Nat))(z:Nat×Nat×Nat):prs (p.push z)=prs p++[pr2 z]:=by unfold prs;simp
theorem mod_map{f:Nat×Nat×Nat->Nat×Nat×Nat}(hf:∀ z,pr2 (f z)=pr2 z):∀ (l:List (Nat×Nat×Nat)) (j:Nat),(l.modify j f).map pr2=l.map pr2
 |[],j=>by simp
 |z :: l,0=>by simp[hf]
 |z :: l,j+1=>by simp[mod_map hf l j]
theorem prs_mod(p:Array (Nat×Nat×Nat))(j pw:Nat):prs (p.modify j fun x=>(x.1,x.2.1,pw))=prs p:=by
 unfold prs
 rw[Array.toList_modify]
 exact mod_map (f:=fun x=>(x.1,x.2.1,pw)) (fun _=>rfl) _ _
structure Core(κ:KeyKind)(kd:SortKind)(a₀:Array Keyed)(lo:Nat)(st:SortSt):Prop where
 perm:(arrOf st).Perm a₀
 kind:kindOf st=kd
 failed:failedOf st=none
 runs:Runs κ (arrOf st) (prs (pendingOf st)) 0 lo
 le:lo<=a₀.size
theorem erase_set{l1 l2:List (Nat×Nat×Nat)}{x y v:Nat×Nat×Nat}:((l1++x :: y :: l2).set l1.length v).eraseIdx (l1.length+1)=l1++v :: l2:=by
 induction l1 with
 |nil=>rfl
 |cons a l ih=>rw[List.cons_append,zBD,List.set_cons_succ,List.eraseIdx_cons_succ,ih];rfl
theorem merge_step{Q:Bool->SortSt->Prop}{lo i:Nat}(hO:LtOk κ kd prog w A s)(h0:KeysOf κ a₀)(C:Core κ kd a₀ lo st)(hi:i+1 <(pendingOf st).size)
  (h:∀ st',Core κ kd a₀ lo st'->(pendingOf st').size+1=(pendingOf st).size->(∀ k,lo<=k->(arrOf st')[k]?=(arrOf st)[k]?)->Q true st'):wpS (model prog w) A E s (mergeAt' i) Q st:=by
 obtain⟨c1,c2,c3,c4,c5⟩:=C
 generalize hp:pendingOf st=p at *
 have el:p.toList=p.toList.take i++p[i] :: p[i+1] :: p.toList.drop (i+2):=by
  have h1:i<p.toList.length:=by simp;exact zj1 hi
  have h2:i+1<p.toList.length:=by simp;exact hi
  conv=>lhs;rw[<- zCA i p.toList,List.drop_eq_getElem_cons h1,List.drop_eq_getElem_cons h2]
  simp
 have ll:(p.toList.take i).length=i:=by rw[zBF];simp;lia
 have r0:=c4
 unfold prs at r0
 rw[el,zU,zAI,zAI]at r0
 obtain⟨m,ra,b1,b2,b3,d1,d2,d3,rb⟩:=Runs.app.mp r0
 generalize hx:p[i]=x at *
 generalize hy:p[i+1]=y at *
 obtain⟨xb,xn,xp⟩:=x
 obtain⟨yb,yn,yp⟩:=y
 have b1:xb=m:=b1
 have d1:yb=m+xn:=d1
 subst b1
 subst d1
 have ex:p[i]?=some (xb,xn,xp):=by rw[zAS (by exact zj1 hi),hx]
 have ey:p[i+1]?=some (xb+xn,yn,yp):=by rw[zAS hi,hy]
 have lb:=rb.len
 have le2:xb+xn+yn<=lo:=by
  have:xb+(pr2 (xb,xn,xp)).2+(pr2 (xb+xn,yn,yp)).2=xb+xn+yn:=rfl
  lia
 refine mergeAt_ok (i:=i) (b:=xb) (n1:=xn) (n2:=yn) (pw:=xp) (pw2:=yp) hO h0 c2 c1 c3 (by rw[hp];exact ex) (by rw[hp];exact ey) (by exact zC le2 c5) b2 d2 b3 d3 fun st' a1 a2 a3 a4 a5 a6=>?_
 rw[hp]at a3
 have e3:(pendingOf st').toList=p.toList.take i++(xb,xn+yn,xp) :: p.toList.drop (i+2):=by
  have e:=erase_set (l1:=p.toList.take i) (l2:=p.toList.drop (i+2)) (x:=(xb,xn,xp)) (y:=(xb+xn,yn,yp)) (v:=(xb,xn+yn,xp))
  rw[ll,<- el]at e
  rw[a3]
  unfold Array.eraseIdxIfInBounds
  rw[dif_pos (by rw[Array.size_setIfInBounds];exact hi),Array.toList_eraseIdx,Array.toList_setIfInBounds]
  exact e
 refine h st' ⟨a1,a5,a2,?_,c5⟩ ?_ fun k hk=>a6 k (.inr (by exact zC le2 hk))
 ·unfold prs
  rw[e3,zU,zAI]
  refine Runs.app.mpr ⟨xb,ra.congr fun k _ hk=>a6 k (.inl hk),rfl,by show 0<xn+yn;have:0<xn:=b2;exact zi9 this (zQ xn yn),a4,?_⟩
  show Runs κ (arrOf st') _ (xb+(xn+yn)) lo
  rw[<- zAK]
  exact rb.congr fun k hk _=>a6 k (.inr hk)
 ·have e4:=congrArg List.length e3
  have e5:=congrArg List.length el
  rw[zAC,zBD]at e4
  rw[zAC,zBD,zBD]at e5
  simp only[zBT]at e4 e5
  lia
theorem minRun_pos:∀ (f n r:Nat),1<=n->1<=minRun' f n r
 | 0,n,r,h=>by show 1<=n+r;exact zC h (zQ n r)
 |f+1,n,r,h=>by
  rw[minRun'_succ]
  split
  ·exact zC h (zQ n r)
  ·exact minRun_pos f _ _ (by lia)
theorem Core.push{lo n z:Nat}(C:Core κ kd a₀ lo st)(h:SIn κ (arrOf st) lo n)(n0:0<n)(hn:lo+n<=a₀.size)(p:Array (Nat×Nat×Nat))(ep:prs p=prs (pendingOf st)):Core κ kd a₀ (lo+n) (setPending st (p.push (lo,n,z))):=by
 refine⟨C.perm,C.kind,C.failed,?_,hn⟩
 show Runs κ (arrOf st) (prs (p.push (lo,n,z))) 0 (lo+n)
 rw[prs_push,ep]
 exact Runs.app.mpr ⟨lo,C.runs,rfl,n0,h,rfl⟩
theorem runs_ok{Q:Unit->SortSt->Prop}(hO:LtOk κ kd prog w A s)(h0:KeysOf κ a₀)(hB:SB kd a₀ a₀ 0 #[] st)(h2:2<=a₀.size)
  (h:∀ st',(arrOf st').Perm a₀->failedOf st'=none->SIn κ (arrOf st') 0 a₀.size->Q () st'):wpS (model prog w) A E s sortRuns' Q st:=by
 rw[sortRuns'_eq]
 refine wpS_bind (wpS_get ?_)
 dsimp only
 simp only[hB.size]
 have r1:1<=minRun' a₀.size a₀.size 0:=minRun_pos _ _ _ (by exact zj2 h2)
 generalize hmr:minRun' a₀.size a₀.size 0=mr at r1 ⊢
 refine wpS_bind (wpS_mono (wpS_forRange
  (I:=fun x c st'=>∃ lo,c=(none,lo)/\x<=lo/\Core κ kd a₀ lo st')
  (Q:=fun c st'=>c=(none,a₀.size)/\Core κ kd a₀ a₀.size st') ?step ?fin ⟨0,rfl,zJ _,hB.perm,hB.kind,hB.failed,by rw[hB.pend];rfl,zAW _⟩) ?post)
 case fin =>
  rintro c st' ⟨lo,rfl,hx,C⟩
  have e:lo=a₀.size:=by have:=C.le;lia
  subst e
  exact⟨rfl,C⟩
 case step =>
  rintro x c st1 _ hx ⟨lo,rfl,xlo,C⟩
  dsimp only
  by_cases hlo:lo >= a₀.size
  ·rw[if_pos hlo]
   have e:lo=a₀.size:=by have:=C.le;lia
   subst e
   exact wpS_pure ⟨rfl,C⟩
  rw[if_neg hlo]
  refine wpS_bind (count_ok hO h0 (b:=arrOf st1) (pd:=pendingOf st1) (by exact zdq hlo) (by exact zcg hlo) ⟨C.perm,C.kind,C.failed,rfl,fun _ _=>rfl⟩ fun m st2 B2 m1 m2 S2=>?_)
  dsimp only
  have core:∀ st',SB kd a₀ (arrOf st1) lo (pendingOf st1) st'->Core κ kd a₀ lo st':=fun st' B=>⟨B.perm,B.kind,B.failed,by
   rw[B.pend]
   exact C.runs.congr fun k _ hk=>B.low k hk,C.le⟩
  by_cases hlt:m<mr
  ·rw[if_pos hlt]
   refine wpS_bind (wpS_lift (wpAny_rule ⟨rfl,wpS_bind (bin_ok hO h0 (by exact zan hlo) (by exact zbu m2 hlt) B2 S2 fun st3 B3 S3=>?_)⟩))
   refine wpS_if (fun z=>absurd z (by simp)) fun _=>?_
   have C3:=core st3 B3
   have g0:0<min (a₀.size-lo) mr:=by omega
   have g1:lo+min (a₀.size-lo) mr<=a₀.size:=by exact zan hlo
   generalize min (a₀.size-lo) mr=n at S3 g0 g1 ⊢
   refine wpS_bind (wpS_get ?_)
   cases hb:(pendingOf st3).back? with
   |none =>
    dsimp only
    refine wpS_bind (wpS_modify (wpS_pure ?_))
    exact⟨lo+n,rfl,by exact zcv xlo g0,C3.push S3 g0 g1 _ rfl⟩
   |some z =>
    obtain⟨s1,n1,z3⟩:=z
    dsimp only
    generalize power' a₀.size (2 * s1+n1) (2 * s1+n1+n1+n) a₀.size=pw
    refine wpS_bind (wpS_mono (wpS_forRange (I:=fun x c st'=>c=(none,())/\Core κ kd a₀ lo st'/\SIn κ (arrOf st') lo n) (Q:=fun c st'=>c=(none,())/\Core κ kd a₀ lo st'/\SIn κ (arrOf st') lo n) ?a ?b ⟨rfl,C3,S3⟩) ?c)
    case b=>exact fun c st' h=>h
    case a =>
     rintro x' c st4 _ _ ⟨rfl,C4,S4⟩
     refine wpS_bind (wpS_get ?_)
     by_cases hs:(pendingOf st4).size > 1
     ·rw[if_pos hs]
      have hl:(pendingOf st4).size-2 <(pendingOf st4).size:=by exact zak hs
      rw[zAS hl]
      generalize (pendingOf st4)[(pendingOf st4).size-2]=y
      obtain⟨y1,y2,older⟩:=y
      dsimp only
      by_cases ho:older<=pw
      ·rw[if_pos ho]
       exact wpS_pure ⟨rfl,C4,S4⟩
      ·rw[if_neg ho]
       refine wpS_bind (merge_step hO h0 C4 (by exact zal hs hl) fun st5 C5 _ k5=>?_)
       refine wpS_if (fun z=>absurd z (by simp)) fun _=>?_
       exact wpS_pure ⟨rfl,C5,S4.congr fun k hk _=>k5 k hk⟩
     ·rw[if_neg hs]
      exact wpS_pure ⟨rfl,C4,S4⟩
    case c =>
     rintro c st4 ⟨rfl,C4,S4⟩
     refine wpS_bind (wpS_modify (wpS_bind (wpS_modify (wpS_pure ?_))))
     exact⟨lo+n,rfl,by exact zcv xlo g0,C4.push S4 g0 g1 _ (prs_mod _ _ _)⟩
  ·rw[if_neg hlt]
   have C3:=core st2 B2
   have S3:=S2
   have g0:0<m:=m1
   have g1:lo+m<=a₀.size:=by lia
   refine wpS_bind (wpS_get ?_)
   cases hb:(pendingOf st2).back? with
   |none =>
    dsimp only
    refine wpS_bind (wpS_modify (wpS_pure ?_))
    exact⟨lo+m,rfl,by exact zdd xlo m1,C3.push S3 g0 g1 _ rfl⟩
   |some z =>
    obtain⟨s1,n1,z3⟩:=z
    dsimp only
    generalize power' a₀.size (2 * s1+n1) (2 * s1+n1+n1+m) a₀.size=pw
    refine wpS_bind (wpS_mono (wpS_forRange (I:=fun x c st'=>c=(none,())/\Core κ kd a₀ lo st'/\SIn κ (arrOf st') lo m) (Q:=fun c st'=>c=(none,())/\Core κ kd a₀ lo st'/\SIn κ (arrOf st') lo m) ?a ?b ⟨rfl,C3,S3⟩) ?c)
    case b=>exact fun c st' h=>h
    case a =>
     rintro x' c st4 _ _ ⟨rfl,C4,S4⟩
     refine wpS_bind (wpS_get ?_)
     by_cases hs:(pendingOf st4).size > 1
     ·rw[if_pos hs]
      have hl:(pendingOf st4).size-2 <(pendingOf st4).size:=by exact zak hs
      rw[zAS hl]
      generalize (pendingOf st4)[(pendingOf st4).size-2]=y
      obtain⟨y1,y2,older⟩:=y
      dsimp only
      by_cases ho:older<=pw
      ·rw[if_pos ho]
       exact wpS_pure ⟨rfl,C4,S4⟩
      ·rw[if_neg ho]
       refine wpS_bind (merge_step hO h0 C4 (by exact zal hs hl) fun st5 C5 _ k5=>?_)
       refine wpS_if (fun z=>absurd z (by simp)) fun _=>?_
       exact wpS_pure ⟨rfl,C5,S4.congr fun k hk _=>k5 k hk⟩
     ·rw[if_neg hs]
      exact wpS_pure ⟨rfl,C4,S4⟩
    case c =>
     rintro c st4 ⟨rfl,C4,S4⟩
     refine wpS_bind (wpS_modify (wpS_bind (wpS_modify (wpS_pure ?_))))
     exact⟨lo+m,rfl,by exact zdd xlo m1,C4.push S4 g0 g1 _ (prs_mod _ _ _)⟩
 case post =>
  rintro c st1 ⟨rfl,C⟩
  dsimp only
  have l0:=C.runs.len
  rw[prs_len]at l0
  refine wpS_bind (wpS_mono (wpS_forRange (I:=fun x c st'=>c=(none,())/\Core κ kd a₀ a₀.size st'/\((pendingOf st').size+x<=a₀.size\/(pendingOf st').size<=1)) (Q:=fun c st'=>c=(none,())/\Core κ kd a₀ a₀.size st'/\(pendingOf st').size<=1) ?lstep ?lfin ⟨rfl,C,.inl (by exact l0)⟩) ?lpost)
  case lfin =>
   rintro c st' ⟨hc,C',z⟩
   refine⟨hc,C',?_⟩
   rcases z with z | z
   ·exact zhk h2 z
   ·exact z
  case lpost =>
   rintro c st' ⟨rfl,C',z⟩
   refine wpS_pure (h _ C'.perm C'.failed ?_)
   have r:=C'.runs
   have e:=prs_len (pendingOf st')
   generalize prs (pendingOf st')=l at r e
   match l,r,e with
   |[],r,_=>have r:0=a₀.size:=r;lia
   |[y],r,_ =>
    obtain⟨r1,r2,r3,r4⟩:=r
    have r4:0+y.2=a₀.size:=r4
    rw[zBN]at r4
    rw[r4]at r3
    exact r3
   | _ :: _ :: _,_,e=>simp at e;lia
  case lstep =>
   rintro x c st2 _ hx ⟨rfl,C2,z⟩
   refine wpS_bind (wpS_get ?_)
   by_cases hs:(pendingOf st2).size<=1
   ·rw[if_pos hs]
    exact wpS_pure ⟨rfl,C2,hs⟩
   ·rw[if_neg hs]
    have stp:∀ i,i+1 <(pendingOf st2).size->wpS (model prog w) A E s (mergeAt' i) (fun r st'=>r=true/\Core κ kd a₀ a₀.size st'/\(pendingOf st').size+1=(pendingOf st2).size) st2:=fun i hi=>merge_step hO h0 C2 hi fun st' C' e _=>⟨rfl,C',e⟩
    refine wpS_bind (wpS_mono (stp _ ?_) fun r st3 hr=>?_)
    ·have:∀ (c:Prop) [Decidable c],(if c then(pendingOf st2).size-2-1 else(pendingOf st2).size-2)+1 <(pendingOf st2).size:=fun c _=>by split <;> omega
     exact this _
    ·obtain⟨rfl,C3,e⟩:=hr
     refine wpS_if (fun z=>absurd z (by simp)) fun _=>?_
     refine wpS_pure ⟨rfl,C3,?_⟩
     rcases z with z | z
     ·exact .inl (by exact zev e z)
     ·exact absurd z hs
end
open PySem PySem.W PyProof.Rows
noncomputable def RawD(d:Addr)(ks:List Value)(ep:Nat)(g:Heap):Prop:=∃ ob en,g.get? d=some ob/\ob.ExactDict/\ob.data = .dict en ep/\en.toList.map (fun r=>r.key)=ks
section
variable{d it:Addr}{ks:List Value}{ep i:Nat}{g g':Heap}{prog:Program}{w:World}{A:Around}{E:Value->Shared->Prop}{s:Shared}
theorem RawD.to(x:RawD d ks ep g)(k:∀ u,g.get? d=some u->g'.get? d=some u):RawD d ks ep g':=by
 obtain⟨ob,en,a,r⟩:=x
 exact⟨ob,en,k _ a,r⟩
theorem RawD.ty(x:RawD d ks ep s.heap):s.TypeIs (.ref d) "dict":=by
 obtain⟨ob,en,a,c,r⟩:=x
 exact⟨ob,a,c.1⟩
theorem RawD.lt(x:RawD d ks ep g):d<g.objs.size:=by
 obtain⟨ob,en,a,c,r⟩:=x
 exact zN a
theorem rawIter{Q:Value->Shared->Prop}(nd:(d == sysModules)=false)(x:RawD d ks ep s.heap)
  (q:Q (.ref s.heap.objs.size) { s with heap:=s.heap.push { cls:=.type "dict_keyiterator",data:=.fields #[.ref d,.int 0 0,.int ks.length 0,.int ep 0] } }) :
  wpAny (model prog w) A (pyIter (.ref d)) Q E s:=by
 have ty:=x.ty
 obtain⟨ob,en,a,c,dt,ke⟩:=x
 have len:en.size=ks.length:=by rw[<- ke];simp
 refine wpAny_pyIter_slot ty F.slot_dict_iter (wpAny_call_entry F.slot_dict_iter ty F.entry_dict_iter ?_ (F.args_dict_iter_1 _))
 unfold Builtin.«dict.__iter__»;refine zA ?_
 unfold Builtin.Dict.dictSlotNone;refine zA (wpAny_notOrdered_dict ty ?_)
 show wpAny _ _ (pure (Value.ref d)) _ _ s;refine zG ?_
 show wpAny _ _ (Builtin.Dict.showsAll d >>= _) _ _ s;unfold Builtin.Dict.showsAll
 rw[if_neg (fun e=>zW (nd.symm.trans e))];refine zA (zG (zA (wpAny_dictEntries a dt (zA (wpAny_dictEpoch a dt ?_)))))
 refine zA (wpAny_newObj_type (zG ⟨_,rfl,"dict_keyiterator",_,⟨_,zS _ rfl,rfl⟩,F.slot_dict_keyiterator_next.lookup,?_⟩));simpa[rawInt,len]using q
theorem rawItem{v:Value}{Q:Option Value->Shared->Prop}(hI:s.heap.IsKeyIter it d i ks.length ep)(x:RawD d ks ep s.heap)(hv:ks[i]?=some v)
  (q:∀ g',g'.IsKeyIter it d (i+1) ks.length ep->Heap.SameBut it s.heap g'->Q (some v) { s with heap:=g' }):wpAny (model prog w) A (pyNext (.ref it)) Q E s:=by
 obtain⟨io,a0,c0,d0⟩:=id hI
 obtain⟨ob,en,a,c,dt,ke⟩:=x
 have len:en.size=ks.length:=by rw[<- ke];simp
 unfold pyNext;refine zA (wpAny_attempt (wpAny_callSpecial?_slot (name:=Str.ofString "__next__") hI.typeIs F.slot_dict_keyiterator_next (wpAny_call_entry F.slot_dict_keyiterator_next hI.typeIs F.entry_dict_keyiterator_next ?_ (F.args_dict_keyiterator_next_1 _))))
 refine zA (zG (zA (zA ?_)))
 first | refine zA (wpAny_typeNameOfWhole_keyiter hI.typeIs (zG ?_)) | refine zA (wpAny_typeNameOf_keyiter hI.typeIs (zG ?_))
 refine zA (wpAny_fieldsOf a0 d0 ?_);have own:Builtin.Dict_items.ownsTuple "dict_keyiterator" = false:=by decide
 simp only[own,zCE,if_false];show wpAny _ _ (if(Value.ref d == Value.none)=true then _ else _) _ _ s
 rw[if_neg (show ¬((Value.ref d == Value.none)=true)from zW)];refine zA (zG (zA (wpAny_dictEntries a dt ?_)))
 rw[if_neg (by rw[len];simp)];refine zA (zG (zA (wpAny_dictEpoch a dt ?_)))
 rw[if_neg (by simp)];refine zG ?_
 have il:i<en.size:=by rw[len];exact(zH.mp hv).1
 have iv:en[i].key=v:=by
  have z:(en.toList.map (fun r=>r.key))[i]?=some en[i].key:=by rw[zAJ,zBR,zAS il];rfl
  rw[ke,hv]at z
  exact(Option.some.inj z).symm
 simp only[show ¬((i:Int)<0)from by exact zej,if_false,zAQ,zAS il];refine zA ?_
 first | refine zA (wpAny_typeNameOfWhole_keyiter hI.typeIs (zG ?_)) | refine zA (wpAny_typeNameOf_keyiter hI.typeIs (zG ?_))
 refine zA (wpAny_isOneOf_keyiter hI.typeIs ?_);show wpAny _ _ (setField (.ref it) 1 (rawInt ((i:Int)+1)) >>= _) _ _ s
 refine zA (wpAny_setField a0 d0 (by simp) ?_)
 have hI':(s.heap.update it (Obj.mapFields (·.setIfInBounds 1 (rawInt ((i:Int)+1))))).IsKeyIter it d (i+1) ks.length ep:=⟨_,Heap.get?_update_self _ a0 (Obj.isFreed_of_fields (Obj.data_mapFields d0 _)),(Obj.cls_mapFields ..).trans c0,by rw[Obj.data_mapFields d0];simp[rawInt]⟩
 refine zA (wpAny_holding (zA (wpAny_isOneOf_keyiter (s:={ s with heap:=s.heap.update it (Obj.mapFields (·.setIfInBounds 1 (rawInt ((i:Int)+1)))) }) hI'.typeIs ?_)))
 show wpAny _ _ (pure en[i].key) _ _ _;rw[iv]
 exact zG (zG ⟨_,rfl,zG (q _ hI' (Heap.SameBut.update ..))⟩)
theorem rawEnd{Q:Option Value->Shared->Prop}(hh:A.handled=none)(hI:s.heap.IsKeyIter it d i ks.length ep)(x:RawD d ks ep s.heap)(hv:ks.length<=i)
  (q:∀ g',Heap.ExtBut it s.heap g'->Q none { s with heap:=g' }):wpAny (model prog w) A (pyNext (.ref it)) Q E s:=by
 obtain⟨io,a0,c0,d0⟩:=id hI
 obtain⟨ob,en,a,c,dt,ke⟩:=x
 have len:en.size=ks.length:=by rw[<- ke];simp
 unfold pyNext;refine zA (wpAny_attempt (wpAny_callSpecial?_slot (name:=Str.ofString "__next__") hI.typeIs F.slot_dict_keyiterator_next (wpAny_call_entry F.slot_dict_keyiterator_next hI.typeIs F.entry_dict_keyiterator_next ?_ (F.args_dict_keyiterator_next_1 _))))
 refine zA (zG (zA (zA ?_)))
 first | refine zA (wpAny_typeNameOfWhole_keyiter hI.typeIs (zG ?_)) | refine zA (wpAny_typeNameOf_keyiter hI.typeIs (zG ?_))
 refine zA (wpAny_fieldsOf a0 d0 ?_);have own:Builtin.Dict_items.ownsTuple "dict_keyiterator" = false:=by decide
 simp only[own,zCE,if_false];show wpAny _ _ (if(Value.ref d == Value.none)=true then _ else _) _ _ s
 rw[if_neg (show ¬((Value.ref d == Value.none)=true)from zW)];refine zA (zG (zA (wpAny_dictEntries a dt ?_)))
 rw[if_neg (by rw[len];simp)];refine zA (zG (zA (wpAny_dictEpoch a dt ?_)))
 rw[if_neg (by simp)];refine zG ?_
 have il:en.size<=i:=by rw[len];exact hv
 simp only[show ¬((i:Int)<0)from by exact zej,if_false,zAQ,Array.getElem?_eq_none il];refine zA ?_
 first | refine zA (wpAny_typeNameOfWhole_keyiter hI.typeIs (zG ?_)) | refine zA (wpAny_typeNameOf_keyiter hI.typeIs (zG ?_))
 show wpAny _ _ (setField (.ref it) 0 .none >>= _) _ _ s;refine zA (wpAny_setField a0 d0 (by simp) ?_)
 show wpAny _ _ (newExc (.type "StopIteration") [] >>= _) _ _ _;refine zA ?_
 simp only[newExc,newTuple];refine zA (wpAny_newObj_type ?_ (by size_fits))
 refine zA (m:=firstArgMember _ _) (wpAny_of_eq (a:=Value.none) (by first | rfl |(simp only[firstArgMember];rfl)) (wpAny_newObj_type ?_ (by size_fits)))
 simp only[raiseNew];refine zA (wpAny_handled ?_)
 rw[show A.in1.handled=none from hh];refine zA (zG (wpAny_throw ?_))
 refine zA (wpAny_isInstance (T:="StopIteration") (b:=true) ⟨_,zS _ rfl,rfl⟩ isSubtype_stop ?_)
 exact zG (q _ (((Heap.SameBut.update ..).extBut.push _).push _))
theorem rawWalks(hh:A.handled=none)(I d:Addr)(ne:d≠I)(ks:List Value)(ep:Nat) :
  Walks prog w A I [I,d] [I] ks.length (fun i v=>ks[i]?=some v) (fun i g=>g.IsKeyIter I d i ks.length ep/\RawD d ks ep g)where
 sub:=fun b z=>by simp at z;simp[z]
 frame:=fun _ _ _ st k=>⟨st.1.at fun o e=>k I (by simp) o e,st.2.to fun o e=>k d (by simp) o e⟩
 item:=fun i s Q E hi st hQ=>by
  obtain⟨v,hx⟩:∃ p,ks[i]?=some p:=⟨ks[i],by simp[hi]⟩
  refine rawItem st.1 st.2 hx fun g' it' sb=>?_
  exact hQ v g' s.toks hx ⟨it',st.2.to fun o e=>sb.extBut d o ne e⟩ fun b o z e=>sb.extBut b o (fun h=>z (by simp[h])) e
 done:=fun s Q E st hQ=>rawEnd hh st.1 st.2 (zJ _) fun g' e'=>hQ g' s.toks fun b o z e=>e' b o (fun h=>z (by simp[h])) e
 self:=fun _ _ _ _ st hQ=>wpAny_pyIter_keyiter st.1 hQ
theorem rawSrc(nd:(d == sysModules)=false):KdlSrc prog w "dict" d d ks.length (fun i v=>ks[i]?=some v) (RawD d ks ep)where
 type:=fun _ x=>x.ty
 there:=fun _ x=>⟨x.lt,x.lt⟩
 keep:=fun _ _ x k=>x.to fun o e=>k d (.inl rfl) o e
 notList:=by decide
 notTuple:=by decide
 hint:=fun _ _ _ _ x q=>kdl_hint_dict x.ty q
 iter:=fun _ _ hh x=>⟨_,_,(fun _ _ q=>rawIter nd x q),rawWalks hh _ d (zAE x.lt) ks ep,⟨⟨_,zS _ rfl,rfl,rfl⟩,x.to fun o e=>zD _ e⟩⟩
end
open PySem PySem.W PyProof.Rows
noncomputable def lexlt:List Int->List Int->Bool
 | _,[]=>false
 |[],_ :: _=>true
 |a :: x,b :: y=>decide (a<b) ||(decide (a=b) && lexlt x y)
theorem lexlt_irrefl:∀ x,lexlt x x=false
 |[]=>rfl
 |a :: x=>by simp[lexlt,lexlt_irrefl x]
theorem lexlt_trans:∀ x y z,lexlt x y=true->lexlt y z=true->lexlt x z=true
 | _,_,[],_,h=>by simp[lexlt]at h
 | _,[],_ :: _,h,_=>by simp[lexlt]at h
 |[],_ :: _,_ :: _,_,_=>rfl
 |a :: x,b :: y,c :: z,h,k=>by
  simp only[lexlt,Bool.or_eq_true,zDD,decide_eq_true_eq]at h k ⊢
  rcases h with h |⟨h,h'⟩ <;> rcases k with k |⟨k,k'⟩
  ·left;exact zbs h k
  ·left;exact zey h k
  ·left;exact zfc h k
  ·right;exact⟨by lia,lexlt_trans x y z h' k'⟩
theorem lexlt_neg:∀ x y z,lexlt x z=true->lexlt x y=true\/lexlt y z=true
 | _,_,[],h=>by simp[lexlt]at h
 | _,[],_ :: _,_=>.inr rfl
 |[],_ :: _,_ :: _,_=>.inl rfl
 |a :: x,b :: y,c :: z,h=>by
  simp only[lexlt,Bool.or_eq_true,zDD,decide_eq_true_eq]at h ⊢
  rcases h with h |⟨h,h'⟩
  ·by_cases e:a<b
   ·exact .inl (.inl e)
   ·exact .inr (.inl (by exact zex h e))
  ·rcases lexlt_neg x y z h' with q | q
   ·by_cases e:a<b
    ·exact .inl (.inl e)
    ·by_cases e':a=b
     ·exact .inl (.inr ⟨e',q⟩)
     ·exact .inr (.inl (by exact zfy h e e'))
   ·by_cases e:a<b
    ·exact .inl (.inl e)
    ·by_cases e':b=c
     ·exact .inr (.inr ⟨e',q⟩)
     ·exact .inr (.inl (by exact zfg h e e'))
theorem lexlt_total:∀ x y,lexlt x y=false->lexlt y x=false->x=y
 |[],[],_,_=>rfl
 |[],_ :: _,h,_=>by simp[lexlt]at h
 | _ :: _,[],_,h=>by simp[lexlt]at h
 |a :: x,b :: y,h,k=>by
  simp only[lexlt,Bool.or_eq_false_iff,Bool.and_eq_false_iff,decide_eq_false_iff_not]at h k
  have e:a=b:=by lia
  subst e
  rw[lexlt_total x y (by simpa using h.2) (by simpa using k.2)]
noncomputable abbrev IntsV(ns:List Int)(us:List Value):Prop:=Paired (fun(i:Int) (u:Value)=>∃ t,u=Value.int i t) ns us
theorem IntsV.inj:∀ {ns ms:List Int}{us:List Value},IntsV ns us->IntsV ms us->ns=ms:=by
 intro ns ms us h
 induction h generalizing ms with
 |nil=>intro h';cases h';rfl
 |cons h r ih =>
  intro h'
  cases h' with
  |cons h2 r' =>
   obtain⟨t,e⟩:=h
   obtain⟨t',e'⟩:=h2
   rw[e]at e'
   cases e'
   rw[ih r']
noncomputable def TupI(g:Heap)(v:Value)(ns:List Int):Prop:=∃ a ob its n,v=Value.ref a/\g.get? a=some ob/\ob.cls = .type "tuple"/\ob.data = .seq its n/\IntsV ns its.toList
theorem TupI.inj{g:Heap}{v:Value}{ns ms:List Int}(x:TupI g v ns)(y:TupI g v ms):ns=ms:=by
 obtain⟨a,ob,its,n,rfl,e,_,d,p⟩:=x
 obtain⟨a',ob',its',n',e',q,_,d',p'⟩:=y
 cases e'
 rw[e]at q
 cases q
 rw[d]at d'
 cases d'
 exact p.inj p'
theorem TupI.to{g g':Heap}{v:Value}{ns:List Int}(x:TupI g v ns)(k:∀ b u,v = .ref b->g.get? b=some u->g'.get? b=some u):TupI g' v ns:=by
 obtain⟨a,ob,its,n,rfl,e,r⟩:=x
 exact⟨a,ob,its,n,rfl,k a ob rfl e,r⟩
open Classical in
noncomputable def κT(g:Heap):KeyKind where
 α:=List Int
 blt:=lexlt
 irrefl:=lexlt_irrefl
 trans:=lexlt_trans
 negTrans:=lexlt_neg
 total:=lexlt_total
 keyOf v:=if h:∃ ns,TupI g v ns then some h.choose else none
 dflt:=[]
open Classical in
theorem κT_key{g:Heap}{v:Value}{ns:List Int}(x:TupI g v ns):(κT g).keyOf v=some ns:=by
 have h:∃ ns,TupI g v ns:=⟨ns,x⟩
 show(if h:∃ ns,TupI g v ns then some h.choose else none)=some ns
 rw[dif_pos h,h.choose_spec.inj x]
open Classical in
theorem κT_of{g:Heap}{v:Value}{ns:List Int}(e:(κT g).keyOf v=some ns):TupI g v ns:=by
 have e':(if h:∃ ns,TupI g v ns then some h.choose else none)=some ns:=e
 by_cases h:∃ ns,TupI g v ns
 ·rw[dif_pos h]at e'
  rw[<- Option.some.inj e']
  exact h.choose_spec
 ·rw[dif_neg h]at e'
  cases e'
section
variable{prog:Program}{w:World}{A:Around}{E:Value->Shared->Prop}{s:Shared}
theorem lex_ok{b fin:Bool}{Q:Bool->Shared->Prop}:∀ {ns ms:List Int}{us vs:List Value} (i:Nat),IntsV ns us->IntsV ms vs->fin=decide (ns.length<ms.length)->Q (lexlt ns ms) s->KatLex prog w A b fin Q (us.zip vs) i s:=by
 intro ns ms us vs i h
 induction h generalizing ms vs i with
 |nil =>
  intro h' e q
  rw[e]
  cases h' with
  |nil=>exact kat_nil q
  |cons _ _=>exact kat_nil (show Q (decide (0<_+1)) s by simpa[lexlt]using q)
 | @cons n u ns us h r ih =>
  intro h' e q
  cases h' with
  |nil=>rw[e];exact kat_nil (by simpa[lexlt]using q)
  | @cons m v ms vs h2 r' =>
   obtain⟨t,e1⟩:=h
   obtain⟨t',e2⟩:=h2
   subst e1 e2
   refine kat_cons (wpAny_eqBool_int (kat_go (fun z=>kat_yes ?_) fun z=>kat_no ?_))
   ·have z':n=m:=by simpa using z
    refine ih (i+1) r' (by rw[e];simp) ?_
    have l:lexlt (n :: ns) (m :: ms)=lexlt ns ms:=by simp[lexlt,z']
    rw[<- l]
    exact q
   ·have z':n≠m:=by simpa using z
    have l:lexlt (n :: ns) (m :: ms)=decide (n<m):=by simp[lexlt,z']
    rw[l]at q
    cases hb:(b && i == 0)with
    |true=>exact oneLt_int q
    |false=>exact kat_one _ _ (lt_int q)
theorem ltT_ok{h₁:Heap}{b:Bool}(kp:∀ v ns,TupI h₁ v ns->TupI s.heap v ns):LtOk (κT h₁) (tuples' b) prog w A s:=by
 intro E x y ka kb Q st hk ha hb q
 obtain⟨a,ob,its,n,e1,g1,_,d1,p1⟩:=kp _ _ (κT_of ha)
 obtain⟨a',ob',its',n',e2,g2,_,d2,p2⟩:=kp _ _ (κT_of hb)
 rw[lt'_eq]
 refine wpS_bind (wpS_get ?_)
 rw[hk,e1,e2]
 have l1:ka.length=its.size:=by rw[p1.length];simp
 have l2:kb.length=its'.size:=by rw[p2.length];simp
 refine wpS_bind (wpS_lift (wpAny_attempt (kat_lt g1 d1 g2 d2 (lex_ok (ns:=ka) (ms:=kb) 0 p1 p2 (by rw[l1,l2]) ⟨rfl,?_⟩))))
 exact wpS_pure q
theorem map2_pairs:∀ {l:List Keyed},(∀ p∈l,p.1=p.2)->(l.map (·.2)).zip (l.map (·.2))=l
 |[],_=>rfl
 |p :: l,h=>by
  have e:p.1=p.2:=h p (zT ..)
  show(p.2,p.2) :: (l.map (·.2)).zip (l.map (·.2))=_
  rw[map2_pairs fun q hq=>h q (zY _ hq)]
  congr 1
  exact Prod.ext e.symm rfl
theorem mem_zip_self:∀ {l:List Value}{p:Keyed},p∈l.zip l->p.1=p.2/\p.2∈l
 |[],p,h=>by simp at h
 |v :: l,p,h=>by
  rcases zAF.mp (show p∈(v,v) :: l.zip l from h)with e | e
  ·rw[e];exact⟨rfl,zT ..⟩
  ·exact⟨(mem_zip_self e).1,zY _ (mem_zip_self e).2⟩
theorem map2_zip:∀ {l:List Value},(l.zip l).map (·.2)=l
 |[]=>rfl
 |v :: l=>by show v :: (l.zip l).map (·.2)=_;rw[map2_zip]
theorem back_pairs{xs:Array Keyed}{vs:List Value}(hp:xs.Perm (pairsOf vs)):xs=pairsOf (xs.toList.map (·.2))/\(xs.toList.map (·.2)).Perm vs:=by
 have hp':xs.toList.Perm (vs.zip vs):=by
  have:=Array.perm_iff_toList_perm.mp hp
  rw[pairsOf_toList]at this
  exact this
 refine⟨?_,?_⟩
 ·apply Array.ext'
  rw[pairsOf_toList,map2_pairs fun p hq=>(mem_zip_self (hp'.mem_iff.mp hq)).1]
 ·have:=hp'.map (·.2)
  rw[map2_zip]at this
  exact this
theorem sort_gen{κ:KeyKind}{kd:SortKind}{a:Addr}{vs:List Value}{n:Nat}{P:Fin->Shared->Prop}(ho:s.heap.get? a=some (seqObj "list" vs.toArray n))(h0:KeysOf κ (pairsOf vs))(hl:vs.length<5000)
  (hk:2<=vs.length->∀ g:Heap,(∀ b u,b≠a->s.heap.get? b=some u->g.get? b=some u)->LtOk κ kd prog w A { s with heap:=g }/\∀ R:SortKind->Shared->Prop,R kd { s with heap:=g }->wpAny (model prog w) A (keyKind' vs.toArray) R E { s with heap:=g })
  (h:∀ (ws:List Value) (g:Heap) (c:Nat),ws.Perm vs->SortedToK κ (pairsOf ws) ws.length->(∀ b u,b≠a->s.heap.get? b=some u->g.get? b=some u)->g.get? a=some (seqObj "list" ws.toArray c)->P (.done (.ret .none)) { s with heap:=g }) :
  wpAny (model prog w) A (Builtin.«list.sort» ⟨[.ref a],[]⟩) P E s:=by
 have lt0:a<s.heap.objs.size:=zN ho
 have k1:∀ b u,b≠a->s.heap.get? b=some u->(s.heap.update a (Obj.mapSeq fun _=>#[])).get? b=some u:=fun b u ne e=>by rw[Heap.get?_update_ne _ _ _ _ ne];exact e
 obtain⟨c1,g1⟩:∃ c1,(s.heap.update a (Obj.mapSeq fun _=>#[])).get? a=some (seqObj "list" #[] c1):=⟨_,get?_update_seq ho _⟩
 generalize hg1:s.heap.update a (Obj.mapSeq fun _=>#[])=G1 at k1 g1
 have k2:∀ b u,b≠a->s.heap.get? b=some u->((G1.push (seqObj "tuple" vs.toArray 0)).push (seqObj "list" #[] 0)).get? b=some u:=fun b u ne e=>zD _ (zD _ (k1 b u ne e))
 have g2:((G1.push (seqObj "tuple" vs.toArray 0)).push (seqObj "list" #[] 0)).get? a=some (seqObj "list" #[] c1):=zD _ (zD _ g1)
 rw[list_sort_plain]
 refine zA (listItems_at ho rfl (zA (listUpdate_at ho rfl ?_ (hsz:=by rw[zV,sizeLine_eq];exact zl4 hl rfl))))
 rw[hg1]
 refine zA (seqEpoch_at g1 rfl (zA (wpAny_newTuple ?_ (by show vs.length<=_;rw[sizeLine_eq];exact zl4 hl rfl))))
 refine zA (wpAny_newList (wpAny_holding ?_))
 show wpAny (model prog w) A _ P E { s with heap:=(G1.push (seqObj "tuple" vs.toArray 0)).push (seqObj "list" #[] 0) }
 generalize (G1.push (seqObj "tuple" vs.toArray 0)).push (seqObj "list" #[] 0)=G2 at k2 g2
 dsimp only
 have fin:∀ st':SortSt,(arrOf st').Perm (pairsOf vs)->SortedToK κ (arrOf st') (pairsOf vs).size->P (.done (.ret .none)) { s with heap:=G2.update a (Obj.mapSeq fun _=>(arrOf st').map (·.2)) }:=fun st' hp hs=>by
  obtain⟨e,p⟩:=back_pairs hp
  obtain⟨c3,g3⟩:∃ c3,(G2.update a (Obj.mapSeq fun _=>(arrOf st').map (·.2))).get? a=some (seqObj "list" ((arrOf st').map (·.2)) c3):=⟨_,get?_update_seq g2 _⟩
  refine h ((arrOf st').toList.map (·.2)) _ c3 p ?_ (fun b u ne z=>by rw[Heap.get?_update_ne _ _ _ _ ne];exact k2 b u ne z) ?_
  ·rw[<- e]
   have l2:(pairsOf vs).size=((arrOf st').toList.map (·.2)).length:=by rw[pairsOf_size,p.length_eq]
   rw[<- l2]
   exact hs
  ·rw[g3]
   congr 2
   apply Array.ext'
   simp
 by_cases h2:vs.toArray.size<2
 ·rw[if_pos h2,if_pos h2]
  refine zA (zG ?_)
  rw[StateT.run_pure]
  refine zA (zG ?_)
  dsimp only
  refine zA (seqEpoch_at g2 rfl (zA (listUpdate_at g2 rfl ?_ (hsz2:=by rw[Array.size_map];show(pairsOf vs).size<=_;rw[pairsOf_size,sizeLine_eq];exact zl4 hl rfl))))
  simp only[bne_self_eq_false,zCE,if_false]
  refine zG (fin (SortSt.mk' general' (vs.toArray.zip vs.toArray) #[] 7 none) (Array.Perm.refl _) fun i j ij jl=>?_)
  have e:i=j:=by
   rw[pairsOf_size]at jl
   simp only[zV]at h2
   lia
  rw[e]
  exact KeyOrd.kle_refl _
 ·have h2':2<=vs.length:=by simpa using h2
  obtain⟨lo,kk⟩:=hk h2' G2 k2
  rw[if_neg h2,if_neg h2]
  refine zA (kk _ ?_)
  refine zA (wpAny_mono (runs_ok (κ:=κ) (kd:=kd) (a₀:=pairsOf vs) (st:=SortSt.mk' kd (vs.toArray.zip vs.toArray) #[] 7 none) (Q:=fun _ st'=>(arrOf st').Perm (pairsOf vs)/\failedOf st'=none/\SortedToK κ (arrOf st') (pairsOf vs).size)
   lo h0 ⟨Array.Perm.refl _,rfl,rfl,rfl,fun k z=>absurd z (Nat.not_lt_zero _)⟩ (by rw[pairsOf_size];exact h2') fun st' a1 a2 a3=>⟨a1,a2,fun i j ij jl=>by
    have:=a3 i j ij jl
    rw[zBN,zBN]at this
    exact this⟩) ?_ fun _ _ e=>e)
  rintro⟨⟨⟩,st'⟩ s' ⟨rfl,hp,hf,hs⟩
  dsimp only
  refine zA (seqEpoch_at g2 rfl (zA (listUpdate_at g2 rfl ?_ (hsz2:=by refine zC (zAB ((Array.size_map ..).trans (hp.size_eq.trans (pairsOf_size _)))) ?_;rw[sizeLine_eq];exact zl4 hl rfl))))
  rw[hf]
  simp only[bne_self_eq_false,zCE,if_false]
  exact zG (fin st' hp hs)
theorem sort_at{κ:KeyKind}{kd:SortKind}{a:Addr}{vs:List Value}{n:Nat}{P:Fin->Shared->Prop}(ho:s.heap.get? a=some (seqObj "list" vs.toArray n))(h0:KeysOf κ (pairsOf vs))(hl:vs.length<128)
  (hk:2<=vs.length->∀ g:Heap,(∀ b u,b≠a->s.heap.get? b=some u->g.get? b=some u)->LtOk κ kd prog w A { s with heap:=g }/\∀ R:SortKind->Shared->Prop,R kd { s with heap:=g }->wpAny (model prog w) A (keyKind' vs.toArray) R E { s with heap:=g })
  (h:∀ (ws:List Value) (g:Heap) (c:Nat),ws.Perm vs->SortedToK κ (pairsOf ws) ws.length->(∀ b u,b≠a->s.heap.get? b=some u->g.get? b=some u)->g.get? a=some (seqObj "list" ws.toArray c)->P (.done (.ret .none)) { s with heap:=g }) :
  wpAny (model prog w) A (Builtin.«list.sort» ⟨[.ref a],[]⟩) P E s:=sort_gen ho h0 (zE hl (by decide)) hk h
end
end Srt
namespace L2
open PySem PySem.W PyProof.Rows Srt
theorem intsV_of:∀ {ns:List Int}{us:List Value},Vals (ns.map V.int) us->IntsV ns us
 |[],_,.nil=>.nil
 |n :: ns,_,.cons r t=>.cons r (intsV_of t)
noncomputable def keyA(g:Heap)(a:Addr):List Int:=(show Option (List Int)from(κT g).keyOf (.ref a)).getD []
theorem keyA_eq{g:Heap}{a:Addr}{k:List Int}(x:TupI g (.ref a) k):keyA g a=k:=by
 unfold keyA
 rw[κT_key x]
 rfl
noncomputable def unref:Value->Addr
 | .ref a=>a
 | _=>(0:Nat)
section
variable{X:Cx}{pins:List (Addr×Obj)}{σ:St}{H:Hp}{s:Shared}
theorem tupI_of(I:Inv X pins σ H s){a:Addr}{ns:List Int}(h:H a=some (.tup (ns.map V.int))):TupI s.heap (.ref a) ns:=by
 obtain⟨its,r,⟨o,e,c,n,d⟩,_⟩:=I.tuple (SqT.of h)
 exact⟨a,o,_,n,rfl,e,c,d,intsV_of r⟩
theorem looks_int{M:Model}{h:Heap}{i:Int}{t:Tok}:Looks M h (typeOf (.int i t)) (Value.type "int"):=Looks.now
theorem tups_of{g:Heap}:∀ {as:List Addr}{ks:List (List Int)},Paired (fun a k=>TupI g (.ref a) k/\k≠[]) as ks->∃ fs:List Value,KatTups g (as.map .ref) fs/\fs.length=as.length/\∀ v∈fs,∃ i t,v=Value.int i t:=by
 intro as ks h
 induction h with
 |nil=>exact⟨[],trivial,rfl,fun _ h=>nomatch h⟩
 | @cons a k as ks h r ih =>
  obtain⟨⟨a',o,its,n,e,g1,c,d,p⟩,ne⟩:=h
  cases e
  obtain⟨fs,t,l,z⟩:=ih
  cases k with
  |nil=>exact absurd rfl ne
  |cons i k =>
   obtain⟨il⟩:=its
   cases p with
   |cons r1 r2 =>
    obtain⟨tk,rfl⟩:=r1
    refine⟨_ :: fs,KatTups.cons g1 c d rfl t,by simp[l],fun v hv=>?_⟩
    rcases zAF.mp hv with e | e
    ·exact⟨i,tk,e⟩
    ·exact z v e
theorem sort_new{L:Addr}{A:Around}{E:Value->Shared->Prop}{as:List Addr}{ks:List (List Int)}{P:Fin->Shared->Prop}(ho:s.heap.get? L=some (seqObj "list" (as.map Value.ref).toArray 0))(hT:Paired (fun a k=>TupI s.heap (.ref a) k/\k≠[]) as ks)(hl:as.length<128)
  (h:∀ (bs:List Addr) (ns:List (List Int)) (g:Heap) (c:Nat),bs.Perm as->ns.Perm ks->ns.Pairwise (fun x y=>lexlt y x=false)->Paired (fun a k=>TupI s.heap (.ref a) k) bs ns->(∀ b u,b≠L->s.heap.get? b=some u->g.get? b=some u)->g.get? L=some (seqObj "list" (bs.map Value.ref).toArray c) ->
   P (.done (.ret .none)) { s with heap:=g }):wpAny (model X.prog X.w) A (Builtin.«list.sort» ⟨[.ref L],[]⟩) P E s:=by
 have neL:∀ v ns,TupI s.heap v ns->v≠.ref L:=fun v ns x e=>by
  obtain⟨a,o,its,n,rfl,g1,c,_⟩:=x
  cases e
  rw[ho]at g1
  cases g1
  exact absurd (show Value.type "list" = Value.type "tuple" from c) (by decide)
 have lenk:as.length=ks.length:=hT.length
 have kp:∀ g:Heap,(∀ b u,b≠L->s.heap.get? b=some u->g.get? b=some u)->∀ v ns,TupI s.heap v ns->TupI g v ns:=fun g k v ns x=>x.to fun b u e z=>k b u (fun q=>neL v ns x (by rw[e,q])) z
 have memk:∀ v∈as.map Value.ref,∃ k,TupI s.heap v k:=fun v hv=>by
  obtain⟨a,ha,rfl⟩:=zAR.mp hv
  clear h ho neL kp hl lenk hv
  induction hT with
  |nil=>cases ha
  |cons r _ ih =>
   rcases zAF.mp ha with e | e
   ·rw[e];exact⟨_,r.1⟩
   ·exact ih e
 refine sort_at (κ:=κT s.heap) (kd:=tuples' true) ho (fun p hp=>?_) (by rw[zB];exact hl) (fun l2 g k=>⟨ltT_ok (kp g k),fun R hR=>?_⟩) fun ws g c pw sw k gL=>?_
 ·rw[pairsOf_toList]at hp
  obtain⟨e1,e2⟩:=Srt.mem_zip_self hp
  obtain⟨kk,x⟩:=memk p.2 e2
  rw[e1]
  exact⟨kk,κT_key x⟩
 ·have hT':Paired (fun a k=>TupI g (.ref a) k/\k≠[]) as ks:=Paired.mapP hT fun a b z=>⟨kp g k _ _ z.1,z.2⟩
  obtain⟨fs,t,l,z⟩:=tups_of hT'
  by_cases e0:fs=[]
  ·rw[e0]at l
   rw[zB]at l2
   simp at l
   lia
  ·refine kat_kind (T:=Value.type "int") t (List.length_pos_iff.mpr e0) (fun v hv=>?_) (by decide) ?_
   ·obtain⟨i,tk,rfl⟩:=z v hv
    exact looks_int
   ·have e:(Value.type "int" != Value.type "tuple")=true:=by decide
    rw[e]
    exact hR
 ·-- the values are refs again,the keys a permutation
  have unr:∀ l:List Value,(∀ v∈l,∃ a,v=Value.ref a)->(l.map unref).map Value.ref=l:=fun l hl=>by
   induction l with
   |nil=>rfl
   |cons v l ih =>
    obtain⟨a,rfl⟩:=hl v (zT ..)
    rw[zAI,zAI,ih fun v hv=>hl v (zY _ hv)]
    rfl
  have eb:(ws.map unref).map Value.ref=ws:=unr ws fun v hv=>by
   obtain⟨a,_,rfl⟩:=zAR.mp (pw.mem_iff.mp hv)
   exact⟨a,rfl⟩
  have pb:(ws.map unref).Perm as:=by
   have:=pw.map unref
   rw[zBU]at this
   have e:(as.map (unref ∘ Value.ref))=as:=by
    rw[show(unref ∘ Value.ref)=id from rfl,List.map_id]
   rw[e]at this
   exact this
  generalize ws.map unref=bs at eb pb
  subst eb
  have ek:ks=as.map (keyA s.heap):=by
   clear h ho neL kp hl lenk memk pw sw pb
   induction hT with
   |nil=>rfl
   |cons r _ ih=>rw[zAI,keyA_eq r.1,<- ih]
  have kb:∀ b∈bs,TupI s.heap (.ref b) (keyA s.heap b):=fun b hb=>by
   obtain⟨k,x⟩:=memk (.ref b) (zAR.mpr ⟨b,pb.mem_iff.mp hb,rfl⟩)
   rw[keyA_eq x]
   exact x
  refine h bs (bs.map (keyA s.heap)) g c pb (by rw[ek];exact pb.map _) ?_ ?_ k gL
  ·rw[zBX]
   intro i j hi hj ij
   rw[zB]at hi hj
   have z:=sw i j (zAA ij) (by rw[zB];exact hj)
   have kk:∀ m (hm:m<bs.length),KK (κT s.heap) (pairsOf (bs.map Value.ref)) m=keyA s.heap bs[m]:=fun m hm=>by
    have e:(pairsOf (bs.map Value.ref))[m]?=some (Value.ref bs[m],Value.ref bs[m]):=by simp[pairsOf,hm]
    unfold KK
    rw[e]
    rfl
   rw[kk i hi,kk j hj]at z
   rw[zO,zO]
   exact z
  ·clear h ho neL kp hl lenk memk pw sw pb gL
   induction bs with
   |nil=>exact .nil
   |cons b bs ih=>exact .cons (kb b (zT ..)) (ih fun b hb=>kb b (zY _ hb))
theorem call_sortedD(hc:X.calm=true):CallR X (.builtin "sorted") (fun xs H Q=>∃ d kvs ks,xs=[V.ref d]/\H d=some (.dT kvs)/\kvs.map (·.1)=List.map (List.map Sum.inl) ks/\(∀ k∈ks,k≠[])/\kvs.length<128 /\
  ∀ (l:Addr) (as:List Addr) (ns:List (List Int)),H l=none->ns.Perm ks->ns.Pairwise (fun x y=>lexlt y x=false)->Paired (fun a n=>H a=some (.tup (n.map V.int))) as ns->Q (.ref l) (upd H l (.lst (as.map V.ref)))):=by
 intro pins s σ H xs us Q I r h
 obtain⟨d,kvs,ks,rfl,hd,hks,hne,hlen,q⟩:=h
 obtain⟨u,rfl,rx⟩:=vals1 r
 cases rx
 obtain⟨z,nsys,xs,pr,o,es,ep,go,ex,dt,ee,nd⟩:=I.hok d _ hd
 have hpl:xs.length=kvs.length:=pr.length.symm
 have hT:Paired (fun a k=>(H a=some (.tup (k.map V.int))/\k≠[])) (xs.map fun q=>q.2.1) ks:=by
  clear q hd hlen z nd go ex dt ee hpl
  induction pr generalizing ks with
  |nil =>
   cases ks with
   |nil=>exact .nil
   |cons _ _=>simp at hks
  | @cons p x l1 l2 r1 r2 ih =>
   cases ks with
   |nil=>simp at hks
   |cons k ks =>
    simp only[zAI,List.cons.injEq]at hks
    refine .cons ⟨?_,hne k (zT ..)⟩ (ih ks hks.2 fun k hk=>hne k (zY _ hk))
    rw[r1.2.1,hks.1,zBU]
    rfl
 have raw:RawD d (xs.map fun q=>Value.ref q.2.1) ep s.heap:=⟨o,es,go,ex,dt,by rw[ee,zBU];rfl⟩
 refine Calls.call_function_entry kind_sorted plain_sorted entry_sorted (args_sorted1 _) ?_
 unfold Builtin.«sorted»
 refine zA (m:=checkCount "sorted" 1 1 _) (zG (zA (kdu_collect (A:=X.A.in1) (rawSrc nsys) (show X.A.handled=none from I.ok.hd hc) raw (by rw[zB,hpl,sizeLine_eq];exact zl4 hlen rfl) fun h' tk acc kp hacc=>?_)))
 have eacc:acc.toList=(xs.map fun q=>q.2.1).map Value.ref:=by
  apply List.ext_getElem?
  intro i
  by_cases hi:i<acc.size
  ·have e1:acc.toList[i]?=some acc[i]:=by rw[zBR,zAS hi]
   have e2:=hacc.2 i acc[i] (zAS hi)
   rw[e1,zBU]
   exact e2.symm
  ·have l0:=hacc.1
   rw[zB]at l0
   rw[List.getElem?_eq_none (by rw[zBT];exact zj3 hi),List.getElem?_eq_none (by rw[zB,zB];exact zh9 (zj3 hi) (Eq.symm l0))]
 rw[eacc]
 generalize exs:(xs.map fun q=>q.2.1)=as0 at hT
 have las:as0.length<128:=by rw[<- exs,zB];exact zI (zAB hpl) hlen
 refine zA (wpAny_newList ?_ (by rw[zB,sizeLine_eq];exact zl4 las rfl))
 have gL:(h'.push (seqObj "list" (as0.map Value.ref).toArray 0)).get? h'.objs.size=some (seqObj "list" (as0.map Value.ref).toArray 0):=zS _ rfl
 have I1:Inv X pins σ H { s with heap:=h',toks:=tk }:=I.kept kp
 have kp2:∀ b u,h'.get? b=some u->(h'.push (seqObj "list" (as0.map Value.ref).toArray 0)).get? b=some u:=fun b u e=>zD _ e
 have tT:Paired (fun a k=>TupI (h'.push (seqObj "list" (as0.map Value.ref).toArray 0)) (.ref a) k/\k≠[]) as0 ks:=Paired.mapP hT fun a k z=>⟨(tupI_of I1 z.1).to fun b u _ e=>kp2 b u e,z.2⟩
 have memH:∀ a∈as0,∃ k:List Int,H a=some (.tup (k.map V.int)):=fun a ha=>by
  clear q exs eacc raw gL tT kp2 las hks hne hlen
  induction hT with
  |nil=>cases ha
  |cons r _ ih =>
   rcases zAF.mp ha with e | e
   ·rw[e];exact⟨_,r.1⟩
   ·exact ih e
 refine zA (wpAny_holding (wpAny_call_entry slot_list_sort ⟨_,gL,rfl⟩ entry_list_sort (sort_new (X:=X) (s:={ s with heap:=h'.push (seqObj "list" (as0.map Value.ref).toArray 0),toks:=tk }) gL tT las fun bs ns g c pb pn pw pt kp3 gg=>⟨_,rfl,?_⟩) (args_list_sort _)))
 refine zG ⟨_,rfl,.ref h'.objs.size,_,I1.laid (t':=tk) (a:=h'.objs.size) (o:=.lst (bs.map V.ref)) (fun b u e=>kp3 b u (zAE (zN e)) (kp2 b u e)) (zJ _) (show ObjOk X.prog X.w _ g _ (.lst (bs.map V.ref))from⟨?_,bs.map Value.ref,c,?_,gg⟩),rfl,q _ bs ns (I1.hok.fresh (zJ _)) pn pw ?_⟩
 ·rw[zB,pb.length_eq,sizeLine_eq];exact zl4 las rfl
 ·clear pb pt gg
  induction bs with
  |nil=>exact .nil
  |cons b bs ih=>exact .cons rfl ih
 ·have memB:∀ a∈bs,∃ k:List Int,H a=some (.tup (k.map V.int)):=fun a ha=>memH a (pb.mem_iff.mp ha)
  clear pb gg pn pw
  induction pt with
  |nil=>exact .nil
  | @cons a k l1 l2 r1 _ ih =>
   refine .cons ?_ (ih fun a ha=>memB a (zY _ ha))
   obtain⟨k',e⟩:=memB a (zT ..)
   rw[e,r1.inj ((tupI_of I1 e).to fun b u _ z=>kp2 b u z)]
end
open PySem PySem.W PyProof.Rows
section
variable{X:Cx}
theorem call_sum(hc:X.calm=true):CallR X (.builtin "sum") (fun xs H Q=>∃ (l:Addr) (ns:List Int),xs=[V.ref l]/\SqL X.K H l (ns.map V.int)/\Q (.int ns.sum) H):=by
 intro pins s σ H xs us Q I r h
 obtain⟨l,ns,rfl,hq,q⟩:=h
 obtain⟨u,rfl,rx⟩:=vals1 r
 cases rx
 obtain⟨its,r',pl,hz⟩:=I.list hq
 have hi:=intsAre_of r'
 obtain⟨ys,hx⟩:=hi.allInts.items
 have pl':s.heap.IsList l (intItems ys):=hx▸pl.isList
 refine sum_intListG (I.ok.hd hc) pl' fun h' tk t' hk=>?_
 have e1:ns=ys.toList.map (·.1):=by
  rw[<- nums_intItems,<- hx]
  exact(show numsOf its.toArray.toList=ns from hi.numsOf).symm
 have e2:preSum (numAt ys) ys.size=ns.sum:=by rw[preSum_eq,zCI (by simp),e1]
 rw[e2]
 exact⟨.int ns.sum,H,I.kept hk,⟨t',rfl⟩,q⟩
theorem call_range(X:Cx):CallR X (.type "range") (fun xs H Q=>∃ j:Int,xs=[V.int j]/\∀ p,H p=none->Q (.ref p) (upd H p (.rng 0 j))):=by
 intro pins s σ H xs us Q I r h
 obtain⟨j,rfl,q⟩:=h
 obtain⟨u,rfl,t,rfl⟩:=vals1 r
 refine call_range_1 ⟨.ref s.heap.objs.size,_,I.laid (t':=s.toks+1+1) (a:=s.heap.objs.size) (o:=.rng 0 j) (fun b o e=>zD _ e) (zJ _) ⟨_,_,_,zS _ rfl⟩,rfl,q _ (I.hok.fresh (zJ _))⟩
noncomputable def upto(n:Nat):List Int:=(List.range n).map fun(i:Nat)=>(i:Int)
theorem upto_length(n:Nat):(upto n).length=n:=by simp[upto]
theorem call_list_rng(hc:X.calm=true):CallR X (.type "list") (fun xs H Q=>∃ p j,xs=[V.ref p]/\H p=some (.rng 0 j)/\-(2 ^ 62)<=j/\j<=1000000/\∀ l,H l=none->Q (.ref l) (upd H l (.lst ((upto j.toNat).map V.int)))):=by
 intro pins s σ H xs us Q I r h
 obtain⟨p,j,rfl,hp,h1,h2,q⟩:=h
 obtain⟨u,rfl,rx⟩:=vals1 r
 cases rx
 obtain⟨t,u,v,e⟩:=I.hok p _ hp
 have rs:Builtin.Range.rangeSize 0 j 1=((j.toNat:Nat):Int):=by rw[rangeSize_one];split <;> lia
 refine call_list_range (I.ok.hd hc) (show IsRange s.heap p 0 j 1 t u v from e) (small_one (by lia) (by lia) h1 (by lia)) rs (by lia) fun h' tk acc c kp hD hI=>?_
 refine⟨.ref s.heap.objs.size,_,I.laid (t':=tk) (a:=s.heap.objs.size) (o:=.lst ((upto j.toNat).map V.int)) kp (zJ _) (show ObjOk X.prog X.w _ h' _ (.lst ((upto j.toNat).map V.int))from⟨?_,acc.toList,c,?_,by rw[Array.toArray_toList];exact hD⟩),rfl,q _ (I.hok.fresh (zJ _))⟩
 ·rw[zB,upto_length,sizeLine_eq];lia
 ·have len:acc.toList.length=j.toNat:=by rw[zBT];exact hI.1
  have key:∀ (n:Nat) (a:List Value) (b:Nat),a.length=n->(∀ i u,a[i]?=some u->∃ t,u=Value.int ((b+i:Nat):Int) t)->Vals (((List.range' b n).map fun(i:Nat)=>(i:Int)).map V.int) a:=by
   intro n
   induction n with
   |zero=>intro a b e _;rw[List.eq_nil_of_length_eq_zero e];exact .nil
   |succ n ih =>
    intro a b e f
    cases a with
    |nil=>simp at e
    |cons u a =>
     rw[List.range'_succ,zAI,zAI]
     refine .cons (f 0 u rfl) (ih a (b+1) (by simpa using e) fun i u hu=>?_)
     obtain⟨t,z⟩:=f (i+1) u (by simpa using hu)
     exact⟨t,by rw[z];congr 1;lia⟩
  have:=key j.toNat acc.toList 0 len fun i u hu=>by
   obtain⟨t,z⟩:=hI.2 i u (by rw[<- zBR];exact hu)
   exact⟨t,by rw[z];congr 1;lia⟩
  rw[<- List.range_eq_range']at this
  exact this
theorem call_isinst:CallR X (.builtin "isinstance") (fun xs H Q=>∃ x t c b,xs=[x,V.ty c]/\TyOf X.K H x t/\PySem.W.kitOne X.K t (.type c)=some b/\Q (.bl b) H):=by
 intro pins s σ H xs us Q I r h
 obtain⟨x,t,c,b,rfl,ty,e,q⟩:=h
 obtain⟨u,u',rfl,rx,rc⟩:=vals2 r
 cases rc
 exact isinst_ok I rx ty e fun tk=>⟨.bl b,H,I.tok _,rfl,q⟩
end
theorem star_sub{a b:Expr}{pos:Pos}{rest:List Expr}{env:Env}:starEach (.Subscript a b pos :: rest) env=(false,eval (.Subscript a b pos) env) :: starEach rest env:=rfl
theorem star_call{f:Expr}{args:List Expr}{ks:List Keyword}{pos:Pos}{rest:List Expr}{env:Env}:starEach (.Call f args ks pos :: rest) env=(false,eval (.Call f args ks pos) env) :: starEach rest env:=rfl
theorem star_bin{a b:Expr}{op:Operator}{pos:Pos}{rest:List Expr}{env:Env}:starEach (.BinOp a op b pos :: rest) env=(false,eval (.BinOp a op b pos) env) :: starEach rest env:=rfl
theorem star_comp{e:Expr}{gs:List Comprehension}{sc:Scope}{pos:Pos}{rest:List Expr}{env:Env}:starEach (.ListComp e gs sc pos :: rest) env=(false,eval (.ListComp e gs sc pos) env) :: starEach rest env:=rfl
theorem star_lst{es:List Expr}{pos:Pos}{rest:List Expr}{env:Env}:starEach (.List es pos :: rest) env=(false,eval (.List es pos) env) :: starEach rest env:=rfl
theorem star_tup{es:List Expr}{k:Nat}{pos:Pos}{rest:List Expr}{env:Env}:starEach (.Tuple es k pos :: rest) env=(false,eval (.Tuple es k pos) env) :: starEach rest env:=rfl
section
variable{X:Cx}{es:List Expr}{te:TE}{t:TA}{pos:Pos}
theorem pa_sub{a b:Expr}(ha:PE X (.Subscript a b pos) te)(hr:PA X es t):PA X (.Subscript a b pos :: es) (tCons te t):=pa_cons ha hr (hs:=star_sub)
theorem pa_call{f:Expr}{args:List Expr}{ks:List Keyword}(ha:PE X (.Call f args ks pos) te)(hr:PA X es t):PA X (.Call f args ks pos :: es) (tCons te t):=pa_cons ha hr (hs:=star_call)
theorem pa_bin{a b:Expr}{op:Operator}(ha:PE X (.BinOp a op b pos) te)(hr:PA X es t):PA X (.BinOp a op b pos :: es) (tCons te t):=pa_cons ha hr (hs:=star_bin)
theorem pa_comp{e:Expr}{gs:List Comprehension}{sc:Scope}(ha:PE X (.ListComp e gs sc pos) te)(hr:PA X es t):PA X (.ListComp e gs sc pos :: es) (tCons te t):=pa_cons ha hr (hs:=star_comp)
theorem pa_lst{xs:List Expr}(ha:PE X (.List xs pos) te)(hr:PA X es t):PA X (.List xs pos :: es) (tCons te t):=pa_cons ha hr (hs:=star_lst)
theorem pa_tup{xs:List Expr}{k:Nat}(ha:PE X (.Tuple xs k pos) te)(hr:PA X es t):PA X (.Tuple xs k pos :: es) (tCons te t):=pa_cons ha hr (hs:=star_tup)
theorem star_cst{c:Const}{k:Nat}{pos:Pos}{rest:List Expr}{env:Env}:starEach (.Constant c k pos :: rest) env=(false,eval (.Constant c k pos) env) :: starEach rest env:=rfl
theorem star_nam{x:Str}{pos:Pos}{rest:List Expr}{env:Env}:starEach (.Name x pos :: rest) env=(false,eval (.Name x pos) env) :: starEach rest env:=rfl
theorem pa_cst{c:Const}{k:Nat}(ha:PE X (.Constant c k pos) te)(hr:PA X es t):PA X (.Constant c k pos :: es) (tCons te t):=pa_cons ha hr (hs:=star_cst)
theorem pa_nam{x:Str}(ha:PE X (.Name x pos) te)(hr:PA X es t):PA X (.Name x pos :: es) (tCons te t):=pa_cons ha hr (hs:=star_nam)
end
end L2
namespace Srt
open PySem PySem.W PyProof.Rows
noncomputable def SeqK(b:Bool)(g:Heap)(l:Addr)(xs:Array Value):Prop:=match b with
 |true=>g.IsTuple l xs
 |false=>g.IsList l xs
noncomputable def ItK(b:Bool)(g:Heap)(it l:Addr)(i:Nat):Prop:=match b with
 |true=>g.IsTupleIter it l i
 |false=>g.IsListIter it l i
noncomputable def itO(b:Bool)(l:Addr):Obj:=match b with
 |true=>{ cls:=.type "tuple_iterator",data:=.fields #[.ref l,.int 0 0] }
 |false=>{ cls:=.type "list_iterator",data:=.fields #[.ref l,.int 0 0] }
theorem SeqK.to{b:Bool}{g g':Heap}{l:Addr}{xs:Array Value}(x:SeqK b g l xs)(k:∀ o,g.get? l=some o->g'.get? l=some o):SeqK b g' l xs:=by
 cases b
 ·exact Heap.IsList.at x k
 ·exact Heap.IsTuple.at x k
theorem ItK.to{b:Bool}{g g':Heap}{it l:Addr}{i:Nat}(x:ItK b g it l i)(k:∀ o,g.get? it=some o->g'.get? it=some o):ItK b g' it l i:=by
 cases b
 ·exact Heap.IsListIter.at x k
 ·obtain⟨o,e,r⟩:=(show g.IsTupleIter it l i from x)
  exact⟨o,k o e,r⟩
theorem ItK.lt{b:Bool}{g:Heap}{it l:Addr}{i:Nat}(x:ItK b g it l i):∃ o,g.get? it=some o/\∀ v,o.data≠.cell v:=by
 cases b
 ·obtain⟨o,e,c,d⟩:=(show g.IsListIter it l i from x)
  exact⟨o,e,fun v z=>by rw[d]at z;cases z⟩
 ·obtain⟨o,e,c,d⟩:=(show g.IsTupleIter it l i from x)
  exact⟨o,e,fun v z=>by rw[d]at z;cases z⟩
section
variable{prog:Program}{w:World}{A:Around}{E:Value->Shared->Prop}{s:Shared}
theorem nextK_item{b:Bool}{it l:Addr}{i:Nat}{xs:Array Value}{x:Value}{Q:Value->Shared->Prop}(hit:ItK b s.heap it l i)(hl:SeqK b s.heap l xs)(hx:xs[i]?=some x)
  (q:∀ g,ItK b g it l (i+1)->Heap.SameBut it s.heap g->Q x { s with heap:=g }):wpAny (model prog w) A (Builtin.SmallTypes.nextOf (.ref it)) Q E s:=by
 cases b
 ·exact wpAny_nextOf_list_item hit hl hx q
 ·have ty:s.TypeIs (.ref it) "tuple_iterator":=by
   obtain⟨o,e,c,_⟩:=(show s.heap.IsTupleIter it l i from hit)
   exact⟨o,e,c⟩
  obtain⟨o,e,c,d⟩:=(show s.heap.IsTupleIter it l i from hit)
  obtain⟨o2,e2,_,n2,d2⟩:=(show s.heap.IsTuple l xs from hl)
  unfold Builtin.SmallTypes.nextOf;refine zA (wpAny_callSpecial?_slot (name:=Str.ofString "__next__") ty F.slot_tuple_iterator_next (wpAny_call_entry F.slot_tuple_iterator_next ty F.entry_tuple_iterator_next ?_ (F.args_tuple_iterator_next_1 _)))
  show wpAny _ _ (field (.ref it) 0 >>= _) _ _ s;refine zA (wpAny_field e d (x:=.ref l) rfl ?_)
  show wpAny _ _ (if(Value.ref l == Value.none)=true then _ else _) _ _ s;rw[if_neg (show ¬((Value.ref l == Value.none)=true)from zW)]
  show wpAny _ _ (field (.ref it) 1 >>= _) _ _ s;refine zA (wpAny_field e d (x:=.int i 0) rfl ?_)
  show wpAny _ _ (seqItems? (.ref l) >>= _) _ _ s;refine zA (wpAny_seqItems e2 d2 ?_)
  simp only[zAQ,hx]
  refine zA (wpAny_setField e d (by simp) (zG ⟨x,rfl,zG (q _ ?_ (Heap.SameBut.update ..))⟩))
  exact(show Heap.IsTupleIter _ it l (i+1)from⟨_,Heap.get?_update_self _ e (Obj.isFreed_of_fields (Obj.data_mapFields d _)),(Obj.cls_mapFields ..).trans c,by rw[Obj.data_mapFields d];simp[rawInt]⟩)
theorem nextK_end{b:Bool}{it l:Addr}{i:Nat}{xs:Array Value}{Q:Value->Shared->Prop}(hh:A.handled=none)(hit:ItK b s.heap it l i)(hl:SeqK b s.heap l xs)(hx:xs[i]?=none)
  (q:∀ g e,Heap.ExtBut it s.heap g->(∃ o,g.get? e=some o/\o.cls = .type "StopIteration")->E (.ref e) { s with heap:=g }):wpAny (model prog w) A (Builtin.SmallTypes.nextOf (.ref it)) Q E s:=by
 cases b
 ·exact wpAny_nextOf_list_end hh hit hl hx q
 ·have ty:s.TypeIs (.ref it) "tuple_iterator":=by
   obtain⟨o,e,c,_⟩:=(show s.heap.IsTupleIter it l i from hit)
   exact⟨o,e,c⟩
  obtain⟨o,e,c,d⟩:=(show s.heap.IsTupleIter it l i from hit)
  obtain⟨o2,e2,_,n2,d2⟩:=(show s.heap.IsTuple l xs from hl)
  unfold Builtin.SmallTypes.nextOf;refine zA (wpAny_callSpecial?_slot (name:=Str.ofString "__next__") ty F.slot_tuple_iterator_next (wpAny_call_entry F.slot_tuple_iterator_next ty F.entry_tuple_iterator_next ?_ (F.args_tuple_iterator_next_1 _)))
  show wpAny _ _ (field (.ref it) 0 >>= _) _ _ s;refine zA (wpAny_field e d (x:=.ref l) rfl ?_)
  show wpAny _ _ (if(Value.ref l == Value.none)=true then _ else _) _ _ s;rw[if_neg (show ¬((Value.ref l == Value.none)=true)from zW)]
  show wpAny _ _ (field (.ref it) 1 >>= _) _ _ s;refine zA (wpAny_field e d (x:=.int i 0) rfl ?_)
  show wpAny _ _ (seqItems? (.ref l) >>= _) _ _ s;refine zA (wpAny_seqItems e2 d2 ?_)
  simp only[zAQ,hx];refine zA (wpAny_rule (zA (wpAny_setField e d (by simp) ?_)))
  show wpAny _ _ (newExc (.type "StopIteration") [] >>= _) _ _ _;refine zA ?_
  simp only[newExc,newTuple];refine zA (wpAny_newObj_type ?_ (by size_fits))
  refine zA (m:=firstArgMember _ _) (wpAny_of_eq (a:=Value.none) (by first | rfl |(simp only[firstArgMember];rfl)) (wpAny_newObj_type ?_ (by size_fits)))
  simp only[raiseNew];refine zA (wpAny_handled ?_)
  rw[show A.in1.handled=none from hh];refine zA (zG (wpAny_throw ?_))
  exact q _ _ (((Heap.SameBut.update ..).extBut.push _).push _) ⟨_,zS _ rfl,rfl⟩
structure ZA(z ti to i1 i2:Addr):Prop where
 a1:ti≠z
 a2:to≠z
 a3:i1≠z
 a4:i2≠z
 a5:ti≠to
 a6:ti≠i1
 a7:ti≠i2
 a8:to≠i1
 a9:to≠i2
 a10:i1≠i2
noncomputable def Off(z to i1 i2 l:Addr):Prop:=l≠z/\l≠to/\l≠i1/\l≠i2
theorem zipK_item{b1 b2:Bool}{z ti to i1 i2 l1 l2:Addr}{k:Nat}{xs ys:Array Value}{x y a b:Value}{Q:Value->Shared->Prop}(D:ZA z ti to i1 i2)(o1:Off z to i1 i2 l1)(o2:Off z to i1 i2 l2)
  (hz:IsZip s.heap z ti to .none) (hTI:IsPair s.heap ti (.ref i1) (.ref i2)) (hTO:IsPair s.heap to a b) (h1:ItK b1 s.heap i1 l1 k) (h2:ItK b2 s.heap i2 l2 k) (hl1:SeqK b1 s.heap l1 xs) (hl2:SeqK b2 s.heap l2 ys) (hx:xs[k]?=some x) (hy:ys[k]?=some y)
  (q:∀ g,IsZip g z ti to (rawInt s.heap.objs.size)->IsPair g to x y->ItK b1 g i1 l1 (k+1)->ItK b2 g i2 l2 (k+1)->IsPair g s.heap.objs.size x y->(∀ c o,c≠z->c≠to->c≠i1->c≠i2->s.heap.get? c=some o->g.get? c=some o)->Q (.ref s.heap.objs.size) { s with heap:=g }) :
  wpAny (model prog w) A (Builtin.«zip.__next__» ⟨[.ref z],[]⟩) (fun fin s'=>∃ v,fin = .done (.ret v)/\Q v s') E s:=by
 show wpAny _ _ (field (.ref z) 2 >>= _) _ _ _;refine zA (wpAny_field hz rfl (x:=.bool false) rfl ?_)
 show wpAny _ _ (field (.ref z) 3 >>= _) _ _ _;refine zA (wpAny_field hz rfl (x:=.ref ti) rfl (zA (wpAny_seqItems hTI rfl ?_)))
 show wpAny _ _ (Builtin.SmallTypes.ownedTupleIsFree (.ref z) >>= _) _ _ _;refine zA ?_
 unfold Builtin.SmallTypes.ownedTupleIsFree;refine zA (wpAny_field hz rfl (x:=.none) rfl (zG ?_))
 simp only[if_true];refine zA (wpAny_rule (zA (wpAny_field hz rfl (x:=.ref to) rfl (zA (wpAny_setField_rec hz (by simp) fun g1 z1 e1=>?_)))))
 replace z1:IsZip g1 z ti to .ellipsis:=z1
 refine zA ?_;simp only[List.zipIdx_cons,List.zipIdx_nil,List.forIn_cons,List.forIn_nil]
 refine zA (zA (wpAny_onRaise ?_));show wpAny _ _ (Builtin.SmallTypes.nextOf (.ref i1) >>= _) _ _ _
 refine zA (nextK_item (h1.to fun o e=>e1.extBut _ _ D.a3 e) (hl1.to fun o e=>e1.extBut _ _ o1.1 e) hx fun g2 n2 e2=>zG ?_)
 have t2:IsPair g2 to a b:=e2.extBut _ _ D.a8 (e1.extBut _ _ D.a2 hTO)
 refine zA (wpAny_seqItems t2 rfl (zA (wpAny_updateSeq_pair t2 fun g3 t3 e3=>?_)))
 replace t3:IsPair g3 to x b:=t3
 refine zA (wpAny_letGo (zG (zA (zA (wpAny_onRaise ?_)))));show wpAny _ _ (Builtin.SmallTypes.nextOf (.ref i2) >>= _) _ _ _
 refine zA (nextK_item (((h2.to fun o e=>e1.extBut _ _ D.a4 e).to fun o e=>e2.extBut _ _ (Ne.symm D.a10) e).to fun o e=>e3.extBut _ _ (Ne.symm D.a9) e) (((hl2.to fun o e=>e1.extBut _ _ o2.1 e).to fun o e=>e2.extBut _ _ o2.2.2.1 e).to fun o e=>e3.extBut _ _ o2.2.1 e) hy fun g4 n4 e4=>zG ?_)
 have t4:IsPair g4 to x b:=e4.extBut _ _ D.a9 t3
 refine zA (wpAny_seqItems t4 rfl (zA (wpAny_updateSeq_pair t4 fun g5 t5 e5=>?_)))
 replace t5:IsPair g5 to x y:=t5
 refine zA (wpAny_letGo (zG (zG (zA (wpAny_seqItems t5 rfl (zA (wpAny_newTuple ?_)))))))
 have sz:g5.objs.size=s.heap.objs.size:=by rw[e5.1,e4.1,e3.1,e2.1,e1.1]
 have z5:IsZip g5 z ti to .ellipsis:=e5.extBut _ _ (Ne.symm D.a2) (e4.extBut _ _ (Ne.symm D.a4) (e3.extBut _ _ (Ne.symm D.a2) (e2.extBut _ _ (Ne.symm D.a3) z1)))
 have k5:∀ c o,c≠z->c≠to->c≠i1->c≠i2->s.heap.get? c=some o->g5.get? c=some o:=fun c o c1 c2 c3 c4 e=>e5.extBut _ _ c2 (e4.extBut _ _ c4 (e3.extBut _ _ c2 (e2.extBut _ _ c3 (e1.extBut _ _ c1 e))))
 have n15:ItK b1 g5 i1 l1 (k+1):=((n2.to fun o e=>e3.extBut _ _ (Ne.symm D.a8) e).to fun o e=>e4.extBut _ _ D.a10 e).to fun o e=>e5.extBut _ _ (Ne.symm D.a8) e
 have n25:ItK b2 g5 i2 l2 (k+1):=n4.to fun o e=>e5.extBut _ _ (Ne.symm D.a9) e
 show wpAny _ _ (Builtin.SmallTypes.ownedTupleHandOut (.ref z) (.ref g5.objs.size) >>= _) _ _ _;refine zA ?_
 unfold Builtin.SmallTypes.ownedTupleHandOut
 have z6:IsZip (g5.push { cls:=.type "tuple",data:=.seq #[x,y] }) z ti to .ellipsis:=zD _ z5
 refine zA (wpAny_setField_rec z6 (by simp) fun g7 z7 e7=>?_)
 replace z7:IsZip g7 z ti to (rawInt g5.objs.size):=z7
 refine wpAny_setField_rec z7 (by simp) fun g8 z8 e8=>?_
 replace z8:IsZip g8 z ti to (rawInt g5.objs.size):=z8
 have up:∀ c o,c≠z->g5.get? c=some o->g8.get? c=some o:=fun c o c1 e=>e8.extBut _ _ c1 (e7.extBut _ _ c1 (zD _ e))
 have zlt:z<g5.objs.size:=zN z5
 have p8:IsPair g8 g5.objs.size x y:=e8.extBut _ _ (zBO zlt) (e7.extBut _ _ (zBO zlt) (zS _ rfl))
 rw[sz]at z8 p8
 refine zG ⟨_,rfl,?_⟩
 show Q (.ref g5.objs.size) _;rw[sz]
 exact q g8 z8 (up _ _ D.a2 t5) (n15.to fun o e=>up _ o D.a3 e) (n25.to fun o e=>up _ o D.a4 e) p8 fun c o c1 c2 c3 c4 e=>up c o c1 (k5 c o c1 c2 c3 c4 e)
theorem zipK_end{b1 b2:Bool}{z ti to i1 i2 l1 l2:Addr}{k:Nat}{xs ys:Array Value}{a b:Value}{Q:Fin->Shared->Prop}(hh:A.handled=none)(D:ZA z ti to i1 i2)(o1:Off z to i1 i2 l1)(o2:Off z to i1 i2 l2)
  (hz:IsZip s.heap z ti to .none) (hTI:IsPair s.heap ti (.ref i1) (.ref i2)) (hTO:IsPair s.heap to a b) (h1:ItK b1 s.heap i1 l1 k) (h2:ItK b2 s.heap i2 l2 k) (hl1:SeqK b1 s.heap l1 xs) (hl2:SeqK b2 s.heap l2 ys) (he:xs[k]?=none\/ys[k]?=none)
  (q:∀ g e,(∀ c o,c≠z->c≠to->c≠i1->c≠i2->s.heap.get? c=some o->g.get? c=some o)->(∃ o,g.get? e=some o/\o.cls = .type "StopIteration")->E (.ref e) { s with heap:=g }) :
  wpAny (model prog w) A (Builtin.«zip.__next__» ⟨[.ref z],[]⟩) Q E s:=by
 show wpAny _ _ (field (.ref z) 2 >>= _) _ _ _;refine zA (wpAny_field hz rfl (x:=.bool false) rfl ?_)
 show wpAny _ _ (field (.ref z) 3 >>= _) _ _ _;refine zA (wpAny_field hz rfl (x:=.ref ti) rfl (zA (wpAny_seqItems hTI rfl ?_)))
 show wpAny _ _ (Builtin.SmallTypes.ownedTupleIsFree (.ref z) >>= _) _ _ _;refine zA ?_
 unfold Builtin.SmallTypes.ownedTupleIsFree;refine zA (wpAny_field hz rfl (x:=.none) rfl (zG ?_))
 simp only[if_true];refine zA (wpAny_rule (zA (wpAny_field hz rfl (x:=.ref to) rfl (zA (wpAny_setField_rec hz (by simp) fun g1 z1 e1=>?_)))))
 replace z1:IsZip g1 z ti to .ellipsis:=z1
 refine zA ?_;simp only[List.zipIdx_cons,List.zipIdx_nil,List.forIn_cons,List.forIn_nil]
 refine zA (zA (wpAny_onRaise ?_));show wpAny _ _ (Builtin.SmallTypes.nextOf (.ref i1) >>= _) _ _ _
 cases hx:xs[k]? with
 |none =>
  refine zA (nextK_end hh (h1.to fun o e=>e1.extBut _ _ D.a3 e) (hl1.to fun o e=>e1.extBut _ _ o1.1 e) hx fun g2 e e2 he=>?_)
  obtain⟨oe,hoe,hce⟩:=he
  have z2:IsZip g2 z ti to .ellipsis:=e2 _ _ (Ne.symm D.a3) z1
  have ez:e≠z:=fun x=>by subst x;rw[z2]at hoe;cases hoe;simp at hce
  refine wpAny_setField_rec z2 (by simp) fun g3 _ e3=>q g3 e (fun c o c1 _ c3 _ x=>e3.extBut _ _ c1 (e2 _ _ c3 (e1.extBut _ _ c1 x))) ⟨oe,e3.extBut _ _ ez hoe,hce⟩
 |some x =>
  have hy:ys[k]?=none:=by
   rcases he with h | h
   ·rw[hx]at h;cases h
   ·exact h
  refine zA (nextK_item (h1.to fun o e=>e1.extBut _ _ D.a3 e) (hl1.to fun o e=>e1.extBut _ _ o1.1 e) hx fun g2 n2 e2=>zG ?_)
  have t2:IsPair g2 to a b:=e2.extBut _ _ D.a8 (e1.extBut _ _ D.a2 hTO)
  refine zA (wpAny_seqItems t2 rfl (zA (wpAny_updateSeq_pair t2 fun g3 t3 e3=>zA (wpAny_letGo (zG (zA (zA (wpAny_onRaise ?_))))))))
  show wpAny _ _ (Builtin.SmallTypes.nextOf (.ref i2) >>= _) _ _ _
  refine zA (nextK_end hh (((h2.to fun o e=>e1.extBut _ _ D.a4 e).to fun o e=>e2.extBut _ _ (Ne.symm D.a10) e).to fun o e=>e3.extBut _ _ (Ne.symm D.a9) e) (((hl2.to fun o e=>e1.extBut _ _ o2.1 e).to fun o e=>e2.extBut _ _ o2.2.2.1 e).to fun o e=>e3.extBut _ _ o2.2.1 e) hy fun g4 e e4 he=>?_)
  obtain⟨oe,hoe,hce⟩:=he
  have z4:IsZip g4 z ti to .ellipsis:=e4 _ _ (Ne.symm D.a4) (e3.extBut _ _ (Ne.symm D.a2) (e2.extBut _ _ (Ne.symm D.a3) z1))
  have ez:e≠z:=fun x=>by subst x;rw[z4]at hoe;cases hoe;simp at hce
  refine wpAny_setField_rec z4 (by simp) fun g5 _ e5=>q g5 e (fun c o c1 c2 c3 c4 x=>e5.extBut _ _ c1 (e4 _ _ c4 (e3.extBut _ _ c2 (e2.extBut _ _ c3 (e1.extBut _ _ c1 x))))) ⟨oe,e5.extBut _ _ ez hoe,hce⟩
theorem pyIterK{b:Bool}{l:Addr}{xs:Array Value}{Q:Value->Shared->Prop}(h:SeqK b s.heap l xs)(q:Q (.ref s.heap.objs.size) { s with heap:=s.heap.push (itO b l) }):wpAny (model prog w) A (pyIter (.ref l)) Q E s:=by
 cases b
 ·exact wpAny_pyIter_list h q
 ·exact wpAny_pyIter_tuple h q
theorem ItK.new{b:Bool}{l:Addr}(g:Heap):ItK b (g.push (itO b l)) g.objs.size l 0:=by
 cases b
 ·exact(show Heap.IsListIter _ _ _ _ from⟨_,zS _ rfl,rfl,rfl⟩)
 ·exact(show Heap.IsTupleIter _ _ _ _ from⟨_,zS _ rfl,rfl,rfl⟩)
noncomputable abbrev zK2(g:Heap)(b1 b2:Bool)(l1 l2:Addr):Heap:=(g.push (itO b1 l1)).push (itO b2 l2)
noncomputable abbrev zK3(g:Heap)(b1 b2:Bool)(l1 l2:Addr):Heap:=(zK2 g b1 b2 l1 l2).push { cls:=.type "tuple",data:=.seq #[.ref g.objs.size,.ref (g.push (itO b1 l1)).objs.size] }
noncomputable abbrev zK4(g:Heap)(b1 b2:Bool)(l1 l2:Addr):Heap:=(zK3 g b1 b2 l1 l2).push { cls:=.type "tuple",data:=.seq #[.none,.none] }
noncomputable abbrev zK5(g:Heap)(b1 b2:Bool)(l1 l2:Addr):Heap:=(zK4 g b1 b2 l1 l2).push { cls:=.type "zip",data:=.fields #[.none,.bool false,.bool false,.ref (zK2 g b1 b2 l1 l2).objs.size,.ref (zK3 g b1 b2 l1 l2).objs.size] }
theorem zipK_new(b1 b2:Bool)(l1 l2:Addr)(xs ys:Array Value):Meets (Builtin.«zip.__new__» ⟨[.type "zip",.ref l1,.ref l2],[]⟩) (fun _ R s=>SeqK b1 s.heap l1 xs/\SeqK b2 s.heap l2 ys/\R (.ok (.ret (.ref (zK4 s.heap b1 b2 l1 l2).objs.size))) { s with heap:=zK5 s.heap b1 b2 l1 l2 }) :=
 .of_wp fun prog w A R s h=>by
  obtain⟨hp,g,d,tk,os⟩:=s
  obtain⟨hl1,hl2,h⟩:=h
  have hsub:=sub_zip
  have hL1:SeqK b1 (Shared.heap ⟨hp,g,d,tk,os⟩) l1 xs:=hl1
  have hL2:SeqK b2 (Shared.heap ⟨hp.push (itO b1 l1),g,d,tk,os⟩) l2 ys:=hl2.to fun o e=>zD _ e
  wp_walk using pyIterK hL1,pyIterK hL2
  exact⟨_,rfl,h⟩
end
end Srt
namespace L2
open PySem PySem.W PyProof.Rows Srt
noncomputable def SqB(b:Bool)(K:PySem.W.Frag)(H:Hp)(l:Addr)(xs:List V):Prop:=match b with
 |true=>SqT K H l xs
 |false=>SqL K H l xs
section
variable{X:Cx}{pins:List (Addr×Obj)}{σ:St}{H:Hp}{s:Shared}{h':Heap}
theorem Inv.seqB(I:Inv X pins σ H s){b:Bool}{l:Addr}{xs:List V}(h:SqB b X.K H l xs):∃ its:List Value,Vals xs its/\SeqK b s.heap l its.toArray/\xs.length<=sizeLine:=by
 cases b
 ·obtain⟨its,r,p,z⟩:=I.list h
  exact⟨its,r,p.isList,z⟩
 ·obtain⟨its,r,p,z⟩:=I.tuple h
  exact⟨its,r,p,z⟩
theorem Inv.seqB_inj(I:Inv X pins σ H s){b:Bool}{l:Addr}{xs ys:List V}(h:SqB b X.K H l xs)(h':SqB b X.K H l ys):xs=ys:=by
 cases b
 ·exact I.list_inj h h'
 ·exact I.tuple_inj h h'
theorem Inv.offB(I:Inv X pins σ H s){b:Bool}{l c:Addr}{xs:List V}(h:SqB b X.K H l xs)(f:FpOk X pins H c):l≠c:=by
 intro e
 subst e
 obtain⟨f0,_,_,f3,_,_⟩:=f
 have base:∀ o,X.K.lookup l=some o->False:=fun o hk=>by
  have eb:=I.ok.mod.kin l o hk
  rcases f3 with f3 | f3
  ·exact I.ok.noex l o eb f3
  ·exact absurd (zE (zN eb) (zC I.ok.bsz f3)) (zAH _)
 cases b
 ·rcases(show SqL X.K H l xs from h)with(z |⟨o,z⟩) |⟨o,_,_,hk,_⟩
  ·rw[f0]at z;cases z
  ·rw[f0]at z;cases z
  ·exact base o hk
 ·rcases(show SqT X.K H l xs from h)with(z |⟨o,z⟩) |⟨o,_,_,hk,_⟩
  ·rw[f0]at z;cases z
  ·rw[f0]at z;cases z
  ·exact base o hk
theorem Inv.turnedL{t':Nat}{ch:List Addr}(I:Inv X pins σ H s)(hf:∀ b∈ch,FpOk X pins H b)(k:∀ b o,b∉ch->s.heap.get? b=some o->h'.get? b=some o):Inv X pins σ H { s with heap:=h',toks:=t' }:=by
 have nit:∀ b u,H b=some u->b∉ch:=fun b u e z=>by rw[(hf b z).1]at e;cases e
 have loc:X.env.locals∉ch:=fun z=>(hf _ z).2.1 rfl
 refine I.step (g':=s.gens) (d':=s.drawn) (ch:=ch) (fun b hb=>?_) (fun b o _ _ hc e _=>k b o hc e) (fun b o _ _ hc e _=>⟨o.slots,k b o hc e⟩) (fun _ _ _ _ n=>n) (fun b o hc e=>⟨o,k b o hc e⟩) (fun _ _ e=>e) (fun _ _ _ e=>e) (fun b ps e=>⟨#[],by rw[e];simp⟩) (fun m hm=>?_) (fun b u e=>?_) I.bare (fun b xs o q e=>k b o (nit b _ q) e)
 ·obtain⟨_,f1,_,f3,f4,f5⟩:=hf b hb
  exact⟨f3,f1,f4,f5⟩
 ·obtain⟨o,es,ep,ho,r⟩:=hm
  exact⟨o,es,ep,k _ o loc ho,r⟩
 ·refine(I.hok b u e).stay (fun c v hc q=>k c v ?_ q) (fun _ q=>q) fun _ _ q=>q
  rcases hc with z | z
  ·rw[z];exact nit b u e
  ·exact nit c _ z
theorem Inv.turnedN{t':Nat}{ch:List Addr}{a:Addr}{ob:HO}(I:Inv X pins σ H s)(hf:∀ b∈ch,FpOk X pins H b)(k:∀ b o,b∉ch->s.heap.get? b=some o->h'.get? b=some o)(ha:s.heap.objs.size<=a)(new:ObjOk X.prog X.w (upd H a ob) h' a ob) :
  Inv X pins σ (upd H a ob) { s with heap:=h',toks:=t' }:=by
 have hn:H a=none:=I.hok.fresh ha
 have nit:∀ b u,H b=some u->b∉ch:=fun b u e z=>by rw[(hf b z).1]at e;cases e
 have loc:X.env.locals∉ch:=fun z=>(hf _ z).2.1 rfl
 have old:∀ b o,s.heap.get? b=some o->b≠a:=fun b o e=>zAE (zE (zN e) ha)
 refine I.step (g':=s.gens) (d':=s.drawn) (ch:=ch) (fun b hb=>?_) (fun b o _ _ hc e _=>k b o hc e) (fun b o _ _ hc e _=>⟨o.slots,k b o hc e⟩) (fun b o _ e n=>by rw[upd_ne (old b o e)];exact n) (fun b o hc e=>⟨o,k b o hc e⟩)
  (fun b xs e=>by rw[upd_ne (ne_of_none e hn)];exact e) (fun b o u e=>by rw[upd_ne (ne_of_none e hn)];exact e) (fun b ps e=>⟨#[],by rw[upd_ne (ne_of_none e hn),e];simp⟩) (fun m hm=>?_) (fun b u e=>?_) I.bare (fun b xs o q e=>k b o (nit b _ q) e)
 ·obtain⟨_,f1,_,f3,f4,f5⟩:=hf b hb
  exact⟨f3,f1,f4,f5⟩
 ·obtain⟨o,es,ep,ho,r⟩:=hm
  exact⟨o,es,ep,k _ o loc ho,r⟩
 ·by_cases hb:b=a
  ·subst hb
   rw[upd_same]at e
   cases e
   exact new
  ·rw[upd_ne hb]at e
   refine(I.hok b u e).stay (fun c v hc q=>k c v ?_ q) (fun c q=>by rw[upd_ne (ne_of_none q hn)];exact q) fun c xs q=>by rw[upd_ne (ne_of_none q hn)];exact q
   rcases hc with z | z
   ·rw[z];exact nit b u e
   ·exact nit c _ z
end
noncomputable def Itz(K:PySem.W.Frag)(b1 b2:Bool)(l1 l2:Addr):It :=
  ⟨fun i H=>∃ xs ys x y,SqB b1 K H l1 xs/\SqB b2 K H l2 ys/\xs[i]?=some x/\ys[i]?=some y,
   fun i H v H'=>∃ T x y,v = .ref T/\H T=none/\H'=upd H T (.tup [x,y])/\(∀ xs,SqB b1 K H l1 xs->xs[i]?=some x)/\∀ ys,SqB b2 K H l2 ys->ys[i]?=some y,
   fun i H=>∃ xs ys,SqB b1 K H l1 xs/\SqB b2 K H l2 ys/\(xs.length<=i\/ys.length<=i)⟩
theorem turn_zip{P:Program}{w:World}{K:PySem.W.Frag}{es:List Expr}{kk:Nat}{pos:Pos}(b1 b2:Bool)(z ti to i1 i2 l1 l2:Addr)(D:ZA z ti to i1 i2):Turn P w K (.Tuple es kk pos) (Itz K b1 b2 l1 l2) [z,ti,to,i1,i2] z
  (fun i h=>IsZip h z ti to .none/\IsPair h ti (.ref i1) (.ref i2)/\(∃ a b,IsPair h to a b)/\ItK b1 h i1 l1 i/\ItK b2 h i2 l2 i)where
 mem:=by simp
 obj:=fun i h st b hb=>by
  obtain⟨hz,hti,⟨a,c,hto⟩,h1,h2⟩:=st
  simp only[zAF,zBV,or_false]at hb
  rcases hb with e | e | e | e | e
  ·rw[e];exact⟨_,hz,fun v z=>by cases z⟩
  ·rw[e];exact⟨_,hti,fun v z=>by cases z⟩
  ·rw[e];exact⟨_,hto,fun v z=>by cases z⟩
  ·rw[e];exact h1.lt
  ·rw[e];exact h2.lt
 keep:=fun i h h' st k=>by
  obtain⟨hz,hti,⟨a,c,hto⟩,h1,h2⟩:=st
  exact⟨k z (by simp) _ hz,k ti (by simp) _ hti,⟨a,c,k to (by simp) _ hto⟩,h1.to fun o e=>k i1 (by simp) o e,h2.to fun o e=>k i2 (by simp) o e⟩
 item:=by
  intro X hP hw hK hc i pins s σ H E I hf st hg
  subst hP hw hK
  obtain⟨hz,hti,⟨a,c,hto⟩,h1,h2⟩:=st
  obtain⟨xs,ys,x,y,q1,q2,hx,hy⟩:=hg
  obtain⟨us,r1,p1,_⟩:=I.seqB q1
  obtain⟨ws,r2,p2,_⟩:=I.seqB q2
  obtain⟨u,hu,ru⟩:=r1.get hx
  obtain⟨v,hv,rv⟩:=r2.get hy
  have off1:Off z to i1 i2 l1:=⟨I.offB q1 (hf z (by simp)),I.offB q1 (hf to (by simp)),I.offB q1 (hf i1 (by simp)),I.offB q1 (hf i2 (by simp))⟩
  have off2:Off z to i1 i2 l2:=⟨I.offB q2 (hf z (by simp)),I.offB q2 (hf to (by simp)),I.offB q2 (hf i1 (by simp)),I.offB q2 (hf i2 (by simp))⟩
  have hT:s.TypeIs (.ref z) "zip":=⟨_,hz,rfl⟩
  have hn:H s.heap.objs.size=none:=I.hok.fresh (zJ _)
  unfold pyNext
  refine zA (wpAny_attempt (wpAny_callSpecial?_slot (name:=Str.ofString "__next__") hT F.slot_zip_next (wpAny_call_entry F.slot_zip_next hT F.entry_zip_next
   (zipK_item D off1 off2 hz hti hto h1 h2 p1 p2 (x:=u) (y:=v) (by simpa using hu) (by simpa using hv) fun g z1 t1 n1 n2 pp kp=>zG ⟨_,rfl,?_⟩) (F.args_zip_next_1 _))))
  refine wpAny_letOwnedTupleGo_zip z1 fun g' z2 sb=>?_
  have zlt:z≠s.heap.objs.size:=zAE (zN hz)
  have kp2:∀ b o,b∉[z,ti,to,i1,i2]->s.heap.get? b=some o->g'.get? b=some o:=fun b o nb e=>by
   simp only[zAF,zBV,or_false,not_or]at nb
   exact sb.extBut _ _ nb.1 (kp b o nb.1 nb.2.2.1 nb.2.2.2.1 nb.2.2.2.2 e)
  have I2:Inv X pins σ (upd H s.heap.objs.size (.tup [x,y])) { s with heap:=g' }:=I.turnedN (t':=s.toks) (ch:=[z,ti,to,i1,i2]) (a:=s.heap.objs.size) (ob:=.tup [x,y]) hf kp2 (zJ _) (show ObjOk X.prog X.w _ g' _ (.tup [x,y])from⟨by show 2<=sizeLine;decide,[u,v],.cons ru (.cons rv .nil),⟨_,sb.extBut _ _ (Ne.symm zlt) pp,rfl,0,rfl⟩⟩)
  refine⟨.ref s.heap.objs.size,_,I2,rfl,⟨_,x,y,rfl,hn,rfl,fun xs' h=>by rw[I.seqB_inj h q1];exact hx,fun ys' h=>by rw[I.seqB_inj h q2];exact hy⟩,⟨z2,sb.extBut _ _ D.a1 (kp _ _ D.a1 D.a5 D.a6 D.a7 hti),⟨_,_,sb.extBut _ _ D.a2 t1⟩,n1.to fun o e=>sb.extBut _ _ D.a3 e,n2.to fun o e=>sb.extBut _ _ D.a4 e⟩,fun b hb=>?_⟩
  have bo:∃ o,s.heap.get? b=some o:=by
   simp only[zAF,zBV,or_false]at hb
   rcases hb with e | e | e | e | e
   ·rw[e];exact⟨_,hz⟩
   ·rw[e];exact⟨_,hti⟩
   ·rw[e];exact⟨_,hto⟩
   ·rw[e];obtain⟨o,e,_⟩:=h1.lt;exact⟨o,e⟩
   ·rw[e];obtain⟨o,e,_⟩:=h2.lt;exact⟨o,e⟩
  obtain⟨o,e⟩:=bo
  rw[upd_ne (zAE (zN e))]
  exact(hf b hb).1
 done:=by
  intro X hP hw hK hc i pins s σ H E I hf st hg
  subst hP hw hK
  obtain⟨hz,hti,⟨a,c,hto⟩,h1,h2⟩:=st
  obtain⟨xs,ys,q1,q2,he⟩:=hg
  obtain⟨us,r1,p1,_⟩:=I.seqB q1
  obtain⟨ws,r2,p2,_⟩:=I.seqB q2
  have e1:=r1.length
  have e2:=r2.length
  have off1:Off z to i1 i2 l1:=⟨I.offB q1 (hf z (by simp)),I.offB q1 (hf to (by simp)),I.offB q1 (hf i1 (by simp)),I.offB q1 (hf i2 (by simp))⟩
  have off2:Off z to i1 i2 l2:=⟨I.offB q2 (hf z (by simp)),I.offB q2 (hf to (by simp)),I.offB q2 (hf i1 (by simp)),I.offB q2 (hf i2 (by simp))⟩
  have hT:s.TypeIs (.ref z) "zip":=⟨_,hz,rfl⟩
  unfold pyNext
  refine zA (wpAny_attempt (wpAny_callSpecial?_slot (name:=Str.ofString "__next__") hT F.slot_zip_next (wpAny_call_entry F.slot_zip_next hT F.entry_zip_next (zipK_end (I.ok.hd hc) D off1 off2 hz hti hto h1 h2 p1 p2 ?_ fun g e kp he=>?_) (F.args_zip_next_1 _))))
  ·rcases he with h | h
   ·exact .inl (by simp;exact zh9 h (Eq.symm e1))
   ·exact .inr (by simp;exact zh9 h (Eq.symm e2))
  ·obtain⟨o,ho,hcl⟩:=he
   refine zA (wpAny_isInstance (T:="StopIteration") (b:=true) ⟨o,ho,hcl⟩ isSubtype_stop (zG ⟨rfl,?_⟩))
   refine I.turnedL (t':=s.toks) (ch:=[z,ti,to,i1,i2]) hf fun b o nb e=>?_
   simp only[zAF,zBV,or_false,not_or]at nb
   exact kp b o nb.1 nb.2.2.1 nb.2.2.2.1 nb.2.2.2.2 e
 self:=fun _ _ _ _ _ st h=>wpAny_pyIter_zip st.1 h
theorem za_new(n:Addr):ZA (n+4) (n+2) (n+3) n (n+1)where
 a1:=zAE (zAM (by decide) n)
 a2:=zAE (zAM (by decide) n)
 a3:=zAE (zCS (by decide))
 a4:=zAE (zAM (by decide) n)
 a5:=zAE (zAM (by decide) n)
 a6:=zBO (zCS (by decide))
 a7:=zBO (zAM (by decide) n)
 a8:=zBO (zCS (by decide))
 a9:=zBO (zAM (by decide) n)
 a10:=zAE (zCS (by decide))
noncomputable def iZip(b1 b2:Bool)(K:PySem.W.Frag)(ta:TA):TI:=fun σ H R=>ta σ H fun vs H1=>∃ l1 l2,vs=[.ref l1,.ref l2]/\(∃ xs,SqB b1 K H1 l1 xs)/\(∃ ys,SqB b2 K H1 l2 ys)/\R (Itz K b1 b2 l1 l2) H1
theorem pi_zip{X:Cx}{es:List Expr}{kk:Nat}{tpos:Pos}(b1 b2:Bool){a b:Expr}{ta:TA}{p pos:Pos}(hg:Gl X "zip")(hm:X.mg "zip" = none)(ha:PA X [a,b] ta)(hs:starEach [a,b] X.env=[(false,eval a X.env),(false,eval b X.env)]:=by rfl)(hs2:starEach [b] X.env=[(false,eval b X.env)]:=by rfl) :
  PI X (.Tuple es kk tpos) (.Call (.Name "zip" p) [a,b] [] pos) (iZip b1 b2 X.K ta):=by
 intro pins s σ H R I h
 refine Call_ (ld_blt I hg hm boot_zip (PyProof.Rows.callWith_type1 (thn (ha pos pins s σ H _ I h) fun us s1 ⟨vs,H1,I1,r1,q1⟩=>?_) (by rw[hs,hs2]) (by rw[hs2];rfl)))
 obtain⟨l1,l2,e,⟨xs,q1⟩,⟨ys,q2⟩,q⟩:=q1
 subst e
 obtain⟨u,u',rfl,rx,ry⟩:=vals2 r1
 cases rx
 cases ry
 obtain⟨us,_,p1,_⟩:=I1.seqB q1
 obtain⟨ws,_,p2,_⟩:=I1.seqB q2
 have z1:(s1.heap.push (itO b1 l1)).objs.size=s1.heap.objs.size+1:=Heap.size_push ..
 have z2:(zK2 s1.heap b1 b2 l1 l2).objs.size=s1.heap.objs.size+2:=by rw[Heap.size_push,z1]
 have z3:(zK3 s1.heap b1 b2 l1 l2).objs.size=s1.heap.objs.size+3:=by rw[Heap.size_push,z2]
 have z4:(zK4 s1.heap b1 b2 l1 l2).objs.size=s1.heap.objs.size+4:=by rw[Heap.size_push,z3]
 have g5:(zK5 s1.heap b1 b2 l1 l2).get? (zK4 s1.heap b1 b2 l1 l2).objs.size=some _:=zS _ rfl
 have g4:(zK5 s1.heap b1 b2 l1 l2).get? (zK3 s1.heap b1 b2 l1 l2).objs.size=some _:=zD _ (zS _ rfl)
 have g3:(zK5 s1.heap b1 b2 l1 l2).get? (zK2 s1.heap b1 b2 l1 l2).objs.size=some _:=zD _ (zD _ (zS _ rfl))
 have g2:ItK b2 (zK5 s1.heap b1 b2 l1 l2) (s1.heap.push (itO b1 l1)).objs.size l2 0:=(ItK.new (b:=b2) (l:=l2) (s1.heap.push (itO b1 l1))).to fun o e=>zD _ (zD _ (zD _ e))
 have g1:ItK b1 (zK5 s1.heap b1 b2 l1 l2) s1.heap.objs.size l1 0:=(ItK.new (b:=b1) (l:=l1) s1.heap).to fun o e=>zD _ (zD _ (zD _ (zD _ e)))
 rw[z2,z3,z4]at g5
 rw[z1,z2]at g3
 rw[z3]at g4
 rw[z1]at g2
 refine callType_new F.called_zip (by decide) (F.typeCall_zip_2 _ _) (F.newCall_zip_2 _ _) (fun obj=>F.args_object_init_3 obj _ _) F.entry_zip_new (zipK_new b1 b2 l1 l2 us.toArray ws.toArray) ⟨p1,p2,?_⟩
 show _/\_
 rw[z4]
 have kp:∀ c o,s1.heap.get? c=some o->(zK5 s1.heap b1 b2 l1 l2).get? c=some o:=fun c o x=>zD _ (zD _ (zD _ (zD _ (zD _ x))))
 refine⟨⟨_,g5,rfl⟩,wpAny_pyIter_zip g5 ⟨s1.heap.objs.size+4,_,_,_,H1,rfl,I1.kept (t':=s1.toks) kp,turn_zip b1 b2 _ (s1.heap.objs.size+2) (s1.heap.objs.size+3) s1.heap.objs.size (s1.heap.objs.size+1) l1 l2 (za_new _),⟨g5,g3,⟨_,_,g4⟩,g1,g2⟩,fun b hb=>?_,q⟩⟩
 have le:s1.heap.objs.size<=b:=by
  simp only[zAF,zBV,or_false]at hb
  rcases hb with e | e | e | e | e
  ·rw[e];exact zQ _ 4
  ·rw[e];exact zQ _ 2
  ·rw[e];exact zQ _ 3
  ·rw[e];exact zJ _
  ·rw[e];exact zQ _ 1
 exact I1.fpOk le (I1.hok.fresh le)
open PySem PySem.W PyProof.Rows Srt
section
variable{X:Cx}{pins:List (Addr×Obj)}{σ:St}{H:Hp}{s:Shared}{a:Addr}{y v:V}{u r:Value}{A:Around}{E:Value->Shared->Prop}
theorem d_set{H':Hp}{Q:Unit->Shared->Prop}(hu:A.units<cLine)(I:Inv X pins σ H s)(g:DPut H a y v H')(ry:RelV y u)(rv:RelV v r)(h:∀ s',Inv X pins σ H' s'->Q () s'):wpAny (model X.prog X.w) A (dictSet a u r) Q E s:=by
 rcases g with⟨kvs,k,e,ey,l,eH⟩ |⟨kvs,k,b,e,ey,eb,l,eH⟩
 ·subst ey eH
  obtain⟨z,hd,vs,rel,dd⟩:=dk_of I.hok e
  have hz:vs.length<=sizeLine:=by rw[<- rel.length];exact z
  have hl:(putK kvs k v).length<=sizeLine:=by have:=length_putK kvs k v;lia
  refine wpAny_dictSet_pairs (hsz:=hz) (kV_is ry) dd fun h' dd' hs=>h _ ?_
  have he:∃ q,h'.get? a=some q:=let ⟨q,_,_,hq,_⟩:=dd';⟨q,hq⟩
  exact d_write I (by rw[e];exact True.intro) hs he (dk_new hl hd (rel.put k rv) dd')
 ·subst ey eH
  cases(show u=Value.ref b from ry)
  obtain⟨z,hd,xs,rel,dd⟩:=dt_of I.hok e
  have hz:xs.length<=sizeLine:=by rw[<- Paired.length rel];exact z
  have hl:(putK kvs k v).length<=sizeLine:=by have:=length_putK kvs k v;lia
  refine wpAny_dictSet_heap (hsz:=hz) (knd:=tupleKind (mixKind X.prog X.w)) hu (key_of I.hok eb) dd fun h' dd' hs=>h _ ?_
  obtain⟨q,es,ep,hq,h2,h3,h4,_,h5⟩:=dd'
  refine d_write I (by rw[e];exact True.intro) hs ⟨q,hq⟩ ⟨hl,hd,_,(rel.put k eb rv).keeps fun c ys ec=>?_,q,es,ep,hq,h2,h3,h4,h5⟩
  rw[upd_ne (ne_of ec e (fun z=>nomatch z))]
  exact ec
theorem Inv.track{D:Addr}{ob:HO}(I:Inv X pins σ H s)(f:FpOk X pins H D)(new:ObjOk X.prog X.w (upd H D ob) s.heap D ob):Inv X pins σ (upd H D ob) s:=by
 have hn:H D=none:=f.1
 have:=I.step (h':=s.heap) (H':=upd H D ob) (g':=s.gens) (t':=s.toks) (d':=s.drawn) (ch:=[D]) (fun b hb=>?_) (fun b o _ _ _ e _=>e) (fun b o _ _ _ e _=>⟨o.slots,e⟩) (fun b o nb _ n=>by
  rw[upd_ne (fun z=>nb (by simp[z]))];exact n) (fun b o _ e=>⟨o,e⟩) (fun b xs e=>by rw[upd_ne (ne_of_none e hn)];exact e) (fun b o u e=>by rw[upd_ne (ne_of_none e hn)];exact e) (fun b ps e=>⟨#[],by rw[upd_ne (ne_of_none e hn),e];simp⟩) (fun m hm=>hm) (fun b u e=>?_) I.bare (fun _ _ _ _ e=>e)
 ·exact this
 ·have e:b=D:=by simpa using hb
  subst e
  obtain⟨_,f1,_,f3,f4,f5⟩:=f
  exact⟨f3,f1,f4,f5⟩
 ·by_cases hb:b=D
  ·subst hb;rw[upd_same]at e;cases e;exact new
  ·rw[upd_ne hb]at e
   exact(I.hok b u e).stay (fun c v _ q=>q) (fun c q=>by rw[upd_ne (ne_of_none q hn)];exact q) fun c xs q=>by rw[upd_ne (ne_of_none q hn)];exact q
end
section
variable{prog:Program}{w:World}{A:Around}{R:Result->Shared->Prop}{s:Shared}
theorem dcompLoop{kx vx target iter:Expr}{ifs:List Expr}{scope:Scope}{pos:Pos}{it:Value}{D:Addr}{env:Env}(I:Nat->Shared->Prop)
  (turn:∀ n s,I n s->wpAny (model prog w) A (pyNext it) (fun r s₁=>match r with
   |none=>R (.ok .next) s₁
   |some v=>wpAny (model prog w) A (letOwnedTupleGo target it v) (fun _ s₁'=>wpAny (model prog w) A (assign target env v) (fun _ s₂ =>
     wpAny (model prog w) A (forIn ifs true fun c r=>if r=true then do let ok <- isTrue c env (eval c env);pure (ForInStep.yield ok)else pure (ForInStep.yield r)) (fun ok s₃ =>
      if ok=true then wpAny (model prog w) A (eval kx env) (fun kv s₄=>wpAny (model prog w) A (eval vx env) (fun vv s₅=>wpAny (model prog w) A (dictSet D kv vv) (fun _ s₆=>∃ m,m<n/\I m s₆) (fun _ _=>False) s₅) (fun _ _=>False) s₄) (fun _ _=>False) s₃
      else ∃ m,m<n/\I m s₃) (fun _ _=>False) s₂) (fun _ _=>False) s₁') (fun _ _=>False) s₁) (fun _ _=>False) s)
  (n:Nat) (h:I n s):codeAny (model prog w) A (.compLoop (.DictComp kx vx [⟨target,iter,ifs,0⟩] scope pos) 0 it (.ref D) env) R s:=by
 refine codeAny_loop rfl I (fun n s hI=>?_) n h
 show wpAny _ A ((compTurn (.DictComp kx vx [⟨target,iter,ifs,0⟩] scope pos) 0 it (.ref D) env).onRaise (fun x=>do noteFrame x env;theTreesLotGoes x)) _ _ s
 refine wpAny_noted ?_
 rw[compTurn_dict];refine zA (wpAny_standAt (zA (wpAny_mono (turn n s hI) (fun r s₁ h₁=>?_) fun _ _ h'=>h'.elim)))
 cases r with
 |none=>exact zG h₁
 |some v =>
  refine zA (wpAny_mono h₁ (fun _ s₁' h₁'=>?_) fun _ _ h'=>h'.elim);refine zA (wpAny_mono h₁' (fun _ s₂ h₂=>zA (wpAny_mono h₂ (fun ok s₃ h₃=>?_) fun _ _ h'=>h'.elim)) fun _ _ h'=>h'.elim)
  cases ok with
  |false=>exact zG ⟨rfl,h₃⟩
  |true =>
   exact zA (zA (wpAny_mono h₃ (fun kv s₄ h₄=>zA (wpAny_holding (wpAny_mono h₄ (fun vv s₅ h₅=>zA (wpAny_standAt (wpAny_holding (wpAny_mono h₅ (fun _ s₆ h₆=>zG ⟨rfl,h₆⟩) fun _ _ h'=>h'.elim)))) fun _ _ h'=>h'.elim))) fun _ _ h'=>h'.elim))
end
noncomputable def dcompTurns(J:It)(cap:List (Option Nat))(σ:St)(H1:Hp)(D:Addr)(Q:VK)(g:TG)(tc:TT)(tk tv:TE):Prop:=∃ (n:Nat) (P:Nat->Hp->Prop),P 0 H1 /\
 ∀ i H,i<=n->P i H->(J.stop i H/\Q (.ref D) H) \/
  (i<n/\J.go i H/\∀ x H',J.yld i H x H'->g x (capt cap σ) H' fun σ2 H2=>Kp (capt cap σ) σ2/\tc σ2 H2 fun b H3=>if b=true then tk σ2 H3 fun k H4=>tv σ2 H4 fun y H5=>∃ H6,DPut H5 D k y H6/\P (i+1) H6 else P (i+1) H3)
noncomputable def dEmp:Bool->HO
 |true=>.dT []
 |false=>.dK []
noncomputable def tDComp(t:Bool)(cap:List (Option Nat))(wi:TI)(g:TG)(tc:TT)(tk tv:TE):TE:=fun σ H Q=>wi σ H fun J H1=>∀ D,H1 D=none->dcompTurns J cap σ (upd H1 D (dEmp t)) D Q g tc tk tv
section
variable{X:Cx}{kx vx tg iter:Expr}{ifs:List Expr}{scope:Scope}{pos:Pos}{N':List Str}{cap:List (Option Nat)}{wi:TI}{g:TG}{tc:TT}{tk tv:TE}
theorem dcomp_run(t:Bool)(hu:X.A.units<cLine)(hc:X.calm=true)(S:CompScope N' cap X.N X.env.scope scope)(hi:PI X tg iter wi)(hg:∀ C s H fp,PG (cxIn X N' scope C s H fp) tg g)
  (ht:∀ C s H fp,PF (cxIn X N' scope C s H fp) ifs tc) (hk:∀ C s H fp,PE (cxIn X N' scope C s H fp) kx tk) (he:∀ C s H fp,PE (cxIn X N' scope C s H fp) vx tv)
  {pins:List (Addr×Obj)}{s:Shared}{σ:St}{H:Hp}{Q:VK} (I:Inv X pins σ H s) (h:tDComp t cap wi g tc tk tv σ H Q) :
  wpAny (model X.prog X.w) X.A (eval iter X.env) (fun x s₁=>wpAny (model X.prog X.w) X.A (pyIter x) (fun it s₂=>wpAny (model X.prog X.w) X.A newDict (fun acc s₃ =>
   wpAny (model X.prog X.w) X.A (newFunctionEnv scope X.env.globals (closCl X.env.cells scope.names []) [] X.env.qual none .none (some X.env)) (fun cenv s₄ =>
    codeAny (model X.prog X.w) X.A (.compStart (.DictComp kx vx [⟨tg,iter,ifs,0⟩] scope pos) 0 it acc { cenv with scope:=relabel scope X.env }) (CompEnd X pins σ Q acc cenv.locals) s₄) X.xe s₃) X.xe s₂) X.xe s₁) X.xe s:=by
 refine thn (hi pins s σ H _ I h) fun v s1 h1=>thn h1 fun itv s2 h2=>?_
 obtain⟨it,fp,tn,J,H2,e,I2,T,st2,f2,turns⟩:=h2
 subst e
 obtain⟨n,P,p0,turn⟩:=turns s2.heap.objs.size (I2.hok.fresh (zJ _))
 refine wpAny_newObj_type (wpAny_newFunctionEnv S.nocell (by intro y hy;simp at hy) (fun h₁ hns₁ hsb₁=>?_) S.kind)
 dsimp only at hns₁ hsb₁ ⊢
 generalize hHp:s2.heap.push { cls:=.type "dict",dict:=none,data:=.dict #[] } = Hq at hns₁ hsb₁ ⊢
 have hC:Hq.objs.size=s2.heap.objs.size+1:=by rw[<- hHp,Heap.size_push]
 have hDC:s2.heap.objs.size≠Hq.objs.size:=by rw[hC];exact zAE (zBC _)
 have hCle:s2.heap.objs.size<=Hq.objs.size:=by rw[hC];exact zCN _
 have old:∀ b o,s2.heap.get? b=some o->h₁.get? b=some o:=fun b o e =>
  hsb₁.extBut b o (by rw[hC];exact zAE (zCW (zN e))) (zD _ (hHp▸zD _ e))
 have hacc:h₁.get? s2.heap.objs.size=some { cls:=.type "dict",dict:=none,data:=.dict #[] }:=hsb₁.extBut _ _ hDC (zD _ (hHp▸zS _ rfl))
 have hfo:∀ b∈fp,∃ o,s2.heap.get? b=some o:=fun b hb=>let ⟨o,e,_⟩:=T.obj _ _ st2 b hb;⟨o,e⟩
 have st4:tn 0 h₁:=T.keep _ _ _ st2 fun b _ o e=>old b o e
 let D:Addr:=s2.heap.objs.size
 let C:Addr:=Hq.objs.size
 let Y:Cx:=cxIn X N' scope C s2 H2 fp
 have hDfp:D∉fp:=fun hb=>by
  obtain⟨o,e⟩:=hfo D hb
  exact zAH _ (zN e)
 have stat:∀ {H':Hp},(∀ b∈fp,H' b=none)->∀ b∈fp,FpOk Y pins H' b:=fun {H'} hn b hb=>by
  obtain⟨f0,f1,fx,f3,f4,f5⟩:=f2 b hb
  obtain⟨o,e⟩:=hfo b hb
  refine⟨hn b hb,fun z=>?_,fun z=>?_,.inl hb,fun x c e=>f4 x c (closCl_sound _ _ (S.clos I2) (fun y c e=>by simp at e) x c e),f5⟩
  ·have h1:=zE (zN e) hCle
   have z:b=Hq.objs.size:=z
   rw[z]at h1
   exact zAH _ h1
  ·rcases zAF.mp (I2.stkSub b z)with e | e
   ·exact f1 e
   ·exact fx e
 have loop:∀ s₃:Shared,s₃ = { s2 with heap:=h₁,toks:=s2.toks+([]:List (Str×Value)).length } ->
   codeAny (model X.prog X.w) X.A (.compLoop (.DictComp kx vx [⟨tg,iter,ifs,0⟩] scope pos) 0 (.ref it) (.ref s2.heap.objs.size) (compEnvC scope (closCl X.env.cells scope.names []) Hq.objs.size X.env))
    (CompEnd X pins σ Q (.ref s2.heap.objs.size) Hq.objs.size) s₃:=by
  rintro s₃ rfl
  have inF:∀ {pl:List (Addr×Obj)}{p:Addr×Obj},p∈pl->p∈Y.pn++(pins++pl):=fun {pl p} hp=>zP _ (zP _ hp)
  refine dcompLoop (fun m s'=>∃ i H',m=n-i/\i<=n/\Inv Y pins (capt cap σ) H' s'/\tn i s'.heap/\(∀ b∈fp,H' b=none)/\P i H') ?_ n ?_
  ·rintro m s3 ⟨i,H3,rfl,hin,I3,st3,fr3,p3⟩
   rcases turn i H3 hin p3 with⟨stop,q⟩ |⟨hlt,go,step⟩
   ·refine thn (T.done Y rfl rfl rfl hc i _ s3 _ H3 (fun _ _=>False) I3 (stat fr3) st3 stop) fun r s4 ⟨hr,I4⟩=>?_
    subst hr
    have IX:Inv X pins σ H3 s4:=I2.call' (ch:=fp) I4.os I4.base I4.hok I4.bare fun b hb=>by
     obtain⟨f0,f1,fx,f3,f4,f5⟩:=f2 b hb
     exact⟨f3,f1,f4,f5⟩
    obtain⟨m',hm',_⟩:=I4.loc
    exact⟨.ref D,_,IX,rfl,q,⟨m',hm'⟩,I2.fpOk hCle I4.free⟩
   ·refine thn (T.item Y rfl rfl rfl hc i _ s3 _ H3 (fun _ _=>False) I3 (stat fr3) st3 go) fun r s4 ⟨u,hr,h4⟩=>?_
    subst hr
    refine thn h4 fun _ s5 ⟨x,H5,I5,r5,y5,st5,fr5⟩=>?_
    have I5':=I5.pinned (stat fr5) (T.obj _ _ st5)
    refine thn (hg C s2 H2 fp _ s5 _ H5 x u _ I5' r5 (step x H5 y5)) fun _ s6 ⟨σ6,H6,I6,kp,q6⟩=>?_
    refine thn (ht C s2 H2 fp _ s6 σ6 H6 _ I6 q6) fun b s7 ⟨H7,I7,q7⟩=>?_
    cases b with
    |false =>
     rw[if_neg zW]at q7 ⊢
     refine⟨n-(i+1),zBP n i hlt,i+1,H7,rfl,hlt,I7.unpinned.weak kp.length kp.get,?_,fun b hb=>?_,q7⟩
     ·exact T.keep _ _ _ st5 fun b hb o e=>(I7.pin (b,o) (inF (mem_pinsAt hb e))).1
     ·obtain⟨o,e,d⟩:=T.obj _ _ st5 b hb
      exact(I7.pin (b,o) (inF (mem_pinsAt hb e))).2.1
    |true =>
     rw[if_pos rfl]at q7 ⊢
     refine thn (hk C s2 H2 fp _ s7 σ6 H7 _ I7 q7) fun kv s8 ⟨k,H8,I8,r8,q8⟩=>thn (he C s2 H2 fp _ s8 σ6 H8 _ I8 q8) fun yv s9 ⟨y,H9,I9,r9,H10,dp,q9⟩=>?_
     refine d_set (X:=Y) hu I9 dp r8 r9 fun s10 I10=>?_
     refine⟨n-(i+1),zBP n i hlt,i+1,H10,rfl,hlt,I10.unpinned.weak kp.length kp.get,?_,fun b hb=>?_,q9⟩
     ·exact T.keep _ _ _ st5 fun b hb o e=>(I10.pin (b,o) (inF (mem_pinsAt hb e))).1
     ·obtain⟨o,e,d⟩:=T.obj _ _ st5 b hb
      exact(I10.pin (b,o) (inF (mem_pinsAt hb e))).2.1
  ·have I4:=cxIn_inv (s4:={ s2 with heap:=h₁,toks:=s2.toks+([]:List (Str×Value)).length }) S I2 hCle f2 hfo rfl rfl old hns₁ hacc (zJ _) hDC fun v z=>by cases z
   obtain⟨_,pD1,pD2,pD3,_⟩:=I4.pin (D,{ cls:=.type "dict",dict:=none,data:=.dict #[] }) (zP _ (zP _ (zZ.mpr rfl)))
   have I5:Inv Y pins (capt cap σ) H2 { s2 with heap:=h₁,toks:=s2.toks+([]:List (Str×Value)).length }:=I4.pins_of fun p hp=>I4.pin p (zP _ (zAZ _ hp))
   have fD:FpOk Y pins H2 D:=⟨pD1,pD2,pD3,.inr (zJ _),fun x c e z=>by
    obtain⟨v,q⟩:=I2.cell x c (closCl_sound _ _ (S.clos I2) (fun y c e=>by simp at e) x c e)
    have h1:=q.lt
    rw[show c=s2.heap.objs.size from z]at h1
    exact zAH _ h1,fun p hp z=>by
    have h1:=zN (I2.pin p hp).1
    rw[show p.1=s2.heap.objs.size from z]at h1
    exact zAH _ h1⟩
   have nsys:(D == sysModules)=false:=by
    have:=I2.big
    exact zBK.mpr fun z=>by
     have e:D=sysModules:=by simpa using z
     have h1:sysModules<D:=this
     rw[<- e]at h1
     exact zAH _ h1
   have new:ObjOk X.prog X.w (upd H2 D (dEmp t)) h₁ D (dEmp t):=by
    cases t
    ·exact⟨zAW _,nsys,[],.nil,_,#[],0,hacc,⟨rfl,rfl,rfl⟩,rfl,fun e he=>by simp at he,.nil,List.nodup_nil⟩
    ·exact⟨zAW _,nsys,[],.nil,_,#[],0,hacc,⟨rfl,rfl,rfl⟩,rfl,rfl,List.nodup_nil⟩
   refine⟨0,upd H2 D (dEmp t),rfl,zAW _,I5.track fD new,st4,fun b hb=>?_,p0⟩
   rw[upd_ne (fun z=>hDfp (by rw[<- z];exact hb))]
   exact(f2 b hb).1
 exact codeAny_compStart_dict (loop _ rfl) (T.self X.A 0 _ _ _ st4 (loop _ rfl))
theorem pe_dcomp(t:Bool)(hu:X.A.units<cLine)(hc:X.calm=true)(S:CompScope N' cap X.N X.env.scope scope)(hi:PI X tg iter wi)(hg:∀ C s H fp,PG (cxIn X N' scope C s H fp) tg g)
  (ht:∀ C s H fp,PF (cxIn X N' scope C s H fp) ifs tc) (hk:∀ C s H fp,PE (cxIn X N' scope C s H fp) kx tk) (he:∀ C s H fp,PE (cxIn X N' scope C s H fp) vx tv)
  (hs:∀ x,foldedSetIterable iter X.env x=pure x:=by intro _;rfl):PE X (.DictComp kx vx [⟨tg,iter,ifs,0⟩] scope pos) (tDComp t cap wi g tc tk tv):=by
 intro pins s σ H Q I h
 rw[arm_eval_DictComp]
 refine wpAny_comprehension_free (use:=none) rfl hs (closureFor_cells (S.clos I)) S.kind S.loc (thn (dcomp_run (pos:=pos) t hu hc S hi hg ht hk he I h) fun x s1 h1=>thn h1 fun it s2 h2=>thn h2 fun acc s3 h3=>thn h3 fun cenv s4 h4=>?_)
 refine codeAny_mono h4 fun r s' hr=>?_
 cases r with
 |error x=>exact hr.elim
 |ok f =>
  obtain⟨v,H',I',rv,q,⟨m,hn⟩,f0,f1,f2,f3,f4,f5⟩:=hr
  refine⟨m,hn,fun h' sb=>⟨v,H',I'.turned (it:=cenv.locals) (t':=s'.toks) (fun b o hb e=>(sb.2 b hb).trans e) f0 f1 f3 f4 f5,rv,q⟩⟩
end
open PySem PySem.W PyProof.Rows Srt
section
variable{X:Cx}
theorem bools_at:∀ {bs:List Bool}{us:List Value},Vals (bs.map V.bl) us->∀ (i:Nat) (v:Value),us[i]?=some v->∃ b,bs[i]?=some b/\v = .bool b
 |[],_,.nil,i,v,h=>by simp at h
 |b :: bs,_,.cons r t,0,v,h=>by
  simp at h
  subst h
  exact⟨b,rfl,r⟩
 |b :: bs,_,.cons r t,i+1,v,h=>by
  obtain⟨c,e,q⟩:=bools_at t i v (by simpa using h)
  exact⟨c,by simpa using e,q⟩
theorem call_all(hc:X.calm=true):CallR X (.builtin "all") (fun xs H Q=>∃ (l:Addr) (bs:List Bool),xs=[V.ref l]/\SqL X.K H l (bs.map V.bl)/\Q (.bl (bs.all id)) H):=by
 intro pins s σ H xs us Q I r h
 obtain⟨l,bs,rfl,hq,q⟩:=h
 obtain⟨u,rfl,rx⟩:=vals1 r
 cases rx
 obtain⟨its,r',pl,hz⟩:=I.list hq
 have len:its.length=bs.length:=by rw[<- r'.length,zB]
 have hl:=pl.isList
 have hlt:l<s.heap.objs.size:=by obtain⟨_,e,_⟩:=hl;exact zN e
 refine call_all_walk (wpAny_pyIter_list hl ⟨s.heap.objs.size,[s.heap.objs.size,l],[s.heap.objs.size],its.toArray.size,_,_,fun i=>(bs[i]?).getD true,rfl,Walks.list (A:=X.A.in1) (show X.A.handled=none from I.ok.hd hc) _ l (zAE hlt) its.toArray,⟨⟨_,zS _ rfl,rfl,rfl⟩,hl.push _⟩,fun i v s' Q' E' hP hQ=>?_,fun h' tk hk=>?_⟩)
 ·obtain⟨b,e,rfl⟩:=bools_at r' i v (by simpa using hP)
  simp only[e,Option.getD_some]at hQ
  exact wpAny_truthy_bool hQ
 ·have e:((List.range its.toArray.size).all fun i=>(bs[i]?).getD true)=bs.all id:=by rw[zV,len];exact LSm.range_all bs
  rw[e]
  exact⟨.bl _,H,I.kept (t':=tk) (LSm.kept_iter hk),rfl,q⟩
variable{a b c d:Expr}{ta tb tc td:TE}{pos:Pos}
end
open PySem PySem.W PyProof.Rows Srt
noncomputable abbrev TupsAt(H:Hp)(as:List Addr)(ks:List (List Int)):Prop:=Paired (fun a k=>H a=some (.tup (List.map V.int k))) as ks
section
variable{X:Cx}
theorem tups_len{H:Hp}{as:List Addr}{ks:List (List Int)}(h:TupsAt H as ks):as.length=ks.length:=Paired.length h
theorem tups_at{H:Hp}:∀ {as:List Addr}{ks:List (List Int)},TupsAt H as ks->∀ (i:Nat) (h1:i<as.length) (h2:i<ks.length),H as[i]=some (.tup (List.map V.int ks[i])):=by
 intro as ks h
 induction h with
 |nil=>intro i h1;exact absurd h1 (Nat.not_lt_zero _)
 |cons h t ih =>
  intro i h1 h2
  cases i with
  |zero=>exact h
  |succ i=>exact ih i (zAY h1) (zAY h2)
inductive TyF(H:Hp):V->Value->Prop where
 |non:TyF H .non (.type "NoneType")
 |bl (x:Bool):TyF H (.bl x) (.type "bool")
 |int (i:Int):TyF H (.int i) (.type "int")
 |str (x:Str):TyF H (.str x) (.type "str")
 |lst {a:Addr}{xs:List V} (e:H a=some (.lst xs)):TyF H (.ref a) (.type "list")
 |tup {a:Addr}{xs:List V} (e:H a=some (.tup xs)):TyF H (.ref a) (.type "tuple")
theorem call_isinst2:CallR X (.builtin "isinstance") (fun xs H Q=>∃ x t p b,xs=[x,V.ref p]/\TyF H x t/\H p=some (.tup [.ty "list",.ty "tuple"])/\PySem.W.kitAny X.K t [.type "list",.type "tuple"]=some b/\Q (.bl b) H):=by
 intro pins s σ H xs us Q I r h
 obtain⟨x,t,p,b,rfl,ty,hp,e,q⟩:=h
 obtain⟨u,u',rfl,rx,rc⟩:=vals2 r
 cases rc
 obtain⟨z,its,rv,o,e0,c,n,d⟩:=I.hok p _ hp
 obtain⟨cls,dd,dat,sl⟩:=o
 cases c
 cases d
 cases rv with
 |cons r1 r2 =>
  cases r2 with
  |cons r2 r3 =>
   cases r3
   cases r1
   cases r2
   have fin:∀ tk,EP X pins σ Q (.bool b) { s with toks:=tk }:=fun tk=>⟨.bl b,H,I.tok _,rfl,q⟩
   cases ty with
   |non=>cases(show u=Value.none from rx);exact PySem.W.kia_tup PySem.W.kitx_none I.kIn True.intro e0 e (fun z=>nomatch z) fin
   |bl y=>cases(show u=Value.bool y from rx);exact PySem.W.kia_tup PySem.W.kitx_bool I.kIn True.intro e0 e (fun z=>nomatch z) fin
   |int i=>obtain⟨t,q⟩:=(show ∃ t,u=Value.int i t from rx);cases q;exact PySem.W.kia_tup PySem.W.kitx_int I.kIn True.intro e0 e (fun z=>nomatch z) fin
   |str y=>obtain⟨t,q⟩:=(show ∃ t,u=Value.str y t from rx);cases q;exact PySem.W.kia_tup PySem.W.kitx_str I.kIn True.intro e0 e (fun z=>nomatch z) fin
   | @lst a xs ea =>
    cases(show u=Value.ref a from rx)
    obtain⟨_,_,n,_,h1⟩:=(show ObjOk X.prog X.w H s.heap a (.lst xs)from I.hok a _ ea)
    exact PySem.W.kia_tup PySem.W.kitx_list I.kIn ⟨_,h1,rfl⟩ e0 e (fun z=>nomatch z) fin
   | @tup a xs ea =>
    cases(show u=Value.ref a from rx)
    obtain⟨_,_,_,pp⟩:=(show ObjOk X.prog X.w H s.heap a (.tup xs)from I.hok a _ ea)
    obtain⟨o,h1,h2,_⟩:=pp
    exact PySem.W.kia_tup PySem.W.kitx_tuple I.kIn ⟨o,h1,h2⟩ e0 e (fun z=>nomatch z) fin
end
inductive Dt where
 |non | bl (b:Bool) | int (i:Int) | str (x:Str) | lst (ds:List Dt) | tup (ds:List Dt)
noncomputable def Dat(H:Hp):Nat->V->Dt->Prop
 | _,v,.non=>v = .non
 | _,v,.bl b=>v = .bl b
 | _,v,.int i=>v = .int i
 | _,v,.str x=>v = .str x
 | 0,_,.lst _=>False
 | 0,_,.tup _=>False
 |n+1,v,.lst ds=>∃ a xs,v = .ref a/\xs.length<=1000/\H a=some (.lst xs)/\Paired (Dat H n) xs ds
 |n+1,v,.tup ds=>∃ a xs,v = .ref a/\xs.length<=1000/\H a=some (.tup xs)/\Paired (Dat H n) xs ds
open PySem PyProof.Rows
section
variable{K:PySem.W.Frag}{a:Addr}{xs:List V}{g:TG}{tc:TT}{te:TE}{cap:List (Option Nat)}{σ:St}{H1:Hp}{Q:VK}
theorem comp_tup(P:Nat->List V->Hp->Prop)(hz:xs.length<=sizeLine)(p0:P 0 [] H1)(hl:∀ i ys H,i<=xs.length->P i ys H->SqT K H a xs)
  (hs:∀ i x ys H,xs[i]?=some x->P i ys H->g x (capt cap σ) H fun σ2 H2=>Kp (capt cap σ) σ2/\tc σ2 H2 fun b H3=>if b=true then te σ2 H3 fun y H4=>P (i+1) (ys++[y]) H4 else P (i+1) ys H3)
  (hd:∀ ys H,ys.length<=xs.length->P xs.length ys H->∀ D,H D=none->Q (.ref D) (upd H D (.lst ys))):compTurns (Itt K a) cap σ H1 Q g tc te:=by
 refine⟨xs.length,P,hz,p0,fun i ys H yl il p=>?_⟩
 have q:=hl i ys H il p
 by_cases hlt:i<xs.length
 ·refine .inr ⟨hlt,⟨xs,xs[i],q,by simp[hlt]⟩,fun x H' y=>?_⟩
  obtain⟨e,y⟩:=y
  subst e
  exact hs i x ys _ (y xs q) p
 ·have e:i=xs.length:=by exact zj7 il hlt
  subst e
  exact .inl ⟨⟨xs,q,zJ _⟩,hd ys H yl p⟩
theorem comp_list(P:Nat->List V->Hp->Prop)(hz:xs.length<=sizeLine)(p0:P 0 [] H1)(hl:∀ i ys H,i<=xs.length->P i ys H->SqL K H a xs)
  (hs:∀ i x ys H,xs[i]?=some x->P i ys H->g x (capt cap σ) H fun σ2 H2=>Kp (capt cap σ) σ2/\tc σ2 H2 fun b H3=>if b=true then te σ2 H3 fun y H4=>P (i+1) (ys++[y]) H4 else P (i+1) ys H3)
  (hd:∀ ys H,ys.length<=xs.length->P xs.length ys H->∀ D,H D=none->Q (.ref D) (upd H D (.lst ys))):compTurns (Itl K a) cap σ H1 Q g tc te:=by
 refine⟨xs.length,P,hz,p0,fun i ys H yl il p=>?_⟩
 have q:=hl i ys H il p
 by_cases hlt:i<xs.length
 ·refine .inr ⟨hlt,⟨xs,xs[i],q,by simp[hlt]⟩,fun x H' y=>?_⟩
  obtain⟨e,y⟩:=y
  subst e
  exact hs i x ys _ (y xs q) p
 ·have e:i=xs.length:=by exact zj7 il hlt
  subst e
  exact .inl ⟨⟨xs,q,zJ _⟩,hd ys H yl p⟩
theorem comp_range{lo:Int}{n:Nat}(P:Nat->List V->Hp->Prop)(hz:n<=sizeLine)(p0:P 0 [] H1)
  (hs:∀ i ys H,i<n->P i ys H->g (.int (lo+i)) (capt cap σ) H fun σ2 H2=>Kp (capt cap σ) σ2/\tc σ2 H2 fun b H3=>if b=true then te σ2 H3 fun y H4=>P (i+1) (ys++[y]) H4 else P (i+1) ys H3)
  (hd:∀ ys H,ys.length<=n->P n ys H->∀ D,H D=none->Q (.ref D) (upd H D (.lst ys))):compTurns (Itr lo n) cap σ H1 Q g tc te:=by
 refine⟨n,P,hz,p0,fun i ys H yl il p=>?_⟩
 by_cases hlt:i<n
 ·refine .inr ⟨hlt,hlt,fun x H' y=>?_⟩
  obtain⟨e,y⟩:=y
  subst e y
  exact hs i ys _ hlt p
 ·have e:i=n:=by exact zj7 il hlt
  subst e
  exact .inl ⟨zJ _,hd ys H yl p⟩
end
noncomputable def capB(cap:List (Option Nat))(N' N:List Str)(names:List (Str×NameKind)):Bool:=(List.range cap.length).all fun j=>match cap[j]? with
 |some (some i)=>(match N'[j]? with
  |some x=>decide (N[i]?=some x/\names.lookup x=some .free)
  |none=>false)
 | _=>true
theorem capB_ok{cap:List (Option Nat)}{N' N:List Str}{names:List (Str×NameKind)}(h:capB cap N' N names=true):∀ j∈List.range cap.length,match cap[j]? with
  |some (some i)=>match N'[j]? with
   |some x=>N[i]?=some x/\names.lookup x=some .free
   |none=>False
  | _=>True:=by
 intro j hj
 have z:=List.all_eq_true.mp h j hj
 revert z
 cases e1:cap[j]? with
 |none=>intro _;trivial
 |some o =>
  cases o with
  |none=>intro _;trivial
  |some i =>
   cases e2:N'[j]? with
   |none =>
    intro z
    dsimp only at z
    exact absurd z zW
   |some x =>
    intro z
    dsimp only at z
    exact of_decide_eq_true z
theorem op_catTK{X:Cx}(K:PySem.W.Frag)(e:X.K=K):OpR X (binaryOp .Add) (rCatT K):=e▸op_catT
theorem pg_tupK{X:Cx}{pos:Pos}(K:PySem.W.Frag)(e:X.K=K){es:List Expr}{k:Nat}{t:TGs}{n:Nat}(hc:X.calm=true)(h:PGs X es t)
  (hn:(assignEach es X.env).length=n) (hst:(assignEach es X.env).findIdx? (·.1)=none):PG X (.Tuple es k pos) (gTup K n t):=e▸pg_tup hc h hn hst
theorem Paired.at{α β:Type}{F:α->β->Prop}:∀ {l₁:List α}{l₂:List β},Paired F l₁ l₂->∀ (i:Nat) (h1:i<l₁.length) (h2:i<l₂.length),F l₁[i] l₂[i]:=by
 intro l ks h
 induction h with
 |nil=>intro i h1;exact absurd h1 (Nat.not_lt_zero _)
 |cons h t ih =>
  intro i h1 h2
  cases i with
  |zero=>exact h
  |succ i=>exact ih i (zAY h1) (zAY h2)
theorem Same.tupq{K:PySem.W.Frag}{H H':Hp}{a:Addr}{xs:List V}(e:Same H H')(h:SqT K H a xs):SqT K H' a xs:=by
 rcases h with(h |⟨o,h⟩) | h
 ·exact .inl (.inl (e _ _ h))
 ·exact .inl (.inr ⟨o,e _ _ h⟩)
 ·exact .inr h
theorem Same.new{q:Addr}{H:Hp}{o:HO}(h:H q=none):Same H (upd H q o):=fun b u e=>by rw[upd_ne (ne_of_none e h)];exact e
section
variable{K:PySem.W.Frag}{l1 l2:Addr}{xs ys:List V}{b1 b2:Bool}{g:TG}{tc:TT}{te:TE}{cap:List (Option Nat)}{σ:St}{H1:Hp}{Q:VK}
theorem comp_zip(P:Nat->List V->Hp->Prop)(hz:min xs.length ys.length<=sizeLine)(p0:P 0 [] H1)(hl:∀ i zs H,i<=min xs.length ys.length->P i zs H->SqB b1 K H l1 xs/\SqB b2 K H l2 ys)
  (hs:∀ i x y zs H T,xs[i]?=some x->ys[i]?=some y->P i zs H->H T=none->g (.ref T) (capt cap σ) (upd H T (.tup [x,y])) fun σ2 H2=>Kp (capt cap σ) σ2/\tc σ2 H2 fun b H3=>if b=true then te σ2 H3 fun y H4=>P (i+1) (zs++[y]) H4 else P (i+1) zs H3)
  (hd:∀ zs H,zs.length<=min xs.length ys.length->P (min xs.length ys.length) zs H->∀ D,H D=none->Q (.ref D) (upd H D (.lst zs))):compTurns (Itz K b1 b2 l1 l2) cap σ H1 Q g tc te:=by
 refine⟨min xs.length ys.length,P,hz,p0,fun i zs H yl il p=>?_⟩
 obtain⟨q1,q2⟩:=hl i zs H il p
 by_cases hlt:i<min xs.length ys.length
 ·have h1:i<xs.length:=by lia
  have h2:i<ys.length:=by omega
  refine .inr ⟨hlt,⟨xs,ys,xs[i],ys[i],q1,q2,by simp[h1],by simp[h2]⟩,fun v H' y=>?_⟩
  obtain⟨T,x,y,rfl,hT,rfl,f1,f2⟩:=y
  exact hs i x y zs _ T (f1 xs q1) (f2 ys q2) p hT
 ·have e:i=min xs.length ys.length:=by exact zj7 il hlt
  subst e
  exact .inl ⟨⟨xs,ys,q1,q2,by exact zcx⟩,hd zs H yl p⟩
theorem for_zip{tb:TS}{D:Ends}{σ:St}{H:Hp}(Pv:Nat->St->Hp->Prop)(h0:Pv 0 σ H)(hl:∀ i σ H,i<=min xs.length ys.length->Pv i σ H->SqB b1 K H l1 xs/\SqB b2 K H l2 ys)
  (hs:∀ i x y σ H T,xs[i]?=some x->ys[i]?=some y->Pv i σ H->H T=none->g (.ref T) σ (upd H T (.tup [x,y])) fun σ2 H2=>tb { D with nx:=Pv (i+1),ct:=Pv (i+1),bk:=D.nx } σ2 H2) (hd:∀ σ H,Pv (min xs.length ys.length) σ H->D.nx σ H) :
  ∃ W:Nat->Nat->St->Hp->Prop,(∃ m,W 0 m σ H)/\∀ i m σ H,W i m σ H ->
   ((Itz K b1 b2 l1 l2).stop i H/\D.nx σ H)\/((Itz K b1 b2 l1 l2).go i H/\∃ N:St->Hp->Prop,(∀ σ' H',N σ' H'->∃ m',m'<m/\W (i+1) m' σ' H')/\∀ x H',(Itz K b1 b2 l1 l2).yld i H x H'->g x σ H' fun σ2 H2=>tb { D with nx:=N,ct:=N,bk:=D.nx } σ2 H2):=by
 refine⟨fun i m σ H=>m=min xs.length ys.length-i/\i<=min xs.length ys.length/\Pv i σ H,⟨min xs.length ys.length,by simp,zAW _,h0⟩,?_⟩
 rintro i m σ H ⟨rfl,hi,p⟩
 obtain⟨q1,q2⟩:=hl i σ H hi p
 by_cases hlt:i<min xs.length ys.length
 ·have h1:i<xs.length:=by exact zbx hlt
  have h2:i<ys.length:=by exact zbw hlt
  refine .inr ⟨⟨xs,ys,xs[i],ys[i],q1,q2,by simp[h1],by simp[h2]⟩,Pv (i+1),fun σ' H' p'=>⟨min xs.length ys.length-(i+1),by exact zbc hlt,rfl,hlt,p'⟩,fun v H' y=>?_⟩
  obtain⟨T,x,y,rfl,hT,rfl,f1,f2⟩:=y
  exact hs i x y σ _ T (f1 xs q1) (f2 ys q2) p hT
 ·have e:i=min xs.length ys.length:=by exact zj7 hi hlt
  subst e
  exact .inl ⟨⟨xs,ys,q1,q2,by exact zcx⟩,hd σ H p⟩
end
theorem lexLt_eq:∀ x y:List Int,HT.lexLt x y=Srt.lexlt x y
 |[],[]=>rfl
 |[],_ :: _=>rfl
 | _ :: _,[]=>rfl
 |a :: x,b :: y=>by
  rw[HT.lexLt_cons,lexLt_eq x y]
  show _=(decide (a<b) ||(decide (a=b) && Srt.lexlt x y))
  by_cases e:a=b
  ·subst e;simp
  ·rw[if_neg e,decide_eq_false e];simp
theorem cutV_tail(xs:List V):cutV xs (some 1) none=xs.drop 1:=by
 unfold cutV
 cases xs with
 |nil=>rfl
 |cons x xs =>
  have e1:HT.sIx (x :: xs).length 0 (some 1)=1:=by simp[HT.sIx]
  have e2:HT.sIx (x :: xs).length (x :: xs).length none=(x :: xs).length:=by simp[HT.sIx]
  rw[e1,e2]
  simp
open PySem PySem.W PyProof.Rows
noncomputable def tVq(i:Nat):TE:=fun σ H Q=>match σ[i]? with
 |some (some v)=>Q v H
 | _=>False
theorem tVar_of{i:Nat}{σ:St}{H:Hp}{Q:VK}(h:tVq i σ H Q):tVar i σ H Q:=by
 unfold tVq at h
 split at h
 ·exact⟨_,by assumption,h⟩
 ·exact h.elim
section
variable{X:Cx}
theorem pvQ(i:Nat){x:Str}{pos:Pos}(hN:X.N[i]?=some x:=by rfl)(hv:Vis X.env.scope x:=by first | exact Or.inl rfl | exact Or.inr (Or.inl rfl) | exact Or.inr (Or.inr rfl))(hd:(x ==("__debug__":Str))=false:=by decide)
  (hcd:(x ==("__classdict__":Str))=false:=by decide):PE X (.Name x pos) (tVq i):=fun pins s σ H Q I h=>pv i hN hv hd hcd pins s σ H Q I (tVar_of h)
end
end L2
namespace K32
open PySem L2 PyProof.Rows
noncomputable def top(i:Nat):Stmt:=PySem.Challenge.pw_partedweb_k32_owners_shares_rounded.main.body.getD i (.Pass ⟨0,0,0,0⟩)
noncomputable abbrev sIsNumber:Stmt:=top 1
noncomputable abbrev sAreNumbers:Stmt:=top 2
noncomputable abbrev sIsList:Stmt:=top 3
noncomputable abbrev sIsTupleOf:Stmt:=top 4
noncomputable abbrev sRises:Stmt:=top 5
noncomputable abbrev sIsFraction:Stmt:=top 6
noncomputable abbrev sCommonDivisor:Stmt:=top 7
noncomputable abbrev sFraction:Stmt:=top 8
noncomputable abbrev sIsLess:Stmt:=top 9
noncomputable abbrev sOverOne:Stmt:=top 10
noncomputable abbrev sIsCut:Stmt:=top 12
noncomputable abbrev sTieWeights:Stmt:=top 13
noncomputable abbrev sWeightOf:Stmt:=top 14
noncomputable abbrev sCutBy:Stmt:=top 16
noncomputable abbrev sCostOf:Stmt:=top 20
noncomputable abbrev sApart:Stmt:=top 21
noncomputable abbrev sCostAt:Stmt:=top 22
noncomputable abbrev sSharesBy:Stmt:=top 23
noncomputable abbrev sEvenShares:Stmt:=top 24
noncomputable abbrev sMixed:Stmt:=top 25
noncomputable abbrev sBlend:Stmt:=top 26
noncomputable abbrev sOwnersBy:Stmt:=top 28
noncomputable abbrev sTaker:Stmt:=top 29
noncomputable abbrev sThresholds:Stmt:=top 30
noncomputable abbrev sRounded:Stmt:=top 31
noncomputable abbrev sOrdersFor:Stmt:=top 32
noncomputable abbrev sShowsRounded:Stmt:=top 33
noncomputable abbrev sIsOrderOf:Stmt:=top 34
noncomputable abbrev sIsThreshold:Stmt:=top 35
noncomputable abbrev sCell:Stmt:=top 37
noncomputable abbrev sBox:Stmt:=top 38
noncomputable abbrev sTake:Stmt:=top 39
noncomputable abbrev sMany:Stmt:=top 40
noncomputable abbrev sWeight:Stmt:=top 41
noncomputable abbrev sWeb:Stmt:=top 42
noncomputable abbrev sPosts:Stmt:=top 43
noncomputable abbrev sShared:Stmt:=top 44
noncomputable abbrev sFrac:Stmt:=top 45
noncomputable abbrev sLess:Stmt:=top 46
noncomputable abbrev sOwned:Stmt:=top 47
noncomputable abbrev sOwnersRight:Stmt:=top 48
noncomputable abbrev sHalvesRight:Stmt:=top 49
noncomputable abbrev sLaw:Stmt:=top 50
noncomputable def Kept(p:Addr)(H H':Hp):Prop:=∀ b o,b≠p->H b=some o->H' b=some o
theorem Kept.refl{p:Addr}{H:Hp}:Kept p H H:=fun _ _ _ e=>e
theorem Kept.trans{p:Addr}{H H' H'':Hp}(a:Kept p H H')(b:Kept p H' H''):Kept p H H'':=fun c o n e=>b c o n (a c o n e)
theorem Kept.new{p q:Addr}{H:Hp}{o:HO}(h:H q=none):Kept p H (upd H q o):=fun b u _ e=>by rw[upd_ne (ne_of_none e h)];exact e
theorem Kept.at{p:Addr}{H:Hp}{o:HO}:Kept p H (upd H p o):=fun b u n e=>by rw[upd_ne n];exact e
noncomputable def BoxAt(H:Hp)(p:Addr)(N:Nat):Prop:=∃ a b c:Int,H p=some (.lst [.int a,.int b,.int c])/\0<=a/\0<=c/\c<=(N:Int)
theorem BoxAt.mono{H:Hp}{p:Addr}{N M:Nat}(x:BoxAt H p N)(h:N<=M):BoxAt H p M:=by
 obtain⟨a,b,c,e,h1,h2,h3⟩:=x
 exact⟨a,b,c,e,h1,h2,by exact ziy h h3⟩
theorem BoxAt.new{H:Hp}{p q:Addr}{N:Nat}{o:HO}(x:BoxAt H p N)(h:H q=none):BoxAt (upd H q o) p N:=by
 obtain⟨a,b,c,e,r⟩:=x
 exact⟨a,b,c,by rw[upd_ne (ne_of_none e h)];exact e,r⟩
theorem b01(b:Bool):-(2 ^ 64) <(if b=true then 1 else 0:Int)/\(if b=true then 1 else 0:Int)<2 ^ 64:=by cases b <;> decide
theorem b0(b:Bool):(0:Int)<=(if b=true then 1 else 0:Int):=by cases b <;> decide
inductive spCellI(K:PySem.W.Frag)(vs:List V)(H:Hp)(Q:VK):Prop where
 |mk (a:Addr) (ns:List Int) (k:Nat) (h1:vs=[.ref a,.int k]) (h2:SqL K H a (ns.map V.int)) (h3:∀ z,Q (.int z) H)
noncomputable def spCell(K:PySem.W.Frag):Sp:=fun vs H Q _=>spCellI K vs H Q
inductive spBoxI(K:PySem.W.Frag)(vs:List V)(H:Hp)(Q:VK):Prop where
 |mk (a:Addr) (ns:List Int) (k:Nat) (h1:vs=[.ref a,.int k]) (h2:SqL K H a (ns.map V.int)) (h3:∀ p H',H p=none->BoxAt H' p 0->Kept p H H'->Q (.ref p) H')
noncomputable def spBox(K:PySem.W.Frag):Sp:=fun vs H Q _=>spBoxI K vs H Q
inductive spTakeI(vs:List V)(H:Hp)(Q:VK):Prop where
 |mk (p:Addr) (m:Int) (N:Nat) (h1:vs=[.ref p,.int m]) (h2:BoxAt H p N) (h3:N<2 ^ 40) (h4:0<m) (h5:m<1073741824) (h6:∀ z H',0<=z->z<m->BoxAt H' p (N+1)->Kept p H H'->Q (.int z) H')
noncomputable def spTake:Sp:=fun vs H Q _=>spTakeI vs H Q
inductive spManyI(vs:List V)(H:Hp)(Q:VK):Prop where
 |mk (p:Addr) (l f m:Int) (N:Nat) (h1:vs=[.ref p,.int l,.int f,.int m]) (h2:BoxAt H p N) (h3:N+2<2 ^ 40) (h4:l<=f) (h5:7<=m) (h6:f-l<1000) (h7:m<1000) (h8:∀ z H',(l<=z/\z<=f)\/(7<=z/\z<=m)->BoxAt H' p (N+2)->Kept p H H'->Q (.int z) H')
noncomputable def spMany:Sp:=fun vs H Q _=>spManyI vs H Q
inductive spWeightI(vs:List V)(H:Hp)(Q:VK):Prop where
 |mk (p:Addr) (h:Nat) (N:Nat) (h1:vs=[.ref p,.int h]) (h2:h<4) (h3:BoxAt H p N) (h4:N+2<2 ^ 40) (h5:∀ z H',(1<=z/\z<=1073741824)->BoxAt H' p (N+2)->Kept p H H'->Q (.int z) H')
noncomputable def spWeight:Sp:=fun vs H Q _=>spWeightI vs H Q
structure Txt(mg:Str->Option Value):Prop where
 abs:mg "abs" = none
 int:mg "int" = none
 len:mg "len" = none
 range:mg "range" = none
 min:mg "min" = none
 max:mg "max" = none
 tuple:mg "tuple" = none
 sorted:mg "sorted" = none
 isinst:mg "isinstance" = none
 list:mg "list" = none
 str:mg "str" = none
 bool:mg "bool" = none
 sum:mg "sum" = none
section
variable{P:Program}{w:World}{K:PySem.W.Frag}{mg:Str->Option Value}{base:Heap}
theorem scCell:FnScope ["_law_script","_law_k"] ["_law_script","_law_k"] (defScope sCell):=⟨rfl,rfl,rfl,by decide +kernel,rfl,by decide +kernel,by decide +kernel⟩
theorem ok_cell{f:Addr}{fd:FuncData}(F:Fun K "_law_cell_at" "_law_cell_at" sCell f fd)(T:Txt mg):FnOk P w K mg base CX0 1 f fd ["_law_script","_law_k"] (spCell K):=by
 refine F.ok scCell (fun vs H Q E h=>?_) (fun cdv A outer s H vs Q E hr h=>?_)
 ·obtain⟨a,ns,k,rfl,_⟩:=h
  rfl
 ·obtain⟨a,ns,k,rfl,hS,q⟩:=h
  refine⟨_,pss_cons (ps_if (pt_cmpR op_lt (pvQ 1) (pe_callB call_len_seq (by rfl) T.len PySem.boot_len (pa_cons (pvQ 0) pa_nil)) (nomark _)) (pss_one (ps_ret (pe_ix ix_list (pvQ 0) (pvQ 1) (fun _ _=>rfl)))) pss_nil) (pss_one (ps_ret pe_int)),?_⟩
  refine⟨a,_,rfl,.inl hS,_,_,rfl,rfl,_,rfl,?_⟩
  refine ite2 (fun hk=>?_) (fun _=>?_)
  ·have hk':k<ns.length:=by
    have:=of_decide_eq_true hk
    rw[zB]at this
    exact zi3 this
   exact⟨a,_,_,_,rfl,rfl,hS,atI_nat (v:=V.int ns[k]) (by rw[zAJ,zF hk'];rfl),q _⟩
  ·exact q _
theorem scBox:FnScope ["_law_script","_law_k","_law_cell"] ["_law_script","_law_k"] (defScope sBox):=⟨rfl,rfl,rfl,by decide +kernel,rfl,by decide +kernel,by decide +kernel⟩
theorem ok_box{f g:Addr}{fd gd:FuncData}(F:Fun K "_law_box" "_law_box" sBox f fd)(T:Txt mg)(G:Fun K "_law_cell_at" "_law_cell_at" sCell g gd)(mG:mg "_law_cell_at" = some (.ref g))(bG:Binds K gd ["_law_script","_law_k"] []):FnOk P w K mg base CX0 2 f fd ["_law_script","_law_k"] (spBox K):=by
 refine F.ok scBox (fun vs H Q E h=>?_) (fun cdv A outer s H vs Q E hr h=>?_)
 ·obtain⟨a,ns,k,rfl,_⟩:=h
  rfl
 ·obtain⟨a,ns,k,rfl,hS,q⟩:=h
  have GG:FnOk P w K mg base CX0 1 g gd ["_law_script","_law_k"] (spCell K):=ok_cell G T
  refine⟨_,pss_cons (ps_set (i:=2) scBox.nd rfl (Or.inl rfl) (pe_call GG hr rfl mG G.kp bG .nil pass0 (pa_cons (pv 0) (pa_cons (pv 1) pa_nil))))
   (pss_one (ps_ret (pe_lst (pa_cons (pe_op op_mul (pe_callB call_abs (by rfl) T.abs boot_abs (pa_cons (pv 2) pa_nil)) (pe_callTy call_int1 (by rfl) T.int boot_int (pa_cons (pe_cmpR op_ge (pe_callB call_abs (by rfl) T.abs boot_abs (pa_cons (pv 2) pa_nil)) (pe_op op_pow pe_int pe_int) (nomark _)) pa_nil)))
    (pa_cons (pe_op op_add (pe_op op_add (pe_op op_mod (pv 2) pe_int) (pe_op op_mul pe_int (pv 1))) pe_int) (pa_cons pe_int pa_nil)))))),?_⟩
  refine⟨_,rfl,_,rfl,a,ns,k,rfl,hS,fun z=>?_⟩
  refine⟨_,rfl,_,rfl,_,rfl,_,rfl,_,_,rfl,rfl,⟨by decide,by decide,by decide⟩,_,_,rfl,rfl,.inr ⟨_,rfl,_,_,rfl,rfl,.inr ?_,_,rfl,_,_,rfl,rfl,(by show(0:Int)<2305843009213693951;decide),_,rfl,_,_,rfl,rfl,.inl ⟨by decide,by decide⟩,_,_,rfl,rfl,_,_,rfl,rfl,(by show 3<=sizeLine;decide),fun p hp=>?_⟩⟩
  ·exact b01 _
  ·refine q p _ hp ⟨_,_,_,upd_same,?_,by decide,by decide⟩ (Kept.new hp)
   refine Int.mul_nonneg ?_ ?_
   ·split <;> lia
   ·exact b0 _
theorem scTake:FnScope ["_law_box_here","_law_many_here","_law_found","_law_once","_law_twice"] ["_law_box_here","_law_many_here"] (defScope sTake):=⟨rfl,rfl,rfl,by decide +kernel,rfl,by decide +kernel,by decide +kernel⟩
theorem ok_take{f:Addr}{fd:FuncData}(F:Fun K "_law_take" "_law_take" sTake f fd):FnOk P w K mg base CX0 1 f fd ["_law_box_here","_law_many_here"] spTake:=by
 refine F.ok scTake (fun vs H Q E h=>?_) (fun cdv A outer s H vs Q E hr h=>?_)
 ·obtain⟨p,m,N,rfl,_⟩:=h
  rfl
 ·obtain⟨p,m,N,rfl,⟨a,b,c,hp,a0,c0,cN⟩,hN,m0,m1,q⟩:=h
  have hS:∀ {x y z:Int}{G:Hp},G p=some (.lst [.int x,.int y,.int z])->SqL K G p [.int x,.int y,.int z]:=fun e=>SqL.of e
  refine⟨_,pss_cons (ps_if (pt_cmpR op_gt (pe_ix ix_list (pvQ 0) pe_int (fun _ _=>rfl)) pe_int (nomark _))
    (pss_cons (ps_set (i:=2) scTake.nd rfl (Or.inl rfl) (pe_op op_mod (pe_ix ix_list (pvQ 0) pe_int (fun _ _=>rfl)) (pvQ 1)))
     (pss_cons (ps_asg (pe_op op_fdiv (pe_ix ix_list (pvQ 0) pe_int (fun _ _=>rfl)) (pvQ 1)) (pg_sub (pvQ 0) pe_int set_list))
     (pss_one (ps_ret (pvQ 2))))) pss_nil)
   (pss_cons (ps_asg (pe_op op_add (pe_ix ix_list (pvQ 0) pe_int (fun _ _=>rfl)) pe_int) (pg_sub (pvQ 0) pe_int set_list))
   (pss_cons (ps_set (i:=3) scTake.nd rfl (Or.inl rfl) (pe_op op_mod (pe_op op_mul (pe_op op_add (pe_ix ix_list (pvQ 0) pe_int (fun _ _=>rfl)) (pe_op op_mul pe_int (pe_ix ix_list (pvQ 0) pe_int (fun _ _=>rfl)))) (pe_op op_add pe_int (pe_ix ix_list (pvQ 0) pe_int (fun _ _=>rfl)))) pe_int))
   (pss_cons (ps_set (i:=4) scTake.nd rfl (Or.inl rfl) (pe_op op_mod (pe_op op_mul (pe_op op_add (pvQ 3) (pe_ix ix_list (pvQ 0) pe_int (fun _ _=>rfl))) (pe_op op_add (pe_op op_mod (pvQ 3) pe_int) pe_int)) pe_int))
   (pss_one (ps_ret (pe_op op_mod (pe_op op_fdiv (pe_op op_mod (pe_op op_add (pe_op op_mul (pvQ 4) pe_int) (pvQ 3)) pe_int) pe_int) (pvQ 1))))))),?_⟩
  refine⟨p,_,_,_,rfl,rfl,hS hp,rfl,_,_,rfl,rfl,_,rfl,?_⟩
  refine ite2 (fun hk=>?_) (fun _=>?_)
  ·have pos:0<a:=of_decide_eq_true hk
   refine⟨p,_,_,_,rfl,rfl,hS hp,rfl,_,_,rfl,rfl,m0,?_⟩
   refine⟨p,_,_,_,rfl,rfl,hS hp,rfl,_,_,rfl,rfl,⟨m0,m1⟩,p,_,_,_,rfl,rfl,hp,rfl,?_⟩
   refine q _ _ (Int.emod_nonneg _ (by exact zec m0 m1)) (zDC _ m0) ⟨_,_,_,upd_same,Int.ediv_nonneg a0 (by exact zfp m0 m1),c0,by exact zja cN⟩ Kept.at
  ·refine⟨p,_,_,_,rfl,rfl,hS hp,rfl,_,_,rfl,rfl,p,_,_,_,rfl,rfl,hp,rfl,?_⟩
   have g1:(upd H p (.lst [.int a,.int b,.int (c+1)])) p=some (.lst [.int a,.int b,.int (c+1)]):=upd_same
   refine⟨p,_,_,_,rfl,rfl,hS g1,rfl,p,_,_,_,rfl,rfl,hS g1,rfl,_,_,rfl,rfl,.inl ⟨by decide,by decide⟩,_,_,rfl,rfl,p,_,_,_,rfl,rfl,hS g1,rfl,_,_,rfl,rfl,_,_,rfl,rfl,.inr ⟨by lia,by lia⟩,_,_,rfl,rfl,(by show(0:Int)<2147483647;decide),?_⟩
   generalize ho:(b+48271 * (c+1)) * (39373+(c+1)) % 2147483647=once
   have o0:0<=once:=by rw[<- ho];exact Int.emod_nonneg _ (by decide)
   have o1:once<2147483647:=by rw[<- ho];exact zDC _ (by decide)
   refine⟨p,_,_,_,rfl,rfl,hS g1,rfl,_,_,rfl,rfl,_,_,rfl,rfl,(by show(0:Int)<40009;decide),_,_,rfl,rfl,_,_,rfl,rfl,.inl ⟨by lia,by exact zjd hN c0 cN ho⟩,_,_,rfl,rfl,(by show(0:Int)<2147483629;decide),?_⟩
   generalize ht:(once+(c+1)) * (once % 40009+7) % 2147483629=twice
   have t0:0<=twice:=by rw[<- ht];exact Int.emod_nonneg _ (by decide)
   have t1:twice<2147483629:=by rw[<- ht];exact zDC _ (by decide)
   refine⟨_,_,rfl,rfl,.inl ⟨by exact zgo ht,by exact zfx ht⟩,_,_,rfl,rfl,_,_,rfl,rfl,(by show(0:Int)<2147483587;decide),_,_,rfl,rfl,⟨by decide,by decide⟩,_,_,rfl,rfl,m0,?_⟩
   exact q _ _ (Int.emod_nonneg _ (by exact zec m0 m1)) (zDC _ m0) ⟨_,_,_,g1,a0,by exact zic c0,by exact zjb cN⟩ Kept.at
theorem scMany:FnScope ["_law_box_here","_law_least","_law_few","_law_most"] ["_law_box_here","_law_least","_law_few","_law_most"] (defScope sMany):=⟨rfl,rfl,rfl,by decide +kernel,rfl,by decide +kernel,by decide +kernel⟩
structure TakeF(P:Program)(w:World)(K:PySem.W.Frag)(mg:Str->Option Value)(base:Heap)(g:Addr)(gd:FuncData):Prop where
 ok:FnOk P w K mg base CX0 1 g gd ["_law_box_here","_law_many_here"] spTake
 mg:mg "_law_take" = some (.ref g)
 kp:PySem.W.keepIn K (.ref g)=true
 bd:Binds K gd ["_law_box_here","_law_many_here"] []
theorem ok_many{f g:Addr}{fd gd:FuncData}(F:Fun K "_law_many" "_law_many" sMany f fd)(G:TakeF P w K mg base g gd):FnOk P w K mg base CX0 2 f fd ["_law_box_here","_law_least","_law_few","_law_most"] spMany:=by
 refine F.ok scMany (fun vs H Q E h=>?_) (fun cdv A outer s H vs Q E hr h=>?_)
 ·obtain⟨p,l,f,m,N,rfl,_⟩:=h
  rfl
 ·obtain⟨p,l,f,m,N,rfl,B,hN,lf,m7,fl,mm,q⟩:=h
  refine⟨_,pss_cons (ps_if (pt_cmpR op_eq (pe_call G.ok hr rfl G.mg G.kp G.bd .nil pass0 (pa_cons (pvQ 0) (pa_cons pe_int pa_nil))) pe_int (nomark _))
   (pss_one (ps_ret (pe_op op_add pe_int (pe_call G.ok hr rfl G.mg G.kp G.bd .nil pass0 (pa_cons (pvQ 0) (pa_cons (pe_op op_sub (pvQ 3) pe_int) pa_nil)))))) pss_nil)
   (pss_one (ps_ret (pe_op op_add (pvQ 1) (pe_call G.ok hr rfl G.mg G.kp G.bd .nil pass0 (pa_cons (pvQ 0) (pa_cons (pe_op op_add (pe_op op_sub (pvQ 2) (pvQ 1)) pe_int) pa_nil)))))),?_⟩
  refine⟨p,_,N,rfl,B,by exact zj1 (zj1 hN),by decide,by decide,fun z H1 z0 z1 B1 k1=>⟨rfl,_,rfl,?_⟩⟩
  refine ite2 (fun _=>?_) (fun _=>?_)
  ·refine⟨_,_,rfl,rfl,p,_,N+1,rfl,B1,by exact zj1 hN,by exact zgr m7 mm,by lia,fun y H2 y0 y1 B2 k2=>⟨_,_,rfl,rfl,?_⟩⟩
   exact q _ _ (.inr ⟨by exact zig y0,by exact zio y1⟩) B2 (k1.trans k2)
  ·refine⟨_,_,rfl,rfl,_,_,rfl,rfl,p,_,N+1,rfl,B1,by exact zj1 hN,by lia,by exact zgh lf fl,fun y H2 y0 y1 B2 k2=>⟨_,_,rfl,rfl,?_⟩⟩
   exact q _ _ (.inl ⟨by exact zid y0,by exact zht y1⟩) B2 (k1.trans k2)
theorem scWeight:FnScope ["_law_box_here","_law_heavy"] ["_law_box_here","_law_heavy"] (defScope sWeight):=⟨rfl,rfl,rfl,by decide +kernel,rfl,by decide +kernel,by decide +kernel⟩
theorem ok_weight{f g:Addr}{fd gd:FuncData}(F:Fun K "_law_weight" "_law_weight" sWeight f fd)(G:TakeF P w K mg base g gd):FnOk P w K mg base CX0 2 f fd ["_law_box_here","_law_heavy"] spWeight:=by
 refine F.ok scWeight (fun vs H Q E h=>?_) (fun cdv A outer s H vs Q E hr h=>?_)
 ·obtain⟨p,h,N,rfl,_⟩:=h
  rfl
 ·obtain⟨p,h,N,rfl,h4,B,hN,q⟩:=h
  refine⟨_,pss_one (ps_ret (pe_op op_add pe_int (pe_call G.ok hr rfl G.mg G.kp G.bd .nil pass0 (pa_cons (pvQ 0) (@pa_sub _ _ _ _ _ _ _
   (@pe_ix _ _ _ _ _ _ _ ix_list (@pe_lst _ _ _ _ (@pa_cst _ _ _ _ _ _ _ pe_int (@pa_cst _ _ _ _ _ _ _ pe_int (@pa_cst _ _ _ _ _ _ _ pe_int (@pa_sub _ _ _ _ _ _ _ (@pe_ix _ _ _ _ _ _ _ ix_list (@pe_lst _ _ _ _ (@pa_cst _ _ _ _ _ _ _ pe_int (@pa_cst _ _ _ _ _ _ _ pe_int (@pa_bin _ _ _ _ _ _ _ _ (pe_op op_pow pe_int pe_int) pa_nil)))) (pe_call G.ok hr rfl G.mg G.kp G.bd .nil pass0 (pa_cons (pvQ 0) (pa_cons pe_int pa_nil))) (fun _ _=>rfl)) pa_nil))))) (pvQ 1) (fun _ _=>rfl)) pa_nil))))),?_⟩
  refine⟨10,9,rfl,rfl,⟨by decide,by decide,by decide⟩,?_⟩
  refine⟨(by show 3<=sizeLine;decide),fun l hl=>?_⟩
  refine⟨p,_,N,rfl,B.new hl,by exact zj1 (zj1 hN),by decide,by decide,fun z H1 z0 z1 B1 k1=>?_⟩
  have lp:l≠p:=fun e=>by
   obtain⟨a,b,c,e1,_⟩:=B
   rw[e,e1]at hl
   cases hl
  have el:=k1 l _ lp upd_same
  obtain⟨zn,rfl⟩:∃ zn:Nat,z=(zn:Int):=⟨z.toNat,by exact zh3 z0⟩
  have e9:((10:Int) ^ (Int.toNat 9))=1000000000:=by decide +kernel
  try dsimp only at el
  rw[e9]at el
  have h3:zn<3:=by exact zfm z0 z1
  obtain⟨v,hv,v0,v1⟩:∃ v:Int,[V.int 10,V.int 100,V.int 1000000000][zn]?=some (V.int v)/\0<v/\v<1073741824:=by
   match zn,h3 with
   | 0,_=>exact⟨_,rfl,by decide,by decide⟩
   | 1,_=>exact⟨_,rfl,by decide,by decide⟩
   | 2,_=>exact⟨_,rfl,by decide,by decide⟩
  refine⟨l,_,_,_,rfl,rfl,SqL.of el,atI_nat hv,(by show 4<=sizeLine;decide),fun l2 hl2=>?_⟩
  obtain⟨v',hv',v0',v1'⟩:∃ v':Int,[V.int 1,V.int 3,V.int 9,V.int v][h]?=some (V.int v')/\0<v'/\v'<1073741824:=by
   match h,h4 with
   | 0,_=>exact⟨_,rfl,by decide,by decide⟩
   | 1,_=>exact⟨_,rfl,by decide,by decide⟩
   | 2,_=>exact⟨_,rfl,by decide,by decide⟩
   | 3,_=>exact⟨_,rfl,v0,v1⟩
  refine⟨l2,_,_,_,rfl,rfl,SqL.of upd_same,atI_nat hv',p,_,N+1,rfl,B1.new hl2,by exact zj1 hN,v0',v1',fun y H2 y0 y1 B2 k2=>⟨_,_,rfl,rfl,?_⟩⟩
  exact q _ _ (by exact zgx v0' v1' y0 y1) B2 ((Kept.new hl).trans (k1.trans ((Kept.new hl2).trans k2)))
end
noncomputable abbrev Tie:=Int×Int×Int
noncomputable def tieV(x:Tie):List V:=[.int x.1,.int x.2.1,.int x.2.2]
structure WebAt(H:Hp)(t:Addr)(n:Nat)(ties:List Tie):Prop where
 ex:∃ (ts:Addr) (as:List Addr),H t=some (.tup [.int n,.ref ts])/\H ts=some (.tup (as.map V.ref))/\Paired (fun a x=>H a=some (.tup (tieV x))) as ties
 len:ties.length<=120
theorem WebAt.same{H H':Hp}{t:Addr}{n:Nat}{ties:List Tie}(W:WebAt H t n ties)(s:Same H H'):WebAt H' t n ties:=by
 obtain⟨⟨ts,as,h1,h2,h3⟩,l⟩:=W
 exact⟨⟨ts,as,s _ _ h1,s _ _ h2,Paired.mapP h3 fun a x e=>s _ _ e⟩,l⟩
theorem flat_ints(ns:List Int):(ns.map V.int).all flatV=true:=by
 rw[List.all_map,List.all_eq_true]
 intro x _
 rfl
theorem inV_ints(z:Int):∀ ns:List Int,inV (V.int z) (ns.map V.int)=ns.contains z
 |[]=>rfl
 |n :: ns=>by
  have ih:=inV_ints z ns
  unfold inV at ih ⊢
  rw[zAI,List.any_cons,ih,List.contains_cons]
  congr 1
  show(n == z)=(z == n)
  exact Bool.beq_comm
theorem Kept.free{p l:Addr}{H H':Hp}{M:Nat}(k:Kept p H H')(B:BoxAt H' p M)(h:H' l=none):H l=none:=by
 cases e:H l with
 |none=>rfl
 |some o =>
  by_cases lp:l=p
  ·obtain⟨a,b,c,e1,_⟩:=B
   rw[lp,e1]at h
   cases h
  ·rw[k l o lp e]at h
   cases h
theorem BoxAt.ne{H:Hp}{p l:Addr}{N:Nat}(B:BoxAt H p N)(h:H l=none):l≠p:=fun e=>by
 obtain⟨a,b,c,e1,_⟩:=B
 rw[e,e1]at h
 cases h
theorem Kept.put{p d:Addr}{H H':Hp}{o:HO}(k:Kept p H H')(h:H d=none):Kept p H (upd H' d o):=fun b u n e=>by
 rw[upd_ne (ne_of_none e h)]
 exact k b u n e
theorem BoxAt.put{H:Hp}{p d:Addr}{N:Nat}{o:HO}(B:BoxAt H p N)(h:d≠p):BoxAt (upd H d o) p N:=by
 obtain⟨a,b,c,e,r⟩:=B
 exact⟨a,b,c,by rw[upd_ne (Ne.symm h)];exact e,r⟩
theorem tTru_if{σ:L2.St}{H:Hp}{A B:Hp->Prop}(h:A H):tTru σ H (fun b H3=>if b=true then A H3 else B H3):=by
 show if true=true then A H else B H
 exact iteT h
theorem Paired.snoc{α β:Type}{F:α->β->Prop}:∀ {l₁:List α}{l₂:List β}{a:α}{b:β},Paired F l₁ l₂->F a b->Paired F (l₁++[a]) (l₂++[b]):=by
 intro l ks a b h r
 induction h with
 |nil=>exact .cons r .nil
 |cons q t ih=>exact .cons q ih
noncomputable def TieOk(n:Nat)(x:Tie):Prop:=0<=x.1/\x.1<x.2.1/\x.2.1<n/\1<=x.2.2/\x.2.2<=1073741824
noncomputable def tieLt(x y:Tie):Prop:=Srt.lexlt [x.1,x.2.1] [y.1,y.2.1]=true
noncomputable def KeyOk(n:Nat)(kv:List Key×V):Prop:=∃ a b c:Int,kv=([Sum.inl a,Sum.inl b],V.int c)/\TieOk n (a,b,c)
noncomputable def DInv(n:Nat)(kvs:List (List Key×V)):Prop:=(∀ kv∈kvs,KeyOk n kv)/\(kvs.map (·.1)).Nodup
theorem DInv.put{n:Nat}{kvs:List (List Key×V)}(h:DInv n kvs){a b c:Int}(ok:TieOk n (a,b,c)):DInv n (putK kvs [Sum.inl a,Sum.inl b] (V.int c))/\(putK kvs [Sum.inl a,Sum.inl b] (V.int c)).length<=kvs.length+1:=by
 unfold putK
 by_cases ex:(kvs.any fun kv=>decide (kv.1=[Sum.inl a,Sum.inl b]))=true
 ·rw[if_pos ex]
  refine⟨⟨fun kv hk=>?_,?_⟩,by rw[zB];exact zQ kvs.length 1⟩
  ·obtain⟨q,hq,e⟩:=zAR.mp hk
   by_cases z:q.1=[Sum.inl a,Sum.inl b]
   ·rw[if_pos z,z]at e
    exact⟨a,b,c,e.symm,ok⟩
   ·rw[if_neg z]at e
    rw[<- e]
    exact h.1 q hq
  ·have e:(kvs.map fun kv=>if kv.1=[Sum.inl a,Sum.inl b]then(kv.1,V.int c)else kv).map (·.1)=kvs.map (·.1):=by
    rw[zBU]
    refine zCM fun q _=>?_
    show(if q.1=[Sum.inl a,Sum.inl b]then(q.1,V.int c)else q).1=q.1
    split <;> rfl
   rw[e]
   exact h.2
 ·rw[if_neg ex]
  refine⟨⟨fun kv hk=>?_,?_⟩,by rw[zAC];exact zJ _⟩
  ·rcases zAD.mp hk with z | z
   ·exact h.1 kv z
   ·exact⟨a,b,c,zZ.mp z,ok⟩
  ·rw[zU,List.nodup_append]
   refine⟨h.2,by simp,fun x hx y hy=>?_⟩
   have ey:y=[Sum.inl a,Sum.inl b]:=by simpa using hy
   subst ey
   intro z
   subst z
   obtain⟨q,hq,e⟩:=zAR.mp hx
   exact ex (List.any_eq_true.mpr ⟨q,hq,decide_eq_true e⟩)
noncomputable def unkey(k:List Key):List Int:=k.map fun x=>match x with
 | .inl i=>i
 | .inr _=>0
theorem keys_of{n:Nat}:∀ {kvs:List (List Key×V)},(∀ kv∈kvs,KeyOk n kv)->kvs.map (·.1)=List.map (List.map Sum.inl) (kvs.map fun kv=>unkey kv.1)
 |[],_=>rfl
 |kv :: kvs,h=>by
  obtain⟨a,b,c,e,_⟩:=h kv (zT ..)
  rw[zAI,zAI,zAI,keys_of fun q hq=>h q (zY _ hq),e]
  rfl
theorem DInv.keys{n:Nat}{kvs:List (List Key×V)}(h:DInv n kvs):kvs.map (·.1)=List.map (List.map Sum.inl) (kvs.map fun kv=>unkey kv.1):=keys_of h.1
theorem DInv.nodup{n:Nat}{kvs:List (List Key×V)}(h:DInv n kvs):(kvs.map fun kv=>unkey kv.1).Nodup:=by
 have:=h.2
 rw[h.keys]at this
 unfold List.Nodup at this ⊢
 rw[List.pairwise_map]at this
 exact this.imp fun {x y} z e=>z (by rw[e])
theorem valV_mem{kvs:List (List Key×V)}{k:List Key}(h:k∈kvs.map (·.1)):∃ v,valV kvs k=some v/\(k,v)∈kvs:=by
 induction kvs with
 |nil=>cases h
 |cons q r ih =>
  by_cases e:q.1=k
  ·exact⟨q.2,valV_pos e,by rw[<- e];exact zT ..⟩
  ·rw[zAI]at h
   rcases zAF.mp h with z | z
   ·exact absurd z.symm e
   ·obtain⟨v,h1,h2⟩:=ih z
    exact⟨v,(valV_neg e).trans h1,zY _ h2⟩
inductive spWebI(vs:List V)(H:Hp)(Q:VK):Prop where
 |mk (p:Addr) (n N:Nat) (h1:vs=[.ref p,.int n]) (h2:BoxAt H p N) (h3:N+1000<2 ^ 40) (h4:1<=n) (h5:n<=30) (h6:∀ (t:Addr) (ties:List Tie) (H':Hp),H t=none->WebAt H' t n ties->(∀ x∈ties,TieOk n x)->ties.Pairwise tieLt->BoxAt H' p (N+1000)->Kept p H H'->Q (.ref t) H')
noncomputable def spWeb:Sp:=fun vs H Q _=>spWebI vs H Q
structure WeightF(P:Program)(w:World)(K:PySem.W.Frag)(mg:Str->Option Value)(base:Heap)(g:Addr)(gd:FuncData):Prop where
 ok:FnOk P w K mg base CX0 2 g gd ["_law_box_here","_law_heavy"] spWeight
 mg:mg "_law_weight" = some (.ref g)
 kp:PySem.W.keepIn K (.ref g)=true
 bd:Binds K gd ["_law_box_here","_law_heavy"] []
structure WI(H:Hp)(p d:Addr)(n M c:Nat)(kvs:List (List Key×V))(H':Hp):Prop where
 box:BoxAt H' p M
 dic:H' d=some (.dT kvs)
 inv:DInv n kvs
 len:kvs.length<=c
 kep:Kept p H H'
theorem WI.keep{H H' H'':Hp}{p d:Addr}{n M M' c:Nat}{kvs:List (List Key×V)}(W:WI H p d n M c kvs H')(dp:d≠p)(k:Kept p H' H'')(B:BoxAt H'' p M'):WI H p d n M' c kvs H'' :=
 ⟨B,k d _ dp W.dic,W.inv,W.len,W.kep.trans k⟩
theorem WI.mono{H H':Hp}{p d:Addr}{n M M' c c':Nat}{kvs:List (List Key×V)}(W:WI H p d n M c kvs H')(h:M<=M')(h2:c<=c'):WI H p d n M' c' kvs H' :=
 ⟨W.box.mono h,W.dic,W.inv,zC W.len h2,W.kep⟩
theorem WI.new{H H':Hp}{p d q:Addr}{n M c:Nat}{kvs:List (List Key×V)}{o:HO}(W:WI H p d n M c kvs H')(h:H' q=none):WI H p d n M c kvs (upd H' q o) :=
 ⟨W.box.new h,by rw[upd_ne (ne_of_none W.dic h)];exact W.dic,W.inv,W.len,W.kep.trans (Kept.new h)⟩
theorem WI.put{H H':Hp}{p d:Addr}{n M c:Nat}{kvs:List (List Key×V)}(W:WI H p d n M c kvs H')(dp:d≠p)(hd:H d=none){a b x:Int}(ok:TieOk n (a,b,x)):WI H p d n M (c+1) (putK kvs [Sum.inl a,Sum.inl b] (V.int x)) (upd H' d (.dT (putK kvs [Sum.inl a,Sum.inl b] (V.int x)))) :=
 ⟨W.box.put dp,upd_same,(W.inv.put ok).1,zC (W.inv.put ok).2 (zDB W.len),W.kep.put hd⟩
section
variable{P:Program}{w:World}{K:PySem.W.Frag}{mg:Str->Option Value}{base:Heap}
noncomputable abbrev nWeb:List Str:=["_law_box_here","_law_many_here","_law_heavy","_law_ties","_law_place","_law_turn","_law_one","_law_other"]
theorem scWeb:FnScope nWeb ["_law_box_here","_law_many_here"] (defScope sWeb):=⟨rfl,rfl,rfl,by decide +kernel,rfl,by decide +kernel,by decide +kernel⟩
theorem csWeb:CompScope ["_law_pair","_law_ties"] [none,some 3] nWeb (defScope sWeb) { kind:=.function,names:=[(".0",.local),("_law_pair",.local),("_law_ties",.free)],isGenerator:=false,isCoroutine:=false } :=
 ⟨rfl,by decide +kernel,by decide +kernel,by decide +kernel,rfl,capB_ok (by decide +kernel)⟩
theorem ndWeb:(["_law_pair","_law_ties"]:List Str).Nodup:=by decide +kernel
theorem exT{α:Type}{P:α->Prop}{G:Prop}(h:∀ a,P a->G)(t:∃ a,P a):G:=t.elim h
theorem ok_web{f g g2:Addr}{fd gd gd2:FuncData}(F:Fun K "_law_web" "_law_web" sWeb f fd)(T:Txt mg)(G:TakeF P w K mg base g gd)(G2:WeightF P w K mg base g2 gd2):FnOk P w K mg base CX0 3 f fd ["_law_box_here","_law_many_here"] spWeb:=by
 refine F.ok scWeb (fun vs H Q E h=>?_) (fun cdv A outer s H vs Q E hr h=>?_)
 ·obtain⟨p,n,N,rfl,_⟩:=h
  rfl
 ·obtain⟨p,n,N,rfl,B,hN,n1,n30,q⟩:=h
  have hu:=hu_of hr
  have hr1:Room 1 _:=hr.mono (by decide)
  refine exT (P:=fun tT:TS=>PSs _ _ tT/\∀ (hh:Nat) (d:Addr) (kvs:List (List Key×V)) (v:Option V) (H':Hp),hh<4->H d=none->d≠p->WI H p d n (N+1+4 * ((n:Int)-1).toNat) ((n:Int)-1).toNat kvs H'->tT { nx:=fun _ H'=>Q .non H',rt:=Q } [some (.ref p),some (.int n),some (.int hh),some (.ref d),v,none,none,none] H') (fun tA hA=>⟨_,pss_cons (ps_set (i:=2) scWeb.nd rfl (Or.inl rfl) (pe_call G.ok hr1 rfl G.mg G.kp G.bd .nil pass0 (@pa_nam _ _ _ _ _ _ (pv 0) (@pa_cst _ _ _ _ _ _ _ pe_int pa_nil))))
   (pss_cons (ps_set (i:=3) scWeb.nd rfl (Or.inr rfl) pe_dnewT)
   (pss_cons (ps_for PassesOwn.never rfl (pi_range2 rfl T.range (@pa_cst _ _ _ _ _ _ _ pe_int (@pa_nam _ _ _ _ _ _ (pv 1) pa_nil))) (pg_name (i:=4) scWeb.nd rfl (Or.inl rfl))
    (pss_one (ps_if (pt_cmpR op_gt (pe_call G.ok hr1 rfl G.mg G.kp G.bd .nil pass0 (@pa_nam _ _ _ _ _ _ (pv 0) (@pa_cst _ _ _ _ _ _ _ pe_int pa_nil))) pe_int (nomark _))
     (pss_one (ps_dput hu (pv 3) (@pe_tup _ _ _ _ _ (@pa_call _ _ _ _ _ _ _ _ (pe_call G.ok hr1 rfl G.mg G.kp G.bd .nil pass0 (@pa_nam _ _ _ _ _ _ (pv 0) (@pa_nam _ _ _ _ _ _ (pv 4) pa_nil))) (@pa_nam _ _ _ _ _ _ (pv 4) pa_nil))) (pe_call G2.ok hr rfl G2.mg G2.kp G2.bd .nil pass0 (@pa_nam _ _ _ _ _ _ (pv 0) (@pa_nam _ _ _ _ _ _ (pv 2) pa_nil))) rfl)) pss_nil)))
   hA.1)),?_⟩) ?_
  ·refine⟨_,rfl,p,_,N,rfl,B,by exact zI (zQ N 1000) hN,by decide,by decide,fun z H1 z0 z1 B1 k1=>?_⟩
   obtain⟨hh,rfl⟩:∃ hh:Nat,z=(hh:Int):=⟨z.toNat,by exact zh3 z0⟩
   have h4:hh<4:=by exact zfl z0 z1
   intro d hd
   have dp:d≠p:=B1.ne hd
   have hd0:H d=none:=k1.free B1 hd
   have W0:WI H p d n (N+1) 0 [] (upd H1 d (.dT [])):=⟨B1.new hd,upd_same,⟨fun _ h=>(nomatch h),List.nodup_nil⟩,zJ _,k1.trans (Kept.new hd)⟩
   refine⟨_,rfl,1,(n:Int),rfl,⟨by decide,by decide,by exact zh1,by exact zm2 n30 rfl⟩,?_⟩
   refine for_range (lo:=1) (n:=((n:Int)-1).toNat) (fun i σ H'=>∃ kvs v,σ=[some (.ref p),some (.int n),some (.int hh),some (.ref d),v,none,none,none]/\WI H p d n (N+1+4 * i) i kvs H') ⟨[],none,rfl,W0⟩ ?_ ?_
   ·rintro i σ H' hi ⟨kvs,v,rfl,W⟩
    have len:=W.len
    refine⟨_,rfl,p,_,_,rfl,W.box,by exact zdx hN n1 n30 hi,by decide,by decide,fun z H3 y0 y1 B3 k3=>⟨_,_,rfl,rfl,_,rfl,?_⟩⟩
    have W3:=W.keep dp k3 B3
    refine ite2 (fun _=>?_) (fun _=>?_)
    ·refine⟨_,rfl,_,rfl,p,hh,_,rfl,h4,B3,by exact zbr hN n1 n30 hi,fun x H4 x1 B4 k4=>⟨_,rfl,_,rfl,_,rfl,p,_,_,rfl,B4,by exact zbr hN n1 n30 hi,by lia,by exact zew n1 n30 hi,fun a H5 a0 a1 B5 k5=>⟨_,rfl,(by show 2<=sizeLine;decide),fun tp htp=>?_⟩⟩⟩
     have W5:=((W3.keep dp k4 B4).keep dp k5 B5).new (o:=.tup [.int a,.int (1+(i:Int))]) htp
     refine⟨d,_,rfl,DPut.t (k:=[Sum.inl a,Sum.inl (1+(i:Int))]) W5.dic upd_same (by rw[sizeLine_eq];exact zdj n1 n30 hi len),?_⟩
     exact⟨_,_,rfl,(W5.put dp hd0 ⟨a0,by show a<1+(i:Int);exact a1,by show 1+(i:Int) <(n:Int);exact zdg n1 n30 hi,x1⟩).mono (by exact zgm) (by exact zJ (i+1))⟩
    ·exact⟨_,_,rfl,W3.mono (by exact zhx) (by exact zQ i 1)⟩
   ·rintro σ H' ⟨kvs,v,rfl,W⟩
    exact hA.2 hh d kvs v H' h4 hd0 dp W
  ·refine exT (P:=fun tT:TS=>PSs _ _ tT/\∀ (hh cnt:Nat) (d:Addr) (kvs:List (List Key×V)) (v4 v5 v6 v7:Option V) (H':Hp),cnt<=91-n->H d=none->d≠p->WI H p d n (N+200+4 * cnt) (n-1+cnt) kvs H'->tT { nx:=fun _ H'=>Q .non H',rt:=Q } [some (.ref p),some (.int n),some (.int hh),some (.ref d),v4,v5,v6,v7] H') (fun tB hB=>⟨_,(pss_cons (ps_for PassesOwn.never rfl (pi_range1 rfl T.range (@pa_call _ _ _ _ _ _ _ _ (pe_callB (call_min2 rfl) (by rfl) T.min boot_min (@pa_call _ _ _ _ _ _ _ _ (pe_call G.ok hr1 rfl G.mg G.kp G.bd .nil pass0 (@pa_nam _ _ _ _ _ _ (pv 0) (@pa_bin _ _ _ _ _ _ _ _ (pe_op op_add (pe_op op_mul pe_int (pv 1)) pe_int) pa_nil))) (@pa_bin _ _ _ _ _ _ _ _ (pe_op op_sub pe_int (pv 1)) pa_nil))) pa_nil)) (pg_name (i:=5) scWeb.nd rfl (Or.inl rfl))
    (pss_cons (ps_par rfl scWeb.nd (i:=6) (j:=7) rfl rfl (by decide) rfl rfl (@pa_call _ _ _ _ _ _ _ _ (pe_call G.ok hr1 rfl G.mg G.kp G.bd .nil pass0 (@pa_nam _ _ _ _ _ _ (pv 0) (@pa_nam _ _ _ _ _ _ (pv 1) pa_nil))) (@pa_call _ _ _ _ _ _ _ _ (pe_call G.ok hr1 rfl G.mg G.kp G.bd .nil pass0 (@pa_nam _ _ _ _ _ _ (pv 0) (@pa_nam _ _ _ _ _ _ (pv 1) pa_nil))) pa_nil)) rfl)
    (pss_one (ps_if (pt_cmpR op_ne (pv 6) (pv 7) (nomark _)) (pss_one (ps_dput hu (pv 3) (@pe_tup _ _ _ _ _ (@pa_call _ _ _ _ _ _ _ _ (pe_callB (call_min2 rfl) (by rfl) T.min boot_min (@pa_nam _ _ _ _ _ _ (pv 6) (@pa_nam _ _ _ _ _ _ (pv 7) pa_nil))) (@pa_call _ _ _ _ _ _ _ _ (pe_callB (call_max2 rfl) (by rfl) T.max boot_max (@pa_nam _ _ _ _ _ _ (pv 6) (@pa_nam _ _ _ _ _ _ (pv 7) pa_nil))) pa_nil))) (pe_call G2.ok hr rfl G2.mg G2.kp G2.bd .nil pass0 (@pa_nam _ _ _ _ _ _ (pv 0) (@pa_nam _ _ _ _ _ _ (pv 2) pa_nil))) rfl)) pss_nil))))
   hB.1),?_⟩) ?_
   ·rintro hh d kvs v H' h4 hd0 dp W
    have len0:=W.len
    refine⟨_,rfl,_,rfl,_,_,rfl,rfl,.inl ⟨by decide,by decide⟩,_,_,rfl,rfl,p,_,_,rfl,W.box,by exact zdu hN n1 n30,by exact zhn n1 n30,by lia,fun z H3 y0 y1 B3 k3=>⟨_,rfl,_,_,rfl,rfl,_,_,rfl,_,rfl,?_,?_,?_⟩⟩
    ·split <;> lia
    ·split <;> lia
    have W3:=W.keep dp k3 B3
    have cb:(if 91-(n:Int)<z then 91-(n:Int)else z).toNat<=91-n:=by split <;> lia
    generalize (if 91-(n:Int)<z then 91-(n:Int)else z).toNat=cnt at cb
    refine for_range (lo:=0) (n:=cnt) (fun i σ H'=>∃ kvs v4 v5 v6 v7,σ=[some (.ref p),some (.int n),some (.int hh),some (.ref d),v4,v5,v6,v7]/\WI H p d n (N+200+4 * i) (n-1+i) kvs H') ⟨kvs,v,none,none,none,rfl,W3.mono (by exact zet n1 n30) (by exact zbh n1 n30)⟩ ?_ ?_
    ·clear W W3 B3 k3 len0
     rintro i σ H' hi ⟨kvs,v4,v5,v6,v7,rfl,W⟩
     have len:=W.len
     refine⟨_,rfl,_,rfl,p,_,_,rfl,W.box,by exact zdf hN n1 n30 cb hi,by exact zdz n1 n30,by exact zeg n1 n30,fun x H4 x0 x1 B4 k4=>⟨_,rfl,_,rfl,p,_,_,rfl,B4,by exact zdl hN n1 n30 cb hi,by exact zdz n1 n30,by exact zeg n1 n30,fun y H5 w0 w1 B5 k5=>⟨_,_,rfl,?_⟩⟩⟩
     have W5:=(W.keep dp k4 B4).keep dp k5 B5
     refine⟨_,rfl,_,rfl,rfl,_,rfl,?_⟩
     refine ite2 (fun hxy=>?_) (fun _=>?_)
     ·have xy:x≠y:=fun z=>by rw[z]at hxy;simp at hxy
      refine⟨_,rfl,_,rfl,p,hh,_,rfl,h4,B5,by exact zdy hN n1 n30 cb hi xy,fun c H6 c1 B6 k6=>⟨_,rfl,_,rfl,_,rfl,_,_,rfl,_,rfl,_,rfl,_,_,rfl,(by show 2<=sizeLine;decide),fun tp htp=>?_⟩⟩
      have W6:=(W5.keep dp k6 B6).new (o:=.tup [.int (if y<x then y else x),.int (if y > x then y else x)]) htp
      refine⟨d,_,rfl,DPut.t (k:=[Sum.inl (if y<x then y else x),Sum.inl (if y > x then y else x)]) W6.dic upd_same (by rw[sizeLine_eq];exact zcj n1 n30 cb hi len xy),?_⟩
      refine⟨_,_,_,_,_,rfl,(W6.put dp hd0 ⟨?_,?_,?_,c1⟩).mono (by exact zga) (by exact zn4)⟩
      ·show(0:Int)<=if y<x then y else x
       split <;> omega
      ·show(if y<x then y else x) <(if y > x then y else x)
       split <;> split <;> omega
      ·show(if y > x then y else x) <(n:Int)
       split <;> omega
     ·exact⟨_,_,_,_,_,rfl,W5.mono (by exact zhp) (by exact zj2 zn4)⟩
    ·rintro σ H' ⟨kvs,v4,v5,v6,v7,rfl,W⟩
     exact hB.2 hh cnt d kvs v4 v5 v6 v7 H' cb hd0 dp W
   ·refine⟨_,(pss_one (ps_ret (@pe_tup _ _ _ _ _ (@pa_nam _ _ _ _ _ _ (pv 1) (@pa_call _ _ _ _ _ _ _ _ (pe_callTy call_tuple_of (by rfl) T.tuple boot_tuple (@pa_comp _ _ _ _ _ _ _ _ (pe_comp rfl csWeb
     (pi_list (pe_callB (call_sortedD rfl) (by rfl) T.sorted boot_sorted (@pa_nam _ _ _ _ _ _ (pv 3) pa_nil)))
     (fun C s H fp=>pg_name (i:=0) ndWeb rfl (Or.inl rfl)) (fun C s H fp=>pf_nil)
     (fun C s H fp=>pe_op (op_catTK K rfl) (pv 0) (@pe_tup _ _ _ _ _ (@pa_sub _ _ _ _ _ _ _ (pe_dget hu (pv 1) (pv 0) (fun _ _=>rfl)) pa_nil)))) pa_nil)) pa_nil))))),?_⟩
    rintro hh cnt d kvs v4 v5 v6 v7 H' cb hd0 dp W
    have len:=W.len
    refine⟨_,rfl,_,rfl,d,kvs,kvs.map (fun kv=>unkey kv.1),rfl,W.dic,W.inv.keys,fun k hk=>?_,by exact zbz n1 n30 cb len,fun l as ns hl perm pw pt=>⟨l,rfl,⟨_,SqL.of upd_same⟩,?_⟩⟩
    ·obtain⟨kv,hkv,rfl⟩:=zAR.mp hk
     obtain⟨a,b,c,e,_⟩:=W.inv.1 kv hkv
     rw[e]
     exact fun z=>nomatch z
    have W1:=W.new (o:=.lst (as.map V.ref)) hl
    have lenA:as.length=ns.length:=pt.length
    have lenN:ns.length=kvs.length:=by rw[perm.length_eq,zB]
    -- each key is there
    have keyAt:∀ i (h1:i<as.length),∃ a b c:Int,H' as[i]=some (.tup [.int a,.int b])/\valV kvs [Sum.inl a,Sum.inl b]=some (V.int c)/\TieOk n (a,b,c)/\ns[i]?=some [a,b]:=fun i h1=>by
     have h2:i<ns.length:=by exact zh7 h1 lenA
     have e1:=Paired.at pt i h1 h2
     have m1:ns[i]∈kvs.map (fun kv=>unkey kv.1):=perm.mem_iff.mp (zX h2)
     obtain⟨kv,hkv,e2⟩:=zAR.mp m1
     obtain⟨a,b,c,e3,ok⟩:=W.inv.1 kv hkv
     rw[e3]at e2
     have e4:ns[i]=[a,b]:=e2.symm
     rw[e4]at e1
     have m2:[Sum.inl a,Sum.inl b]∈kvs.map (·.1):=zAR.mpr ⟨kv,hkv,by rw[e3]⟩
     obtain⟨v,v1,v2⟩:=valV_mem m2
     obtain⟨a',b',c',e5,ok'⟩:=W.inv.1 _ v2
     cases e5
     exact⟨a,b,c',e1,v1,ok',by rw[zF h2,e4]⟩
    refine comp_list (K:=K) (a:=l) (xs:=as.map V.ref) (fun i ys G=>Same (upd H' l (.lst (as.map V.ref))) G/\∃ (bs:List Addr) (tl:List Tie),ys=bs.map V.ref/\Paired (fun b x=>G b=some (.tup (tieV x))) bs tl/\(∀ x∈tl,TieOk n x)/\tl.map (fun x=>[x.1,x.2.1])=ns.take i) (by rw[zB,sizeLine_eq];exact zcz n1 n30 cb len lenA lenN) ⟨Same.refl _,[],[],rfl,.nil,(fun _ h=>nomatch h),rfl⟩ (fun i ys G _ pp=>pp.1.seq (SqL.of upd_same)) ?_ ?_
    ·rintro i x ys G hi ⟨sm,bs,tl,rfl,pr,oks,eks⟩
     obtain⟨il,e⟩:=zH.mp hi
     rw[zB]at il
     rw[zO]at e
     subst e
     obtain⟨a,b,c,ha,hv,ok,nsi⟩:=keyAt i il
     have ha2:G as[i]=some (.tup [.int a,.int b]):=sm _ _ (by rw[upd_ne (ne_of_none ha hl)];exact ha)
     have hd2:G d=some (.dT kvs):=sm _ _ W1.dic
     have g0:DGet G d (V.ref as[i]) (valV kvs [Sum.inl a,Sum.inl b]):=DGet.t hd2 ha2
     rw[hv]at g0
     refine⟨⟨rfl,trivial⟩,tTru_if ?_⟩
     refine⟨_,rfl,_,rfl,_,rfl,d,_,rfl,g0,(by show 1<=sizeLine;decide),fun t1 ht1=>⟨as[i],t1,[.int a,.int b],[.int c],rfl,rfl,SqT.of (by rw[upd_ne (ne_of_none ha2 ht1)];exact ha2),SqT.of upd_same,(fun z=>nomatch z),(by show 3<=sizeLine;decide),(fun z=>nomatch z),fun _ t2 ht2=>?_⟩⟩
     have sm2:Same G (upd (upd G t1 (.tup [.int c])) t2 (.tup ([.int a,.int b]++[.int c]))):=(Same.new ht1).trans (Same.new ht2)
     refine⟨sm.trans sm2,bs++[t2],tl++[(a,b,c)],by rw[zU];rfl,?_,fun x hx=>?_,?_⟩
     ·refine Paired.snoc (Paired.mapP pr fun b x e=>sm2 _ _ e) upd_same
     ·rcases zAD.mp hx with z | z
      ·exact oks x z
      ·rw[zZ.mp z];exact ok
     ·obtain⟨ni,ne⟩:=zH.mp nsi
      rw[zU,eks,zL ni,ne]
      rfl
    ·rintro ys G yl ⟨sm,bs,tl,rfl,pr,oks,eks⟩ D hD
     rw[zB]at yl
     refine⟨D,_,rfl,.inl ⟨SqL.of upd_same,fun ts hts=>⟨(by show 2<=sizeLine;decide),fun t ht=>?_⟩⟩⟩
     have s1:Same G (upd G D (.lst (bs.map V.ref))):=Same.new hD
     have s2:Same (upd G D (.lst (bs.map V.ref))) (upd (upd G D (.lst (bs.map V.ref))) ts (.tup (bs.map V.ref))):=Same.new hts
     have s3:=Same.new (o:=.tup [.int n,.ref ts]) ht
     have sA:=sm.trans (s1.trans (s2.trans s3))
     have kA:Kept p H (upd (upd (upd G D (.lst (bs.map V.ref))) ts (.tup (bs.map V.ref))) t (.tup [.int n,.ref ts])):=W1.kep.trans fun b o _ e=>sA b o e
     have bA:BoxAt (upd (upd (upd G D (.lst (bs.map V.ref))) ts (.tup (bs.map V.ref))) t (.tup [.int n,.ref ts])) p (N+1000):=by
      obtain⟨a,b,c,e,r1,r2,r3⟩:=W1.box
      exact⟨a,b,c,sA _ _ e,r1,r2,by exact zdi n1 n30 cb r3⟩
     refine q t tl _ ?_ ⟨⟨ts,bs,upd_same,s3 _ _ upd_same,Paired.mapP pr fun b x e=>s3 _ _ (s2 _ _ (s1 _ _ e))⟩,?_⟩ oks ?_ bA kA
     ·have f1:H' t=none:=(Same.new hl).free (sm.free (s1.free (s2.free ht)))
      exact W.kep.free W.box f1
     ·have:=pr.length
      rw[zB]at yl
      lia
     ·rw[zCI (by rw[zB];exact zAB (Eq.symm lenA))]at eks
      have nd:ns.Nodup:=perm.nodup_iff.mpr W.inv.nodup
      have st:ns.Pairwise (fun x y=>Srt.lexlt x y=true):=(pw.and nd).imp fun {x y} z=>by
       cases e:Srt.lexlt x y with
       |true=>rfl
       |false=>exact absurd (Srt.lexlt_total x y e z.1) z.2
      rw[<- eks,List.pairwise_map]at st
      exact st
end
end K32
namespace L2
open PySem PyProof.Rows
section
variable{K:PySem.W.Frag}{a D:Addr}{xs:List V}{b:Bool}{g:TG}{tc:TT}{tk tv:TE}{cap:List (Option Nat)}{σ:St}{H1:Hp}{Q:VK}
noncomputable def ItB(b:Bool)(K:PySem.W.Frag)(a:Addr):It:=match b with
 |true=>Itt K a
 |false=>Itl K a
noncomputable def iSeq(b:Bool)(K:PySem.W.Frag)(tl:TE):TI:=fun σ H R=>tl σ H fun x H1=>ExS x (fun a=>∃ xs,SqB b K H1 a xs) fun a=>R (ItB b K a) H1
theorem pi_seq{X:Cx}{tg l:Expr}{tl:TE}(b:Bool)(hl:PE X l tl):PI X tg l (iSeq b X.K tl):=by
 cases b
 ·exact pi_list hl
 ·exact pi_tup hl
theorem comp_seq{te:TE}{a:Addr}{xs:List V}(P:Nat->List V->Hp->Prop)(hz:xs.length<=sizeLine)(p0:P 0 [] H1)(hl:∀ i ys H,i<=xs.length->P i ys H->SqB b K H a xs)
  (hs:∀ i x ys H,xs[i]?=some x->P i ys H->g x (capt cap σ) H fun σ2 H2=>Kp (capt cap σ) σ2/\tc σ2 H2 fun b H3=>if b=true then te σ2 H3 fun y H4=>P (i+1) (ys++[y]) H4 else P (i+1) ys H3)
  (hd:∀ ys H,ys.length<=xs.length->P xs.length ys H->∀ D,H D=none->Q (.ref D) (upd H D (.lst ys))):compTurns (ItB b K a) cap σ H1 Q g tc te:=by
 cases b
 ·exact comp_list P hz p0 hl hs hd
 ·exact comp_tup P hz p0 hl hs hd
theorem valV_no{κ:Type}[DecidableEq κ]{kvs:List (κ×V)}{k:κ}(h:k∉kvs.map (·.1)):valV kvs k=none:=by
 induction kvs with
 |nil=>rfl
 |cons q r ih =>
  rw[zAI,zAF,not_or]at h
  exact(valV_neg fun e=>h.1 e.symm).trans (ih h.2)
end
open PySem PySem.W PyProof.Rows Srt
open PySem PySem.Spec PySem.W PyProof.Rows
open PySem PySem.Spec PySem.W PyProof.Rows
open PySem PySem.Spec PySem.W PyProof.Rows
open PySem PySem.Spec PySem.W PyProof.Rows
open PySem PySem.W PyProof.Rows Srt
theorem drawsK{prog:Program}{w:World}{A:Around}(hh:A.handled=none)(b:Bool)(it l:Addr)(hne:l≠it)(items:Array Value):Draws prog w A it [it,l] items.size (fun i v=>items[i]?=some v) (fun i h=>ItK b h it l i/\SeqK b h l items)where
 live:=fun _ _ st=>let ⟨o,ho,_⟩:=st.1.lt;⟨o,ho⟩
 frame:=fun _ _ _ st hk=>⟨st.1.to fun o e=>hk it (by simp) o e,st.2.to fun o e=>hk l (by simp) o e⟩
 item:=fun i s Q E hi st hQ=>nextK_item st.1 st.2 (x:=items[i]) (by simp[hi]) fun h' hit' hs'=>hQ _ h' s.toks (by simp[hi]) ⟨hit',st.2.to fun o e=>hs'.extBut _ _ hne e⟩ hs'
 done:=fun s Q E st hE=>nextK_end hh st.1 st.2 (by simp) hE
noncomputable abbrev enO(it:Addr):Obj:={ cls:=.type "enumerate",data:=.fields #[.none,.bool false,.ref it,rawInt 0,.none,.none] }
theorem enumK_new(b:Bool)(l:Addr)(xs:Array Value):Meets (Builtin.«enumerate.__new__» ⟨[.type "enumerate",.ref l],[]⟩) (fun _ R s=>SeqK b s.heap l xs/\R (.ok (.ret (.ref (s.heap.push (itO b l)).objs.size))) { s with heap:=(s.heap.push (itO b l)).push (enO s.heap.objs.size) }) :=
 .of_wp fun prog w A R s h=>by
  obtain⟨hp,g,d,tk,os⟩:=s
  obtain⟨hl,h⟩:=h
  have hsub:=sub_enumerate
  have hL:SeqK b (Shared.heap ⟨hp,g,d,tk,os⟩) l xs:=hl
  wp_walk using pyIterK hL
  refine wpAny_stack_any fun st=>zG ?_
  split
  ·rename_i c _ _ _ _ _
   cases(c == Value.type "enumerate") <;> (wp_walk using pyIterK hL;exact⟨_,rfl,h⟩)
  ·wp_walk using pyIterK hL
   exact⟨_,rfl,h⟩
theorem call_enumK{prog:Program}{w:World}{A:Around}{E:Value->Shared->Prop}{s:Shared}{b:Bool}{l:Addr}{items:Array Value}{Q:Value->Shared->Prop}(hL:SeqK b s.heap l items)
  (h:∀ h',IsEnum h' (s.heap.objs.size+1) s.heap.objs.size 0 .none->ItK b h' s.heap.objs.size l 0->(∀ b o,s.heap.get? b=some o->h'.get? b=some o)->Q (.ref (s.heap.objs.size+1)) { s with heap:=h' }):wpAny (model prog w) A (call (.type "enumerate") [.ref l]) Q E s:=by
 refine callType_new F.called_enumerate (by decide) (F.typeCall_enumerate_1 _) (F.newCall_enumerate_1 _) (fun obj=>F.args_object_init_2 obj _) F.entry_enumerate_new (enumK_new b l items) ⟨hL,?_⟩
 have hz:(s.heap.push (itO b l)).objs.size=s.heap.objs.size+1:=Heap.size_push ..
 show _/\_
 rw[hz]
 have he:IsEnum ((s.heap.push (itO b l)).push (enO s.heap.objs.size)) (s.heap.objs.size+1) s.heap.objs.size 0 .none:=by
  have:=zS (s.heap.push (itO b l)) (o:=enO s.heap.objs.size) rfl
  rw[hz]at this
  exact this
 exact⟨⟨_,he,rfl⟩,h _ he ((ItK.new s.heap).to fun o e=>zD _ e) fun b o x=>zD _ (zD _ x)⟩
theorem enumK_end{prog:Program}{w:World}{A:Around}{E:Value->Shared->Prop}{s:Shared}{b:Bool}{e it l:Addr}{i:Nat}{items:Array Value}{old:Value}{Q:Option Value->Shared->Prop}(hh:A.handled=none)(he:IsEnum s.heap e it i old)(hit:ItK b s.heap it l i)(hl:SeqK b s.heap l items)(hx:items[i]?=none)
  (q:∀ g,Heap.ExtBut it s.heap g->Q none { s with heap:=g }):wpAny (model prog w) A (pyNext (.ref e)) Q E s:=by
 have ty:s.TypeIs (.ref e) "enumerate":=⟨_,he,rfl⟩
 unfold pyNext;refine zA (wpAny_attempt (wpAny_callSpecial?_slot (name:=Str.ofString "__next__") ty F.slot_enumerate_next (wpAny_call_entry F.slot_enumerate_next ty F.entry_enumerate_next ?_ (F.args_enumerate_next_1 _))))
 show wpAny _ _ (field (.ref e) 2 >>= _) _ _ _;refine zA (wpAny_field he rfl (x:=.ref it) rfl (zA (nextK_end hh hit hl hx fun g y hg hy=>?_)))
 obtain⟨o,ho,hc⟩:=hy
 refine zA (wpAny_isInstance (T:="StopIteration") (b:=true) ⟨o,ho,hc⟩ isSubtype_stop (zG (q _ hg)))
noncomputable def IteB(b:Bool)(K:PySem.W.Frag)(l:Addr):It :=
  ⟨fun i H=>∃ xs x,SqB b K H l xs/\xs[i]?=some x,
   fun i H v H'=>∃ T x,v = .ref T/\H T=none/\H'=upd H T (.tup [.int i,x])/\∀ xs,SqB b K H l xs->xs[i]?=some x,
   fun i H=>∃ xs,SqB b K H l xs/\xs.length<=i⟩
theorem turn_enumB(b:Bool){P:Program}{w:World}{K:PySem.W.Frag}{es:List Expr}{kk:Nat}{pos:Pos}(e it l:Addr)(ne:e≠it):Turn P w K (.Tuple es kk pos) (IteB b K l) [e,it] e
  (fun i h=>(∃ old,IsEnum h e it i old)/\ItK b h it l i)where
 mem:=by simp
 obj:=fun i h st b hb=>by
  obtain⟨⟨old,he⟩,h1⟩:=st
  simp only[zAF,or_false,zBV]at hb
  rcases hb with z | z
  ·rw[z];exact⟨_,he,fun v z=>by cases z⟩
  ·rw[z]
   exact h1.lt
 keep:=fun i h h' st k=>by
  obtain⟨⟨old,he⟩,h1⟩:=st
  exact⟨⟨old,k e (by simp) _ he⟩,h1.to fun o e=>k it (by simp) o e⟩
 item:=by
  intro X hP hw hK hc i pins s σ H E I hf st hg
  subst hP hw hK
  obtain⟨⟨old,he⟩,h1⟩:=st
  obtain⟨xs,x,q1,hx⟩:=hg
  obtain⟨us,r1,p1,_⟩:=I.seqB q1
  obtain⟨u,hu,ru⟩:=r1.get hx
  have hn:H s.heap.objs.size=none:=I.hok.fresh (zJ _)
  have lit:l≠it:=I.offB q1 (hf it (by simp))
  have lee:l≠e:=I.offB q1 (hf e (by simp))
  have hlt:i<us.toArray.size:=by rw[zV];exact(zH.mp hu).1
  refine wpAny_pyNext_enum_itemD (drawsK (A:=X.A.in1) (I.ok.hd hc) b it l lit us.toArray) he ⟨h1,p1⟩ hlt ne (by simp[ne,Ne.symm lee]) fun u' g tk hP e1 st1 t1 sz kp=>⟨_,rfl,?_⟩
  have eu:u'=u:=by
   have hP:us.toArray[i]?=some u':=hP
   rw[List.getElem?_toArray,hu]at hP
   exact(Option.some.inj hP).symm
  subst eu
  have n1:=st1.1
  refine wpAny_letOwnedTupleGo_enum e1 fun g' e2 sb=>?_
  have zlt:e≠s.heap.objs.size:=zAE (zN he)
  have kp2:∀ b o,b∉[e,it]->s.heap.get? b=some o->g'.get? b=some o:=fun b o nb z=>by
   simp only[zAF,zBV,or_false,not_or]at nb
   exact sb.extBut _ _ nb.1 (kp b o nb.1 nb.2 z)
  have I2:Inv X pins σ (upd H s.heap.objs.size (.tup [.int i,x])) { s with heap:=g',toks:=tk+1 }:=I.turnedN (t':=tk+1) (ch:=[e,it]) (a:=s.heap.objs.size) (ob:=.tup [.int i,x]) hf kp2 (zJ _) (show ObjOk X.prog X.w _ g' _ (.tup [.int i,x])from⟨by show 2<=sizeLine;decide,[.int i tk,u'],.cons ⟨_,rfl⟩ (.cons ru .nil),⟨_,sb.extBut _ _ (Ne.symm zlt) t1,rfl,0,rfl⟩⟩)
  refine⟨.ref s.heap.objs.size,_,I2,rfl,⟨_,x,rfl,hn,rfl,fun xs' h=>by rw[I.seqB_inj h q1];exact hx⟩,⟨⟨_,by have e3:=e2;exact_mod_cast e3⟩,n1.to fun o z=>sb.extBut _ _ (Ne.symm ne) z⟩,fun b hb=>?_⟩
  have bo:∃ o,s.heap.get? b=some o:=by
   simp only[zAF,or_false,zBV]at hb
   rcases hb with z | z
   ·rw[z];exact⟨_,he⟩
   ·rw[z];obtain⟨o,e,_⟩:=h1.lt;exact⟨o,e⟩
  obtain⟨o,z⟩:=bo
  rw[upd_ne (zAE (zN z))]
  exact(hf b hb).1
 done:=by
  intro X hP hw hK hc i pins s σ H E I hf st hg
  subst hP hw hK
  obtain⟨⟨old,he⟩,h1⟩:=st
  obtain⟨xs,q1,le⟩:=hg
  obtain⟨us,r1,p1,_⟩:=I.seqB q1
  have e1:=r1.length
  refine enumK_end (I.ok.hd hc) he h1 p1 (by simp;exact zh9 le (Eq.symm e1)) fun g kp=>⟨rfl,?_⟩
  refine I.turnedL (t':=s.toks) (ch:=[e,it]) hf fun b o nb z=>?_
  simp only[zAF,zBV,or_false,not_or]at nb
  exact kp b o nb.2 z
 self:=fun _ _ _ _ _ st h=>by
  obtain⟨⟨old,he⟩,h1⟩:=st
  exact wpAny_pyIter_enum he h
noncomputable def iEnumB(b:Bool)(K:PySem.W.Frag)(ta:TA):TI:=fun σ H R=>ta σ H fun vs H1=>∃ l,vs=[.ref l]/\(∃ xs,SqB b K H1 l xs)/\R (IteB b K l) H1
theorem pi_enumB(b:Bool){X:Cx}{es:List Expr}{kk:Nat}{tpos:Pos}{a:Expr}{ta:TA}{p pos:Pos}(hg:Gl X "enumerate")(hm:X.mg "enumerate" = none)(ha:PA X [a] ta)(hs:starEach [a] X.env=[(false,eval a X.env)]:=by rfl) :
  PI X (.Tuple es kk tpos) (.Call (.Name "enumerate" p) [a] [] pos) (iEnumB b X.K ta):=by
 intro pins s σ H R I h
 refine Call_ (ld_blt I hg hm boot_enumerate (PyProof.Rows.callWith_type1 (thn (ha pos pins s σ H _ I h) fun us s1 ⟨vs,H1,I1,r1,q1⟩=>?_) (by rw[hs];rfl) (by rfl)))
 obtain⟨l,e,⟨xs,q1⟩,q⟩:=q1
 subst e
 obtain⟨u,rfl,rx⟩:=Vals.one r1
 cases rx
 obtain⟨us,_,p1,_⟩:=I1.seqB q1
 refine call_enumK p1 fun g' e1 h1 kp=>?_
 refine wpAny_pyIter_enum e1 ⟨s1.heap.objs.size+1,_,_,_,H1,rfl,I1.kept (t':=s1.toks) kp,turn_enumB b _ s1.heap.objs.size l (zBO (zBC _)),⟨⟨_,e1⟩,h1⟩,fun b hb=>?_,q⟩
 have le:s1.heap.objs.size<=b:=by
  simp only[zAF,or_false,zBV]at hb
  rcases hb with e | e
  ·rw[e];exact zQ _ 1
  ·rw[e];exact zJ _
 exact I1.fpOk le (I1.hok.fresh le)
end L2
namespace Srt
open PySem PySem.W PyProof.Rows
@[reducible] noncomputable def κI:KeyKind where
 α:=Int
 blt a b:=decide (a<b)
 irrefl a:=by simp
 trans a b c h k:=by simp at h k ⊢;exact zbs h k
 negTrans a b c h:=by simp at h ⊢;exact zeo h
 total a b h k:=by simp at h k;exact zhw h k
 keyOf v:=match v with
  | .int i _=>some i
  | _=>none
 dflt:=(0:Int)
theorem κI_of{v:Value}{i:Int}(h:κI.keyOf v=some i):∃ t,v = .int i t:=by
 cases v with
 |int j t =>
  have e:j=i:=Option.some.inj h
  subst e
  exact⟨t,rfl⟩
 | _=>cases h
theorem ltI_ok{prog:Program}{w:World}{A:Around}{s:Shared}:LtOk κI oneType' prog w A s:=by
 intro E x y a b Q st hk ha hb q
 obtain⟨t,e1⟩:=κI_of ha
 obtain⟨u,e2⟩:=κI_of hb
 rw[lt'_eq]
 refine wpS_bind (wpS_get ?_)
 rw[hk,keyLt'_oneType,e1,e2]
 refine wpS_bind (wpS_lift (wpAny_attempt (oneLt_int ⟨rfl,?_⟩)))
 exact wpS_pure q
end Srt
namespace L2
open PySem PySem.W PyProof.Rows Srt
section
variable{X:Cx}{pins:List (Addr×Obj)}{σ:St}{H:Hp}{s:Shared}
theorem collect_kept{g:Heap}{vs:List Value}:∀ b u,g.get? b=some u->((g.push (seqObj "list" #[] 0)).update g.objs.size (Obj.mapSeq (·++vs.toArray))).get? b=some u:=fun b u e=>by
 rw[Heap.get?_update_ne _ _ _ _ (zAE (zN e))]
 exact zD _ e
theorem ints_perm:∀ {ws vs:List Value}{ns:List Int},ws.Perm vs->Vals (ns.map V.int) vs->∃ ms:List Int,Vals (ms.map V.int) ws/\ms.Perm ns:=by
 intro ws vs ns hp r
 have hI:=intsAre_of r
 have all:∀ v∈vs,∃ i t,v=Value.int i t:=by
  intro v hv
  obtain⟨j,hj,e⟩:=zBG hv
  have l:=r.length
  rw[zB]at l
  obtain⟨u,e2,t,e3⟩:=r.get (i:=j) (x:=V.int (ns[j]'(by exact zh8 hj l))) (by rw[zAJ,zF (by exact zh8 hj l)];rfl)
  rw[zF hj,e]at e2
  cases e2
  exact⟨_,t,e3⟩
 let f:Value->Int:=fun v=>match v with
  | .int i _=>i
  | _=>0
 have key:∀ {us:List Value}{ks:List Int},Vals (ks.map V.int) us->us.map f=ks:=by
  intro us
  induction us with
  |nil=>intro ks r;cases ks with
   |nil=>rfl
   |cons _ _=>cases r
  |cons u us ih=>intro ks r;cases ks with
   |nil=>cases r
   |cons k ks =>
    cases r with
    |cons r1 r2 =>
     obtain⟨t,e⟩:=r1
     rw[zAI,ih r2,e]
 refine⟨ws.map f,?_,?_⟩
 ·have all':∀ v∈ws,∃ i t,v=Value.int i t:=fun v hv=>all v (hp.mem_iff.mp hv)
  clear hp
  induction ws with
  |nil=>exact .nil
  |cons w ws ih =>
   obtain⟨i,t,e⟩:=all' w (zT ..)
   refine .cons ⟨t,by rw[e]⟩ (ih fun v hv=>all' v (zY _ hv))
 ·rw[<- key r]
  exact hp.map f
theorem call_sortedI:CallR X (.builtin "sorted") (fun xs H Q=>∃ (l:Addr) (ns:List Int),xs=[V.ref l]/\SqL X.K H l (ns.map V.int)/\ns.length<128 /\
  ∀ (l':Addr) (ms:List Int),H l'=none->ms.Perm ns->ms.Pairwise (·<=·)->Q (.ref l') (upd H l' (.lst (ms.map V.int)))):=by
 intro pins s σ H xs us Q I r h
 obtain⟨l,ns,rfl,hq,hlen,q⟩:=h
 obtain⟨u,rfl,rx⟩:=vals1 r
 cases rx
 obtain⟨its,r',pl,hz⟩:=I.list hq
 have li:=r'.length
 rw[zB]at li
 refine Calls.call_function_entry kind_sorted plain_sorted entry_sorted (args_sorted1 _) ?_
 unfold Builtin.«sorted»
 refine zA (m:=checkCount "sorted" 1 1 _) (zG (zA (collect_list pl.isList ?_ (by rw[sizeLine_eq];exact zh9 (zl4 hlen rfl) (Eq.symm li)))))
 generalize hh':(s.heap.push (seqObj "list" #[] 0)).update s.heap.objs.size (Obj.mapSeq (·++its.toArray))=h'
 have kp:∀ b u,s.heap.get? b=some u->h'.get? b=some u:=hh'▸collect_kept
 refine zA (wpAny_newList ?_ (by rw[sizeLine_eq];exact zh9 (zl4 hlen rfl) (Eq.symm li)))
 have gL:(h'.push (seqObj "list" its.toArray 0)).get? h'.objs.size=some (seqObj "list" its.toArray 0):=zS _ rfl
 have I1:Inv X pins σ H { s with heap:=h' }:=I.kept (t':=s.toks) kp
 have kp2:∀ b u,h'.get? b=some u->(h'.push (seqObj "list" its.toArray 0)).get? b=some u:=fun b u e=>zD _ e
 have hI:=intsAre_of r'
 have keys:KeysOf κI (pairsOf its):=fun p hp=>by
  rw[pairsOf_toList]at hp
  obtain⟨e1,e2⟩:=Srt.mem_zip_self hp
  obtain⟨j,hj,e⟩:=zBG e2
  obtain⟨u,g1,t,g2⟩:=r'.get (i:=j) (x:=V.int (ns[j]'(by exact zh8 hj li))) (by rw[zAJ,zF (by exact zh8 hj li)];rfl)
  rw[zF hj,e]at g1
  cases g1
  rw[e1,g2]
  exact⟨_,rfl⟩
 refine zA (wpAny_holding (wpAny_call_entry slot_list_sort ⟨_,gL,rfl⟩ entry_list_sort (sort_at (κ:=κI) (kd:=oneType') gL keys (by exact zeu hlen li) (fun l2 g k=>⟨ltI_ok,fun R hR=>?_⟩) fun ws g c pw sw kp3 gg=>⟨_,rfl,?_⟩) (args_list_sort _)))
 ·match its,hI,l2 with
  |v1 :: v2 :: rest,hI,_ =>
   rw[keyKind_ints hI]
   exact zG hR
  |[],_,l2=>simp at l2
  |[_],_,l2=>simp at l2
 ·obtain⟨ms,rm,pm⟩:=ints_perm pw r'
  have lw:=rm.length
  rw[zB]at lw
  refine zG ⟨_,rfl,.ref h'.objs.size,_,I1.laid (t':=s.toks) (a:=h'.objs.size) (o:=.lst (ms.map V.int)) (fun b u e=>kp3 b u (zAE (zN e)) (kp2 b u e)) (zJ _) (show ObjOk X.prog X.w _ g _ (.lst (ms.map V.int))from⟨?_,ws,c,rm,gg⟩),rfl,q _ ms (I1.hok.fresh (zJ _)) pm ?_⟩
  ·rw[zB,pm.length_eq,sizeLine_eq];exact zl4 hlen rfl
  ·rw[zBX]
   intro i j hi hj ij
   have z:=sw i j (zAA ij) (by exact zh7 hj lw)
   have kk:∀ m (hm:m<ms.length),KK κI (pairsOf ws) m=ms[m]:=fun m hm=>by
    obtain⟨u,g1,t,g2⟩:=rm.get (i:=m) (x:=V.int ms[m]) (by rw[zAJ,zF hm];rfl)
    have e:(pairsOf ws)[m]?=some (u,u):=by
     have hm':m<ws.length:=by exact zh7 hm lw
     have:ws[m]=u:=by rw[zF hm']at g1;exact Option.some.inj g1
     simp[pairsOf,hm',this]
    unfold KK
    rw[e,g2]
    rfl
   rw[kk i hi,kk j hj]at z
   have z':decide (ms[j]<ms[i])=false:=z
   have:=of_decide_eq_false z'
   lia
end
open PySem PySem.W PyProof.Rows
section
variable{X:Cx}
theorem best_of{ns:List Int}{ys:Array (Int×Tok)}(e1:ns=ys.toList.map (·.1))(hs:0<ys.size){v:Value}(hv:(intItems ys)[argBest (fun i j=>decide (numAt ys i > numAt ys j)) (ys.size-1)]?=some v) :
  ∃ (m:Int) (t:Tok),v = .int m t/\m∈ns/\∀ a∈ns,a<=m:=by
 obtain⟨tk,rfl⟩:=intItems_at hv
 have best:=argBest_gt (numAt ys) (ys.size-1)
 have len:(ys.toList.map (·.1)).length=ys.size:=by simp
 refine⟨_,tk,rfl,?_,fun a ha=>?_⟩
 ·have:=best.1
  rw[numAt_eq,e1]
  exact getD_mem (by omega)
 ·subst e1
  obtain⟨i,hi,z⟩:=mem_getD ha
  have top:=best.2 i (by exact zi6 (zh7 (zh7 hi len) (zh5 hs)))
  rw[numAt_eq ys i,z]at top
  exact top
theorem call_maxL(hc:X.calm=true):CallR X (.builtin "max") (fun xs H Q=>∃ (l:Addr) (ns:List Int),xs=[V.ref l]/\SqL X.K H l (ns.map V.int)/\ns≠[]/\∀ m:Int,m∈ns->(∀ a∈ns,a<=m)->Q (.int m) H):=by
 intro pins s σ H xs us Q I r h
 obtain⟨l,ns,rfl,hq,hne,q⟩:=h
 obtain⟨u,rfl,rx⟩:=vals1 r
 cases rx
 obtain⟨its,r',pl,hz⟩:=I.list hq
 have hi:=intsAre_of r'
 obtain⟨ys,hx⟩:=hi.allInts.items
 have e1:ns=ys.toList.map (·.1):=by
  rw[<- nums_intItems,<- hx]
  exact(show numsOf its.toArray.toList=ns from hi.numsOf).symm
 have hs:0<ys.size:=by
  have:=List.length_pos_iff.mpr hne
  rw[e1,zB,zBT]at this
  exact this
 refine max_intList (I.ok.hd hc) (hx▸pl.isList) hs fun v h' tk hv hk=>?_
 obtain⟨m,t,rfl,hm,hb⟩:=best_of e1 hs hv
 exact⟨.int m,H,I.kept hk,⟨t,rfl⟩,q m hm hb⟩
end
open PySem PySem.W PyProof.Rows Srt
open PySem PySem.W PyProof.Rows HT
end L2
namespace SetA
open PySem
open PySem
open PySem
open PySem
open PySem
open PySem
open PySem
open PySem
open PySem
open PySem L2
open PySem L2
open PySem L2
open PySem PySem.W PyProof.Rows
theorem cut_perm{α:Type}:∀ (i:Nat) (l:List α) (h:i<l.length),(l[i] :: l.eraseIdx i).Perm l
 | 0,_ :: _,_=>.refl _
 |i+1,x :: l,h=>by
  show(l[i]'(zAY h) :: x :: l.eraseIdx i).Perm _
  exact(List.Perm.swap _ _ _).trans ((cut_perm i l (zAY h)).cons x)
end SetA
namespace L2
open PySem PySem.W PyProof.Rows Srt SetA
open PySem PySem.W PyProof.Rows Srt
open PySem PySem.W PyProof.Rows Srt
open PySem PySem.W PyProof.Rows
noncomputable def sqO:Bool->List V->HO
 |true,xs=>.tup xs
 |false,xs=>.lst xs
theorem sq_or{b:Bool}{K:PySem.W.Frag}{H:Hp}{a:Addr}{xs:List V}(h:H a=some (sqO b xs)):SqL K H a xs\/SqT K H a xs:=by
 cases b
 ·exact .inl (SqL.of h)
 ·exact .inr (SqT.of h)
section
variable{X:Cx}
inductive rIxLhI(x:V)(y:V)(H:Hp)(Q:VK):Prop where
 |mk (p:_) (xs:_) (i:_) (v:_) (h1:x = .ref p) (h2:y = .int i) (h3:H p=some (.lst xs)) (h4:atI xs i=some v) (h5:Q v H)
noncomputable def rIxLh:R2:=fun x y H Q=>rIxLhI x y H Q
inductive rIxThI(x:V)(y:V)(H:Hp)(Q:VK):Prop where
 |mk (p:_) (xs:_) (i:_) (v:_) (h1:x = .ref p) (h2:y = .int i) (h3:H p=some (.tup xs)) (h4:atI xs i=some v) (h5:Q v H)
noncomputable def rIxTh:R2:=fun x y H Q=>rIxThI x y H Q
theorem ix_listH:IxR X rIxLh:=by
 intro value slice pins s σ H x y v u Q I rx ry h hs
 obtain⟨p,xs,i,z,rfl,rfl,hp,he,q⟩:=h
 exact ix_list value slice pins s σ H _ _ v u Q I rx ry ⟨p,xs,i,z,rfl,rfl,SqL.of hp,he,q⟩ hs
theorem ix_tupH:IxR X rIxTh:=by
 intro value slice pins s σ H x y v u Q I rx ry h hs
 obtain⟨p,xs,i,z,rfl,rfl,hp,he,q⟩:=h
 exact ix_tup value slice pins s σ H _ _ v u Q I rx ry ⟨p,xs,i,z,rfl,rfl,SqT.of hp,he,q⟩ hs
theorem call_lenH:CallR X (.builtin "len") (fun xs H Q=>∃ p ys,xs=[.ref p]/\H p=some (.lst ys)/\Q (.int ys.length) H):=by
 intro pins s σ H xs us Q I r h
 obtain⟨p,ys,rfl,hp,q⟩:=h
 exact call_len_seq pins s σ H _ us Q I r ⟨p,ys,rfl,.inl (SqL.of hp),q⟩
theorem call_lenTH:CallR X (.builtin "len") (fun xs H Q=>∃ p ys,xs=[.ref p]/\H p=some (.tup ys)/\Q (.int ys.length) H):=by
 intro pins s σ H xs us Q I r h
 obtain⟨p,ys,rfl,hp,q⟩:=h
 exact call_len_seq pins s σ H _ us Q I r ⟨p,ys,rfl,.inr (SqT.of hp),q⟩
theorem call_tupleH:CallR X (.type "tuple") (fun xs H Q=>∃ p ys,xs=[.ref p]/\H p=some (.lst ys)/\∀ l,H l=none->Q (.ref l) (upd H l (.tup ys))):=by
 intro pins s σ H xs us Q I r h
 obtain⟨p,ys,rfl,hp,q⟩:=h
 exact call_tuple_of pins s σ H _ us Q I r ⟨p,ys,rfl,.inl ⟨SqL.of hp,q⟩⟩
theorem call_listH(b:Bool):CallR X (.type "list") (fun xs H Q=>∃ p ys,xs=[.ref p]/\H p=some (sqO b ys)/\∀ l,H l=none->Q (.ref l) (upd H l (.lst ys))):=by
 intro pins s σ H xs us Q I r h
 obtain⟨p,ys,rfl,hp,q⟩:=h
 exact call_list_of pins s σ H _ us Q I r ⟨p,ys,rfl,sq_or hp,q⟩
theorem call_sumH(hc:X.calm=true):CallR X (.builtin "sum") (fun xs H Q=>∃ (l:Addr) (ns:List Int),xs=[V.ref l]/\H l=some (.lst (ns.map V.int))/\Q (.int ns.sum) H):=by
 intro pins s σ H xs us Q I r h
 obtain⟨p,ys,rfl,hp,q⟩:=h
 exact call_sum hc pins s σ H _ us Q I r ⟨p,ys,rfl,SqL.of hp,q⟩
theorem call_allH(hc:X.calm=true):CallR X (.builtin "all") (fun xs H Q=>∃ (l:Addr) (bs:List Bool),xs=[V.ref l]/\H l=some (.lst (bs.map V.bl))/\Q (.bl (bs.all id)) H):=by
 intro pins s σ H xs us Q I r h
 obtain⟨p,ys,rfl,hp,q⟩:=h
 exact call_all hc pins s σ H _ us Q I r ⟨p,ys,rfl,SqL.of hp,q⟩
theorem call_maxLH(hc:X.calm=true):CallR X (.builtin "max") (fun xs H Q=>∃ (l:Addr) (ns:List Int),xs=[V.ref l]/\H l=some (.lst (ns.map V.int))/\ns≠[]/\∀ m:Int,m∈ns->(∀ a∈ns,a<=m)->Q (.int m) H):=by
 intro pins s σ H xs us Q I r h
 obtain⟨p,ys,rfl,hp,n0,q⟩:=h
 exact call_maxL hc pins s σ H _ us Q I r ⟨p,ys,rfl,SqL.of hp,n0,q⟩
inductive rInQI(b n:Bool)(x:V)(y:V)(H:Hp)(Q:VK):Prop where
 |mk (p:_) (xs:_) (h1:y = .ref p) (h2:H p=some (sqO b xs)) (h3:flatV x=true) (h4:xs.all flatV=true) (h5:Q (.bl (if n=true then !inV x xs else inV x xs)) H)
noncomputable def rInQ(b n:Bool):R2:=fun x y H Q=>rInQI b n x y H Q
theorem op_inQ(b:Bool):OpR X (compareOp .In) (rInQ b false):=by
 intro pins s σ H x y v u Q I rx ry h
 obtain⟨p,xs,rfl,hp,fx,fs,q⟩:=h
 exact op_in_seq pins s σ H x _ v u Q I rx ry ⟨p,xs,rfl,sq_or hp,fx,fs,q⟩
theorem op_inH:OpR X (compareOp .In) (rInQ false false):=op_inQ false
noncomputable def tBMh(r:V->List V->Hp->VK->Prop)(to:TE)(t:TA):TE:=fun σ H Q=>to σ H fun x H1=>(∃ p xs,x = .ref p/\H1 p=some (.lst xs))/\t σ H1 fun xs H2=>r x xs H2 Q
theorem pe_bmH{id:String}{name:Str}{r:V->List V->Hp->VK->Prop}{o e:Expr}{es:List Expr}{to:TE}{t:TA}{apos cpos:Pos}(slot:Slot "list" name id)(hty:typeOf (.builtin id)=pure (.type "method_descriptor"))(hm:MtR X id r)(ho:PE X o to)(ha:PA X (e :: es) t)(hbase:attributeBase o name X.env (eval o X.env)=eval o X.env:=by rfl)
  (hfew:((backTo cpos (starEach (e :: es) X.env)).all (fun x=>!x.1) && (backToKw cpos (keywordEach [] X.env)).all (fun x=>x.1.isSome) && decide ((e :: es).length+([]:List Keyword).length+(if([]:List Keyword).isEmpty then 0 else 1)<30))=true:=by rfl) (hline:(apos.endLine == cpos.line)=true:=by rfl)
  (hs:starEach (e :: es) X.env=(false,eval e X.env) :: starEach es X.env:=by rfl) (hplain:(backTo cpos (starEach es X.env)).any (·.1)=false:=by rfl):PE X (.Call (.Attribute o name apos) (e :: es) [] cpos) (tBMh r to t):=by
 intro pins s σ H Q I h
 refine wpAny_Call_method_late hbase hfew hline rfl (thn (ho pins s σ H _ I h) fun v s1 ⟨x,H1,I1,r1,⟨p,xs,ex,hx⟩,q1⟩=>?_)
 subst ex
 obtain⟨h1,h2⟩:=tyV_is (T:="list") I1 r1 (.inl ⟨rfl,xs,SqL.of hx⟩)
 refine⟨"list",id,PySem.F.plainAttrs_list,slot,hty,h1,h2,?_⟩;have hA:=ha cpos pins s1 σ H1 _ I1 q1
 rw[hs]at hA ⊢;refine Calls.callWith_builtin (by show(false ||(backTo cpos (starEach es X.env)).any (·.1))=false;rw[hplain] <;> rfl) (Calls.evalArgs_plain (thn hA fun us s2 ⟨vs,H2,I2,r2,q2⟩=>?_))
 exact hm pins s2 σ H2 _ vs v us Q I2 r1 r2 q2
end
open PySem PySem.W PyProof.Rows
theorem for_enumB{b:Bool}{K:PySem.W.Frag}{l:Addr}{xs:List V}{g:TG}{tb:TS}{D:Ends}{σ:St}{H:Hp}(Pv:Nat->St->Hp->Prop)(h0:Pv 0 σ H)(hl:∀ i σ H,i<=xs.length->Pv i σ H->SqB b K H l xs)
  (hs:∀ i x σ H T,xs[i]?=some x->Pv i σ H->H T=none->g (.ref T) σ (upd H T (.tup [.int i,x])) fun σ2 H2=>tb { D with nx:=Pv (i+1),ct:=Pv (i+1),bk:=D.nx } σ2 H2) (hd:∀ σ H,Pv xs.length σ H->D.nx σ H) :
  ∃ W:Nat->Nat->St->Hp->Prop,(∃ m,W 0 m σ H)/\∀ i m σ H,W i m σ H ->
   ((IteB b K l).stop i H/\D.nx σ H)\/((IteB b K l).go i H/\∃ N:St->Hp->Prop,(∀ σ' H',N σ' H'->∃ m',m'<m/\W (i+1) m' σ' H')/\∀ x H',(IteB b K l).yld i H x H'->g x σ H' fun σ2 H2=>tb { D with nx:=N,ct:=N,bk:=D.nx } σ2 H2):=by
 refine⟨fun i m σ H=>m=xs.length-i/\i<=xs.length/\Pv i σ H,⟨xs.length,by simp,zAW _,h0⟩,?_⟩
 rintro i m σ H ⟨rfl,hi,p⟩
 have q:=hl i σ H hi p
 by_cases hlt:i<xs.length
 ·refine .inr ⟨⟨xs,xs[i],q,by simp[hlt]⟩,Pv (i+1),fun σ' H' p'=>⟨xs.length-(i+1),by exact zaa hlt,rfl,hlt,p'⟩,fun x H' y=>?_⟩
  obtain⟨T,x',e1,hT,e2,y⟩:=y
  subst e1
  subst e2
  exact hs i x' σ H T (y xs q) p hT
 ·have e:i=xs.length:=by exact zj7 hi hlt
  subst e
  exact .inl ⟨⟨xs,q,zJ _⟩,hd σ H p⟩
open PySem PySem.W PyProof.Rows
section
variable{M:Model}{A:Around}{E:Value->Shared->Prop}{s:Shared}
theorem newEnv_cell{scope:Scope}{globals:Addr}{closure:List (Str×Addr)}{qual:Str}{func:Option Addr}{code:Value}{builtins:Addr}{env:Env}{y:Str}{Q:Env->Shared->Prop}
  (h1:∀ b acc,cellsFrom b scope.names acc=(y,b) :: acc) (h2:∀ h:Heap,pushCells h scope.names=h.push { cls:=.type "cell",data:=.cell none })
  (hQ:Q (newEnv scope s.heap.objs.size globals ((y,s.heap.objs.size+1) :: closure) qual func code (some env) builtins) { s with heap:=(s.heap.push { cls:=.type "dict",data:=.dict #[] }).push { cls:=.type "cell",data:=.cell none } }) :
  wpAny M A (newFunctionEnv scope globals closure [] qual func code (some env) builtins) Q E s:=by
 simp only[newFunctionEnv,Option.isSome_some,if_true]
 refine zA (wpAny_alloc ?_)
 refine zA (wpAny_layCells _ (fun name kind cells=>by cases hkc:kind == NameKind.cell <;> simp[hkc]) _ _ _ _ ?_)
 rw[h1,h2,show({ s with heap:=s.heap.push { cls:=.type "dict",data:=.dict #[] } }:Shared).heap.objs.size=s.heap.objs.size+1 from Heap.size_push ..]
 rw[List.forIn_nil]
 exact zA (zG (zG hQ))
end
noncomputable def cxIc(X:Cx)(y:Str)(N':List Str)(scope:Scope)(C:Addr)(s2:Shared)(H2:Hp)(fp:List Addr):Cx :=
 { X with N:=N',s₀:=s2,H₀:=H2,env:=compEnvC scope ((y,C+1) :: closCl X.env.cells scope.names []) C X.env,outer:=X.stack,ex:=fp,fn:=fun x=>decide (x=y),xe:=fun _ _=>False }
structure CellScope(y:Str)(N':List Str)(cap:List (Option Nat))(N:List Str)(sc0 scope:Scope):Prop where
 kind:scope.kind = .function
 one:∀ b acc,cellsFrom b scope.names acc=(y,b) :: acc
 push:∀ h:Heap,pushCells h scope.names=h.push { cls:=.type "cell",data:=.cell none }
 only:∀ x∈scope.names,x.2 = .cell->x.1=y
 own:scope.names.lookup y=some .cell
 loc:∀ x∈scope.names,x.2 = .local->scope.names.lookup x.1=some .local
 fre:∀ x∈scope.names,x.2 = .free->sc0.names.lookup x.1=some .cell\/sc0.names.lookup x.1=some .free
 len:cap.length=N'.length
 cap:∀ j∈List.range cap.length,match cap[j]? with
  |some (some i)=>match N'[j]? with
   |some x=>N[i]?=some x/\scope.names.lookup x=some .free
   |none=>False
  | _=>True
section
variable{X:Cx}{y:Str}{N':List Str}{cap:List (Option Nat)}{scope:Scope}{C:Addr}{s2 s4:Shared}{H2:Hp}{fp:List Addr}{pins:List (Addr×Obj)}{σ:St}
theorem CellScope.clos(S:CellScope y N' cap X.N X.env.scope scope)(I:Inv X pins σ H2 s2):∀ x∈scope.names,x.2 = .free->∃ c,X.env.cells.lookup x.1=some c :=
 fun x hx hf=>I.ok.has x.1 (S.fre x hx hf)
theorem csC_sound(S:CellScope y N' cap X.N X.env.scope scope)(I:Inv X pins σ H2 s2){x:Str}{c:Addr}(e:((y,C+1) :: closCl X.env.cells scope.names []).lookup x=some c):(x=y/\c=C+1)\/X.env.cells.lookup x=some c:=by
 rw[zAO]at e
 by_cases z:(x == y)=true
 ·rw[z]at e
  exact .inl ⟨by simpa using z,by cases e;rfl⟩
 ·rw[zBK.mpr z]at e
  exact .inr (closCl_sound _ _ (S.clos I) (fun y c e=>by simp at e) x c e)
theorem csC_old(I:Inv X pins σ H2 s2){x:Str}{c:Addr}(hC:s2.heap.objs.size<=C)(e:X.env.cells.lookup x=some c):c≠C+1:=fun z=>by
 obtain⟨v,q⟩:=I.cell x c e
 have h1:=q.lt
 rw[z]at h1
 exact absurd h1 (Nat.not_lt.mpr (zDF hC))
theorem cxIc_ok(S:CellScope y N' cap X.N X.env.scope scope)(I:Inv X pins σ H2 s2)(hC:s2.heap.objs.size<=C)(hfp:∀ b∈fp,FpOk X pins H2 b)(hfo:∀ b∈fp,∃ o,s2.heap.get? b=some o):(cxIc X y N' scope C s2 H2 fp).Ok where
 mod:=I.ok.mod
 kind:=S.kind
 glob:=I.ok.glob
 blt:=I.ok.blt
 above:=hC
 inj:=fun x z c e1 e2=>by
  rcases csC_sound S I e1 with⟨a1,b1⟩ | a1 <;> rcases csC_sound S I e2 with⟨a2,b2⟩ | a2
  ·rw[a1,a2]
  ·exact absurd b1 (csC_old I hC a2)
  ·exact absurd b2 (csC_old I hC a1)
  ·exact I.ok.inj x z c a1 a2
 has:=fun x h=>by
  have key:∀ k,(x,k)∈scope.names->(k = .cell\/k = .free)->∃ c,((y,C+1) :: closCl X.env.cells scope.names []).lookup x=some c:=fun k hk hc=>by
   rw[zAO]
   by_cases z:(x == y)=true
   ·rw[z];exact⟨_,rfl⟩
   ·rw[zBK.mpr z]
    rcases hc with e | e
    ·subst e;exact absurd (by simpa using S.only _ hk rfl) z
    ·subst e;exact closCl_has _ _ x hk
  rcases h with h | h
  ·obtain⟨k,hk,e |⟨e,_⟩⟩:=relabel_mem (scope:=scope) (l:=scope.names) h
   ·exact key k hk (.inl e)
   ·exact key k hk (.inr e)
  ·obtain⟨k,hk,e |⟨_,e⟩⟩:=relabel_mem (scope:=scope) (l:=scope.names) h
   ·exact key k hk (.inr e)
   ·cases e
 cab:=fun x c h e=>by
  have h:x=y:=of_decide_eq_true h
  rcases csC_sound S I e with⟨_,b1⟩ | a1
  ·rw[b1];exact zDF hC
  ·subst h
   have e:((x,C+1) :: closCl X.env.cells scope.names []).lookup x=some c:=e
   rw[zAO,beq_self_eq_true]at e
   cases e
   exact zDF hC
 hd:=I.ok.hd
 frames:=I.ok.frames
 stk:=.inl rfl
 exf:=fun b hb=>⟨fun z=>by
   obtain⟨o,ho⟩:=hfo b hb
   have h1:=zE (zN ho) hC
   have z:b=C:=z
   rw[z]at h1
   exact zAH _ h1,fun x c e=>by
   rcases csC_sound S I e with⟨_,b1⟩ | a1
   ·obtain⟨o,ho⟩:=hfo b hb
    have h1:=zE (zN ho) hC
    intro z
    rw[<- z,b1]at h1
    exact absurd h1 (Nat.not_lt.mpr (zCN _))
   ·exact(hfp b hb).2.2.2.2.1 x c a1⟩
 bs:=I.bs
 bsz:=zC I.ok.bsz I.sz
 noex:=fun b o e hb=>by
  rcases(hfp b hb).2.2.2.1 with z | z
  ·exact I.ok.noex b o e z
  ·exact absurd (zE (zN e) (zC I.ok.bsz z)) (zAH _)
 exfs:=fun b hb z=>by
  rcases zAF.mp (I.stkSub b z)with e | e
  ·exact(hfp b hb).2.1 e
  ·exact(hfp b hb).2.2.1 e
 funs:=I.stack
 frf:=I.stkFree
theorem cxIc_inv(S:CellScope y N' cap X.N X.env.scope scope)(I:Inv X pins σ H2 s2)(hC:s2.heap.objs.size<=C)(hfp:∀ b∈fp,FpOk X pins H2 b)(hfo:∀ b∈fp,∃ o,s2.heap.get? b=some o)
  (ho:s4.os=s2.os) (hg:s4.gens=s2.gens) (k:∀ b o,s2.heap.get? b=some o->s4.heap.get? b=some o) {m:Str->Option Value} (hn:s4.heap.Ns C m) {D:Addr}{oD:Obj}
  (hD:s4.heap.get? D=some oD) (hDs:s2.heap.objs.size<=D) (hDC:D≠C) (hDc:∀ v,oD.data≠.cell v) (hcl:s4.heap.IsCell (C+1) none) :
  Inv (cxIc X y N' scope C s2 H2 fp) (pins++[(D,oD)]) (capt cap σ) H2 s4 where
 ok:=cxIc_ok S I hC hfp hfo
 os:=ho
 bare:=by rw[hg];exact I.bare
 base:=Un.kept k
 loc:=by
  refine⟨m,hn,fun j x v e1 e2 _=>?_⟩
  have hj:j<cap.length:=by rw[S.len];exact(zH.mp e1).1
  have e1:N'[j]?=some x:=e1
  have hc:=S.cap j (zCP.mpr hj)
  unfold capt at e2
  rw[zAJ]at e2
  cases hq:cap[j]? with
  |none=>rw[hq]at e2;cases e2
  |some o =>
   rw[hq]at e2 hc
   cases o with
   |none=>cases e2
   |some i =>
    simp only[e1]at hc
    obtain⟨hN,hfr⟩:=hc
    have e3:σ[i]?=some (some v):=by
     have e2:(σ[i]?).join=some v:=Option.some.inj e2
     cases hs:σ[i]? with
     |none=>rw[hs]at e2;cases e2
     |some w=>rw[hs]at e2;have e2:w=some v:=e2;rw[e2]
    have hm:=lookup_mem hfr
    have hk:=S.fre _ hm rfl
    obtain⟨m0,hn0,hl0⟩:=I.loc
    obtain⟨u,r,l⟩:=hl0 i x v hN e3 (.inr hk)
    refine⟨u,r,?_⟩
    rcases l with⟨l,_⟩ |⟨_,c,e,z⟩
    ·rcases hk with hk | hk
     ·rw[show X.env.kindOf x=some .cell from hk]at l;cases l
     ·rw[show X.env.kindOf x=some .free from hk]at l;cases l
    ·obtain⟨c',hc'⟩:=closCl_has (cells:=X.env.cells) scope.names [] x hm
     have hs:=closCl_sound scope.names [] (S.clos I) (fun y c e=>by simp at e) x c' hc'
     rw[e]at hs
     cases hs
     have ny:(x == y)=false:=zBK.mpr fun z=>by
      have z:x=y:=by simpa using z
      rw[z,S.own]at hfr
      cases hfr
     refine .inr ⟨relabel_free hfr,c,(by show((y,C+1) :: closCl X.env.cells scope.names []).lookup x=some c;rw[zAO,ny];exact hc'),?_⟩
     obtain⟨oc,ho',hd'⟩:=z
     exact⟨oc,k _ _ ho',hd'⟩
 cell:=fun x c e=>by
  rcases csC_sound S I e with⟨_,b1⟩ | a1
  ·rw[b1];exact⟨none,hcl⟩
  ·obtain⟨v,oc,ho',hd'⟩:=I.cell x c a1
   exact⟨v,oc,k _ _ ho',hd'⟩
 free:=I.hok.fresh hC
 freeC:=fun x c e=>by
  rcases csC_sound S I e with⟨_,b1⟩ | a1
  ·rw[b1];exact I.hok.fresh (zDF hC)
  ·exact I.freeC x c a1
 pin:=fun p hp=>by
  have hp:p∈X.pn++(pins++[(D,oD)]):=hp
  have cne:∀ b o,s2.heap.get? b=some o->b≠C:=fun b o e z=>by
   have h1:=zE (zN e) hC
   rw[z]at h1
   exact zAH _ h1
  rw[<- zAL]at hp
  rcases zAD.mp hp with hp | hp
  ·obtain⟨e,n,ne,nf,d⟩:=I.pin p hp
   exact⟨k _ _ e,n,cne _ _ e,fun z=>by
    rcases zAF.mp (I.stkSub p.1 z)with e | e
    ·exact ne e
    ·exact nf e,d⟩
  ·have e:p=(D,oD):=by simpa using hp
   subst e
   refine⟨hD,I.hok.fresh hDs,hDC,fun z=>?_,hDc⟩
   rcases zAF.mp (I.stkSub D z)with e | e
   ·have h1:=zE I.lt hDs
    rw[e]at h1
    exact zAH _ h1
   ·exact I.nofs hDs e
 hok:=I.hok.kept k
 len:=by unfold capt;rw[zB];exact S.len
end
section
variable{X:Cx}{y:Str}{elt tg iter:Expr}{ifs:List Expr}{scope:Scope}{pos:Pos}{N':List Str}{cap:List (Option Nat)}{wi:TI}{g:TG}{tc:TT}{te:TE}
theorem comp_runC(hc:X.calm=true)(S:CellScope y N' cap X.N X.env.scope scope)(hi:PI X tg iter wi)(hg:∀ C s H fp,PG (cxIc X y N' scope C s H fp) tg g)
  (ht:∀ C s H fp,PF (cxIc X y N' scope C s H fp) ifs tc) (he:∀ C s H fp,PE (cxIc X y N' scope C s H fp) elt te)
  {pins:List (Addr×Obj)}{s:Shared}{σ:St}{H:Hp}{Q:VK} (I:Inv X pins σ H s) (h:tComp cap wi g tc te σ H Q) :
  wpAny (model X.prog X.w) X.A (eval iter X.env) (fun x s₁=>wpAny (model X.prog X.w) X.A (pyIter x) (fun it s₂=>wpAny (model X.prog X.w) X.A (newList []) (fun acc s₃ =>
   wpAny (model X.prog X.w) X.A (newFunctionEnv scope X.env.globals (closCl X.env.cells scope.names []) [] X.env.qual none .none (some X.env)) (fun cenv s₄ =>
    codeAny (model X.prog X.w) X.A (.compStart (.ListComp elt [⟨tg,iter,ifs,0⟩] scope pos) 0 it acc { cenv with scope:=relabel scope X.env }) (CompEnd X pins σ Q acc cenv.locals) s₄) X.xe s₃) X.xe s₂) X.xe s₁) X.xe s:=by
 refine thn (hi pins s σ H _ I h) fun v s1 h1=>thn h1 fun itv s2 h2=>?_
 obtain⟨it,fp,tn,J,H2,e,I2,T,st2,f2,n,P,hn,p0,turn⟩:=h2
 subst e
 refine wpAny_newObj_type (newEnv_cell S.one S.push ?_)
 dsimp only
 generalize hHp:s2.heap.push { cls:=.type "list",dict:=none,data:=.seq ([]:List Value).toArray } = Hq
 generalize hh1:(Hq.push { cls:=.type "dict",data:=.dict #[] }).push { cls:=.type "cell",data:=.cell none } = h₁
 have hns₁:h₁.Ns Hq.objs.size fun _=>none:=by rw[<- hh1];exact(Heap.Ns.new Hq (.type "dict")).keeps fun b o e=>zD _ e
 have hcl₁:h₁.IsCell (Hq.objs.size+1) none:=by
  have e:(Hq.push { cls:=.type "dict",data:=.dict #[] }).objs.size=Hq.objs.size+1:=Heap.size_push ..
  rw[<- hh1,<- e]
  exact⟨_,zS _ rfl,rfl⟩
 have up₁:∀ b o,Hq.get? b=some o->h₁.get? b=some o:=fun b o e=>by rw[<- hh1];exact zD _ (zD _ e)
 have hC:Hq.objs.size=s2.heap.objs.size+1:=by rw[<- hHp,Heap.size_push]
 have hDC:s2.heap.objs.size≠Hq.objs.size:=by rw[hC];exact zAE (zBC _)
 have hCle:s2.heap.objs.size<=Hq.objs.size:=by rw[hC];exact zCN _
 have old:∀ b o,s2.heap.get? b=some o->h₁.get? b=some o:=fun b o e=>up₁ b o (hHp▸zD _ e)
 have hacc:h₁.PlainList s2.heap.objs.size #[]:=⟨_,up₁ _ _ (hHp▸zS _ rfl)⟩
 have hfo:∀ b∈fp,∃ o,s2.heap.get? b=some o:=fun b hb=>let ⟨o,e,_⟩:=T.obj _ _ st2 b hb;⟨o,e⟩
 have st4:tn 0 h₁:=T.keep _ _ _ st2 fun b _ o e=>old b o e
 let D:Addr:=s2.heap.objs.size
 let C:Addr:=Hq.objs.size
 let Y:Cx:=cxIc X y N' scope C s2 H2 fp
 have hDfp:D∉fp:=fun hb=>by
  obtain⟨o,e⟩:=hfo D hb
  exact zAH _ (zN e)
 -- the iterator's objects,seen from within
 have stat:∀ {H':Hp}{oD:Obj},(∀ b∈fp,H' b=none)->∀ b∈fp,FpOk Y (pins++[(D,oD)]) H' b:=fun {H' oD} hn b hb=>by
  obtain⟨f0,f1,fx,f3,f4,f5⟩:=f2 b hb
  obtain⟨o,e⟩:=hfo b hb
  refine⟨hn b hb,fun z=>?_,fun z=>?_,.inl hb,fun x c e=>by
   rcases csC_sound S I2 e with⟨_,b1⟩ | a1
   ·obtain⟨o,ho⟩:=hfo b hb
    have h1:=zE (zN ho) hCle
    intro z
    rw[<- z,b1]at h1
    exact absurd h1 (Nat.not_lt.mpr (zCN _))
   ·exact f4 x c a1,fun p hp=>?_⟩
  ·have h1:=zE (zN e) hCle
   have z:b=Hq.objs.size:=z
   rw[z]at h1
   exact zAH _ h1
  ·rcases zAF.mp (I2.stkSub b z)with e | e
   ·exact f1 e
   ·exact fx e
  ·have hp:p∈X.pn++(pins++[(D,oD)]):=hp
   rw[<- zAL]at hp
   rcases zAD.mp hp with hp | hp
   ·exact f5 p hp
   ·have q:p=(D,oD):=by simpa using hp
    subst q
    exact fun z=>hDfp (by rw[show D=b from z];exact hb)
 have loop:∀ s₃:Shared,s₃ = { s2 with heap:=h₁,toks:=s2.toks } ->
   codeAny (model X.prog X.w) X.A (.compLoop (.ListComp elt [⟨tg,iter,ifs,0⟩] scope pos) 0 (.ref it) (.ref s2.heap.objs.size) (compEnvC scope ((y,Hq.objs.size+1) :: closCl X.env.cells scope.names []) Hq.objs.size X.env))
    (CompEnd X pins σ Q (.ref s2.heap.objs.size) Hq.objs.size) s₃:=by
  rintro s₃ rfl
  have cellD:∀ x c,Y.env.cells.lookup x=some c->c≠D:=fun x c e z=>by
   have z:c=s2.heap.objs.size:=z
   rcases csC_sound S I2 e with⟨_,b1⟩ | a1
   ·have b1:c=Hq.objs.size+1:=b1
    rw[z,hC]at b1
    exact absurd b1 (zAE (zCW (zBC _)))
   ·obtain⟨v,q⟩:=I2.cell x c a1
    have h1:=q.lt
    rw[z]at h1
    exact zAH _ h1
  have pinD:∀ p∈X.pn++pins,p.1≠D:=fun p hp z=>by
   have h1:=zN (I2.pin p hp).1
   rw[show p.1=s2.heap.objs.size from z]at h1
   exact zAH _ h1
  have inD:∀ {pl:List (Addr×Obj)}{oD:Obj},(D,oD)∈Y.pn++((pins++[(D,oD)])++pl):=fun {pl oD}=>zP _ (zAZ _ (zP _ (by simp)))
  have inF:∀ {pl:List (Addr×Obj)}{oD:Obj}{p:Addr×Obj},p∈pl->p∈Y.pn++((pins++[(D,oD)])++pl):=fun {pl oD p} hp=>zP _ (zP _ hp)
  refine codeAny_compLoop_any (fun m s'=>∃ i ys H' its ep,m=n-i/\i<=n/\ys.length<=i/\Vals ys its/\Inv Y (pins++[(D,{ cls:=.type "list",data:=.seq its.toArray ep })]) (capt cap σ) H' s'/\tn i s'.heap/\(∀ b∈fp,H' b=none)/\P i ys H') ?_ n ?_
  ·rintro m s3 ⟨i,ys,H3,its,ep,rfl,hin,hyl,rv,I3,st3,fr3,p3⟩
   rcases turn i ys H3 hyl hin p3 with⟨stop,q⟩ |⟨hlt,go,step⟩
   ·refine thn (T.done Y rfl rfl rfl hc i _ s3 _ H3 (fun _ _=>False) I3 (stat fr3) st3 stop) fun r s4 ⟨hr,I4⟩=>?_
    subst hr
    obtain⟨eD,nD,_⟩:=I4.pin (D,{ cls:=.type "list",data:=.seq its.toArray ep }) (zP _ (zP _ (by simp)))
    have nD:H3 D=none:=nD
    have okn:ObjOk X.prog X.w (upd H3 D (.lst ys)) s4.heap D (.lst ys):=⟨zC hyl (zC hin hn),its,ep,rv,eD⟩
    have hok:HOk X.prog X.w (upd H3 D (.lst ys)) s4.heap:=fun b u e=>by
     by_cases hb:b=D
     ·subst hb;rw[upd_same]at e;cases e;exact okn
     ·rw[upd_ne hb]at e
      exact(I4.hok b u e).stay (fun c v _ q=>q) (fun c q=>by rw[upd_ne (ne_of_none q nD)];exact q) fun c xs q=>by rw[upd_ne (ne_of_none q nD)];exact q
    have B:=I4.base
    have u:Un (frs X.stack) fp H2 (upd H3 D (.lst ys)) s2.heap s4.heap :=
     ⟨B.keep,B.slot,fun b o e n hx=>by rw[upd_ne (zAE (zN e))];exact B.free b o e n hx,B.there,fun b xs e=>by rw[upd_ne (ne_of_none (B.tups b xs e) nD)];exact B.tups b xs e,
      fun b o xs e=>by rw[upd_ne (ne_of_none (B.frzs b o xs e) nD)];exact B.frzs b o xs e,fun b ps e=>by
       obtain⟨more,z⟩:=B.tbls b ps e
       exact⟨more,by rw[upd_ne (ne_of_none z nD)];exact z⟩,B.tupo⟩
    have IX:Inv X pins σ (upd H3 D (.lst ys)) s4:=I2.call' (ch:=fp) I4.os u hok I4.bare fun b hb=>by
     obtain⟨f0,f1,fx,f3,f4,f5⟩:=f2 b hb
     exact⟨f3,f1,f4,f5⟩
    have nC:(upd H3 D (.lst ys)) Hq.objs.size=none:=by rw[upd_ne (Ne.symm hDC)];exact I4.free
    obtain⟨m',hm',_⟩:=I4.loc
    exact⟨.ref D,_,IX,rfl,q D nD,⟨m',hm'⟩,I2.fpOk hCle nC⟩
   ·refine thn (T.item Y rfl rfl rfl hc i _ s3 _ H3 (fun _ _=>False) I3 (stat fr3) st3 go) fun r s4 ⟨u,hr,h4⟩=>?_
    subst hr
    refine thn h4 fun _ s5 ⟨x,H5,I5,r5,y5,st5,fr5⟩=>?_
    have I5':=I5.pinned (stat fr5) (T.obj _ _ st5)
    refine thn (hg C s2 H2 fp _ s5 _ H5 x u _ I5' r5 (step x H5 y5)) fun _ s6 ⟨σ6,H6,I6,kp,q6⟩=>?_
    refine thn (ht C s2 H2 fp _ s6 σ6 H6 _ I6 q6) fun b s7 ⟨H7,I7,q7⟩=>?_
    cases b with
    |false =>
     rw[if_neg zW]at q7 ⊢
     refine⟨n-(i+1),zBP n i hlt,i+1,ys,H7,its,ep,rfl,hlt,zDF hyl,rv,I7.unpinned.weak kp.length kp.get,?_,fun b hb=>?_,q7⟩
     ·exact T.keep _ _ _ st5 fun b hb o e=>(I7.pin (b,o) (inF (mem_pinsAt hb e))).1
     ·obtain⟨o,e,d⟩:=T.obj _ _ st5 b hb
      exact(I7.pin (b,o) (inF (mem_pinsAt hb e))).2.1
    |true =>
     rw[if_pos rfl]at q7 ⊢
     refine thn (he C s2 H2 fp _ s7 σ6 H7 _ I7 q7) fun yv s8 ⟨y,H8,I8,r8,q8⟩=>?_
     obtain⟨eD,nD,_⟩:=I8.pin (D,{ cls:=.type "list",data:=.seq its.toArray ep }) inD
     have hsz:its.toArray.size<=sizeLine:=by
      rw[zV,<- rv.length]
      exact zC hyl (zC hin hn)
     refine wpAny_list_append_plain (items:=its.toArray) ⟨ep,eD⟩ (fun h9 pl9 sb9=>?_) hsz
     obtain⟨ep',e9⟩:=pl9
     have e9:h9.get? D=some { cls:=.type "list",data:=.seq (its++[yv]).toArray ep' }:=by rw[e9];simp
     have Ia:Inv Y pins σ6 H8 s8:=I8.pins_of fun p hp=>I8.pin p (zP _ (zAZ _ (zAZ _ hp)))
     have Ib:Inv Y pins σ6 H8 { s8 with heap:=h9 }:=Ia.turned (it:=D) (t':=s8.toks) (fun b o hb e=>(sb9.2 b hb).trans e) nD hDC (.inr (zJ _)) cellD pinD
     have Ic:Inv Y (pins++[(D,{ cls:=.type "list",data:=.seq (its++[yv]).toArray ep' })]) σ6 H8 { s8 with heap:=h9 }:=Ib.pins_of fun p hp=>by
      rcases zAD.mp hp with hp | hp
      ·exact Ib.pin p (zP _ hp)
      ·have q:p=(D,{ cls:=.type "list",data:=.seq (its++[yv]).toArray ep' }):=by simpa using hp
       subst q
       obtain⟨_,_,z1,z2,_⟩:=I8.pin (D,{ cls:=.type "list",data:=.seq its.toArray ep }) inD
       exact⟨e9,nD,z1,z2,fun v z=>by cases z⟩
     refine⟨n-(i+1),zBP n i hlt,i+1,ys++[y],H8,its++[yv],ep',rfl,hlt,by simp;omega,Vals.append rv (.cons r8 .nil),Ic.weak kp.length kp.get,?_,fun b hb=>?_,q8⟩
     ·exact T.keep _ _ _ st5 fun b hb o e=>sb9.extBut b o (fun z=>hDfp (by rw[show D=b from Eq.symm z];exact hb)) (I8.pin (b,o) (inF (mem_pinsAt hb e))).1
     ·obtain⟨o,e,d⟩:=T.obj _ _ st5 b hb
      exact(I8.pin (b,o) (inF (mem_pinsAt hb e))).2.1
  ·obtain⟨ep,e⟩:=hacc
   refine⟨0,[],H2,[],ep,rfl,zAW _,zJ _,.nil,?_,st4,fun b hb=>(f2 b hb).1,p0⟩
   exact cxIc_inv (s4:={ s2 with heap:=h₁,toks:=s2.toks }) S I2 hCle f2 hfo rfl rfl old hns₁ e (zJ _) hDC (fun v z=>by cases z) hcl₁
 exact codeAny_compStart_list (loop _ rfl) (T.self X.A 0 _ _ _ st4 (loop _ rfl))
theorem pe_compC(hc:X.calm=true)(S:CellScope y N' cap X.N X.env.scope scope)(hi:PI X tg iter wi)(hg:∀ C s H fp,PG (cxIc X y N' scope C s H fp) tg g)
  (ht:∀ C s H fp,PF (cxIc X y N' scope C s H fp) ifs tc) (he:∀ C s H fp,PE (cxIc X y N' scope C s H fp) elt te)
  (hs:∀ x,foldedSetIterable iter X.env x=pure x:=by intro _;rfl):PE X (.ListComp elt [⟨tg,iter,ifs,0⟩] scope pos) (tComp cap wi g tc te):=by
 intro pins s σ H Q I h
 rw[eval_ListComp]
 refine wpAny_comprehension_free (use:=none) rfl hs (closureFor_cells (S.clos I)) S.kind S.loc (thn (comp_runC (pos:=pos) hc S hi hg ht he I h) fun x s1 h1=>thn h1 fun it s2 h2=>thn h2 fun acc s3 h3=>thn h3 fun cenv s4 h4=>?_)
 refine codeAny_mono h4 fun r s' hr=>?_
 cases r with
 |error x=>exact hr.elim
 |ok f =>
  obtain⟨v,H',I',rv,q,⟨m,hn⟩,f0,f1,f2,f3,f4,f5⟩:=hr
  refine⟨m,hn,fun h' sb=>⟨v,H',I'.turned (it:=cenv.locals) (t':=s'.toks) (fun b o hb e=>(sb.2 b hb).trans e) f0 f1 f3 f4 f5,rv,q⟩⟩
end
open PySem PySem.W PyProof.Rows
theorem Paired.atV{F:V->Dt->Prop}{xs:List V}{ds:List Dt}(h:Paired F xs ds){j:Nat}(h1:j<xs.length)(h2:j<ds.length):F xs[j] ds[j]:=Paired.at h j h1 h2
theorem eq_same{X:Cx}{pins:List (Addr×Obj)}{σ:St}{H:Hp}{s:Shared}(I:Inv X pins σ H s):∀ {n:Nat}{A:Around}{x y:V}{d:Dt}{u v:Value},Dat H n x d->Dat H n y d->RelV x u->RelV y v->A.units+n<cLine->SeqAt.EqAt A s u v true:=by
 have flat:∀ {A:Around}{x y:V}{d:Dt}{u v:Value},Dat H 0 x d->Dat H 0 y d->RelV x u->RelV y v->SeqAt.EqAt A s u v true:=by
  intro A x y d u v hx hy ru rv
  cases d with
  |non=>have ex:x = .non:=hx;have ey:y = .non:=hy;subst ex ey;cases ru;cases rv;exact SeqAt.EqAt.same _
  |bl b=>have ex:x = .bl b:=hx;have ey:y = .bl b:=hy;subst ex ey;cases ru;cases rv;exact SeqAt.EqAt.same _
  |int i =>
   have ex:x = .int i:=hx
   have ey:y = .int i:=hy
   subst ex ey
   obtain⟨t,rfl⟩:=ru
   obtain⟨t',rfl⟩:=rv
   have:=SeqAt.EqAt.int_int (A:=A) (s:=s) i t i t'
   rwa [beq_self_eq_true]at this
  |str z =>
   have ex:x = .str z:=hx
   have ey:y = .str z:=hy
   subst ex ey
   obtain⟨t,rfl⟩:=ru
   obtain⟨t',rfl⟩:=rv
   have:=SeqAt.EqAt.str_str (A:=A) (s:=s) z t z t'
   rwa [beq_self_eq_true]at this
  |lst ds=>exact(show False from hx).elim
  |tup ds=>exact(show False from hx).elim
 intro n
 induction n with
 |zero=>intro A x y d u v hx hy ru rv _;exact flat hx hy ru rv
 |succ n ih =>
  intro A x y d u v hx hy ru rv hu
  cases d with
  |non=>exact flat (d:=.non) hx hy ru rv
  |bl b=>exact flat (d:=.bl b) hx hy ru rv
  |int i=>exact flat (d:=.int i) hx hy ru rv
  |str z=>exact flat (d:=.str z) hx hy ru rv
  |lst ds =>
   obtain⟨a,xs,rfl,xl,ha,px⟩:=hx
   obtain⟨b,ys,rfl,yl,hb,py⟩:=hy
   cases ru
   cases rv
   by_cases e:a=b
   ·subst e;exact SeqAt.EqAt.same _
   ·obtain⟨its,r,pl,hz⟩:=I.list (SqL.of ha)
    obtain⟨its',r',pl',hz'⟩:=I.list (SqL.of hb)
    have l1:=r.length
    have l2:=r'.length
    have l3:xs.length=ds.length:=Paired.length px
    have l4:ys.length=ds.length:=Paired.length py
    have key:=SeqAt.RcAt.lists (A:=A) (e:=fun _=>true) pl.isList pl'.isList (by simp only[zV];exact zdh l1 l2 l3 l4) (by exact zI (zQ A.units (n+1)) hu) (fun j h1 h2=>by
     simp only[zV]at h1 h2
     have jx:j<xs.length:=by exact zh8 h1 l1
     have jy:j<ys.length:=by exact zbt l1 l2 l3 l4 h1
     obtain⟨u,e1,q1⟩:=r.get (i:=j) (x:=xs[j]) (zF jx)
     obtain⟨u',e2,q2⟩:=r'.get (i:=j) (x:=ys[j]) (zF jy)
     rw[zF h1]at e1
     rw[zF h2]at e2
     have e1:=Option.some.inj e1
     have e2:=Option.some.inj e2
     simp only[List.getElem_toArray]
     rw[e1,e2]
     exact ih (A:=A.in1) (d:=ds[j]'(by exact zh7 (zh8 h1 l1) l3)) (Paired.atV px jx (by exact zh7 (zh8 h1 l1) l3)) (Paired.atV py jy (by exact zh7 (zh8 h1 l1) l3)) q1 q2 (by show A.units+1+n<cLine;exact zch hu))
    have t:(List.range its.toArray.size).all (fun _=>true)=true:=by simp
    rw[t]at key
    exact SeqAt.EqAt.of_refs e key
  |tup ds =>
   obtain⟨a,xs,rfl,xl,ha,px⟩:=hx
   obtain⟨b,ys,rfl,yl,hb,py⟩:=hy
   cases ru
   cases rv
   by_cases e:a=b
   ·subst e;exact SeqAt.EqAt.same _
   ·obtain⟨its,r,pl,hz⟩:=I.tuple (SqT.of ha)
    obtain⟨its',r',pl',hz'⟩:=I.tuple (SqT.of hb)
    have l1:=r.length
    have l2:=r'.length
    have l3:xs.length=ds.length:=Paired.length px
    have l4:ys.length=ds.length:=Paired.length py
    have key:=SeqAt.RcAt.tuples (A:=A) (e:=fun _=>true) pl pl' (by exact zI (zQ A.units (n+1)) hu) (fun j h1 h2=>by
     simp only[zV]at h1 h2
     have jx:j<xs.length:=by exact zh8 h1 l1
     have jy:j<ys.length:=by exact zbt l1 l2 l3 l4 h1
     obtain⟨u,e1,q1⟩:=r.get (i:=j) (x:=xs[j]) (zF jx)
     obtain⟨u',e2,q2⟩:=r'.get (i:=j) (x:=ys[j]) (zF jy)
     rw[zF h1]at e1
     rw[zF h2]at e2
     have e1:=Option.some.inj e1
     have e2:=Option.some.inj e2
     simp only[List.getElem_toArray]
     rw[e1,e2]
     exact ih (A:=A.in1) (d:=ds[j]'(by exact zh7 (zh8 h1 l1) l3)) (Paired.atV px jx (by exact zh7 (zh8 h1 l1) l3)) (Paired.atV py jy (by exact zh7 (zh8 h1 l1) l3)) q1 q2 (by show A.units+1+n<cLine;exact zch hu))
    have t:((List.range (min its.toArray.size its'.toArray.size)).all (fun _=>true) && its.toArray.size == its'.toArray.size)=true:=by
     simp only[zV]
     rw[show its.length=its'.length by exact zdh l1 l2 l3 l4]
     simp
    rw[t]at key
    exact SeqAt.EqAt.of_refs e key
noncomputable def seqD:Dt->Bool
 | .lst _=>true
 | .tup _=>true
 | _=>false
inductive rSameI(b:Bool)(x:V)(y:V)(H:Hp)(Q:VK):Prop where
 |mk (n:_) (d:_) (h1:Dat H (n+1) x d) (h2:Dat H (n+1) y d) (h3:seqD d=true) (h4:n<=50) (h5:Q (.bl b) H)
noncomputable def rSame(b:Bool):R2:=fun x y H Q=>rSameI b x y H Q
section
variable{X:Cx}
theorem items_same{pins:List (Addr×Obj)}{σ:St}{H:Hp}{s:Shared}(I:Inv X pins σ H s){n:Nat}{A:Around}{xs ys:List V}{ds:List Dt}{us vs:List Value}(px:Paired (Dat H n) xs ds)(py:Paired (Dat H n) ys ds)(r:Vals xs us)(r':Vals ys vs)(hu:A.units+n<cLine) :
  ∀ j (h1:j<us.toArray.size) (h2:j<vs.toArray.size),SeqAt.EqAt A s us.toArray[j] vs.toArray[j] true:=fun j h1 h2=>by
 have l1:=r.length
 have l2:=r'.length
 have l3:xs.length=ds.length:=Paired.length px
 have l4:ys.length=ds.length:=Paired.length py
 simp only[zV]at h1 h2
 have jx:j<xs.length:=by exact zh8 h1 l1
 have jy:j<ys.length:=by exact zbt l1 l2 l3 l4 h1
 obtain⟨u,e1,q1⟩:=r.get (i:=j) (x:=xs[j]) (zF jx)
 obtain⟨u',e2,q2⟩:=r'.get (i:=j) (x:=ys[j]) (zF jy)
 rw[zF h1]at e1
 rw[zF h2]at e2
 have e1:=Option.some.inj e1
 have e2:=Option.some.inj e2
 simp only[List.getElem_toArray]
 rw[e1,e2]
 exact eq_same I (d:=ds[j]'(by exact zh7 (zh8 h1 l1) l3)) (Paired.atV px jx (by exact zh7 (zh8 h1 l1) l3)) (Paired.atV py jy (by exact zh7 (zh8 h1 l1) l3)) q1 q2 hu
theorem op_eqS(hu:X.A.units+64<cLine):OpR X (compareOp .Eq) (rSame true):=by
 intro pins s σ H x y v u Q I rx ry h
 obtain⟨n,d,hx,hy,sd,hn,q⟩:=h
 have fin:EP X pins σ Q (.bool true) s:=⟨.bl true,H,I,rfl,q⟩
 cases d with
 |lst ds =>
  obtain⟨a,xs,rfl,xl,ha,px⟩:=hx
  obtain⟨b,ys,rfl,yl,hb,py⟩:=hy
  cases rx
  cases ry
  obtain⟨its,r,pl,hz⟩:=I.list (SqL.of ha)
  obtain⟨its',r',pl',hz'⟩:=I.list (SqL.of hb)
  have l1:=r.length
  have l2:=r'.length
  have l3:xs.length=ds.length:=Paired.length px
  have l4:ys.length=ds.length:=Paired.length py
  refine SeqAt.RcAt.lists (e:=fun _=>true) pl.isList pl'.isList (by simp only[zV];exact zdh l1 l2 l3 l4) (by exact zI (zQ X.A.units 64) hu) (items_same I px py r r' (by show X.A.units+1+n<cLine;exact zbg hu hn)) _ _ _ _ ?_
  rw[show(List.range its.toArray.size).all (fun _=>true)=true by simp]
  exact fin
 |tup ds =>
  obtain⟨a,xs,rfl,xl,ha,px⟩:=hx
  obtain⟨b,ys,rfl,yl,hb,py⟩:=hy
  cases rx
  cases ry
  obtain⟨its,r,pl,hz⟩:=I.tuple (SqT.of ha)
  obtain⟨its',r',pl',hz'⟩:=I.tuple (SqT.of hb)
  have l1:=r.length
  have l2:=r'.length
  have l3:xs.length=ds.length:=Paired.length px
  have l4:ys.length=ds.length:=Paired.length py
  refine SeqAt.RcAt.tuples (e:=fun _=>true) pl pl' (by exact zI (zQ X.A.units 64) hu) (items_same I px py r r' (by show X.A.units+1+n<cLine;exact zbg hu hn)) _ _ _ _ ?_
  rw[show((List.range (min its.toArray.size its'.toArray.size)).all (fun _=>true) && its.toArray.size == its'.toArray.size)=true by simp only[zV];rw[show its.length=its'.length by exact zdh l1 l2 l3 l4];simp]
  exact fin
 |non=>cases sd
 |bl b=>cases sd
 |int i=>cases sd
 |str z=>cases sd
theorem op_neS(hu:X.A.units+64<cLine):OpR X (compareOp .NotEq) (rSame false):=by
 intro pins s σ H x y v u Q I rx ry h
 obtain⟨n,d,hx,hy,sd,hn,q⟩:=h
 have fin:EP X pins σ Q (.bool false) s:=⟨.bl false,H,I,rfl,q⟩
 cases d with
 |lst ds =>
  obtain⟨a,xs,rfl,xl,ha,px⟩:=hx
  obtain⟨b,ys,rfl,yl,hb,py⟩:=hy
  cases rx
  cases ry
  obtain⟨its,r,pl,hz⟩:=I.list (SqL.of ha)
  obtain⟨its',r',pl',hz'⟩:=I.list (SqL.of hb)
  have l1:=r.length
  have l2:=r'.length
  have l3:xs.length=ds.length:=Paired.length px
  have l4:ys.length=ds.length:=Paired.length py
  refine SeqAt.RcNeAt.lists (e:=fun _=>true) pl.isList pl'.isList (by simp only[zV];exact zdh l1 l2 l3 l4) (by exact zI (zQ X.A.units 64) hu) (items_same I px py r r' (by show X.A.units+1+n<cLine;exact zbg hu hn)) _ _ _ _ ?_
  rw[show(!(List.range its.toArray.size).all (fun _=>true))=false by simp]
  exact fin
 |tup ds =>
  obtain⟨a,xs,rfl,xl,ha,px⟩:=hx
  obtain⟨b,ys,rfl,yl,hb,py⟩:=hy
  cases rx
  cases ry
  obtain⟨its,r,pl,hz⟩:=I.tuple (SqT.of ha)
  obtain⟨its',r',pl',hz'⟩:=I.tuple (SqT.of hb)
  have l1:=r.length
  have l2:=r'.length
  have l3:xs.length=ds.length:=Paired.length px
  have l4:ys.length=ds.length:=Paired.length py
  refine SeqAt.RcNeAt.tuples (e:=fun _=>true) pl pl' (by exact zI (zQ X.A.units 64) hu) (items_same I px py r r' (by show X.A.units+1+n<cLine;exact zbg hu hn)) _ _ _ _ ?_
  rw[show(!((List.range (min its.toArray.size its'.toArray.size)).all (fun _=>true) && its.toArray.size == its'.toArray.size))=false by simp only[zV];rw[show its.length=its'.length by exact zdh l1 l2 l3 l4];simp]
  exact fin
 |non=>cases sd
 |bl b=>cases sd
 |int i=>cases sd
 |str z=>cases sd
end
theorem hu64{A:Around}{k:Nat}(hr:Room k A):A.units+64<cLine:=hr.units
open PySem PySem.Spec PyProof.Rows
section
variable{X:Cx}{elt tg iter:Expr}{ifs:List Expr}{scope:Scope}{pos:Pos}{y:Str}{N':List Str}{cap:List (Option Nat)}{wi:TI}{g:TG}{tc:TT}{te:TE}
theorem call_sortedIH:CallR X (.builtin "sorted") (fun xs H Q=>∃ (l:Addr) (ns:List Int),xs=[V.ref l]/\H l=some (.lst (ns.map V.int))/\ns.length<128/\∀ (l':Addr) (ms:List Int),H l'=none->ms.Perm ns->ms.Pairwise (·<=·)->Q (.ref l') (upd H l' (.lst (ms.map V.int)))):=by
 intro pins s σ H xs us Q I r h
 obtain⟨p,ys,rfl,hp,n0,q⟩:=h
 exact call_sortedI pins s σ H _ us Q I r ⟨p,ys,rfl,SqL.of hp,n0,q⟩
end
open PySem PySem.W PyProof.Rows
end L2
namespace Shr
structure Rel(f:Int×Int)(N D:Int):Prop where
 pos:0<f.2
 eq:f.1 * D=N * f.2
structure Is(f:Int×Int)(N D:Int):Prop extends Rel f N D where
 cop:Int.gcd f.1 f.2=1
theorem dvd_cop{a b c:Int}(h:a ∣ b * c)(g:Int.gcd b a=1):a ∣ c:=by
 rw[<- Int.natAbs_dvd_natAbs]at h ⊢
 rw[Int.natAbs_mul]at h
 refine Nat.Coprime.dvd_of_dvd_mul_left ?_ h
 show Nat.gcd a.natAbs b.natAbs=1
 rw[Nat.gcd_comm]
 exact g
theorem Is.one{f g:Int×Int}{N D:Int}(hD:0<D)(a:Is f N D)(b:Is g N D):f=g:=by
 obtain⟨x,y⟩:=f
 obtain⟨u,v⟩:=g
 have y0:0<y:=a.pos
 have v0:0<v:=b.pos
 have e1:x * D=N * y:=a.eq
 have e2:u * D=N * v:=b.eq
 have cr:x * v=u * y:=by
  refine Int.eq_of_mul_eq_mul_right (a:=D) (by exact zay hD) ?_
  calc x * v * D=x * D * v:=by rw[zCG,Int.mul_comm v D,<- zCG]
   _=N * y * v:=by rw[e1]
   _=N * v * y:=by rw[zCG,Int.mul_comm y v,<- zCG]
   _=u * D * y:=by rw[e2]
   _=u * y * D:=by rw[zCG,Int.mul_comm D y,<- zCG]
 have d1:y ∣ v:=dvd_cop (b:=x) (by rw[cr];exact Int.dvd_mul_left _ _) a.cop
 have d2:v ∣ y:=dvd_cop (b:=u) (by rw[<- cr];exact Int.dvd_mul_left _ _) b.cop
 have ey:y=v:=Int.dvd_antisymm (by exact zaq y0) (by exact zaq v0) d1 d2
 subst ey
 have:x=u:=Int.eq_of_mul_eq_mul_right (a:=y) (by exact zay y0) cr
 rw[this]
noncomputable def nf(t b:Int):Int×Int:=(t / (Int.gcd t b:Int),b / (Int.gcd t b:Int))
theorem gcd_pos{t b:Int}(hb:0<b):0<Int.gcd t b:=Int.gcd_pos_of_ne_zero_right t (by exact zay hb)
theorem nf_rel{t b N D:Int}(hb:0<b)(e:t * D=N * b):Is (nf t b) N D:=by
 have gp:=gcd_pos (t:=t) hb
 have h1:t / (Int.gcd t b:Int) * (Int.gcd t b:Int)=t:=zDI (Int.gcd_dvd_left t b)
 have h2:b / (Int.gcd t b:Int) * (Int.gcd t b:Int)=b:=zDI (Int.gcd_dvd_right t b)
 have cop:=Int.gcd_ediv_gcd_ediv_gcd gp
 refine⟨⟨?_,?_⟩,cop⟩
 ·show 0<b / (Int.gcd t b:Int)
  generalize (Int.gcd t b)=g at gp h2
  exact Int.ediv_pos_of_pos_of_dvd hb (by exact zCC g) ⟨b / (g:Int),by rw[Int.mul_comm];exact h2.symm⟩
 ·show t / (Int.gcd t b:Int) * D=N * (b / (Int.gcd t b:Int))
  generalize (t / (Int.gcd t b:Int))=x at h1
  generalize (b / (Int.gcd t b:Int))=y at h2
  generalize (Int.gcd t b)=g at gp h1 h2
  refine Int.eq_of_mul_eq_mul_right (a:=(g:Int)) (by exact zij gp) ?_
  calc x * D * g=x * g * D:=by rw[zCG,Int.mul_comm D,<- zCG]
   _=N * (y * g):=by rw[h1,h2,e]
   _=N * y * g:=by rw[zCG]
theorem Is.below{f:Int×Int}{N D:Int}(hD:0<D)(a:Is f N D):f.2<=D:=Int.le_of_dvd hD (dvd_cop (b:=f.1) (by rw[a.eq];exact Int.dvd_mul_left _ _) a.cop)
theorem gcd_step(a b:Int)(ha:0<=a)(hb:0<b):Int.gcd b (a % b)=Int.gcd a b:=by
 obtain⟨a,rfl⟩:∃ n:Nat,a=n:=⟨a.toNat,by exact zh3 ha⟩
 obtain⟨b,rfl⟩:∃ n:Nat,b=n:=⟨b.toNat,by exact zfb hb⟩
 rw[<- Int.natCast_emod]
 show Nat.gcd b (a % b)=Nat.gcd a b
 rw[Nat.gcd_comm a b,Nat.gcd_rec b a,Nat.gcd_comm]
end Shr
namespace L2
open PySem PySem.W PyProof.Rows
noncomputable def fitsB(k:Nat)(i:Int):Prop:=i.natAbs<2 ^ k
theorem fitsB.mono{j k:Nat}{i:Int}(h:fitsB j i)(l:j<=k):fitsB k i:=zE h (Nat.pow_le_pow_right (by decide) l)
theorem fitsB.mul{j k:Nat}{x y:Int}(h:fitsB j x)(h':fitsB k y):fitsB (j+k) (x * y):=by
 unfold fitsB at *
 rw[Int.natAbs_mul,Nat.pow_add]
 rcases Nat.eq_zero_or_pos x.natAbs with z | z
 ·rw[z,Nat.zero_mul]
  exact Nat.mul_pos (Nat.pow_pos (by decide)) (Nat.pow_pos (by decide))
 ·exact zE (Nat.mul_lt_mul_of_pos_left h' z) (Nat.mul_le_mul_right _ (zAA h))
theorem fitsB.add{k:Nat}{x y:Int}(h:fitsB k x)(h':fitsB k y):fitsB (k+1) (x+y):=by
 unfold fitsB at *
 have:=Int.natAbs_add_le x y
 rw[Nat.pow_succ]
 lia
theorem fitsB.le{k:Nat}{x y:Int}(h:fitsB k y)(l:x.natAbs<=y.natAbs):fitsB k x:=zI l h
theorem log2_fits{k:Nat}{i:Int}(h:fitsB k i)(k0:0<k):i.natAbs.log2<k:=by
 rcases Nat.eq_zero_or_pos i.natAbs with h0 | hp
 ·rw[h0]
  exact k0
 ·exact(Nat.log2_lt (zBO hp)).mpr h
theorem bits_fits{i:Int}(h:fitsB 8000 i):Builtin.Int.intBits i<=2 ^ 20:=by
 unfold Builtin.Int.intBits
 have:=log2_fits h (by decide)
 split
 ·exact zAW _
 ·have e:(8000:Nat)<=2 ^ 20:=by decide
  exact zn5 (zl3 this rfl)
noncomputable def CMulB(i j:Int):Prop:=fitsB 8000 i/\fitsB 8000 j
noncomputable def CDivB(i j:Int):Prop:=0<j/\fitsB 8000 j
section
variable{X:Cx}
theorem op_mulB:OpR X (binaryOp .Mult) (rI CMulB fun i j=>.int (i * j)):=opI fun _ _ _ _ _ _ _ hc q=>mul_int q (IntMulOk.of_bits (bits_fits hc.1) (bits_fits hc.2))
theorem op_fdivB:OpR X (binaryOp .FloorDiv) (rI CDivB fun i j=>.int (i / j)):=opI fun i j _ _ _ _ _ hc q=>by
 have h1:(0:Int)<j:=hc.1
 exact floordiv_int (by exact zay h1) (by rw[Int.fdiv_eq_ediv_of_nonneg i (by exact zaq h1)];exact q) (.inl (PyProof.noPylong_of_log2 (zE (log2_fits hc.2 (by decide)) (by decide))))
end
end L2
namespace Shr
open L2
noncomputable def lcmS(d u:Int):Int:=d / ((Int.gcd d u:Nat):Int) * u
theorem lcmS_left{d u:Int}(hu:0<u):d ∣ lcmS d u:=by
 have g0:=gcd_pos (t:=d) hu
 obtain⟨k,hk⟩:=Int.gcd_dvd_right d u
 have h1:d / (Int.gcd d u:Int) * (Int.gcd d u:Int)=d:=zDI (Int.gcd_dvd_left d u)
 refine⟨k,?_⟩
 unfold lcmS
 calc d / (Int.gcd d u:Int) * u=d / (Int.gcd d u:Int) * ((Int.gcd d u:Int) * k):=by rw[<- hk]
  _=d * k:=by rw[<- zCG,h1]
theorem lcmS_right(d u:Int):u ∣ lcmS d u:=⟨d / ((Int.gcd d u:Nat):Int),by unfold lcmS;rw[Int.mul_comm]⟩
theorem div_gcd_pos{d u:Int}(hd:0<d)(hu:0<u):0<d / ((Int.gcd d u:Nat):Int):=by
 have g0:=gcd_pos (t:=d) hu
 exact Int.ediv_pos_of_pos_of_dvd hd (by exact zCC (d.gcd u)) (Int.gcd_dvd_left d u)
theorem lcmS_pos{d u:Int}(hd:0<d)(hu:0<u):0<lcmS d u:=Int.mul_pos (div_gcd_pos hd hu) hu
theorem div_gcd_fits{k:Nat}{d u:Int}(hd:0<d)(hu:0<u)(h:fitsB k d):fitsB k (d / ((Int.gcd d u:Nat):Int)):=by
 have:=div_gcd_pos hd hu
 have le:d / ((Int.gcd d u:Nat):Int)<=d:=Int.ediv_le_self _ (by exact zaq hd)
 exact h.le (by exact zbj hd this le)
theorem lcmS_fits{k j:Nat}{d u:Int}(hd:0<d)(hu:0<u)(h:fitsB k d)(h':fitsB j u):fitsB (k+j) (lcmS d u):=(div_gcd_fits hd hu h).mul h'
noncomputable def lcmA(d:Int)(us:List Int):Int:=us.foldl lcmS d
theorem lcmA_snoc(d:Int)(us:List Int)(u:Int):lcmA d (us++[u])=lcmS (lcmA d us) u:=by
 unfold lcmA
 rw[List.foldl_append]
 rfl
theorem lcmA_app(d:Int)(us vs:List Int):lcmA d (us++vs)=lcmA (lcmA d us) vs:=by
 unfold lcmA
 rw[List.foldl_append]
theorem lcmA_ok{us:List Int}:∀ {d:Int},0<d->(∀ u∈us,0<u)->0<lcmA d us/\d ∣ lcmA d us/\∀ u∈us,u ∣ lcmA d us:=by
 induction us with
 |nil=>exact fun hd _=>⟨hd,Int.dvd_refl _,fun _ h=>nomatch h⟩
 |cons u us ih =>
  intro d hd h
  have hu:=h u (zT ..)
  obtain⟨a,b,c⟩:=ih (lcmS_pos hd hu) fun v hv=>h v (zY _ hv)
  refine⟨a,Int.dvd_trans (lcmS_left hu) b,fun v hv=>?_⟩
  rcases zAF.mp hv with e | hv
  ·rw[e];exact Int.dvd_trans (lcmS_right d u) b
  ·exact c v hv
noncomputable abbrev Rows:=List (List (Int×Int))
noncomputable def unders(R:Rows):List Int:=R.flatten.map (·.2)
noncomputable def dn(R:Rows):Int:=lcmA 1 (unders R)
noncomputable def tops(D:Int)(R:Rows):List (List Int):=R.map fun row=>row.map fun f=>f.1 * (D / f.2)
theorem mem_unders{R:Rows}{u:Int}:u∈unders R↔∃ row∈R,∃ f∈row,f.2=u:=by
 unfold unders
 rw[zAR]
 constructor
 ·rintro⟨f,hf,e⟩
  obtain⟨row,hr,hf⟩:=List.mem_flatten.mp hf
  exact⟨row,hr,f,hf,e⟩
 ·rintro⟨row,hr,f,hf,e⟩
  exact⟨f,List.mem_flatten.mpr ⟨row,hr,hf⟩,e⟩
theorem dn_snoc{R:Rows}{i:Nat}(h:i<R.length):dn (R.take (i+1))=lcmA (dn (R.take i)) (R[i].map (·.2)):=by
 unfold dn unders
 rw[zL h,List.flatten_append,zU,lcmA_app]
 simp
end Shr
namespace Flw
end Flw
namespace Pul
open L2 Shr
end Pul
namespace Shp
open L2 Shr
theorem lcmA_fitsK{kk:Nat}{us:List Int}:∀ {d:Int}{k:Nat},0<d->(∀ u∈us,0<u/\fitsB kk u)->fitsB k d->fitsB (k+kk * us.length) (lcmA d us):=by
 induction us with
 |nil=>exact fun _ _ h=>h
 |cons u us ih =>
  intro d k hd h f
  have hu:=h u (zT ..)
  have:=ih (lcmS_pos hd hu.1) (fun v hv=>h v (zY _ hv)) (lcmS_fits hd hu.1 f hu.2)
  rw[zBD]
  exact this.mono (by rw[Nat.mul_succ];exact zii)
structure ROk(k e:Nat)(R:Rows):Prop where
 pos:∀ row∈R,∀ f∈row,0<f.2
 below:∀ row∈R,∀ f∈row,fitsB k f.2
 top:∀ row∈R,∀ f∈row,fitsB 40 f.1
 few:k * R.flatten.length<=e
 cap:e<=7300
theorem ROk.u{k e:Nat}{R:Rows}(h:ROk k e R):∀ u∈unders R,0<u/\fitsB k u:=fun u hu=>by
 obtain⟨row,hr,f,hf,rfl⟩:=mem_unders.mp hu
 exact⟨h.pos row hr f hf,h.below row hr f hf⟩
theorem flat_take{R:Rows}{i:Nat}(h:i<R.length):(R.take i).flatten.length+R[i].length<=R.flatten.length:=by
 have e:R.flatten=(R.take (i+1)).flatten++(R.drop (i+1)).flatten:=by rw[<- List.flatten_append,zCA]
 rw[e,zAC,zL h,List.flatten_append,zAC]
 simp
theorem ROk.dn{k e:Nat}{R:Rows}(h:ROk k e R):0<dn R/\fitsB (1+k * R.flatten.length) (dn R)/\∀ row∈R,∀ f∈row,f.2 ∣ dn R:=by
 obtain⟨a,_,c⟩:=lcmA_ok (us:=unders R) (d:=1) (by decide) fun u hu=>(h.u u hu).1
 refine⟨a,?_,fun row hr f hf=>c _ (mem_unders.mpr ⟨row,hr,f,hf,rfl⟩)⟩
 have:=lcmA_fitsK (us:=unders R) (d:=1) (k:=1) (kk:=k) (by decide) h.u (by show(1:Int).natAbs<2 ^ 1;decide)
 refine this.mono ?_
 unfold unders
 rw[zB]
 exact zJ _
theorem ROk.dnE{k e:Nat}{R:Rows}(h:ROk k e R):fitsB (e+1) (Shr.dn R):=h.dn.2.1.mono (by have:=h.few;lia)
end Shp
namespace K32
open PySem L2 PyProof.Rows
structure CalF(P:Program)(w:World)(K:PySem.W.Frag)(mg:Str->Option Value)(base:Heap)(k:Nat)(x:Str)(ps:List Str)(sp:Sp)(g:Addr)(gd:FuncData):Prop where
 ok:FnOk P w K mg base CX0 k g gd ps sp
 mg:mg x=some (.ref g)
 kp:PySem.W.keepIn K (.ref g)=true
 bd:Binds K gd ps []
structure Txt2(mg:Str->Option Value):Prop where
 all:mg "all" = none
 zip:mg "zip" = none
 enum:mg "enumerate" = none
 any:mg "any" = none
 set:mg "set" = none
noncomputable abbrev scO(l:List (Str×NameKind)):Scope:={ kind:=.function,names:=l,isGenerator:=false,isCoroutine:=false }
theorem at0{x:V}{r:List V}:atI (x :: r) 0=some x:=atI_nat (j:=0) rfl
theorem at1{x y:V}{r:List V}:atI (x :: y :: r) 1=some y:=atI_nat (j:=1) rfl
noncomputable abbrev frO(f:Int×Int):HO:=.tup [.int f.1,.int f.2]
theorem gcd_stepZ(a b:Int):Int.gcd b (a % b)=Int.gcd a b:=by
 have e:b * (a / b)+a % b=a:=Int.mul_ediv_add_emod a b
 have h1:=Int.gcd_dvd_left b (a % b)
 have h2:=Int.gcd_dvd_right b (a % b)
 have h3:=Int.gcd_dvd_left a b
 have h4:=Int.gcd_dvd_right a b
 apply Nat.dvd_antisymm
 ·refine Int.dvd_gcd ?_ h1
  have:=Int.dvd_add (Int.dvd_trans h1 (Int.dvd_mul_right _ (a / b))) h2
  rw[e]at this
  exact this
 ·refine Int.dvd_gcd h4 ?_
  have:a % b=a-b * (a / b):=by exact zhi e
  rw[this]
  exact Int.dvd_sub h3 (Int.dvd_trans h4 (Int.dvd_mul_right _ _))
inductive spCdI(vs:List V)(H:Hp)(Q:VK):Prop where
 |mk (a b:Int) (h1:vs=[.int a,.int b]) (h2:0<=b) (h3:(0<=a\/0<b)) (h4:Q (.int (Int.gcd a b:Nat)) H)
noncomputable def spCd:Sp:=fun vs H Q _=>spCdI vs H Q
inductive spFrI(vs:List V)(H:Hp)(Q:VK):Prop where
 |mk (t b:Int) (h1:vs=[.int t,.int b]) (h2:0<b) (h3:fitsB 8000 b) (h4:∀ c,H c=none->Q (.ref c) (upd H c (frO (Shr.nf t b))))
noncomputable def spFr:Sp:=fun vs H Q _=>spFrI vs H Q
inductive spFcI(vs:List V)(H:Hp)(Q:VK):Prop where
 |mk (t b:Int) (h1:vs=[.int t,.int b]) (h2:0<b) (h3:fitsB 8000 b) (h4:∀ c,H c=none->Q (.ref c) (upd H c (frO (Shr.nf t b))))
noncomputable def spFc:Sp:=fun vs H Q _=>spFcI vs H Q
inductive spSdI(vs:List V)(H:Hp)(Q:VK):Prop where
 |mk (a b:Int) (h1:vs=[.int a,.int b]) (h2:0<=a) (h3:0<=b) (h4:Q (.int (Int.gcd a b:Nat)) H)
noncomputable def spSd:Sp:=fun vs H Q _=>spSdI vs H Q
inductive spLsI(vs:List V)(H:Hp)(Q:VK):Prop where
 |mk (p q:Addr) (f g:Int×Int) (h1:vs=[.ref p,.ref q]) (h2:H p=some (frO f)) (h3:H q=some (frO g)) (h4:fitsB 8000 f.1) (h5:fitsB 8000 f.2) (h6:fitsB 8000 g.1) (h7:fitsB 8000 g.2) (h8:Q (.bl (decide (f.1 * g.2<g.1 * f.2))) H)
noncomputable def spLs:Sp:=fun vs H Q _=>spLsI vs H Q
theorem gcd_fits{k:Nat}{t b:Int}(hb:0<b)(h:fitsB k b):fitsB k (Int.gcd t b:Nat):=h.le (by
 have:=Int.le_of_dvd hb (Int.gcd_dvd_right t b)
 omega)
section
variable{P:Program}{w:World}{K:PySem.W.Frag}{mg:Str->Option Value}{base:Heap}
noncomputable abbrev nCd:List Str:=["one","other"]
theorem scCd:FnScope nCd ["one","other"] (defScope sCommonDivisor):=⟨rfl,rfl,rfl,by decide +kernel,rfl,by decide +kernel,by decide +kernel⟩
theorem ok_cd{f:Addr}{fd:FuncData}(F:Fun K "common_divisor" "common_divisor" sCommonDivisor f fd)(T:Txt mg):FnOk P w K mg base CX0 1 f fd ["one","other"] spCd:=by
 refine F.ok scCd (fun vs H Q E h=>?_) (fun cdv A outer s H vs Q E hr h=>?_)
 ·obtain⟨a,b,rfl,_⟩:=h
  rfl
 ·obtain⟨a,b,rfl,b0,a0,fin⟩:=h
  refine⟨_,(pss_cons (ps_while PassesOwn.never (pt_cmpR op_ne (pvQ 1) pe_int (nomark _)) (pss_one (ps_par (i:=0) (j:=1) rfl scCd.nd rfl rfl (by decide) rfl rfl (@pa_nam _ _ _ _ _ _ (pvQ 1) (@pa_bin _ _ _ _ _ _ _ _ (pe_op op_mod (pvQ 0) (pvQ 1)) pa_nil)) rfl)))
   (pss_one (ps_ret (pe_callB call_abs (by rfl) T.abs boot_abs (@pa_nam _ _ _ _ _ _ (pvQ 0) pa_nil))))),?_⟩
  refine⟨fun m σ G=>∃ x y:Int,σ=[some (.int x),some (.int y)]/\m=y.toNat/\0<=y/\(0<=x\/0<y)/\Int.gcd x y=Int.gcd a b/\G=H,⟨_,a,b,rfl,rfl,b0,a0,rfl,rfl⟩,?_⟩
  rintro m σ G ⟨x,y,rfl,rfl,y0,x0,e,rfl⟩
  refine⟨rfl,_,rfl,ite2 (fun hc=>?_) (fun hc=>?_)⟩
  ·have hc:0<y:=by
    by_cases z:y=0
    ·subst z;simp at hc
    ·exact zhv y0 z
   refine⟨fun σ' G'=>∃ m',m'<y.toNat/\∃ x y:Int,σ'=[some (.int x),some (.int y)]/\m'=y.toNat/\0<=y/\(0<=x\/0<y)/\Int.gcd x y=Int.gcd a b/\G'=G,fun _ _ z=>z,?_⟩
   have m0:=Int.emod_nonneg x (show y≠0 by exact zay hc)
   have m1:=zDC x hc
   refine⟨_,_,rfl,rfl,hc,_,_,rfl,?_⟩
   exact⟨_,by exact zbo hc m1,y,x % y,rfl,rfl,m0,.inl y0,by rw[gcd_stepZ];exact e,rfl⟩
  ·have hc:y=0:=by simpa using hc
   subst hc
   rw[Int.gcd_zero_right]at e
   refine⟨_,rfl,?_⟩
   rw[if_neg (by lia)]
   rw[<- e,show((x.natAbs:Nat):Int)=x by lia]at fin
   exact fin
noncomputable abbrev nFr:List Str:=["top","below","shared"]
theorem scFr:FnScope nFr ["top","below"] (defScope sFraction):=⟨rfl,rfl,rfl,by decide +kernel,rfl,by decide +kernel,by decide +kernel⟩
theorem ok_fr{f g:Addr}{fd gd:FuncData}(F:Fun K "fraction" "fraction" sFraction f fd)(GC:CalF P w K mg base 1 "common_divisor" ["one","other"] spCd g gd):FnOk P w K mg base CX0 2 f fd ["top","below"] spFr:=by
 refine F.ok scFr (fun vs H Q E h=>?_) (fun cdv A outer s H vs Q E hr h=>?_)
 ·obtain⟨a,b,rfl,_⟩:=h
  rfl
 ·obtain⟨t,b,rfl,b0,fb,fin⟩:=h
  refine⟨_,(pss_cons (ps_set (i:=2) scFr.nd rfl (Or.inl rfl) (pe_call GC.ok hr rfl GC.mg GC.kp GC.bd .nil pass0 (@pa_nam _ _ _ _ _ _ (pvQ 0) (@pa_nam _ _ _ _ _ _ (pvQ 1) pa_nil))))
   (pss_one (ps_ret (@pe_tup _ _ _ _ _ (@pa_bin _ _ _ _ _ _ _ _ (pe_op op_fdivB (pvQ 0) (pvQ 2)) (@pa_bin _ _ _ _ _ _ _ _ (pe_op op_fdivB (pvQ 1) (pvQ 2)) pa_nil)))))),?_⟩
  have gp:(0:Int) <(Int.gcd t b:Nat):=by have:=Shr.gcd_pos (t:=t) b0;lia
  have gf:=gcd_fits (t:=t) b0 fb
  refine⟨t,b,rfl,by exact zaq b0,.inr b0,?_⟩
  refine⟨_,_,rfl,rfl,⟨gp,gf⟩,_,_,rfl,rfl,⟨gp,gf⟩,(by show 2<=sizeLine;decide),fun c hc=>?_⟩
  exact fin c hc
noncomputable abbrev nSd:List Str:=["_law_one","_law_other"]
theorem scSd:FnScope nSd ["_law_one","_law_other"] (defScope sShared):=⟨rfl,rfl,rfl,by decide +kernel,rfl,by decide +kernel,by decide +kernel⟩
theorem ok_sd{f:Addr}{fd:FuncData}(F:Fun K "_law_shared" "_law_shared" sShared f fd):FnOk P w K mg base CX0 1 f fd ["_law_one","_law_other"] spSd:=by
 refine F.ok scSd (fun vs H Q E h=>?_) (fun cdv A outer s H vs Q E hr h=>?_)
 ·obtain⟨a,b,rfl,_⟩:=h
  rfl
 ·obtain⟨a,b,rfl,a0,b0,fin⟩:=h
  refine⟨_,(pss_cons (ps_while PassesOwn.never (pt_cmpR op_gt (pvQ 1) pe_int (nomark _)) (pss_one (ps_par (i:=0) (j:=1) rfl scSd.nd rfl rfl (by decide) rfl rfl (@pa_nam _ _ _ _ _ _ (pvQ 1) (@pa_bin _ _ _ _ _ _ _ _ (pe_op op_mod (pvQ 0) (pvQ 1)) pa_nil)) rfl)))
   (pss_one (ps_ret (pvQ 0)))),?_⟩
  refine⟨fun m σ G=>∃ x y:Int,σ=[some (.int x),some (.int y)]/\m=y.toNat/\0<=x/\0<=y/\Int.gcd x y=Int.gcd a b/\G=H,⟨_,a,b,rfl,rfl,a0,b0,rfl,rfl⟩,?_⟩
  rintro m σ G ⟨x,y,rfl,rfl,x0,y0,e,rfl⟩
  refine⟨_,_,rfl,rfl,_,rfl,ite2 (fun hc=>?_) (fun hc=>?_)⟩
  ·have hc:0<y:=of_decide_eq_true hc
   refine⟨fun σ' G'=>∃ m',m'<y.toNat/\∃ x y:Int,σ'=[some (.int x),some (.int y)]/\m'=y.toNat/\0<=x/\0<=y/\Int.gcd x y=Int.gcd a b/\G'=G,fun _ _ z=>z,?_⟩
   have m0:=Int.emod_nonneg x (show y≠0 by lia)
   have m1:=zDC x hc
   refine⟨_,_,rfl,rfl,hc,_,_,rfl,?_⟩
   exact⟨_,by lia,y,x % y,rfl,rfl,y0,m0,by rw[Shr.gcd_step x y x0 hc];exact e,rfl⟩
  ·have hc:y=0:=by
    have:¬ 0<y:=fun z=>hc (decide_eq_true z)
    lia
   subst hc
   rw[Int.gcd_zero_right]at e
   rw[<- e,show((x.natAbs:Nat):Int)=x by lia]at fin
   exact fin
noncomputable abbrev nFc:List Str:=["_law_top","_law_below","_law_by"]
theorem scFc:FnScope nFc ["_law_top","_law_below"] (defScope sFrac):=⟨rfl,rfl,rfl,by decide +kernel,rfl,by decide +kernel,by decide +kernel⟩
theorem ok_fc{f g:Addr}{fd gd:FuncData}(F:Fun K "_law_frac" "_law_frac" sFrac f fd)(T:Txt mg)(GC:CalF P w K mg base 1 "_law_shared" ["_law_one","_law_other"] spSd g gd):FnOk P w K mg base CX0 2 f fd ["_law_top","_law_below"] spFc:=by
 refine F.ok scFc (fun vs H Q E h=>?_) (fun cdv A outer s H vs Q E hr h=>?_)
 ·obtain⟨a,b,rfl,_⟩:=h
  rfl
 ·obtain⟨t,b,rfl,b0,fb,fin⟩:=h
  refine⟨_,(pss_cons (ps_set (i:=2) scFc.nd rfl (Or.inl rfl) (pe_call GC.ok hr rfl GC.mg GC.kp GC.bd .nil pass0 (@pa_call _ _ _ _ _ _ _ _ (pe_callB call_abs (by rfl) T.abs boot_abs (@pa_nam _ _ _ _ _ _ (pvQ 0) pa_nil)) (@pa_nam _ _ _ _ _ _ (pvQ 1) pa_nil))))
   (pss_one (ps_ret (@pe_tup _ _ _ _ _ (@pa_bin _ _ _ _ _ _ _ _ (pe_op op_fdivB (pvQ 0) (pvQ 2)) (@pa_bin _ _ _ _ _ _ _ _ (pe_op op_fdivB (pvQ 1) (pvQ 2)) pa_nil)))))),?_⟩
  have gp:(0:Int) <(Int.gcd t b:Nat):=by have:=Shr.gcd_pos (t:=t) b0;lia
  have gf:=gcd_fits (t:=t) b0 fb
  refine⟨_,rfl,_,b,rfl,by split <;> lia,by exact zaq b0,?_⟩
  have eg:Int.gcd (if t<0 then -t else t) b=Int.gcd t b:=by
   split
   ·exact Int.neg_gcd
   ·rfl
  rw[eg]
  refine⟨_,_,rfl,rfl,⟨gp,gf⟩,_,_,rfl,rfl,⟨gp,gf⟩,(by show 2<=sizeLine;decide),fun c hc=>?_⟩
  exact fin c hc
noncomputable abbrev nLs:List Str:=["_law_one","_law_other"]
theorem scLs:FnScope nLs ["_law_one","_law_other"] (defScope sLess):=⟨rfl,rfl,rfl,by decide +kernel,rfl,by decide +kernel,by decide +kernel⟩
theorem ok_ls{f:Addr}{fd:FuncData}(F:Fun K "_law_less" "_law_less" sLess f fd):FnOk P w K mg base CX0 1 f fd ["_law_one","_law_other"] spLs:=by
 refine F.ok scLs (fun vs H Q E h=>?_) (fun cdv A outer s H vs Q E hr h=>?_)
 ·obtain⟨p,q,x,y,rfl,_⟩:=h
  rfl
 ·obtain⟨p,q,⟨x,y⟩,⟨u,v⟩,rfl,hp,hq,fx,fy,fu,fv,fin⟩:=h
  refine⟨_,(pss_one (ps_ret (pe_cmpR op_lt (pe_op op_mulB (@pe_ix _ _ _ _ _ _ _ ix_tupH (pvQ 0) pe_int (fun _ _=>rfl)) (@pe_ix _ _ _ _ _ _ _ ix_tupH (pvQ 1) pe_int (fun _ _=>rfl))) (pe_op op_mulB (@pe_ix _ _ _ _ _ _ _ ix_tupH (pvQ 1) pe_int (fun _ _=>rfl)) (@pe_ix _ _ _ _ _ _ _ ix_tupH (pvQ 0) pe_int (fun _ _=>rfl))) (nomark _)))),?_⟩
  refine⟨p,_,_,_,rfl,rfl,hp,at0,q,_,_,_,rfl,rfl,hq,at1,_,_,rfl,rfl,⟨fx,fv⟩,?_⟩
  refine⟨q,_,_,_,rfl,rfl,hq,at0,p,_,_,_,rfl,rfl,hp,at1,_,_,rfl,rfl,⟨fu,fy⟩,_,_,rfl,rfl,?_⟩
  exact fin
end
end K32
namespace Rnd
noncomputable abbrev Fr:=Int×Int
noncomputable def ltF(f g:Fr):Bool:=decide (f.1 * g.2<g.1 * f.2)
structure Lo(f:Fr):Prop where
 pos:0<f.2
 cop:Int.gcd f.1 f.2=1
theorem ltF_irrefl(f:Fr):ltF f f=false:=by unfold ltF;simp
theorem ltF_iff{f g:Fr}:ltF f g=true↔f.1 * g.2<g.1 * f.2:=by unfold ltF;simp
noncomputable def uq(U:List Fr)(f:Fr):List Fr:=if 0<f.1/\f∉U then U++[f]else U
noncomputable def uqs(fs:List Fr):List Fr:=fs.foldl uq []
theorem uqs_snoc(fs:List Fr)(f:Fr):uqs (fs++[f])=uq (uqs fs) f:=by unfold uqs;rw[List.foldl_append];rfl
theorem uq_mem(U:List Fr)(f g:Fr):g∈uq U f↔g∈U\/(g=f/\0<f.1):=by
 unfold uq
 split
 ·rename_i h
  rw[zAD,zZ]
  constructor
  ·rintro(a | a)
   ·exact .inl a
   ·exact .inr ⟨a,h.1⟩
  ·rintro(a | a)
   ·exact .inl a
   ·exact .inr a.1
 ·rename_i h
  constructor
  ·exact .inl
  ·rintro(a |⟨e,p⟩)
   ·exact a
   ·subst e
    by_cases z:g∈U
    ·exact z
    ·exact absurd ⟨p,z⟩ h
theorem uq_nodup{U:List Fr}(f:Fr)(h:U.Nodup):(uq U f).Nodup:=by
 unfold uq
 split
 ·rename_i c
  rw[List.nodup_append]
  refine⟨h,by simp,fun a ha b hb=>?_⟩
  rw[zZ.mp hb]
  exact fun e=>c.2 (e▸ha)
 ·exact h
theorem foldl_mem:∀ (fs U:List Fr) (g:Fr),g∈fs.foldl uq U↔g∈U\/(g∈fs/\0<g.1)
 |[],U,g=>by simp
 |f :: fs,U,g=>by
  rw[List.foldl_cons,foldl_mem fs,uq_mem,zAF]
  constructor
  ·rintro((a |⟨a,b⟩) |⟨a,b⟩)
   ·exact .inl a
   ·exact .inr ⟨.inl a,a▸b⟩
   ·exact .inr ⟨.inr a,b⟩
  ·rintro(a |⟨a | a,b⟩)
   ·exact .inl (.inl a)
   ·exact .inl (.inr ⟨a,a▸b⟩)
   ·exact .inr ⟨a,b⟩
theorem foldl_nodup:∀ (fs U:List Fr),U.Nodup->(fs.foldl uq U).Nodup
 |[],_,h=>h
 |f :: fs,U,h=>foldl_nodup fs _ (uq_nodup f h)
theorem foldl_len:∀ (fs U:List Fr),(fs.foldl uq U).length<=U.length+fs.length
 |[],U=>by simp
 |f :: fs,U=>by
  have h:=foldl_len fs (uq U f)
  have h2:(uq U f).length<=U.length+1:=by unfold uq;split <;> simp
  rw[List.foldl_cons,zBD]
  lia
theorem uqs_mem(fs:List Fr)(g:Fr):g∈uqs fs↔g∈fs/\0<g.1:=by unfold uqs;rw[foldl_mem];simp
theorem uqs_nodup(fs:List Fr):(uqs fs).Nodup:=foldl_nodup fs [] (by simp)
theorem uqs_len(fs:List Fr):(uqs fs).length<=fs.length:=by
 unfold uqs
 have:=foldl_len fs []
 simpa using this
theorem top_lt{D:Int}{f g:Fr}(D0:0<D)(pf:0<f.2)(pg:0<g.2)(df:f.2 ∣ D)(dg:g.2 ∣ D):(f.1 * (D / f.2)<g.1 * (D / g.2))↔ltF f g=true:=by
 obtain⟨a,ha⟩:=df
 obtain⟨b,hb⟩:=dg
 have e1:D / f.2=a:=by rw[ha];exact Int.mul_ediv_cancel_left a (by exact zay pf)
 have e2:D / g.2=b:=by rw[hb];exact Int.mul_ediv_cancel_left b (by exact zay pg)
 rw[e1,e2,ltF_iff]
 have q1:f.1 * a * (f.2 * g.2)=f.1 * g.2 * D:=by rw[ha];ac_rfl
 have q2:g.1 * b * (f.2 * g.2)=g.1 * f.2 * D:=by rw[hb];ac_rfl
 have pp:0<f.2 * g.2:=Int.mul_pos pf pg
 constructor
 ·intro h
  have:=Int.mul_lt_mul_of_pos_right h pp
  rw[q1,q2]at this
  exact Int.lt_of_mul_lt_mul_right this (zBS D0)
 ·intro h
  have:=Int.mul_lt_mul_of_pos_right h D0
  rw[<- q1,<- q2]at this
  exact Int.lt_of_mul_lt_mul_right this (zBS pp)
noncomputable def tkr(row:List Fr)(t:Fr):List Int->Int
 |[]=>0
 |[a]=>a
 |a :: b :: r=>if ltF (row.getD a.toNat (0,1)) t=true then tkr row t (b :: r)else a
theorem tkr_mem(row:List Fr)(t:Fr):∀ {od:List Int},od≠[]->tkr row t od∈od
 |[],h=>absurd rfl h
 |[a],_=>zT
 |a :: b :: r,_=>by
  unfold tkr
  split
  ·exact zY _ (tkr_mem row t (by simp))
  ·exact zT
theorem tkr_all{row:List Fr}{t:Fr}:∀ {pre:List Int}{z:Int},(∀ a∈pre,ltF (row.getD a.toNat (0,1)) t=true)->tkr row t (pre++[z])=z
 |[],z,_=>rfl
 |a :: pre,z,h=>by
  have e:tkr row t (a :: (pre++[z]))=if ltF (row.getD a.toNat (0,1)) t=true then tkr row t (pre++[z])else a:=by
   cases pre with
   |nil=>rfl
   |cons b pre=>rfl
  rw[List.cons_append,e,if_pos (h a (zT ..)),tkr_all fun b hb=>h b (zY _ hb)]
theorem tkr_at{row:List Fr}{t:Fr}:∀ {pre:List Int}{a z:Int}{r:List Int},(∀ b∈pre,ltF (row.getD b.toNat (0,1)) t=true)->ltF (row.getD a.toNat (0,1)) t=false->tkr row t (pre++a :: (r++[z]))=a
 |[],a,z,r,_,h=>by
  have e:tkr row t (a :: (r++[z]))=if ltF (row.getD a.toNat (0,1)) t=true then tkr row t (r++[z])else a:=by
   cases r with
   |nil=>rfl
   |cons b r=>rfl
  rw[List.nil_append,e,if_neg (by rw[h];exact zW)]
 |b :: pre,a,z,r,h,h'=>by
  have e:tkr row t (b :: (pre++a :: (r++[z])))=if ltF (row.getD b.toNat (0,1)) t=true then tkr row t (pre++a :: (r++[z]))else b:=by
   cases pre with
   |nil=>rfl
   |cons c pre=>rfl
  rw[List.cons_append,e,if_pos (h b (zT ..)),tkr_at (fun c hc=>h c (zY _ hc)) h']
end Rnd
namespace K32
open PySem L2 PyProof.Rows
theorem for_seq{K:PySem.W.Frag}{a:Addr}{xs:List V}{g:TG}{tb:TS}{D:Ends}{σ:L2.St}{H:Hp}(b:Bool)(Pv:Nat->L2.St->Hp->Prop)(h0:Pv 0 σ H)(hl:∀ i σ H,i<=xs.length->Pv i σ H->SqB b K H a xs)
  (hs:∀ i x σ H,xs[i]?=some x->Pv i σ H->g x σ H fun σ2 H2=>tb { D with nx:=Pv (i+1),ct:=Pv (i+1),bk:=D.nx } σ2 H2) (hd:∀ σ H,Pv xs.length σ H->D.nx σ H) :
  ∃ W:Nat->Nat->L2.St->Hp->Prop,(∃ m,W 0 m σ H)/\∀ i m σ H,W i m σ H ->
   ((ItB b K a).stop i H/\D.nx σ H)\/((ItB b K a).go i H/\∃ N:L2.St->Hp->Prop,(∀ σ' H',N σ' H'->∃ m',m'<m/\W (i+1) m' σ' H')/\∀ x H',(ItB b K a).yld i H x H'->g x σ H' fun σ2 H2=>tb { D with nx:=N,ct:=N,bk:=D.nx } σ2 H2):=by
 cases b
 ·exact for_list Pv h0 hl hs hd
 ·exact for_tup Pv h0 hl hs hd
theorem sqB_of{b:Bool}{K:PySem.W.Frag}{H:Hp}{a:Addr}{xs:List V}(h:H a=some (sqO b xs)):SqB b K H a xs:=by
 cases b
 ·exact SqL.of h
 ·exact SqT.of h
noncomputable def RowAt(H:Hp)(b:Bool)(a:Addr)(row:List (Int×Int)):Prop:=∃ cs:List Addr,H a=some (sqO b (cs.map V.ref))/\Paired (fun c f=>H c=some (frO f)) cs row
noncomputable def RowsAt(H:Hp)(b:Bool)(o:Addr)(R:Shr.Rows):Prop:=∃ as:List Addr,H o=some (sqO b (as.map V.ref))/\Paired (RowAt H b) as R
theorem RowAt.same{H H':Hp}{b:Bool}{a:Addr}{row:List (Int×Int)}(h:RowAt H b a row)(s:Same H H'):RowAt H' b a row:=by
 obtain⟨cs,h1,h2⟩:=h
 exact⟨cs,s _ _ h1,Paired.mapP h2 fun _ _ z=>s _ _ z⟩
theorem RowsAt.same{H H':Hp}{b:Bool}{o:Addr}{R:Shr.Rows}(h:RowsAt H b o R)(s:Same H H'):RowsAt H' b o R:=by
 obtain⟨as,h1,h2⟩:=h
 exact⟨as,s _ _ h1,Paired.mapP h2 fun _ _ z=>z.same s⟩
noncomputable def IntsAt(H:Hp)(as:List Addr)(Ls:List (List Int)):Prop:=Paired (fun a (L:List Int)=>H a=some (.lst (L.map V.int))) as Ls
theorem IntsAt.same{H H':Hp}{as:List Addr}{Ls:List (List Int)}(h:IntsAt H as Ls)(s:Same H H'):IntsAt H' as Ls:=Paired.mapP h fun _ _ z=>s _ _ z
theorem PairedApp{α β:Type}{F:α->β->Prop}{a a':List α}{b b':List β}(h:Paired F a b)(h':Paired F a' b'):Paired F (a++a') (b++b'):=by
 induction h with
 |nil=>exact h'
 |cons r _ ih=>exact .cons r ih
noncomputable def FrK(K:PySem.W.Frag)(H:Hp)(c:Addr)(f:Int×Int):Prop:=SqT K H c [.int f.1,.int f.2]
noncomputable def RowK(K:PySem.W.Frag)(H:Hp)(b:Bool)(a:Addr)(row:List (Int×Int)):Prop:=∃ cs:List Addr,H a=some (sqO b (cs.map V.ref))/\Paired (FrK K H) cs row
noncomputable def RowsK(K:PySem.W.Frag)(H:Hp)(b:Bool)(o:Addr)(R:Shr.Rows):Prop:=∃ as:List Addr,H o=some (sqO b (as.map V.ref))/\Paired (RowK K H b) as R
theorem RowK.same{K:PySem.W.Frag}{H H':Hp}{b:Bool}{a:Addr}{row:List (Int×Int)}(h:RowK K H b a row)(s:Same H H'):RowK K H' b a row:=by
 obtain⟨cs,h1,h2⟩:=h
 exact⟨cs,s _ _ h1,Paired.mapP h2 fun _ _ z=>s.tupq z⟩
theorem RowAt.k{K:PySem.W.Frag}{H:Hp}{b:Bool}{a:Addr}{row:List (Int×Int)}(h:RowAt H b a row):RowK K H b a row:=by
 obtain⟨cs,h1,h2⟩:=h
 exact⟨cs,h1,Paired.mapP h2 fun _ _ z=>SqT.of z⟩
theorem RowsAt.k{K:PySem.W.Frag}{H:Hp}{b:Bool}{o:Addr}{R:Shr.Rows}(h:RowsAt H b o R):RowsK K H b o R:=by
 obtain⟨as,h1,h2⟩:=h
 exact⟨as,h1,Paired.mapP h2 fun _ _ z=>z.k⟩
structure BOk(R:Shr.Rows):Prop where
 ex:∃ D:Int,0<D/\fitsB 7301 D/\∀ row∈R,∀ f∈row,0<f.2/\f.2 ∣ D/\fitsB 7301 f.1
theorem lcmS_dvd{d u D:Int}(hu:0<u)(h1:d ∣ D)(h2:u ∣ D):Shr.lcmS d u ∣ D:=by
 unfold Shr.lcmS
 have g0:=Shr.gcd_pos (t:=d) hu
 have e:=Int.gcd_mul_lcm d u
 have h:Int.lcm d u ∣ D.natAbs:=Nat.lcm_dvd (Int.natAbs_dvd_natAbs.mpr h1) (Int.natAbs_dvd_natAbs.mpr h2)
 have k:(d / ((Int.gcd d u:Nat):Int) * u).natAbs=Int.lcm d u:=by
  have h3:d / ((Int.gcd d u:Nat):Int) * ((Int.gcd d u:Nat):Int)=d:=zDI (Int.gcd_dvd_left d u)
  have h4:(d / ((Int.gcd d u:Nat):Int) * u).natAbs * Int.gcd d u=(d * u).natAbs:=by
   have:d * u=(d / ((Int.gcd d u:Nat):Int) * u) * ((Int.gcd d u:Nat):Int):=by
    rw[zCG,Int.mul_comm u,<- zCG,h3]
   rw[this,Int.natAbs_mul _ ((Int.gcd d u:Nat):Int),Int.natAbs_natCast]
  rw[Int.natAbs_mul d u,<- e,Nat.mul_comm]at h4
  exact Nat.eq_of_mul_eq_mul_left g0 h4
 exact Int.natAbs_dvd_natAbs.mp (by rw[k];exact h)
theorem lcmA_dvd{D:Int}:∀ {us:List Int}{d:Int},d ∣ D->(∀ u∈us,0<u/\u ∣ D)->Shr.lcmA d us ∣ D
 |[],_,h,_=>h
 |u :: us,d,h,g=>lcmA_dvd (us:=us) (lcmS_dvd (g u (zT ..)).1 h (g u (zT ..)).2) fun v hv=>g v (zY _ hv)
theorem fits_dvd{k:Nat}{d D:Int}(h0:0<D)(hd:0<d)(h:d ∣ D)(f:fitsB k D):fitsB k d:=by
 have f:D.natAbs<2 ^ k:=f
 show d.natAbs<2 ^ k
 have:=Int.le_of_dvd h0 h
 have:d.natAbs<=D.natAbs:=by exact zbj h0 hd this
 exact zI this f
theorem bok_of{k e:Nat}{R:Shr.Rows}(h:Shp.ROk k e R):BOk R:=⟨_,h.dn.1,h.dnE.mono (by have:=h.cap;exact zn5 (zl2 this rfl)),fun row hr f hf=>⟨h.pos row hr f hf,h.dn.2.2 row hr f hf,(h.top row hr f hf).mono (by decide)⟩⟩
inductive spOoI(K:PySem.W.Frag)(vs:List V)(H:Hp)(Q:VK):Prop where
 |mk (o:Addr) (b:Bool) (R:Shr.Rows) (h1:vs=[.ref o]) (h2:RowsK K H b o R) (h3:BOk R) (h4:R.length<=1000) (h5:(∀ row∈R,row.length<=1000)) (h6:∀ (t l:Addr) (as:List Addr) (H':Hp),H' t=some (.tup [.int (Shr.dn R),.ref l])->H' l=some (.lst (as.map V.ref))->IntsAt H' as (Shr.tops (Shr.dn R) R)->Same H H'->Q (.ref t) H')
noncomputable def spOo(K:PySem.W.Frag):Sp:=fun vs H Q _=>spOoI K vs H Q
section
variable{P:Program}{w:World}{K:PySem.W.Frag}{mg:Str->Option Value}{base:Heap}{b:Bool}
noncomputable abbrev nOo:List Str:=["rows","below","row","top","under"]
theorem scOo:FnScope nOo ["rows"] (defScope sOverOne):=⟨rfl,rfl,rfl,by decide +kernel,rfl,by decide +kernel,by decide +kernel⟩
theorem csOo1:CompScope ["row","below"] [none,some 1] nOo (defScope sOverOne) (scO [(".0",.local),("row",.local),("below",.free)]):=⟨rfl,by decide +kernel,by decide +kernel,by decide +kernel,rfl,capB_ok (by decide +kernel)⟩
theorem ndOo1:(["row","below"]:List Str).Nodup:=by decide +kernel
theorem csOo2:CompScope ["top","under","below"] [none,none,some 1] ["row","below"] (scO [(".0",.local),("row",.local),("below",.cell)]) (scO [(".0",.local),("top",.local),("under",.local),("below",.free)]):=⟨rfl,by decide +kernel,by decide +kernel,by decide +kernel,rfl,capB_ok (by decide +kernel)⟩
theorem ndOo2:(["top","under","below"]:List Str).Nodup:=by decide +kernel
noncomputable abbrev teOo2(K:PySem.W.Frag)(b:Bool):TE:=tComp [none,none,some 1] (iSeq b K (tVq 0)) (gTup K 2 (gCons (gName 0) (gCons (gName 1) gNil))) tTru (tOp (rI CMulB fun i j=>.int (i * j)) (tVq 0) (tOp (rI CDivB fun i j=>.int (i / j)) (tVq 2) (tVq 1)))
theorem ok_oo{f g:Addr}{fd gd:FuncData}(F:Fun K "over_one" "over_one" sOverOne f fd)(GC:CalF P w K mg base 1 "common_divisor" ["one","other"] spCd g gd):FnOk P w K mg base CX0 2 f fd ["rows"] (spOo K):=by
 refine F.ok scOo (fun vs H Q E h=>?_) (fun cdv A outer s H vs Q E hr h=>?_)
 ·obtain⟨o,b,R,rfl,_⟩:=h
  rfl
 ·obtain⟨o,b,R,rfl,⟨as,ho,hR⟩,⟨Dx,Dx0,Dxf,ok⟩,rl,rwl,fin⟩:=h
  have al:as.length=R.length:=hR.length
  have dnd:∀ {S:Shr.Rows},(∀ row∈S,row∈R)->0<Shr.dn S/\Shr.dn S ∣ Dx:=fun {S} hS=>by
   have hu:∀ u∈Shr.unders S,0<u/\u ∣ Dx:=fun u hu=>by
    obtain⟨row,hr,f,hf,rfl⟩:=Shr.mem_unders.mp hu
    exact⟨(ok row (hS row hr) f hf).1,(ok row (hS row hr) f hf).2.1⟩
   exact⟨(Shr.lcmA_ok (us:=Shr.unders S) (d:=1) (by decide) fun u h=>(hu u h).1).1,lcmA_dvd ⟨Dx,by lia⟩ hu⟩
  obtain⟨D0,DD0⟩:=dnd (S:=R) fun _ h=>h
  have DF:fitsB 7301 (Shr.dn R):=fits_dvd Dx0 D0 DD0 Dxf
  refine⟨_,(pss_cons (ps_set (i:=1) scOo.nd rfl (Or.inr rfl) pe_int)
   (pss_cons (ps_for PassesOwn.never rfl (pi_seq b (pvQ 0)) (pg_name (i:=2) scOo.nd rfl (Or.inl rfl))
   (pss_one (ps_for PassesOwn.never rfl (pi_seq b (pvQ 2)) (pg_tup (n:=2) rfl (pgs_cons (pg_name (i:=3) scOo.nd rfl (Or.inl rfl)) (pgs_cons (pg_name (i:=4) scOo.nd rfl (Or.inl rfl)) pgs_nil)))
   (pss_one (ps_set (i:=1) scOo.nd rfl (Or.inr rfl) (pe_op op_mulB (pe_op op_fdivB (pvQ 1) (pe_call GC.ok hr rfl GC.mg GC.kp GC.bd .nil pass0 (@pa_nam _ _ _ _ _ _ (pvQ 1) (@pa_nam _ _ _ _ _ _ (pvQ 4) pa_nil)))) (pvQ 4)))))))
   (pss_one (ps_ret (@pe_tup _ _ _ _ _ (@pa_nam _ _ _ _ _ _ (pvQ 1) (@pa_comp _ _ _ _ _ _ _ _ (pe_comp rfl csOo1 (pi_seq b (pvQ 0)) (fun C s H fp=>(pg_name (i:=0) ndOo1 rfl (Or.inl rfl))) (fun C s H fp=>pf_nil) (fun C s H fp=>(show PE _ _ (teOo2 K b)from pe_comp rfl csOo2 (pi_seq b (pvQ 0)) (fun C s H fp=>(pg_tupK K rfl (n:=2) rfl (pgs_cons (pg_name (i:=0) ndOo2 rfl (Or.inl rfl)) (pgs_cons (pg_name (i:=1) ndOo2 rfl (Or.inl rfl)) pgs_nil)) rfl rfl)) (fun C s H fp=>pf_nil) (fun C s H fp=>(pe_op op_mulB (pvQ 0) (pe_op op_fdivB (pvQ 2) (pvQ 1))))))) pa_nil))))))),?_⟩
  refine⟨o,rfl,⟨_,sqB_of ho⟩,?_⟩
  refine for_seq (K:=K) (a:=o) (xs:=as.map V.ref) b (fun i σ G=>∃ v2 v3 v4:Option V,σ=[some (.ref o),some (.int (Shr.dn (R.take i))),v2,v3,v4]/\G=H) ⟨_,_,_,rfl,rfl⟩ (fun i σ G _ z=>by obtain⟨_,_,_,_,rfl⟩:=z;exact sqB_of ho) ?_ ?_
  ·rintro i x σ G hx ⟨v2,v3,v4,rfl,rfl⟩
   obtain⟨il,e⟩:=zH.mp hx
   rw[zB]at il
   rw[zO]at e
   subst e
   have iR:i<R.length:=by exact zh7 il al
   obtain⟨cs,hc,hrow⟩:=Paired.at hR i il iR
   have cl:cs.length=R[i].length:=hrow.length
   obtain⟨d0,dd⟩:=dnd (S:=R.take i) fun _ h=>List.mem_of_mem_take h
   have okr:∀ f∈R[i],0<f.2/\f.2 ∣ Dx:=fun f hf=>⟨(ok _ (zX iR) f hf).1,(ok _ (zX iR) f hf).2.1⟩
   refine⟨as[i],rfl,⟨_,sqB_of hc⟩,?_⟩
   refine for_seq (K:=K) (a:=as[i]) (xs:=cs.map V.ref) b (fun j σ G'=>∃ v3 v4:Option V,σ=[some (.ref o),some (.int (Shr.lcmA (Shr.dn (R.take i)) ((R[i].take j).map (·.2)))),some (.ref as[i]),v3,v4]/\G'=G) ⟨_,_,rfl,rfl⟩ (fun i σ G _ z=>by obtain⟨_,_,_,rfl⟩:=z;exact sqB_of hc) ?_ ?_
   ·rintro j x σ G' hx ⟨v3,v4,rfl,rfl⟩
    obtain⟨jl,e⟩:=zH.mp hx
    rw[zB]at jl
    rw[zO]at e
    subst e
    have jR:j<R[i].length:=by exact zh7 jl cl
    have hf:SqT K _ _ _:=Paired.at hrow j jl jR
    have fu:=okr _ (zX jR)
    have fuf:fitsB 7301 R[i][j].2:=fits_dvd Dx0 fu.1 fu.2 Dxf
    have ld:=Shr.lcmA_ok (us:=(R[i].take j).map (·.2)) d0 fun u hu=>by
     obtain⟨f,hf,rfl⟩:=zAR.mp hu
     exact(okr f (List.mem_of_mem_take hf)).1
    have lf:fitsB 7301 _:=fits_dvd Dx0 ld.1 (lcmA_dvd (us:=(R[i].take j).map (·.2)) dd fun u hu=>by
     obtain⟨f,hf,rfl⟩:=zAR.mp hu
     exact okr f (List.mem_of_mem_take hf)) Dxf
    have en:Shr.lcmA (Shr.dn (R.take i)) ((R[i].take (j+1)).map (·.2))=Shr.lcmS (Shr.lcmA (Shr.dn (R.take i)) ((R[i].take j).map (·.2))) R[i][j].2:=by
     rw[zL jR,zU]
     exact Shr.lcmA_snoc _ _ _
    generalize Shr.lcmA (Shr.dn (R.take i)) ((R[i].take j).map (·.2))=d at ld lf en
    have gp:=Shr.gcd_pos (t:=d) fu.1
    have gf:fitsB 8000 ((Int.gcd d R[i][j].2:Nat):Int):=(gcd_fits (t:=d) fu.1 fuf).mono (by decide)
    refine⟨cs[j],_,rfl,hf,rfl,_,_,rfl,_,_,rfl,rfl,?_⟩
    refine⟨d,R[i][j].2,rfl,by lia,by lia,_,_,rfl,rfl,⟨by exact zel iR jR gp,gf⟩,_,_,rfl,rfl,⟨(Shr.div_gcd_fits ld.1 fu.1 lf).mono (by decide),fuf.mono (by decide)⟩,?_⟩
    exact⟨_,_,by rw[en];rfl,rfl⟩
   ·rintro σ G' ⟨v3,v4,rfl,rfl⟩
    exact⟨some (.ref as[i]),v3,v4,by rw[zB,cl,zAP,Shr.dn_snoc iR],rfl⟩
  ·rintro σ G ⟨v2,v3,v4,rfl,rfl⟩
   rw[zB,al,zAP]
   refine⟨o,rfl,⟨_,sqB_of ho⟩,?_⟩
   refine comp_seq (K:=K) (b:=b) (a:=o) (xs:=as.map V.ref) (fun i ys G2=>Same G G2/\∃ ls:List Addr,ys=ls.map V.ref/\IntsAt G2 ls (Shr.tops (Shr.dn R) (R.take i))) (by rw[zB,sizeLine_eq];exact zh9 (zl1 rl rfl) al) ⟨Same.refl _,[],rfl,.nil⟩ (fun i ys G2 _ z=>sqB_of (z.1 _ _ ho)) ?_ ?_
   ·rintro i x ys G2 hx ⟨s2,ls,rfl,IA⟩
    obtain⟨il,e⟩:=zH.mp hx
    rw[zB]at il
    rw[zO]at e
    subst e
    have iR:i<R.length:=by exact zh7 il al
    obtain⟨cs,hc,hrow⟩:=RowK.same (Paired.at hR i il iR) s2
    have cl:cs.length=R[i].length:=hrow.length
    have rw1:=rwl _ (zX iR)
    refine⟨⟨rfl,trivial⟩,tTru_if ?_⟩
    refine⟨as[i],rfl,⟨_,sqB_of hc⟩,?_⟩
    refine comp_seq (K:=K) (b:=b) (a:=as[i]) (xs:=cs.map V.ref) (fun j ys G3=>Same G2 G3/\ys=((R[i].take j).map fun f=>f.1 * (Shr.dn R / f.2)).map V.int) (by rw[zB,sizeLine_eq];exact zh9 (zl1 rw1 rfl) cl) ⟨Same.refl _,rfl⟩ (fun j ys G3 _ z=>sqB_of (z.1 _ _ hc)) ?_ ?_
    ·rintro j x ys G3 hx ⟨s3,rfl⟩
     obtain⟨jl,e⟩:=zH.mp hx
     rw[zB]at jl
     rw[zO]at e
     subst e
     have jR:j<R[i].length:=by exact zh7 jl cl
     have hf:SqT K _ _ _:=s3.tupq (Paired.at hrow j jl jR)
     obtain⟨p0,pd,tf⟩:=ok _ (zX iR) _ (zX jR)
     have pf:fitsB 7301 R[i][j].2:=fits_dvd Dx0 p0 pd Dxf
     have qf:fitsB 8000 (Shr.dn R / R[i][j].2):=by
      have h1:=Int.ediv_nonneg (a:=Shr.dn R) (b:=R[i][j].2) (by exact zfz D0 iR jR) (by exact zft iR jR p0)
      have h2:=Int.ediv_le_self (a:=Shr.dn R) R[i][j].2 (by exact zfz D0 iR jR)
      exact(DF.le (by exact zds D0 iR jR h1 h2)).mono (by decide)
     refine⟨cs[j],_,rfl,hf,rfl,_,_,rfl,_,_,rfl,rfl,⟨rfl,trivial⟩,tTru_if ?_⟩
     refine⟨_,_,rfl,rfl,⟨p0,pf.mono (by decide)⟩,_,_,rfl,rfl,⟨tf.mono (by decide),qf⟩,s3,?_⟩
     rw[zL jR,zU,zU]
     rfl
    ·rintro ys G3 yl ⟨s3,rfl⟩ D hD
     rw[zB,cl,zAP]
     have s4:=Same.new (o:=.lst ((R[i].map fun f=>f.1 * (Shr.dn R / f.2)).map V.int)) hD
     refine⟨s2.trans (s3.trans s4),ls++[D],by rw[zU];rfl,?_⟩
     unfold Shr.tops
     rw[zL iR,zU]
     exact PairedApp (IA.same (s3.trans s4)) (.cons upd_same .nil)
   ·rintro ys G2 yl ⟨s2,ls,rfl,IA⟩ l hl
    rw[zB,al,zAP]at IA
    have s3:=Same.new (o:=.lst (ls.map V.ref)) hl
    refine⟨(by show 2<=sizeLine;decide),fun t ht=>?_⟩
    have s4:=Same.new (o:=.tup [.int (Shr.dn R),.ref l]) ht
    exact fin t l ls _ upd_same (s4 _ _ upd_same) (IA.same (s3.trans s4)) (s2.trans (s3.trans s4))
end
open PySem L2 PyProof.Rows
noncomputable def aI(i:Int):Int:=if i<0 then -i else i
theorem aI_nn(i:Int):0<=aI i:=by unfold aI;split <;> lia
noncomputable def dists(xs ys:List Int):List Int:=(xs.zip ys).map fun z=>aI (z.1-z.2)
noncomputable def far(xs ys:List Int):Int:=(dists xs ys).sum
theorem dists_get{xs ys:List Int}{i:Nat}(h1:i<xs.length)(h2:i<ys.length):∃ h:i <(dists xs ys).length,(dists xs ys)[i]=aI (xs[i]-ys[i]):=by
 refine⟨by unfold dists;rw[zB,List.length_zip];exact zcy h1 h2,?_⟩
 unfold dists
 rw[zO,List.getElem_zip]
theorem sum_nn:∀ {l:List Int},(∀ x∈l,0<=x)->0<=l.sum
 |[],_=>Int.le_refl _
 |x :: l,h=>by
  rw[List.sum_cons]
  have:=h x (zT ..)
  have:=sum_nn fun y hy=>h y (zY _ hy)
  lia
theorem far_nn(xs ys:List Int):0<=far xs ys:=sum_nn fun x hx=>by
 obtain⟨z,_,rfl⟩:=zAR.mp hx
 exact aI_nn _
noncomputable def rowOf(L:List (List Int))(v:Int):List Int:=L.getD v.toNat []
noncomputable def cOf(L:List (List Int))(x:Tie):Int:=x.2.2 * far (rowOf L x.1) (rowOf L x.2.1)
noncomputable def cAt(L:List (List Int))(l:Nat)(x:Tie):Int:=x.2.2 * aI ((rowOf L x.1).getD l 0-(rowOf L x.2.1).getD l 0)
structure ShOk(k e n m:Nat)(R:Shr.Rows):Prop where
 ok:Shp.ROk k e R
 len:R.length=n
 row:∀ r∈R,r.length=m
 nb:n<=1000
 mb:m<=1000
theorem tops_len(D:Int)(R:Shr.Rows):(Shr.tops D R).length=R.length:=by unfold Shr.tops;rw[zB]
theorem tops_row{k e n m:Nat}{R:Shr.Rows}(h:ShOk k e n m R)(D:Int):∀ L∈Shr.tops D R,L.length=m:=fun L hL=>by
 obtain⟨r,hr,rfl⟩:=zAR.mp hL
 rw[zB]
 exact h.row r hr
theorem rowOf_nat{L:List (List Int)}{v:Nat}(h:v<L.length):rowOf L (v:Int)=L[v]:=by
 unfold rowOf
 rw[zAQ,zAX,zF h]
 rfl
inductive spApI(vs:List V)(H:Hp)(Q:VK):Prop where
 |mk (p q:Addr) (xs ys:List Int) (h1:vs=[.ref p,.ref q]) (h2:H p=some (.lst (xs.map V.int))) (h3:H q=some (.lst (ys.map V.int))) (h4:xs.length=ys.length) (h5:xs.length<=1000) (h6:∀ H',Same H H'->Q (.int (far xs ys)) H')
noncomputable def spAp:Sp:=fun vs H Q _=>spApI vs H Q
inductive spCoI(K:PySem.W.Frag)(vs:List V)(H:Hp)(Q:VK):Prop where
 |mk (t o:Addr) (n m k e:Nat) (ties:List Tie) (b:Bool) (R:Shr.Rows) (h1:vs=[.ref t,.ref o]) (h2:WebAt H t n ties) (h3:(∀ x∈ties,TieOk n x)) (h4:RowsK K H b o R) (h5:ShOk k e n m R) (h6:∀ (c:Addr) (H':Hp),H' c=some (frO (Shr.nf (ties.map (cOf (Shr.tops (Shr.dn R) R))).sum (2 * Shr.dn R)))->Same H H'->Q (.ref c) H')
noncomputable def spCo(K:PySem.W.Frag):Sp:=fun vs H Q _=>spCoI K vs H Q
inductive spCaI(K:PySem.W.Frag)(vs:List V)(H:Hp)(Q:VK):Prop where
 |mk (t o:Addr) (l n m k e:Nat) (ties:List Tie) (b:Bool) (R:Shr.Rows) (h1:vs=[.ref t,.ref o,.int l]) (h2:l<m) (h3:WebAt H t n ties) (h4:(∀ x∈ties,TieOk n x)) (h5:RowsK K H b o R) (h6:ShOk k e n m R) (h7:∀ (c:Addr) (H':Hp),H' c=some (frO (Shr.nf (ties.map (cAt (Shr.tops (Shr.dn R) R) l)).sum (Shr.dn R)))->Same H H'->Q (.ref c) H')
noncomputable def spCa(K:PySem.W.Frag):Sp:=fun vs H Q _=>spCaI K vs H Q
section
variable{P:Program}{w:World}{K:PySem.W.Frag}{mg:Str->Option Value}{base:Heap}
noncomputable abbrev nAp:List Str:=["one","other"]
theorem scAp:FnScope nAp ["one","other"] (defScope sApart):=⟨rfl,rfl,rfl,by decide +kernel,rfl,by decide +kernel,by decide +kernel⟩
theorem csAp1:CompScope ["here","there"] [none,none] nAp (defScope sApart) (scO [(".0",.local),("here",.local),("there",.local),("abs",.globalImplicit)]):=⟨rfl,by decide +kernel,by decide +kernel,by decide +kernel,rfl,capB_ok (by decide +kernel)⟩
theorem ndAp1:(["here","there"]:List Str).Nodup:=by decide +kernel
theorem ok_ap{f:Addr}{fd:FuncData}(F:Fun K "apart" "apart" sApart f fd)(T:Txt mg)(T2:Txt2 mg):FnOk P w K mg base CX0 1 f fd ["one","other"] spAp:=by
 refine F.ok scAp (fun vs H Q E h=>?_) (fun cdv A outer s H vs Q E hr h=>?_)
 ·obtain⟨p,q,xs,ys,rfl,_⟩:=h
  rfl
 ·obtain⟨p,q,xs,ys,rfl,hp,hq,el,xl,fin⟩:=h
  have dl:(dists xs ys).length=xs.length:=by unfold dists;rw[zB,List.length_zip];exact zfr el
  refine⟨_,(pss_one (ps_ret (pe_callB (call_sumH rfl) (by rfl) T.sum boot_sum (@pa_comp _ _ _ _ _ _ _ _ (pe_comp rfl csAp1 (pi_zip false false (by rfl) T2.zip (@pa_nam _ _ _ _ _ _ (pvQ 0) (@pa_nam _ _ _ _ _ _ (pvQ 1) pa_nil))) (fun C s H fp=>(pg_tupK K rfl (n:=2) rfl (pgs_cons (pg_name (i:=0) ndAp1 rfl (Or.inl rfl)) (pgs_cons (pg_name (i:=1) ndAp1 rfl (Or.inl rfl)) pgs_nil)) rfl rfl)) (fun C s H fp=>pf_nil) (fun C s H fp=>(pe_callB call_abs (by rfl) T.abs boot_abs (@pa_bin _ _ _ _ _ _ _ _ (pe_op op_sub (pvQ 0) (pvQ 1)) pa_nil)))) pa_nil)))),?_⟩
  refine⟨p,q,rfl,⟨_,SqL.of hp⟩,⟨_,SqL.of hq⟩,?_⟩
  refine comp_zip (K:=K) (b1:=false) (b2:=false) (l1:=p) (l2:=q) (xs:=xs.map V.int) (ys:=ys.map V.int) (fun i zs G=>Same H G/\zs=((dists xs ys).take i).map V.int) (by rw[zB,zB,sizeLine_eq];exact zfu el xl dl) ⟨Same.refl _,rfl⟩ (fun i zs G _ z=>⟨SqL.of (z.1 _ _ hp),SqL.of (z.1 _ _ hq)⟩) ?_ ?_
  ·rintro i u v zs G U hx hy ⟨sG,rfl⟩ hU
   obtain⟨il',e⟩:=zH.mp hx
   rw[zB]at il'
   rw[zO]at e
   subst e
   obtain⟨il,e⟩:=zH.mp hy
   rw[zB]at il
   rw[zO]at e
   subst e
   obtain⟨dh,de⟩:=dists_get il' il
   have sU:=Same.new (o:=.tup [V.int xs[i],V.int ys[i]]) hU
   refine⟨U,_,rfl,SqT.of upd_same,rfl,_,_,rfl,_,_,rfl,rfl,trivial,tTru_if ⟨_,_,rfl,rfl,_,rfl,sG.trans sU,?_⟩⟩
   rw[zL dh,zU,de]
   rfl
  rintro zs G zl ⟨sG,rfl⟩ D hD
  rw[zB,zB,show min xs.length ys.length=(dists xs ys).length by exact ziq el dl,zAP]
  exact⟨D,_,rfl,upd_same,fin _ (sG.trans (Same.new hD))⟩
noncomputable abbrev nCo:List Str:=["web","shares","below","rows"]
theorem scCo:FnScope nCo ["web","shares"] (defScope sCostOf):=⟨rfl,rfl,rfl,by decide +kernel,rfl,by decide +kernel,by decide +kernel⟩
theorem csCo1:CompScope ["a","b","weight","rows"] [none,none,none,some 3] nCo (defScope sCostOf) (scO [(".0",.local),("a",.local),("b",.local),("weight",.local),("apart",.globalImplicit),("rows",.free)]):=⟨rfl,by decide +kernel,by decide +kernel,by decide +kernel,rfl,capB_ok (by decide +kernel)⟩
theorem ndCo1:(["a","b","weight","rows"]:List Str).Nodup:=by decide +kernel
theorem ok_co{f g1 g2 g3:Addr}{fd d1 d2 d3:FuncData}(F:Fun K "cost_of" "cost_of" sCostOf f fd)(T:Txt mg)(GO:CalF P w K mg base 2 "over_one" ["rows"] (spOo K) g1 d1)(GA:CalF P w K mg base 1 "apart" ["one","other"] spAp g2 d2)(GF:CalF P w K mg base 2 "fraction" ["top","below"] spFr g3 d3):FnOk P w K mg base CX0 3 f fd ["web","shares"] (spCo K):=by
 refine F.ok scCo (fun vs H Q E h=>?_) (fun cdv A outer s H vs Q E hr h=>?_)
 ·obtain⟨t,o,n,m,kb,eb,ties,b,R,rfl,_⟩:=h
  rfl
 ·obtain⟨t,o,n,m,kb,eb,ties,b,R,rfl,W,ok,RA,sh,fin⟩:=h
  obtain⟨⟨ts,bs,h1,h2,h3⟩,len⟩:=id W
  have h3l:bs.length=ties.length:=h3.length
  have hr1:Room 1 _:=hr.mono (by decide)
  have hr2:Room 2 _:=hr
  obtain⟨D0,_,DD⟩:=sh.ok.dn
  have DF:=sh.ok.dnE
  have cap:=sh.ok.cap
  have rl:=sh.len
  have nb:=sh.nb
  have mb:=sh.mb
  refine⟨_,(pss_cons (ps_asg (pe_call GO.ok hr2 rfl GO.mg GO.kp GO.bd .nil pass0 (@pa_nam _ _ _ _ _ _ (pvQ 1) pa_nil)) (pg_tup (n:=2) rfl (pgs_cons (pg_name (i:=2) scCo.nd rfl (Or.inl rfl)) (pgs_cons (pg_name (i:=3) scCo.nd rfl (Or.inr rfl)) pgs_nil))))
   (pss_one (ps_ret (pe_call GF.ok hr2 rfl GF.mg GF.kp GF.bd .nil pass0 (@pa_call _ _ _ _ _ _ _ _ (pe_callB (call_sumH rfl) (by rfl) T.sum boot_sum (@pa_comp _ _ _ _ _ _ _ _ (pe_comp rfl csCo1 (pi_tup (@pe_ix _ _ _ _ _ _ _ ix_tupH (pvQ 0) pe_int (fun _ _=>rfl))) (fun C s H fp=>(pg_tupK K rfl (n:=3) rfl (pgs_cons (pg_name (i:=0) ndCo1 rfl (Or.inl rfl)) (pgs_cons (pg_name (i:=1) ndCo1 rfl (Or.inl rfl)) (pgs_cons (pg_name (i:=2) ndCo1 rfl (Or.inl rfl)) pgs_nil))) rfl rfl)) (fun C s H fp=>pf_nil) (fun C s H fp=>(pe_op op_mul (pvQ 2) (pe_call GA.ok hr1 rfl GA.mg GA.kp GA.bd .nil pass0 (@pa_sub _ _ _ _ _ _ _ (@pe_ix _ _ _ _ _ _ _ ix_listH (pvQ 3) (pvQ 0) (fun _ _=>rfl)) (@pa_sub _ _ _ _ _ _ _ (@pe_ix _ _ _ _ _ _ _ ix_listH (pvQ 3) (pvQ 1) (fun _ _=>rfl)) pa_nil)))))) pa_nil)) (@pa_bin _ _ _ _ _ _ _ _ (pe_op op_mul pe_int (pvQ 2)) pa_nil)))))),?_⟩
  refine⟨o,b,R,rfl,RA,bok_of sh.ok,by exact zh9 nb rl,fun r hr=>by rw[sh.row r hr];exact mb,fun tp l as H1 gt gl IA s1=>?_⟩
  refine⟨tp,_,rfl,SqT.of gt,rfl,_,_,rfl,_,_,rfl,rfl,?_⟩
  have tl:=tops_len (Shr.dn R) R
  have tr:=tops_row sh (Shr.dn R)
  generalize eL:Shr.tops (Shr.dn R) R=L at IA tl tr fin
  have al:as.length=L.length:=IA.length
  refine⟨t,_,_,_,rfl,rfl,s1 _ _ h1,rfl,ts,rfl,⟨_,SqT.of (s1 _ _ h2)⟩,?_⟩
  refine comp_tup (K:=K) (a:=ts) (xs:=bs.map V.ref) (fun j ys G=>Same H1 G/\ys=((ties.take j).map (cOf L)).map V.int) (by rw[zB,sizeLine_eq];exact zh9 (zl1 len rfl) h3l) ⟨Same.refl _,rfl⟩ (fun j ys G _ z=>SqT.of (z.1 _ _ (s1 _ _ h2))) ?_ ?_
  ·rintro j x ys G hx ⟨sG,rfl⟩
   obtain⟨il,e⟩:=zH.mp hx
   rw[zB]at il
   rw[zO]at e
   subst e
   have it:j<ties.length:=by exact zh7 il h3l
   have hx:=sG _ _ (s1 _ _ (Paired.at h3 j il it))
   obtain⟨o1,o2,o3,o4,o5⟩:=ok _ (zX it)
   rw[zL it,zU,zU]
   generalize ties[j]=x at *
   obtain⟨u,v,c⟩:=x
   have o1:0<=u:=o1
   have o2:u<v:=o2
   have o3:v<n:=o3
   have o4:1<=c:=o4
   have o5:c<=1073741824:=o5
   obtain⟨u,rfl⟩:∃ a':Nat,u=(a':Int):=⟨u.toNat,by lia⟩
   obtain⟨v,rfl⟩:∃ b':Nat,v=(b':Int):=⟨v.toNat,by lia⟩
   have uL:u<L.length:=by lia
   have vL:v<L.length:=by lia
   have gl':=sG _ _ gl
   have atu:atI (as.map V.ref) (u:Int)=some (V.ref (as[u]'(by exact zh8 uL al))):=atI_nat (by rw[zAJ,zF (by exact zh8 uL al)];rfl)
   have atv:atI (as.map V.ref) (v:Int)=some (V.ref (as[v]'(by lia))):=atI_nat (by rw[zAJ,zF (by lia)];rfl)
   have lu:=tr _ (zX uL)
   have lv:=tr _ (zX vL)
   refine⟨bs[j],_,rfl,SqT.of hx,rfl,_,_,rfl,_,_,rfl,_,_,rfl,rfl,⟨rfl,trivial⟩,tTru_if ?_⟩
   refine⟨l,_,_,_,rfl,rfl,gl',atu,l,_,_,_,rfl,rfl,gl',atv,_,_,L[u],L[v],rfl,sG _ _ (Paired.at IA u (by exact zh8 uL al) uL),sG _ _ (Paired.at IA v (by exact zh8 vL al) vL),by exact zhz uL vL lu lv,by exact zh9 mb lu,fun G' s'=>⟨_,_,rfl,rfl,.inl ⟨by exact zee o4 o5 uL vL,by exact zeb o4 o5 uL vL⟩,sG.trans s',?_⟩⟩
   show _++[V.int (c * far L[u] L[v])]=_++[V.int (c * far (rowOf L u) (rowOf L v))]
   rw[rowOf_nat uL,rowOf_nat vL]
  rintro ys G yl ⟨sG,rfl⟩ D hD
  rw[zB,h3l,zAP]
  have s2:=s1.trans (sG.trans (Same.new (o:=.lst ((ties.map (cOf L)).map V.int)) hD))
  have nn:0<=(ties.map (cOf L)).sum:=sum_nn fun x hx=>by
   obtain⟨y,hy,rfl⟩:=zAR.mp hx
   have:=(ok y hy).2.2.2.1
   exact Int.mul_nonneg (by exact zdm this) (far_nn _ _)
  have f2:fitsB 8000 (2 * Shr.dn R):=((show fitsB 2 2 by show(2:Int).natAbs<2 ^ 2;decide).mul DF).mono (by lia)
  refine⟨D,_,rfl,upd_same,_,_,rfl,rfl,.inl ⟨by decide,by decide⟩,_,_,rfl,by exact zn3 D0,f2,fun c hc=>?_⟩
  exact fin c _ upd_same (s2.trans (Same.new hc))
noncomputable abbrev nCa:List Str:=["web","shares","l","below","rows"]
theorem scCa:FnScope nCa ["web","shares","l"] (defScope sCostAt):=⟨rfl,rfl,rfl,by decide +kernel,rfl,by decide +kernel,by decide +kernel⟩
theorem csCa1:CompScope ["a","b","weight","rows","l"] [none,none,none,some 4,some 2] nCa (defScope sCostAt) (scO [(".0",.local),("a",.local),("b",.local),("weight",.local),("abs",.globalImplicit),("l",.free),("rows",.free)]):=⟨rfl,by decide +kernel,by decide +kernel,by decide +kernel,rfl,capB_ok (by decide +kernel)⟩
theorem ndCa1:(["a","b","weight","rows","l"]:List Str).Nodup:=by decide +kernel
theorem ok_ca{f g1 g3:Addr}{fd d1 d3:FuncData}(F:Fun K "cost_at" "cost_at" sCostAt f fd)(T:Txt mg)(GO:CalF P w K mg base 2 "over_one" ["rows"] (spOo K) g1 d1)(GF:CalF P w K mg base 2 "fraction" ["top","below"] spFr g3 d3):FnOk P w K mg base CX0 3 f fd ["web","shares","l"] (spCa K):=by
 refine F.ok scCa (fun vs H Q E h=>?_) (fun cdv A outer s H vs Q E hr h=>?_)
 ·obtain⟨t,o,l,n,m,kb,eb,ties,b,R,rfl,_⟩:=h
  rfl
 ·obtain⟨t,o,k,n,m,kb,eb,ties,b,R,rfl,km,W,ok,RA,sh,fin⟩:=h
  obtain⟨⟨ts,bs,h1,h2,h3⟩,len⟩:=id W
  have h3l:bs.length=ties.length:=h3.length
  have hr2:Room 2 _:=hr
  obtain⟨D0,_,DD⟩:=sh.ok.dn
  have DF:=sh.ok.dnE
  have cap:=sh.ok.cap
  have rl:=sh.len
  have nb:=sh.nb
  have mb:=sh.mb
  refine⟨_,(pss_cons (ps_asg (pe_call GO.ok hr2 rfl GO.mg GO.kp GO.bd .nil pass0 (@pa_nam _ _ _ _ _ _ (pvQ 1) pa_nil)) (pg_tup (n:=2) rfl (pgs_cons (pg_name (i:=3) scCa.nd rfl (Or.inl rfl)) (pgs_cons (pg_name (i:=4) scCa.nd rfl (Or.inr rfl)) pgs_nil))))
   (pss_one (ps_ret (pe_call GF.ok hr2 rfl GF.mg GF.kp GF.bd .nil pass0 (@pa_call _ _ _ _ _ _ _ _ (pe_callB (call_sumH rfl) (by rfl) T.sum boot_sum (@pa_comp _ _ _ _ _ _ _ _ (pe_comp rfl csCa1 (pi_tup (@pe_ix _ _ _ _ _ _ _ ix_tupH (pvQ 0) pe_int (fun _ _=>rfl))) (fun C s H fp=>(pg_tupK K rfl (n:=3) rfl (pgs_cons (pg_name (i:=0) ndCa1 rfl (Or.inl rfl)) (pgs_cons (pg_name (i:=1) ndCa1 rfl (Or.inl rfl)) (pgs_cons (pg_name (i:=2) ndCa1 rfl (Or.inl rfl)) pgs_nil))) rfl rfl)) (fun C s H fp=>pf_nil) (fun C s H fp=>(pe_op op_mul (pvQ 2) (pe_callB call_abs (by rfl) T.abs boot_abs (@pa_bin _ _ _ _ _ _ _ _ (pe_op op_sub (@pe_ix _ _ _ _ _ _ _ ix_listH (@pe_ix _ _ _ _ _ _ _ ix_listH (pvQ 3) (pvQ 0) (fun _ _=>rfl)) (pvQ 4) (fun _ _=>rfl)) (@pe_ix _ _ _ _ _ _ _ ix_listH (@pe_ix _ _ _ _ _ _ _ ix_listH (pvQ 3) (pvQ 1) (fun _ _=>rfl)) (pvQ 4) (fun _ _=>rfl))) pa_nil))))) pa_nil)) (@pa_nam _ _ _ _ _ _ (pvQ 3) pa_nil)))))),?_⟩
  refine⟨o,b,R,rfl,RA,bok_of sh.ok,by exact zh9 nb rl,fun r hr=>by rw[sh.row r hr];exact mb,fun tp l as H1 gt gl IA s1=>?_⟩
  refine⟨tp,_,rfl,SqT.of gt,rfl,_,_,rfl,_,_,rfl,rfl,?_⟩
  have tl:=tops_len (Shr.dn R) R
  have tr:=tops_row sh (Shr.dn R)
  generalize eL:Shr.tops (Shr.dn R) R=L at IA tl tr fin
  have al:as.length=L.length:=IA.length
  refine⟨t,_,_,_,rfl,rfl,s1 _ _ h1,rfl,ts,rfl,⟨_,SqT.of (s1 _ _ h2)⟩,?_⟩
  refine comp_tup (K:=K) (a:=ts) (xs:=bs.map V.ref) (fun j ys G=>Same H1 G/\ys=((ties.take j).map (cAt L k)).map V.int) (by rw[zB,sizeLine_eq];exact zh9 (zl1 len rfl) h3l) ⟨Same.refl _,rfl⟩ (fun j ys G _ z=>SqT.of (z.1 _ _ (s1 _ _ h2))) ?_ ?_
  ·rintro j x ys G hx ⟨sG,rfl⟩
   obtain⟨il,e⟩:=zH.mp hx
   rw[zB]at il
   rw[zO]at e
   subst e
   have it:j<ties.length:=by exact zh7 il h3l
   have hx:=sG _ _ (s1 _ _ (Paired.at h3 j il it))
   obtain⟨o1,o2,o3,o4,o5⟩:=ok _ (zX it)
   rw[zL it,zU,zU]
   generalize ties[j]=x at *
   obtain⟨u,v,c⟩:=x
   have o1:0<=u:=o1
   have o2:u<v:=o2
   have o3:v<n:=o3
   have o4:1<=c:=o4
   have o5:c<=1073741824:=o5
   obtain⟨u,rfl⟩:∃ a':Nat,u=(a':Int):=⟨u.toNat,by lia⟩
   obtain⟨v,rfl⟩:∃ b':Nat,v=(b':Int):=⟨v.toNat,by lia⟩
   have uL:u<L.length:=by lia
   have vL:v<L.length:=by lia
   have gl':=sG _ _ gl
   have atu:atI (as.map V.ref) (u:Int)=some (V.ref (as[u]'(by exact zh8 uL al))):=atI_nat (by rw[zAJ,zF (by exact zh8 uL al)];rfl)
   have atv:atI (as.map V.ref) (v:Int)=some (V.ref (as[v]'(by lia))):=atI_nat (by rw[zAJ,zF (by lia)];rfl)
   have lu:=tr _ (zX uL)
   have lv:=tr _ (zX vL)
   have eu:atI (L[u].map V.int) (k:Int)=some (V.int (L[u].getD k 0)):=atI_nat (by rw[zAJ,zAX,zF (by exact zh8 km lu)];rfl)
   have ev:atI (L[v].map V.int) (k:Int)=some (V.int (L[v].getD k 0)):=atI_nat (by rw[zAJ,zAX,zF (by exact zh8 km lv)];rfl)
   refine⟨bs[j],_,rfl,SqT.of hx,rfl,_,_,rfl,_,_,rfl,_,_,rfl,rfl,⟨rfl,rfl,trivial⟩,tTru_if ?_⟩
   refine⟨l,_,_,_,rfl,rfl,gl',atu,_,_,_,_,rfl,rfl,sG _ _ (Paired.at IA u (by exact zh8 uL al) uL),eu,l,_,_,_,rfl,rfl,gl',atv,_,_,_,_,rfl,rfl,sG _ _ (Paired.at IA v (by exact zh8 vL al) vL),ev,_,_,rfl,rfl,_,rfl,_,_,rfl,rfl,.inl ⟨by exact zee o4 o5 uL vL,by exact zeb o4 o5 uL vL⟩,sG,?_⟩
   show _++[V.int (c * aI (L[u].getD k 0-L[v].getD k 0))]=_++[V.int (c * aI ((rowOf L u).getD k 0-(rowOf L v).getD k 0))]
   rw[rowOf_nat uL,rowOf_nat vL]
  rintro ys G yl ⟨sG,rfl⟩ D hD
  rw[zB,h3l,zAP]
  have s2:=s1.trans (sG.trans (Same.new (o:=.lst ((ties.map (cAt L k)).map V.int)) hD))
  have nn:0<=(ties.map (cAt L k)).sum:=sum_nn fun x hx=>by
   obtain⟨y,hy,rfl⟩:=zAR.mp hx
   have:=(ok y hy).2.2.2.1
   exact Int.mul_nonneg (by exact zdm this) (aI_nn _)
  refine⟨D,_,rfl,upd_same,_,_,rfl,by exact D0,DF.mono (by exact zn5 (zl2 cap rfl)),fun c hc=>?_⟩
  exact fin c _ upd_same (s2.trans (Same.new hc))
end
end K32
namespace L2
open PySem PySem.W PyProof.Rows
theorem pe_bmK{X:Cx}(K:PySem.W.Frag)(eK:X.K=K){T id:String}{name:Str}{r:V->List V->Hp->VK->Prop}{o e:Expr}{es:List Expr}{to:TE}{t:TA}{apos cpos:Pos}(pa:PlainAttrs T)(slot:Slot T name id)(hty:typeOf (.builtin id)=pure (.type "method_descriptor"))(hm:MtR X id r)(ho:PE X o to)(ha:PA X (e :: es) t)
  (hbase:attributeBase o name X.env (eval o X.env)=eval o X.env:=by rfl)
  (hfew:((backTo cpos (starEach (e :: es) X.env)).all (fun x=>!x.1) && (backToKw cpos (keywordEach [] X.env)).all (fun x=>x.1.isSome) && decide ((e :: es).length+([]:List Keyword).length+(if([]:List Keyword).isEmpty then 0 else 1)<30))=true:=by rfl)
  (hline:(apos.endLine == cpos.line)=true:=by rfl) (hs:starEach (e :: es) X.env=(false,eval e X.env) :: starEach es X.env:=by rfl) (hplain:(backTo cpos (starEach es X.env)).any (·.1)=false:=by rfl):PE X (.Call (.Attribute o name apos) (e :: es) [] cpos) (tBM K T r to t):=by
 subst eK
 exact pe_bm pa slot hty hm ho ha hbase hfew hline hs hplain
theorem call_len_seqK{X:Cx}(K:PySem.W.Frag)(e:X.K=K):CallR X (.builtin "len") (fun xs H Q=>∃ p ys,xs=[.ref p]/\(SqL K H p ys\/SqT K H p ys)/\Q (.int ys.length) H):=e▸call_len_seq
theorem map_eraseI:∀ (l:List Int) (k:Nat),(l.map V.int).eraseIdx k=(l.eraseIdx k).map V.int
 |[],k=>by cases k <;> rfl
 |x :: r,0=>rfl
 |x :: r,k+1=>by
  show V.int x :: (r.map V.int).eraseIdx k=V.int x :: (r.eraseIdx k).map V.int
  rw[map_eraseI r k]
end L2
namespace K32
open PySem L2 PyProof.Rows
theorem BoxAt.same{H H':Hp}{p:Addr}{N:Nat}(B:BoxAt H p N)(s:Same H H'):BoxAt H' p N:=by
 obtain⟨a,b,c,e,r⟩:=B
 exact⟨a,b,c,s _ _ e,r⟩
theorem upto_nodup(n:Nat):(upto n).Nodup:=by
 unfold upto List.Nodup
 rw[List.pairwise_map]
 exact(List.nodup_range (n:=n)).imp fun {a b} ne e=>ne (by exact zik e)
structure PostOk(n:Nat)(ps:List Int):Prop where
 nd:ps.Nodup
 rg:∀ x∈ps,0<=x/\x<n
 lo:2<=ps.length
 hi:ps.length<=6
inductive spPoI(vs:List V)(H:Hp)(Q:VK):Prop where
 |mk (p:Addr) (n N:Nat) (mo:Int) (h1:vs=[.ref p,.int n,.int mo]) (h2:BoxAt H p N) (h3:N+100<2 ^ 40) (h4:2<=n) (h5:n<=30) (h6:2<=mo) (h7:mo<=6) (h8:∀ (l:Addr) (ps:List Int) (H':Hp),H l=none->H' l=some (.lst (ps.map V.int))->l≠p->PostOk n ps->BoxAt H' p (N+20)->Kept p H H'->Q (.ref l) H')
noncomputable def spPo:Sp:=fun vs H Q _=>spPoI vs H Q
section
variable{P:Program}{w:World}{K:PySem.W.Frag}{mg:Str->Option Value}{base:Heap}
noncomputable abbrev nPo:List Str:=["_law_box_here","_law_many_here","_law_most","_law_some","_law_found"]
theorem scPo:FnScope nPo ["_law_box_here","_law_many_here","_law_most"] (defScope sPosts):=⟨rfl,rfl,rfl,by decide +kernel,rfl,by decide +kernel,by decide +kernel⟩
theorem csPo:CompScope ["_law_turn","_law_box_here","_law_some"] [none,some 0,some 3] nPo (defScope sPosts) (scO [(".0",.local),("_law_turn",.local),("_law_take",.globalImplicit),("len",.globalImplicit),("_law_box_here",.free),("_law_some",.free)]):=⟨rfl,by decide +kernel,by decide +kernel,by decide +kernel,rfl,capB_ok (by decide +kernel)⟩
theorem ndPo:(["_law_turn","_law_box_here","_law_some"]:List Str).Nodup:=by decide +kernel
theorem ok_po{f g:Addr}{fd gd:FuncData}(F:Fun K "_law_posts" "_law_posts" sPosts f fd)(T:Txt mg)(G:TakeF P w K mg base g gd):FnOk P w K mg base CX0 2 f fd ["_law_box_here","_law_many_here","_law_most"] spPo:=by
 refine F.ok scPo (fun vs H Q E h=>?_) (fun cdv A outer s H vs Q E hr h=>?_)
 ·obtain⟨p,n,N,mo,rfl,_⟩:=h
  rfl
 ·obtain⟨p,n,N,mo,rfl,B,hN,n1,n30,mo0,mo6,q⟩:=h
  refine⟨_,pss_cons (ps_set (i:=3) scPo.nd rfl (Or.inr rfl) (pe_callTy (call_list_rng rfl) (by rfl) T.list boot_list (@pa_call _ _ _ _ _ _ _ _ (pe_callTy (call_range _) (by rfl) T.range boot_range (@pa_nam _ _ _ _ _ _ (pvQ 1) pa_nil)) pa_nil)))
   (pss_cons (ps_comp (i:=4) scPo.nd rfl (Or.inl rfl) rfl csPo (pi_range1 rfl T.range (@pa_call _ _ _ _ _ _ _ _ (pe_callB (call_min2 rfl) (by rfl) T.min boot_min (@pa_nam _ _ _ _ _ _ (pvQ 1) (@pa_bin _ _ _ _ _ _ _ _ (pe_op op_add pe_int (pe_call G.ok hr rfl G.mg G.kp G.bd .nil pass0 (@pa_nam _ _ _ _ _ _ (pvQ 0) (@pa_bin _ _ _ _ _ _ _ _ (pe_op op_sub (pvQ 2) pe_int) pa_nil)))) pa_nil))) pa_nil))
    (fun C s H fp=>pg_name (i:=0) ndPo rfl (Or.inl rfl)) (fun C s H fp=>pf_nil)
    (fun C s H fp=>pe_bmK K rfl PySem.F.plainAttrs_list PySem.F.slot_list_pop PySem.F.type_list_pop mt_popAt (pvQ 2) (@pa_call _ _ _ _ _ _ _ _ (pe_call G.ok hr rfl G.mg G.kp G.bd .nil pass0 (@pa_nam _ _ _ _ _ _ (pvQ 1) (@pa_call _ _ _ _ _ _ _ _ (pe_callB (call_len_seqK K rfl) (by rfl) T.len PySem.boot_len (@pa_nam _ _ _ _ _ _ (pvQ 2) pa_nil)) pa_nil))) pa_nil)))
   (pss_one (ps_ret (pe_callB call_sortedI (by rfl) T.sorted boot_sorted (@pa_nam _ _ _ _ _ _ (pvQ 4) pa_nil))))),?_⟩
  refine⟨_,rfl,fun r hr=>⟨r,_,rfl,upd_same,by exact zh1,by exact zm3 n30 rfl,fun so hso=>?_⟩⟩
  rw[show((n:Int)).toNat=n by exact zAQ n]
  have so0:H so=none:=(Same.new (o:=.rng 0 (n:Int)) hr).free hso
  have sop:so≠p:=B.ne so0
  have s1:=(Same.new (o:=.rng 0 (n:Int)) hr).trans (Same.new (o:=.lst ((upto n).map V.int)) hso)
  have gs:(upd (upd H r (.rng 0 (n:Int))) so (.lst ((upto n).map V.int))) so=some (.lst ((upto n).map V.int)):=upd_same
  generalize (upd (upd H r (.rng 0 (n:Int))) so (.lst ((upto n).map V.int)))=H1 at s1 gs
  have B1:=B.same s1
  refine⟨_,_,rfl,rfl,p,_,N,rfl,B1,by exact zI (zQ N 100) hN,by exact zha mo0 mo6,by lia,fun z H2 z0 z1 B2 k2=>?_⟩
  refine⟨_,_,rfl,rfl,_,_,rfl,_,rfl,by split <;> lia,by split <;> lia,?_⟩
  obtain⟨ct,ec,c1,c2,c3⟩:∃ ct:Nat,(if 2+z <(n:Int)then 2+z else(n:Int)).toNat=ct/\ct<=n/\ct<=6/\2<=ct:=⟨_,rfl,by split <;> lia,by split <;> lia,by split <;> lia⟩
  rw[ec]
  have k1:Kept p H H1:=fun b o _ e=>s1 b o e
  refine comp_range (lo:=0) (n:=ct) (fun j ys G2=>BoxAt G2 p (N+1+j)/\Kept p H G2/\∃ (rs qs:List Int),G2 so=some (.lst (rs.map V.int))/\ys=qs.map V.int/\(qs++rs).Perm (upto n)/\qs.length=j) (by rw[sizeLine_eq];exact zl1 c2 rfl)
   ⟨B2,k1.trans k2,upto n,[],k2 _ _ sop gs,rfl,.refl _,rfl⟩ ?_ ?_
  ·rintro j ys G2 hj ⟨B3,k3,rs,qs,gs3,rfl,pm,ql⟩
   have rl:qs.length+rs.length=n:=by
    have:=pm.length_eq
    rw[zAC,upto_length]at this
    exact this
   refine⟨⟨rfl,rfl,trivial⟩,tTru_if ⟨.inl ⟨rfl,_,SqL.of gs3⟩,so,_,rfl,.inl (SqL.of gs3),p,_,_,rfl,B3,by exact zez hN n1 n30 ql rl,by rw[zB];exact zeh c1 hj ql rl,by rw[zB];exact zgg n1 n30 ql rl,fun y G3 y0 y1 B4 k4=>?_⟩⟩
   rw[zB]at y1
   obtain⟨k,rfl⟩:∃ k:Nat,y=(k:Int):=⟨y.toNat,by exact zh3 y0⟩
   have kl:k<rs.length:=by exact zi3 y1
   have gs4:=k4 _ _ sop gs3
   refine⟨so,rs.map V.int,(k:Int),k,V.int rs[k],rfl,rfl,gs4,by exact zh2,by exact zgt n1 n30 c2 c3 hj ql rl y1,?_,by rw[zAJ,zF kl];rfl,?_⟩
   ·unfold seqIndex?
    rw[zB]
    simp
    exact zi1 y1
   rw[map_eraseI]
   refine⟨(B4.put sop).mono (by exact zn4),(k3.trans k4).put so0,rs.eraseIdx k,qs++[rs[k]],upd_same,by rw[zU];rfl,?_,by rw[zAC,ql];rfl⟩
   rw[zAL]
   exact(List.Perm.append_left _ (SetA.cut_perm k rs kl)).trans pm
  ·rintro ys G2 yl ⟨B3,k3,rs,qs,gs3,rfl,pm,ql⟩ D hD
   have sD:=Same.new (o:=.lst (qs.map V.int)) hD
   refine⟨D,qs,rfl,SqL.of upd_same,by exact zI (zAB ql) (zl2 c2 rfl),fun l ms hl pq _=>?_⟩
   have hl2:=sD.free hl
   have sL:=Same.new (o:=.lst (ms.map V.int)) hl
   refine q l ms _ (k3.free B3 hl2) upd_same (B3.ne hl2) ?_ (((B3.same sD).same sL).mono (by exact zer c2 c3 ql)) (k3.trans (fun b o _ e=>sL b o (sD b o e)))
   have nd:=upto_nodup n
   have ndq:(qs++rs).Nodup:=pm.nodup_iff.mpr nd
   refine⟨pq.nodup_iff.mpr (List.nodup_append.mp ndq).1,fun x hx=>?_,by rw[pq.length_eq];exact zm1 c3 (Eq.symm ql),by rw[pq.length_eq];exact zh9 c2 ql⟩
   have hx:x∈upto n:=pm.mem_iff.mp (zAZ _ (pq.mem_iff.mp hx))
   unfold upto at hx
   obtain⟨i,hi,e⟩:=zAR.mp hx
   have:=zCP.mp hi
   exact zi4 this e
end
open PySem L2 PyProof.Rows
theorem sc_rel{f:Int×Int}{D:Int}(h0:0<f.2)(h:f.2 ∣ D):Shr.Rel f (f.1 * (D / f.2)) D:=⟨h0,by
 rw[zCG,zDI h]⟩
theorem aI_abs(i:Int):(aI i).natAbs=i.natAbs:=by unfold aI;split <;> lia
theorem sum_fits{k:Nat}:∀ {l:List Int},(∀ x∈l,fitsB k x)->fitsB (k+l.length) l.sum
 |[],_=>by show(0:Int).natAbs<_;exact Nat.pow_pos (by decide)
 |x :: l,h=>by
  rw[List.sum_cons,zBD]
  have h1:=(h x (zT ..)).mono (show k<=k+l.length by exact zQ k l.length)
  exact h1.add (sum_fits fun y hy=>h y (zY _ hy))
theorem sub_fits{k:Nat}{x y:Int}(h:fitsB k x)(h':fitsB k y):fitsB (k+1) (x-y):=by
 have:fitsB k (-y):=h'.le (by exact zat)
 have:=h.add this
 rwa [show x + -y=x-y by exact zhm]at this
theorem w_fits{c:Int}(h0:1<=c)(h1:c<=1073741824):fitsB 31 c:=by
 show c.natAbs<2 ^ 31
 have:(2:Nat) ^ 31=2147483648:=by decide
 omega
noncomputable def shr(R:Shr.Rows)(v l:Nat):Int×Int:=(R.getD v []).getD l (0,1)
theorem getD_at{α:Type}{l:List α}{i:Nat}(h:i<l.length)(d:α):l.getD i d=l[i]:=by
 rw[zAX,zF h]
 rfl
theorem shr_at{n m:Nat}{R:Shr.Rows}(h:ShOk 16 2880 n m R){v l:Nat}(hv:v<n)(hl:l<m):∃ (hv':v<R.length) (hl':l<R[v].length),shr R v l=R[v][l]:=by
 have hv':v<R.length:=by rw[h.len];exact hv
 have hm:=h.row _ (zX hv')
 have hl':l<R[v].length:=by exact zh8 hl hm
 refine⟨hv',hl',?_⟩
 unfold shr
 rw[getD_at hv',getD_at hl']
theorem shr_mem{n m:Nat}{R:Shr.Rows}(h:ShOk 16 2880 n m R){v l:Nat}(hv:v<n)(hl:l<m):∃ row∈R,shr R v l∈row:=by
 obtain⟨hv',hl',e⟩:=shr_at h hv hl
 exact⟨R[v],zX hv',by rw[e];exact zX hl'⟩
theorem tops_get{R:Shr.Rows}{v:Nat}(D:Int)(h:v<R.length)(h':v <(Shr.tops D R).length):(Shr.tops D R)[v]=R[v].map fun f=>f.1 * (D / f.2):=by
 simp only[Shr.tops,zO]
theorem tops_at{n m:Nat}{R:Shr.Rows}(h:ShOk 16 2880 n m R){v l:Nat}(hv:v<n)(hl:l<m)(D:Int):(rowOf (Shr.tops D R) (v:Int)).getD l 0=(shr R v l).1 * (D / (shr R v l).2):=by
 obtain⟨hv',hl',e⟩:=shr_at h hv hl
 have ht:v <(Shr.tops D R).length:=by rw[tops_len];exact hv'
 rw[rowOf_nat ht,tops_get D hv' ht,getD_at (by rw[zB];exact hl'),zO,e]
theorem shr_rel{n m:Nat}{R:Shr.Rows}(h:ShOk 16 2880 n m R){v l:Nat}(hv:v<n)(hl:l<m):Shr.Rel (shr R v l) ((rowOf (Shr.tops (Shr.dn R) R) (v:Int)).getD l 0) (Shr.dn R)/\fitsB 40 (shr R v l).1/\fitsB 16 (shr R v l).2/\fitsB 3017 ((rowOf (Shr.tops (Shr.dn R) R) (v:Int)).getD l 0):=by
 obtain⟨row,hr,hf⟩:=shr_mem h hv hl
 obtain⟨D0,_,DD⟩:=h.ok.dn
 have DF:=h.ok.dnE
 have p0:=h.ok.pos row hr _ hf
 rw[tops_at h hv hl]
 have qf:fitsB 2881 (Shr.dn R / (shr R v l).2):=by
  have h1:=Int.ediv_nonneg (a:=Shr.dn R) (b:=(shr R v l).2) (by exact zaq D0) (by exact zaq p0)
  have h2:=Int.ediv_le_self (a:=Shr.dn R) (shr R v l).2 (by exact zaq D0)
  exact DF.le (by exact zdw D0 h1 h2)
 exact⟨sc_rel p0 (DD row hr _ hf),h.ok.top row hr _ hf,h.ok.below row hr _ hf,((h.ok.top row hr _ hf).mul qf).mono (by decide)⟩
theorem cAt_fits{n m:Nat}{R:Shr.Rows}(h:ShOk 16 2880 n m R){x:Tie}(ok:TieOk n x){l:Nat}(hl:l<m):fitsB 3060 (cAt (Shr.tops (Shr.dn R) R) l x):=by
 obtain⟨u,v,c⟩:=x
 obtain⟨o1,o2,o3,o4,o5⟩:=ok
 have o1:0<=u:=o1
 have o2:u<v:=o2
 have o3:v<n:=o3
 obtain⟨u,rfl⟩:∃ a:Nat,u=(a:Int):=⟨u.toNat,by lia⟩
 obtain⟨v,rfl⟩:∃ a:Nat,v=(a:Int):=⟨v.toNat,by lia⟩
 have fu:=(shr_rel h (v:=u) (l:=l) (by lia) hl).2.2.2
 have fv:=(shr_rel h (v:=v) (l:=l) (by lia) hl).2.2.2
 have fa:fitsB 3018 (aI ((rowOf (Shr.tops (Shr.dn R) R) (u:Int)).getD l 0-(rowOf (Shr.tops (Shr.dn R) R) (v:Int)).getD l 0)):=by
  exact(sub_fits fu fv).le (by rw[aI_abs];exact zJ _)
 exact((w_fits o4 o5).mul fa).mono (by decide)
end K32
namespace L2
open PySem PySem.W PyProof.Rows
theorem dcomp_tup'{K:PySem.W.Frag}{a D:Addr}{xs:List V}{cap:List (Option Nat)}{σ:St}{H1:Hp}{Q:VK}{g:TG}{tc:TT}{tk tv:TE}(P:Nat->Hp->Prop)(p0:P 0 H1)(hl:∀ i H,i<=xs.length->P i H->SqT K H a xs)
  (hs:∀ i x H,xs[i]?=some x->P i H->g x (capt cap σ) H fun σ2 H2=>Kp (capt cap σ) σ2/\tc σ2 H2 fun b H3=>if b=true then tk σ2 H3 fun k H4=>tv σ2 H4 fun y H5=>∃ H6,DPut H5 D k y H6/\P (i+1) H6 else P (i+1) H3)
  (hd:∀ H,P xs.length H->Q (.ref D) H):dcompTurns (Itt K a) cap σ H1 D Q g tc tk tv:=by
 refine⟨xs.length,P,p0,fun i H il p=>?_⟩
 have q:=hl i H il p
 by_cases hlt:i<xs.length
 ·refine .inr ⟨hlt,⟨xs,xs[i],q,by simp[hlt]⟩,fun x H' y=>?_⟩
  obtain⟨e,y⟩:=y
  subst e
  exact hs i x _ (y xs q) p
 ·have e:i=xs.length:=by exact zj7 il hlt
  subst e
  exact .inl ⟨⟨xs,q,by simp⟩,hd _ p⟩
end L2
namespace K32
open PySem L2 PyProof.Rows
noncomputable abbrev pairO(x:Tie):HO:=.tup [.int x.1,.int x.2.1]
noncomputable def PairT(H:Hp)(cs:List Addr)(ts:List Tie):Prop:=Paired (fun c x=>H c=some (pairO x)) cs ts
theorem PairT.same{H H':Hp}{cs:List Addr}{ts:List Tie}(h:PairT H cs ts)(s:Same H H'):PairT H' cs ts:=Paired.mapP h fun _ _ z=>s _ _ z
noncomputable def dif(ows:List Int)(x:Tie):Bool:=!decide (ows.getD x.1.toNat 0=ows.getD x.2.1.toNat 0)
theorem atI_getD{gs:List Int}{j:Nat}(h:j<gs.length):atI (gs.map V.int) (j:Int)=some (V.int (gs.getD j 0)):=atI_nat (by rw[zAJ,zF h,zAX,zF h];rfl)
noncomputable def keyT(x:Tie):List Key:=[Sum.inl x.1,Sum.inl x.2.1]
inductive spCbI(vs:List V)(H:Hp)(Q:VK):Prop where
 |mk (t o:Addr) (n:Nat) (ties:List Tie) (ows:List Int) (h1:vs=[.ref t,.ref o]) (h2:WebAt H t n ties) (h3:(∀ x∈ties,TieOk n x)) (h4:H o=some (.tup (ows.map V.int))) (h5:ows.length=n) (h6:∀ (l:Addr) (as:List Addr) (H':Hp),H l=none->H' l=some (.lst (as.map V.ref))->PairT H' as (ties.filter (dif ows))->Same H H'->Q (.ref l) H')
noncomputable def spCb:Sp:=fun vs H Q _=>spCbI vs H Q
inductive spTwI(vs:List V)(H:Hp)(Q:VK):Prop where
 |mk (t:Addr) (n:Nat) (ties:List Tie) (h1:vs=[.ref t]) (h2:WebAt H t n ties) (h3:ties.Pairwise tieLt) (h4:∀ (d:Addr) (kvs:List (List Key×V)) (H':Hp),H' d=some (.dT kvs)->(∀ x∈ties,valV kvs (keyT x)=some (.int x.2.2))->Same H H'->Q (.ref d) H')
noncomputable def spTw:Sp:=fun vs H Q _=>spTwI vs H Q
inductive spWgI(vs:List V)(H:Hp)(Q:VK):Prop where
 |mk (t c:Addr) (n:Nat) (ties ts:List Tie) (as:List Addr) (h1:vs=[.ref t,.ref c]) (h2:WebAt H t n ties) (h3:ties.Pairwise tieLt) (h4:H c=some (.lst (as.map V.ref))) (h5:PairT H as ts) (h6:ts.length<=120) (h7:(∀ x∈ts,x∈ties)) (h8:∀ H',Same H H'->Q (.int (ts.map (·.2.2)).sum) H')
noncomputable def spWg:Sp:=fun vs H Q _=>spWgI vs H Q
section
variable{P:Program}{w:World}{K:PySem.W.Frag}{mg:Str->Option Value}{base:Heap}
noncomputable abbrev nCb:List Str:=["web","owners"]
theorem scCb:FnScope nCb ["web","owners"] (defScope sCutBy):=⟨rfl,rfl,rfl,by decide +kernel,rfl,by decide +kernel,by decide +kernel⟩
theorem csCb1:CompScope ["a","b","weight","owners"] [none,none,none,some 1] nCb (defScope sCutBy) (scO [(".0",.local),("a",.local),("b",.local),("weight",.local),("owners",.free)]):=⟨rfl,by decide +kernel,by decide +kernel,by decide +kernel,rfl,capB_ok (by decide +kernel)⟩
theorem ndCb1:(["a","b","weight","owners"]:List Str).Nodup:=by decide +kernel
theorem ok_cb{f:Addr}{fd:FuncData}(F:Fun K "cut_by" "cut_by" sCutBy f fd):FnOk P w K mg base CX0 1 f fd ["web","owners"] spCb:=by
 refine F.ok scCb (fun vs H Q E h=>?_) (fun cdv A outer s H vs Q E hr h=>?_)
 ·obtain⟨t,o,n,ties,ows,rfl,_⟩:=h
  rfl
 ·obtain⟨t,o,n,ties,ows,rfl,W,ok,go,ol,fin⟩:=h
  obtain⟨⟨ts,bs,h1,h2,h3⟩,len⟩:=id W
  have h3l:bs.length=ties.length:=h3.length
  refine⟨_,(pss_one (ps_ret (pe_comp rfl csCb1 (pi_tup (@pe_ix _ _ _ _ _ _ _ ix_tupH (pvQ 0) pe_int (fun _ _=>rfl))) (fun C s H fp=>(pg_tupK K rfl (n:=3) rfl (pgs_cons (pg_name (i:=0) ndCb1 rfl (Or.inl rfl)) (pgs_cons (pg_name (i:=1) ndCb1 rfl (Or.inl rfl)) (pgs_cons (pg_name (i:=2) ndCb1 rfl (Or.inl rfl)) pgs_nil))) rfl rfl)) (fun C s H fp=>(pf_one (pt_cmpR op_ne (@pe_ix _ _ _ _ _ _ _ ix_tupH (pvQ 3) (pvQ 0) (fun _ _=>rfl)) (@pe_ix _ _ _ _ _ _ _ ix_tupH (pvQ 3) (pvQ 1) (fun _ _=>rfl)) (nomark _)))) (fun C s H fp=>(@pe_tup _ _ _ _ _ (@pa_nam _ _ _ _ _ _ (pvQ 0) (@pa_nam _ _ _ _ _ _ (pvQ 1) pa_nil))))))),?_⟩
  refine⟨t,_,_,_,rfl,rfl,h1,rfl,ts,rfl,⟨_,SqT.of h2⟩,?_⟩
  refine comp_tup (K:=K) (a:=ts) (xs:=bs.map V.ref) (fun j ys G=>Same H G/\∃ cs:List Addr,ys=cs.map V.ref/\PairT G cs ((ties.take j).filter (dif ows))) (by rw[zB,sizeLine_eq];exact zh9 (zl1 len rfl) h3l) ⟨Same.refl _,[],rfl,.nil⟩ (fun j ys G _ z=>SqT.of (z.1 _ _ h2)) ?_ ?_
  ·rintro j x ys G hx ⟨sG,cs,rfl,TC⟩
   obtain⟨il,e⟩:=zH.mp hx
   rw[zB]at il
   rw[zO]at e
   subst e
   have it:j<ties.length:=by exact zh7 il h3l
   have hx:=sG _ _ (Paired.at h3 j il it)
   obtain⟨o1,o2,o3,o4,o5⟩:=ok _ (zX it)
   have go':=sG _ _ go
   rw[zL it,List.filter_append]
   generalize ties[j]=x at *
   obtain⟨u,v,c⟩:=x
   have o1:0<=u:=o1
   have o2:u<v:=o2
   have o3:v <(n:Int):=o3
   obtain⟨u,rfl⟩:∃ a':Nat,u=(a':Int):=⟨u.toNat,by lia⟩
   obtain⟨v,rfl⟩:∃ b':Nat,v=(b':Int):=⟨v.toNat,by lia⟩
   have ed:dif ows ((u:Int),(v:Int),c) = !decide (ows.getD u 0=ows.getD v 0):=rfl
   refine⟨bs[j],_,rfl,SqT.of hx,rfl,_,_,rfl,_,_,rfl,_,_,rfl,rfl,⟨rfl,trivial⟩,?_⟩
   refine⟨o,_,_,_,rfl,rfl,go',atI_getD (by lia),o,_,_,_,rfl,rfl,go',atI_getD (by lia),rfl,_,rfl,?_⟩
   refine ite2 (fun hc=>?_) (fun hc=>?_)
   ·have ne:¬ ows.getD u 0=ows.getD v 0:=fun z=>by rw[z]at hc;simp at hc
    refine⟨(by show 2<=sizeLine;decide),fun tp htp=>?_⟩
    have sT:=Same.new (o:=pairO ((u:Int),(v:Int),c)) htp
    refine⟨sG.trans sT,cs++[tp],by rw[zU];rfl,PairedApp (TC.same sT) ?_⟩
    rw[zDG (by rw[ed,decide_eq_false ne];rfl)]
    exact .cons upd_same .nil
   ·have ne:ows.getD u 0=ows.getD v 0:=by simpa using hc
    refine⟨sG,cs,rfl,?_⟩
    rw[zDH (by rw[ed,decide_eq_true ne];decide),List.filter_nil,zCY]
    exact TC
  rintro ys G yl ⟨sG,cs,rfl,TC⟩ D hD
  rw[zB,h3l,zAP]at TC
  have sD:=Same.new (o:=.lst (cs.map V.ref)) hD
  exact fin D cs _ (sG.free hD) upd_same (TC.same sD) (sG.trans sD)
noncomputable abbrev nTw:List Str:=["web"]
theorem scTw:FnScope nTw ["web"] (defScope sTieWeights):=⟨rfl,rfl,rfl,by decide +kernel,rfl,by decide +kernel,by decide +kernel⟩
theorem csTw1:CompScope ["a","b","weight"] [none,none,none] nTw (defScope sTieWeights) (scO [(".0",.local),("a",.local),("b",.local),("weight",.local)]):=⟨rfl,by decide +kernel,by decide +kernel,by decide +kernel,rfl,capB_ok (by decide +kernel)⟩
theorem ndTw1:(["a","b","weight"]:List Str).Nodup:=by decide +kernel
theorem ok_tw{f:Addr}{fd:FuncData}(F:Fun K "tie_weights" "tie_weights" sTieWeights f fd):FnOk P w K mg base CX0 1 f fd ["web"] spTw:=by
 refine F.ok scTw (fun vs H Q E h=>?_) (fun cdv A outer s H vs Q E hr h=>?_)
 ·obtain⟨t,n,ties,rfl,_⟩:=h
  rfl
 ·obtain⟨t,n,ties,rfl,W,pw,q⟩:=h
  obtain⟨⟨ts,as,h1,h2,h3⟩,len⟩:=id W
  have h3l:as.length=ties.length:=h3.length
  have hu0:_<cLine:=hr.units0
  refine⟨_,(pss_one (ps_ret (pe_dcomp true hu0 rfl csTw1 (pi_tup (@pe_ix _ _ _ _ _ _ _ ix_tupH (pvQ 0) pe_int (fun _ _=>rfl))) (fun C s H fp=>(pg_tupK K rfl (n:=3) rfl (pgs_cons (pg_name (i:=0) ndTw1 rfl (Or.inl rfl)) (pgs_cons (pg_name (i:=1) ndTw1 rfl (Or.inl rfl)) (pgs_cons (pg_name (i:=2) ndTw1 rfl (Or.inl rfl)) pgs_nil))) rfl rfl)) (fun C s H fp=>pf_nil) (fun C s H fp=>(@pe_tup _ _ _ _ _ (@pa_nam _ _ _ _ _ _ (pvQ 0) (@pa_nam _ _ _ _ _ _ (pvQ 1) pa_nil)))) (fun C s H fp=>(pvQ 2))))),?_⟩
  refine⟨t,_,_,_,rfl,rfl,h1,rfl,ts,rfl,⟨_,SqT.of h2⟩,fun D hD=>?_⟩
  refine dcomp_tup' (K:=K) (a:=ts) (xs:=as.map V.ref) (fun i G=>Same H G/\∃ kvs,G D=some (.dT kvs)/\kvs.length<=i/\∀ x∈ties.take i,valV kvs (keyT x)=some (.int x.2.2)) ⟨Same.new hD,[],upd_same,zJ _,fun _ h=>nomatch h⟩ (fun i G _ z=>z.1.tupq (SqT.of h2)) ?_ ?_
  ·rintro i x G hx ⟨sm,kvs,gD,kl,kv⟩
   obtain⟨il,e⟩:=zH.mp hx
   rw[zB]at il
   rw[zO]at e
   subst e
   have it:i<ties.length:=by exact zh7 il h3l
   have hx:=sm _ _ (Paired.at h3 i il it)
   refine⟨as[i],_,rfl,SqT.of hx,rfl,_,_,rfl,_,_,rfl,_,_,rfl,rfl,trivial,tTru_if ⟨(by show 2<=sizeLine;decide),fun tp htp=>?_⟩⟩
   have sT:=Same.new (o:=pairO ties[i]) htp
   have gD2:=sT _ _ gD
   refine⟨_,DPut.t (k:=keyT ties[i]) gD2 upd_same (by rw[sizeLine_eq];exact zfi len h3l kl il),fun b o e=>?_,_,upd_same,?_,fun x hx=>?_⟩
   ·have n1:b≠D:=ne_of_none e hD
    rw[upd_ne n1]
    exact sT _ _ (sm _ _ e)
   ·have:=length_putK kvs (keyT ties[i]) (V.int ties[i].2.2)
    lia
   ·rw[valV_put]
    rw[zL it]at hx
    rcases zAD.mp hx with hx | hx
    ·obtain⟨j,hj,e⟩:=zBG hx
     rw[zBF]at hj
     rw[List.getElem_take]at e
     have lt:=zBX.mp pw j i (by exact zcf h3l il hj) it (by exact zdb h3l il hj)
     rw[if_neg,kv x hx]
     intro z
     have z:keyT x=keyT ties[i]:=z
     rw[<- e]at z
     have z':([ties[j].1,ties[j].2.1]:List Int)=[ties[i].1,ties[i].2.1]:=by
      unfold keyT at z
      simp only[List.cons.injEq,Sum.inl.injEq,and_true]at z
      rw[z.1,z.2]
     unfold tieLt at lt
     rw[z']at lt
     have ir:∀ l:List Int,Srt.lexlt l l=false:=fun l=>by
      induction l with
      |nil=>rfl
      |cons a l ih=>simp[Srt.lexlt,ih]
     rw[ir]at lt
     cases lt
    ·have e:=zZ.mp hx
     subst e
     rw[if_pos rfl]
  ·rintro G ⟨sm,kvs,gD,kl,kv⟩
   rw[zB,h3l,zAP]at kv
   exact q D kvs G gD kv sm
noncomputable abbrev nWg:List Str:=["web","cut","weights"]
theorem scWg:FnScope nWg ["web","cut"] (defScope sWeightOf):=⟨rfl,rfl,rfl,by decide +kernel,rfl,by decide +kernel,by decide +kernel⟩
theorem csWg1:CompScope ["pair","weights"] [none,some 2] nWg (defScope sWeightOf) (scO [(".0",.local),("pair",.local),("weights",.free)]):=⟨rfl,by decide +kernel,by decide +kernel,by decide +kernel,rfl,capB_ok (by decide +kernel)⟩
theorem ndWg1:(["pair","weights"]:List Str).Nodup:=by decide +kernel
theorem ok_wg{f g:Addr}{fd gd:FuncData}(F:Fun K "weight_of" "weight_of" sWeightOf f fd)(T:Txt mg)(GT:CalF P w K mg base 1 "tie_weights" ["web"] spTw g gd):FnOk P w K mg base CX0 2 f fd ["web","cut"] spWg:=by
 refine F.ok scWg (fun vs H Q E h=>?_) (fun cdv A outer s H vs Q E hr h=>?_)
 ·obtain⟨t,c,n,ties,tt,as,rfl,_⟩:=h
  rfl
 ·obtain⟨t,c,n,ties,tt,as,rfl,W,pw,hc,pt,tl,sub,fin⟩:=h
  have hu:=hu_of hr
  have al:as.length=tt.length:=Paired.length pt
  refine⟨_,(pss_cons (ps_set (i:=2) scWg.nd rfl (Or.inr rfl) (pe_call GT.ok hr rfl GT.mg GT.kp GT.bd .nil pass0 (@pa_nam _ _ _ _ _ _ (pvQ 0) pa_nil)))
   (pss_one (ps_ret (pe_callB (call_sumH rfl) (by rfl) T.sum boot_sum (@pa_comp _ _ _ _ _ _ _ _ (pe_comp rfl csWg1 (pi_list (pvQ 1)) (fun C s H fp=>(pg_name (i:=0) ndWg1 rfl (Or.inl rfl))) (fun C s H fp=>pf_nil) (fun C s H fp=>(pe_dget hu (pvQ 1) (pvQ 0) (fun _ _=>rfl)))) pa_nil))))),?_⟩
  refine⟨t,n,ties,rfl,W,pw,fun d kvs H1 gd kv s1=>?_⟩
  refine⟨c,rfl,⟨_,SqL.of (s1 _ _ hc)⟩,?_⟩
  refine comp_list (K:=K) (a:=c) (xs:=as.map V.ref) (fun i ys G=>Same H1 G/\ys=((tt.take i).map (·.2.2)).map V.int) (by rw[zB,sizeLine_eq];exact zh9 (zl1 tl rfl) al) ⟨Same.refl _,rfl⟩ (fun i ys G _ z=>SqL.of (z.1 _ _ (s1 _ _ hc))) ?_ ?_
  ·rintro i x ys G hx ⟨sm,rfl⟩
   obtain⟨il,e⟩:=zH.mp hx
   rw[zB]at il
   rw[zO]at e
   subst e
   have it:i<tt.length:=by exact zh7 il al
   have a1:=(s1.trans sm) _ _ (Paired.at pt i il it)
   have g0:DGet G d (V.ref as[i]) (valV kvs (keyT tt[i])):=DGet.t (sm _ _ gd) a1
   rw[kv _ (sub _ (zX it))]at g0
   refine⟨⟨rfl,trivial⟩,tTru_if ⟨d,_,rfl,g0,sm,?_⟩⟩
   rw[zL it,zU,zU]
   rfl
  ·rintro ys G _ ⟨sm,rfl⟩ D hD
   rw[zB,al,zAP]
   exact⟨D,_,rfl,upd_same,fin _ (s1.trans (sm.trans (Same.new hD)))⟩
end
end K32
namespace Srt
open PySem PySem.W PyProof.Rows
open PySem.AutoSeq1 (wpAny_loadPart')
end Srt
namespace L2
open PySem PySem.W PyProof.Rows Srt
open PySem PySem.W PyProof.Rows Srt
open PySem PySem.W PyProof.Rows Srt
open PySem PySem.W PyProof.Rows Srt
end L2
namespace Srt
open PySem PySem.W PyProof.Rows
section
variable{d it:Addr}{ks:List Value}{ep i:Nat}{g g':Heap}{prog:Program}{w:World}{A:Around}{E:Value->Shared->Prop}{s:Shared}
theorem nextD_item{v:Value}{Q:Value->Shared->Prop}(hI:s.heap.IsKeyIter it d i ks.length ep)(x:RawD d ks ep s.heap)(hv:ks[i]?=some v)
  (q:∀ g',g'.IsKeyIter it d (i+1) ks.length ep->Heap.SameBut it s.heap g'->Q v { s with heap:=g' }):wpAny (model prog w) A (Builtin.SmallTypes.nextOf (.ref it)) Q E s:=by
 obtain⟨io,a0,c0,d0⟩:=id hI
 obtain⟨ob,en,a,c,dt,ke⟩:=x
 have len:en.size=ks.length:=by rw[<- ke];simp
 unfold Builtin.SmallTypes.nextOf;refine zA (wpAny_callSpecial?_slot (name:=Str.ofString "__next__") hI.typeIs F.slot_dict_keyiterator_next (wpAny_call_entry F.slot_dict_keyiterator_next hI.typeIs F.entry_dict_keyiterator_next ?_ (F.args_dict_keyiterator_next_1 _)))
 refine zA (zG (zA (zA ?_)))
 first | refine zA (wpAny_typeNameOfWhole_keyiter hI.typeIs (zG ?_)) | refine zA (wpAny_typeNameOf_keyiter hI.typeIs (zG ?_))
 refine zA (wpAny_fieldsOf a0 d0 ?_);have own:Builtin.Dict_items.ownsTuple "dict_keyiterator" = false:=by decide
 simp only[own,zCE,if_false];show wpAny _ _ (if(Value.ref d == Value.none)=true then _ else _) _ _ s
 rw[if_neg (show ¬((Value.ref d == Value.none)=true)from zW)];refine zA (zG (zA (wpAny_dictEntries a dt ?_)))
 rw[if_neg (by rw[len];simp)];refine zA (zG (zA (wpAny_dictEpoch a dt ?_)))
 rw[if_neg (by simp)];refine zG ?_
 have il:i<en.size:=by rw[len];exact(zH.mp hv).1
 have iv:en[i].key=v:=by
  have z:(en.toList.map (fun r=>r.key))[i]?=some en[i].key:=by rw[zAJ,zBR,zAS il];rfl
  rw[ke,hv]at z
  exact(Option.some.inj z).symm
 simp only[show ¬((i:Int)<0)from by lia,if_false,zAQ,zAS il];refine zA ?_
 first | refine zA (wpAny_typeNameOfWhole_keyiter hI.typeIs (zG ?_)) | refine zA (wpAny_typeNameOf_keyiter hI.typeIs (zG ?_))
 refine zA (wpAny_isOneOf_keyiter hI.typeIs ?_);show wpAny _ _ (setField (.ref it) 1 (rawInt ((i:Int)+1)) >>= _) _ _ s
 refine zA (wpAny_setField a0 d0 (by simp) ?_)
 have hI':(s.heap.update it (Obj.mapFields (·.setIfInBounds 1 (rawInt ((i:Int)+1))))).IsKeyIter it d (i+1) ks.length ep:=⟨_,Heap.get?_update_self _ a0 (Obj.isFreed_of_fields (Obj.data_mapFields d0 _)),(Obj.cls_mapFields ..).trans c0,by rw[Obj.data_mapFields d0];simp[rawInt]⟩
 refine zA (wpAny_holding (zA (wpAny_isOneOf_keyiter (s:={ s with heap:=s.heap.update it (Obj.mapFields (·.setIfInBounds 1 (rawInt ((i:Int)+1)))) }) hI'.typeIs ?_)))
 show wpAny _ _ (pure en[i].key) _ _ _;rw[iv]
 exact zG (zG ⟨_,rfl,zG (q _ hI' (Heap.SameBut.update ..))⟩)
noncomputable def ZipF(g:Heap)(z ti to:Addr)(m:Value)(fl:Bool):Prop:=g.get? z=some { cls:=.type "zip",dict:=none,data:=.fields #[m,.bool fl,.bool false,.ref ti,.ref to],slots:=#[] }
variable{z ti to i1 i2 l1 l2:Addr}{k:Nat}{xs:Array Value}{x y a b:Value}
theorem zipD_first{Q:Value->Shared->Prop}(D:ZA z ti to i1 i2)(o1:Off z to i1 i2 l1)(o2:Off z to i1 i2 l2)
  (hz:IsZip s.heap z ti to .none) (hTI:IsPair s.heap ti (.ref i1) (.ref i2)) (hTO:IsPair s.heap to a b) (h1:s.heap.IsListIter i1 l1 k) (h2:s.heap.IsKeyIter i2 l2 k ks.length ep) (hl1:s.heap.IsList l1 xs) (hl2:RawD l2 ks ep s.heap) (hx:xs[k]?=some x) (hy:ks[k]?=some y)
  (q:∀ g,IsZip g z ti to (rawInt s.heap.objs.size)->IsPair g to x y->g.IsListIter i1 l1 (k+1)->g.IsKeyIter i2 l2 (k+1) ks.length ep->IsPair g s.heap.objs.size x y->(∀ c o,c≠z->c≠to->c≠i1->c≠i2->s.heap.get? c=some o->g.get? c=some o)->Q (.ref s.heap.objs.size) { s with heap:=g }) :
  wpAny (model prog w) A (Builtin.«zip.__next__» ⟨[.ref z],[]⟩) (fun fin s'=>∃ v,fin = .done (.ret v)/\Q v s') E s:=by
 have kt:∀ {g g':Heap}{j:Nat},g.IsKeyIter i2 l2 j ks.length ep->(∀ o,g.get? i2=some o->g'.get? i2=some o)->g'.IsKeyIter i2 l2 j ks.length ep:=fun {g g' j} h f=>h.at f
 show wpAny _ _ (field (.ref z) 2 >>= _) _ _ _;refine zA (wpAny_field hz rfl (x:=.bool false) rfl ?_)
 show wpAny _ _ (field (.ref z) 3 >>= _) _ _ _;refine zA (wpAny_field hz rfl (x:=.ref ti) rfl (zA (wpAny_seqItems hTI rfl ?_)))
 show wpAny _ _ (Builtin.SmallTypes.ownedTupleIsFree (.ref z) >>= _) _ _ _;refine zA ?_
 unfold Builtin.SmallTypes.ownedTupleIsFree;refine zA (wpAny_field hz rfl (x:=.none) rfl (zG ?_))
 simp only[if_true];refine zA (wpAny_rule (zA (wpAny_field hz rfl (x:=.ref to) rfl (zA (wpAny_setField_rec hz (by simp) fun g1 z1 e1=>?_)))))
 replace z1:IsZip g1 z ti to .ellipsis:=z1
 refine zA ?_;simp only[List.zipIdx_cons,List.zipIdx_nil,List.forIn_cons,List.forIn_nil]
 refine zA (zA (wpAny_onRaise ?_));show wpAny _ _ (Builtin.SmallTypes.nextOf (.ref i1) >>= _) _ _ _
 refine zA (wpAny_nextOf_list_item (h1.at fun o e=>e1.extBut _ _ D.a3 e) (hl1.at fun o e=>e1.extBut _ _ o1.1 e) hx fun g2 n2 e2=>zG ?_)
 have t2:IsPair g2 to a b:=e2.extBut _ _ D.a8 (e1.extBut _ _ D.a2 hTO)
 refine zA (wpAny_seqItems t2 rfl (zA (wpAny_updateSeq_pair t2 fun g3 t3 e3=>?_)))
 replace t3:IsPair g3 to x b:=t3
 refine zA (wpAny_letGo (zG (zA (zA (wpAny_onRaise ?_)))));show wpAny _ _ (Builtin.SmallTypes.nextOf (.ref i2) >>= _) _ _ _
 refine zA (nextD_item (kt (kt (kt h2 fun o e=>e1.extBut _ _ D.a4 e) fun o e=>e2.extBut _ _ (Ne.symm D.a10) e) fun o e=>e3.extBut _ _ (Ne.symm D.a9) e) (((hl2.to fun o e=>e1.extBut _ _ o2.1 e).to fun o e=>e2.extBut _ _ o2.2.2.1 e).to fun o e=>e3.extBut _ _ o2.2.1 e) hy fun g4 n4 e4=>zG ?_)
 have t4:IsPair g4 to x b:=e4.extBut _ _ D.a9 t3
 refine zA (wpAny_seqItems t4 rfl (zA (wpAny_updateSeq_pair t4 fun g5 t5 e5=>?_)))
 replace t5:IsPair g5 to x y:=t5
 refine zA (wpAny_letGo (zG (zG (zA (wpAny_seqItems t5 rfl (zA (wpAny_newTuple ?_)))))))
 have sz:g5.objs.size=s.heap.objs.size:=by rw[e5.1,e4.1,e3.1,e2.1,e1.1]
 have z5:IsZip g5 z ti to .ellipsis:=e5.extBut _ _ (Ne.symm D.a2) (e4.extBut _ _ (Ne.symm D.a4) (e3.extBut _ _ (Ne.symm D.a2) (e2.extBut _ _ (Ne.symm D.a3) z1)))
 have k5:∀ c o,c≠z->c≠to->c≠i1->c≠i2->s.heap.get? c=some o->g5.get? c=some o:=fun c o c1 c2 c3 c4 e=>e5.extBut _ _ c2 (e4.extBut _ _ c4 (e3.extBut _ _ c2 (e2.extBut _ _ c3 (e1.extBut _ _ c1 e))))
 have n15:g5.IsListIter i1 l1 (k+1):=((n2.at fun o e=>e3.extBut _ _ (Ne.symm D.a8) e).at fun o e=>e4.extBut _ _ D.a10 e).at fun o e=>e5.extBut _ _ (Ne.symm D.a8) e
 have n25:g5.IsKeyIter i2 l2 (k+1) ks.length ep:=kt n4 fun o e=>e5.extBut _ _ (Ne.symm D.a9) e
 show wpAny _ _ (Builtin.SmallTypes.ownedTupleHandOut (.ref z) (.ref g5.objs.size) >>= _) _ _ _;refine zA ?_
 unfold Builtin.SmallTypes.ownedTupleHandOut
 have z6:IsZip (g5.push { cls:=.type "tuple",data:=.seq #[x,y] }) z ti to .ellipsis:=zD _ z5
 refine zA (wpAny_setField_rec z6 (by simp) fun g7 z7 e7=>?_)
 replace z7:IsZip g7 z ti to (rawInt g5.objs.size):=z7
 refine wpAny_setField_rec z7 (by simp) fun g8 z8 e8=>?_
 replace z8:IsZip g8 z ti to (rawInt g5.objs.size):=z8
 have up:∀ c o,c≠z->g5.get? c=some o->g8.get? c=some o:=fun c o c1 e=>e8.extBut _ _ c1 (e7.extBut _ _ c1 (zD _ e))
 have zlt:z<g5.objs.size:=zN z5
 have p8:IsPair g8 g5.objs.size x y:=e8.extBut _ _ (zBO zlt) (e7.extBut _ _ (zBO zlt) (zS _ rfl))
 rw[sz]at z8 p8
 refine zG ⟨_,rfl,?_⟩
 show Q (.ref g5.objs.size) _;rw[sz]
 exact q g8 z8 (up _ _ D.a2 t5) (n15.at fun o e=>up _ o D.a3 e) (kt n25 fun o e=>up _ o D.a4 e) p8 fun c o c1 c2 c3 c4 e=>up c o c1 (k5 c o c1 c2 c3 c4 e)
theorem wpAny_alive{M:Model}{a:Addr}{Q:Option Obj->Shared->Prop}(h:Q (s.heap.get? a) s):wpAny M A (loadIfAlive a) Q E s:=fun Γ p _=>by
 unfold loadIfAlive
 rw[Sem.wp_loadIfAlive]
 exact Sem.wp_pure .. |>.mpr h
theorem zip_busy{m:Addr}{fl:Bool}{Q:Bool->Shared->Prop}(hz:ZipF s.heap z ti to (rawInt m) fl)(hm:∃ o,s.heap.get? m=some o)(q:∀ g,ZipF g z ti to (rawInt m) true->Heap.SameBut z s.heap g->Q false { s with heap:=g }):wpAny (model prog w) A (Builtin.SmallTypes.ownedTupleIsFree (.ref z)) Q E s:=by
 obtain⟨o,ho⟩:=hm
 unfold Builtin.SmallTypes.ownedTupleIsFree
 refine zA (wpAny_field hz rfl (x:=rawInt m) rfl ?_)
 show wpAny _ _ (loadIfAlive ((m:Int).toNat) >>= _) _ _ s
 refine zA (wpAny_alive ?_)
 rw[zAQ,ho]
 show wpAny _ _ (field (.ref z) 1 >>= _) _ _ s
 refine zA (wpAny_field hz rfl (x:=.bool fl) rfl ?_)
 cases fl with
 |true=>exact zG (q s.heap hz ⟨rfl,fun b hb=>rfl⟩)
 |false=>exact zA (wpAny_setField_rec hz (by simp) fun g1 z1 e1=>zG (q g1 z1 e1))
theorem zipD_more{m:Addr}{fl:Bool}{Q:Value->Shared->Prop}(D:ZA z ti to i1 i2)(o1:Off z to i1 i2 l1)(o2:Off z to i1 i2 l2)
  (hz:ZipF s.heap z ti to (rawInt m) fl) (hm:∃ o,s.heap.get? m=some o) (hTI:IsPair s.heap ti (.ref i1) (.ref i2)) (h1:s.heap.IsListIter i1 l1 k) (h2:s.heap.IsKeyIter i2 l2 k ks.length ep) (hl1:s.heap.IsList l1 xs) (hl2:RawD l2 ks ep s.heap) (hx:xs[k]?=some x) (hy:ks[k]?=some y)
  (q:∀ g,ZipF g z ti to (rawInt m) true->g.IsListIter i1 l1 (k+1)->g.IsKeyIter i2 l2 (k+1) ks.length ep->IsPair g s.heap.objs.size x y->(∀ c o,c≠z->c≠i1->c≠i2->s.heap.get? c=some o->g.get? c=some o)->Q (.ref s.heap.objs.size) { s with heap:=g }) :
  wpAny (model prog w) A (Builtin.«zip.__next__» ⟨[.ref z],[]⟩) (fun fin s'=>∃ v,fin = .done (.ret v)/\Q v s') E s:=by
 have kt:∀ {g g':Heap}{j:Nat},g.IsKeyIter i2 l2 j ks.length ep->(∀ o,g.get? i2=some o->g'.get? i2=some o)->g'.IsKeyIter i2 l2 j ks.length ep:=fun {g g' j} h f=>h.at f
 show wpAny _ _ (field (.ref z) 2 >>= _) _ _ _;refine zA (wpAny_field hz rfl (x:=.bool false) rfl ?_)
 show wpAny _ _ (field (.ref z) 3 >>= _) _ _ _;refine zA (wpAny_field hz rfl (x:=.ref ti) rfl (zA (wpAny_seqItems hTI rfl ?_)))
 show wpAny _ _ (Builtin.SmallTypes.ownedTupleIsFree (.ref z) >>= _) _ _ _
 refine zA (zip_busy hz hm fun g1 z1 e1=>?_)
 simp only[zCE,if_false]
 refine zA ?_
 simp only[<- Array.forIn_toList,List.forIn_cons,List.forIn_nil]
 refine zA (zA (wpAny_holding ?_));show wpAny _ _ (Builtin.SmallTypes.nextOf (.ref i1) >>= _) _ _ _
 refine zA (wpAny_nextOf_list_item (h1.at fun o e=>e1.extBut _ _ D.a3 e) (hl1.at fun o e=>e1.extBut _ _ o1.1 e) hx fun g2 n2 e2=>zG ?_)
 refine zG (zA (zA (wpAny_holding ?_)));show wpAny _ _ (Builtin.SmallTypes.nextOf (.ref i2) >>= _) _ _ _
 refine zA (nextD_item (kt (kt h2 fun o e=>e1.extBut _ _ D.a4 e) fun o e=>e2.extBut _ _ (Ne.symm D.a10) e) ((hl2.to fun o e=>e1.extBut _ _ o2.1 e).to fun o e=>e2.extBut _ _ o2.2.2.1 e) hy fun g3 n3 e3=>zG ?_)
 refine zG (zG (zA (wpAny_newTuple (zG ⟨_,rfl,?_⟩) (by show 2<=sizeLine;decide))))
 have sz:g3.objs.size=s.heap.objs.size:=by rw[e3.1,e2.1,e1.1]
 show Q (.ref g3.objs.size) _
 rw[sz]
 have up:∀ c o,c≠z->c≠i1->c≠i2->s.heap.get? c=some o->g3.get? c=some o:=fun c o c1 c2 c3 e=>e3.extBut _ _ c3 (e2.extBut _ _ c2 (e1.extBut _ _ c1 e))
 have pp:=zS g3 (o:={ cls:=.type "tuple",data:=.seq #[x,y] }) rfl
 rw[sz]at pp
 exact q _ (zD _ (e3.extBut _ _ (Ne.symm D.a4) (e2.extBut _ _ (Ne.symm D.a3) z1))) ((n2.at fun o e=>e3.extBut _ _ D.a10 e).at fun o e=>zD _ e) (kt n3 fun o e=>zD _ e) pp fun c o c1 c2 c3 e=>zD _ (up c o c1 c2 c3 e)
theorem zipD_end{m:Addr}{fl:Bool}{Q:Fin->Shared->Prop}(hh:A.handled=none)(D:ZA z ti to i1 i2)(o1:Off z to i1 i2 l1)
  (hz:ZipF s.heap z ti to (rawInt m) fl) (hm:∃ o,s.heap.get? m=some o) (hTI:IsPair s.heap ti (.ref i1) (.ref i2)) (h1:s.heap.IsListIter i1 l1 k) (hl1:s.heap.IsList l1 xs) (hx:xs[k]?=none)
  (q:∀ g e,(∀ c o,c≠z->c≠i1->s.heap.get? c=some o->g.get? c=some o)->(∃ o,g.get? e=some o/\o.cls = .type "StopIteration")->E (.ref e) { s with heap:=g }) :
  wpAny (model prog w) A (Builtin.«zip.__next__» ⟨[.ref z],[]⟩) Q E s:=by
 show wpAny _ _ (field (.ref z) 2 >>= _) _ _ _;refine zA (wpAny_field hz rfl (x:=.bool false) rfl ?_)
 show wpAny _ _ (field (.ref z) 3 >>= _) _ _ _;refine zA (wpAny_field hz rfl (x:=.ref ti) rfl (zA (wpAny_seqItems hTI rfl ?_)))
 show wpAny _ _ (Builtin.SmallTypes.ownedTupleIsFree (.ref z) >>= _) _ _ _
 refine zA (zip_busy hz hm fun g1 z1 e1=>?_)
 simp only[zCE,if_false]
 refine zA ?_
 simp only[<- Array.forIn_toList,List.forIn_cons,List.forIn_nil]
 refine zA (zA (wpAny_holding ?_));show wpAny _ _ (Builtin.SmallTypes.nextOf (.ref i1) >>= _) _ _ _
 refine zA (wpAny_nextOf_list_end hh (h1.at fun o e=>e1.extBut _ _ D.a3 e) (hl1.at fun o e=>e1.extBut _ _ o1.1 e) hx fun g2 e e2 he=>?_)
 exact q g2 e (fun c o c1 c2 x=>e2 _ _ c2 (e1.extBut _ _ c1 x)) he
noncomputable abbrev zD2(g:Heap)(l1 l2:Addr)(n ep:Nat):Heap:=(g.push (itO false l1)).push { cls:=.type "dict_keyiterator",data:=.fields #[.ref l2,.int 0 0,.int n 0,.int ep 0] }
noncomputable abbrev zD3(g:Heap)(l1 l2:Addr)(n ep:Nat):Heap:=(zD2 g l1 l2 n ep).push { cls:=.type "tuple",data:=.seq #[.ref g.objs.size,.ref (g.push (itO false l1)).objs.size] }
noncomputable abbrev zD4(g:Heap)(l1 l2:Addr)(n ep:Nat):Heap:=(zD3 g l1 l2 n ep).push { cls:=.type "tuple",data:=.seq #[.none,.none] }
noncomputable abbrev zD5(g:Heap)(l1 l2:Addr)(n ep:Nat):Heap:=(zD4 g l1 l2 n ep).push { cls:=.type "zip",data:=.fields #[.none,.bool false,.bool false,.ref (zD2 g l1 l2 n ep).objs.size,.ref (zD3 g l1 l2 n ep).objs.size] }
theorem zipD_new(l1 l2:Addr)(nd:(l2 == sysModules)=false)(xs:Array Value)(ks:List Value)(ep:Nat):Meets (Builtin.«zip.__new__» ⟨[.type "zip",.ref l1,.ref l2],[]⟩) (fun _ R s=>s.heap.IsList l1 xs/\RawD l2 ks ep s.heap/\R (.ok (.ret (.ref (zD4 s.heap l1 l2 ks.length ep).objs.size))) { s with heap:=zD5 s.heap l1 l2 ks.length ep }) :=
 .of_wp fun prog w A R s h=>by
  obtain⟨hp,g,d,tk,os⟩:=s
  obtain⟨hl1,hl2,h⟩:=h
  have hsub:=sub_zip
  have hL1:SeqK false (Shared.heap ⟨hp,g,d,tk,os⟩) l1 xs:=hl1
  have hL2:RawD l2 ks ep (Shared.heap ⟨hp.push (itO false l1),g,d,tk,os⟩):=hl2.to fun o e=>zD _ e
  wp_walk using pyIterK hL1,rawIter nd hL2
  exact⟨_,rfl,h⟩
end
open PySem PySem.W PyProof.Rows
theorem zip_no_len:typeLookup (.type "zip") "__len__" = pure none:=by rw[typeLookup_type,builtinLookup_eq_fast];kernel_rfl
theorem zip_no_hint:typeLookup (.type "zip") "__length_hint__" = pure none:=by rw[typeLookup_type,builtinLookup_eq_fast];kernel_rfl
structure ZS(z ti to i1 i2 l d:Addr)(xs:Array Value)(ks:List Value)(ep k:Nat)(g:Heap):Prop where
 st:(k=0/\IsZip g z ti to .none/\∃ a b,IsPair g to a b)\/(0<k/\∃ (m:Addr) (fl:Bool) (x y:Value),ZipF g z ti to (rawInt m) fl/\IsPair g m x y)
 ti:IsPair g ti (.ref i1) (.ref i2)
 i1:g.IsListIter i1 l k
 i2:g.IsKeyIter i2 d k ks.length ep
 l:g.IsList l xs
 d:RawD d ks ep g
section
variable{z ti to i1 i2 l d S:Addr}{xs:Array Value}{ks:List Value}{ep k:Nat}{g g':Heap}
theorem ZS.keep(h:ZS z ti to i1 i2 l d xs ks ep k g)(ss:∃ a n,g.get? S=some (seqObj "list" a n))(nS:S≠z/\S≠i1/\S≠i2/\S≠l/\S≠d)(kp:∀ b o,b≠S->g.get? b=some o->g'.get? b=some o):ZS z ti to i1 i2 l d xs ks ep k g':=by
 obtain⟨n1,n2,n3,n4,n5⟩:=nS
 obtain⟨a,n,eS⟩:=ss
 have pr:∀ {m:Addr}{x y:Value},IsPair g m x y->IsPair g' m x y:=fun {m x y} e=>kp _ _ (fun w=>by
  have e':g.get? S=_:=w▸e
  rw[eS]at e'
  exact absurd (show Value.type "list" = Value.type "tuple" from congrArg Obj.cls (Option.some.inj e')) (by decide)) e
 refine⟨?_,pr h.ti,h.i1.at fun o e=>kp _ _ (Ne.symm n2) e,h.i2.at fun o e=>kp _ _ (Ne.symm n3) e,h.l.at fun o e=>kp _ _ (Ne.symm n4) e,h.d.to fun o e=>kp _ _ (Ne.symm n5) e⟩
 rcases h.st with⟨e,h1,a,b,h2⟩ |⟨e,m,fl,x,y,h1,h2⟩
 ·exact .inl ⟨e,kp _ _ (Ne.symm n1) h1,a,b,pr h2⟩
 ·exact .inr ⟨e,m,fl,x,y,kp _ _ (Ne.symm n1) h1,pr h2⟩
theorem ZS.all(h:ZS z ti to i1 i2 l d xs ks ep k g)(kp:∀ b o,g.get? b=some o->g'.get? b=some o):ZS z ti to i1 i2 l d xs ks ep k g':=by
 refine⟨?_,kp _ _ h.ti,h.i1.at fun o e=>kp _ _ e,h.i2.at fun o e=>kp _ _ e,h.l.at fun o e=>kp _ _ e,h.d.to fun o e=>kp _ _ e⟩
 rcases h.st with⟨e,h1,a,b,h2⟩ |⟨e,m,fl,x,y,h1,h2⟩
 ·exact .inl ⟨e,kp _ _ h1,a,b,kp _ _ h2⟩
 ·exact .inr ⟨e,m,fl,x,y,kp _ _ h1,kp _ _ h2⟩
theorem ZS.ty{s:Shared}(h:ZS z ti to i1 i2 l d xs ks ep k s.heap):s.TypeIs (.ref z) "zip":=by
 rcases h.st with⟨_,h1,_⟩ |⟨_,_,_,_,_,h1,_⟩
 ·exact⟨_,h1,rfl⟩
 ·exact⟨_,h1,rfl⟩
end
section
variable{prog:Program}{w:World}{A:Around}{E:Value->Shared->Prop}{z ti to i1 i2 l d:Addr}{xs:Array Value}{ks:List Value}{ep:Nat}
theorem zs_item{s:Shared}{k:Nat}{x y:Value}{Q:Option Value->Shared->Prop}(D:ZA z ti to i1 i2)(o1:Off z to i1 i2 l)(o2:Off z to i1 i2 d)(hs:ZS z ti to i1 i2 l d xs ks ep k s.heap)(hx:xs[k]?=some x)(hy:ks[k]?=some y)
  (q:∀ g,ZS z ti to i1 i2 l d xs ks ep (k+1) g->IsPair g s.heap.objs.size x y->(∀ c o,c≠z->c≠to->c≠i1->c≠i2->s.heap.get? c=some o->g.get? c=some o)->Q (some (.ref s.heap.objs.size)) { s with heap:=g }) :
  wpAny (model prog w) A (pyNext (.ref z)) Q E s:=by
 have hT:=hs.ty
 unfold pyNext
 refine zA (wpAny_attempt (wpAny_callSpecial?_slot (name:=Str.ofString "__next__") hT F.slot_zip_next (wpAny_call_entry F.slot_zip_next hT F.entry_zip_next ?_ (F.args_zip_next_1 _))))
 rcases hs.st with⟨e,h1,a,b,h2⟩ |⟨e,m,fl,a,b,h1,h2⟩
 ·refine zipD_first (a:=a) (b:=b) D o1 o2 h1 hs.ti h2 hs.i1 hs.i2 hs.l hs.d hx hy fun g z1 t1 n1 n2 pp kp=>zG (q g ⟨.inr ⟨by exact Nat.succ_pos k,_,false,x,y,z1,pp⟩,?_,n1,n2,?_,?_⟩ pp kp)
  ·exact kp _ _ D.a1 D.a5 D.a6 D.a7 hs.ti
  ·exact hs.l.at fun o e=>kp _ _ o1.1 o1.2.1 o1.2.2.1 o1.2.2.2 e
  ·exact hs.d.to fun o e=>kp _ _ o2.1 o2.2.1 o2.2.2.1 o2.2.2.2 e
 ·have mz:m≠z:=fun w=>by
   have e1:s.heap.get? z=_:=h1
   have e2:s.heap.get? z=_:=w▸h2
   rw[e1]at e2
   exact absurd (show Value.type "zip" = Value.type "tuple" from congrArg Obj.cls (Option.some.inj e2)) (by decide)
  have mi1:m≠i1:=fun w=>by
   obtain⟨o,e1,c1,_⟩:=hs.i1
   have e2:s.heap.get? i1=_:=w▸h2
   rw[e1]at e2
   exact absurd (show Value.type "list_iterator" = Value.type "tuple" from c1.symm.trans (congrArg Obj.cls (Option.some.inj e2))) (by decide)
  have mi2:m≠i2:=fun w=>by
   obtain⟨o,e1,c1,_⟩:=hs.i2
   have e2:s.heap.get? i2=_:=w▸h2
   rw[e1]at e2
   exact absurd (show Value.type "dict_keyiterator" = Value.type "tuple" from c1.symm.trans (congrArg Obj.cls (Option.some.inj e2))) (by decide)
  refine zipD_more D o1 o2 h1 ⟨_,h2⟩ hs.ti hs.i1 hs.i2 hs.l hs.d hx hy fun g z1 n1 n2 pp kp=>zG (q g ⟨.inr ⟨by exact Nat.succ_pos k,m,true,a,b,z1,kp _ _ mz mi1 mi2 h2⟩,?_,n1,n2,?_,?_⟩ pp fun c o c1 c2 c3 c4 e=>kp c o c1 c3 c4 e)
  ·exact kp _ _ D.a1 D.a6 D.a7 hs.ti
  ·exact hs.l.at fun o e=>kp _ _ o1.1 o1.2.2.1 o1.2.2.2 e
  ·exact hs.d.to fun o e=>kp _ _ o2.1 o2.2.2.1 o2.2.2.2 e
theorem zs_done{s:Shared}{k:Nat}{Q:Option Value->Shared->Prop}(hh:A.handled=none)(D:ZA z ti to i1 i2)(o1:Off z to i1 i2 l)(hs:ZS z ti to i1 i2 l d xs ks ep k s.heap)(k0:0<k)(hx:xs[k]?=none)
  (q:∀ g,(∀ c o,c≠z->c≠i1->s.heap.get? c=some o->g.get? c=some o)->Q none { s with heap:=g }):wpAny (model prog w) A (pyNext (.ref z)) Q E s:=by
 have hT:=hs.ty
 unfold pyNext
 rcases hs.st with⟨e,_⟩ |⟨e,m,fl,a,b,h1,h2⟩
 ·lia
 ·refine zA (wpAny_attempt (wpAny_callSpecial?_slot (name:=Str.ofString "__next__") hT F.slot_zip_next (wpAny_call_entry F.slot_zip_next hT F.entry_zip_next (zipD_end hh D o1 h1 ⟨_,h2⟩ hs.ti hs.i1 hs.l hx fun g e kp he=>?_) (F.args_zip_next_1 _))))
  obtain⟨o,ho,hcl⟩:=he
  exact zA (wpAny_isInstance (T:="StopIteration") (b:=true) ⟨o,ho,hcl⟩ isSubtype_stop (zG (q g kp)))
structure ZT(B:Nat)(xs:Array Value)(ks:List Value)(Ts:List Addr)(g:Heap):Prop where
 pr:∀ (i:Nat) (T:Addr) (x y:Value),Ts[i]?=some T->xs[i]?=some x->ks[i]?=some y->IsPair g T x y
 ge:∀ T∈Ts,B<=T/\T<g.objs.size
 nd:Ts.Nodup
theorem zip_loop{R:Result->Shared->Prop}{n B:Nat}(hh:A.handled=none)(D:ZA z ti to i1 i2)(o1:Off z to i1 i2 l)(o2:Off z to i1 i2 d)(S:Addr)(nS:S≠z/\S≠i1/\S≠i2/\S≠l/\S≠d)(So:S≠to)(hx:xs.size=n)(hy:ks.length=n)(n0:0<n)(hn:n<=sizeLine)
  (lt:z<B/\to<B/\i1<B/\i2<B/\S<B) (res:Value) :
  ∀ (j k:Nat) (s:Shared) (Ts:List Addr) (c:Nat),n-k=j->k<=n->ZS z ti to i1 i2 l d xs ks ep k s.heap->s.heap.get? S=some (seqObj "list" (Ts.map Value.ref).toArray c)->Ts.length=k->ZT B xs ks Ts s.heap->B<=s.heap.objs.size ->
  (∀ (h':Heap) (Ts':List Addr) (c':Nat),(∀ b o,b≠S->b≠z->b≠to->b≠i1->b≠i2->s.heap.get? b=some o->h'.get? b=some o)->h'.get? S=some (seqObj "list" (Ts'.map Value.ref).toArray c')->Ts'.length=n->ZT B xs ks Ts' h'->R (.ok (.ret res)) { s with heap:=h' }) ->
  codeAny (model prog w) A (.builtin "list.extend.loop" ⟨[.ref S,.ref z,res],[]⟩) R s:=by
 obtain⟨lz,lo,l1,l2,lS⟩:=lt
 intro j
 induction j with
 |zero =>
  intro k s Ts c hj hk hs hS hT zt hB hR
  have e:k=n:=by exact zdv hy hj hk hT
  subst e
  refine codeAny_builtin F.entry_extend_loop ?_
  rw[Around.under_plainId F.plain_extend_loop _]
  show wpAny _ A.in1 (pyNext (.ref z) >>= _) _ _ s
  refine zA (zs_done (A:=A.in1) hh D o1 hs n0 (by rw[Array.getElem?_eq_none (by exact zAB hx)]) fun g kp=>?_)
  refine zG (hR g Ts c (fun b o b1 b2 b3 b4 b5 e=>kp b o b2 b4 e) (kp _ _ nS.1 nS.2.1 hS) hT ⟨fun i T x y h1 h2 h3=>?_,fun T hT'=>⟨(zt.ge T hT').1,?_⟩,zt.nd⟩)
  ·have ge:=(zt.ge T (List.mem_of_getElem? h1)).1
   exact kp _ _ (fun w=>by rw[w]at ge;exact absurd lz (Nat.not_lt.mpr ge)) (fun w=>by rw[w]at ge;exact absurd l1 (Nat.not_lt.mpr ge)) (zt.pr i T x y h1 h2 h3)
  ·obtain⟨i,hi,e⟩:=zBG hT'
   have ge:=(zt.ge T hT').1
   have h1:Ts[i]?=some T:=by rw[zF hi,e]
   have:=kp _ _ (fun w=>by rw[w]at ge;exact absurd lz (Nat.not_lt.mpr ge)) (fun w=>by rw[w]at ge;exact absurd l1 (Nat.not_lt.mpr ge)) (zt.pr i T xs[i] ks[i] h1 (zAS (by exact zh7 (zh7 hi hT) (Eq.symm hx))) (zF (by exact zh7 (zh7 hi hT) (Eq.symm hy))))
   exact zN this
 |succ j ih =>
  intro k s Ts c hj hk hs hS hT zt hB hR
  have hlt:k<n:=by exact zcc hy hj hk hT
  refine codeAny_builtin F.entry_extend_loop ?_
  rw[Around.under_plainId F.plain_extend_loop _]
  show wpAny _ A.in1 (pyNext (.ref z) >>= _) _ _ s
  have hx':xs[k]?=some xs[k]:=zAS (by exact zh8 hlt hx)
  have hy':ks[k]?=some ks[k]:=zF (by exact zh8 hlt hy)
  refine zA (zs_item (A:=A.in1) D o1 o2 hs hx' hy' fun g hs' pp kp=>?_)
  have hS':=kp _ _ nS.1 So nS.2.1 nS.2.2.1 hS
  show wpAny _ A.in1 (updateSeq S (·.push (.ref s.heap.objs.size)) >>= _) _ _ _
  refine zA ?_
  obtain⟨c3,g3⟩:∃ c3,(g.update S (Obj.mapSeq (·.push (.ref s.heap.objs.size)))).get? S=some (seqObj "list" ((Ts.map Value.ref).toArray.push (.ref s.heap.objs.size)) c3):=⟨_,get?_update_seq hS' _⟩
  have oth:∀ b o,b≠S->g.get? b=some o->(g.update S (Obj.mapSeq (·.push (.ref s.heap.objs.size)))).get? b=some o:=fun b o nb e=>by rw[Heap.get?_update_ne _ _ _ _ nb];exact e
  have eT:(Ts.map Value.ref).toArray.push (.ref s.heap.objs.size)=((Ts++[s.heap.objs.size]).map Value.ref).toArray:=by simp
  rw[eT]at g3
  have TS:s.heap.objs.size≠S:=zBO (zE lS hB)
  have hs2:=hs'.keep ⟨_,_,hS'⟩ nS oth
  have pT:∀ {T:Addr}{x y:Value},B<=T->IsPair s.heap T x y->IsPair (g.update S (Obj.mapSeq (·.push (.ref s.heap.objs.size)))) T x y:=fun {T x y} ge e =>
   oth _ _ (fun w=>absurd lS (Nat.not_lt.mpr (w▸ge))) (kp _ _ (fun w=>absurd lz (Nat.not_lt.mpr (w▸ge))) (fun w=>absurd lo (Nat.not_lt.mpr (w▸ge))) (fun w=>absurd l1 (Nat.not_lt.mpr (w▸ge))) (fun w=>absurd l2 (Nat.not_lt.mpr (w▸ge))) e)
  have ppT:=oth _ _ TS pp
  have sT:s.heap.objs.size <(g.update S (Obj.mapSeq (·.push (.ref s.heap.objs.size)))).objs.size:=zN ppT
  have zt2:ZT B xs ks (Ts++[s.heap.objs.size]) (g.update S (Obj.mapSeq (·.push (.ref s.heap.objs.size)))):=by
   refine⟨fun i T x y h1 h2 h3=>?_,fun T hT'=>?_,?_⟩
   ·by_cases hi:i<Ts.length
    ·rw[List.getElem?_append_left hi]at h1
     exact pT (zt.ge T (List.mem_of_getElem? h1)).1 (zt.pr i T x y h1 h2 h3)
    ·have hi':i=k:=by
      have:=(zH.mp h1).1
      rw[zAC,List.length_singleton]at this
      lia
     subst hi'
     rw[List.getElem?_append_right (by exact zAB hT),hT,Nat.sub_self]at h1
     cases h1
     rw[hx']at h2
     rw[hy']at h3
     cases h2
     cases h3
     exact ppT
   ·rcases zAD.mp hT' with h | h
    ·exact⟨(zt.ge T h).1,Nat.lt_trans (zt.ge T h).2 sT⟩
    ·rw[zZ.mp h]
     exact⟨hB,sT⟩
   ·rw[List.nodup_append]
    refine⟨zt.nd,by simp,fun a ha b hb=>?_⟩
    rw[zZ.mp hb]
    exact zAE (zt.ge a ha).2
  refine wpAny_updateSeq hS' rfl (zG ⟨plainId_quiet F.plain_extend_loop _,ih (k+1) _ (Ts++[s.heap.objs.size]) c3 (by lia) hlt hs2 g3 (by rw[zAC,hT];rfl) zt2 (zC hB (zAA sT)) fun h' Ts' c' kp' hS'' hl' zt'=>?_⟩)
   (by show(Ts.map Value.ref).toArray.size<=_;rw[zV,zB];exact zhd hy hn hT hlt) (by show((Ts.map Value.ref).toArray.push _).size<=sizeLine+1;rw[Array.size_push,zV,zB];exact zgw hy hn hT hlt)
  exact hR h' Ts' c' (fun b o b1 b2 b3 b4 b5 e=>kp' b o b1 b2 b3 b4 b5 (oth b o b1 (kp b o b2 b3 b4 b5 e))) hS'' hl' zt'
theorem zip_collect{n:Nat}{s:Shared}{Q:List Value->Shared->Prop}(hh:A.handled=none)(D:ZA z ti to i1 i2)(o1:Off z to i1 i2 l)(o2:Off z to i1 i2 d)(hs:ZS z ti to i1 i2 l d xs ks ep 0 s.heap)(hx:xs.size=n)(hy:ks.length=n)(n0:0<n)(hn:n<=sizeLine)
  (hQ:∀ (h':Heap) (Ts:List Addr),(∀ b o,b≠z->b≠to->b≠i1->b≠i2->s.heap.get? b=some o->h'.get? b=some o)->Ts.length=n->ZT (s.heap.objs.size+1) xs ks Ts h'->Q (Ts.map Value.ref) { s with heap:=h' }):wpAny (model prog w) A (collect (.ref z)) Q E s:=by
 have hz:IsZip s.heap z ti to .none:=by
  rcases hs.st with⟨_,h,_⟩ |⟨h,_⟩
  ·exact h
  ·lia
 have lto:to<s.heap.objs.size:=by
  rcases hs.st with⟨_,_,a,b,h⟩ |⟨h,_⟩
  ·exact zN h
  ·lia
 have li1:i1<s.heap.objs.size:=by obtain⟨o,e,_⟩:=hs.i1;exact zN e
 have li2:i2<s.heap.objs.size:=by obtain⟨o,e,_⟩:=hs.i2;exact zN e
 have ll:l<s.heap.objs.size:=by obtain⟨o,e,_⟩:=hs.l;exact zN e
 have ld:d<s.heap.objs.size:=hs.d.lt
 have lz:=zN hz
 have nS:s.heap.objs.size≠z/\s.heap.objs.size≠i1/\s.heap.objs.size≠i2/\s.heap.objs.size≠l/\s.heap.objs.size≠d:=⟨zBO lz,zBO li1,zBO li2,zBO ll,zBO ld⟩
 unfold collect
 refine zA (wpAny_runValue (codeAny_builtin F.entry_proto_collect ?_))
 rw[Around.under_plainId F.plain_proto_collect _]
 show wpAny _ A.in1 (newList [] >>= fun l=>again (.builtin "list.__iadd__" ⟨[l,.ref z],[]⟩)) _ _ s
 refine zA (wpAny_newObj_type ?_)
 refine zG ⟨plainId_quiet F.plain_list_iadd _,codeAny_builtin F.entry_list_iadd ?_⟩
 rw[Around.under_plainId F.plain_list_iadd _]
 have p1:∀ b o,s.heap.get? b=some o->(s.heap.push (seqObj "list" #[] 0)).get? b=some o:=fun b o e=>zD _ e
 have hS₁:(s.heap.push (seqObj "list" #[] 0)).get? s.heap.objs.size=some (seqObj "list" #[] 0):=zS _ rfl
 show wpAny _ A.in1 (Builtin.List.listExtendWith (.ref s.heap.objs.size) (.ref z) (.ref s.heap.objs.size)) _ _ { s with heap:=s.heap.push (seqObj "list" #[] 0) }
 have hz1:IsZip (s.heap.push (seqObj "list" #[] 0)) z ti to .none:=p1 _ _ hz
 have hT:Shared.TypeIs { s with heap:=s.heap.push (seqObj "list" #[] 0) } (.ref z) "zip":=⟨_,hz1,rfl⟩
 unfold Builtin.List.listExtendWith
 refine zA (wpAny_typeOf hT ?_)
 have h1:Builtin.List.listSameRef (.ref s.heap.objs.size) (.ref z)=false:=by simp[Builtin.List.listSameRef,nS.1]
 have h2:(Value.type "zip" == Value.type "list")=false:=by decide
 have h3:(Value.type "zip" == Value.type "tuple")=false:=by decide
 simp only[h1,h2,h3,Bool.or_false,zCE,if_false]
 refine zA (wpAny_pyIter_zip (s:={ s with heap:=s.heap.push (seqObj "list" #[] 0) }) hz1 ?_)
 refine zA (wpAny_holding ?_)
 unfold Builtin.List.listLengthHint
 refine zA (wpAny_specialOf hT zip_no_len ?_)
 show wpAny _ A.in1 (specialOf (Value.ref z) (Str.ofString "__length_hint__") >>= _) _ _ _
 refine zA (wpAny_specialOf hT zip_no_hint ?_)
 refine zG ?_
 show wpAny _ A.in1 (rule "list.extend.makes-room" >>= fun _=>Builtin.List.listTouch (.ref s.heap.objs.size) >>= fun _ =>
  again (.builtin "list.extend.loop" ⟨[.ref s.heap.objs.size,.ref z,.ref s.heap.objs.size],[]⟩)) _ _ _
 refine zA (wpAny_rule ?_)
 refine zA ?_
 show wpAny _ A.in1 (updateSeq s.heap.objs.size (·.push .none) >>= fun _=>updateSeq s.heap.objs.size (·.pop)) _ _ _
 refine zA (wpAny_updateSeq hS₁ rfl ?_)
 have hS₂:=Heap.get?_update_self (Obj.mapSeq (·.push Value.none)) hS₁ rfl
 refine wpAny_updateSeq hS₂ rfl ?_
 have hS₃:=Heap.get?_update_self (Obj.mapSeq (·.pop)) hS₂ rfl
 have oth:∀ b o,b≠s.heap.objs.size->(s.heap.push (seqObj "list" #[] 0)).get? b=some o ->
   (((s.heap.push (seqObj "list" #[] 0)).update s.heap.objs.size (Obj.mapSeq (·.push Value.none))).update s.heap.objs.size (Obj.mapSeq (·.pop))).get? b=some o :=
  fun b o hb e=>(Heap.get?_update_other _ _ (Ne.symm hb)).trans ((Heap.get?_update_other _ _ (Ne.symm hb)).trans e)
 have sz:(((s.heap.push (seqObj "list" #[] 0)).update s.heap.objs.size (Obj.mapSeq (·.push Value.none))).update s.heap.objs.size (Obj.mapSeq (·.pop))).objs.size=s.heap.objs.size+1:=by
  have e:=(Heap.SameBut.update ((s.heap.push (seqObj "list" #[] 0)).update s.heap.objs.size (Obj.mapSeq (·.push Value.none))) s.heap.objs.size (Obj.mapSeq (·.pop))).1
  have e2:=(Heap.SameBut.update (s.heap.push (seqObj "list" #[] 0)) s.heap.objs.size (Obj.mapSeq (·.push Value.none))).1
  rw[e,e2,Heap.size_push]
 generalize hG:((s.heap.push (seqObj "list" #[] 0)).update s.heap.objs.size (Obj.mapSeq (·.push Value.none))).update s.heap.objs.size (Obj.mapSeq (·.pop))=G at oth sz hS₃ ⊢
 have hs1:ZS z ti to i1 i2 l d xs ks ep 0 G:=hs.all fun b o e=>oth b o (zAE (zN e)) (p1 b o e)
 refine zG ⟨plainId_quiet F.plain_extend_loop _,zip_loop (B:=s.heap.objs.size+1) hh D o1 o2 _ nS (zBO lto) hx hy n0 hn ⟨zCW lz,zCW lto,zCW li1,zCW li2,zBC _⟩ _ n 0 _ [] _ rfl (zAW _) hs1 hS₃ rfl ⟨fun i T x y h=>(nomatch h),fun T h=>(nomatch h),.nil⟩ (zAB sz.symm) fun h' Ts' c' kp hS' hl zt=>?_⟩
 show wpAny _ A (load s.heap.objs.size >>= _) _ _ _
 refine zA (wpAny_load hS' ?_)
 refine zG ?_
 have:=hQ h' Ts' (fun b o b2 b3 b4 b5 e=>kp b o (zAE (zN e)) b2 b3 b4 b5 (oth b o (zAE (zN e)) (p1 b o e))) hl zt
 simpa using this
end
end Srt
namespace L2
open PySem PySem.W PyProof.Rows Srt
section
variable{X:Cx}{pins:List (Addr×Obj)}{σ:St}{H:Hp}{s:Shared}
theorem dT_keys{d:Addr}{kvs:List (List Key×V)}{ks:List (List Int)}(I:Inv X pins σ H s)(hd:H d=some (.dT kvs))(hks:kvs.map (·.1)=List.map (List.map Sum.inl) ks) :
  ∃ (as:List Addr) (ep:Nat),(d == sysModules)=false/\TupsAt H as ks/\RawD d (as.map Value.ref) ep s.heap:=by
 obtain⟨z,nsys,xs,pr,o,es,ep,go,ex,dt,ee,nd⟩:=I.hok d _ hd
 refine⟨xs.map fun q=>q.2.1,ep,nsys,?_,o,es,go,ex,dt,by rw[ee,zBU,zBU];rfl⟩
 clear go ex dt ee nd z hd
 induction pr generalizing ks with
 |nil =>
  cases ks with
  |nil=>exact .nil
  |cons _ _=>simp at hks
 | @cons p x l1 l2 r1 r2 ih =>
  cases ks with
  |nil=>simp at hks
  |cons k ks =>
   simp only[zAI,List.cons.injEq]at hks
   refine .cons ?_ (ih hks.2)
   show H x.2.1=some (.tup (k.map V.int))
   rw[r1.2.1,hks.1,zBU]
   rfl
theorem refs_vals:∀ as:List Addr,Vals (as.map V.ref) (as.map Value.ref)
 |[]=>.nil
 | _ :: as=>.cons rfl (refs_vals as)
theorem call_listD(hc:X.calm=true):CallR X (.type "list") (fun xs H Q=>∃ d kvs ks,xs=[V.ref d]/\H d=some (.dT kvs)/\kvs.map (·.1)=List.map (List.map Sum.inl) ks/\∀ (l:Addr) (as:List Addr),H l=none->TupsAt H as ks->Q (.ref l) (upd H l (.lst (as.map V.ref)))):=by
 intro pins s σ H xs us Q I r h
 obtain⟨d,kvs,ks,rfl,hd,hks,q⟩:=h
 obtain⟨u,rfl,rx⟩:=vals1 r
 cases rx
 have zl:=(I.hok d _ hd).1
 obtain⟨as,ep,nsys,ta,raw⟩:=dT_keys I hd hks
 have al:as.length=ks.length:=ta.length
 have kl:kvs.length=ks.length:=by
  have:=congrArg List.length hks
  rwa [zB,zB]at this
 refine kdl_call (rawSrc nsys) (I.ok.hd hc) raw (by rw[zB];lia) fun h' tk acc c hk hS hacc=>?_
 have eacc:acc.toList=as.map Value.ref:=by
  apply List.ext_getElem?
  intro i
  by_cases hi:i<acc.size
  ·have e1:acc.toList[i]?=some acc[i]:=by rw[zBR,zAS hi]
   have e2:=hacc.2 i acc[i] (zAS hi)
   rw[e1]
   exact e2.symm
  ·have l0:=hacc.1
   rw[List.getElem?_eq_none (by rw[zBT];lia),List.getElem?_eq_none (by lia)]
 refine⟨.ref _,_,I.laid (t':=tk) hk (zJ _) (show ObjOk X.prog X.w _ h' _ (.lst (as.map V.ref))from⟨by rw[zB];lia,as.map Value.ref,c,refs_vals as,by rw[<- eacc,Array.toArray_toList];exact hS⟩),rfl,q _ as (I.hok.fresh (zJ _)) ta⟩
end
open PySem PySem.W PyProof.Rows Srt
noncomputable def κ1:KeyKind where
 α:=Unit
 blt _ _:=false
 irrefl _:=rfl
 trans _ _ _ h _:=h
 negTrans _ _ _ h:=.inl h
 total _ _ _ _:=rfl
 keyOf _:=some ()
 dflt:=()
section
variable{X:Cx}{pins:List (Addr×Obj)}{σ:St}{H:Hp}{s:Shared}
theorem sorted_one{u:Value}{C:Hp->Addr->Prop}{Q:VK}
  (col:∀ (R:List Value->Shared->Prop),(∀ (s1:Shared) (H1:Hp) (T:Addr),Inv X pins σ H1 s1->C H1 T->R [Value.ref T] s1)->wpAny (model X.prog X.w) X.A.in1 (collect u) R X.xe s)
  (q:∀ (H1:Hp) (T:Addr),C H1 T->∀ l':Addr,H1 l'=none->Q (.ref l') (upd H1 l' (.lst [V.ref T]))) :
  wpAny (model X.prog X.w) X.A (call (.builtin "sorted") [u]) (EP X pins σ Q) X.xe s:=by
 refine Calls.call_function_entry kind_sorted plain_sorted entry_sorted (args_sorted1 _) ?_
 unfold Builtin.«sorted»
 refine zA (m:=checkCount "sorted" 1 1 _) (zG (zA (col _ fun s1 H T I1 hC=>?_)))
 refine zA (wpAny_newList ?_ (by show 1<=sizeLine;decide))
 have gL:(s1.heap.push (seqObj "list" [Value.ref T].toArray 0)).get? s1.heap.objs.size=some (seqObj "list" [Value.ref T].toArray 0):=zS _ rfl
 have kp2:∀ b u,s1.heap.get? b=some u->(s1.heap.push (seqObj "list" [Value.ref T].toArray 0)).get? b=some u:=fun b u e=>zD _ e
 generalize hg0:s1.heap.push (seqObj "list" [Value.ref T].toArray 0)=g0 at gL kp2
 refine zA (wpAny_holding (wpAny_call_entry slot_list_sort ⟨_,gL,rfl⟩ entry_list_sort (sort_gen (κ:=κ1) (kd:=tuples' true) (s:={ s1 with heap:=g0 }) gL (fun p hp=>⟨(),rfl⟩) (by show 1<5000;decide) (fun l2=>absurd l2 (by show ¬ 2<=1;decide)) fun ws g c pw sw kp3 gg=>⟨_,rfl,?_⟩) (args_list_sort _)))
 obtain rfl:ws=[Value.ref T]:=List.perm_singleton.mp pw
 exact zG ⟨_,rfl,.ref s1.heap.objs.size,_,I1.laid (t':=s1.toks) (a:=s1.heap.objs.size) (o:=.lst [V.ref T]) (fun b u e=>kp3 b u (zAE (zN e)) (kp2 b u e)) (zJ _) (show ObjOk X.prog X.w _ g _ (.lst [V.ref T])from⟨(by show 1<=sizeLine;decide),[Value.ref T],c,.cons rfl .nil,gg⟩),rfl,q _ T hC _ (I1.hok.fresh (zJ _))⟩
end
noncomputable def tSortZip1(ta:TA):TE:=fun σ H Q=>ta σ H fun vs H1=>∃ (l d:Addr) (n0:Int) (kvs:List (List Key×V)) (k0:List Int),vs=[.ref l,.ref d]/\H1 l=some (.lst [V.int n0])/\H1 d=some (.dT kvs)/\kvs.map (·.1)=[k0.map Sum.inl] /\
 ∀ (l' T a:Addr) (H2:Hp),Same H1 H2->H2 l'=some (.lst [V.ref T])->H2 T=some (.tup [V.int n0,V.ref a])->H2 a=some (.tup (k0.map V.int))->Q (.ref l') H2
section
variable{X:Cx}{a b:Expr}{ta:TA}{p1 pos1 p2 pos2:Pos}
theorem pe_sortZip1(hc:X.calm=true)(hu:X.A.units+64<cLine)(hgs:Gl X "sorted")(hms:X.mg "sorted" = none)(hgz:Gl X "zip")(hmz:X.mg "zip" = none)(ha:PA X [a,b] ta)
  (hs:starEach [.Call (.Name "zip" p2) [a,b] [] pos2] X.env=[(false,eval (.Call (.Name "zip" p2) [a,b] [] pos2) X.env)]:=by rfl) (hs1:starEach [a,b] X.env=[(false,eval a X.env),(false,eval b X.env)]:=by rfl) (hs2:starEach [b] X.env=[(false,eval b X.env)]:=by rfl) :
  PE X (.Call (.Name "sorted" p1) [.Call (.Name "zip" p2) [a,b] [] pos2] [] pos1) (tSortZip1 ta):=by
 intro pins s σ H Q I h
 refine wpAny_Call_Name_kw (ld_blt I hgs hms boot_sorted ?_ (by decide) (by decide))
 refine PyProof.Rows.callWith_builtin1 ?_ (by rw[hs];rfl) (by rfl)
 rw[hs]
 refine Calls.spliced_cons ?_
 refine wpAny_Call_Name_kw (ld_blt I hgz hmz boot_zip (PyProof.Rows.callWith_type1 (thn (ha pos2 pins s σ H _ I h) fun us s1 ⟨vs,H1,I1,r1,q1⟩=>?_) (by rw[hs1,hs2]) (by rw[hs2];rfl)) (by decide) (by decide))
 obtain⟨l,d,n0,kvs,k0,e,hl,hd,hks,q⟩:=q1
 subst e
 obtain⟨u,u',rfl,rx,ry⟩:=vals2 r1
 cases rx
 cases ry
 obtain⟨its,rv,pl,_⟩:=I1.list (SqL.of (xs:=[V.int n0]) hl)
 obtain⟨as,ep,nsys,ta',raw⟩:=dT_keys (ks:=[k0]) I1 hd hks
 have al:as.length=1:=ta'.length
 have il:=rv.length
 have il:its.length=1:=il.symm
 have ll:(as.map Value.ref).length=as.length:=zB _
 have z1:(s1.heap.push (itO false l)).objs.size=s1.heap.objs.size+1:=Heap.size_push ..
 have z2:(zD2 s1.heap l d (as.map Value.ref).length ep).objs.size=s1.heap.objs.size+2:=by rw[Heap.size_push,z1]
 have z3:(zD3 s1.heap l d (as.map Value.ref).length ep).objs.size=s1.heap.objs.size+3:=by rw[Heap.size_push,z2]
 have z4:(zD4 s1.heap l d (as.map Value.ref).length ep).objs.size=s1.heap.objs.size+4:=by rw[Heap.size_push,z3]
 have g5:(zD5 s1.heap l d (as.map Value.ref).length ep).get? (zD4 s1.heap l d (as.map Value.ref).length ep).objs.size=some _:=zS _ rfl
 have g4:(zD5 s1.heap l d (as.map Value.ref).length ep).get? (zD3 s1.heap l d (as.map Value.ref).length ep).objs.size=some _:=zD _ (zS _ rfl)
 have g3:(zD5 s1.heap l d (as.map Value.ref).length ep).get? (zD2 s1.heap l d (as.map Value.ref).length ep).objs.size=some _:=zD _ (zD _ (zS _ rfl))
 have g2:(zD5 s1.heap l d (as.map Value.ref).length ep).IsKeyIter (s1.heap.push (itO false l)).objs.size d 0 (as.map Value.ref).length ep:=⟨_,zD _ (zD _ (zD _ (zS _ rfl))),rfl,rfl⟩
 have g1:(zD5 s1.heap l d (as.map Value.ref).length ep).IsListIter s1.heap.objs.size l 0:=⟨_,zD _ (zD _ (zD _ (zD _ (zS _ rfl)))),rfl,rfl⟩
 rw[z2,z3,z4]at g5
 rw[z1,z2]at g3
 rw[z3]at g4
 rw[z1]at g2
 refine callType_new F.called_zip (by decide) (F.typeCall_zip_2 _ _) (F.newCall_zip_2 _ _) (fun obj=>F.args_object_init_3 obj _ _) F.entry_zip_new (zipD_new l d nsys its.toArray (as.map Value.ref) ep) ⟨pl.isList,raw,?_⟩
 show _/\_
 rw[z4]
 have kp:∀ c o,s1.heap.get? c=some o->(zD5 s1.heap l d (as.map Value.ref).length ep).get? c=some o:=fun c o x=>zD _ (zD _ (zD _ (zD _ (zD _ x))))
 refine⟨⟨_,g5,rfl⟩,Calls.spliced_nil ?_⟩
 have sz5:(zD5 s1.heap l d (as.map Value.ref).length ep).objs.size=s1.heap.objs.size+5:=by rw[Heap.size_push,z4]
 generalize zD5 s1.heap l d (as.map Value.ref).length ep=g at g1 g2 g3 g4 g5 kp sz5 ⊢
 have I2:Inv X pins σ H1 { s1 with heap:=g }:=I1.kept (t':=s1.toks) kp
 have fp:∀ {c:Addr},s1.heap.objs.size<=c->FpOk X pins H1 c:=fun le=>I1.fpOk le (I1.hok.fresh le)
 have lB:l<s1.heap.objs.size:=by obtain⟨o,e,_⟩:=pl.isList;exact zN e
 have dB:d<s1.heap.objs.size:=raw.lt
 have off:∀ {c:Addr},c<s1.heap.objs.size->Off (s1.heap.objs.size+4) (s1.heap.objs.size+3) s1.heap.objs.size (s1.heap.objs.size+1) c:=fun {c} h =>
  ⟨zAE (zE h (zQ _ _)),zAE (zE h (zQ _ _)),zAE h,zAE (zE h (zQ _ _))⟩
 have zs:ZS (s1.heap.objs.size+4) (s1.heap.objs.size+2) (s1.heap.objs.size+3) s1.heap.objs.size (s1.heap.objs.size+1) l d its.toArray (as.map Value.ref) ep 0 g:=⟨.inl ⟨rfl,g5,_,_,g4⟩,g3,g1,g2,pl.isList.at fun o e=>kp _ _ e,raw.to fun o e=>kp _ _ e⟩
 cases ta' with
 | @cons a1 _ _ _ ra rb =>
 cases rb
 refine sorted_one (X:=X) (s:={ s1 with heap:=g }) (C:=fun H2 T=>Same H1 H2/\H2 T=some (.tup [V.int n0,V.ref a1])) (fun R hR=>?_) fun H2 T ⟨sm,gT⟩ l' hl'=>?_
 ·refine zip_collect (n:=1) (A:=X.A.in1) (s:={ s1 with heap:=g }) (show X.A.handled=none from I1.ok.hd hc) (za_new _) (off lB) (off dB) zs (by rw[zV];exact il) rfl Nat.zero_lt_one (by rw[sizeLine_eq];exact zAV 1 16777215) fun h' Ts kp2 tl zt=>?_
  obtain⟨T,rfl⟩:∃ T,Ts=[T]:=by
   match Ts,tl with
   |[T],_=>exact⟨T,rfl⟩
  have B5:s1.heap.objs.size<=T:=zC (by show _<=g.objs.size+1;rw[sz5];exact zC (zQ _ 5) (zCN _)) (zt.ge T zT).1
  have I3:Inv X pins σ H1 { s1 with heap:=h' }:=Inv.turnedL (s:={ s1 with heap:=g }) (h':=h') (t':=s1.toks) (ch:=[s1.heap.objs.size+4,s1.heap.objs.size+3,s1.heap.objs.size,s1.heap.objs.size+1]) I2 (fun c hc'=>fp (by
    simp only[zAF,zBV,or_false]at hc'
    rcases hc' with e | e | e | e <;> rw[e]
    ·exact zQ _ _
    ·exact zQ _ _
    ·exact zJ _
    ·exact zQ _ _)) fun c o nc e=>by
    simp only[zAF,zBV,or_false,not_or]at nc
    exact kp2 c o nc.1 nc.2.1 nc.2.2.1 nc.2.2.2 e
  obtain⟨u,hu',ru⟩:=rv.get (i:=0) (x:=V.int n0) rfl
  have pp:=zt.pr 0 T u (.ref a1) rfl (by simpa using hu') rfl
  have fT:=fp B5
  exact hR _ (upd H1 T (.tup [V.int n0,V.ref a1])) T (I3.track (D:=T) (ob:=.tup [V.int n0,V.ref a1]) fT ⟨(by show 2<=sizeLine;decide),[u,.ref a1],.cons ru (.cons rfl .nil),⟨_,pp,rfl,0,rfl⟩⟩) ⟨Same.new fT.1,upd_same⟩
 ·have sn:=Same.new (o:=.lst [V.ref T]) hl'
  exact q l' T a1 _ (sm.trans sn) upd_same (sn _ _ gT) (sn _ _ (sm _ _ ra))
end
open PySem PySem.W PyProof.Rows Srt
section
variable{prog:Program}{w:World}{A:Around}{R:Result->Shared->Prop}{s:Shared}
variable{kx vx target iter i' t':Expr}{ifs f':List Expr}{gens:List Comprehension}{scope:Scope}{pos:Pos}{it:Value}{D:Addr}{d:Nat}{env:Env}
theorem dloop_last(hd:gens[d]?=some ⟨target,iter,ifs,0⟩)(hn:gens[d+1]?=none)(I:Nat->Shared->Prop)
  (turn:∀ n s,I n s->wpAny (model prog w) A (pyNext it) (fun r s₁=>match r with
   |none=>R (.ok .next) s₁
   |some v=>wpAny (model prog w) A (letOwnedTupleGo target it v) (fun _ s₁'=>wpAny (model prog w) A (assign target env v) (fun _ s₂ =>
     wpAny (model prog w) A (forIn ifs true fun c r=>if r=true then do let ok <- isTrue c env (eval c env);pure (ForInStep.yield ok)else pure (ForInStep.yield r)) (fun ok s₃ =>
      if ok=true then wpAny (model prog w) A (eval kx env) (fun kv s₄=>wpAny (model prog w) A (eval vx env) (fun vv s₅=>wpAny (model prog w) A (dictSet D kv vv) (fun _ s₆=>∃ m,m<n/\I m s₆) (fun _ _=>False) s₅) (fun _ _=>False) s₄) (fun _ _=>False) s₃
      else ∃ m,m<n/\I m s₃) (fun _ _=>False) s₂) (fun _ _=>False) s₁') (fun _ _=>False) s₁) (fun _ _=>False) s)
  (n:Nat) (h:I n s):codeAny (model prog w) A (.compLoop (.DictComp kx vx gens scope pos) d it (.ref D) env) R s:=by
 refine codeAny_loop rfl I (fun n s hI=>?_) n h
 show wpAny _ A ((compTurn (.DictComp kx vx gens scope pos) d it (.ref D) env).onRaise (fun x=>do noteFrame x env;theTreesLotGoes x)) _ _ s
 refine wpAny_noted ?_
 unfold compTurn
 dsimp only
 rw[hd]
 dsimp only
 refine zA (wpAny_standAt ?_)
 refine zA (wpAny_mono (turn n s hI) (fun r s₁ h₁=>?_) fun _ _ h'=>h'.elim)
 cases r with
 |none=>exact zG h₁
 |some v =>
  refine zA (wpAny_mono h₁ (fun _ s₁' h₁'=>?_) fun _ _ h'=>h'.elim);refine zA (wpAny_mono h₁' (fun _ s₂ h₂=>zA (wpAny_mono h₂ (fun ok s₃ h₃=>?_) fun _ _ h'=>h'.elim)) fun _ _ h'=>h'.elim)
  cases ok with
  |false=>exact zG ⟨rfl,h₃⟩
  |true =>
   rw[if_pos rfl,hn]
   exact zA (zA (wpAny_mono h₃ (fun kv s₄ h₄=>zA (wpAny_holding (wpAny_mono h₄ (fun vv s₅ h₅=>zA (wpAny_standAt (wpAny_holding (wpAny_mono h₅ (fun _ s₆ h₆=>zG ⟨rfl,h₆⟩) fun _ _ h'=>h'.elim)))) fun _ _ h'=>h'.elim))) fun _ _ h'=>h'.elim))
theorem dloop_more(hd:gens[d]?=some ⟨target,iter,ifs,0⟩)(hn:gens[d+1]?=some ⟨t',i',f',0⟩)(hs:∀ x,foldedSetIterable i' env x=pure x)(I:Nat->Shared->Prop)
  (turn:∀ n s,I n s->wpAny (model prog w) A (pyNext it) (fun r s₁=>match r with
   |none=>R (.ok .next) s₁
   |some v=>wpAny (model prog w) A (letOwnedTupleGo target it v) (fun _ s₁'=>wpAny (model prog w) A (assign target env v) (fun _ s₂ =>
     wpAny (model prog w) A (forIn ifs true fun c r=>if r=true then do let ok <- isTrue c env (eval c env);pure (ForInStep.yield ok)else pure (ForInStep.yield r)) (fun ok s₃ =>
      if ok=true then wpAny (model prog w) A (eval i' env) (fun x s₅=>wpAny (model prog w) A (pyIter x) (fun it' s₆=>codeAny (model prog w) A (.compStart (.DictComp kx vx gens scope pos) (d+1) it' (.ref D) env) (fun r s'=>match r with
       | .ok _=>∃ m,m<n/\I m s'
       | .error _=>False) s₆) (fun _ _=>False) s₅) (fun _ _=>False) s₃
      else ∃ m,m<n/\I m s₃) (fun _ _=>False) s₂) (fun _ _=>False) s₁') (fun _ _=>False) s₁) (fun _ _=>False) s)
  (n:Nat) (h:I n s):codeAny (model prog w) A (.compLoop (.DictComp kx vx gens scope pos) d it (.ref D) env) R s:=by
 refine codeAny_loop rfl I (fun n s hI=>?_) n h
 show wpAny _ A ((compTurn (.DictComp kx vx gens scope pos) d it (.ref D) env).onRaise (fun x=>do noteFrame x env;theTreesLotGoes x)) _ _ s
 refine wpAny_noted ?_
 unfold compTurn
 dsimp only
 rw[hd]
 dsimp only
 refine zA (wpAny_standAt ?_)
 refine zA (wpAny_mono (turn n s hI) (fun r s₁ h₁=>?_) fun _ _ h'=>h'.elim)
 cases r with
 |none=>exact zG h₁
 |some v =>
  refine zA (wpAny_mono h₁ (fun _ s₁' h₁'=>?_) fun _ _ h'=>h'.elim);refine zA (wpAny_mono h₁' (fun _ s₂ h₂=>zA (wpAny_mono h₂ (fun ok s₃ h₃=>?_) fun _ _ h'=>h'.elim)) fun _ _ h'=>h'.elim)
  cases ok with
  |false=>exact zG ⟨rfl,h₃⟩
  |true =>
   rw[if_pos rfl,hn]
   dsimp only
   refine zA (wpAny_mono h₃ (fun x s₅ h₅=>zA (wpAny_standAt ?_)) fun _ _ h'=>h'.elim)
   rw[hs x]
   refine zA (zG (zA (wpAny_holding (wpAny_mono h₅ (fun it' s₆ h₆=>zA (wpAny_runOwn (codeAny_mono h₆ fun r s' hr=>?_))) fun _ _ h'=>h'.elim))))
   cases r with
   |ok f=>exact zG ⟨rfl,hr⟩
   |error x=>exact hr.elim
theorem dstart{it acc:Value}(hd:gens[d]?=some ⟨target,iter,ifs,0⟩)(h0:codeAny (model prog w) A (.compLoop (.DictComp kx vx gens scope pos) d it acc env) R s)
  (h:wpAny (model prog w) A (pyIter it) (fun it' s'=>codeAny (model prog w) A (.compLoop (.DictComp kx vx gens scope pos) d it' acc env) R s') (notedBy (model prog w) A env fun x s'=>R (.error x) s') s):codeAny (model prog w) A (.compStart (.DictComp kx vx gens scope pos) d it acc env) R s:=by
 refine codeAny_of_tree ?_;show wpAny _ A ((compStart (.DictComp kx vx gens scope pos) d it acc env).onRaise (fun x=>do noteFrame x env;standAt theWindowsPlace)) _ _ s
 refine wpAny_notedAt ?_;unfold compStart
 have hc:(clausesOf (.DictComp kx vx gens scope pos))[d]?=some ⟨target,iter,ifs,0⟩:=hd
 rw[hc]
 show wpAny _ A (ask >>= _) _ _ s;refine zA (wpAny_askSetting (wpAny_ite ?_));split
 ·first | exact zA (zG (zG (And.intro rfl h0))) | exact zG (And.intro rfl h0)
 ·refine zA (wpAny_rule ?_);show wpAny _ _ (standAt iter.pos >>= _) _ _ s;refine zA (wpAny_standAt (zA (wpAny_mono h (fun it' s' h'=>zG (And.intro rfl h')) fun _ _ x=>x)))
end
noncomputable abbrev TB:=St->Hp->(Hp->Prop)->Prop
noncomputable def tLoop(wi:TI)(g:TG)(tc:TT)(body:TB):TB:=fun σ H Q=>wi σ H fun J H1=>∃ (n:Nat) (P:Nat->Hp->Prop),P 0 H1 /\
 ∀ i H,i<=n->P i H->(J.stop i H/\Q H)\/(i<n/\J.go i H/\∀ x H',J.yld i H x H'->g x σ H' fun σ2 H2=>Kp σ σ2/\tc σ2 H2 fun b H3=>if b=true then body σ2 H3 (P (i+1))else P (i+1) H3)
noncomputable def tEmitD(D:Addr)(tk tv:TE):TB:=fun σ H Q=>tk σ H fun k H4=>tv σ H4 fun y H5=>∃ H6,DPut H5 D k y H6/\Q H6
noncomputable def PN(Y:Cx)(e:Expr)(d:Nat)(iter:Expr)(D:Addr)(b:TB):Prop:=∀ (pins:List (Addr×Obj)) (s:Shared) (σ:St) (H:Hp) (Q:Hp->Prop),Inv Y pins σ H s->b σ H Q ->
 wpAny (model Y.prog Y.w) Y.A (eval iter Y.env) (fun x s1=>wpAny (model Y.prog Y.w) Y.A (pyIter x) (fun it s2=>codeAny (model Y.prog Y.w) Y.A (.compStart e d it (.ref D) Y.env) (fun r s'=>match r with
  | .ok _=>∃ H',Inv Y pins σ H' s'/\Q H'
  | .error _=>False) s2) (fun _ _=>False) s1) (fun _ _=>False) s
section
variable{Y:Cx}{kx vx tg iter i' t':Expr}{ifs f':List Expr}{gens:List Comprehension}{scope:Scope}{pos:Pos}{D:Addr}{d:Nat}{wi:TI}{g:TG}{tc:TT}{tk tv:TE}{b:TB}
theorem pn_last(hx:∀ v s,Y.xe v s->False)(hc:Y.calm=true)(hu:Y.A.units<cLine)(hd:gens[d]?=some ⟨tg,iter,ifs,0⟩)(hn:gens[d+1]?=none)(hi:PI Y tg iter wi)(hg:PG Y tg g)(ht:PF Y ifs tc)(hk:PE Y kx tk)(he:PE Y vx tv) :
  PN Y (.DictComp kx vx gens scope pos) d iter D (tLoop wi g tc (tEmitD D tk tv)):=by
 intro pins s σ H Q I h
 refine wpAny_mono (hi pins s σ H _ I h) (fun v s1 h1=>wpAny_mono h1 (fun itv s2 h2=>?_) fun _ _ z=>hx _ _ z) fun _ _ z=>hx _ _ z
 obtain⟨it,fp,tn,J,H2,e,I2,T,st2,f2,n,P,p0,turn⟩:=h2
 subst e
 have stat:∀ {H':Hp},(∀ b∈fp,H' b=none)->∀ b∈fp,FpOk Y pins H' b:=fun hn b hb=>⟨hn b hb,(f2 b hb).2⟩
 have inF:∀ {pl:List (Addr×Obj)}{p:Addr×Obj},p∈pl->p∈Y.pn++(pins++pl):=fun {pl p} hp=>zP _ (zP _ hp)
 have loop:codeAny (model Y.prog Y.w) Y.A (.compLoop (.DictComp kx vx gens scope pos) d (.ref it) (.ref D) Y.env) (fun r s'=>match r with
  | .ok _=>∃ H',Inv Y pins σ H' s'/\Q H'
  | .error _=>False) s2:=by
  refine dloop_last hd hn (fun m s'=>∃ i H',m=n-i/\i<=n/\Inv Y pins σ H' s'/\tn i s'.heap/\(∀ b∈fp,H' b=none)/\P i H') ?_ n ⟨0,H2,rfl,zAW _,I2,st2,fun b hb=>(f2 b hb).1,p0⟩
  rintro m s3 ⟨i,H3,rfl,hin,I3,st3,fr3,p3⟩
  rcases turn i H3 hin p3 with⟨stop,q⟩ |⟨hlt,go,step⟩
  ·refine thn (T.done Y rfl rfl rfl hc i _ s3 _ H3 (fun _ _=>False) I3 (stat fr3) st3 stop) fun r s4 ⟨hr,I4⟩=>?_
   subst hr
   exact⟨H3,I4,q⟩
  ·refine thn (T.item Y rfl rfl rfl hc i _ s3 _ H3 (fun _ _=>False) I3 (stat fr3) st3 go) fun r s4 ⟨u,hr,h4⟩=>?_
   subst hr
   refine thn h4 fun _ s5 ⟨x,H5,I5,r5,y5,st5,fr5⟩=>?_
   have I5':=I5.pinned (stat fr5) (T.obj _ _ st5)
   refine wpAny_mono (hg _ s5 _ H5 x u _ I5' r5 (step x H5 y5)) (fun _ s6 ⟨σ6,H6,I6,kp,q6⟩=>?_) fun _ _ z=>hx _ _ z
   refine wpAny_mono (ht _ s6 σ6 H6 _ I6 q6) (fun b s7 ⟨H7,I7,q7⟩=>?_) fun _ _ z=>hx _ _ z
   cases b with
   |false =>
    rw[if_neg zW]at q7 ⊢
    refine⟨n-(i+1),zBP n i hlt,i+1,H7,rfl,hlt,I7.unpinned.weak kp.length kp.get,?_,fun b hb=>?_,q7⟩
    ·exact T.keep _ _ _ st5 fun b hb o e=>(I7.pin (b,o) (inF (mem_pinsAt hb e))).1
    ·obtain⟨o,e,d⟩:=T.obj _ _ st5 b hb
     exact(I7.pin (b,o) (inF (mem_pinsAt hb e))).2.1
   |true =>
    rw[if_pos rfl]at q7 ⊢
    refine wpAny_mono (hk _ s7 σ6 H7 _ I7 q7) (fun kv s8 ⟨k,H8,I8,r8,q8⟩=>wpAny_mono (he _ s8 σ6 H8 _ I8 q8) (fun yv s9 ⟨y,H9,I9,r9,H10,dp,q9⟩=>?_) fun _ _ z=>hx _ _ z) fun _ _ z=>hx _ _ z
    refine d_set (X:=Y) hu I9 dp r8 r9 fun s10 I10=>?_
    refine⟨n-(i+1),zBP n i hlt,i+1,_,rfl,hlt,I10.unpinned.weak kp.length kp.get,?_,fun b hb=>?_,q9⟩
    ·exact T.keep _ _ _ st5 fun b hb o e=>(I10.pin (b,o) (inF (mem_pinsAt hb e))).1
    ·obtain⟨o,e,d⟩:=T.obj _ _ st5 b hb
     exact(I10.pin (b,o) (inF (mem_pinsAt hb e))).2.1
 exact dstart hd loop (T.self Y.A 0 _ _ _ st2 loop)
end
noncomputable def tDCompN(t:Bool)(cap:List (Option Nat))(wi:TI)(g:TG)(tc:TT)(bN:Addr->TB):TE:=fun σ H Q=>wi σ H fun J H1=>∀ D,H1 D=none->∃ (n:Nat) (P:Nat->Hp->Prop),P 0 (upd H1 D (dEmp t)) /\
 ∀ i H,i<=n->P i H->(J.stop i H/\Q (.ref D) H) \/
  (i<n/\J.go i H/\∀ x H',J.yld i H x H'->g x (capt cap σ) H' fun σ2 H2=>Kp (capt cap σ) σ2/\tc σ2 H2 fun b H3=>if b=true then bN D σ2 H3 (P (i+1))else P (i+1) H3)
section
variable{X:Cx}{kx vx tg iter i' t':Expr}{ifs f':List Expr}{gs:List Comprehension}{scope:Scope}{pos:Pos}{N':List Str}{cap:List (Option Nat)}{wi:TI}{g:TG}{tc:TT}{bN:Addr->TB}
theorem dcompN_run(t:Bool)(hc:X.calm=true)(S:CompScope N' cap X.N X.env.scope scope)(hi:PI X tg iter wi)(hg:∀ C s H fp,PG (cxIn X N' scope C s H fp) tg g)
  (ht:∀ C s H fp,PF (cxIn X N' scope C s H fp) ifs tc) (hb:∀ C s H fp D,PN (cxIn X N' scope C s H fp) (.DictComp kx vx (⟨tg,iter,ifs,0⟩ :: ⟨t',i',f',0⟩ :: gs) scope pos) 1 i' D (bN D)) (hs':∀ C s H fp x,foldedSetIterable i' (cxIn X N' scope C s H fp).env x=pure x)
  {pins:List (Addr×Obj)}{s:Shared}{σ:St}{H:Hp}{Q:VK} (I:Inv X pins σ H s) (h:tDCompN t cap wi g tc bN σ H Q) :
  wpAny (model X.prog X.w) X.A (eval iter X.env) (fun x s₁=>wpAny (model X.prog X.w) X.A (pyIter x) (fun it s₂=>wpAny (model X.prog X.w) X.A newDict (fun acc s₃ =>
   wpAny (model X.prog X.w) X.A (newFunctionEnv scope X.env.globals (closCl X.env.cells scope.names []) [] X.env.qual none .none (some X.env)) (fun cenv s₄ =>
    codeAny (model X.prog X.w) X.A (.compStart (.DictComp kx vx (⟨tg,iter,ifs,0⟩ :: ⟨t',i',f',0⟩ :: gs) scope pos) 0 it acc { cenv with scope:=relabel scope X.env }) (CompEnd X pins σ Q acc cenv.locals) s₄) X.xe s₃) X.xe s₂) X.xe s₁) X.xe s:=by
 refine thn (hi pins s σ H _ I h) fun v s1 h1=>thn h1 fun itv s2 h2=>?_
 obtain⟨it,fp,tn,J,H2,e,I2,T,st2,f2,turns⟩:=h2
 subst e
 obtain⟨n,P,p0,turn⟩:=turns s2.heap.objs.size (I2.hok.fresh (zJ _))
 refine wpAny_newObj_type (wpAny_newFunctionEnv S.nocell (by intro y hy;simp at hy) (fun h₁ hns₁ hsb₁=>?_) S.kind)
 dsimp only at hns₁ hsb₁ ⊢
 generalize hHp:s2.heap.push { cls:=.type "dict",dict:=none,data:=.dict #[] } = Hq at hns₁ hsb₁ ⊢
 have hC:Hq.objs.size=s2.heap.objs.size+1:=by rw[<- hHp,Heap.size_push]
 have hDC:s2.heap.objs.size≠Hq.objs.size:=by rw[hC];exact zAE (zBC _)
 have hCle:s2.heap.objs.size<=Hq.objs.size:=by rw[hC];exact zCN _
 have old:∀ b o,s2.heap.get? b=some o->h₁.get? b=some o:=fun b o e =>
  hsb₁.extBut b o (by rw[hC];exact zAE (zCW (zN e))) (zD _ (hHp▸zD _ e))
 have hacc:h₁.get? s2.heap.objs.size=some { cls:=.type "dict",dict:=none,data:=.dict #[] }:=hsb₁.extBut _ _ hDC (zD _ (hHp▸zS _ rfl))
 have hfo:∀ b∈fp,∃ o,s2.heap.get? b=some o:=fun b hb=>let ⟨o,e,_⟩:=T.obj _ _ st2 b hb;⟨o,e⟩
 have st4:tn 0 h₁:=T.keep _ _ _ st2 fun b _ o e=>old b o e
 let D:Addr:=s2.heap.objs.size
 let C:Addr:=Hq.objs.size
 let Y:Cx:=cxIn X N' scope C s2 H2 fp
 have hDfp:D∉fp:=fun hb=>by
  obtain⟨o,e⟩:=hfo D hb
  exact zAH _ (zN e)
 have stat:∀ {H':Hp},(∀ b∈fp,H' b=none)->∀ b∈fp,FpOk Y pins H' b:=fun {H'} hn b hb=>by
  obtain⟨f0,f1,fx,f3,f4,f5⟩:=f2 b hb
  obtain⟨o,e⟩:=hfo b hb
  refine⟨hn b hb,fun z=>?_,fun z=>?_,.inl hb,fun x c e=>f4 x c (closCl_sound _ _ (S.clos I2) (fun y c e=>by simp at e) x c e),f5⟩
  ·have h1:=zE (zN e) hCle
   have z:b=Hq.objs.size:=z
   rw[z]at h1
   exact zAH _ h1
  ·rcases zAF.mp (I2.stkSub b z)with e | e
   ·exact f1 e
   ·exact fx e
 have loop:∀ s₃:Shared,s₃ = { s2 with heap:=h₁,toks:=s2.toks+([]:List (Str×Value)).length } ->
   codeAny (model X.prog X.w) X.A (.compLoop (.DictComp kx vx (⟨tg,iter,ifs,0⟩ :: ⟨t',i',f',0⟩ :: gs) scope pos) 0 (.ref it) (.ref s2.heap.objs.size) (compEnvC scope (closCl X.env.cells scope.names []) Hq.objs.size X.env))
    (CompEnd X pins σ Q (.ref s2.heap.objs.size) Hq.objs.size) s₃:=by
  rintro s₃ rfl
  have inF:∀ {pl:List (Addr×Obj)}{p:Addr×Obj},p∈pl->p∈Y.pn++(pins++pl):=fun {pl p} hp=>zP _ (zP _ hp)
  refine dloop_more rfl rfl (hs' C s2 H2 fp) (fun m s'=>∃ i H',m=n-i/\i<=n/\Inv Y pins (capt cap σ) H' s'/\tn i s'.heap/\(∀ b∈fp,H' b=none)/\P i H') ?_ n ?_
  ·rintro m s3 ⟨i,H3,rfl,hin,I3,st3,fr3,p3⟩
   rcases turn i H3 hin p3 with⟨stop,q⟩ |⟨hlt,go,step⟩
   ·refine thn (T.done Y rfl rfl rfl hc i _ s3 _ H3 (fun _ _=>False) I3 (stat fr3) st3 stop) fun r s4 ⟨hr,I4⟩=>?_
    subst hr
    have IX:Inv X pins σ H3 s4:=I2.call' (ch:=fp) I4.os I4.base I4.hok I4.bare fun b hb=>by
     obtain⟨f0,f1,fx,f3,f4,f5⟩:=f2 b hb
     exact⟨f3,f1,f4,f5⟩
    obtain⟨m',hm',_⟩:=I4.loc
    exact⟨.ref D,_,IX,rfl,q,⟨m',hm'⟩,I2.fpOk hCle I4.free⟩
   ·refine thn (T.item Y rfl rfl rfl hc i _ s3 _ H3 (fun _ _=>False) I3 (stat fr3) st3 go) fun r s4 ⟨u,hr,h4⟩=>?_
    subst hr
    refine thn h4 fun _ s5 ⟨x,H5,I5,r5,y5,st5,fr5⟩=>?_
    have I5':=I5.pinned (stat fr5) (T.obj _ _ st5)
    refine thn (hg C s2 H2 fp _ s5 _ H5 x u _ I5' r5 (step x H5 y5)) fun _ s6 ⟨σ6,H6,I6,kp,q6⟩=>?_
    refine thn (ht C s2 H2 fp _ s6 σ6 H6 _ I6 q6) fun b s7 ⟨H7,I7,q7⟩=>?_
    cases b with
    |false =>
     rw[if_neg zW]at q7 ⊢
     refine⟨n-(i+1),zBP n i hlt,i+1,H7,rfl,hlt,I7.unpinned.weak kp.length kp.get,?_,fun b hb=>?_,q7⟩
     ·exact T.keep _ _ _ st5 fun b hb o e=>(I7.pin (b,o) (inF (mem_pinsAt hb e))).1
     ·obtain⟨o,e,d⟩:=T.obj _ _ st5 b hb
      exact(I7.pin (b,o) (inF (mem_pinsAt hb e))).2.1
    |true =>
     rw[if_pos rfl]at q7 ⊢
     refine thn (hb C s2 H2 fp D _ s7 σ6 H7 _ I7 q7) fun x s8 h8=>thn h8 fun it' s9 h9=>codeAny_mono h9 fun r s10 hr=>?_
     cases r with
     |error x=>exact hr
     |ok f =>
      obtain⟨H10,I10,q9⟩:=hr
      refine⟨n-(i+1),zBP n i hlt,i+1,H10,rfl,hlt,I10.unpinned.weak kp.length kp.get,?_,fun b hb=>?_,q9⟩
      ·exact T.keep _ _ _ st5 fun b hb o e=>(I10.pin (b,o) (inF (mem_pinsAt hb e))).1
      ·obtain⟨o,e,d⟩:=T.obj _ _ st5 b hb
       exact(I10.pin (b,o) (inF (mem_pinsAt hb e))).2.1
  ·have I4:=cxIn_inv (s4:={ s2 with heap:=h₁,toks:=s2.toks+([]:List (Str×Value)).length }) S I2 hCle f2 hfo rfl rfl old hns₁ hacc (zJ _) hDC fun v z=>by cases z
   obtain⟨_,pD1,pD2,pD3,_⟩:=I4.pin (D,{ cls:=.type "dict",dict:=none,data:=.dict #[] }) (zP _ (zP _ (zZ.mpr rfl)))
   have I5:Inv Y pins (capt cap σ) H2 { s2 with heap:=h₁,toks:=s2.toks+([]:List (Str×Value)).length }:=I4.pins_of fun p hp=>I4.pin p (zP _ (zAZ _ hp))
   have fD:FpOk Y pins H2 D:=⟨pD1,pD2,pD3,.inr (zJ _),fun x c e z=>by
    obtain⟨v,q⟩:=I2.cell x c (closCl_sound _ _ (S.clos I2) (fun y c e=>by simp at e) x c e)
    have h1:=q.lt
    rw[show c=s2.heap.objs.size from z]at h1
    exact zAH _ h1,fun p hp z=>by
    have h1:=zN (I2.pin p hp).1
    rw[show p.1=s2.heap.objs.size from z]at h1
    exact zAH _ h1⟩
   have nsys:(D == sysModules)=false:=by
    have:=I2.big
    exact zBK.mpr fun z=>by
     have e:D=sysModules:=by simpa using z
     have h1:sysModules<D:=this
     rw[<- e]at h1
     exact zAH _ h1
   have new:ObjOk X.prog X.w (upd H2 D (dEmp t)) h₁ D (dEmp t):=by
    cases t
    ·exact⟨zAW _,nsys,[],.nil,_,#[],0,hacc,⟨rfl,rfl,rfl⟩,rfl,fun e he=>by simp at he,.nil,List.nodup_nil⟩
    ·exact⟨zAW _,nsys,[],.nil,_,#[],0,hacc,⟨rfl,rfl,rfl⟩,rfl,rfl,List.nodup_nil⟩
   refine⟨0,upd H2 D (dEmp t),rfl,zAW _,I5.track fD new,st4,fun b hb=>?_,p0⟩
   rw[upd_ne (fun z=>hDfp (by rw[<- z];exact hb))]
   exact(f2 b hb).1
 exact dstart rfl (loop _ rfl) (T.self X.A 0 _ _ _ st4 (loop _ rfl))
end
section
variable{K:PySem.W.Frag}{a:Addr}{xs:List V}{b:Bool}{g:TG}{tc:TT}{body:TB}{σ:St}{H1:Hp}{Q:Hp->Prop}
theorem seq_loop(P:Nat->Hp->Prop)(p0:P 0 H1)(hl:∀ i H,i<=xs.length->P i H->SqB b K H a xs)
  (hs:∀ i x H,xs[i]?=some x->P i H->g x σ H fun σ2 H2=>Kp σ σ2/\tc σ2 H2 fun b H3=>if b=true then body σ2 H3 (P (i+1))else P (i+1) H3)
  (hd:∀ H,P xs.length H->Q H):∃ (n:Nat) (P:Nat->Hp->Prop),P 0 H1/\∀ i H,i<=n->P i H->((ItB b K a).stop i H/\Q H)\/(i<n/\(ItB b K a).go i H/\∀ x H',(ItB b K a).yld i H x H'->g x σ H' fun σ2 H2=>Kp σ σ2/\tc σ2 H2 fun b H3=>if b=true then body σ2 H3 (P (i+1))else P (i+1) H3):=by
 refine⟨xs.length,P,p0,fun i H il p=>?_⟩
 have q:=hl i H il p
 by_cases hlt:i<xs.length
 ·cases b
  all_goals
   refine .inr ⟨hlt,⟨xs,xs[i],q,by simp[hlt]⟩,fun x H' y=>?_⟩
   obtain⟨e,y⟩:=y
   subst e
   exact hs i x _ (y xs q) p
 ·have e:i=xs.length:=by exact zj7 il hlt
  subst e
  cases b
  all_goals exact .inl ⟨⟨xs,q,zJ _⟩,hd H p⟩
noncomputable def iAny(K:PySem.W.Frag)(tl:TE):TI:=fun σ H R=>tl σ H fun x H1=>∃ a b,x = .ref a/\(∃ xs,SqB b K H1 a xs)/\R (ItB b K a) H1
theorem pi_any{X:Cx}{tg l:Expr}{tl:TE}(hl:PE X l tl):PI X tg l (iAny X.K tl):=by
 intro pins s σ H R I h
 refine thn (hl pins s σ H _ I h) fun v s1 ⟨x,H1,I1,r1,q1⟩=>?_
 obtain⟨a,b,e,⟨xs,hq⟩,q⟩:=q1
 subst e
 cases r1
 cases b
 ·obtain⟨its,rv,p,hz⟩:=I1.list hq
  refine wpAny_pyIter_list p.isList ?_
  refine⟨s1.heap.objs.size,[s1.heap.objs.size],_,_,H1,rfl,I1.kept (t':=s1.toks) fun b o e=>zD _ e,turn_list a _,⟨_,zS _ rfl,rfl,rfl⟩,fun b hb=>?_,q⟩
  have e:b=s1.heap.objs.size:=by simpa using hb
  subst e
  exact I1.fpOk (zJ _) (I1.hok.fresh (zJ _))
 ·obtain⟨its,rv,p,hz⟩:=I1.tuple hq
  refine wpAny_pyIter_tuple (show s1.heap.IsTuple a its.toArray from p) ?_
  refine⟨s1.heap.objs.size,[s1.heap.objs.size],_,_,H1,rfl,I1.kept (t':=s1.toks) fun b o e=>zD _ e,turn_tuple a _,⟨_,zS _ rfl,rfl,rfl⟩,fun b hb=>?_,q⟩
  have e:b=s1.heap.objs.size:=by simpa using hb
  subst e
  exact I1.fpOk (zJ _) (I1.hok.fresh (zJ _))
theorem pi_anyK{X:Cx}(K:PySem.W.Frag)(e:X.K=K){tg l:Expr}{tl:TE}(hl:PE X l tl):PI X tg l (iAny K tl):=e▸pi_any hl
end
section
variable{X:Cx}{kx vx tg iter i' t':Expr}{ifs f':List Expr}{gs:List Comprehension}{scope:Scope}{pos:Pos}{N':List Str}{cap:List (Option Nat)}{wi:TI}{g:TG}{tc:TT}{bN:Addr->TB}
theorem ps_dcompN{i:Nat}{x:Str}{pos' spos:Pos}(hN:X.N.Nodup)(hx:X.N[i]?=some x)(hl:Loc X.env.scope x)(t:Bool)(hc:X.calm=true)(S:CompScope N' cap X.N X.env.scope scope)(hi:PI X tg iter wi)(hg:∀ C s H fp,PG (cxIn X N' scope C s H fp) tg g)
  (ht:∀ C s H fp,PF (cxIn X N' scope C s H fp) ifs tc) (hb:∀ C s H fp D,PN (cxIn X N' scope C s H fp) (.DictComp kx vx (⟨tg,iter,ifs,0⟩ :: ⟨t',i',f',0⟩ :: gs) scope pos) 1 i' D (bN D)) (hs':∀ C s H fp x,foldedSetIterable i' (cxIn X N' scope C s H fp).env x=pure x)
  (hs:∀ x,foldedSetIterable iter X.env x=pure x:=by intro _;rfl) (hsw:swapsWith (.DictComp kx vx (⟨tg,iter,ifs,0⟩ :: ⟨t',i',f',0⟩ :: gs) scope pos) (some (.Name x pos')) spos.line X.env=pure true:=by rfl)
  (hf:X.fn x=true\/X.env.scope.names.lookup x=some .local:=by first | exact .inl rfl | exact .inr rfl | assumption) :
  PS X (.Assign [.Name x pos'] (.DictComp kx vx (⟨tg,iter,ifs,0⟩ :: ⟨t',i',f',0⟩ :: gs) scope pos) spos) (tAsg (tDCompN t cap wi g tc bN) (gName i)):=by
 intro pins s σ H D I h
 rw[exec_Assign_Name_used _ _ _ _ hsw]
 refine zA (wpAny_standAt (zA ?_))
 show wpAny _ _ (do let _ <- comprehension (.DictComp kx vx (⟨tg,iter,ifs,0⟩ :: ⟨t',i',f',0⟩ :: gs) scope pos) scope X.env _ newDict false (eval iter X.env) (some (assign (.Name x pos') X.env))) _ _ s
 refine zA (wpAny_mono (wpAny_comprehension_free (use:=some (assign (.Name x pos') X.env)) (Q:=fun _ s'=>SP X pins D .next s') rfl hs (closureFor_cells (S.clos I)) S.kind S.loc
  (thn (dcompN_run (pos:=pos) t hc S hi hg ht hb hs' I h) fun x s1 h1=>thn h1 fun it s2 h2=>thn h2 fun acc s3 h3=>thn h3 fun cenv s4 h4=>?_)) (fun _ s' hq=>zG (zG hq)) fun _ _ e=>e)
 refine codeAny_mono h4 fun r s' hr=>?_
 cases r with
 |error x=>exact hr.elim
 |ok f =>
  obtain⟨v,H',I',rv,q,⟨m,hn⟩,f0,f1,f2,f3,f4,f5⟩:=hr
  show wpAny _ _ (assign (.Name _ pos') X.env acc) _ _ _
  refine wpAny_assign_Name (store_ok2 I' hN hx hl rv (fun s'' I'' ⟨a,sb,ha⟩=>?_) hf)
  have hac:cenv.locals≠a:=by
   rcases ha with ha | ha
   ·rw[ha];exact f1
   ·exact Ne.symm (f4 _ a ha)
  refine⟨m,hn.sameBut sb hac,fun h' sb'=>⟨_,H',I''.turned (it:=cenv.locals) (t':=s''.toks) (fun b o hb e=>(sb'.2 b hb).trans e) f0 f1 f3 f4 f5,q⟩⟩
end
theorem cutV_last(xs:List V):cutV xs none (some (-1))=xs.take (xs.length-1):=by
 unfold cutV HT.sIx
 simp only[Nat.sub_zero,List.drop_zero]
 rw[if_pos (by decide)]
 congr 1
 exact zn7
noncomputable def rIxQ:Bool->R2
 |false=>rIxLh
 |true=>rIxTh
theorem ix_Q{X:Cx}:∀ b:Bool,IxR X (rIxQ b)
 |false=>ix_listH
 |true=>ix_tupH
theorem rIxQ_of{b:Bool}{r:PySem.Addr}{xs:List V}{i:Int}{v:V}{H:Hp}{Q:VK}(h:H r=some (sqO b xs))(e:atI xs i=some v)(q:Q v H):rIxQ b (.ref r) (.int i) H Q:=by
 cases b
 ·exact⟨r,xs,i,v,rfl,rfl,h,e,q⟩
 ·exact⟨r,xs,i,v,rfl,rfl,h,e,q⟩
theorem putK_stay{κ:Type}[DecidableEq κ]{kvs:List (κ×V)}{k:κ}{v:V}(h:∀ z∈kvs,z.2=v)(hk:k∈kvs.map (·.1)):putK kvs k v=kvs:=by
 unfold putK
 rw[if_pos (by
  obtain⟨z,hz,e⟩:=zAR.mp hk
  exact List.any_eq_true.mpr ⟨z,hz,decide_eq_true e⟩)]
 conv=>rhs;rw[<- List.map_id kvs]
 apply zCM
 intro z hz
 split
 ·show(z.1,v)=z
  rw[<- h z hz]
 ·rfl
end L2
namespace K32
open PySem L2 PyProof.Rows
open Rnd (ltF tkr uq uqs Lo)
structure RwOk(m:Nat)(row:List (Int×Int)):Prop where
 len:row.length=m
 fit:∀ f∈row,fitsB 16 f.1/\fitsB 16 f.2
structure OdOk(m:Nat)(od:List Int):Prop where
 ne:0<od.length
 le:od.length<=1000
 rg:∀ a∈od,0<=a/\a<m
inductive spTkI(vs:List V)(H:Hp)(Q:VK):Prop where
 |mk (b:Bool) (r o t:Addr) (m:Nat) (row:List (Int×Int)) (od:List Int) (th:Int×Int) (h1:vs=[.ref r,.ref o,.ref t]) (h2:RowAt H b r row) (h3:H o=some (.lst (od.map V.int))) (h4:H t=some (frO th)) (h5:RwOk m row) (h6:OdOk m od) (h7:fitsB 100 th.1) (h8:fitsB 100 th.2) (h9:∀ H',Same H H'->Q (.int (tkr row th od)) H')
noncomputable def spTk:Sp:=fun vs H Q _=>spTkI vs H Q
inductive spObQI(vs:List V)(H:Hp)(Q:VK):Prop where
 |mk (b:Bool) (q o d t:Addr) (ps:List Int) (R:Shr.Rows) (od:List Int) (th:Int×Int) (h1:vs=[.ref q,.ref o,.ref d,.ref t]) (h2:H q=some (.lst (ps.map V.int))) (h3:RowsAt H b o R) (h4:H d=some (.lst (od.map V.int))) (h5:H t=some (frO th)) (h6:(∀ row∈R,RwOk ps.length row)) (h7:R.length<=1000) (h8:OdOk ps.length od) (h9:fitsB 100 th.1) (h10:fitsB 100 th.2) (h11:∀ (u:Addr) (H':Hp),H' u=some (.tup ((R.map fun row=>ps.getD (tkr row th od).toNat 0).map V.int))->Same H H'->Q (.ref u) H')
noncomputable def spObQ:Sp:=fun vs H Q _=>spObQI vs H Q
noncomputable def FrsAt(H:Hp)(l:Addr)(L:List (Int×Int)):Prop:=∃ ts:List Addr,H l=some (.lst (ts.map V.ref))/\Paired (fun c f=>H c=some (frO f)) ts L
structure FrR(R:Shr.Rows):Prop where
 lo:∀ f∈R.flatten,Lo f
 fit:∀ f∈R.flatten,fitsB 16 f.1/\fitsB 16 f.2
 few:R.flatten.length<=180
 one:(1,1)∈R.flatten
 oth:∀ f∈R.flatten,0<f.1->f=(1,1)
 len:R.length<=1000
 row:∀ r∈R,r.length<=1000
inductive spThQI(vs:List V)(H:Hp)(Q:VK):Prop where
 |mk (b:Bool) (o:Addr) (R:Shr.Rows) (h1:vs=[.ref o]) (h2:RowsAt H b o R) (h3:FrR R) (h4:∀ (l:Addr) (H':Hp),H l=none->FrsAt H' l [(1,1)]->Same H H'->Q (.ref l) H')
noncomputable def spThQ:Sp:=fun vs H Q _=>spThQI vs H Q
noncomputable def kvU(U:List (Int×Int)):List (List Key×V):=U.map fun f=>([Sum.inl f.1,Sum.inl f.2],V.bl true)
theorem kvU_put(U:List (Int×Int))(f:Int×Int)(h:0<f.1):putK (kvU U) [Sum.inl f.1,Sum.inl f.2] (V.bl true)=kvU (uq U f):=by
 have key:∀ g∈U,([Sum.inl g.1,Sum.inl g.2]:List Key)=[Sum.inl f.1,Sum.inl f.2]->g=f:=fun g _ e=>by
  simp only[List.cons.injEq,Sum.inl.injEq,and_true]at e
  exact Prod.ext e.1 e.2
 unfold uq
 by_cases c:f∈U
 ·rw[if_neg (fun z=>z.2 c)]
  refine putK_stay (fun z hz=>?_) ?_
  ·obtain⟨g,_,rfl⟩:=zAR.mp hz
   rfl
  ·unfold kvU
   rw[zBU]
   exact zAR.mpr ⟨f,c,rfl⟩
 ·rw[if_pos ⟨h,c⟩,putK_new]
  ·unfold kvU
   rw[zU]
   rfl
  ·refine valV_no fun z=>?_
   unfold kvU at z
   rw[zBU]at z
   obtain⟨g,hg,e⟩:=zAR.mp z
   exact c (key g hg e▸hg)
theorem kvU_len(U:List (Int×Int)):(kvU U).length=U.length:=zB _
noncomputable def ksU(U:List (Int×Int)):List (List Int):=U.map fun f=>[f.1,f.2]
theorem kvU_keys(U:List (Int×Int)):(kvU U).map (·.1)=List.map (List.map Sum.inl) (ksU U):=by
 unfold kvU ksU
 rw[zBU,zBU]
 rfl
theorem frs_of{H:Hp}:∀ {as:List Addr}{U:List (Int×Int)},TupsAt H as (ksU U)->Paired (fun c f=>H c=some (frO f)) as U
 | _,[],h=>by cases h;exact .nil
 | _,f :: U,h=>by
  cases h with
  |cons a r=>exact .cons a (frs_of r)
theorem ite_pos'{c A B:Prop}[Decidable c](h:c)(a:A):if c then A else B:=by rw[if_pos h];exact a
theorem ite_neg'{c A B:Prop}[Decidable c](h:¬ c)(b:B):if c then A else B:=by rw[if_neg h];exact b
section
variable{P:Program}{w:World}{K:PySem.W.Frag}{mg:Str->Option Value}{base:Heap}
noncomputable abbrev nIl:List Str:=["one","other"]
theorem scIl:FnScope nIl ["one","other"] (defScope sIsLess):=⟨rfl,rfl,rfl,by decide +kernel,rfl,by decide +kernel,by decide +kernel⟩
theorem ok_il{f:Addr}{fd:FuncData}(F:Fun K "is_less" "is_less" sIsLess f fd):FnOk P w K mg base CX0 1 f fd ["one","other"] spLs:=by
 refine F.ok scIl (fun vs H Q E h=>?_) (fun cdv A outer s H vs Q E hr h=>?_)
 ·obtain⟨p,q,x,y,rfl,_⟩:=h
  rfl
 ·obtain⟨p,q,⟨x,y⟩,⟨u,v⟩,rfl,hp,hq,fx,fy,fu,fv,fin⟩:=h
  refine⟨_,(pss_one (ps_ret (pe_cmpR op_lt (pe_op op_mulB (@pe_ix _ _ _ _ _ _ _ ix_tupH (pvQ 0) pe_int (fun _ _=>rfl)) (@pe_ix _ _ _ _ _ _ _ ix_tupH (pvQ 1) pe_int (fun _ _=>rfl))) (pe_op op_mulB (@pe_ix _ _ _ _ _ _ _ ix_tupH (pvQ 1) pe_int (fun _ _=>rfl)) (@pe_ix _ _ _ _ _ _ _ ix_tupH (pvQ 0) pe_int (fun _ _=>rfl))) (nomark _)))),?_⟩
  refine⟨p,_,_,_,rfl,rfl,hp,at0,q,_,_,_,rfl,rfl,hq,at1,_,_,rfl,rfl,⟨fx,fv⟩,?_⟩
  refine⟨q,_,_,_,rfl,rfl,hq,at0,p,_,_,_,rfl,rfl,hp,at1,_,_,rfl,rfl,⟨fu,fy⟩,_,_,rfl,rfl,?_⟩
  exact fin
noncomputable abbrev nTk:List Str:=["row","order","threshold","at"]
theorem scTk:FnScope nTk ["row","order","threshold"] (defScope sTaker):=⟨rfl,rfl,rfl,by decide +kernel,rfl,by decide +kernel,by decide +kernel⟩
theorem ok_tk{f g:Addr}{fd gd:FuncData}(F:Fun K "taker" "taker" sTaker f fd)(GI:CalF P w K mg base 1 "is_less" ["one","other"] spLs g gd):FnOk P w K mg base CX0 2 f fd ["row","order","threshold"] spTk:=by
 refine F.ok scTk (fun vs H Q E h=>?_) (fun cdv A outer s H vs Q E hr h=>?_)
 ·obtain⟨b,r,o,t,m,row,od,th,rfl,_⟩:=h
  rfl
 ·obtain⟨b,r,o,t,m,row,od,th,rfl,hrow,ho,ht,rw_,oo,f1,f2,fin⟩:=h
  obtain⟨cs,hr1,hc⟩:=hrow
  have cl:cs.length=m:=by rw[hc.length];exact rw_.len
  refine⟨_,(pss_cons (ps_for PassesOwn.never rfl (pi_list (pe_slice sl_list (pvQ 1) po_none (po_some (pe_un un_neg pe_int)))) (pg_name (i:=3) scTk.nd rfl (Or.inl rfl))
   (pss_one (ps_if (pt_not (pt_val (pe_call GI.ok hr rfl GI.mg GI.kp GI.bd .nil pass0 (@pa_sub _ _ _ _ _ _ _ (@pe_ix _ _ _ _ _ _ _ (ix_Q b) (pvQ 0) (pvQ 3) (fun _ _=>rfl)) (@pa_nam _ _ _ _ _ _ (pvQ 2) pa_nil))))) (pss_one (ps_ret (pvQ 3))) pss_nil)))
   (pss_one (ps_ret (@pe_ix _ _ _ _ _ _ _ ix_listH (pvQ 1) (pe_un un_neg pe_int) (fun _ _=>rfl))))),?_⟩
  refine⟨_,rfl,_,rfl,o,_,rfl,SqL.of ho,fun p hp=>?_⟩
  have e0:=oo.ne
  have eo:=oo.le
  have ec:cutV (od.map V.int) none (some (-1))=(od.take (od.length-1)).map V.int:=by rw[cutV_last,zB,List.map_take]
  rw[ec]
  have s1:=Same.new (o:=.lst ((od.take (od.length-1)).map V.int)) hp
  have gp:(upd H p (.lst ((od.take (od.length-1)).map V.int))) p=some (.lst ((od.take (od.length-1)).map V.int)):=upd_same
  generalize (upd H p (.lst ((od.take (od.length-1)).map V.int)))=H1 at *
  obtain⟨z,ez⟩:∃ z,od=od.take (od.length-1)++[z]:=⟨od[od.length-1]'(by exact zh4 e0),by
   rw[<- zL (by exact zh4 e0),zCI (by exact zAB (zh5 e0))]⟩
  have pl:(od.take (od.length-1)).length=od.length-1:=by rw[zBF];exact zn8
  generalize hpre:od.take (od.length-1)=pre at *
  refine⟨p,rfl,⟨_,SqL.of gp⟩,?_⟩
  refine for_list (K:=K) (a:=p) (xs:=pre.map V.int) (fun i σ G=>∃ v3:Option V,σ=[some (.ref r),some (.ref o),some (.ref t),v3]/\G=H1/\∀ a∈pre.take i,ltF (row.getD a.toNat (0,1)) th=true) ⟨_,rfl,rfl,fun _ h=>nomatch h⟩ (fun i σ G _ z=>by obtain⟨_,_,e,_⟩:=z;rw[e];exact SqL.of gp) ?_ ?_
  ·rintro i x σ G hx ⟨v3,rfl,rfl,all⟩
   obtain⟨il,e⟩:=zH.mp hx
   rw[zB]at il
   rw[zO]at e
   subst e
   have am:pre[i]∈od:=by rw[ez];exact zAZ _ (zX il)
   obtain⟨a0,a1⟩:=oo.rg _ am
   obtain⟨k,ek⟩:∃ k:Nat,pre[i]=(k:Int):=⟨pre[i].toNat,by exact zh3 a0⟩
   have kc:k<cs.length:=by exact zm5 (zn1 ek a1) cl
   have kr:k<row.length:=by rw[rw_.len];exact zi3 (zn1 ek a1)
   have gc:=s1 _ _ (Paired.at hc k kc kr)
   obtain⟨r1,r2⟩:=rw_.fit _ (zX kr)
   have eg:row.getD pre[i].toNat (0,1)=row[k]:=by rw[ek,zAQ,zAX,zF kr];rfl
   refine rIxQ_of (v:=V.ref cs[k]) (s1 _ _ hr1) (by rw[ek];exact atI_nat (v:=V.ref cs[k]) (by rw[zAJ,zF kc];rfl)) ⟨cs[k],t,row[k],th,rfl,gc,s1 _ _ ht,r1.mono (by decide),r2.mono (by decide),f1.mono (by decide),f2.mono (by decide),?_⟩
   refine⟨_,rfl,?_⟩
   have ed:decide (row[k].1 * th.2<th.1 * row[k].2)=ltF (row.getD pre[i].toNat (0,1)) th:=by rw[eg];rfl
   rw[ed]
   cases c:ltF (row.getD pre[i].toNat (0,1)) th with
   |true =>
    refine iteF ⟨_,rfl,rfl,fun a ha=>?_⟩
    rw[zL il]at ha
    rcases zAD.mp ha with ha | ha
    ·exact all a ha
    ·rw[zZ.mp ha];exact c
   |false =>
    refine iteT ?_
    have e:tkr row th od=pre[i]:=by
     have e2:od=pre.take i++pre[i] :: (pre.drop (i+1)++[z]):=by
      rw[ez]
      have e3:pre=pre.take i++pre[i] :: pre.drop (i+1):=by
       rw[<- List.drop_eq_getElem_cons il,zCA]
      exact(congrArg (·++[z]) e3).trans (by rw[zAL];rfl)
     rw[e2]
     exact Rnd.tkr_at all c
    rw[<- e]
    exact fin _ s1
  ·rintro σ G ⟨v3,rfl,rfl,all⟩
   rw[zB,zAP]at all
   refine⟨_,rfl,o,_,_,_,rfl,rfl,s1 _ _ ho,(by rw[ez,zU];exact atI_last _ (V.int z)),?_⟩
   have e:tkr row th od=z:=by rw[ez];exact Rnd.tkr_all all
   rw[<- e]
   exact fin _ s1
noncomputable abbrev nOb:List Str:=["posts","shares","order","threshold"]
theorem scOb:FnScope nOb ["posts","shares","order","threshold"] (defScope sOwnersBy):=⟨rfl,rfl,rfl,by decide +kernel,rfl,by decide +kernel,by decide +kernel⟩
theorem csOb1:CompScope ["row","posts","order","threshold"] [none,some 0,some 2,some 3] nOb (defScope sOwnersBy) (scO [(".0",.local),("row",.local),("taker",.globalImplicit),("order",.free),("posts",.free),("threshold",.free)]):=⟨rfl,by decide +kernel,by decide +kernel,by decide +kernel,rfl,capB_ok (by decide +kernel)⟩
theorem ndOb1:(["row","posts","order","threshold"]:List Str).Nodup:=by decide +kernel
theorem ok_ob{f g:Addr}{fd gd:FuncData}(F:Fun K "owners_by" "owners_by" sOwnersBy f fd)(T:Txt mg)(GT:CalF P w K mg base 2 "taker" ["row","order","threshold"] spTk g gd):FnOk P w K mg base CX0 3 f fd ["posts","shares","order","threshold"] spObQ:=by
 refine F.ok scOb (fun vs H Q E h=>?_) (fun cdv A outer s H vs Q E hr h=>?_)
 ·obtain⟨b,q,o,d,t,ps,R,od,th,rfl,_⟩:=h
  rfl
 ·obtain⟨b,q,o,d,t,ps,R,od,th,rfl,hq,hR,hd,ht,rk,Rl,oo,f1,f2,fin⟩:=h
  obtain⟨as,ho,pr⟩:=hR
  have al:as.length=R.length:=pr.length
  refine⟨_,(pss_one (ps_ret (pe_callTy call_tupleH (by rfl) T.tuple boot_tuple (@pa_comp _ _ _ _ _ _ _ _ (pe_comp rfl csOb1 (pi_seq b (pvQ 1)) (fun C s H fp=>(pg_name (i:=0) ndOb1 rfl (Or.inl rfl))) (fun C s H fp=>pf_nil) (fun C s H fp=>(@pe_ix _ _ _ _ _ _ _ ix_listH (pvQ 1) (pe_call GT.ok hr rfl GT.mg GT.kp GT.bd .nil pass0 (@pa_nam _ _ _ _ _ _ (pvQ 0) (@pa_nam _ _ _ _ _ _ (pvQ 2) (@pa_nam _ _ _ _ _ _ (pvQ 3) pa_nil)))) (fun _ _=>rfl)))) pa_nil)))),?_⟩
  refine⟨o,rfl,⟨_,sqB_of ho⟩,?_⟩
  refine comp_seq (K:=K) (b:=b) (a:=o) (xs:=as.map V.ref) (fun i ys G=>Same H G/\ys=((R.take i).map fun row=>ps.getD (tkr row th od).toNat 0).map V.int) (by rw[zB,sizeLine_eq];exact zh9 (zl1 Rl rfl) al) ⟨Same.refl _,rfl⟩ (fun i ys G _ z=>sqB_of (z.1 _ _ ho)) ?_ ?_
  ·rintro i x ys G hx ⟨sG,rfl⟩
   obtain⟨il,e⟩:=zH.mp hx
   rw[zB]at il
   rw[zO]at e
   subst e
   have iR:i<R.length:=by exact zh7 il al
   have oe:od≠[]:=fun z=>by have:=oo.ne;rw[z]at this;simp at this
   obtain⟨t0,t1⟩:=oo.rg _ (Rnd.tkr_mem R[i] th oe)
   refine⟨⟨rfl,rfl,rfl,trivial⟩,tTru_if ⟨b,as[i],d,t,ps.length,R[i],od,th,rfl,(Paired.at pr i il iR).same sG,sG _ _ hd,sG _ _ ht,rk _ (zX iR),oo,f1,f2,fun G2 s2=>?_⟩⟩
   obtain⟨k,ek⟩:∃ k:Nat,tkr R[i] th od=(k:Int):=⟨(tkr R[i] th od).toNat,by exact zh3 t0⟩
   have kp:k<ps.length:=by exact zi3 (zn1 ek t1)
   refine⟨q,_,_,_,rfl,rfl,s2 _ _ (sG _ _ hq),by rw[ek];exact atI_nat (v:=V.int ps[k]) (by rw[zAJ,zF kp];rfl),sG.trans s2,?_⟩
   rw[zL iR,zU,zU]
   show _=_++[V.int (ps.getD (tkr R[i] th od).toNat 0)]
   rw[ek,zAQ,zAX,zF kp]
   rfl
  ·rintro ys G yl ⟨sG,rfl⟩ D hD
   rw[zB,al,zAP]at *
   refine⟨D,_,rfl,upd_same,fun u hu=>?_⟩
   exact fin u _ upd_same (sG.trans ((Same.new hD).trans (Same.new hu)))
noncomputable abbrev nTh0:List Str:=["shares","unlike","below","rows"]
theorem csThD:CompScope ["row","share"] [none,none] nTh0 (defScope sThresholds) (scO [(".0",.local),("row",.local),("share",.local)]):=⟨rfl,by decide +kernel,by decide +kernel,by decide +kernel,rfl,capB_ok (by decide +kernel)⟩
theorem ndThD:(["row","share"]:List Str).Nodup:=by decide +kernel
noncomputable abbrev nTh:List Str:=["shares","unlike","below","rows"]
theorem scTh:FnScope nTh ["shares"] (defScope sThresholds):=⟨rfl,rfl,rfl,by decide +kernel,rfl,by decide +kernel,by decide +kernel⟩
theorem csTh1:CompScope ["top","share"] [none,none] nTh (defScope sThresholds) (scO [(".0",.local),("top",.local),("share",.local)]):=⟨rfl,by decide +kernel,by decide +kernel,by decide +kernel,rfl,capB_ok (by decide +kernel)⟩
theorem ndTh1:(["top","share"]:List Str).Nodup:=by decide +kernel
theorem ok_th{f g:Addr}{fd gd:FuncData}(F:Fun K "thresholds" "thresholds" sThresholds f fd)(T:Txt mg)(T2:Txt2 mg)(GO:CalF P w K mg base 2 "over_one" ["rows"] (spOo K) g gd):FnOk P w K mg base CX0 3 f fd ["shares"] spThQ:=by
 refine F.ok scTh (fun vs H Q E h=>?_) (fun cdv A outer s H vs Q E hr h=>?_)
 ·obtain⟨b,o,R,rfl,_⟩:=h
  rfl
 ·obtain⟨b,o,R,rfl,hR,fr,fin⟩:=h
  obtain⟨as,ho,pr⟩:=id hR
  have al:as.length=R.length:=pr.length
  have Rl:=fr.len
  have hu0:_<cLine:=hr.units0
  refine⟨_,(pss_cons (ps_dcompN (i:=1) scTh.nd rfl (Or.inl rfl) true rfl csThD (pi_seq b (pvQ 0)) (fun C s H fp=>pg_name (i:=0) ndThD rfl (Or.inl rfl)) (fun C s H fp=>pf_nil) (fun C s H fp D=>pn_last (fun _ _ h=>h) rfl hu0 rfl rfl (pi_anyK K rfl (pvQ 0)) (pg_name (i:=1) ndThD rfl (Or.inl rfl)) (pf_one (pt_cmpR op_gt (@pe_ix _ _ _ _ _ _ _ ix_tupH (pvQ 1) pe_int (fun _ _=>rfl)) pe_int (nomark _))) (pvQ 1) pe_bl) (fun C s H fp x=>rfl))
   (pss_cons (ps_asg (pe_call GO.ok hr rfl GO.mg GO.kp GO.bd .nil pass0 (@pa_lst _ _ _ _ _ _ (@pe_lst _ _ _ _ (@pa_call _ _ _ _ _ _ _ _ (pe_callTy (call_listD rfl) (by rfl) T.list boot_list (@pa_nam _ _ _ _ _ _ (pvQ 1) pa_nil)) pa_nil)) pa_nil)) (pg_tup (n:=2) rfl (pgs_cons (pg_name (i:=2) scTh.nd rfl (Or.inl rfl)) (pgs_cons (pg_name (i:=3) scTh.nd rfl (Or.inl rfl)) pgs_nil))))
   (pss_one (ps_ret (pe_comp rfl csTh1 (pi_list (pe_sortZip1 rfl hr.units (by rfl) T.sorted (by rfl) T2.zip (@pa_sub _ _ _ _ _ _ _ (@pe_ix _ _ _ _ _ _ _ ix_listH (pvQ 3) pe_int (fun _ _=>rfl)) (@pa_nam _ _ _ _ _ _ (pvQ 1) pa_nil)))) (fun C s H fp=>(pg_tupK K rfl (n:=2) rfl (pgs_cons (pg_name (i:=0) ndTh1 rfl (Or.inl rfl)) (pgs_cons (pg_name (i:=1) ndTh1 rfl (Or.inl rfl)) pgs_nil)) rfl rfl)) (fun C s H fp=>pf_nil) (fun C s H fp=>(pvQ 1))))))),?_⟩
  refine⟨o,rfl,⟨_,sqB_of ho⟩,fun D hD=>?_⟩
  refine seq_loop (b:=b) (K:=K) (a:=o) (xs:=as.map V.ref) (fun i G=>Same H G/\G D=some (.dT (kvU (uqs (R.take i).flatten)))) ⟨Same.new hD,upd_same⟩ (fun i G _ z=>sqB_of (z.1 _ _ ho)) ?_ ?_
  ·rintro i x G hx ⟨sG,gD⟩
   obtain⟨il,e⟩:=zH.mp hx
   rw[zB]at il
   rw[zO]at e
   subst e
   have iR:i<R.length:=by lia
   obtain⟨cs,hc,pc⟩:=Paired.at pr i il iR
   have cl:cs.length=R[i].length:=pc.length
   have ef:(R.take (i+1)).flatten=(R.take i).flatten++R[i]:=by rw[zL iR,List.flatten_append];simp
   refine⟨trivial,tTru_if ⟨as[i],b,rfl,⟨_,sqB_of (sG _ _ hc)⟩,?_⟩⟩
   refine seq_loop (b:=b) (K:=K) (a:=as[i]) (xs:=cs.map V.ref) (fun j G2=>Same H G2/\G2 D=some (.dT (kvU (uqs ((R.take i).flatten++R[i].take j))))) ⟨sG,by rw[List.take_zero,zCY];exact gD⟩ (fun j G2 _ z=>sqB_of (z.1 _ _ hc)) ?_ ?_
   ·rintro j x G2 hx ⟨s2,g2⟩
    obtain⟨jl,e⟩:=zH.mp hx
    rw[zB]at jl
    rw[zO]at e
    subst e
    have jR:j<R[i].length:=by lia
    have gc:=s2 _ _ (Paired.at pc j jl jR)
    have eu:uqs ((R.take i).flatten++R[i].take (j+1))=uq (uqs ((R.take i).flatten++R[i].take j)) R[i][j]:=by rw[zL jR,<- zAL,Rnd.uqs_snoc]
    refine⟨⟨rfl,trivial⟩,?_⟩
    refine⟨cs[j],_,_,_,rfl,rfl,gc,at0,_,_,rfl,rfl,_,rfl,?_⟩
    by_cases c:0<R[i][j].1
    ·refine ite_pos' (decide_eq_true c) ?_
     refine⟨_,DPut.t (k:=[Sum.inl R[i][j].1,Sum.inl R[i][j].2]) g2 gc (by
      rw[kvU_len,sizeLine_eq]
      have h1:=Rnd.uqs_len ((R.take i).flatten++R[i].take j)
      have h2:((R.take i).flatten++R[i].take j).length<=R.flatten.length:=by
       have e1:=Shp.flat_take iR
       rw[zAC,zBF]
       lia
      have:=fr.few
      lia),?_,?_⟩
     ·exact fun b ob hb=>by rw[upd_ne (ne_of_none hb hD)];exact s2 _ _ hb
     ·rw[upd_same,eu,kvU_put _ _ c]
    ·refine ite_neg' (fun z=>c (of_decide_eq_true z)) ⟨s2,?_⟩
     have e0:uq (uqs ((R.take i).flatten++R[i].take j)) R[i][j]=uqs ((R.take i).flatten++R[i].take j):=by
      unfold uq
      rw[if_neg (fun z=>c z.1)]
     rw[eu,e0]
     exact g2
   ·rintro G2 ⟨s2,g2⟩
    rw[zB,cl,zAP,<- ef]at g2
    exact⟨s2,g2⟩
  rintro G ⟨sG,gD⟩
  rw[zB,al,zAP]at gD
  generalize hU:uqs R.flatten=U at gD
  have Um:∀ f,f∈U↔f∈R.flatten/\0<f.1:=fun f=>by rw[<- hU];exact Rnd.uqs_mem _ f
  have Ul:U.length<=180:=by
   rw[<- hU]
   exact zC (Rnd.uqs_len _) fr.few
  obtain rfl:U=[(1,1)]:=by
   have nd:U.Nodup:=by rw[<- hU];exact Rnd.uqs_nodup _
   have m1:=(Um (1,1)).mpr ⟨fr.one,by decide⟩
   have al:∀ f∈U,f=(1,1):=fun f hf=>fr.oth f ((Um f).mp hf).1 ((Um f).mp hf).2
   match U,nd,m1,al with
   |[f],_,_,al=>rw[al f zT]
   |f :: g :: r,nd,_,al =>
    have e:=(al f zT).trans (al g (zY _ zT)).symm
    exact absurd (zAF.mpr (.inl e)) (zCZ.mp nd).1
  -- over one denominator
  refine⟨D,_,ksU [(1,1)],rfl,gD,kvU_keys [(1,1)],fun l2 bs hl2 tb=>?_⟩
  have s1:=Same.new (o:=.lst (bs.map V.ref)) hl2
  have gl2:(upd G l2 (.lst (bs.map V.ref))) l2=some (.lst (bs.map V.ref)):=upd_same
  have pb:=frs_of tb
  refine⟨(by show 1<=sizeLine;decide),fun l3 hl3=>?_⟩
  have s2:=Same.new (o:=.lst [V.ref l2]) hl3
  have s12:=s1.trans s2
  have RU:RowsAt (upd (upd G l2 (.lst (bs.map V.ref))) l3 (.lst [V.ref l2])) false l3 [[(1,1)]]:=⟨[l2],upd_same,.cons ⟨bs,s2 _ _ gl2,Paired.mapP pb fun _ _ z=>s12 _ _ z⟩ .nil⟩
  have gD2:=s12 _ _ gD
  have sH2:=sG.trans s12
  generalize (upd (upd G l2 (.lst (bs.map V.ref))) l3 (.lst [V.ref l2]))=H2 at *
  have rok:Shp.ROk 16 2880 [[(1,1)]]:=by
   refine⟨fun row hr' f hf=>?_,fun row hr' f hf=>?_,fun row hr' f hf=>?_,?_,by decide⟩
   ·rw[zZ.mp hr']at hf
    exact(fr.lo f ((Um f).mp hf).1).pos
   ·rw[zZ.mp hr']at hf
    exact(fr.fit f ((Um f).mp hf).1).2
   ·rw[zZ.mp hr']at hf
    exact(fr.fit f ((Um f).mp hf).1).1.mono (by decide)
   ·simp only[List.flatten_cons,List.flatten_nil,zCY]
    lia
  obtain⟨D0,_,DD⟩:=rok.dn
  refine⟨l3,false,[[(1,1)]],rfl,RU.k,bok_of rok,by show 1<=1000;decide,fun row hr'=>by rw[zZ.mp hr'];lia,fun t l4 ts H3 ht gl4 it s3=>?_⟩
  refine⟨t,_,rfl,SqT.of ht,rfl,_,_,rfl,_,_,rfl,rfl,?_⟩
  cases it with
  | @cons t0 L0 ts' Ls' it0 it1 =>
   cases it1
   have it0:H3 t0=some (.lst ([V.int (1 * (Shr.dn [[(1,1)]] / 1))])):=it0
   refine⟨l4,_,_,_,rfl,rfl,gl4,at0,?_⟩
   refine⟨t0,D,1 * (Shr.dn [[(1,1)]] / 1),kvU [(1,1)],[1,1],rfl,it0,s3 _ _ gD2,rfl,fun l5 T5 a5 H4 s4 gl5 gT ga=>?_⟩
   refine⟨l5,rfl,⟨_,SqL.of gl5⟩,?_⟩
   refine comp_list (K:=K) (a:=l5) (xs:=[V.ref T5]) (fun j ys G5=>Same H4 G5/\ys=(List.replicate j a5).map V.ref) (by show 1<=sizeLine;decide) ⟨Same.refl _,rfl⟩ (fun j ys G5 _ z=>SqL.of (z.1 _ _ gl5)) ?_ ?_
   ·rintro j x ys G5 hx ⟨s5,rfl⟩
    cases j with
    |succ j=>cases hx
    |zero =>
     injection hx with hx
     subst hx
     exact⟨T5,_,rfl,SqT.of (s5 _ _ gT),rfl,_,_,rfl,_,_,rfl,rfl,trivial,tTru_if ⟨s5,rfl⟩⟩
   ·rintro ys G5 yl ⟨s5,rfl⟩ lf hlf
    have s6:=Same.new (o:=.lst [V.ref a5]) hlf
    have sA:=sH2.trans (s3.trans (s4.trans s5))
    exact fin lf _ (sA.free hlf) ⟨[a5],upd_same,.cons (s6 _ _ (s5 _ _ ga)) .nil⟩ (sA.trans s6)
end
end K32
namespace L2
open PySem PySem.W PyProof.Rows Srt
open PySem PySem.W PyProof.Rows
theorem vals_at:∀ {xs:List V}{us:List Value},Vals xs us->∀ (i:Nat) (h:i<xs.length) (h':i<us.length),RelV xs[i] us[i]
 | _,_,.nil,i,h,_=>absurd h (Nat.not_lt_zero _)
 | _,_,.cons r t,0,_,_=>r
 | _,_,.cons r t,i+1,h,h'=>vals_at t i (zAY h) (zAY h')
noncomputable def unint:Value->Int
 | .int i _=>i
 | _=>0
inductive rIndexII(x:V)(vs:List V)(H:Hp)(Q:VK):Prop where
 |mk (l:Addr) (ns:List Int) (n:Int) (j:Nat) (h1:x = .ref l) (h2:vs=[.int n]) (h3:H l=some (.lst (ns.map V.int))) (h4:ns[j]?=some n) (h5:(∀ m,m<j->ns[m]?≠some n)) (h6:Q (.int j) H)
noncomputable def rIndexI:V->List V->Hp->VK->Prop:=fun x vs H Q=>rIndexII x vs H Q
theorem mt_indexI{X:Cx}:MtM X "list.index" rIndexI:=by
 intro pins s σ H x vs v us Q I rx rv h
 obtain⟨l,ns,n,j,rfl,rfl,hl,hj,hno,q⟩:=h
 cases rx
 obtain⟨u,rfl,ru⟩:=rv.one
 obtain⟨t,rfl⟩:=ru
 obtain⟨z,its,n',r,hln,e⟩:=I.lstM hl
 rw[zB,sizeLine_eq]at z
 have jl:j<ns.length:=(zH.mp hj).1
 have il:its.length=ns.length:=by rw[<- r.length,zB]
 have ky:∀ (m:Nat) (hm:m<ns.length),∃ t,its[m]'(by exact zh8 hm il) = .int ns[m] t:=fun m hm=>by
  obtain⟨t,e⟩:RelV (V.int ns[m]) (its[m]'(by exact zh8 hm il)):=by
   have:=vals_at r m (by rw[zB];exact hm) (by exact zh8 hm il)
   rw[zO]at this
   exact this
  exact⟨t,e⟩
 refine call_meets F.slot_list_index ⟨_,e,rfl⟩ F.entry_list_index (F.args_list_index_2 _ _) (PySem.SeqAt.list_indexAt l its.toArray n' _ _ (.int n t) (fun u=>unint u == n) j (by simp;exact zh8 jl il) ?_ ?_ ?_) ⟨e,fun y hy=>?_,?_⟩
 ·lia
 ·obtain⟨t',e'⟩:=ky j jl
  rw[List.getElem_toArray,e']
  show(ns[j] == n)=true
  rw[(zH.mp hj).2]
  simp
 ·intro m hm lt
  obtain⟨t',e'⟩:=ky m (by exact zi9 lt (zAA jl))
  rw[List.getElem_toArray,e']
  show(ns[m] == n)=false
  refine zBK.mpr fun w=>hno m lt ?_
  rw[zF (by exact zi9 lt (zAA jl)),eq_of_beq w]
 ·obtain⟨i,hi,e'⟩:=zBG (show y∈its by simpa using hy)
  obtain⟨t',e2⟩:=ky i (by exact zh7 hi il)
  rw[<- e',e2]
  exact SeqAt.EqAt.int_int _ _ _ _
 ·exact⟨.int j,H,I.tok _,⟨_,rfl⟩,q⟩
end L2
namespace HT
open PySem PySem.Spec PyProof.Rows
section
variable{prog:Program}{w:World}{A:Around}{E:Value->Shared->Prop}{s:Shared}
theorem getItem_tuple_whole{t sl:Addr}{items:Array Value}{vl vu:Value}{lo hi:Option Int}{Q:Value->Shared->Prop}(ht:IsTup s.heap t items)(hs:s.heap.IsSliceOf sl vl vu .none)(pl:IsPart vl lo)(pu:IsPart vu hi)
  (hw:sIx items.size 0 lo=0/\sIx items.size items.size hi=items.size)
  (h:Q (.ref t) s):wpAny (model prog w) A (getItem (.ref t) (.ref sl)) Q E s:=by
 obtain⟨os,hos,hcs,hds⟩:=id hs
 have hTs:s.TypeIs (.ref sl) "slice":=⟨os,hos,hcs⟩
 unfold getItem
 try with_reducible refine wpAny_holding ?_
 first | refine zA (zG ?_) | skip
 refine zA (wpAny_sequenceKey ht.typeIs (by decide) ?_)
 refine zA (wpAny_callSpecial?_slot (name:=Str.ofString "__getitem__") ht.typeIs PyProof.Rows.slot_tuple_getitem
  (wpAny_call_entry PyProof.Rows.slot_tuple_getitem ht.typeIs entry_tuple_getitem ?_ (args_tuple_getitem _ _)))
 show wpAny _ _ (Builtin.Tuple.tupleItemsOf (.ref t) >>= _) _ _ s
 refine zA (tupleItemsOf_ ht ?_)
 refine zA (wpAny_typeOf hTs ?_)
 rw[if_pos (by decide)]
 refine zA (sliceApplied_gen hs pl pu ?_)
 have hyes:(((sIx items.size 0 lo:Nat):Int) == 0 && (1:Int) == 1 && (sIx items.size items.size hi-sIx items.size 0 lo) == items.size)=true:=by
  rw[hw.1,hw.2]
  simp
 show wpAny _ _ (if(((sIx items.size 0 lo:Nat):Int) == 0 && (1:Int) == 1 && (sIx items.size items.size hi-sIx items.size 0 lo) == items.size)=true then _ else _) _ _ s
 rw[if_pos hyes]
 refine zA (m:=Builtin.Tuple.tupleIsExact (.ref t)) ?_
 unfold Builtin.Tuple.tupleIsExact
 refine zA (wpAny_typeOf ht.typeIs (zG ?_))
 rw[if_pos (by decide)]
 refine zA (wpAny_rule ?_)
 first
  |exact zG ⟨_,rfl,zG h⟩
  |exact zA (zG (zG ⟨_,rfl,zG h⟩))
  |exact zA (zG ⟨_,rfl,zG h⟩)
end
end HT
namespace L2
open PySem PySem.W PyProof.Rows
variable{X:Cx}
inductive rSlAI(x:V)(lo:Option Int)(hi:Option Int)(H:Hp)(Q:VK):Prop where
 |mk (a:_) (xs:_) (h1:x = .ref a) (h2:H a=some (.tup xs)) (h3:∀ p H',Same H H'->H' p=some (.tup (cutV xs lo hi))->Q (.ref p) H')
noncomputable def rSlA:V->Option Int->Option Int->Hp->VK->Prop:=fun x lo hi H Q=>rSlAI x lo hi H Q
theorem sl_tupA:SlR X rSlA:=by
 intro pins s σ H x v vl vu lo hi sl Q I rx hs pl pu h
 obtain⟨a,xs,rfl,hx,q⟩:=h
 by_cases hw:HT.sIx xs.length 0 lo=0/\HT.sIx xs.length xs.length hi=xs.length
 ·cases rx
  obtain⟨its,r,ht,hz⟩:=I.tuple (SqT.of (K:=X.K) hx)
  have hlen:its.toArray.size=xs.length:=by rw[zV];exact r.length.symm
  refine⟨"tuple",_,PyProof.Rows.slot_tuple_getitem.lookup,ht.typeIs,?_⟩
  refine HT.getItem_tuple_whole ht hs pl pu (by rw[hlen];exact hw) ⟨.ref a,H,I,rfl,q a H (Same.refl _) ?_⟩
  unfold cutV
  rw[hw.1,hw.2,List.drop_zero,Nat.sub_zero,zAP]
  exact hx
 ·exact sl_tup pins s σ H _ v vl vu lo hi sl Q I rx hs pl pu ⟨a,xs,rfl,SqT.of hx,hw,fun p hp=>q p _ (Same.new hp) upd_same⟩
open PySem PySem.W PyProof.Rows Srt HT
section
variable{X:Cx}
noncomputable def tRev(K:PySem.W.Frag)(te ts:TE):TE:=fun σ H Q=>te σ H fun x H1=>ts σ H1 fun y H2=>∃ a xs,x = .ref a/\y = .int (-1)/\SqL K H2 a xs/\∀ p,H2 p=none->Q (.ref p) (upd H2 p (.lst xs.reverse))
theorem pick_rev(its:List Value):slicePick its.toArray none none (some (-1))=its.reverse.toArray:=by
 have e:sliceBounds none none (some (-1)) its.toArray.size=((its.length:Int)-1,-1,-1):=by
  simp[sliceBounds]
 unfold slicePick
 rw[e]
 congr 1
 have r:sliceRange ((its.length:Int)-1) (-1) (-1)=(List.range its.length).map fun k=>its.length-1-k:=by
  unfold sliceRange
  have c:(if(-1:Int) > 0 then(if((its.length:Int)-1) < -1 then(-1-((its.length:Int)-1) + -1-1) / -1 else 0)else(if((its.length:Int)-1) > -1 then(((its.length:Int)-1) - -1 - -1-1) / (- -1)else 0)).toNat=its.length:=by
   rw[if_neg (by decide)]
   split
   ·have:(((its.length:Int)-1) - -1 - -1-1) / (- -1)=its.length:=by
     rw[show(- (-1:Int))=1 from rfl,Int.ediv_one]
     exact zix
    rw[this]
    exact zAQ _
   ·lia
  dsimp only
  rw[c]
  apply zCM
  intro k hk
  have:=zCP.mp hk
  lia
 dsimp only
 rw[r]
 rw[List.filterMap_map]
 have fm:∀ (l:List Nat) (f:Nat->Option Value) (g:Nat->Value),(∀ k∈l,f k=some (g k))->l.filterMap f=l.map g:=by
  intro l f g
  induction l with
  |nil=>intro _;rfl
  |cons k l ih =>
   intro h
   rw[List.filterMap_cons,h k (zT ..),zAI,ih fun k hk=>h k (zY _ hk)]
 rw[fm _ _ (fun k=>its.getD (its.length-1-k) .none) fun k hk=>?_]
 ·apply List.ext_getElem
  ·simp
  ·intro i h1 h2
   rw[zB,List.length_range]at h1
   rw[zO,List.getElem_range,List.getElem_reverse,zAX,zF (by exact zav h1)]
   rfl
 ·have:=zCP.mp hk
  show its.toArray[its.length-1-k]?=_
  rw[List.getElem?_toArray,zAX,zF (by exact zav this)]
  rfl
theorem Vals.rev:∀ {xs:List V}{us:List Value},Vals xs us->Vals xs.reverse us.reverse
 | _,_,.nil=>.nil
 | _,_,.cons h t=>by
  rw[List.reverse_cons,List.reverse_cons]
  exact(Vals.rev t).append (.cons h .nil)
theorem pe_rev{e st:Expr}{te ts:TE}{p2 pos:Pos}(he:PE X e te)(hst:PE X st ts):PE X (.Subscript e (.Slice none none (some st) p2) pos) (tRev X.K te ts):=by
 intro pins s σ H Q I h
 refine Subscript_ (thn (he pins s σ H _ I h) fun v s1 ⟨x,H1,I1,r1,q1⟩=>?_)
 refine wpAny_Slice ?_
 rw[evalPart_none,evalPart_some]
 refine zG (zG (thn (hst pins s1 σ H1 _ I1 q1) fun w' s3 ⟨y,H3,I3,r3,q3⟩=>?_))
 obtain⟨a,xs,rfl,rfl,hx,q⟩:=q3
 cases r1
 obtain⟨tk,rfl⟩:=r3
 have I4:Inv X pins σ H3 { s3 with heap:=s3.heap.push { cls:=.type "slice",data:=.fields #[.none,.none,.int (-1) tk] } }:=I3.kept (t':=s3.toks) fun b ob q=>zD _ q
 obtain⟨its,r,ht,hz⟩:=I4.list hx
 show wpAny (model X.prog X.w) X.A (subscriptTail e (.Slice none none (some st) p2) (.ref a) (.ref s3.heap.objs.size)) (EP X pins σ Q) X.xe { s3 with heap:=s3.heap.push { cls:=.type "slice",data:=.fields #[.none,.none,.int (-1) tk] } }
 refine tail_any (ops:=[.ref a,.ref s3.heap.objs.size]) ht.isList.typeIs slot_list_getitem.lookup ?_ (by with_unfolding_all rfl)
 have hlen:=r.length
 refine wpAny_getItem_list_slice ht.isList (Heap.IsSliceOf.new ..) .none .none (.int (-1) tk) (by decide) ?_ (by rw[zV] <;> lia)
 rw[pick_rev its]
 refine⟨.ref _,_,I4.laid (t':=s3.toks) (o:=.lst xs.reverse) (fun b ob q=>zD _ q) (zJ _) ?_,rfl,q _ (I4.hok.fresh (zJ _))⟩
 refine⟨by rw[List.length_reverse];exact hz,its.reverse,0,?_,zS _ rfl⟩
 exact r.rev
end
end L2
namespace K32
open PySem L2 PyProof.Rows
open Rnd (ltF tkr uq uqs Lo)
noncomputable def nAt(L:List (List Int))(ties:List Tie)(l:Nat):Int:=(ties.map (cAt L l)).sum
theorem nAt_fits{n m:Nat}{R:Shr.Rows}(h:ShOk 16 2880 n m R){ties:List Tie}(ok:∀ x∈ties,TieOk n x)(len:ties.length<=120){l:Nat}(hl:l<m):fitsB 3180 (nAt (Shr.tops (Shr.dn R) R) ties l):=by
 have:=sum_fits (k:=3060) (l:=ties.map (cAt (Shr.tops (Shr.dn R) R) l)) fun y hy=>by
  obtain⟨x,hx,rfl⟩:=zAR.mp hy
  exact cAt_fits h (ok x hx) hl
 refine this.mono ?_
 rw[zB]
 lia
noncomputable def csts(ties:List Tie)(R:Shr.Rows)(m:Nat):List (Int×Int):=(List.range m).map fun l=>Shr.nf (nAt (Shr.tops (Shr.dn R) R) ties l) (Shr.dn R)
theorem csts_len(ties:List Tie)(R:Shr.Rows)(m:Nat):(csts ties R m).length=m:=by unfold csts;rw[zB,List.length_range]
theorem csts_get(ties:List Tie)(R:Shr.Rows){m l:Nat}(h:l <(csts ties R m).length):(csts ties R m)[l]=Shr.nf (nAt (Shr.tops (Shr.dn R) R) ties l) (Shr.dn R):=by
 simp only[csts,zO,List.getElem_range]
theorem csts_ok{n m:Nat}{R:Shr.Rows}(sh:ShOk 16 2880 n m R){ties:List Tie}(ok:∀ x∈ties,TieOk n x)(len:ties.length<=120):∀ f∈csts ties R m,0<f.2/\f.2 ∣ Shr.dn R/\fitsB 3180 f.1/\fitsB 3180 f.2:=fun f hf=>by
 obtain⟨l,hl,rfl⟩:=zAR.mp hf
 have hl:=zCP.mp hl
 obtain⟨D0,_,_⟩:=sh.ok.dn
 have Df:=sh.ok.dnE
 have z:=Shr.nf_rel (t:=nAt (Shr.tops (Shr.dn R) R) ties l) (b:=Shr.dn R) (N:=nAt (Shr.tops (Shr.dn R) R) ties l) (D:=Shr.dn R) D0 rfl
 have dv:(Shr.nf (nAt (Shr.tops (Shr.dn R) R) ties l) (Shr.dn R)).2 ∣ Shr.dn R:=by
  have g0:(Int.gcd (nAt (Shr.tops (Shr.dn R) R) ties l) (Shr.dn R):Int) ∣ Shr.dn R:=Int.gcd_dvd_right ..
  exact⟨_,(zDI g0).symm⟩
 have nf:=nAt_fits sh ok len hl
 refine⟨z.pos,dv,?_,(fits_dvd D0 z.pos dv Df).mono (by decide)⟩
 refine nf.le ?_
 show(_ / _:Int).natAbs<=_
 rw[Int.natAbs_ediv_of_dvd (Int.gcd_dvd_left ..)]
 exact Nat.div_le_self _ _
structure Dear(c:List (Int×Int))(k:Nat):Prop where
 lt:k<c.length
 top:∀ f∈c,ltF (c.getD k (0,1)) f=false
 fst:∀ f∈c.take k,ltF f (c.getD k (0,1))=true
noncomputable def oth(m k:Nat):List Int:=(upto m).filter fun a=>!decide (a=(k:Int))
noncomputable def od1(m k:Nat):List Int:=oth m k++[(k:Int)]
noncomputable def od2(m k:Nat):List Int:=(oth m k).reverse++[(k:Int)]
theorem upto_rg{m:Nat}{a:Int}(h:a∈upto m):0<=a/\a<m:=by
 unfold upto at h
 obtain⟨i,hi,e⟩:=zAR.mp h
 have:=zCP.mp hi
 exact zi4 this e
theorem oth_len(m k:Nat):(oth m k).length<=m:=by
 unfold oth
 exact zC (List.length_filter_le ..) (by rw[upto_length];exact zJ _)
theorem od1_ok{m k:Nat}(h:k<m)(hm:m<=900):OdOk m (od1 m k):=by
 have:=oth_len m k
 unfold od1
 refine⟨by rw[zAC];show 0<_+1;exact Nat.succ_pos (oth m k).length,by rw[zAC];show _+1<=_;exact zis hm this,fun a ha=>?_⟩
 rcases zAD.mp ha with ha | ha
 ·exact upto_rg (zCF.mp ha).1
 ·rw[zZ.mp ha];exact zi5 h
theorem od2_ok{m k:Nat}(h:k<m)(hm:m<=900):OdOk m (od2 m k):=by
 have:=oth_len m k
 unfold od2
 refine⟨by rw[zAC];show 0<_+1;lia,by rw[zAC,List.length_reverse];show _+1<=_;lia,fun a ha=>?_⟩
 rcases zAD.mp ha with ha | ha
 ·exact upto_rg (zCF.mp (List.mem_reverse.mp ha)).1
 ·rw[zZ.mp ha];lia
theorem dear_tops{c:List (Int×Int)}{D:Int}{k:Nat}{mx:Int}(D0:0<D)(ok:∀ f∈c,0<f.2/\f.2 ∣ D)(hk:(c.map fun f=>f.1 * (D / f.2))[k]?=some mx)(no:∀ j,j<k->(c.map fun f=>f.1 * (D / f.2))[j]?≠some mx)(top:∀ a∈c.map (fun f=>f.1 * (D / f.2)),a<=mx):Dear c k:=by
 obtain⟨kl,e⟩:=zH.mp hk
 rw[zB]at kl
 rw[zO]at e
 have ek:c.getD k (0,1)=c[k]:=by rw[zAX,zF kl];rfl
 have okk:=ok _ (zX kl)
 refine⟨kl,fun f hf=>?_,fun f hf=>?_⟩
 ·rw[ek]
  have:=top _ (List.mem_map_of_mem hf)
  rw[<- e]at this
  have h2:=(Rnd.top_lt D0 okk.1 (ok f hf).1 okk.2 (ok f hf).2).mpr
  cases h:ltF c[k] f with
  |false=>rfl
  |true=>exact absurd (h2 h) (by omega)
 ·rw[ek]
  obtain⟨j,jl,ej⟩:=List.mem_iff_getElem.mp hf
  rw[zBF]at jl
  have jc:j<c.length:=by omega
  have ej:c[j]=f:=by rw[<- ej];exact(List.getElem_take ..).symm
  subst ej
  have okj:=ok _ (zX jc)
  refine(Rnd.top_lt D0 okj.1 okk.1 okj.2 okk.2).mp ?_
  have h1:=top _ (List.mem_map_of_mem (zX jc))
  have h2:=no j (by omega)
  rw[zAJ,zF jc]at h2
  have h3:c[j].1 * (D / c[j].2)≠mx:=fun z=>h2 (congrArg some z)
  rw[e]
  omega
theorem first_at:∀ {l:List Int}{x:Int},x∈l->∃ j:Nat,l[j]?=some x/\∀ m,m<j->l[m]?≠some x
 |y :: l,x,h=>by
  by_cases e:y=x
  ·exact⟨0,by rw[e];rfl,fun m hm=>absurd hm (by exact ziz hm)⟩
  ·have h':x∈l:=by
    rcases zAF.mp h with z | z
    ·exact absurd z.symm e
    ·exact z
   obtain⟨j,h1,h2⟩:=first_at h'
   refine⟨j+1,h1,fun m hm=>?_⟩
   cases m with
   |zero=>exact fun z=>e (Option.some.inj z)
   |succ m=>exact h2 m (by exact zn6 hm)
theorem upto_snoc(m:Nat):upto (m+1)=upto m++[(m:Int)]:=by
 unfold upto
 rw[List.range_succ,zU]
 simp
inductive spOfI(vs:List V)(H:Hp)(Q:VK):Prop where
 |mk (b:Bool) (t q o:Addr) (n:Nat) (ties:List Tie) (ps:List Int) (R:Shr.Rows) (h1:vs=[.ref t,.ref q,.ref o]) (h2:WebAt H t n ties) (h3:(∀ x∈ties,TieOk n x)) (h4:H q=some (.lst (ps.map V.int))) (h5:RowsAt H b o R) (h6:ShOk 16 2880 n ps.length R) (h7:1<=ps.length) (h8:ps.length<=6) (h9:∀ (l a1 a2:Addr) (k:Nat) (H':Hp),Dear (csts ties R ps.length) k->H a1=none->H a2=none->H' l=some (.lst [.ref a1,.ref a2])->H' a1=some (.lst ((od1 ps.length k).map V.int))->H' a2=some (.lst ((od2 ps.length k).map V.int))->Same H H'->Q (.ref l) H')
noncomputable def spOf:Sp:=fun vs H Q _=>spOfI vs H Q
section
variable{P:Program}{w:World}{K:PySem.W.Frag}{mg:Str->Option Value}{base:Heap}{b:Bool}
noncomputable abbrev nOf:List Str:=["web","posts","shares","below","rows","dearest","others"]
theorem scOf:FnScope nOf ["web","posts","shares"] (defScope sOrdersFor):=⟨rfl,rfl,rfl,by decide +kernel,rfl,by decide +kernel,by decide +kernel⟩
theorem csOf1:CompScope ["at","web","shares"] [none,some 0,some 2] nOf (defScope sOrdersFor) (scO [(".0",.local),("at",.local),("cost_at",.globalImplicit),("shares",.free),("web",.free)]):=⟨rfl,by decide +kernel,by decide +kernel,by decide +kernel,rfl,capB_ok (by decide +kernel)⟩
theorem ndOf1:(["at","web","shares"]:List Str).Nodup:=by decide +kernel
theorem csOf2:CompScope ["at","dearest"] [none,some 5] nOf (defScope sOrdersFor) (scO [(".0",.local),("at",.local),("dearest",.free)]):=⟨rfl,by decide +kernel,by decide +kernel,by decide +kernel,rfl,capB_ok (by decide +kernel)⟩
theorem ndOf2:(["at","dearest"]:List Str).Nodup:=by decide +kernel
theorem ok_of{f g1 g2:Addr}{fd d1 d2:FuncData}(F:Fun K "orders_for" "orders_for" sOrdersFor f fd)(T:Txt mg)(GA:CalF P w K mg base 3 "cost_at" ["web","shares","l"] (spCa K) g1 d1)(GO:CalF P w K mg base 2 "over_one" ["rows"] (spOo K) g2 d2):FnOk P w K mg base CX0 4 f fd ["web","posts","shares"] spOf:=by
 refine F.ok scOf (fun vs H Q E h=>?_) (fun cdv A outer s H vs Q E hr h=>?_)
 ·obtain⟨b,t,q,o,n,ties,ps,R,rfl,_⟩:=h
  rfl
 ·obtain⟨b,t,q,o,n,ties,ps,R,rfl,W,ok,hq,RA,sh,p1,p6,fin⟩:=h
  have hr2:Room 2 _:=hr.mono (by decide)
  refine⟨_,(pss_cons (ps_asg (pe_call GO.ok hr2 rfl GO.mg GO.kp GO.bd .nil pass0 (@pa_lst _ _ _ _ _ _ (@pe_lst _ _ _ _ (@pa_comp _ _ _ _ _ _ _ _ (pe_comp rfl csOf1 (pi_range1 rfl T.range (@pa_call _ _ _ _ _ _ _ _ (pe_callB call_lenH (by rfl) T.len PySem.boot_len (@pa_nam _ _ _ _ _ _ (pvQ 1) pa_nil)) pa_nil)) (fun C s H fp=>(pg_name (i:=0) ndOf1 rfl (Or.inl rfl))) (fun C s H fp=>pf_nil) (fun C s H fp=>(pe_call GA.ok hr rfl GA.mg GA.kp GA.bd .nil pass0 (@pa_nam _ _ _ _ _ _ (pvQ 1) (@pa_nam _ _ _ _ _ _ (pvQ 2) (@pa_nam _ _ _ _ _ _ (pvQ 0) pa_nil)))))) pa_nil)) pa_nil)) (pg_tup (n:=2) rfl (pgs_cons (pg_name (i:=3) scOf.nd rfl (Or.inl rfl)) (pgs_cons (pg_name (i:=4) scOf.nd rfl (Or.inl rfl)) pgs_nil))))
   (pss_cons (ps_set (i:=5) scOf.nd rfl (Or.inr rfl) (pe_bmH PySem.F.slot_list_index PySem.F.type_list_index mt_indexI (@pe_ix _ _ _ _ _ _ _ ix_listH (pvQ 4) pe_int (fun _ _=>rfl)) (@pa_call _ _ _ _ _ _ _ _ (pe_callB (call_maxLH rfl) (by rfl) T.max boot_max (@pa_sub _ _ _ _ _ _ _ (@pe_ix _ _ _ _ _ _ _ ix_listH (pvQ 4) pe_int (fun _ _=>rfl)) pa_nil)) pa_nil)))
   (pss_cons (ps_comp (i:=6) scOf.nd rfl (Or.inl rfl) rfl csOf2 (pi_range1 rfl T.range (@pa_call _ _ _ _ _ _ _ _ (pe_callB call_lenH (by rfl) T.len PySem.boot_len (@pa_nam _ _ _ _ _ _ (pvQ 1) pa_nil)) pa_nil)) (fun C s H fp=>(pg_name (i:=0) ndOf2 rfl (Or.inl rfl))) (fun C s H fp=>(pf_one (pt_cmpR op_ne (pvQ 0) (pvQ 1) (nomark _)))) (fun C s H fp=>(pvQ 0)))
   (pss_one (ps_ret (@pe_lst _ _ _ _ (@pa_bin _ _ _ _ _ _ _ _ (pe_op op_cat (pvQ 6) (@pe_lst _ _ _ _ (@pa_nam _ _ _ _ _ _ (pvQ 5) pa_nil))) (@pa_bin _ _ _ _ _ _ _ _ (pe_op op_cat (pe_rev (pvQ 6) (pe_un un_neg pe_int)) (@pe_lst _ _ _ _ (@pa_nam _ _ _ _ _ _ (pvQ 5) pa_nil))) pa_nil)))))))),?_⟩
  refine⟨q,_,rfl,hq,_,rfl,by rw[zB];exact zh1,by rw[zB];exact zm2 p6 rfl,?_⟩
  rw[zB,show((ps.length:Int)).toNat=ps.length by exact zAQ ps.length]
  generalize em:ps.length=m at *
  have cl:=csts_len ties R m
  refine comp_range (lo:=0) (n:=m) (fun j ys G=>Same H G/\∃ cs:List Addr,ys=cs.map V.ref/\Paired (fun c f=>G c=some (frO f)) cs ((csts ties R m).take j)) (by rw[sizeLine_eq];exact zl1 p6 rfl) ⟨Same.refl _,[],rfl,.nil⟩ ?_ ?_
  ·rintro j ys G hj ⟨sG,cs,rfl,pc⟩
   refine⟨⟨rfl,rfl,trivial⟩,tTru_if ⟨t,o,j,n,m,16,2880,ties,b,R,by rw[Int.zero_add];rfl,hj,W.same sG,ok,(RA.same sG).k,sh,fun c H1 gc s1=>?_⟩⟩
   refine⟨sG.trans s1,cs++[c],by rw[zU];rfl,?_⟩
   rw[zL (by exact zh8 hj cl)]
   refine PairedApp (Paired.mapP pc fun _ _ z=>s1 _ _ z) (.cons ?_ .nil)
   rw[csts_get]
   exact gc
  ·rintro ys G yl ⟨sG,cs,rfl,pc⟩ l1 hl1
   rw[zCI (by exact zAB cl)]at pc
   have cl':=pc.length
   have s1:=Same.new (o:=.lst (cs.map V.ref)) hl1
   refine⟨(by show 1<=sizeLine;decide),fun l2 hl2=>?_⟩
   have s2:=Same.new (o:=.lst [V.ref l1]) hl2
   have s12:=s1.trans s2
   have len:ties.length<=120:=W.2
   have co:=csts_ok sh ok len
   have c0:csts ties R m≠[]:=fun z=>by rw[z]at cl;simp at cl;omega
   have bk:BOk [csts ties R m]:=⟨_,sh.ok.dn.1,sh.ok.dnE.mono (by decide),fun row hr' f hf=>by
    rw[zZ.mp hr']at hf
    obtain⟨x1,x2,x3,_⟩:=co f hf
    exact⟨x1,x2,x3.mono (by decide)⟩⟩
   have RU:RowsAt (upd (upd G l1 (.lst (cs.map V.ref))) l2 (.lst [V.ref l1])) false l2 [csts ties R m]:=⟨[l1],upd_same,.cons ⟨cs,s2 _ _ upd_same,Paired.mapP pc fun _ _ z=>s12 _ _ z⟩ .nil⟩
   have sH2:=sG.trans s12
   generalize (upd (upd G l1 (.lst (cs.map V.ref))) l2 (.lst [V.ref l1]))=H2 at *
   obtain⟨D0,_,DD⟩:=Shr.lcmA_ok (us:=Shr.unders [csts ties R m]) (d:=1) (by decide) fun u hu=>by
    obtain⟨row,hr',f,hf,rfl⟩:=Shr.mem_unders.mp hu
    rw[zZ.mp hr']at hf
    exact(co f hf).1
   have dk:∀ f∈csts ties R m,0<f.2/\f.2 ∣ Shr.dn [csts ties R m]:=fun f hf=>⟨(co f hf).1,DD _ (Shr.mem_unders.mpr ⟨_,zZ.mpr rfl,f,hf,rfl⟩)⟩
   refine⟨l2,false,[csts ties R m],rfl,RU.k,bk,by show 1<=1000;decide,fun row hr'=>by rw[zZ.mp hr'];exact zh9 (zl1 p6 rfl) cl,fun tp l4 ts H3 ht gl4 it s3=>?_⟩
   refine⟨tp,_,rfl,SqT.of ht,rfl,_,_,rfl,_,_,rfl,rfl,?_⟩
   cases it with
   | @cons t0 L0 ts' Ls' it0 it1 =>
    cases it1
    have it0:H3 t0=some (.lst (((csts ties R m).map fun f=>f.1 * (Shr.dn [csts ties R m] / f.2)).map V.int)):=it0
    have D0:0<Shr.dn [csts ties R m]:=D0
    generalize Shr.dn [csts ties R m]=B at *
    have sH3:=sH2.trans s3
    refine⟨l4,_,_,_,rfl,rfl,gl4,at0,⟨t0,_,rfl,it0⟩,l4,_,_,_,rfl,rfl,gl4,at0,t0,_,rfl,it0,fun z=>c0 (List.map_eq_nil_iff.mp z),fun mx mm mt=>?_⟩
    obtain⟨k,k1,k2⟩:=first_at mm
    have dr:Dear (csts ties R m) k:=dear_tops D0 dk k1 k2 mt
    have km:k<m:=by have:=dr.lt;exact zh7 this cl
    refine⟨t0,_,mx,k,rfl,rfl,it0,k1,k2,?_⟩
    refine⟨q,_,rfl,sH3 _ _ hq,_,rfl,by rw[zB];exact zh1,by rw[zB];exact zm2 (zh9 p6 em) rfl,?_⟩
    rw[zB,em,show((m:Int)).toNat=m by exact zAQ m]
    refine comp_range (lo:=0) (n:=m) (fun j ys G=>G=H3/\ys=((upto j).filter fun a=>!decide (a=(k:Int))).map V.int) (by rw[sizeLine_eq];exact zl1 p6 rfl) ⟨rfl,rfl⟩ ?_ ?_
    ·rintro j ys G4 hj ⟨rfl,rfl⟩
     refine⟨⟨rfl,trivial⟩,rfl,_,rfl,ite2 (fun hc=>?_) (fun hc=>?_)⟩
     ·refine⟨rfl,?_⟩
      have hc':(!decide ((0+(j:Int))=(k:Int)))=true:=by simpa using hc
      rw[upto_snoc,List.filter_append,zU]
      rw[Int.zero_add]at hc'
      rw[zDG (by exact hc')]
      rw[show(0:Int)+(j:Int)=j from Int.zero_add _]
      rfl
     ·refine⟨rfl,?_⟩
      have hc':¬(!decide ((0+(j:Int))=(k:Int)))=true:=by simpa using hc
      rw[Int.zero_add]at hc'
      rw[upto_snoc,List.filter_append,zU,zDH (by exact hc')]
      simp
    ·rintro ys G4 yl ⟨rfl,rfl⟩ l6 hl6
     have s6:=Same.new (o:=.lst (((upto m).filter fun a=>!decide (a=(k:Int))).map V.int)) hl6
     have g6:(upd G4 l6 (.lst (((upto m).filter fun a=>!decide (a=(k:Int))).map V.int))) l6=some (.lst ((oth m k).map V.int)):=upd_same
     generalize (upd G4 l6 (.lst (((upto m).filter fun a=>!decide (a=(k:Int))).map V.int)))=H6 at *
     have sH6:=sH3.trans s6
     have ol:=oth_len m k
     refine⟨(by show 1<=sizeLine;decide),fun e1 he1=>?_⟩
     have s7:=Same.new (o:=.lst [V.int (k:Int)]) he1
     refine⟨l6,e1,_,_,rfl,rfl,s7 _ _ g6,upd_same,by rw[zB,sizeLine_eq];show _+1<=_;exact zfe p1 p6 cl cl' ol,fun a1 ha1=>?_⟩
     have s8:=Same.new (o:=.lst ((oth m k).map V.int++[V.int (k:Int)])) ha1
     have s68:=s7.trans s8
     have a10:H a1=none:=(sH6.trans s7).free ha1
     have g1:(upd (upd H6 e1 (.lst [V.int (k:Int)])) a1 (.lst ((oth m k).map V.int++[V.int (k:Int)]))) a1=some (.lst ((od1 m k).map V.int)):=by rw[upd_same];unfold od1;rw[zU];rfl
     have g68:=s68 _ _ g6
     have sH8:=sH6.trans s68
     generalize (upd (upd H6 e1 (.lst [V.int (k:Int)])) a1 (.lst ((oth m k).map V.int++[V.int (k:Int)])))=H8 at *
     refine⟨_,rfl,l6,_,rfl,rfl,SqL.of g68,fun r1 hr1=>?_⟩
     have s9:=Same.new (o:=.lst ((oth m k).map V.int).reverse) hr1
     refine⟨(by show 1<=sizeLine;decide),fun e2 he2=>?_⟩
     have s10:=Same.new (o:=.lst [V.int (k:Int)]) he2
     refine⟨r1,e2,_,_,rfl,rfl,s10 _ _ upd_same,upd_same,by rw[List.length_reverse,zB,sizeLine_eq];show _+1<=_;exact zfe p1 p6 cl cl' ol,fun a2 ha2=>?_⟩
     have s11:=Same.new (o:=.lst (((oth m k).map V.int).reverse++[V.int (k:Int)])) ha2
     have a20:H a2=none:=(sH8.trans (s9.trans s10)).free ha2
     refine⟨(by show 2<=sizeLine;decide),fun l hl=>?_⟩
     have s12':=Same.new (o:=.lst [V.ref a1,V.ref a2]) hl
     refine fin l a1 a2 k _ dr a10 a20 upd_same (s12' _ _ (s11 _ _ (s10 _ _ (s9 _ _ g1)))) (s12' _ _ ?_) (sH8.trans (s9.trans (s10.trans (s11.trans s12'))))
     rw[upd_same]
     unfold od2
     rw[zU,List.map_reverse]
     rfl
end
open PySem L2 PyProof.Rows
open Rnd (ltF tkr uq uqs Lo)
noncomputable abbrev Cn:=List Int×(Int×Int)
noncomputable def ows(ps:List Int)(R:Shr.Rows)(c:Cn):List Int:=R.map fun row=>ps.getD (tkr row c.2 c.1).toNat 0
noncomputable def cutL(ties:List Tie)(ps:List Int)(R:Shr.Rows)(c:Cn):List Tie:=ties.filter (dif (ows ps R c))
noncomputable def wt(ties:List Tie)(ps:List Int)(R:Shr.Rows)(c:Cn):Int:=((cutL ties ps R c).map (·.2.2)).sum
noncomputable def stp(W:Cn->Int)(b:Option Cn)(c:Cn):Option Cn :=
 match b with
 |none=>some c
 |some x=>if W c<W x then some c else some x
noncomputable def turn(W:Cn->Int)(o:List Int)(L:List (Int×Int))(b:Option Cn):Option Cn:=L.foldl (fun b th=>stp W b (o,th)) b
noncomputable def best(W:Cn->Int)(os:List (List Int))(L:List (Int×Int)):Option Cn:=os.foldl (fun b o=>turn W o L b) none
theorem turn_snoc(W:Cn->Int)(o:List Int)(L:List (Int×Int))(th:Int×Int)(b:Option Cn):turn W o (L++[th]) b=stp W (turn W o L b) (o,th):=by
 unfold turn
 rw[List.foldl_append]
 rfl
theorem best_snoc(W:Cn->Int)(os:List (List Int))(o:List Int)(L:List (Int×Int)):best W (os++[o]) L=turn W o L (best W os L):=by
 unfold best
 rw[List.foldl_append]
 rfl
noncomputable def BestAt(H G:Hp)(ties:List Tie)(ps:List Int)(R:Shr.Rows)(v:V):Option Cn->Prop
 |none=>v = .non
 |some c=>Ex5 fun(r cu od ta:Addr) (as:List Addr)=>v = .ref r/\G r=some (.tup [.int (wt ties ps R c),.ref cu,.ref od,.ref ta])/\G cu=some (.lst (as.map V.ref))/\PairT G as (cutL ties ps R c)/\G od=some (.lst (c.1.map V.int))/\G ta=some (frO c.2)/\H cu=none/\H od=none/\OdOk ps.length c.1
theorem BestAt.same{H G G':Hp}{ties:List Tie}{ps:List Int}{R:Shr.Rows}{v:V}{c:Option Cn}(h:BestAt H G ties ps R v c)(s:Same G G'):BestAt H G' ties ps R v c:=by
 cases c with
 |none=>exact h
 |some c =>
  obtain⟨r,cu,od,ta,as,e,h1,h2,h3,h4,h5,h6,h7,h8⟩:=h
  exact⟨r,cu,od,ta,as,e,s _ _ h1,s _ _ h2,h3.same s,s _ _ h4,s _ _ h5,h6,h7,h8⟩
inductive spRdI(vs:List V)(H:Hp)(Q:VK):Prop where
 |mk (b:Bool) (t q o:Addr) (n:Nat) (ties:List Tie) (ps:List Int) (R:Shr.Rows) (h1:vs=[.ref t,.ref q,.ref o]) (h2:WebAt H t n ties) (h3:(∀ x∈ties,TieOk n x)) (h4:ties.Pairwise tieLt) (h5:H q=some (.lst (ps.map V.int))) (h6:RowsAt H b o R) (h7:ShOk 16 2880 n ps.length R) (h8:FrR R) (h9:(∀ row∈R,RwOk ps.length row)) (h10:1<=ps.length) (h11:ps.length<=6) (h12:∀ (v:V) (k:Nat) (H':Hp),Dear (csts ties R ps.length) k->BestAt H H' ties ps R v (best (wt ties ps R) [od1 ps.length k,od2 ps.length k] [(1,1)])->Same H H'->Q v H')
noncomputable def spRd:Sp:=fun vs H Q _=>spRdI vs H Q
section
variable{P:Program}{w:World}{K:PySem.W.Frag}{mg:Str->Option Value}{base:Heap}{b:Bool}
noncomputable abbrev nRd:List Str:=["web","posts","shares","best","order","threshold","cut","weight"]
theorem scRd:FnScope nRd ["web","posts","shares"] (defScope sRounded):=⟨rfl,rfl,rfl,by decide +kernel,rfl,by decide +kernel,by decide +kernel⟩
theorem ok_rd{f g1 g2 g3 g4 g5:Addr}{fd d1 d2 d3 d4 d5:FuncData}(F:Fun K "rounded" "rounded" sRounded f fd)(GD:CalF P w K mg base 4 "orders_for" ["web","posts","shares"] spOf g1 d1)(GT:CalF P w K mg base 3 "thresholds" ["shares"] spThQ g2 d2)(GC:CalF P w K mg base 1 "cut_by" ["web","owners"] spCb g3 d3)(GB:CalF P w K mg base 3 "owners_by" ["posts","shares","order","threshold"] spObQ g4 d4)(GW:CalF P w K mg base 2 "weight_of" ["web","cut"] spWg g5 d5):FnOk P w K mg base CX0 5 f fd ["web","posts","shares"] spRd:=by
 refine F.ok scRd (fun vs H Q E h=>?_) (fun cdv A outer s H vs Q E hr h=>?_)
 ·obtain⟨b,t,q,o,n,ties,ps,R,rfl,_⟩:=h
  rfl
 ·obtain⟨b,t,q,o,n,ties,ps,R,rfl,W,ok,pw,hq,RA,sh,fr,rwk,p1,p6,fin⟩:=h
  have hr1:Room 1 _:=hr.mono (by decide)
  have hr2:Room 2 _:=hr.mono (by decide)
  have hr3:Room 3 _:=hr.mono (by decide)
  have hr4:Room 4 _:=hr
  obtain⟨L,eLL⟩:∃ L:List (Int×Int),L=[(1,1)]:=⟨_,rfl⟩
  have Lf:∀ f∈L,fitsB 16 f.1/\fitsB 16 f.2:=fun f hf=>by
   rw[eLL]at hf
   rw[zZ.mp hf]
   exact fr.fit _ fr.one
  simp only[<- eLL]at fin
  have len:ties.length<=120:=W.2
  have Rl:=sh.len
  have nb:=sh.nb
  refine⟨_,(pss_cons (ps_set (i:=3) scRd.nd rfl (Or.inl rfl) pe_non)
   (pss_cons (ps_for PassesOwn.never rfl (pi_list (pe_call GD.ok hr4 rfl GD.mg GD.kp GD.bd .nil pass0 (@pa_nam _ _ _ _ _ _ (pvQ 0) (@pa_nam _ _ _ _ _ _ (pvQ 1) (@pa_nam _ _ _ _ _ _ (pvQ 2) pa_nil))))) (pg_name (i:=4) scRd.nd rfl (Or.inl rfl))
   (pss_one (ps_for PassesOwn.never rfl (pi_list (pe_call GT.ok hr3 rfl GT.mg GT.kp GT.bd .nil pass0 (@pa_nam _ _ _ _ _ _ (pvQ 2) pa_nil))) (pg_name (i:=5) scRd.nd rfl (Or.inl rfl))
   (pss_cons (ps_set (i:=6) scRd.nd rfl (Or.inl rfl) (pe_call GC.ok hr1 rfl GC.mg GC.kp GC.bd .nil pass0 (@pa_nam _ _ _ _ _ _ (pvQ 0) (@pa_call _ _ _ _ _ _ _ _ (pe_call GB.ok hr3 rfl GB.mg GB.kp GB.bd .nil pass0 (@pa_nam _ _ _ _ _ _ (pvQ 1) (@pa_nam _ _ _ _ _ _ (pvQ 2) (@pa_nam _ _ _ _ _ _ (pvQ 4) (@pa_nam _ _ _ _ _ _ (pvQ 5) pa_nil))))) pa_nil))))
   (pss_cons (ps_set (i:=7) scRd.nd rfl (Or.inl rfl) (pe_call GW.ok hr2 rfl GW.mg GW.kp GW.bd .nil pass0 (@pa_nam _ _ _ _ _ _ (pvQ 0) (@pa_nam _ _ _ _ _ _ (pvQ 6) pa_nil))))
   (pss_one (ps_if (PW.pt (pw_or (pt_cmp (pc_isN (pvQ 3))) (pw_or1 (pt_cmpR op_lt (pvQ 7) (@pe_ix _ _ _ _ _ _ _ ix_tupH (pvQ 3) pe_int (fun _ _=>rfl)) (nomark _))))) (pss_one (ps_set (i:=3) scRd.nd rfl (Or.inl rfl) (@pe_tup _ _ _ _ _ (@pa_nam _ _ _ _ _ _ (pvQ 7) (@pa_nam _ _ _ _ _ _ (pvQ 6) (@pa_nam _ _ _ _ _ _ (pvQ 4) (@pa_nam _ _ _ _ _ _ (pvQ 5) pa_nil))))))) pss_nil)))))))
   (pss_one (ps_ret (pvQ 3))))),?_⟩
  refine⟨b,t,q,o,n,ties,ps,R,rfl,W,ok,hq,RA,sh,p1,p6,fun l a1 a2 k H1 dr a10 a20 gl ga1 ga2 s1=>?_⟩
  have km:k<ps.length:=by have:=dr.lt;rw[csts_len]at this;exact this
  have pO:Paired (fun a od=>H1 a=some (.lst (od.map V.int))/\H a=none/\OdOk ps.length od) [a1,a2] [od1 ps.length k,od2 ps.length k]:=.cons ⟨ga1,a10,od1_ok km (by exact zl1 p6 rfl)⟩ (.cons ⟨ga2,a20,od2_ok km (by exact zl1 p6 rfl)⟩ .nil)
  replace fin:=fun v H'=>fin v k H' dr
  generalize eo:[od1 ps.length k,od2 ps.length k]=os at pO fin
  generalize ea:[a1,a2]=aa at pO
  have gl:H1 l=some (.lst (aa.map V.ref)):=by rw[<- ea];exact gl
  have al:=pO.length
  have a2l:aa.length=2:=by rw[<- ea];rfl
  refine⟨l,rfl,⟨_,SqL.of gl⟩,?_⟩
  refine for_list (K:=K) (a:=l) (xs:=aa.map V.ref) (fun i σ G=>Ex5 fun(v:V) (v4 v5 v6 v7:Option V)=>σ=[some (.ref t),some (.ref q),some (.ref o),some v,v4,v5,v6,v7]/\Same H1 G/\BestAt H G ties ps R v (best (wt ties ps R) (os.take i) L)) ⟨_,_,_,_,_,rfl,Same.refl _,rfl⟩ (fun i σ G _ z=>by obtain⟨_,_,_,_,_,_,z,_⟩:=z;exact SqL.of (z _ _ gl)) ?_ ?_
  ·rintro i x σ G hx ⟨v,v4,v5,v6,v7,rfl,sG,bG⟩
   obtain⟨il,e⟩:=zH.mp hx
   rw[zB]at il
   rw[zO]at e
   subst e
   have io:i<os.length:=by exact zh7 il al
   obtain⟨gai,ai0,oo⟩:=Paired.at pO i il io
   have sHG:=s1.trans sG
   refine⟨b,o,R,rfl,RA.same sHG,fr,fun l5 G2 hl5 fL5 s2=>?_⟩
   rw[<- eLL]at fL5
   obtain⟨ts,gl5,pts⟩:=fL5
   have tl:=pts.length
   refine⟨l5,rfl,⟨_,SqL.of gl5⟩,?_⟩
   refine for_list (K:=K) (a:=l5) (xs:=ts.map V.ref) (fun j σ G'=>Ex4 fun(v:V) (v5 v6 v7:Option V)=>σ=[some (.ref t),some (.ref q),some (.ref o),some v,some (.ref aa[i]),v5,v6,v7]/\Same G2 G'/\BestAt H G' ties ps R v (turn (wt ties ps R) os[i] (L.take j) (best (wt ties ps R) (os.take i) L))) ⟨_,_,_,_,rfl,Same.refl _,bG.same s2⟩ (fun j σ G' _ z=>by obtain⟨_,_,_,_,_,z,_⟩:=z;exact SqL.of (z _ _ gl5)) ?_ ?_
   ·rintro j x σ G' hx ⟨v,v5,v6,v7,rfl,s3,b3⟩
    obtain⟨jl,e⟩:=zH.mp hx
    rw[zB]at jl
    rw[zO]at e
    subst e
    have jL:j<L.length:=by exact zh7 jl tl
    have gth:=s3 _ _ (Paired.at pts j jl jL)
    have sH3:=(sHG.trans s2).trans s3
    obtain⟨f1,f2⟩:=Lf _ (zX jL)
    have hst:turn (wt ties ps R) os[i] (L.take (j+1)) (best (wt ties ps R) (os.take i) L)=stp (wt ties ps R) (turn (wt ties ps R) os[i] (L.take j) (best (wt ties ps R) (os.take i) L)) (os[i],L[j]):=by rw[zL jL,turn_snoc]
    generalize turn (wt ties ps R) os[i] (L.take j) (best (wt ties ps R) (os.take i) L)=bb at b3 hst
    refine⟨b,q,o,aa[i],ts[j],ps,R,os[i],L[j],rfl,sH3 _ _ hq,RA.same sH3,s3 _ _ (s2 _ _ (sG _ _ gai)),gth,rwk,by exact zh9 nb Rl,oo,f1.mono (by decide),f2.mono (by decide),fun u G3 gu su=>?_⟩
    have sH4:=sH3.trans su
    refine⟨t,u,n,ties,ows ps R (os[i],L[j]),rfl,W.same sH4,ok,gu,by unfold ows;rw[zB];exact Rl,fun l6 as6 G4 hl6 gl6 pt6 s4=>?_⟩
    have sH5:=sH4.trans s4
    refine⟨t,l6,n,ties,cutL ties ps R (os[i],L[j]),as6,rfl,W.same sH5,pw,gl6,pt6,zC (List.length_filter_le ..) len,fun x hx=>(zCF.mp hx).1,fun G5 s5=>?_⟩
    have sH6:=sH5.trans s5
    have b5:=((b3.same su).same s4).same s5
    have new:∀ r,G5 r=none->BestAt H (upd G5 r (.tup [V.int (wt ties ps R (os[i],L[j])),V.ref l6,V.ref aa[i],V.ref ts[j]])) ties ps R (.ref r) (some (os[i],L[j])):=fun r hr=>by
     have sr:=Same.new (o:=.tup [V.int (wt ties ps R (os[i],L[j])),V.ref l6,V.ref aa[i],V.ref ts[j]]) hr
     exact⟨r,l6,aa[i],ts[j],as6,rfl,upd_same,sr _ _ (s5 _ _ gl6),(pt6.same s5).same sr,sr _ _ (s5 _ _ (s4 _ _ (su _ _ (s3 _ _ (s2 _ _ (sG _ _ gai)))))),sr _ _ (s5 _ _ (s4 _ _ (su _ _ gth))),sH4.free hl6,ai0,oo⟩
    have s35:=((s3.trans su).trans s4).trans s5
    rw[hst]
    cases bb with
    |none =>
     have b5:v = .non:=b5
     subst b5
     refine⟨_,rfl,ite2 (fun _=>?_) (fun hc=>absurd rfl hc)⟩
     refine⟨(by show 4<=sizeLine;decide),fun r hr=>?_⟩
     exact⟨_,_,_,_,rfl,s35.trans (Same.new hr),new r hr⟩
    |some c =>
     obtain⟨r,cu,od,ta,as,rfl,h1,h2,h3,h4,h5,h6,h7,h8⟩:=id b5
     refine⟨_,rfl,ite2 (fun hc=>?_) (fun _=>?_)⟩
     ·exfalso
      simp at hc
     refine⟨r,_,_,_,rfl,rfl,h1,at0,_,_,rfl,rfl,_,rfl,ite2 (fun hc=>?_) (fun hc=>?_)⟩
     ·have hc:wt ties ps R (os[i],L[j])<wt ties ps R c:=of_decide_eq_true hc
      refine⟨(by show 4<=sizeLine;decide),fun r hr=>?_⟩
      refine⟨_,_,_,_,rfl,s35.trans (Same.new hr),?_⟩
      show BestAt _ _ _ _ _ _ (if wt ties ps R (os[i],L[j])<wt ties ps R c then some (os[i],L[j])else some c)
      rw[if_pos hc]
      exact new r hr
     ·have hc:¬ wt ties ps R (os[i],L[j])<wt ties ps R c:=fun z=>hc (decide_eq_true z)
      refine⟨_,_,_,_,rfl,s35,?_⟩
      show BestAt _ _ _ _ _ _ (if wt ties ps R (os[i],L[j])<wt ties ps R c then some (os[i],L[j])else some c)
      rw[if_neg hc]
      exact b5
   ·rintro σ G' ⟨v,v5,v6,v7,rfl,s3,b3⟩
    rw[zB,tl,zAP]at b3
    refine⟨v,_,_,_,_,rfl,sG.trans (s2.trans s3),?_⟩
    rw[zL io,best_snoc]
    exact b3
  ·rintro σ G ⟨v,v4,v5,v6,v7,rfl,sG,bG⟩
   rw[zB,al,zAP]at bG
   exact fin v _ bG (s1.trans sG)
end
open PySem L2 PyProof.Rows
theorem upto_get{n j:Nat}(h:j<n):∃ jl:j <(upto n).length,(upto n)[j]=(j:Int):=by
 unfold upto
 refine⟨by rw[zB,List.length_range];exact h,?_⟩
 rw[zO,List.getElem_range]
theorem ixN_nat{n j:Nat}(h:j<n):ixN n (j:Int)=some j:=by
 unfold ixN
 rw[if_pos (by exact zCC j),if_pos (by exact zi2 h),zAQ]
structure Glb(mg:Str->Option Value)(gA gN:Addr):Prop where
 mA:mg "ALL" = some (.ref gA)
 mN:mg "NOTHING" = some (.ref gN)
noncomputable abbrev FrT(H:Hp)(c:Addr)(f:Int×Int):Prop:=H c=some (frO f)
theorem RowAt.but{H H':Hp}{p a:Addr}{b:Bool}{row:List (Int×Int)}{xs:List V}(h:RowAt H b a row)(k:∀ b o,b≠p->H b=some o->H' b=some o)(hp:H p=some (.lst xs))(ap:a≠p):RowAt H' b a row:=by
 obtain⟨cs,h1,h2⟩:=h
 exact⟨cs,k _ _ ap h1,Paired.mapP h2 fun _ _ z=>k _ _ (fun e=>by rw[e,hp]at z;cases z) z⟩
noncomputable def blF(t f g:Int×Int):Int×Int:=Shr.nf (t.1 * f.1 * g.2+(t.2-t.1) * g.1 * f.2) (t.2 * f.2 * g.2)
noncomputable def mixW(t:Int×Int)(r s:List (Int×Int)):List (Int×Int):=(r.zip s).map fun y=>blF t y.1 y.2
noncomputable def mixR(t:Int×Int)(R S:Shr.Rows):Shr.Rows:=(R.zip S).map fun z=>mixW t z.1 z.2
noncomputable def ind(ps:List Int)(v:Int):List (Int×Int):=ps.map fun p=>((if p=v then 1 else 0:Int),(1:Int))
noncomputable def evn(ps:List Int)(done:List Int)(v:Int):List (Int×Int):=if v∈done then ind ps v else ps.map fun _=>((1:Int),(ps.length:Int))
noncomputable def Fnd(D:Shr.Rows)(H:Hp)(v:V)(H':Hp):Prop:=∃ (o:Addr) (as:List Addr),v = .ref o/\H o=none/\H' o=some (.lst (as.map V.ref))/\Paired (RowAt H' false) as D/\as.Nodup/\(∀ a∈as,H a=none)/\o∉as
theorem pr_some{β:Type}{F:Addr->β->Prop}{H:Hp}(hF:∀ a r,F a r->H a≠none){as:List Addr}{R:List β}(p:Paired F as R):∀ a∈as,H a≠none:=by
 induction p with
 |nil=>exact fun _ h=>nomatch h
 |cons r _ ih =>
  intro a ha
  rcases zAF.mp ha with e | ha
  ·exact e▸hF _ _ r
  ·exact ih a ha
theorem rowK_some{H:Hp}{b:Bool}(a:Addr)(r:List (Int×Int))(h:RowAt H b a r):H a≠none:=by
 obtain⟨cs,h,_⟩:=h
 rw[h];simp
theorem fnd_snoc{H:Hp}{D:Addr}{as:List Addr}(nd:as.Nodup/\∀ a∈as,H a=none)(hD:H D=none)(nm:D∉as):(as++[D]).Nodup/\∀ a∈as++[D],H a=none:=by
 refine⟨?_,fun a ha=>?_⟩
 ·rw[List.nodup_append]
  refine⟨nd.1,by simp,fun a ha b hb=>?_⟩
  rw[zZ.mp hb]
  exact fun e=>nm (e▸ha)
 ·rcases zAD.mp ha with ha | ha
  ·exact nd.2 a ha
  ·rw[zZ.mp ha];exact hD
structure FK(f:Int×Int):Prop where
 p:0<f.2
 b:fitsB 16 f.2
 t:fitsB 16 f.1
theorem nodup_set{l:List Addr}{i:Nat}{x:Addr}(nd:l.Nodup)(h:x∉l):(l.set i x).Nodup:=by
 induction l generalizing i with
 |nil=>exact nd
 |cons y l ih =>
  rw[zCZ]at nd
  cases i with
  |zero =>
   rw[List.set_cons_zero,zCZ]
   exact⟨fun z=>h (zY _ z),nd.2⟩
  |succ i =>
   rw[List.set_cons_succ,zCZ]
   refine⟨fun z=>?_,ih nd.2 fun z=>h (zY _ z)⟩
   rcases List.mem_or_eq_of_mem_set z with z | z
   ·exact nd.1 z
   ·exact h (by rw[z];exact zT)
structure PK(t:Int×Int):Prop where
 p:0<t.2
 b:fitsB 14 t.2
 t:fitsB 14 t.1
inductive spBlI(vs:List V)(H:Hp)(Q:VK):Prop where
 |mk (p q r:Addr) (f g t:Int×Int) (h1:vs=[.ref p,.ref q,.ref r]) (h2:FrT H p f) (h3:FrT H q g) (h4:FrT H r t) (h5:FK f) (h6:FK g) (h7:PK t) (h8:∀ c,H c=none->Q (.ref c) (upd H c (frO (blF t f g))))
noncomputable def spBl:Sp:=fun vs H Q _=>spBlI vs H Q
inductive spMxI(vs:List V)(H:Hp)(Q:VK):Prop where
 |mk (a b r:Addr) (n m:Nat) (R S:Shr.Rows) (t:Int×Int) (h1:vs=[.ref a,.ref b,.ref r]) (h2:RowsAt H false a R) (h3:RowsAt H false b S) (h4:FrT H r t) (h5:PK t) (h6:R.length=n) (h7:S.length=n) (h8:n<=1000) (h9:m<=1000) (h10:(∀ row∈R,row.length=m/\∀ f∈row,FK f)) (h11:(∀ row∈S,row.length=m/\∀ f∈row,FK f)) (h12:∀ (v:V) (H':Hp),Fnd (mixR t R S) H v H'->Same H H'->Q v H')
noncomputable def spMx:Sp:=fun vs H Q _=>spMxI vs H Q
inductive spSbI(gA gN:Addr)(vs:List V)(H:Hp)(Q:VK):Prop where
 |mk (q w:Addr) (c:Bool) (ps ows:List Int) (h1:vs=[.ref q,.ref w]) (h2:H q=some (.lst (ps.map V.int))) (h3:H w=some (sqO c (ows.map V.int))) (h4:ps.length<=1000) (h5:ows.length<=1000) (h6:FrT H gA (1,1)) (h7:FrT H gN (0,1)) (h8:∀ (v:V) (H':Hp),Fnd (ows.map (ind ps)) H v H'->Same H H'->Q v H')
noncomputable def spSb(gA gN:Addr):Sp:=fun vs H Q _=>spSbI gA gN vs H Q
inductive spEvI(gA gN:Addr)(vs:List V)(H:Hp)(Q:VK):Prop where
 |mk (t q:Addr) (n:Nat) (ties:List Tie) (ps:List Int) (h1:vs=[.ref t,.ref q]) (h2:WebAt H t n ties) (h3:n<=1000) (h4:H q=some (.lst (ps.map V.int))) (h5:ps.length<=1000) (h6:(∀ x∈ps,0<=x/\x<n)) (h7:ps.Nodup) (h8:FrT H gA (1,1)) (h9:FrT H gN (0,1)) (h10:∀ (v:V) (H':Hp),Fnd ((upto n).map (evn ps ps)) H v H'->Same H H'->Q v H')
noncomputable def spEv(gA gN:Addr):Sp:=fun vs H Q _=>spEvI gA gN vs H Q
theorem PK.g{t:Int×Int}(h:PK t):fitsB 8000 t.1/\fitsB 8000 t.2/\fitsB 15 (t.2-t.1):=⟨h.t.mono (by decide),h.b.mono (by decide),by
 have:=h.b.add (show fitsB 14 (-t.1) by show(-t.1).natAbs<_;rw[Int.natAbs_neg];exact h.t)
 rw[<- Int.sub_eq_add_neg]at this
 exact this⟩
section
variable{P:Program}{w:World}{K:PySem.W.Frag}{mg:Str->Option Value}{base:Heap}{gA gN:Addr}
noncomputable abbrev nBl:List Str:=["one","other","part","top"]
theorem scBl:FnScope nBl ["one","other","part"] (defScope sBlend):=⟨rfl,rfl,rfl,by decide +kernel,rfl,by decide +kernel,by decide +kernel⟩
theorem ok_bl{f g:Addr}{fd gd:FuncData}(F:Fun K "blend" "blend" sBlend f fd)(GF:CalF P w K mg base 2 "fraction" ["top","below"] spFr g gd):FnOk P w K mg base CX0 3 f fd ["one","other","part"] spBl:=by
 refine F.ok scBl (fun vs H Q E h=>?_) (fun cdv A outer s H vs Q E hr h=>?_)
 ·obtain⟨p,q,r,x,y,z,rfl,_⟩:=h
  rfl
 ·obtain⟨p,q,r,⟨x,y⟩,⟨u,v⟩,⟨t,b⟩,rfl,hp,hq,hr',⟨y0,fy,fx⟩,⟨v0,fv,fu⟩,tk,fin⟩:=h
  obtain⟨g1,g2,g3⟩:=tk.g
  obtain⟨b0,fb,ft⟩:=tk
  have m1:∀ {i:Int},fitsB 16 i->fitsB 8000 i:=fun h=>h.mono (by decide)
  refine⟨_,(pss_cons (ps_set (i:=3) scBl.nd rfl (Or.inl rfl) (pe_op op_add (pe_op op_mulB (pe_op op_mulB (@pe_ix _ _ _ _ _ _ _ ix_tupH (pv 2) pe_int (fun _ _=>rfl)) (@pe_ix _ _ _ _ _ _ _ ix_tupH (pv 0) pe_int (fun _ _=>rfl))) (@pe_ix _ _ _ _ _ _ _ ix_tupH (pv 1) pe_int (fun _ _=>rfl))) (pe_op op_mulB (pe_op op_mulB (pe_op op_sub (@pe_ix _ _ _ _ _ _ _ ix_tupH (pv 2) pe_int (fun _ _=>rfl)) (@pe_ix _ _ _ _ _ _ _ ix_tupH (pv 2) pe_int (fun _ _=>rfl))) (@pe_ix _ _ _ _ _ _ _ ix_tupH (pv 1) pe_int (fun _ _=>rfl))) (@pe_ix _ _ _ _ _ _ _ ix_tupH (pv 0) pe_int (fun _ _=>rfl)))))
   (pss_one (ps_ret (pe_call GF.ok hr rfl GF.mg GF.kp GF.bd .nil pass0 (@pa_nam _ _ _ _ _ _ (pv 3) (@pa_bin _ _ _ _ _ _ _ _ (pe_op op_mulB (pe_op op_mulB (@pe_ix _ _ _ _ _ _ _ ix_tupH (pv 2) pe_int (fun _ _=>rfl)) (@pe_ix _ _ _ _ _ _ _ ix_tupH (pv 0) pe_int (fun _ _=>rfl))) (@pe_ix _ _ _ _ _ _ _ ix_tupH (pv 1) pe_int (fun _ _=>rfl))) pa_nil)))))),?_⟩
  refine⟨_,rfl,r,_,_,_,rfl,rfl,hr',at0,_,rfl,p,_,_,_,rfl,rfl,hp,at0,_,_,rfl,rfl,⟨g1,m1 fx⟩,_,rfl,q,_,_,_,rfl,rfl,hq,at1,_,_,rfl,rfl,⟨(ft.mul fx).mono (by decide),m1 fv⟩,?_⟩
  refine⟨_,rfl,r,_,_,_,rfl,rfl,hr',at1,_,rfl,r,_,_,_,rfl,rfl,hr',at0,_,_,rfl,rfl,_,rfl,q,_,_,_,rfl,rfl,hq,at0,_,_,rfl,rfl,⟨g3.mono (by decide),m1 fu⟩,_,rfl,p,_,_,_,rfl,rfl,hp,at1,_,_,rfl,rfl,⟨(g3.mul fu).mono (by decide),m1 fy⟩,_,_,rfl,rfl,?_⟩
  refine⟨_,rfl,_,rfl,r,_,_,_,rfl,rfl,hr',at1,_,rfl,p,_,_,_,rfl,rfl,hp,at1,_,_,rfl,rfl,⟨g2,m1 fy⟩,_,rfl,q,_,_,_,rfl,rfl,hq,at1,_,_,rfl,rfl,⟨(fb.mul fy).mono (by decide),m1 fv⟩,_,_,rfl,Int.mul_pos (Int.mul_pos b0 y0) v0,((fb.mul fy).mul fv).mono (by decide),fin⟩
noncomputable abbrev nMx:List Str:=["one","other","part"]
theorem scMx:FnScope nMx ["one","other","part"] (defScope sMixed):=⟨rfl,rfl,rfl,by decide +kernel,rfl,by decide +kernel,by decide +kernel⟩
theorem csMx1:CompScope ["row","beside","part"] [none,none,some 2] nMx (defScope sMixed) (scO [(".0",.local),("row",.local),("beside",.local),("zip",.globalImplicit),("part",.free)]):=⟨rfl,by decide +kernel,by decide +kernel,by decide +kernel,rfl,capB_ok (by decide +kernel)⟩
theorem ndMx1:(["row","beside","part"]:List Str).Nodup:=by decide +kernel
theorem csMx2:CompScope ["here","there","part"] [none,none,some 2] ["row","beside","part"] (scO [(".0",.local),("row",.local),("beside",.local),("zip",.globalImplicit),("part",.cell)]) (scO [(".0",.local),("here",.local),("there",.local),("blend",.globalImplicit),("part",.free)]):=⟨rfl,by decide +kernel,by decide +kernel,by decide +kernel,rfl,capB_ok (by decide +kernel)⟩
theorem ndMx2:(["here","there","part"]:List Str).Nodup:=by decide +kernel
noncomputable abbrev teMx2(K:PySem.W.Frag):TE:=tComp [none,none,some 2] (iZip false false K (tCons (tVq 0) (tCons (tVq 1) tNil))) (gTup K 2 (gCons (gName 0) (gCons (gName 1) gNil))) tTru (tCall spBl [] E0 (tCons (tVq 0) (tCons (tVq 1) (tCons (tVq 2) tNil))))
theorem ok_mx{f g:Addr}{fd gd:FuncData}(F:Fun K "mixed" "mixed" sMixed f fd)(T2:Txt2 mg)(GB:CalF P w K mg base 3 "blend" ["one","other","part"] spBl g gd):FnOk P w K mg base CX0 4 f fd ["one","other","part"] spMx:=by
 refine F.ok scMx (fun vs H Q E h=>?_) (fun cdv A outer s H vs Q E hr h=>?_)
 ·obtain⟨a,b,r,n,m,R,S,t,rfl,_⟩:=h
  rfl
 ·obtain⟨a,b,r,n,m,R,S,t,rfl,⟨as,ha,hR⟩,⟨bs,hb,hS⟩,hr',tk,Rl,Sl,n1,m1,rk,sk,fin⟩:=h
  have al:as.length=R.length:=hR.length
  have bl:bs.length=S.length:=hS.length
  refine⟨_,(pss_one (ps_ret (pe_comp rfl csMx1 (pi_zip false false (by rfl) T2.zip (@pa_nam _ _ _ _ _ _ (pvQ 0) (@pa_nam _ _ _ _ _ _ (pvQ 1) pa_nil))) (fun C s H fp=>(pg_tupK K rfl (n:=2) rfl (pgs_cons (pg_name (i:=0) ndMx1 rfl (Or.inl rfl)) (pgs_cons (pg_name (i:=1) ndMx1 rfl (Or.inl rfl)) pgs_nil)) rfl rfl)) (fun C s H fp=>pf_nil) (fun C s H fp=>(show PE _ _ (teMx2 K)from pe_comp rfl csMx2 (pi_zip false false (by rfl) T2.zip (@pa_nam _ _ _ _ _ _ (pvQ 0) (@pa_nam _ _ _ _ _ _ (pvQ 1) pa_nil))) (fun C s H fp=>(pg_tupK K rfl (n:=2) rfl (pgs_cons (pg_name (i:=0) ndMx2 rfl (Or.inl rfl)) (pgs_cons (pg_name (i:=1) ndMx2 rfl (Or.inl rfl)) pgs_nil)) rfl rfl)) (fun C s H fp=>pf_nil) (fun C s H fp=>(pe_call GB.ok hr rfl GB.mg GB.kp GB.bd .nil pass0 (@pa_nam _ _ _ _ _ _ (pvQ 0) (@pa_nam _ _ _ _ _ _ (pvQ 1) (@pa_nam _ _ _ _ _ _ (pvQ 2) pa_nil)))))))))),?_⟩
  refine⟨a,b,rfl,⟨_,SqL.of ha⟩,⟨_,SqL.of hb⟩,?_⟩
  have ml:min (as.map V.ref).length (bs.map V.ref).length=n:=by rw[zB,zB];exact zfa Rl Sl al bl
  have xl:(mixR t R S).length=n:=by unfold mixR;rw[zB,List.length_zip];exact zgc Rl Sl al bl ml
  refine comp_zip (K:=K) (b1:=false) (b2:=false) (l1:=a) (l2:=b) (xs:=as.map V.ref) (ys:=bs.map V.ref) (fun i zs G=>Same H G/\∃ cs:List Addr,zs=cs.map V.ref/\Paired (RowAt G false) cs ((mixR t R S).take i)/\cs.Nodup/\∀ a∈cs,H a=none) (by rw[ml,sizeLine_eq];exact zl1 n1 rfl) ⟨Same.refl _,[],rfl,.nil,by simp,fun _ h=>nomatch h⟩ (fun i zs G _ z=>⟨SqL.of (z.1 _ _ ha),SqL.of (z.1 _ _ hb)⟩) ?_ ?_
  ·rintro i x y zs G U hx hy ⟨sG,cs,rfl,pc,nd⟩ hU
   obtain⟨il,e⟩:=zH.mp hx
   rw[zB]at il
   rw[zO]at e
   subst e
   obtain⟨il',e⟩:=zH.mp hy
   rw[zB]at il'
   rw[zO]at e
   subst e
   have iR:i<R.length:=by exact zh7 il al
   have iS:i<S.length:=by omega
   have sU:=Same.new (o:=.tup [V.ref as[i],V.ref bs[i]]) hU
   have s1:=sG.trans sU
   obtain⟨us,hu1,hu2⟩:=RowAt.same (Paired.at hR i il iR) s1
   obtain⟨vs,hv1,hv2⟩:=RowAt.same (Paired.at hS i il' iS) s1
   obtain⟨rl,rf⟩:=rk _ (zX iR)
   obtain⟨sl,sf⟩:=sk _ (zX iS)
   have ul:us.length=m:=by rw[hu2.length,rl]
   have vl:vs.length=m:=by rw[hv2.length,sl]
   have wl:(mixW t R[i] S[i]).length=m:=by unfold mixW;rw[zB,List.length_zip];omega
   refine⟨U,_,rfl,SqT.of upd_same,rfl,_,_,rfl,_,_,rfl,rfl,⟨rfl,trivial⟩,tTru_if ?_⟩
   refine⟨as[i],bs[i],rfl,⟨_,SqL.of hu1⟩,⟨_,SqL.of hv1⟩,?_⟩
   have ml':min (us.map V.ref).length (vs.map V.ref).length=m:=by rw[zB,zB];omega
   refine comp_zip (K:=K) (b1:=false) (b2:=false) (l1:=as[i]) (l2:=bs[i]) (xs:=us.map V.ref) (ys:=vs.map V.ref) (fun j zs G2=>Same (upd G U (.tup [V.ref as[i],V.ref bs[i]])) G2/\∃ ds:List Addr,zs=ds.map V.ref/\Paired (fun c f=>G2 c=some (frO f)) ds ((mixW t R[i] S[i]).take j)) (by rw[ml',sizeLine_eq];exact zl1 m1 rfl) ⟨Same.refl _,[],rfl,.nil⟩ (fun j zs G2 _ z=>⟨SqL.of (z.1 _ _ hu1),SqL.of (z.1 _ _ hv1)⟩) ?_ ?_
   ·rintro j x y zs G2 U2 hx hy ⟨s2,ds,rfl,pd⟩ hU2
    obtain⟨jl,e⟩:=zH.mp hx
    rw[zB]at jl
    rw[zO]at e
    subst e
    obtain⟨jl',e⟩:=zH.mp hy
    rw[zB]at jl'
    rw[zO]at e
    subst e
    have jR:j<R[i].length:=by exact zh7 (zh7 jl ul) (Eq.symm rl)
    have jS:j<S[i].length:=by exact zh7 (zh7 jl ul) (Eq.symm sl)
    have sU2:=Same.new (o:=.tup [V.ref us[j],V.ref vs[j]]) hU2
    have s3:=s2.trans sU2
    refine⟨U2,_,rfl,SqT.of upd_same,rfl,_,_,rfl,_,_,rfl,rfl,⟨rfl,trivial⟩,tTru_if ?_⟩
    refine⟨us[j],vs[j],r,R[i][j],S[i][j],t,rfl,s3 _ _ (Paired.at hu2 j jl jR),s3 _ _ (Paired.at hv2 j jl' jS),(s1.trans s3) _ _ hr',rf _ (zX jR),sf _ (zX jS),tk,fun c hc=>?_⟩
    have sc:=Same.new (o:=frO (blF t R[i][j] S[i][j])) hc
    refine⟨s3.trans sc,ds++[c],by rw[zU];rfl,?_⟩
    rw[zL (by exact zh7 (zh7 jl ul) (Eq.symm wl))]
    refine PairedApp (Paired.mapP pd fun _ _ z=>sc _ _ (sU2 _ _ z)) (.cons ?_ .nil)
    unfold mixW
    rw[zO,List.getElem_zip]
    exact upd_same
   ·rintro zs G2 zl ⟨s2,ds,rfl,pd⟩ D hD
    rw[ml',<- wl,zAP]at pd
    have s3:=Same.new (o:=.lst (ds.map V.ref)) hD
    refine⟨s1.trans (s2.trans s3),cs++[D],by rw[zU];rfl,?_,fnd_snoc nd ((s1.trans s2).free hD) fun z=>pr_some rowK_some pc D z ((sU.trans s2).free hD)⟩
    rw[zL (by exact zh7 (zh7 iR Rl) (Eq.symm xl))]
    refine PairedApp (Paired.mapP pc fun _ _ z=>((z.same sU).same s2).same s3) (.cons ?_ .nil)
    unfold mixR
    rw[zO,List.getElem_zip]
    exact⟨ds,upd_same,Paired.mapP pd fun _ _ z=>s3 _ _ z⟩
  ·rintro zs G zl ⟨sG,cs,rfl,pc,nd⟩ D hD
   rw[ml,<- xl,zAP]at pc
   have s3:=Same.new (o:=.lst (cs.map V.ref)) hD
   exact fin _ _ ⟨D,cs,rfl,sG.free hD,upd_same,Paired.mapP pc fun _ _ z=>z.same s3,nd.1,nd.2,fun z=>pr_some rowK_some pc D z hD⟩ (sG.trans s3)
noncomputable abbrev nSb:List Str:=["posts","owners"]
theorem scSb:FnScope nSb ["posts","owners"] (defScope sSharesBy):=⟨rfl,rfl,rfl,by decide +kernel,rfl,by decide +kernel,by decide +kernel⟩
theorem csSb1:CellScope "owner" ["owner","posts"] [none,some 0] nSb (defScope sSharesBy) (scO [(".0",.local),("owner",.cell),("posts",.free)]):=⟨rfl,fun _ _=>rfl,fun _=>rfl,by decide +kernel,by decide +kernel,by decide +kernel,by decide +kernel,rfl,capB_ok (by decide +kernel)⟩
theorem ndSb1:(["owner","posts"]:List Str).Nodup:=by decide +kernel
theorem csSb2:CompScope ["post","owner"] [none,some 0] ["owner","posts"] (scO [(".0",.local),("owner",.cell),("posts",.cell)]) (scO [(".0",.local),("post",.local),("ALL",.globalImplicit),("NOTHING",.globalImplicit),("owner",.free)]):=⟨rfl,by decide +kernel,by decide +kernel,by decide +kernel,rfl,capB_ok (by decide +kernel)⟩
theorem ndSb2:(["post","owner"]:List Str).Nodup:=by decide +kernel
noncomputable abbrev teSb2(K:PySem.W.Frag)(gA:Addr)(gN:Addr):TE:=tComp [none,some 0] (iList K (tVq 1)) (gName 0) tTru (tIf (tTest (tOp rEq (tVq 0) (tVq 1))) (tC (.ref gA)) (tC (.ref gN)))
theorem ok_sb{f:Addr}{fd:FuncData}(F:Fun K "shares_by" "shares_by" sSharesBy f fd)(GL:Glb mg gA gN):FnOk P w K mg base CX0 1 f fd ["posts","owners"] (spSb gA gN):=by
 refine F.ok scSb (fun vs H Q E h=>?_) (fun cdv A outer s H vs Q E hr h=>?_)
 ·obtain⟨q,w,c,ps,ows,rfl,_⟩:=h
  rfl
 ·obtain⟨q,w,c,ps,ows,rfl,hq,hw,pl,ol,hA,hN,fin⟩:=h
  refine⟨_,(pss_one (ps_ret (pe_compC rfl csSb1 (pi_seq c (pvQ 1)) (fun C s H fp=>(pg_name (i:=0) ndSb1 rfl (Or.inr rfl) (Or.inl (by rfl)))) (fun C s H fp=>pf_nil) (fun C s H fp=>(show PE _ _ (teSb2 K gA gN)from pe_comp rfl csSb2 (pi_list (pvQ 1)) (fun C s H fp=>(pg_name (i:=0) ndSb2 rfl (Or.inl rfl))) (fun C s H fp=>pf_nil) (fun C s H fp=>(pe_ifExp (pt_cmpR op_eq (pvQ 0) (pvQ 1) (nomark _)) (pe_glob (by rfl) GL.mA rfl) (pe_glob (by rfl) GL.mN rfl)))))))),?_⟩
  refine⟨w,rfl,⟨_,sqB_of hw⟩,?_⟩
  refine comp_seq (K:=K) (b:=c) (a:=w) (xs:=ows.map V.int) (fun i ys G=>Same H G/\∃ as:List Addr,ys=as.map V.ref/\Paired (RowAt G false) as ((ows.take i).map (ind ps))/\as.Nodup/\∀ a∈as,H a=none) (by rw[zB,sizeLine_eq];exact zl1 ol rfl) ⟨Same.refl _,[],rfl,.nil,by simp,fun _ h=>nomatch h⟩ (fun i ys G _ z=>sqB_of (z.1 _ _ hw)) ?_ ?_
  ·rintro i x ys G hx ⟨sG,as,rfl,pa,na⟩
   obtain⟨il,e⟩:=zH.mp hx
   rw[zB]at il
   rw[zO]at e
   subst e
   refine⟨⟨rfl,trivial⟩,tTru_if ?_⟩
   refine⟨q,rfl,⟨_,SqL.of (sG _ _ hq)⟩,?_⟩
   refine comp_list (K:=K) (a:=q) (xs:=ps.map V.int) (fun j ys G2=>Same G G2/\∃ cs:List Addr,ys=cs.map V.ref/\Paired (FrT G2) cs (ind (ps.take j) ows[i])) (by rw[zB,sizeLine_eq];exact zl1 pl rfl) ⟨Same.refl _,[],rfl,.nil⟩ (fun j ys G2 _ z=>SqL.of (z.1 _ _ (sG _ _ hq))) ?_ ?_
   ·rintro j x ys G2 hx ⟨s2,cs,rfl,pc⟩
    obtain⟨jl,e⟩:=zH.mp hx
    rw[zB]at jl
    rw[zO]at e
    subst e
    unfold ind
    rw[zL jl,zU]
    refine⟨⟨rfl,trivial⟩,tTru_if ⟨rfl,_,rfl,ite2 (fun hc=>?_) (fun hc=>?_)⟩⟩
    ·have hc:ps[j]=ows[i]:=by have:=of_decide_eq_true hc;injection this
     refine⟨s2,cs++[gA],by rw[zU];rfl,PairedApp pc (.cons ?_ .nil)⟩
     show FrT G2 gA ((if ps[j]=ows[i]then 1 else 0:Int),(1:Int))
     rw[if_pos hc]
     exact s2 _ _ (sG _ _ hA)
    ·have hc:¬ ps[j]=ows[i]:=fun z=>hc (decide_eq_true (by rw[z]))
     refine⟨s2,cs++[gN],by rw[zU];rfl,PairedApp pc (.cons ?_ .nil)⟩
     show FrT G2 gN ((if ps[j]=ows[i]then 1 else 0:Int),(1:Int))
     rw[if_neg hc]
     exact s2 _ _ (sG _ _ hN)
   ·rintro ys G2 yl ⟨s2,cs,rfl,pc⟩ D hD
    rw[zB,zAP]at pc
    have s3:=Same.new (o:=.lst (cs.map V.ref)) hD
    have s23:=s2.trans s3
    refine⟨sG.trans s23,as++[D],by rw[zU];rfl,?_,fnd_snoc na ((sG.trans s2).free hD) fun z=>pr_some rowK_some pa D z (s2.free hD)⟩
    rw[zL il,zU]
    exact PairedApp (Paired.mapP pa fun _ _ z=>z.same s23) (.cons ⟨cs,upd_same,Paired.mapP pc fun _ _ z=>s3 _ _ z⟩ .nil)
  ·rintro ys G yl ⟨sG,as,rfl,pa,na⟩ D hD
   rw[zB,zAP]at pa
   have s3:=Same.new (o:=.lst (as.map V.ref)) hD
   exact fin _ _ ⟨D,as,rfl,sG.free hD,upd_same,Paired.mapP pa fun _ _ z=>z.same s3,na.1,na.2,fun z=>pr_some rowK_some pa D z hD⟩ (sG.trans s3)
noncomputable abbrev nEv:List Str:=["web","posts","even","shares","post","row"]
theorem scEv:FnScope nEv ["web","posts"] (defScope sEvenShares):=⟨rfl,rfl,rfl,by decide +kernel,rfl,by decide +kernel,by decide +kernel⟩
theorem csEv1:CompScope ["place","even","posts"] [none,some 2,some 1] nEv (defScope sEvenShares) (scO [(".0",.local),("place",.local),("even",.free),("posts",.free)]):=⟨rfl,by decide +kernel,by decide +kernel,by decide +kernel,rfl,capB_ok (by decide +kernel)⟩
theorem ndEv1:(["place","even","posts"]:List Str).Nodup:=by decide +kernel
theorem csEv2:CompScope ["post","even"] [none,some 1] ["place","even","posts"] (scO [(".0",.local),("place",.local),("even",.cell),("posts",.cell)]) (scO [(".0",.local),("post",.local),("even",.free)]):=⟨rfl,by decide +kernel,by decide +kernel,by decide +kernel,rfl,capB_ok (by decide +kernel)⟩
theorem ndEv2:(["post","even"]:List Str).Nodup:=by decide +kernel
noncomputable abbrev teEv2(K:PySem.W.Frag):TE:=tComp [none,some 1] (iList K (tVq 2)) (gName 0) tTru (tVq 1)
theorem ok_ev{f g:Addr}{fd gd:FuncData}(F:Fun K "even_shares" "even_shares" sEvenShares f fd)(T:Txt mg)(T2:Txt2 mg)(GS:CalF P w K mg base 1 "shares_by" ["posts","owners"] (spSb gA gN) g gd):FnOk P w K mg base CX0 2 f fd ["web","posts"] (spEv gA gN):=by
 refine F.ok scEv (fun vs H Q E h=>?_) (fun cdv A outer s H vs Q E hr h=>?_)
 ·obtain⟨t,q,n,ties,ps,rfl,_⟩:=h
  rfl
 ·obtain⟨t,q,n,ties,ps,rfl,W,nb,hq,pb,rg,pnd,hA,hN,fin⟩:=h
  obtain⟨⟨ts,tb,h1,h2,h3⟩,len⟩:=id W
  refine⟨_,(pss_cons (ps_set (i:=2) scEv.nd rfl (Or.inr rfl) (@pe_tup _ _ _ _ _ (@pa_cst _ _ _ _ _ _ _ pe_int (@pa_call _ _ _ _ _ _ _ _ (pe_callB call_lenH (by rfl) T.len PySem.boot_len (@pa_nam _ _ _ _ _ _ (pvQ 1) pa_nil)) pa_nil))))
   (pss_cons (ps_comp (i:=3) scEv.nd rfl (Or.inl rfl) rfl csEv1 (pi_range1 rfl T.range (@pa_sub _ _ _ _ _ _ _ (@pe_ix _ _ _ _ _ _ _ ix_tupH (pvQ 0) pe_int (fun _ _=>rfl)) pa_nil)) (fun C s H fp=>(pg_name (i:=0) ndEv1 rfl (Or.inl rfl))) (fun C s H fp=>pf_nil) (fun C s H fp=>(show PE _ _ (teEv2 K)from pe_comp rfl csEv2 (pi_list (pvQ 2)) (fun C s H fp=>(pg_name (i:=0) ndEv2 rfl (Or.inl rfl))) (fun C s H fp=>pf_nil) (fun C s H fp=>(pvQ 1)))))
   (pss_cons (ps_for PassesOwn.never rfl (pi_zip false false (by rfl) T2.zip (@pa_nam _ _ _ _ _ _ (pvQ 1) (@pa_call _ _ _ _ _ _ _ _ (pe_call GS.ok hr rfl GS.mg GS.kp GS.bd .nil pass0 (@pa_nam _ _ _ _ _ _ (pvQ 1) (@pa_nam _ _ _ _ _ _ (pvQ 1) pa_nil))) pa_nil))) (pg_tup (n:=2) rfl (pgs_cons (pg_name (i:=4) scEv.nd rfl (Or.inl rfl)) (pgs_cons (pg_name (i:=5) scEv.nd rfl (Or.inl rfl)) pgs_nil)))
   (pss_one (ps_asg (pvQ 5) (pg_sub (pvQ 3) (pvQ 4) set_list))))
   (pss_one (ps_ret (pvQ 3)))))),?_⟩
  refine⟨q,_,rfl,hq,(by show 2<=sizeLine;decide),fun ev hev=>?_⟩
  rw[zB]
  have s1:=Same.new (o:=frO (1,(ps.length:Int))) hev
  have gev:(upd H ev (frO (1,(ps.length:Int)))) ev=some (frO (1,(ps.length:Int))):=upd_same
  have eE:upd H ev (HO.tup [V.int 1,V.int (ps.length:Int)])=upd H ev (frO (1,(ps.length:Int))):=rfl
  rw[eE]
  generalize (upd H ev (frO (1,(ps.length:Int))))=H1 at *
  refine⟨t,_,_,_,rfl,rfl,s1 _ _ h1,rfl,(n:Int),rfl,by exact zh1,by exact zm2 nb rfl,?_⟩
  rw[show((n:Int)).toNat=n by exact zAQ n]
  refine comp_range (lo:=0) (n:=n) (fun i ys G=>Same H1 G/\∃ as:List Addr,ys=as.map V.ref/\as.length=i/\(∀ a∈as,RowAt G false a (ps.map fun _=>((1:Int),(ps.length:Int))))/\as.Nodup/\∀ a∈as,H a=none) (by rw[sizeLine_eq];exact zl1 nb rfl) ⟨Same.refl _,[],rfl,rfl,(fun _ h=>nomatch h),by simp,fun _ h=>nomatch h⟩ ?_ ?_
  ·rintro i ys G hi ⟨sG,as,rfl,al,ra,nd⟩
   refine⟨⟨rfl,rfl,trivial⟩,tTru_if ?_⟩
   refine⟨q,rfl,⟨_,SqL.of (sG _ _ (s1 _ _ hq))⟩,?_⟩
   refine comp_list (K:=K) (a:=q) (xs:=ps.map V.int) (fun j ys G2=>Same G G2/\∃ cs:List Addr,ys=cs.map V.ref/\Paired (FrT G2) cs ((ps.take j).map fun _=>((1:Int),(ps.length:Int)))) (by rw[zB,sizeLine_eq];exact zl1 pb rfl) ⟨Same.refl _,[],rfl,.nil⟩ (fun j ys G2 _ z=>SqL.of (z.1 _ _ (sG _ _ (s1 _ _ hq)))) ?_ ?_
   ·rintro j x ys G2 hx ⟨s2,cs,rfl,pc⟩
    obtain⟨jl,e⟩:=zH.mp hx
    rw[zB]at jl
    refine⟨⟨rfl,trivial⟩,tTru_if ⟨s2,cs++[ev],by rw[zU];rfl,?_⟩⟩
    rw[zL jl,zU]
    exact PairedApp pc (.cons (s2 _ _ (sG _ _ gev)) .nil)
   ·rintro ys G2 yl ⟨s2,cs,rfl,pc⟩ D hD
    rw[zB,zAP]at pc
    have s3:=Same.new (o:=.lst (cs.map V.ref)) hD
    refine⟨sG.trans (s2.trans s3),as++[D],by rw[zU];rfl,by rw[zAC,al];rfl,fun a ha=>?_,fnd_snoc nd ((s1.trans (sG.trans s2)).free hD) fun z=>rowK_some _ _ (ra D z) (s2.free hD)⟩
    rcases zAD.mp ha with ha | ha
    ·exact(ra a ha).same (s2.trans s3)
    ·rw[zZ.mp ha];exact⟨cs,upd_same,Paired.mapP pc fun _ _ z=>s3 _ _ z⟩
  rintro ys G yl ⟨sG,as,rfl,al,ra,nd,ndH⟩ sh hsh
  have s2:=Same.new (o:=.lst (as.map V.ref)) hsh
  have gsh:(upd G sh (.lst (as.map V.ref))) sh=some (.lst (as.map V.ref)):=upd_same
  have na:∀ a∈as,a≠sh:=fun a ha z=>by
   obtain⟨cs,h,_⟩:=ra a ha
   rw[z,hsh]at h
   cases h
  have ra:∀ a∈as,RowAt (upd G sh (.lst (as.map V.ref))) false a (ps.map fun _=>((1:Int),(ps.length:Int))):=fun a ha=>(ra a ha).same s2
  have s3:=s1.trans (sG.trans s2)
  have shH:H sh=none:=(s1.trans sG).free hsh
  generalize (upd G sh (.lst (as.map V.ref)))=H2 at *
  refine⟨q,q,false,ps,ps,rfl,s3 _ _ hq,s3 _ _ hq,pb,pb,s3 _ _ hA,s3 _ _ hN,fun v H3 ⟨o,bs,ev',ho0,ho,pb',ndb,nb',onb⟩ s4=>?_⟩
  subst ev'
  have bl:bs.length=ps.length:=by rw[pb'.length,zB]
  have nbs:∀ b∈bs,b≠sh:=fun b hb z=>by have:=nb' b hb;rw[z,gsh]at this;cases this
  have gq:=s4 _ _ (s3 _ _ hq)
  have gsh3:=s4 _ _ gsh
  have qs:q≠sh:=fun z=>by rw[z,shH]at hq;cases hq
  have os:o≠sh:=fun z=>by rw[z,gsh]at ho0;cases ho0
  refine⟨q,o,rfl,⟨_,SqL.of gq⟩,⟨_,SqL.of ho⟩,?_⟩
  have ml:min (ps.map V.int).length (bs.map V.ref).length=ps.length:=by rw[zB,zB];exact zfj bl
  refine for_zip (K:=K) (b1:=false) (b2:=false) (l1:=q) (l2:=o) (xs:=ps.map V.int) (ys:=bs.map V.ref) (fun i σ G=>Ex3 fun(v4 v5:Option V) (rs:List Addr)=>σ=[some (.ref t),some (.ref q),some (.ref ev),some (.ref sh),v4,v5]/\(∀ b o,b≠sh->H3 b=some o->G b=some o)/\G sh=some (.lst (rs.map V.ref))/\rs.length=n/\rs.Nodup/\∀ (v:Nat) (h:v<rs.length),RowAt H3 false rs[v] (evn ps (ps.take i) v)/\rs[v]≠sh/\(rs[v]∈as\/∃ j,j<i/\bs[j]?=some rs[v])) ⟨_,_,as,rfl,(fun _ _ _ e=>e),gsh3,al,nd,fun v h=>⟨?_,na _ (zX h),.inl (zX h)⟩⟩ (fun i σ G _ z=>by obtain⟨_,_,_,_,k,_⟩:=z;exact⟨SqL.of (k _ _ qs gq),SqL.of (k _ _ os ho)⟩) ?_ ?_
  ·unfold evn
   rw[List.take_zero,if_neg (fun z=>nomatch z)]
   exact(ra _ (zX h)).same s4
  ·rintro i x y σ G U hx hy ⟨v4,v5,rs,rfl,k,gr,rl,nr,rr⟩ hU
   obtain⟨il,e⟩:=zH.mp hx
   rw[zB]at il
   rw[zO]at e
   subst e
   obtain⟨il',e⟩:=zH.mp hy
   rw[zB]at il'
   rw[zO]at e
   subst e
   have sU:=Same.new (o:=.tup [V.int ps[i],V.ref bs[i]]) hU
   obtain⟨r0,r1⟩:=rg _ (zX il)
   have rb:=Paired.at pb' i il' (by rw[zB];exact il)
   rw[zO]at rb
   obtain⟨p,ep⟩:∃ p:Nat,ps[i]=(p:Int):=⟨ps[i].toNat,by exact zh3 r0⟩
   have pl:p<rs.length:=by exact zm5 (zn1 ep r1) rl
   refine⟨U,_,rfl,SqT.of upd_same,rfl,_,_,rfl,_,_,rfl,rfl,?_⟩
   refine⟨sh,_,_,_,rfl,rfl,sU _ _ gr,by rw[zB,ep];exact ixN_nat pl,?_⟩
   have em:(rs.map V.ref).set p (V.ref bs[i])=(rs.set p bs[i]).map V.ref:=by rw[List.map_set]
   rw[em]
   refine⟨_,_,rs.set p bs[i],rfl,fun b ob nb hb=>by rw[upd_ne nb];exact sU _ _ (k _ _ nb hb),upd_same,by rw[List.length_set];exact rl,nodup_set nr fun z=>?_,fun v h=>?_⟩
   ·obtain⟨v,hv,ev⟩:=zBG z
    rcases(rr v hv).2.2 with y |⟨j,ji,y⟩
    ·rw[ev]at y
     have y2:=nb' _ (zX il')
     exact rowK_some _ _ (ra _ y) y2
    ·rw[ev]at y
     obtain⟨jl,y⟩:=zH.mp y
     have:=(List.getElem_inj ndb).mp y
     lia
   rw[List.length_set]at h
   rw[List.getElem_set]
   by_cases c:p=v
   ·rw[if_pos c]
    subst c
    refine⟨?_,nbs _ (zX il'),.inr ⟨i,by exact zBC i,zF il'⟩⟩
    unfold evn
    rw[if_pos (by rw[zL il,ep];exact zP _ (zZ.mpr rfl)),<- ep]
    exact rb
   ·rw[if_neg c]
    obtain⟨q1,q2,q3⟩:=rr v h
    refine⟨?_,q2,q3.imp id fun⟨j,a,b⟩=>⟨j,by exact zi9 a (zQ i 1),b⟩⟩
    have e:evn ps (ps.take (i+1)) v=evn ps (ps.take i) v:=by
     unfold evn
     have:(v:Int)∈ps.take (i+1)↔(v:Int)∈ps.take i:=by
      rw[zL il,zAD,zZ,ep]
      constructor
      ·rintro(z | z)
       ·exact z
       ·exact absurd z (fun z=>c (by lia))
      ·exact .inl
     by_cases d:(v:Int)∈ps.take i
     ·rw[if_pos d,if_pos (this.mpr d)]
     ·rw[if_neg d,if_neg (fun z=>d (this.mp z))]
    rw[e]
    exact q1
  ·rintro σ G ⟨v4,v5,rs,rfl,k,gr,rl,nr,rr⟩
   rw[ml,zAP]at rr
   refine fin _ G ⟨sh,rs,rfl,shH,gr,?_,nr,fun a ha=>?_,fun z=>?_⟩ fun b ob hb=>k _ _ (ne_of_none hb shH) (s4 _ _ (s3 _ _ hb))
   rotate_left
   ·obtain⟨v,hv,ev⟩:=zBG ha
    rcases(rr v hv).2.2 with y |⟨j,ji,y⟩
    ·rw[ev]at y;exact ndH a y
    ·rw[ev]at y
     exact s3.free (nb' a (List.mem_of_getElem? y))
   ·obtain⟨v,hv,ev⟩:=zBG z
    exact(rr v hv).2.1 ev
   have gen:∀ (l:List Int) (rs:List Addr),l.length=rs.length->(∀ (v:Nat) (h:v<rs.length) (h':v<l.length),RowAt G false rs[v] (evn ps ps l[v]))->Paired (RowAt G false) rs (l.map (evn ps ps)):=by
    intro l
    induction l with
    |nil=>intro rs e _;cases rs with
     |nil=>exact .nil
     |cons _ _=>cases e
    |cons a l ih =>
     intro rs e h
     cases rs with
     |nil=>cases e
     |cons r rs=>exact .cons (h 0 (Nat.zero_lt_succ _) (Nat.zero_lt_succ _)) (ih rs (Nat.succ.inj e) fun v h1 h2=>h (v+1) (Nat.succ_lt_succ h1) (Nat.succ_lt_succ h2))
   refine gen (upto n) rs (by unfold upto;rw[zB,List.length_range,rl]) fun v h h'=>?_
   obtain⟨_,ev⟩:=upto_get (show v<n by exact zh7 h rl)
   rw[ev]
   obtain⟨q1,q2,_⟩:=rr v h
   exact q1.but k gsh3 q2
end
open PySem L2 PyProof.Rows
theorem op_ltTK{X:Cx}(K:PySem.W.Frag)(e:X.K=K)(hu:X.A.units<cLine):OpR X (compareOp .Lt) (rLtT K):=e▸op_ltT hu
theorem rep_t(i:Nat):(List.replicate i true).map V.bl++[V.bl true]=(List.replicate (i+1) true).map V.bl:=by rw[List.replicate_succ',zU];rfl
theorem all_rep(i:Nat):(List.replicate i true).all id=true:=by simp
inductive spNuI(vs:List V)(H:Hp)(Q:VK):Prop where
 |mk (z:Int) (h1:vs=[.int z]) (h2:Q (.bl true) H)
noncomputable def spNu:Sp:=fun vs H Q _=>spNuI vs H Q
inductive spAnI(K:PySem.W.Frag)(vs:List V)(H:Hp)(Q:VK):Prop where
 |mk (b:Bool) (a:Addr) (ns:List Int) (h1:vs=[.ref a]) (h2:SqB b K H a (ns.map V.int)) (h3:ns.length<=1000) (h4:∀ H',Same H H'->Q (.bl true) H')
noncomputable def spAn(K:PySem.W.Frag):Sp:=fun vs H Q _=>spAnI K vs H Q
inductive spIsLI(vs:List V)(H:Hp)(Q:VK):Prop where
 |mk (a:Addr) (xs:List V) (h1:vs=[.ref a]) (h2:H a=some (.lst xs)) (h3:∀ H',Same H H'->Q (.bl true) H')
noncomputable def spIsL:Sp:=fun vs H Q _=>spIsLI vs H Q
inductive spItI(vs:List V)(H:Hp)(Q:VK):Prop where
 |mk (a:Addr) (xs:List V) (m:Int) (h1:vs=[.ref a,.int m]) (h2:H a=some (.tup xs)) (h3:Q (.bl (decide ((xs.length:Int)=m))) H)
noncomputable def spIt:Sp:=fun vs H Q _=>spItI vs H Q
inductive spRsI(vs:List V)(H:Hp)(Q:VK):Prop where
 |mk (l:Addr) (as:List Addr) (ks:List (List Int)) (h1:vs=[.ref l]) (h2:H l=some (.lst (as.map V.ref))) (h3:as.length<=1000) (h4:TupsAt H as ks) (h5:(∀ (i:Nat) (h:1+i<ks.length),Srt.lexlt ks[i] ks[1+i]=true)) (h6:∀ H',Same H H'->Q (.bl true) H')
noncomputable def spRs:Sp:=fun vs H Q _=>spRsI vs H Q
theorem dat_int1{H:Hp}{i:Int}:∀ n:Nat,Dat H n (.int i) (.int i)
 | 0=>rfl
 | _+1=>rfl
theorem dat_ints{H:Hp}{n:Nat}:∀ {xs:List Int},Paired (Dat H n) (xs.map V.int) (xs.map Dt.int)
 |[]=>.nil
 | _ :: _=>.cons (dat_int1 n) dat_ints
theorem dat_lstI{H:Hp}{u:Addr}{xs:List Int}(h:H u=some (.lst (xs.map V.int)))(le:xs.length<=1000)(n:Nat):Dat H (n+1) (.ref u) (.lst (xs.map Dt.int)):=⟨u,_,rfl,by rw[zB];exact le,h,dat_ints⟩
theorem dat_tupI{H:Hp}{u:Addr}{xs:List Int}(h:H u=some (.tup (xs.map V.int)))(le:xs.length<=1000)(n:Nat):Dat H (n+1) (.ref u) (.tup (xs.map Dt.int)):=⟨u,_,rfl,by rw[zB];exact le,h,dat_ints⟩
theorem iteTd{c:Prop}[Decidable c]{A B:Prop}(h:c)(a:A):if c then A else B:=by rw[if_pos h];exact a
theorem iteFd{b:Bool}{A B:Prop}(h:(!b)=false)(x:B):if(!b)=true then A else B:=by rw[h];exact x
noncomputable def pOf(x:Tie):List Int:=[x.1,x.2.1]
theorem pair_tups{H:Hp}{as:List Addr}{ts:List Tie}(h:PairT H as ts):TupsAt H as (ts.map pOf):=by
 unfold PairT at h
 induction h with
 |nil=>exact .nil
 |cons a _ ih=>exact .cons a ih
theorem strict_at{ts:List Tie}(sr:ts.Pairwise tieLt)(i:Nat)(h:1+i <(ts.map pOf).length):Srt.lexlt (ts.map pOf)[i] (ts.map pOf)[1+i]=true:=by
 rw[zB]at h
 rw[zO,zO]
 exact zBX.mp sr i (1+i) (by exact zI (zAV i 1) h) h (by lia)
theorem sorted_upto{m:Nat}{zs:List Int}(p:zs.Perm (upto m))(s:zs.Pairwise (·<=·)):zs=upto m:=by
 refine p.eq_of_pairwise (le:=(·<=·)) (fun a b _ _ h1 h2=>Int.le_antisymm h1 h2) s ?_
 unfold upto
 rw[List.pairwise_map]
 exact(List.pairwise_lt_range (n:=m)).imp fun h=>by exact zhf h
inductive spIcI(vs:List V)(H:Hp)(Q:VK):Prop where
 |mk (t c:Addr) (n:Nat) (ties bts:List Tie) (as:List Addr) (h1:vs=[.ref t,.ref c]) (h2:WebAt H t n ties) (h3:ties.Pairwise tieLt) (h4:H c=some (.lst (as.map V.ref))) (h5:PairT H as bts) (h6:bts.length<=120) (h7:(∀ x∈bts,x∈ties)) (h8:bts.Pairwise tieLt) (h9:∀ H',Same H H'->Q (.bl true) H')
noncomputable def spIc:Sp:=fun vs H Q _=>spIcI vs H Q
inductive spIsFI(vs:List V)(H:Hp)(Q:VK):Prop where
 |mk (p:Addr) (f:Int×Int) (h1:vs=[.ref p]) (h2:H p=some (frO f)) (h3:1<=f.2) (h4:Int.gcd f.1 f.2=1) (h5:∀ H',Same H H'->Q (.bl true) H')
noncomputable def spIsF:Sp:=fun vs H Q _=>spIsFI vs H Q
inductive spIthI(vs:List V)(H:Hp)(Q:VK):Prop where
 |mk (p:Addr) (f:Int×Int) (h1:vs=[.ref p]) (h2:H p=some (frO f)) (h3:0<f.1) (h4:f.1<=f.2) (h5:Int.gcd f.1 f.2=1) (h6:∀ H',Same H H'->Q (.bl true) H')
noncomputable def spIth:Sp:=fun vs H Q _=>spIthI vs H Q
inductive spIorI(vs:List V)(H:Hp)(Q:VK):Prop where
 |mk (p:Addr) (m:Nat) (od:List Int) (h1:vs=[.int m,.ref p]) (h2:H p=some (.lst (od.map V.int))) (h3:m<=100) (h4:od.Perm (upto m)) (h5:∀ H',Same H H'->Q (.bl true) H')
noncomputable def spIor:Sp:=fun vs H Q _=>spIorI vs H Q
section
variable{P:Program}{w:World}{K:PySem.W.Frag}{mg:Str->Option Value}{base:Heap}
noncomputable abbrev nNu:List Str:=["thing"]
theorem scNu:FnScope nNu ["thing"] (defScope sIsNumber):=⟨rfl,rfl,rfl,by decide +kernel,rfl,by decide +kernel,by decide +kernel⟩
theorem ok_nu{f:Addr}{fd:FuncData}(F:Fun K "is_number" "is_number" sIsNumber f fd)(T:Txt mg):FnOk P w K mg base CX0 1 f fd ["thing"] spNu:=by
 refine F.ok scNu (fun vs H Q E h=>?_) (fun cdv A outer s H vs Q E hr h=>?_)
 ·obtain⟨z,rfl,_⟩:=h
  rfl
 ·obtain⟨z,rfl,fin⟩:=h
  refine⟨_,(pss_one (ps_ret (pe_and (pe_callB call_isinst (by rfl) T.isinst boot_isinstance (@pa_nam _ _ _ _ _ _ (pvQ 0) (@pa_nam _ _ _ _ _ _ (pe_bltn (v:=.ty "int") (by rfl) T.int boot_int rfl) pa_nil))) (pe_one (pe_not (pe_callB call_isinst (by rfl) T.isinst boot_isinstance (@pa_nam _ _ _ _ _ _ (pvQ 0) (@pa_nam _ _ _ _ _ _ (pe_bltn (v:=.ty "bool") (by rfl) T.bool boot_bool rfl) pa_nil)))))))),?_⟩
  refine⟨_,_,"int",true,rfl,TyOf.int _,rfl,_,rfl,iteT ?_⟩
  exact⟨_,_,"bool",false,rfl,TyOf.int _,rfl,_,rfl,fin⟩
noncomputable abbrev nAn:List Str:=["things"]
theorem scAn:FnScope nAn ["things"] (defScope sAreNumbers):=⟨rfl,rfl,rfl,by decide +kernel,rfl,by decide +kernel,by decide +kernel⟩
theorem csAn1:CompScope ["thing"] [none] nAn (defScope sAreNumbers) (scO [(".0",.local),("thing",.local),("is_number",.globalImplicit)]):=⟨rfl,by decide +kernel,by decide +kernel,by decide +kernel,rfl,capB_ok (by decide +kernel)⟩
theorem ndAn1:(["thing"]:List Str).Nodup:=by decide +kernel
theorem ok_an{f g:Addr}{fd gd:FuncData}(F:Fun K "are_numbers" "are_numbers" sAreNumbers f fd)(T2:Txt2 mg)(GN:CalF P w K mg base 1 "is_number" ["thing"] spNu g gd):FnOk P w K mg base CX0 2 f fd ["things"] (spAn K):=by
 refine F.ok scAn (fun vs H Q E h=>?_) (fun cdv A outer s H vs Q E hr h=>?_)
 ·obtain⟨b,a,ns,rfl,_⟩:=h
  rfl
 ·obtain⟨b,a,ns,rfl,ga,l,fin⟩:=h
  refine⟨_,(pss_one (ps_ret (pe_callB (call_allH rfl) (by rfl) T2.all boot_all (@pa_comp _ _ _ _ _ _ _ _ (pe_comp rfl csAn1 (pi_seq b (pvQ 0)) (fun C s H fp=>(pg_name (i:=0) ndAn1 rfl (Or.inl rfl))) (fun C s H fp=>pf_nil) (fun C s H fp=>(pe_call GN.ok hr rfl GN.mg GN.kp GN.bd .nil pass0 (@pa_nam _ _ _ _ _ _ (pvQ 0) pa_nil)))) pa_nil)))),?_⟩
  refine⟨a,rfl,⟨_,ga⟩,?_⟩
  refine comp_seq (K:=K) (b:=b) (a:=a) (xs:=ns.map V.int) (fun i ys G=>G=H/\ys=(List.replicate i true).map V.bl) (by rw[zB,sizeLine_eq];exact zl1 l rfl) ⟨rfl,rfl⟩ (fun i ys G _ z=>by rw[z.1];exact ga) ?_ ?_
  ·rintro i x ys G hx ⟨rfl,rfl⟩
   obtain⟨il,e⟩:=zH.mp hx
   rw[zO]at e
   subst e
   exact⟨trivial,tTru_if ⟨_,rfl,rfl,rep_t i⟩⟩
  ·rintro ys G _ ⟨rfl,rfl⟩ D hD
   refine⟨D,_,rfl,upd_same,?_⟩
   rw[all_rep]
   exact fin _ (Same.new hD)
noncomputable abbrev nIsL:List Str:=["thing"]
theorem scIsL:FnScope nIsL ["thing"] (defScope sIsList):=⟨rfl,rfl,rfl,by decide +kernel,rfl,by decide +kernel,by decide +kernel⟩
theorem ok_isl{f:Addr}{fd:FuncData}(F:Fun K "is_list" "is_list" sIsList f fd)(T:Txt mg):FnOk P w K mg base CX0 1 f fd ["thing"] spIsL:=by
 refine F.ok scIsL (fun vs H Q E h=>?_) (fun cdv A outer s H vs Q E hr h=>?_)
 ·obtain⟨a,xs,rfl,_⟩:=h
  rfl
 ·obtain⟨a,xs,rfl,ga,fin⟩:=h
  refine⟨_,(pss_one (ps_ret (pe_callB call_isinst2 (by rfl) T.isinst boot_isinstance (@pa_nam _ _ _ _ _ _ (pvQ 0) (@pa_tup _ _ _ _ _ _ _ (pe_tup (@pa_nam _ _ _ _ _ _ (pe_bltn (v:=.ty "list") (by rfl) T.list boot_list rfl) (@pa_nam _ _ _ _ _ _ (pe_bltn (v:=.ty "tuple") (by rfl) T.tuple boot_tuple rfl) pa_nil))) pa_nil))))),?_⟩
  refine⟨(by show 2<=sizeLine;decide),fun tp htp=>?_⟩
  have s1:=Same.new (o:=.tup [.ty "list",.ty "tuple"]) htp
  exact⟨_,_,tp,true,rfl,TyF.lst (s1 _ _ ga),upd_same,rfl,fin _ s1⟩
noncomputable abbrev nIt:List Str:=["thing","many"]
theorem scIt:FnScope nIt ["thing","many"] (defScope sIsTupleOf):=⟨rfl,rfl,rfl,by decide +kernel,rfl,by decide +kernel,by decide +kernel⟩
theorem ok_it{f:Addr}{fd:FuncData}(F:Fun K "is_tuple_of" "is_tuple_of" sIsTupleOf f fd)(T:Txt mg):FnOk P w K mg base CX0 1 f fd ["thing","many"] spIt:=by
 refine F.ok scIt (fun vs H Q E h=>?_) (fun cdv A outer s H vs Q E hr h=>?_)
 ·obtain⟨a,xs,m,rfl,_⟩:=h
  rfl
 ·obtain⟨a,xs,m,rfl,ga,fin⟩:=h
  refine⟨_,(pss_one (ps_ret (pe_and (pe_callB call_isinst (by rfl) T.isinst boot_isinstance (@pa_nam _ _ _ _ _ _ (pvQ 0) (@pa_nam _ _ _ _ _ _ (pe_bltn (v:=.ty "tuple") (by rfl) T.tuple boot_tuple rfl) pa_nil))) (pe_one (pe_cmpR op_eq (pe_callB call_lenTH (by rfl) T.len PySem.boot_len (@pa_nam _ _ _ _ _ _ (pvQ 0) pa_nil)) (pvQ 1) (nomark _)))))),?_⟩
  refine⟨_,_,"tuple",true,rfl,TyOf.tup ga,rfl,_,rfl,iteT ?_⟩
  refine⟨a,_,rfl,ga,rfl,?_⟩
  rw[show decide (V.int (xs.length:Int)=V.int m)=decide ((xs.length:Int)=m)from decide_eq_decide.mpr ⟨fun z=>by injection z,fun z=>by rw[z]⟩]
  exact fin
noncomputable abbrev nRs:List Str:=["things"]
theorem scRs:FnScope nRs ["things"] (defScope sRises):=⟨rfl,rfl,rfl,by decide +kernel,rfl,by decide +kernel,by decide +kernel⟩
theorem csRs1:CompScope ["one","other"] [none,none] nRs (defScope sRises) (scO [(".0",.local),("one",.local),("other",.local)]):=⟨rfl,by decide +kernel,by decide +kernel,by decide +kernel,rfl,capB_ok (by decide +kernel)⟩
theorem ndRs1:(["one","other"]:List Str).Nodup:=by decide +kernel
theorem ok_rs{f:Addr}{fd:FuncData}(F:Fun K "rises" "rises" sRises f fd)(T2:Txt2 mg):FnOk P w K mg base CX0 1 f fd ["things"] spRs:=by
 refine F.ok scRs (fun vs H Q E h=>?_) (fun cdv A outer s H vs Q E hr h=>?_)
 ·obtain⟨l,as,ks,rfl,_⟩:=h
  rfl
 ·obtain⟨l,as,ks,rfl,hl,len,ht,ri,q⟩:=h
  have hu0:_<cLine:=hr.units0
  have lk:=tups_len ht
  refine⟨_,(pss_one (ps_ret (pe_callB (call_allH rfl) (by rfl) T2.all boot_all (@pa_comp _ _ _ _ _ _ _ _ (pe_comp rfl csRs1 (pi_zip false false (by rfl) T2.zip (@pa_nam _ _ _ _ _ _ (pvQ 0) (@pa_sub _ _ _ _ _ _ _ (pe_slice sl_list (pvQ 0) (po_some pe_int) po_none) pa_nil))) (fun C s H fp=>(pg_tupK K rfl (n:=2) rfl (pgs_cons (pg_name (i:=0) ndRs1 rfl (Or.inl rfl)) (pgs_cons (pg_name (i:=1) ndRs1 rfl (Or.inl rfl)) pgs_nil)) rfl rfl)) (fun C s H fp=>pf_nil) (fun C s H fp=>(pe_cmpR (op_ltTK K rfl hu0) (pvQ 0) (pvQ 1) (nomark _)))) pa_nil)))),?_⟩
  refine⟨_,rfl,l,_,rfl,SqL.of hl,fun l2 hl2=>?_⟩
  refine⟨l,l2,rfl,⟨_,(Same.new hl2).seq (SqL.of hl)⟩,⟨_,SqL.of upd_same⟩,?_⟩
  have s2:Same H (upd H l2 (.lst (cutV (as.map V.ref) (some 1) none))):=Same.new hl2
  have hl2':(upd H l2 (.lst (cutV (as.map V.ref) (some 1) none))) l2=some (.lst ((as.drop 1).map V.ref)):=by rw[upd_same,cutV_tail,<- List.map_drop]
  generalize (upd H l2 (.lst (cutV (as.map V.ref) (some 1) none)))=H2 at s2 hl2'
  refine comp_zip (K:=K) (b1:=false) (b2:=false) (l1:=l) (l2:=l2) (xs:=as.map V.ref) (ys:=(as.drop 1).map V.ref) (fun i ys G=>Same H2 G/\ys=(List.replicate i true).map V.bl) (by rw[zB,sizeLine_eq];exact zed len lk) ⟨Same.refl _,rfl⟩ (fun i ys G _ z=>⟨(s2.trans z.1).seq (SqL.of hl),z.1.seq (SqL.of hl2')⟩) ?_ ?_
  ·rintro i x y zs G U hx hy ⟨sm,rfl⟩ hU
   obtain⟨il,e⟩:=zH.mp hx
   obtain⟨jl,e'⟩:=zH.mp hy
   rw[zB]at il jl
   rw[zCT]at jl
   rw[zO]at e
   rw[zO,List.getElem_drop]at e'
   subst e e'
   have hk:i<ks.length:=by exact zh7 il lk
   have hk1:1+i<ks.length:=by exact zcr len lk il jl
   have a1:=tups_at ht i il hk
   have a2:=tups_at ht (1+i) (by exact zh8 hk1 lk) hk1
   have sU:Same H (upd G U (.tup [V.ref as[i],V.ref as[1+i]])):=s2.trans (sm.trans (Same.new hU))
   refine⟨U,_,rfl,SqT.of upd_same,rfl,_,_,rfl,_,_,rfl,rfl,trivial,tTru_if ⟨as[i],as[1+i],ks[i],ks[1+i],rfl,rfl,SqT.of (sU _ _ a1),SqT.of (sU _ _ a2),sm.trans (Same.new hU),?_⟩⟩
   rw[lexLt_eq,ri i hk1]
   exact rep_t i
  ·rintro ys G yl ⟨sm,rfl⟩ D hD
   refine⟨D,_,rfl,upd_same,?_⟩
   rw[all_rep]
   exact q _ (s2.trans (sm.trans (Same.new hD)))
noncomputable abbrev nIc:List Str:=["web","thing","weights"]
theorem scIc:FnScope nIc ["web","thing"] (defScope sIsCut):=⟨rfl,rfl,rfl,by decide +kernel,rfl,by decide +kernel,by decide +kernel⟩
theorem csIc1:CompScope ["pair"] [none] nIc (defScope sIsCut) (scO [(".0",.local),("pair",.local),("is_tuple_of",.globalImplicit),("are_numbers",.globalImplicit)]):=⟨rfl,by decide +kernel,by decide +kernel,by decide +kernel,rfl,capB_ok (by decide +kernel)⟩
theorem ndIc1:(["pair"]:List Str).Nodup:=by decide +kernel
theorem csIc2:CompScope ["pair","weights"] [none,some 2] nIc (defScope sIsCut) (scO [(".0",.local),("pair",.local),("weights",.free)]):=⟨rfl,by decide +kernel,by decide +kernel,by decide +kernel,rfl,capB_ok (by decide +kernel)⟩
theorem ndIc2:(["pair","weights"]:List Str).Nodup:=by decide +kernel
theorem ok_ic{f g1 g2 g3 g4 g5:Addr}{fd d1 d2 d3 d4 d5:FuncData}(F:Fun K "is_cut" "is_cut" sIsCut f fd)(T2:Txt2 mg)(GL:CalF P w K mg base 1 "is_list" ["thing"] spIsL g1 d1)(GT:CalF P w K mg base 1 "is_tuple_of" ["thing","many"] spIt g2 d2)(GA:CalF P w K mg base 2 "are_numbers" ["things"] (spAn K) g3 d3)(GW:CalF P w K mg base 1 "tie_weights" ["web"] spTw g4 d4)(GR:CalF P w K mg base 1 "rises" ["things"] spRs g5 d5):FnOk P w K mg base CX0 3 f fd ["web","thing"] spIc:=by
 refine F.ok scIc (fun vs H Q E h=>?_) (fun cdv A outer s H vs Q E hr h=>?_)
 ·obtain⟨t,c,n,ties,bts,as,rfl,_⟩:=h
  rfl
 ·obtain⟨t,c,n,ties,bts,as,rfl,W,srt,gc,pc,bl,sub,sr,fin⟩:=h
  have hr1:Room 1 _:=hr.mono (by decide)
  have hr2:Room 2 _:=hr
  have hu:=hu_of hr
  have al:=pc.length
  refine⟨_,(pss_cons (ps_if (PW.pt (pw_or (pt_not (pt_val (pe_call GL.ok hr1 rfl GL.mg GL.kp GL.bd .nil pass0 (@pa_nam _ _ _ _ _ _ (pvQ 1) pa_nil)))) (pw_or1 (pt_not (pt_val (pe_callB (call_allH rfl) (by rfl) T2.all boot_all (@pa_comp _ _ _ _ _ _ _ _ (pe_comp rfl csIc1 (pi_list (pvQ 1)) (fun C s H fp=>(pg_name (i:=0) ndIc1 rfl (Or.inl rfl))) (fun C s H fp=>pf_nil) (fun C s H fp=>(pe_and (pe_call GT.ok hr1 rfl GT.mg GT.kp GT.bd .nil pass0 (@pa_nam _ _ _ _ _ _ (pvQ 0) (@pa_cst _ _ _ _ _ _ _ pe_int pa_nil))) (pe_one (pe_call GA.ok hr2 rfl GA.mg GA.kp GA.bd .nil pass0 (@pa_nam _ _ _ _ _ _ (pvQ 0) pa_nil)))))) pa_nil))))))) pss_never pss_nil)
   (pss_cons (ps_set (i:=2) scIc.nd rfl (Or.inr rfl) (pe_call GW.ok hr1 rfl GW.mg GW.kp GW.bd .nil pass0 (@pa_nam _ _ _ _ _ _ (pvQ 0) pa_nil)))
   (pss_one (ps_ret (pe_and (pe_callB (call_allH rfl) (by rfl) T2.all boot_all (@pa_comp _ _ _ _ _ _ _ _ (pe_comp rfl csIc2 (pi_list (pvQ 1)) (fun C s H fp=>(pg_name (i:=0) ndIc2 rfl (Or.inl rfl))) (fun C s H fp=>pf_nil) (fun C s H fp=>(pe_cmp (pc_din hu (pvQ 0) (pvQ 1))))) pa_nil)) (pe_one (pe_call GR.ok hr1 rfl GR.mg GR.kp GR.bd .nil pass0 (@pa_nam _ _ _ _ _ _ (pvQ 1) pa_nil)))))))),?_⟩
  refine⟨c,_,rfl,gc,fun H1 s1=>⟨_,rfl,iteF ?_⟩⟩
  refine⟨c,rfl,⟨_,SqL.of (s1 _ _ gc)⟩,?_⟩
  refine comp_list (K:=K) (a:=c) (xs:=as.map V.ref) (fun i ys G=>Same H1 G/\ys=(List.replicate i true).map V.bl) (by rw[zB,sizeLine_eq];exact zh9 (zl1 bl rfl) al) ⟨Same.refl _,rfl⟩ (fun i ys G _ z=>SqL.of (z.1 _ _ (s1 _ _ gc))) ?_ ?_
  ·rintro i x ys G hx ⟨sG,rfl⟩
   obtain⟨il,e⟩:=zH.mp hx
   rw[zB]at il
   rw[zO]at e
   subst e
   have ib:i<bts.length:=by exact zh7 il al
   have gx:=(s1.trans sG) _ _ (Paired.at pc i il ib)
   refine⟨trivial,tTru_if ⟨as[i],_,2,rfl,gx,_,rfl,iteTd (decide_eq_true rfl) ?_⟩⟩
   exact⟨true,as[i],[bts[i].1,bts[i].2.1],rfl,SqT.of gx,by show 2<=1000;decide,fun G2 s2=>⟨sG.trans s2,rep_t i⟩⟩
  rintro ys G _ ⟨sG,rfl⟩ D hD
  refine⟨D,_,rfl,upd_same,_,rfl,?_⟩
  rw[all_rep]
  refine iteF ?_
  have s2:=s1.trans (sG.trans (Same.new (o:=.lst ((List.replicate (as.map V.ref).length true).map V.bl)) hD))
  generalize (upd G D (.lst ((List.replicate (as.map V.ref).length true).map V.bl)))=H2 at s2
  clear sG hD s1
  refine⟨t,n,ties,rfl,W.same s2,srt,fun d kvs H3 gd kv s23=>?_⟩
  have s3:=s2.trans s23
  refine⟨c,rfl,⟨_,SqL.of (s3 _ _ gc)⟩,?_⟩
  refine comp_list (K:=K) (a:=c) (xs:=as.map V.ref) (fun i ys G=>Same H3 G/\ys=(List.replicate i true).map V.bl) (by rw[zB,sizeLine_eq];exact zh9 (zl1 bl rfl) al) ⟨Same.refl _,rfl⟩ (fun i ys G _ z=>SqL.of (z.1 _ _ (s3 _ _ gc))) ?_ ?_
  ·rintro i x ys G hx ⟨sG,rfl⟩
   obtain⟨il,e⟩:=zH.mp hx
   rw[zB]at il
   rw[zO]at e
   subst e
   have ib:i<bts.length:=by exact zh7 il al
   have gx:=(s3.trans sG) _ _ (Paired.at pc i il ib)
   have g0:DGet G d (V.ref as[i]) (valV kvs (keyT bts[i])):=DGet.t (sG _ _ gd) gx
   rw[kv _ (sub _ (zX ib))]at g0
   exact⟨⟨rfl,trivial⟩,tTru_if ⟨d,_,rfl,g0,sG,rep_t i⟩⟩
  rintro ys G _ ⟨sG,rfl⟩ D hD
  refine⟨D,_,rfl,upd_same,_,rfl,?_⟩
  rw[all_rep]
  refine iteT ?_
  have s4:=s3.trans (sG.trans (Same.new (o:=.lst ((List.replicate (as.map V.ref).length true).map V.bl)) hD))
  exact⟨c,as,bts.map pOf,rfl,s4 _ _ gc,by exact zh9 (zl1 bl rfl) al,pair_tups (pc.same s4),fun i h=>strict_at sr i h,fun H5 s5=>fin _ (s4.trans s5)⟩
noncomputable abbrev nIsF:List Str:=["thing","top","below"]
theorem scIsF:FnScope nIsF ["thing"] (defScope sIsFraction):=⟨rfl,rfl,rfl,by decide +kernel,rfl,by decide +kernel,by decide +kernel⟩
theorem ok_isf{f g1 g2 g3:Addr}{fd d1 d2 d3:FuncData}(F:Fun K "is_fraction" "is_fraction" sIsFraction f fd)(GT:CalF P w K mg base 1 "is_tuple_of" ["thing","many"] spIt g1 d1)(GN:CalF P w K mg base 2 "are_numbers" ["things"] (spAn K) g2 d2)(GC:CalF P w K mg base 1 "common_divisor" ["one","other"] spCd g3 d3):FnOk P w K mg base CX0 3 f fd ["thing"] spIsF:=by
 refine F.ok scIsF (fun vs H Q E h=>?_) (fun cdv A outer s H vs Q E hr h=>?_)
 ·obtain⟨p,f,rfl,_⟩:=h
  rfl
 ·obtain⟨p,f,rfl,hp,f2,fg,fin⟩:=h
  have hr1:Room 1 _:=hr.mono (by decide)
  have hr2:Room 2 _:=hr
  refine⟨_,(pss_cons (ps_if (PW.pt (pw_or (pt_not (pt_val (pe_call GT.ok hr1 rfl GT.mg GT.kp GT.bd .nil pass0 (@pa_nam _ _ _ _ _ _ (pvQ 0) (@pa_cst _ _ _ _ _ _ _ pe_int pa_nil))))) (pw_or1 (pt_not (pt_val (pe_call GN.ok hr2 rfl GN.mg GN.kp GN.bd .nil pass0 (@pa_nam _ _ _ _ _ _ (pvQ 0) pa_nil))))))) pss_never pss_nil)
   (pss_cons (ps_asg (pvQ 0) (pg_tup (n:=2) rfl (pgs_cons (pg_name (i:=1) scIsF.nd rfl (Or.inl rfl)) (pgs_cons (pg_name (i:=2) scIsF.nd rfl (Or.inl rfl)) pgs_nil))))
   (pss_one (ps_ret (pe_and (pe_cmpR op_ge (pvQ 2) pe_int (nomark _)) (pe_one (pe_cmpR op_eq (pe_call GC.ok hr1 rfl GC.mg GC.kp GC.bd .nil pass0 (@pa_nam _ _ _ _ _ _ (pvQ 1) (@pa_nam _ _ _ _ _ _ (pvQ 2) pa_nil))) pe_int (nomark _)))))))),?_⟩
  refine⟨p,_,2,rfl,hp,_,rfl,iteFd rfl ?_⟩
  refine⟨true,p,[f.1,f.2],rfl,SqT.of hp,by show 2<=1000;decide,fun H1 s1=>⟨_,rfl,iteF ?_⟩⟩
  refine⟨p,_,rfl,SqT.of (s1 _ _ hp),rfl,_,_,rfl,_,_,rfl,rfl,?_⟩
  refine⟨_,_,rfl,rfl,_,rfl,iteTd (decide_eq_true f2) ?_⟩
  refine⟨f.1,f.2,rfl,by exact zdm f2,.inr (by exact zhb f2),rfl,?_⟩
  rw[fg]
  exact fin _ s1
noncomputable abbrev nIth:List Str:=["thing"]
theorem scIth:FnScope nIth ["thing"] (defScope sIsThreshold):=⟨rfl,rfl,rfl,by decide +kernel,rfl,by decide +kernel,by decide +kernel⟩
theorem ok_ith{f g1:Addr}{fd d1:FuncData}(F:Fun K "is_threshold" "is_threshold" sIsThreshold f fd)(GF:CalF P w K mg base 3 "is_fraction" ["thing"] spIsF g1 d1):FnOk P w K mg base CX0 4 f fd ["thing"] spIth:=by
 refine F.ok scIth (fun vs H Q E h=>?_) (fun cdv A outer s H vs Q E hr h=>?_)
 ·obtain⟨p,f,rfl,_⟩:=h
  rfl
 ·obtain⟨p,f,rfl,hp,f0,f1,fg,fin⟩:=h
  have hr3:Room 3 _:=hr
  refine⟨_,(pss_one (ps_ret (pe_and (pe_call GF.ok hr3 rfl GF.mg GF.kp GF.bd .nil pass0 (@pa_nam _ _ _ _ _ _ (pvQ 0) pa_nil)) (pe_one (pe_chain op_lt op_le pe_int (@pe_ix _ _ _ _ _ _ _ ix_tupH (pvQ 0) pe_int (fun _ _=>rfl)) (@pe_ix _ _ _ _ _ _ _ ix_tupH (pvQ 0) pe_int (fun _ _=>rfl))))))),?_⟩
  refine⟨p,f,rfl,hp,by exact zgb f0 f1,fg,fun H1 s1=>⟨_,rfl,iteT ?_⟩⟩
  have hp1:=s1 _ _ hp
  refine⟨p,_,_,_,rfl,rfl,hp1,at0,_,_,rfl,rfl,_,rfl,iteTd (decide_eq_true f0) ?_⟩
  refine⟨p,_,_,_,rfl,rfl,hp1,at1,_,_,rfl,rfl,?_⟩
  show Q (.bl (decide (f.1<=f.2))) H1
  rw[decide_eq_true f1]
  exact fin _ s1
noncomputable abbrev nIor:List Str:=["many","thing"]
theorem scIor:FnScope nIor ["many","thing"] (defScope sIsOrderOf):=⟨rfl,rfl,rfl,by decide +kernel,rfl,by decide +kernel,by decide +kernel⟩
theorem ok_ior{f g1 g2:Addr}{fd d1 d2:FuncData}(F:Fun K "is_order_of" "is_order_of" sIsOrderOf f fd)(T:Txt mg)(GL:CalF P w K mg base 1 "is_list" ["thing"] spIsL g1 d1)(GA:CalF P w K mg base 2 "are_numbers" ["things"] (spAn K) g2 d2):FnOk P w K mg base CX0 3 f fd ["many","thing"] spIor:=by
 refine F.ok scIor (fun vs H Q E h=>?_) (fun cdv A outer s H vs Q E hr h=>?_)
 ·obtain⟨p,m,od,rfl,_⟩:=h
  rfl
 ·obtain⟨p,m,od,rfl,hp,m1,pm,fin⟩:=h
  have hr1:Room 1 _:=hr.mono (by decide)
  have hr2:Room 2 _:=hr
  have hu64:=hr.units
  have ul:(upto m).length=m:=by unfold upto;rw[zB,List.length_range]
  have ol:od.length=m:=pm.length_eq.trans ul
  refine⟨_,(pss_one (ps_ret (pe_and (pe_call GL.ok hr1 rfl GL.mg GL.kp GL.bd .nil pass0 (@pa_nam _ _ _ _ _ _ (pvQ 1) pa_nil)) (pe_and (pe_call GA.ok hr2 rfl GA.mg GA.kp GA.bd .nil pass0 (@pa_nam _ _ _ _ _ _ (pvQ 1) pa_nil)) (pe_one (pe_cmpR (op_eqS hu64) (pe_callB call_sortedIH (by rfl) T.sorted boot_sorted (@pa_nam _ _ _ _ _ _ (pvQ 1) pa_nil)) (pe_callTy (call_list_rng rfl) (by rfl) T.list boot_list (@pa_call _ _ _ _ _ _ _ _ (pe_callTy (call_range _) (by rfl) T.range boot_range (@pa_nam _ _ _ _ _ _ (pvQ 0) pa_nil)) pa_nil)) (nomark _))))))),?_⟩
  refine⟨p,_,rfl,hp,fun H1 s1=>⟨_,rfl,iteT ?_⟩⟩
  refine⟨false,p,od,rfl,SqL.of (s1 _ _ hp),by exact zh9 (zl1 m1 rfl) ol,fun H2 s12=>⟨_,rfl,iteT ?_⟩⟩
  have s2:=s1.trans s12
  refine⟨p,od,rfl,s2 _ _ hp,by exact zI (zAB ol) (zl2 m1 rfl),fun l ms hl pq so=>?_⟩
  have e:ms=upto m:=sorted_upto (pq.trans pm) so
  subst e
  refine⟨_,rfl,fun rg hrg=>⟨rg,_,rfl,upd_same,by exact zh1,by exact zm3 m1 rfl,fun l2 hl2=>?_⟩⟩
  have sl:=Same.new (o:=.lst ((upto m).map V.int)) hl
  have sr:=Same.new (o:=.rng 0 (m:Int)) hrg
  have s2':=Same.new (o:=.lst ((upto (m:Int).toNat).map V.int)) hl2
  have gl:=(sr.trans s2') _ _ (show(upd H2 l (.lst ((upto m).map V.int))) l=_ from upd_same)
  refine⟨0,.lst ((upto m).map Dt.int),dat_lstI gl (by exact zh9 (zl1 m1 rfl) ul) 0,dat_lstI (u:=l2) (by rw[upd_same,zAQ]) (by exact zh9 (zl1 m1 rfl) ul) 0,rfl,by decide,?_⟩
  exact fin _ (s2.trans (sl.trans (sr.trans s2')))
end
open PySem L2 PyProof.Rows
open Rnd (ltF tkr uq uqs Lo)
theorem fit16{x:Int}(h:x.natAbs<65536):fitsB 16 x:=by show _<2 ^ 16;rw[show(2:Nat) ^ 16=65536 by decide];exact h
theorem flat_len{m:Nat}:∀ {R:Shr.Rows},(∀ r∈R,r.length=m)->R.flatten.length=m * R.length
 |[],_=>rfl
 |r :: R,h=>by
  rw[List.flatten_cons,zAC,h r (zT ..),flat_len fun x hx=>h x (zY _ hx),zBD,Nat.mul_add]
  lia
theorem rows_ok{n m:Nat}{R:Shr.Rows}(Rl:R.length=n)(h:∀ row∈R,row.length=m/\∀ f∈row,FK f)(n30:n<=30)(m6:m<=6):ShOk 16 2880 n m R:=by
 refine⟨⟨fun r hr f hf=>((h r hr).2 f hf).p,fun r hr f hf=>((h r hr).2 f hf).b,fun r hr f hf=>((h r hr).2 f hf).t.mono (by decide),?_,by decide⟩,Rl,fun r hr=>(h r hr).1,by exact zl1 n30 rfl,by exact zl1 m6 rfl⟩
 rw[flat_len fun r hr=>(h r hr).1,Rl]
 have:=Nat.mul_le_mul m6 n30
 lia
theorem fk_rw{m:Nat}{R:Shr.Rows}(h:∀ row∈R,row.length=m/\∀ f∈row,FK f):∀ row∈R,RwOk m row:=fun r hr=>⟨(h r hr).1,fun f hf=>⟨((h r hr).2 f hf).t,((h r hr).2 f hf).b⟩⟩
theorem row_fk{ps:List Int}{g:Int->Int×Int}(h:∀ p,FK (g p)):(ps.map g).length=ps.length/\∀ f∈ps.map g,FK f:=by
 refine⟨zB _,fun f hf=>?_⟩
 obtain⟨p,_,rfl⟩:=zAR.mp hf
 exact h p
theorem i01(c:Prop)[Decidable c]:FK ((if c then 1 else 0:Int),(1:Int)):=by
 refine⟨by show(0:Int)<1;decide,fit16 (by show(1:Int).natAbs<_;decide),fit16 ?_⟩
 show(if c then 1 else 0:Int).natAbs<_
 split <;> decide
theorem own_fk{ps ows:List Int}:∀ row∈ows.map (ind ps),row.length=ps.length/\∀ f∈row,FK f:=fun row hr=>by
 obtain⟨o,_,rfl⟩:=zAR.mp hr
 exact row_fk fun p=>i01 _
theorem even_fk{ps:List Int}{n:Nat}(m1:1<=ps.length)(m6:ps.length<=6):∀ row∈(upto n).map (evn ps ps),row.length=ps.length/\∀ f∈row,FK f:=fun row hr=>by
 obtain⟨v,_,rfl⟩:=zAR.mp hr
 unfold evn
 split
 ·exact row_fk fun p=>i01 _
 ·exact row_fk fun p=>⟨by show(0:Int) <(ps.length:Int);exact zhe m1 m6,fit16 (by show(ps.length:Int).natAbs<_;exact zi9 (zn2 m6 rfl) (zAV (2 ^ 8) 65280)),fit16 (by show(1:Int).natAbs<_;decide)⟩
structure OwnOk(n:Nat)(ps ows:List Int):Prop where
 len:ows.length=n
 mem:∀ x∈ows,x∈ps
theorem OwnOk.at{n:Nat}{ps ows:List Int}(h:OwnOk n ps ows){v:Int}(v0:0<=v)(v1:v<n):∃ hv:v.toNat<ows.length,ows.getD v.toNat 0=ows[v.toNat]/\ows[v.toNat]∈ps:=by
 have:v.toNat<ows.length:=by rw[h.len];omega
 exact⟨this,getD_at this 0,h.mem _ (zX this)⟩
noncomputable def wSum(ows:List Int)(ties:List Tie):Int:=((ties.filter (dif ows)).map (·.2.2)).sum
theorem far_cons(x y:Int)(xs ys:List Int):far (x :: xs) (y :: ys)=aI (x-y)+far xs ys:=rfl
theorem far_ind{D a b:Int}(D0:0<=D):∀ {ps:List Int},ps.Nodup->far (ps.map fun p=>(if p=a then D else 0:Int)) (ps.map fun p=>(if p=b then D else 0:Int))=if a=b then 0 else(if a∈ps then D else 0)+(if b∈ps then D else 0)
 |[],_=>by
  rw[if_neg (show ¬ a∈([]:List Int) by simp),if_neg (show ¬ b∈([]:List Int) by simp)]
  show(0:Int)=_
  by_cases c:a=b
  ·rw[if_pos c]
  ·rw[if_neg c];rfl
 |p :: ps,h=>by
  obtain⟨h1,h2⟩:=zCZ.mp h
  rw[zAI,zAI,far_cons,far_ind D0 h2]
  unfold aI
  by_cases c:a=b
  ·subst c
   rw[if_pos rfl,if_pos rfl,Int.sub_self]
   rfl
  ·rw[if_neg c,if_neg c]
   by_cases c1:p=a
   ·have c2:¬ p=b:=fun e=>c (c1.symm.trans e)
    have c3:(b∈p :: ps)↔b∈ps:=by rw[zAF];exact⟨fun z=>z.resolve_left fun e=>c2 e.symm,.inr⟩
    subst c1
    rw[if_pos rfl,if_neg c2,if_neg h1,if_pos (zT ..),if_neg (by lia)]
    by_cases c4:b∈ps
    ·rw[if_pos c4,if_pos (c3.mpr c4)];lia
    ·rw[if_neg c4,if_neg fun z=>c4 (c3.mp z)];lia
   ·have c3:(a∈p :: ps)↔a∈ps:=by rw[zAF];exact⟨fun z=>z.resolve_left fun e=>c1 e.symm,.inr⟩
    have e3:(if a∈p :: ps then D else 0)=if a∈ps then D else 0:=by
     by_cases c4:a∈ps
     ·rw[if_pos c4,if_pos (c3.mpr c4)]
     ·rw[if_neg c4,if_neg fun z=>c4 (c3.mp z)]
    rw[e3,if_neg c1]
    by_cases c2:p=b
    ·subst c2
     rw[if_pos rfl,if_pos (zT ..),if_neg h1]
     split <;> lia
    ·have c5:(b∈p :: ps)↔b∈ps:=by rw[zAF];exact⟨fun z=>z.resolve_left fun e=>c2 e.symm,.inr⟩
     rw[if_neg c2]
     by_cases c4:b∈ps
     ·rw[if_pos c4,if_pos (c5.mpr c4)];lia
     ·rw[if_neg c4,if_neg fun z=>c4 (c5.mp z)];lia
theorem own_row{D:Int}{n:Nat}{ps ows:List Int}(h:OwnOk n ps ows){v:Int}(v0:0<=v)(v1:v<n):rowOf (Shr.tops D (ows.map (ind ps))) v=ps.map fun p=>(if p=ows.getD v.toNat 0 then D else 0:Int):=by
 obtain⟨hv,e,_⟩:=h.at v0 v1
 unfold rowOf Shr.tops
 rw[e,zAX,zF (by rw[zB,zB];exact hv),Option.getD_some,zO,zO]
 unfold ind
 rw[zBU]
 refine zCM fun p _=>?_
 show(if p=_ then 1 else 0:Int) * (D / 1)=_
 rw[Int.ediv_one]
 split
 ·rw[Int.one_mul]
 ·rw[Int.zero_mul]
theorem own_cost{n:Nat}{ps ows:List Int}{ties:List Tie}(nd:ps.Nodup)(h:OwnOk n ps ows)(ok:∀ x∈ties,TieOk n x)(n30:n<=30)(m6:ps.length<=6) :
  Shr.nf (ties.map (cOf (Shr.tops (Shr.dn (ows.map (ind ps))) (ows.map (ind ps))))).sum (2 * Shr.dn (ows.map (ind ps)))=(wSum ows ties,1):=by
 have so:=rows_ok (R:=ows.map (ind ps)) (by rw[zB];exact h.len) own_fk n30 m6
 obtain⟨D0,_,_⟩:=so.ok.dn
 generalize Shr.dn (ows.map (ind ps))=D at *
 have e:(ties.map (cOf (Shr.tops D (ows.map (ind ps))))).sum=wSum ows ties * (2 * D):=by
  clear so
  induction ties with
  |nil=>show(0:Int)=0 * _;rw[Int.zero_mul]
  |cons x ts ih =>
   rw[zAI,List.sum_cons,ih fun y hy=>ok y (zY _ hy)]
   obtain⟨o1,o2,o3,_⟩:=ok x (zT ..)
   unfold wSum cOf
   rw[own_row h o1 (by lia),own_row h (by lia) o3,far_ind (by lia) nd]
   obtain⟨_,e1,m1⟩:=h.at o1 (by lia)
   obtain⟨_,e2,m2⟩:=h.at (v:=x.2.1) (by lia) o3
   rw[<- e1]at m1
   rw[<- e2]at m2
   by_cases c:ows.getD x.1.toNat 0=ows.getD x.2.1.toNat 0
   ·rw[if_pos c,zDH (by unfold dif;rw[decide_eq_true c];decide),Int.mul_zero,Int.zero_add]
   ·rw[if_neg c,if_pos m1,if_pos m2,zDG (by unfold dif;rw[decide_eq_false c];rfl),zAI,List.sum_cons,Int.add_mul,show D+D=2 * D by lia]
 exact Shr.Is.one (by lia) (Shr.nf_rel (by lia) rfl) ⟨⟨by show(0:Int)<1;decide,by show wSum ows ties * (2 * D)=_ * 1;rw[Int.mul_one,e]⟩,Int.gcd_one_right ..⟩
theorem tkr_head{row:List (Int×Int)}{t:Int×Int}{a:Int}{r:List Int}:∀ {od:List Int},(od.filter fun a=>!ltF (row.getD a.toNat (0,1)) t)=a :: r->tkr row t od=a:=by
 intro od
 induction od with
 |nil=>intro h;cases h
 |cons x od ih =>
  intro h
  cases c:ltF (row.getD x.toNat (0,1)) t with
  |true =>
   rw[zDH (by rw[c];decide)]at h
   cases od with
   |nil=>cases h
   |cons y od =>
    show(if _ then _ else _)=_
    rw[if_pos c]
    exact ih h
  |false =>
   rw[zDG (by rw[c];decide)]at h
   injection h with h _
   cases od with
   |nil=>exact h
   |cons y od =>
    show(if _ then _ else _)=_
    rw[if_neg (by rw[c];decide),h]
theorem row_at{ps:List Int}{g:Int->Int×Int}{a:Int}(a0:0<=a)(a1:a<ps.length):(ps.map g).getD a.toNat (0,1)=g (ps.getD a.toNat 0):=by
 have h:a.toNat<ps.length:=by exact zi3 (zn1 (zh3 a0) a1)
 rw[getD_at (by rw[zB];exact h),getD_at h,zO]
structure OdP(m:Nat)(od:List Int):Prop where
 pm:od.Perm (upto m)
theorem OdP.mem{m:Nat}{od:List Int}(o:OdP m od){a:Int}:a∈od↔0<=a/\a<m:=by
 rw[o.pm.mem_iff]
 unfold upto
 rw[zAR]
 constructor
 ·rintro⟨i,hi,rfl⟩
  have:=zCP.mp hi
  exact zi5 this
 ·intro h
  exact⟨a.toNat,zCP.mpr (by exact zbb h),by exact zcw h⟩
theorem OdP.len{m:Nat}{od:List Int}(o:OdP m od):od.length=m:=by
 rw[o.pm.length_eq]
 unfold upto
 rw[zB,List.length_range]
theorem OdP.ok{m:Nat}{od:List Int}(o:OdP m od)(m1:1<=m)(m6:m<=6):OdOk m od:=⟨by rw[o.len];exact m1,by rw[o.len];exact zl1 m6 rfl,fun a ha=>o.mem.mp ha⟩
theorem lt0{t:Int×Int}(h:0<t.1):ltF (0,1) t=true:=Rnd.ltF_iff.mpr (by show 0 * t.2<t.1 * 1;exact zgk h)
theorem lt1{t:Int×Int}(h:t.1<=t.2):ltF (1,1) t=false:=decide_eq_false (by show ¬ 1 * t.2<t.1 * 1;lia)
theorem tkr_want{ps od:List Int}{g:Int->Int×Int}{t:Int×Int}(o:OdP ps.length od){want:Int->Bool}(hw:∀ p∈ps,ltF (g p) t = !want p){x:Int}(hx:x∈ps)(wx:want x=true) :
  ∃ a r,(od.filter fun l=>want (ps.getD l.toNat 0))=a :: r/\tkr (ps.map g) t od=a/\want (ps.getD a.toNat 0)=true:=by
 have e:(od.filter fun a=>!ltF ((ps.map g).getD a.toNat (0,1)) t)=od.filter fun l=>want (ps.getD l.toNat 0):=by
  refine List.filter_congr fun a ha=>?_
  obtain⟨a0,a1⟩:=o.mem.mp ha
  have h:a.toNat<ps.length:=by exact zi3 (zn1 (zh3 a0) a1)
  rw[row_at a0 a1,hw _ (by rw[getD_at h];exact zX h),Bool.not_not]
 cases c:od.filter fun l=>want (ps.getD l.toNat 0)with
 |nil =>
  obtain⟨k,hk,ek⟩:=zBG hx
  have:=List.filter_eq_nil_iff.mp c (k:Int) (o.mem.mpr (by exact zi5 hk))
  rw[zAQ,getD_at hk,ek,wx]at this
  exact absurd rfl this
 |cons a r =>
  refine⟨a,r,rfl,tkr_head (e.trans c),?_⟩
  have:a∈od.filter fun l=>want (ps.getD l.toNat 0):=by rw[c];exact zT
  exact(zCF.mp this).2
theorem own_tkr{ps od:List Int}{t:Int×Int}(o:OdP ps.length od)(t0:0<t.1)(t1:t.1<=t.2){v:Int}(hv:v∈ps):ps.getD (tkr (ind ps v) t od).toNat 0=v:=by
 obtain⟨a,r,_,e,w⟩:=tkr_want (g:=fun p=>((if p=v then 1 else 0:Int),(1:Int))) (t:=t) o (want:=fun p=>decide (p=v)) (fun p _=>by
  by_cases c:p=v
  ·rw[if_pos c,decide_eq_true c];exact lt1 t1
  ·rw[if_neg c,decide_eq_false c];exact lt0 t0) hv (decide_eq_true rfl)
 unfold ind
 rw[e]
 exact of_decide_eq_true w
theorem own_ows{n:Nat}{ps ows' od:List Int}{t:Int×Int}(h:OwnOk n ps ows')(o:OdP ps.length od)(t0:0<t.1)(t1:t.1<=t.2):((ows'.map (ind ps)).map fun row=>ps.getD (tkr row t od).toNat 0)=ows':=by
 rw[zBU]
 conv=>rhs;rw[<- List.map_id ows']
 exact zCM fun v hv=>own_tkr o t0 t1 (h.mem v hv)
noncomputable def hf(a b p:Int):Int×Int:=blF (1,2) ((if p=a then 1 else 0:Int),(1:Int)) ((if p=b then 1 else 0:Int),(1:Int))
noncomputable def halfR(ps us ws:List Int):Shr.Rows:=(us.zip ws).map fun z=>ps.map (hf z.1 z.2)
theorem mix_half(ps us ws:List Int):mixR (1,2) (us.map (ind ps)) (ws.map (ind ps))=halfR ps us ws:=by
 unfold mixR halfR
 rw[List.zip_map,zBU]
 refine zCM fun z _=>?_
 show(List.map _ (List.zip (ps.map _) (ps.map _)))=_
 rw[List.zip_map',zBU]
 rfl
theorem hf_eq{a b p:Int}:(p=a->p=b->hf a b p=(1,1))/\(p≠a->p≠b->hf a b p=(0,1))/\(p=a->p≠b->hf a b p=(1,2))/\(p≠a->p=b->hf a b p=(1,2)):=by
 unfold hf
 refine⟨fun h k=>?_,fun h k=>?_,fun h k=>?_,fun h k=>?_⟩
 ·rw[if_pos h,if_pos k];decide
 ·rw[if_neg h,if_neg k];decide
 ·rw[if_pos h,if_neg k];decide
 ·rw[if_neg h,if_pos k];decide
theorem hf_fk(a b p:Int):FK (hf a b p):=by
 obtain⟨h1,h2,h3,h4⟩:=hf_eq (a:=a) (b:=b) (p:=p)
 have k:∀ x y:Int,0<y->y<3->0<=x->x<3->FK (x,y):=fun x y y0 y1 x0 x1=>⟨y0,fit16 (by show y.natAbs<_;exact zdo y0 y1),fit16 (by show x.natAbs<_;exact zek x0 x1)⟩
 by_cases c:p=a
 ·by_cases d:p=b
  ·rw[h1 c d];exact k _ _ (by decide) (by decide) (by decide) (by decide)
  ·rw[h3 c d];exact k _ _ (by decide) (by decide) (by decide) (by decide)
 ·by_cases d:p=b
  ·rw[h4 c d];exact k _ _ (by decide) (by decide) (by decide) (by decide)
  ·rw[h2 c d];exact k _ _ (by decide) (by decide) (by decide) (by decide)
theorem half_fk{ps us ws:List Int}:∀ row∈halfR ps us ws,row.length=ps.length/\∀ f∈row,FK f:=fun row hr=>by
 obtain⟨z,_,rfl⟩:=zAR.mp hr
 exact row_fk fun p=>hf_fk _ _ _
theorem half_same{ps od:List Int}{t:Int×Int}(o:OdP ps.length od)(t0:0<t.1)(t1:t.1<=t.2){v:Int}(hv:v∈ps):ps.getD (tkr (ps.map (hf v v)) t od).toNat 0=v:=by
 obtain⟨h1,h2,_,_⟩:=hf_eq (a:=v) (b:=v) (p:=v)
 have e:ps.map (hf v v)=ind ps v:=zCM fun p _=>by
  by_cases c:p=v
  ·rw[(hf_eq (a:=v) (b:=v) (p:=p)).1 c c,if_pos c]
  ·rw[(hf_eq (a:=v) (b:=v) (p:=p)).2.1 c c,if_neg c]
 rw[e]
 exact own_tkr o t0 t1 hv
theorem half_high{ps pre:List Int}{z:Int}{t:Int×Int}(o:OdP ps.length (pre++[z]))(t0:0<t.1){a b:Int}(ne:a≠b)(hi:1 * t.2<t.1 * 2):tkr (ps.map (hf a b)) t (pre++[z])=z:=by
 refine Rnd.tkr_all fun x hx=>?_
 obtain⟨x0,x1⟩:=o.mem.mp (zAZ _ hx)
 rw[row_at x0 x1]
 obtain⟨h1,h2,h3,h4⟩:=hf_eq (a:=a) (b:=b) (p:=ps.getD x.toNat 0)
 have k:ltF (1,2) t=true:=Rnd.ltF_iff.mpr hi
 by_cases c:ps.getD x.toNat 0=a
 ·rw[h3 c fun d=>ne (c.symm.trans d)];exact k
 ·by_cases d:ps.getD x.toNat 0=b
  ·rw[h4 c d];exact k
  ·rw[h2 c d];exact lt0 t0
theorem half_low{ps od:List Int}{t:Int×Int}(o:OdP ps.length od)(t0:0<t.1){a b:Int}(ne:a≠b)(ha:a∈ps)(lo:¬ 1 * t.2<t.1 * 2):∃ x r,(od.filter fun l=>decide (ps.getD l.toNat 0=a\/ps.getD l.toNat 0=b))=x :: r/\tkr (ps.map (hf a b)) t od=x:=by
 obtain⟨x,r,h1,h2,_⟩:=tkr_want (g:=hf a b) (t:=t) o (want:=fun p=>decide (p=a\/p=b)) (fun p _=>by
  obtain⟨h1,h2,h3,h4⟩:=hf_eq (a:=a) (b:=b) (p:=p)
  have k:ltF (1,2) t=false:=decide_eq_false lo
  by_cases c:p=a
  ·rw[h3 c fun d=>ne (c.symm.trans d),k,decide_eq_true (.inl c)];rfl
  ·by_cases d:p=b
   ·rw[h4 c d,k,decide_eq_true (.inr d)];rfl
   ·rw[h2 c d,lt0 t0,decide_eq_false (fun z=>z.elim c d)];rfl) ha (decide_eq_true (.inl rfl))
 exact⟨x,r,h1,h2⟩
theorem even_tkr{ps od:List Int}{x:Int}{r:List Int}(e:od=x :: r)(o:OdP ps.length od)(m1:1<=ps.length)(v:Int):ps.getD (tkr (evn ps ps v) (1,(ps.length:Int)) od).toNat 0=if v∈ps then v else ps.getD x.toNat 0:=by
 unfold evn
 by_cases c:v∈ps
 ·rw[if_pos c,if_pos c]
  exact own_tkr o (by show(0:Int)<1;decide) (by show(1:Int)<=(ps.length:Int);omega) c
 ·rw[if_neg c,if_neg c]
  have:tkr (ps.map fun _=>((1:Int),(ps.length:Int))) (1,(ps.length:Int)) od=x:=by
   refine tkr_head (r:=r) ?_
   rw[<- e]
   refine List.filter_eq_self.mpr fun a ha=>?_
   obtain⟨a0,a1⟩:=o.mem.mp ha
   rw[row_at a0 a1,Rnd.ltF_irrefl]
   rfl
  rw[this]
theorem own_mem{n:Nat}{ps ows:List Int}(h:OwnOk n ps ows)(n0:0<n):(∀ f∈(ows.map (ind ps)).flatten,f=(1,1)\/f=(0,1))/\((1:Int),(1:Int))∈(ows.map (ind ps)).flatten:=by
 constructor
 ·intro f hf
  obtain⟨row,hr,hf⟩:=List.mem_flatten.mp hf
  obtain⟨v,_,rfl⟩:=zAR.mp hr
  obtain⟨p,_,rfl⟩:=zAR.mp hf
  by_cases c:p=v
  ·exact .inl (by rw[if_pos c])
  ·exact .inr (by rw[if_neg c])
 ·have h0:0<ows.length:=by rw[h.len];exact n0
  refine List.mem_flatten.mpr ⟨ind ps ows[0],zAR.mpr ⟨_,zX h0,rfl⟩,zAR.mpr ⟨ows[0],h.mem _ (zX h0),by rw[if_pos rfl]⟩⟩
theorem own_frR{n:Nat}{ps ows:List Int}(h:OwnOk n ps ows)(n0:0<n)(n30:n<=30)(m6:ps.length<=6):FrR (ows.map (ind ps)):=by
 obtain⟨h1,h2⟩:=own_mem h n0
 have so:=rows_ok (R:=ows.map (ind ps)) (by rw[zB];exact h.len) own_fk n30 m6
 refine⟨fun f hf=>?_,fun f hf=>?_,?_,h2,fun f hf f0=>?_,by rw[so.len];exact so.nb,fun r hr=>by rw[so.row r hr];exact so.mb⟩
 ·rcases h1 f hf with rfl | rfl
  ·exact⟨by show(0:Int)<1;decide,by decide⟩
  ·exact⟨by show(0:Int)<1;decide,by decide⟩
 ·obtain⟨row,hr,hf⟩:=List.mem_flatten.mp hf
  exact⟨((own_fk row hr).2 f hf).t,((own_fk row hr).2 f hf).b⟩
 ·rw[flat_len fun r hr=>(own_fk r hr).1,so.len]
  exact Nat.mul_le_mul m6 n30
 ·rcases h1 f hf with e | e
  ·exact e
  ·rw[e]at f0;exact absurd f0 (by decide)
theorem wSum_rg{n:Nat}{ties:List Tie}{ows:List Int}(ok:∀ x∈ties,TieOk n x)(l:ties.length<=120):0<=wSum ows ties/\wSum ows ties<=120 * 1073741824:=by
 have:∀ ts:List Tie,(∀ x∈ts,TieOk n x)->0<=(ts.map (·.2.2)).sum/\(ts.map (·.2.2)).sum<=ts.length * 1073741824:=by
  intro ts
  induction ts with
  |nil=>exact fun _=>⟨Int.le_refl _,by show(0:Int)<=0 * _;lia⟩
  |cons x ts ih =>
   intro h
   obtain⟨a,b⟩:=ih fun y hy=>h y (zY _ hy)
   obtain⟨_,_,_,o4,o5⟩:=h x (zT ..)
   rw[zAI,List.sum_cons,zBD]
   exact zfk a b o4 o5
 obtain⟨a,b⟩:=this (ties.filter (dif ows)) fun x hx=>ok x (zCF.mp hx).1
 have:=List.length_filter_le (dif ows) ties
 unfold wSum
 lia
open PySem L2 PyProof.Rows
open Rnd (ltF tkr uq uqs Lo)
noncomputable def dtP(x:Tie):Dt:=.tup [.int x.1,.int x.2.1]
theorem dat_cut{H:Hp}{l:Addr}{as:List Addr}{ts:List Tie}(h:H l=some (.lst (as.map V.ref)))(p:PairT H as ts)(le:ts.length<=1000)(n:Nat):Dat H (n+2) (.ref l) (.lst (ts.map dtP)):=by
 have e:=p.length
 refine⟨l,_,rfl,by rw[zB];lia,h,?_⟩
 clear e h le
 unfold PairT at p
 induction p with
 |nil=>exact .nil
 |cons a _ ih=>exact .cons ⟨_,_,rfl,(by show 2<=1000;decide),a,.cons (dat_int1 n) (.cons (dat_int1 n) .nil)⟩ ih
structure Told(H:Hp)(r:Addr)(ties:List Tie)(ps ows:List Int):Prop where
 ex:Ex5 fun(cu od ta:Addr) (as:List Addr) (o:List Int)=>H r=some (.tup [.int (wSum ows ties),.ref cu,.ref od,.ref ta])/\H cu=some (.lst (as.map V.ref))/\PairT H as (ties.filter (dif ows))/\H od=some (.lst (o.map V.int))/\OdP ps.length o/\H ta=some (frO (1,1))
structure Wd(H:Hp)(t q:Addr)(n:Nat)(ties:List Tie)(ps:List Int):Prop where
 web:WebAt H t n ties
 ok:∀ x∈ties,TieOk n x
 pw:ties.Pairwise tieLt
 n30:n<=30
 hq:H q=some (.lst (ps.map V.int))
 po:PostOk n ps
theorem Wd.same{H H':Hp}{t q:Addr}{n:Nat}{ties:List Tie}{ps:List Int}(w:Wd H t q n ties ps)(s:Same H H'):Wd H' t q n ties ps:=⟨w.web.same s,w.ok,w.pw,w.n30,s _ _ w.hq,w.po⟩
inductive spSrI(vs:List V)(H:Hp)(Q:VK):Prop where
 |mk (t q o r:Addr) (n:Nat) (ties:List Tie) (ps ows:List Int) (h1:vs=[.ref t,.ref q,.ref o,.ref r]) (h2:Wd H t q n ties ps) (h3:OwnOk n ps ows) (h4:RowsAt H false o (ows.map (ind ps))) (h5:Told H r ties ps ows) (h6:∀ H',Same H H'->Q (.bl true) H')
noncomputable def spSr:Sp:=fun vs H Q _=>spSrI vs H Q
section
variable{P:Program}{w:World}{K:PySem.W.Frag}{mg:Str->Option Value}{base:Heap}
noncomputable abbrev nSr:List Str:=["web","posts","shares","told","weight","cut","order","threshold","many","top","below"]
theorem scSr:FnScope nSr ["web","posts","shares","told"] (defScope sShowsRounded):=⟨rfl,rfl,rfl,by decide +kernel,rfl,by decide +kernel,by decide +kernel⟩
theorem ok_sr{f g1 g2 g3 g4 g5 g6 g7 g8 g9:Addr}{fd d1 d2 d3 d4 d5 d6 d7 d8 d9:FuncData}(F:Fun K "shows_rounded" "shows_rounded" sShowsRounded f fd)(T:Txt mg)(GT:CalF P w K mg base 1 "is_tuple_of" ["thing","many"] spIt g1 d1)(GN:CalF P w K mg base 1 "is_number" ["thing"] spNu g2 d2)(GC:CalF P w K mg base 3 "is_cut" ["web","thing"] spIc g3 d3)(GO:CalF P w K mg base 3 "is_order_of" ["many","thing"] spIor g4 d4)(GH:CalF P w K mg base 4 "is_threshold" ["thing"] spIth g5 d5)(GB:CalF P w K mg base 1 "cut_by" ["web","owners"] spCb g6 d6)(GW:CalF P w K mg base 3 "owners_by" ["posts","shares","order","threshold"] spObQ g7 d7)(GG:CalF P w K mg base 2 "weight_of" ["web","cut"] spWg g8 d8)(GS:CalF P w K mg base 3 "cost_of" ["web","shares"] (spCo K) g9 d9):FnOk P w K mg base CX0 5 f fd ["web","posts","shares","told"] spSr:=by
 refine F.ok scSr (fun vs H Q E h=>?_) (fun cdv A outer s H vs Q E hr h=>?_)
 ·obtain⟨t,q,o,r,n,ties,ps,ows,rfl,_⟩:=h
  rfl
 ·obtain⟨t,q,o,r,n,ties,ps,ows',rfl,W,oo,RA,⟨cu,od,ta,as,o',gr,gc,pc,gd,op,gt⟩,fin⟩:=h
  have hr1:Room 1 _:=hr.mono (by decide)
  have hr2:Room 2 _:=hr.mono (by decide)
  have hr3:Room 3 _:=hr.mono (by decide)
  have hr4:Room 4 _:=hr
  have hu64:=L2.hu64 hr
  have m6:=W.po.hi
  have m2:=W.po.lo
  have tl:=W.web.len
  have fl:(ties.filter (dif ows')).length<=120:=zC (List.length_filter_le ..) tl
  have sub:∀ x∈ties.filter (dif ows'),x∈ties:=fun x hx=>(zCF.mp hx).1
  have so:=rows_ok (R:=ows'.map (ind ps)) (by rw[zB];exact oo.len) own_fk W.n30 m6
  refine⟨_,(pss_cons (ps_if (pt_not (pt_val (pe_call GT.ok hr1 rfl GT.mg GT.kp GT.bd .nil pass0 (@pa_nam _ _ _ _ _ _ (pv 3) (@pa_cst _ _ _ _ _ _ _ pe_int pa_nil))))) pss_never pss_nil)
   (pss_cons (ps_asg (pv 3) (pg_tup (n:=4) rfl (pgs_cons (pg_name (i:=4) scSr.nd rfl (Or.inl rfl)) (pgs_cons (pg_name (i:=5) scSr.nd rfl (Or.inl rfl)) (pgs_cons (pg_name (i:=6) scSr.nd rfl (Or.inl rfl)) (pgs_cons (pg_name (i:=7) scSr.nd rfl (Or.inl rfl)) pgs_nil))))))
   (pss_cons (ps_if (PW.pt (pw_or (pt_not (pt_val (pe_call GN.ok hr1 rfl GN.mg GN.kp GN.bd .nil pass0 (@pa_nam _ _ _ _ _ _ (pv 4) pa_nil)))) (pw_or1 (pt_not (pt_val (pe_call GC.ok hr3 rfl GC.mg GC.kp GC.bd .nil pass0 (@pa_nam _ _ _ _ _ _ (pv 0) (@pa_nam _ _ _ _ _ _ (pv 5) pa_nil)))))))) pss_never pss_nil)
   (pss_cons (ps_if (PW.pt (pw_or (pt_not (pt_val (pe_call GO.ok hr3 rfl GO.mg GO.kp GO.bd .nil pass0 (@pa_call _ _ _ _ _ _ _ _ (pe_callB call_lenH (by rfl) T.len PySem.boot_len (@pa_nam _ _ _ _ _ _ (pv 1) pa_nil)) (@pa_nam _ _ _ _ _ _ (pv 6) pa_nil))))) (pw_or1 (pt_not (pt_val (pe_call GH.ok hr4 rfl GH.mg GH.kp GH.bd .nil pass0 (@pa_nam _ _ _ _ _ _ (pv 7) pa_nil))))))) pss_never pss_nil)
   (pss_cons (ps_if (PW.pt (pw_or (pt_cmpR (op_neS hu64) (pe_callTy (call_listH false) (by rfl) T.list boot_list (@pa_nam _ _ _ _ _ _ (pv 5) pa_nil)) (pe_call GB.ok hr1 rfl GB.mg GB.kp GB.bd .nil pass0 (@pa_nam _ _ _ _ _ _ (pv 0) (@pa_call _ _ _ _ _ _ _ _ (pe_call GW.ok hr3 rfl GW.mg GW.kp GW.bd .nil pass0 (@pa_nam _ _ _ _ _ _ (pv 1) (@pa_nam _ _ _ _ _ _ (pv 2) (@pa_nam _ _ _ _ _ _ (pv 6) (@pa_nam _ _ _ _ _ _ (pv 7) pa_nil))))) pa_nil))) (nomark _)) (pw_or1 (pt_cmpR op_ne (pv 4) (pe_call GG.ok hr2 rfl GG.mg GG.kp GG.bd .nil pass0 (@pa_nam _ _ _ _ _ _ (pv 0) (@pa_nam _ _ _ _ _ _ (pv 5) pa_nil))) (nomark _))))) pss_never pss_nil)
   (pss_cons (ps_set (i:=8) scSr.nd rfl (Or.inl rfl) (pe_callB call_lenH (by rfl) T.len PySem.boot_len (@pa_nam _ _ _ _ _ _ (pv 1) pa_nil)))
   (pss_cons (ps_asg (pe_call GS.ok hr3 rfl GS.mg GS.kp GS.bd .nil pass0 (@pa_nam _ _ _ _ _ _ (pv 0) (@pa_nam _ _ _ _ _ _ (pv 2) pa_nil))) (pg_tup (n:=2) rfl (pgs_cons (pg_name (i:=9) scSr.nd rfl (Or.inl rfl)) (pgs_cons (pg_name (i:=10) scSr.nd rfl (Or.inl rfl)) pgs_nil))))
   (pss_one (ps_ret (pe_cmpR op_le (pe_op op_mul (pe_op op_mul (pe_op op_mul pe_int (pv 8)) (pv 4)) (pv 10)) (pe_op op_mul (pe_op op_sub (pe_op op_mul pe_int (pv 8)) pe_int) (pv 9)) (nomark _))))))))))),?_⟩
  refine⟨_,rfl,r,_,4,rfl,gr,_,rfl,iteF ?_⟩
  refine⟨_,rfl,r,_,rfl,SqT.of gr,rfl,_,_,rfl,_,_,rfl,_,_,rfl,_,_,rfl,rfl,?_⟩
  refine⟨_,rfl,_,rfl,_,rfl,iteFd rfl ?_⟩
  refine⟨_,rfl,_,rfl,t,cu,n,ties,_,as,rfl,W.web,W.pw,gc,pc,fl,sub,W.pw.sublist List.filter_sublist,fun H1 s1=>⟨_,rfl,iteF ?_⟩⟩
  refine⟨_,rfl,q,_,rfl,s1 _ _ W.hq,_,rfl,od,ps.length,o',by rw[zB];rfl,s1 _ _ gd,by exact zl1 m6 rfl,op.pm,fun H2 s12=>⟨_,rfl,iteFd rfl ?_⟩⟩
  have s2:=s1.trans s12
  refine⟨_,rfl,ta,(1,1),rfl,s2 _ _ gt,by decide,by decide,by decide,fun H3 s23=>⟨_,rfl,iteF ?_⟩⟩
  have s3:=s2.trans s23
  refine⟨_,rfl,cu,_,rfl,s3 _ _ gc,fun l1 hl1=>?_⟩
  have s4:=s3.trans (Same.new (o:=.lst (as.map V.ref)) hl1)
  have g4:(upd H3 l1 (.lst (as.map V.ref))) l1=some (.lst (as.map V.ref)):=upd_same
  generalize (upd H3 l1 (.lst (as.map V.ref)))=H4 at s4 g4
  have W4:=W.same s4
  refine⟨_,rfl,_,rfl,_,rfl,_,rfl,_,rfl,false,q,o,od,ta,ps,_,o',(1,1),rfl,W4.hq,RA.same s4,s4 _ _ gd,s4 _ _ gt,fk_rw own_fk,by rw[so.len];exact so.nb,op.ok (by exact zj2 m2) m6,(fit16 (by decide)).mono (by decide),(fit16 (by decide)).mono (by decide),fun u H5 gu s45=>?_⟩
  rw[own_ows oo op (by decide) (by decide)]at gu
  have W5:=W4.same s45
  refine⟨t,u,n,ties,ows',rfl,W5.web,W.ok,gu,oo.len,fun l2 cs H6 _ g6 p6 s56=>?_⟩
  have s46:=s45.trans s56
  have s6:=s4.trans s46
  refine⟨1,.lst ((ties.filter (dif ows')).map dtP),dat_cut (s46 _ _ g4) (pc.same s6) (by exact zl1 fl rfl) 0,dat_cut g6 p6 (by exact zl1 fl rfl) 0,rfl,by decide,_,rfl,iteF ?_⟩
  have W6:=W5.same s56
  refine⟨_,rfl,_,rfl,_,rfl,t,cu,n,ties,_,as,rfl,W6.web,W.pw,s6 _ _ gc,pc.same s6,fl,sub,fun H7 s67=>⟨rfl,_,rfl,?_⟩⟩
  have ew:decide (V.int (wSum ows' ties)=V.int ((ties.filter (dif ows')).map (·.2.2)).sum)=true:=decide_eq_true rfl
  rw[ew]
  refine iteF ?_
  have W7:=W6.same s67
  have s7:=s6.trans s67
  refine⟨_,rfl,q,_,rfl,W7.hq,?_⟩
  refine⟨_,rfl,_,rfl,t,o,n,ps.length,16,2880,ties,false,_,rfl,W7.web,W.ok,(RA.same s7).k,so,fun c H8 gc8 s78=>?_⟩
  rw[own_cost W.po.nd oo W.ok W.n30 m6]at gc8
  have gc8:H8 c=some (.tup [.int (wSum ows' ties),.int 1]):=gc8
  refine⟨c,_,rfl,SqT.of gc8,rfl,_,_,rfl,_,_,rfl,rfl,?_⟩
  obtain⟨w0,w1⟩:=wSum_rg (ows:=ows') W.ok tl
  rw[zB]
  refine⟨_,rfl,_,_,rfl,rfl,.inl ⟨by decide,by decide⟩,_,rfl,_,_,rfl,rfl,.inl ⟨by exact zfv m6 m2,by omega⟩,_,rfl,_,_,rfl,rfl,.inr ⟨by decide,by decide⟩,_,rfl,_,_,rfl,rfl,.inl ⟨by decide,by decide⟩,_,_,rfl,rfl,_,rfl,_,_,rfl,rfl,.inl ⟨by exact ziw m6 m2,by exact zje m6 m2⟩,_,_,rfl,rfl,?_⟩
  generalize wSum ows' ties=z at *
  have:=Int.mul_le_mul_of_nonneg_right (show 2 * (ps.length:Int)<=3 * (ps.length:Int)-2 by omega) w0
  show Q (V.bl (decide (2 * (ps.length:Int) * z * 1<=(3 * (ps.length:Int)-2) * z))) _
  rw[show decide (2 * (ps.length:Int) * z * 1<=(3 * (ps.length:Int)-2) * z)=true from decide_eq_true (by rw[Int.mul_one];exact this)]
  exact fin _ (s7.trans s78)
end
open PySem L2 PyProof.Rows
open Rnd (ltF tkr uq uqs Lo)
theorem inV_dec(z:Int)(ns:List Int):inV (V.int z) (ns.map V.int)=decide (z∈ns):=by
 rw[inV_ints]
 exact Bool.eq_iff_iff.mpr (by rw[List.contains_iff_mem,decide_eq_true_iff])
theorem WebAt.keptB{p:Addr}{H H':Hp}{t:Addr}{n N:Nat}{ties:List Tie}(W:WebAt H t n ties)(B:BoxAt H p N)(k:Kept p H H'):WebAt H' t n ties:=by
 obtain⟨a,b,c,e,_⟩:=B
 have ne:∀ {x:Addr}{xs:List V},H x=some (.tup xs)->H' x=some (.tup xs):=fun {x xs} h=>k _ _ (fun z=>by rw[z,e]at h;cases h) h
 obtain⟨⟨ts,as,h1,h2,h3⟩,l⟩:=W
 exact⟨⟨ts,as,ne h1,ne h2,Paired.mapP h3 fun _ _ z=>ne z⟩,l⟩
theorem Wd.kept{p:Addr}{H H':Hp}{t q:Addr}{n N:Nat}{ties:List Tie}{ps:List Int}(w:Wd H t q n ties ps)(B:BoxAt H p N)(k:Kept p H H')(qp:q≠p):Wd H' t q n ties ps:=⟨w.web.keptB B k,w.ok,w.pw,w.n30,k _ _ qp w.hq,w.po⟩
theorem oth_ord{m k:Nat}(h:k<m):(oth m k++[(k:Int)]).Perm (upto m):=by
 refine(List.perm_ext_iff_of_nodup ?_ (upto_nodup m)).mpr fun a=>?_
 ·rw[List.nodup_append]
  refine⟨(upto_nodup m).sublist List.filter_sublist,by simp,fun x hx y hy=>?_⟩
  rw[zZ.mp hy]
  unfold oth at hx
  have:=(zCF.mp hx).2
  intro e
  rw[e]at this
  simp at this
 ·rw[zAD,zZ]
  unfold oth
  rw[zCF]
  have km:(k:Int)∈upto m:=by unfold upto;exact zAR.mpr ⟨k,zCP.mpr h,rfl⟩
  by_cases e:a=(k:Int)
  ·rw[e];exact⟨fun _=>km,fun _=>.inr rfl⟩
  ·rw[decide_eq_false e]
   exact⟨fun z=>z.elim (fun y=>y.1) (fun y=>absurd y e),fun z=>.inl ⟨z,rfl⟩⟩
theorem od1_ord{m k:Nat}(h:k<m):OdP m (od1 m k):=⟨oth_ord h⟩
theorem od2_ord{m k:Nat}(h:k<m):OdP m (od2 m k):=⟨((List.reverse_perm _).append_right _).trans (oth_ord h)⟩
theorem best_one{W:Cn->Int}{o o':List Int}{th:Int×Int}:∃ x,best W [o,o'] [th]=some (x,th)/\(x=o\/x=o'):=by
 show ∃ x,(if W (o',th)<W (o,th)then some (o',th)else some (o,th))=some (x,th)/\_
 by_cases c:W (o',th)<W (o,th)
 ·exact⟨o',if_pos c,.inr rfl⟩
 ·exact⟨o,if_neg c,.inl rfl⟩
noncomputable def dtF(f:Int×Int):Dt:=.tup [.int f.1,.int f.2]
theorem dat_fr{H:Hp}{c:Addr}{f:Int×Int}(n:Nat)(h:H c=some (frO f)):Dat H (n+1) (.ref c) (dtF f):=⟨c,_,rfl,(by show 2<=1000;decide),h,.cons (dat_int1 n) (.cons (dat_int1 n) .nil)⟩
inductive spOwI(vs:List V)(H:Hp)(Q:VK):Prop where
 |mk (p t q:Addr) (n N:Nat) (ties:List Tie) (ps:List Int) (h1:vs=[.ref p,.ref t,.ref q]) (h2:BoxAt H p N) (h3:N+100<2 ^ 40) (h4:Wd H t q n ties ps) (h5:q≠p) (h6:∀ (o:Addr) (us:List Int) (H':Hp),H' o=some (.tup (us.map V.int))->OwnOk n ps us->BoxAt H' p (N+30)->Kept p H H'->Q (.ref o) H')
noncomputable def spOw:Sp:=fun vs H Q _=>spOwI vs H Q
inductive spOrrI(gA gN:Addr)(vs:List V)(H:Hp)(Q:VK):Prop where
 |mk (t q o d th:Addr) (n:Nat) (ties:List Tie) (ps us od:List Int) (f:Int×Int) (h1:vs=[.ref t,.ref q,.ref o,.ref d,.ref th]) (h2:Wd H t q n ties ps) (h3:0<n) (h4:H o=some (.tup (us.map V.int))) (h5:OwnOk n ps us) (h6:H d=some (.lst (od.map V.int))) (h7:OdP ps.length od) (h8:H th=some (frO f)) (h9:0<f.1) (h10:f.1<=f.2) (h11:fitsB 100 f.1) (h12:fitsB 100 f.2) (h13:FrT H gA (1,1)) (h14:FrT H gN (0,1)) (h15:∀ H',Same H H'->Q (.bl true) H')
noncomputable def spOrr(gA gN:Addr):Sp:=fun vs H Q _=>spOrrI gA gN vs H Q
section
variable{P:Program}{w:World}{K:PySem.W.Frag}{mg:Str->Option Value}{base:Heap}{gA gN:Addr}
noncomputable abbrev nOw:List Str:=["_law_box_here","_law_web_here","_law_posts_here","_law_owners"]
theorem scOw:FnScope nOw ["_law_box_here","_law_web_here","_law_posts_here"] (defScope sOwned):=⟨rfl,rfl,rfl,by decide +kernel,rfl,by decide +kernel,by decide +kernel⟩
theorem csOw1:CompScope ["_law_place","_law_posts_here","_law_box_here"] [none,some 2,some 0] nOw (defScope sOwned) (scO [(".0",.local),("_law_place",.local),("_law_take",.globalImplicit),("len",.globalImplicit),("_law_box_here",.free),("_law_posts_here",.free)]):=⟨rfl,by decide +kernel,by decide +kernel,by decide +kernel,rfl,capB_ok (by decide +kernel)⟩
theorem ndOw1:(["_law_place","_law_posts_here","_law_box_here"]:List Str).Nodup:=by decide +kernel
theorem csOw2:CompScope ["_law_place","_law_posts_here","_law_owners"] [none,some 2,some 3] nOw (defScope sOwned) (scO [(".0",.local),("_law_place",.local),("_law_owners",.free),("_law_posts_here",.free)]):=⟨rfl,by decide +kernel,by decide +kernel,by decide +kernel,rfl,capB_ok (by decide +kernel)⟩
theorem ndOw2:(["_law_place","_law_posts_here","_law_owners"]:List Str).Nodup:=by decide +kernel
theorem ok_ow{f g:Addr}{fd gd:FuncData}(F:Fun K "_law_owned" "_law_owned" sOwned f fd)(T:Txt mg)(G:TakeF P w K mg base g gd):FnOk P w K mg base CX0 2 f fd ["_law_box_here","_law_web_here","_law_posts_here"] spOw:=by
 refine F.ok scOw (fun vs H Q E h=>?_) (fun cdv A outer s H vs Q E hr h=>?_)
 ·obtain⟨p,t,q,n,N,ties,ps,rfl,_⟩:=h
  rfl
 ·obtain⟨p,t,q,n,N,ties,ps,rfl,B,hN,W,qp,fin⟩:=h
  have hr1:Room 1 _:=hr
  have n30:=W.n30
  have m6:=W.po.hi
  have m2:=W.po.lo
  obtain⟨⟨ts,bs,h1,h2,h3⟩,len⟩:=id W.web
  have tp:t≠p:=fun z=>by
   obtain⟨x,y,w,e,_⟩:=B
   rw[z,e]at h1;cases h1
  refine⟨_,(pss_cons (ps_set (i:=3) scOw.nd rfl (Or.inr rfl) (pe_comp rfl csOw1 (pi_range1 rfl T.range (@pa_sub _ _ _ _ _ _ _ (@pe_ix _ _ _ _ _ _ _ ix_tupH (pvQ 1) pe_int (fun _ _=>rfl)) pa_nil)) (fun C s H fp=>(pg_name (i:=0) ndOw1 rfl (Or.inl rfl))) (fun C s H fp=>pf_nil) (fun C s H fp=>(@pe_ix _ _ _ _ _ _ _ ix_listH (pvQ 1) (pe_call G.ok hr1 rfl G.mg G.kp G.bd .nil pass0 (@pa_nam _ _ _ _ _ _ (pvQ 2) (@pa_call _ _ _ _ _ _ _ _ (pe_callB call_lenH (by rfl) T.len PySem.boot_len (@pa_nam _ _ _ _ _ _ (pvQ 1) pa_nil)) pa_nil))) (fun _ _=>rfl)))))
   (pss_one (ps_ret (pe_callTy call_tupleH (by rfl) T.tuple boot_tuple (@pa_comp _ _ _ _ _ _ _ _ (pe_comp rfl csOw2 (pi_range1 rfl T.range (@pa_sub _ _ _ _ _ _ _ (@pe_ix _ _ _ _ _ _ _ ix_tupH (pvQ 1) pe_int (fun _ _=>rfl)) pa_nil)) (fun C s H fp=>(pg_name (i:=0) ndOw2 rfl (Or.inl rfl))) (fun C s H fp=>pf_nil) (fun C s H fp=>(pe_ifExp (pt_cmpR op_inH (pvQ 0) (pvQ 1) rfl) (pvQ 0) (@pe_ix _ _ _ _ _ _ _ ix_listH (pvQ 2) (pvQ 0) (fun _ _=>rfl))))) pa_nil))))),?_⟩
  refine⟨t,_,_,_,rfl,rfl,h1,rfl,(n:Int),rfl,by exact zh1,by exact zm2 n30 rfl,?_⟩
  rw[show((n:Int)).toNat=n by exact zAQ n]
  refine comp_range (lo:=0) (n:=n) (fun j ys G=>Wd G t q n ties ps/\BoxAt G p (N+j)/\Kept p H G/\∃ os:List Int,ys=os.map V.int/\os.length=j/\∀ x∈os,x∈ps) (by rw[sizeLine_eq];exact zl1 n30 rfl) ⟨W,B,Kept.refl,[],rfl,rfl,fun _ h=>nomatch h⟩ ?_ ?_
  ·rintro j ys G hj ⟨WG,BG,kG,os,rfl,ol,om⟩
   refine⟨⟨rfl,rfl,trivial⟩,tTru_if ⟨q,_,rfl,WG.hq,p,_,_,rfl,BG,by exact zfq hN n30 hj ol,by rw[zB];exact zhl m6 m2,by rw[zB];exact ziv m6 m2,fun z G2 z0 z1 B2 k2=>?_⟩⟩
   rw[zB]at z1
   obtain⟨k,rfl⟩:∃ k:Nat,z=(k:Int):=⟨z.toNat,by exact zh3 z0⟩
   have kl:k<ps.length:=by exact zi3 z1
   have W2:=WG.kept BG k2 qp
   refine⟨q,_,_,_,rfl,rfl,W2.hq,atI_nat (v:=V.int ps[k]) (by rw[zAJ,zF kl];rfl),W2,B2,kG.trans k2,os++[ps[k]],by rw[zU];rfl,by rw[zAC,ol];rfl,fun x hx=>?_⟩
   rcases zAD.mp hx with hx | hx
   ·exact om x hx
   ·rw[zZ.mp hx];exact zX kl
  rintro ys G yl ⟨WG,BG,kG,os,rfl,ol,om⟩ ow how
  have sO:=Same.new (o:=.lst (os.map V.int)) how
  have gow:(upd G ow (.lst (os.map V.int))) ow=some (.lst (os.map V.int)):=upd_same
  have W4:=WG.same sO
  have B4:=BG.same sO
  have h1':=sO _ _ (kG _ _ tp h1)
  have k4:Kept p H (upd G ow (.lst (os.map V.int))):=fun b o nb e=>sO _ _ (kG b o nb e)
  generalize (upd G ow (.lst (os.map V.int)))=H4 at *
  refine⟨t,_,_,_,rfl,rfl,h1',rfl,(n:Int),rfl,by exact zh1,by exact zm2 n30 rfl,?_⟩
  rw[show((n:Int)).toNat=n by exact zAQ n]
  refine comp_range (lo:=0) (n:=n) (fun j ys G=>Same H4 G/\∃ us:List Int,ys=us.map V.int/\us.length=j/\∀ x∈us,x∈ps) (by rw[sizeLine_eq];exact zl1 n30 rfl) ⟨Same.refl _,[],rfl,rfl,fun _ h=>nomatch h⟩ ?_ ?_
  ·rintro j ys G5 hj ⟨s5,us,rfl,ul,um⟩
   rw[show(0:Int)+(j:Int)=(j:Int) by exact zgs]
   refine⟨⟨rfl,rfl,trivial⟩,tTru_if ⟨q,_,rfl,s5 _ _ W4.hq,rfl,flat_ints _,_,rfl,ite2 (fun hc=>?_) (fun hc=>?_)⟩⟩
   ·have hm:(j:Int)∈ps:=by
     have:inV (V.int (j:Int)) (ps.map V.int)=true:=hc
     rw[inV_dec]at this
     exact of_decide_eq_true this
    refine⟨s5,us++[(j:Int)],by rw[zU];rfl,by rw[zAC,ul];rfl,fun x hx=>?_⟩
    rcases zAD.mp hx with hx | hx
    ·exact um x hx
    ·rw[zZ.mp hx];exact hm
   ·have jl:j<os.length:=by exact zh8 hj ol
    refine⟨ow,_,_,_,rfl,rfl,s5 _ _ gow,atI_nat (v:=V.int os[j]) (by rw[zAJ,zF jl];rfl),s5,us++[os[j]],by rw[zU];rfl,by rw[zAC,ul];rfl,fun x hx=>?_⟩
    rcases zAD.mp hx with hx | hx
    ·exact um x hx
    ·rw[zZ.mp hx];exact om _ (zX jl)
  rintro ys G5 yl' ⟨s5,us,rfl,ul,um⟩ D hD
  refine⟨D,_,rfl,upd_same,fun ot hot=>?_⟩
  have s6:=s5.trans ((Same.new (o:=.lst (us.map V.int)) hD).trans (Same.new (o:=.tup (us.map V.int)) hot))
  exact fin ot us _ upd_same ⟨by exact ul,um⟩ ((B4.same s6).mono (by exact zho n30 ol ul)) fun b o nb e=>s6 _ _ (k4 b o nb e)
noncomputable abbrev nOr:List Str:=["_law_web_here","_law_posts_here","_law_owners","_law_order","_law_threshold","_law_shares","_law_told","_law_cut"]
theorem scOr:FnScope nOr ["_law_web_here","_law_posts_here","_law_owners","_law_order","_law_threshold"] (defScope sOwnersRight):=⟨rfl,rfl,rfl,by decide +kernel,rfl,by decide +kernel,by decide +kernel⟩
theorem ok_orr{f g1 g2 g3 g4 g5 g6 g7:Addr}{fd d1 d2 d3 d4 d5 d6 d7:FuncData}(F:Fun K "_law_owners_right" "_law_owners_right" sOwnersRight f fd)(GS:CalF P w K mg base 1 "shares_by" ["posts","owners"] (spSb gA gN) g1 d1)(GT:CalF P w K mg base 3 "thresholds" ["shares"] spThQ g2 d2)(GO:CalF P w K mg base 3 "owners_by" ["posts","shares","order","threshold"] spObQ g3 d3)(GR:CalF P w K mg base 5 "rounded" ["web","posts","shares"] spRd g4 d4)(GC:CalF P w K mg base 1 "cut_by" ["web","owners"] spCb g5 d5)(GW:CalF P w K mg base 2 "weight_of" ["web","cut"] spWg g6 d6)(GH:CalF P w K mg base 5 "shows_rounded" ["web","posts","shares","told"] spSr g7 d7):FnOk P w K mg base CX0 6 f fd ["_law_web_here","_law_posts_here","_law_owners","_law_order","_law_threshold"] (spOrr gA gN):=by
 refine F.ok scOr (fun vs H Q E h=>?_) (fun cdv A outer s H vs Q E hr h=>?_)
 ·obtain⟨t,q,o,d,th,n,ties,ps,us,od,f,rfl,_⟩:=h
  rfl
 ·obtain⟨t,q,o,d,th,n,ties,ps,us,od,f,rfl,W,n0,ho,oo,hd,op,ht,f0,f1,ff,fg,hA,hN,fin⟩:=h
  have hr1:Room 1 _:=hr.mono (by decide)
  have hr2:Room 2 _:=hr.mono (by decide)
  have hr3:Room 3 _:=hr.mono (by decide)
  have hr5:Room 5 _:=hr
  have hu64:=L2.hu64 hr
  have n30:=W.n30
  have m6:=W.po.hi
  have m2:=W.po.lo
  have ol:=oo.len
  have so:=rows_ok (R:=us.map (ind ps)) (by rw[zB];exact oo.len) own_fk n30 m6
  have fr:=own_frR oo n0 n30 m6
  have rwk:=fk_rw (own_fk (ps:=ps) (ows:=us))
  have len:=W.web.len
  refine⟨_,(pss_cons (ps_set (i:=5) scOr.nd rfl (Or.inl rfl) (pe_call GS.ok hr1 rfl GS.mg GS.kp GS.bd .nil pass0 (@pa_nam _ _ _ _ _ _ (pvQ 1) (@pa_nam _ _ _ _ _ _ (pvQ 2) pa_nil))))
   (pss_cons (ps_if (PW.pt (pw_or (pt_cmpR (op_neS hu64) (pe_call GT.ok hr3 rfl GT.mg GT.kp GT.bd .nil pass0 (@pa_nam _ _ _ _ _ _ (pvQ 5) pa_nil)) (@pe_lst _ _ _ _ (@pa_tup _ _ _ _ _ _ _ (@pe_tup _ _ _ _ _ (@pa_cst _ _ _ _ _ _ _ pe_int (@pa_cst _ _ _ _ _ _ _ pe_int pa_nil))) pa_nil)) (nomark _)) (pw_or1 (pt_cmpR (op_neS hu64) (pe_call GO.ok hr3 rfl GO.mg GO.kp GO.bd .nil pass0 (@pa_nam _ _ _ _ _ _ (pvQ 1) (@pa_nam _ _ _ _ _ _ (pvQ 5) (@pa_nam _ _ _ _ _ _ (pvQ 3) (@pa_nam _ _ _ _ _ _ (pvQ 4) pa_nil))))) (pvQ 2) (nomark _))))) pss_never pss_nil)
   (pss_cons (ps_set (i:=6) scOr.nd rfl (Or.inl rfl) (pe_call GR.ok hr5 rfl GR.mg GR.kp GR.bd .nil pass0 (@pa_nam _ _ _ _ _ _ (pvQ 0) (@pa_nam _ _ _ _ _ _ (pvQ 1) (@pa_nam _ _ _ _ _ _ (pvQ 5) pa_nil)))))
   (pss_cons (ps_set (i:=7) scOr.nd rfl (Or.inl rfl) (pe_call GC.ok hr1 rfl GC.mg GC.kp GC.bd .nil pass0 (@pa_nam _ _ _ _ _ _ (pvQ 0) (@pa_nam _ _ _ _ _ _ (pvQ 2) pa_nil))))
   (pss_one (ps_ret (pe_and (pe_cmpR (op_eqS hu64) (pe_slice sl_tupA (pvQ 6) po_none (po_some pe_int)) (@pe_tup _ _ _ _ _ (@pa_call _ _ _ _ _ _ _ _ (pe_call GW.ok hr2 rfl GW.mg GW.kp GW.bd .nil pass0 (@pa_nam _ _ _ _ _ _ (pvQ 0) (@pa_nam _ _ _ _ _ _ (pvQ 7) pa_nil))) (@pa_nam _ _ _ _ _ _ (pvQ 7) pa_nil))) (nomark _)) (pe_one (pe_call GH.ok hr5 rfl GH.mg GH.kp GH.bd .nil pass0 (@pa_nam _ _ _ _ _ _ (pvQ 0) (@pa_nam _ _ _ _ _ _ (pvQ 1) (@pa_nam _ _ _ _ _ _ (pvQ 5) (@pa_nam _ _ _ _ _ _ (pvQ 6) pa_nil))))))))))))),?_⟩
  refine⟨q,o,true,ps,us,rfl,W.hq,ho,by exact zl1 m6 rfl,by exact zh9 (zl1 n30 rfl) ol,hA,hN,fun v H1 fd1 s1=>?_⟩
  obtain⟨sh,as,rfl,_,gsh,pas,_⟩:=fd1
  have RA:RowsAt H1 false sh (us.map (ind ps)):=⟨as,gsh,pas⟩
  have W1:=W.same s1
  refine⟨false,sh,_,rfl,RA,fr,fun l H2 hl fL s12=>?_⟩
  obtain⟨ts,gl,pl⟩:=fL
  refine⟨(by show 2<=sizeLine;decide),fun e1 he1=>⟨(by show 1<=sizeLine;decide),fun e2 he2=>?_⟩⟩
  have sl:Same H1 (upd (upd H2 e1 (.tup [V.int 1,V.int 1])) e2 (.lst [V.ref e1])):=s12.trans ((Same.new he1).trans (Same.new he2))
  have g2:(upd (upd H2 e1 (.tup [V.int 1,V.int 1])) e2 (.lst [V.ref e1])) e2=some (.lst [V.ref e1]):=upd_same
  have g1:(upd (upd H2 e1 (.tup [V.int 1,V.int 1])) e2 (.lst [V.ref e1])) e1=some (frO (1,1)):=(Same.new he2) _ _ upd_same
  have sx:Same H2 (upd (upd H2 e1 (.tup [V.int 1,V.int 1])) e2 (.lst [V.ref e1])):=(Same.new he1).trans (Same.new he2)
  generalize (upd (upd H2 e1 (.tup [V.int 1,V.int 1])) e2 (.lst [V.ref e1]))=H3 at *
  obtain⟨c,rfl⟩:∃ c,ts=[c]:=by
   have e:=pl.length
   match ts,e with
   |[c],_=>exact⟨c,rfl⟩
  have pc:H2 c=some (frO (1,1)):=Paired.at pl 0 Nat.zero_lt_one Nat.zero_lt_one
  refine⟨1,.lst [dtF (1,1)],⟨l,_,rfl,(by show 1<=1000;decide),sx _ _ gl,.cons (dat_fr 0 (sx _ _ pc)) .nil⟩,⟨e2,_,rfl,(by show 1<=1000;decide),g2,.cons (dat_fr 0 g1) .nil⟩,rfl,by decide,_,rfl,iteF ?_⟩
  have W3:=W1.same sl
  have s3:=s1.trans sl
  refine⟨false,q,sh,d,th,ps,_,od,f,rfl,W3.hq,RA.same sl,s3 _ _ hd,s3 _ _ ht,rwk,by rw[so.len];exact so.nb,op.ok (by exact zj2 m2) m6,ff,fg,fun u H4 gu s34=>?_⟩
  rw[own_ows oo op f0 f1]at gu
  have s4:=s3.trans s34
  refine⟨0,.tup (us.map Dt.int),dat_tupI gu (by exact zh9 (zl1 n30 rfl) ol) 0,dat_tupI (s4 _ _ ho) (by exact zh9 (zl1 n30 rfl) ol) 0,rfl,by decide,_,rfl,iteF ?_⟩
  have W4:=W3.same s34
  have RA4:=RA.same (sl.trans s34)
  refine⟨false,t,q,sh,n,ties,ps,_,rfl,W4.web,W.ok,W.pw,W4.hq,RA4,so,fr,rwk,by exact zj2 m2,m6,fun v k H5 dr bst s45=>?_⟩
  obtain⟨x,ec,xo⟩:=best_one (W:=wt ties ps (us.map (ind ps))) (o:=od1 ps.length k) (o':=od2 ps.length k) (th:=(1,1))
  rw[ec]at bst
  have km:k<ps.length:=by have:=dr.lt;rw[csts_len]at this;exact this
  have xp:OdP ps.length x:=by
   rcases xo with e | e
   ·rw[e];exact od1_ord km
   ·rw[e];exact od2_ord km
  obtain⟨r,cu,oda,ta,cs,rfl,b1,b2,b3,b4,b5,_⟩:=bst
  have ecut:cutL ties ps (us.map (ind ps)) (x,(1,1))=ties.filter (dif us):=by
   unfold cutL ows
   rw[own_ows (t:=(1,1)) oo xp (by decide) (by decide)]
  have ewt:wt ties ps (us.map (ind ps)) (x,(1,1))=wSum us ties:=by
   unfold wt wSum
   rw[ecut]
  rw[ecut]at b3
  rw[ewt]at b1
  have W5:=W4.same s45
  have s5:=s4.trans s45
  have fl:(ties.filter (dif us)).length<=120:=zC (List.length_filter_le ..) len
  refine⟨t,o,n,ties,us,rfl,W5.web,W.ok,s5 _ _ ho,ol,fun l2 ds H6 _ g6 p6 s56=>?_⟩
  have W6:=W5.same s56
  have s46:=s45.trans s56
  refine⟨2,rfl,r,_,rfl,s56 _ _ b1,fun e3 H7 s67 he3=>?_⟩
  have W7:=W6.same s67
  have s7:=s5.trans (s56.trans s67)
  have he3:H7 e3=some (.tup [V.int (wSum us ties),V.ref cu]):=he3
  refine⟨t,l2,n,ties,_,ds,rfl,W7.web,W.pw,s67 _ _ g6,p6.same s67,fl,fun x hx=>(zCF.mp hx).1,fun H8 s78=>⟨(by show 2<=sizeLine;decide),fun e4 he4=>?_⟩⟩
  have s68:=s67.trans s78
  have s8:=s7.trans s78
  have s58:=s56.trans s68
  have sn:=Same.new (o:=.tup [V.int (wSum us ties),V.ref l2]) he4
  have g4:(upd H8 e4 (.tup [V.int (wSum us ties),V.ref l2])) e4=some (.tup [V.int (wSum us ties),V.ref l2]):=upd_same
  have eG:upd H8 e4 (.tup [V.int ((ties.filter (dif us)).map (·.2.2)).sum,V.ref l2])=upd H8 e4 (.tup [V.int (wSum us ties),V.ref l2]):=rfl
  rw[eG]
  generalize (upd H8 e4 (.tup [V.int (wSum us ties),V.ref l2]))=H9 at *
  have s9:=s8.trans sn
  have s59:=s58.trans sn
  refine⟨2,.tup [.int (wSum us ties),.lst ((ties.filter (dif us)).map dtP)],⟨e3,_,rfl,(by show 2<=1000;decide),(s78.trans sn) _ _ he3,.cons (dat_int1 2) (.cons (dat_cut (s59 _ _ b2) (b3.same s59) (by exact zl1 fl rfl) 0) .nil)⟩,⟨e4,_,rfl,(by show 2<=1000;decide),g4,.cons (dat_int1 2) (.cons (dat_cut ((s68.trans sn) _ _ g6) (p6.same (s68.trans sn)) (by exact zl1 fl rfl) 0) .nil)⟩,rfl,by decide,_,rfl,iteT ?_⟩
  have W9:=W.same s9
  refine⟨t,q,sh,r,n,ties,ps,us,rfl,W9,oo,(RA4.same s45).same s59,⟨cu,oda,ta,cs,x,s59 _ _ b1,s59 _ _ b2,b3.same s59,s59 _ _ b4,xp,s59 _ _ b5⟩,fun H10 s10=>?_⟩
  exact fin _ (s9.trans s10)
end
open PySem L2 PyProof.Rows
open Rnd (ltF tkr uq uqs Lo)
theorem join{D k:Int->Prop}{G:Prop}(h:(∀ x,D x->k x)->G)(j:∀ x,D x->k x):G:=h j
theorem join2{D k:Int->Hp->Prop}{G:Prop}(h:(∀ x H,D x H->k x H)->G)(j:∀ x H,D x H->k x H):G:=h j
inductive spHrI(vs:List V)(H:Hp)(Q:VK):Prop where
 |mk (q o u w d th:Addr) (n:Nat) (ps us ws od:List Int) (f:Int×Int) (h1:vs=[.ref q,.ref o,.ref u,.ref w,.ref d,.ref th]) (h2:n<=30) (h3:H q=some (.lst (ps.map V.int))) (h4:PostOk n ps) (h5:RowsAt H false o (halfR ps us ws)) (h6:H u=some (.tup (us.map V.int))) (h7:OwnOk n ps us) (h8:H w=some (.tup (ws.map V.int))) (h9:OwnOk n ps ws) (h10:H d=some (.lst (od.map V.int))) (h11:OdP ps.length od) (h12:H th=some (frO f)) (h13:0<f.1) (h14:f.1<=f.2) (h15:fitsB 100 f.1) (h16:fitsB 100 f.2) (h17:∀ H',Same H H'->Q (.bl true) H')
noncomputable def spHr:Sp:=fun vs H Q _=>spHrI vs H Q
section
variable{P:Program}{w:World}{K:PySem.W.Frag}{mg:Str->Option Value}{base:Heap}{gA gN:Addr}
noncomputable abbrev nHr:List Str:=["_law_posts_here","_law_shares","_law_one","_law_other","_law_order","_law_threshold","_law_found","_law_place","_law_owner","_law_both","_law_due"]
theorem scHr:FnScope nHr ["_law_posts_here","_law_shares","_law_one","_law_other","_law_order","_law_threshold"] (defScope sHalvesRight):=⟨rfl,rfl,rfl,by decide +kernel,rfl,by decide +kernel,by decide +kernel⟩
theorem csHr1:CompScope ["_law_l","_law_posts_here","_law_both"] [none,some 0,some 9] nHr (defScope sHalvesRight) (scO [(".0",.local),("_law_l",.local),("_law_both",.free),("_law_posts_here",.free)]):=⟨rfl,by decide +kernel,by decide +kernel,by decide +kernel,rfl,capB_ok (by decide +kernel)⟩
theorem ndHr1:(["_law_l","_law_posts_here","_law_both"]:List Str).Nodup:=by decide +kernel
theorem ok_hr{f g1 g2:Addr}{fd d1 d2:FuncData}(F:Fun K "_law_halves_right" "_law_halves_right" sHalvesRight f fd)(T2:Txt2 mg)(GO:CalF P w K mg base 3 "owners_by" ["posts","shares","order","threshold"] spObQ g1 d1)(GL:CalF P w K mg base 1 "_law_less" ["_law_one","_law_other"] spLs g2 d2):FnOk P w K mg base CX0 4 f fd ["_law_posts_here","_law_shares","_law_one","_law_other","_law_order","_law_threshold"] spHr:=by
 refine F.ok scHr (fun vs H Q E h=>?_) (fun cdv A outer s H vs Q E hr h=>?_)
 ·obtain⟨q,o,u,w,d,th,n,ps,us,ws,od,f,rfl,_⟩:=h
  rfl
 ·obtain⟨q,o,u,w,d,th,n,ps,us,ws,od,f,rfl,n30,hq,po,RA,hu,uo,hw,wo,hd,op,ht,f0,f1,ff,fg,fin⟩:=h
  have hr1:Room 1 _:=hr.mono (by decide)
  have hr3:Room 3 _:=hr
  have m6:=po.hi
  have m2:=po.lo
  have ul:=uo.len
  have wl:=wo.len
  have Rl:(halfR ps us ws).length=n:=by unfold halfR;rw[zB,List.length_zip];exact zem ul wl
  refine⟨_,(pss_cons (ps_set (i:=6) scHr.nd rfl (Or.inl rfl) (pe_call GO.ok hr3 rfl GO.mg GO.kp GO.bd .nil pass0 (@pa_nam _ _ _ _ _ _ (pv 0) (@pa_nam _ _ _ _ _ _ (pv 1) (@pa_nam _ _ _ _ _ _ (pv 4) (@pa_nam _ _ _ _ _ _ (pv 5) pa_nil))))))
   (pss_cons (ps_for PassesOwn.never rfl (pi_enumB true rfl T2.enum (@pa_nam _ _ _ _ _ _ (pv 6) pa_nil)) (pg_tup (n:=2) rfl (pgs_cons (pg_name (i:=7) scHr.nd rfl (Or.inl rfl)) (pgs_cons (pg_name (i:=8) scHr.nd rfl (Or.inl rfl)) pgs_nil)))
   (pss_cons (ps_set (i:=9) scHr.nd rfl (Or.inr rfl) (@pe_tup _ _ _ _ _ (@pa_sub _ _ _ _ _ _ _ (@pe_ix _ _ _ _ _ _ _ ix_tupH (pv 2) (pv 7) (fun _ _=>rfl)) (@pa_sub _ _ _ _ _ _ _ (@pe_ix _ _ _ _ _ _ _ ix_tupH (pv 3) (pv 7) (fun _ _=>rfl)) pa_nil))))
   (pss_cons (ps_set (i:=10) scHr.nd rfl (Or.inl rfl) (pe_ifExp (pt_cmpR op_eq (@pe_ix _ _ _ _ _ _ _ ix_tupH (pv 9) pe_int (fun _ _=>rfl)) (@pe_ix _ _ _ _ _ _ _ ix_tupH (pv 9) pe_int (fun _ _=>rfl)) (nomark _)) (@pe_ix _ _ _ _ _ _ _ ix_tupH (pv 2) (pv 7) (fun _ _=>rfl)) (@pe_ix _ _ _ _ _ _ _ ix_listH (pv 0) (@pe_ix _ _ _ _ _ _ _ ix_listH (pv 4) (pe_un un_neg pe_int) (fun _ _=>rfl)) (fun _ _=>rfl))))
   (pss_cons (ps_if (PW.pt (pw_and (pt_not (pt_val (pe_call GL.ok hr1 rfl GL.mg GL.kp GL.bd .nil pass0 (@pa_tup _ _ _ _ _ _ _ (@pe_tup _ _ _ _ _ (@pa_cst _ _ _ _ _ _ _ pe_int (@pa_cst _ _ _ _ _ _ _ pe_int pa_nil))) (@pa_nam _ _ _ _ _ _ (pv 5) pa_nil))))) (pw_and1 (pt_cmpR op_ne (@pe_ix _ _ _ _ _ _ _ ix_tupH (pv 9) pe_int (fun _ _=>rfl)) (@pe_ix _ _ _ _ _ _ _ ix_tupH (pv 9) pe_int (fun _ _=>rfl)) (nomark _))))) (pss_one (ps_set (i:=10) scHr.nd rfl (Or.inl rfl) (@pe_ix _ _ _ _ _ _ _ ix_listH (pe_comp rfl csHr1 (pi_list (pv 4)) (fun C s H fp=>(pg_name (i:=0) ndHr1 rfl (Or.inl rfl))) (fun C s H fp=>(pf_one (pt_cmpR (op_inQ true) (@pe_ix _ _ _ _ _ _ _ ix_listH (pv 1) (pv 0) (fun _ _=>rfl)) (pv 2) rfl))) (fun C s H fp=>(@pe_ix _ _ _ _ _ _ _ ix_listH (pv 1) (pv 0) (fun _ _=>rfl)))) pe_int (fun _ _=>rfl)))) pss_nil)
   (pss_one (ps_if (pt_cmpR op_ne (pv 8) (pv 10) (nomark _)) pss_never pss_nil))))))
   (pss_one (ps_ret pe_bl)))),?_⟩
  refine⟨_,rfl,_,rfl,_,rfl,_,rfl,false,q,o,d,th,ps,_,od,f,rfl,hq,RA,hd,ht,fk_rw half_fk,by exact zh9 (zl1 n30 rfl) Rl,op.ok (by exact zj2 m2) m6,ff,fg,fun fo H1 gf s1=>?_⟩
  obtain⟨pre,z,ez⟩:∃ (pre:List Int) (z:Int),od=pre++[z]:=by
   have:od≠[]:=fun e=>by
    have:=op.len
    rw[e]at this
    simp at this
    exact(zcn m6 m2 this).elim
   exact⟨_,_,(List.dropLast_concat_getLast this).symm⟩
  generalize hos:(halfR ps us ws).map (fun row=>ps.getD (tkr row f od).toNat 0)=os at gf
  have ol:os.length=n:=by rw[<- hos,zB];exact Rl
  refine⟨_,rfl,fo,rfl,⟨_,SqT.of gf⟩,?_⟩
  refine for_enumB (K:=K) (b:=true) (l:=fo) (xs:=os.map V.int) (fun i σ G=>Ex4 fun(v7 v8 v9 v10:Option V)=>σ=[some (.ref q),some (.ref o),some (.ref u),some (.ref w),some (.ref d),some (.ref th),some (.ref fo),v7,v8,v9,v10]/\Same H1 G) ⟨_,_,_,_,rfl,Same.refl _⟩ (fun i σ G _ z=>by obtain⟨_,_,_,_,_,s⟩:=z;exact SqT.of (s _ _ gf)) ?_ ?_
  ·rintro i x σ G U hx ⟨v7,v8,v9,v10,rfl,sG⟩ hU
   obtain⟨il,e⟩:=zH.mp hx
   rw[zB]at il
   rw[zO]at e
   subst e
   have iu:i<us.length:=by exact zh7 (zh7 il ol) (Eq.symm ul)
   have iw:i<ws.length:=by exact zh7 (zh7 il ol) (Eq.symm wl)
   have eo:os[i]=ps.getD (tkr (ps.map (hf us[i] ws[i])) f od).toNat 0:=by
    simp only[<- hos,zO,halfR,List.getElem_zip]
   have ma:=uo.mem _ (zX iu)
   have mb:=wo.mem _ (zX iw)
   have au:atI (us.map V.int) (i:Int)=some (V.int us[i]):=atI_nat (by rw[zAJ,zF iu];rfl)
   have aw:atI (ws.map V.int) (i:Int)=some (V.int ws[i]):=atI_nat (by rw[zAJ,zF iw];rfl)
   generalize us[i]=a at *
   generalize ws[i]=b at *
   have sU:=sG.trans (Same.new (o:=.tup [V.int (i:Int),V.int os[i]]) hU)
   refine⟨U,_,rfl,SqT.of upd_same,rfl,_,_,rfl,_,_,rfl,rfl,?_⟩
   generalize (upd G U (.tup [V.int (i:Int),V.int os[i]]))=G1 at *
   have s2:=s1.trans sU
   refine⟨_,rfl,_,rfl,u,_,_,_,rfl,rfl,s2 _ _ hu,au,_,rfl,_,rfl,w,_,_,_,rfl,rfl,s2 _ _ hw,aw,(by show 2<=sizeLine;decide),fun e he=>?_⟩
   have s3:=sU.trans (Same.new (o:=.tup [V.int a,V.int b]) he)
   have ge:(upd G1 e (.tup [V.int a,V.int b])) e=some (.tup [V.int a,V.int b]):=upd_same
   generalize (upd G1 e (.tup [V.int a,V.int b]))=G2 at *
   clear s2
   have s2:=s1.trans s3
   refine⟨_,rfl,e,_,_,_,rfl,rfl,ge,at0,_,rfl,e,_,_,_,rfl,rfl,ge,at1,?_⟩
   refine⟨rfl,_,rfl,?_⟩
   have gq:=s2 _ _ hq
   have gth:=s2 _ _ ht
   have gd:=s2 _ _ hd
   apply join2 (D:=fun y G=>y=os[i]/\Same G2 G)
   ·intro J2
    apply join (D:=fun x=>(a=b->x=a)/\(a≠b->x=ps.getD z.toNat 0))
    ·intro J
     obtain⟨xa,ha⟩:∃ x,x=a:=⟨_,rfl⟩
     obtain⟨xz,hz⟩:∃ x,x=ps.getD z.toNat 0:=⟨_,rfl⟩
     have aua:atI (us.map V.int) (i:Int)=some (V.int xa):=by rw[ha];exact au
     have zl:z.toNat<ps.length:=by
      have:=op.mem.mp (show z∈od by rw[ez];exact zP _ zT)
      omega
     have auz:atI (ps.map V.int) z=some (V.int xz):=by
      have z0:=(op.mem.mp (show z∈od by rw[ez];exact zP _ zT)).1
      have:=atI_getD (gs:=ps) zl
      rw[show((z.toNat:Nat):Int)=z by exact Eq.symm (zh3 z0)]at this
      rw[hz];exact this
     refine ite2 (fun hc=>?_) (fun hc=>?_)
     ·refine⟨_,rfl,_,rfl,u,_,_,_,rfl,rfl,s2 _ _ hu,aua,?_⟩
      exact J xa ⟨fun _=>ha,fun ne=>absurd (by have:=of_decide_eq_true hc;injection this) ne⟩
     ·refine⟨_,rfl,_,rfl,_,rfl,d,_,_,_,rfl,rfl,s2 _ _ hd,by rw[ez,zU];exact atI_last _ _,q,_,_,_,rfl,rfl,s2 _ _ hq,auz,?_⟩
      exact J xz ⟨fun z=>absurd (decide_eq_true (by rw[z])) hc,fun _=>hz⟩
    rintro x ⟨dx,dz⟩
    refine⟨(by show 2<=sizeLine;decide),fun e2 he2=>?_⟩
    have sE:=Same.new (o:=frO (1,2)) he2
    have gE:(upd G2 e2 (frO (1,2))) e2=some (frO (1,2)):=upd_same
    have eG:upd G2 e2 (.tup [V.int 1,V.int 2])=upd G2 e2 (frO (1,2)):=rfl
    rw[eG]
    generalize (upd G2 e2 (frO (1,2)))=G3 at *
    refine⟨_,rfl,e2,th,(1,2),f,rfl,gE,sE _ _ gth,(fit16 (by decide)).mono (by decide),(fit16 (by decide)).mono (by decide),ff.mono (by decide),fg.mono (by decide),_,rfl,?_⟩
    have same:a=b->x=os[i]:=fun ab=>by
     rw[eo,dx ab,<- ab]
     exact(half_same op f0 f1 ma).symm
    by_cases lo:1 * f.2<f.1 * 2
    ·rw[show decide ((1,2).1 * f.2<f.1 * (1,2).2)=true from decide_eq_true lo]
     refine iteF (J2 x G3 ⟨?_,sE⟩)
     by_cases ab:a=b
     ·exact same ab
     ·rw[eo,dz ab,ez,half_high (ez▸op) f0 ab lo]
    ·rw[show decide ((1,2).1 * f.2<f.1 * (1,2).2)=false from decide_eq_false lo]
     refine iteT ⟨_,rfl,e,_,_,_,rfl,rfl,sE _ _ ge,at0,_,rfl,e,_,_,_,rfl,rfl,sE _ _ ge,at1,rfl,_,rfl,?_⟩
     by_cases ab:a=b
     ·rw[decide_eq_true (show V.int a=V.int b by rw[ab])]
      exact iteF (J2 x G3 ⟨same ab,sE⟩)
     rw[decide_eq_false (fun z=>ab (by injection z))]
     refine iteT ?_
     obtain⟨x1,r1,ef,et⟩:=half_low op f0 ab ma lo
     refine⟨_,rfl,d,rfl,⟨_,SqL.of (sE _ _ gd)⟩,?_⟩
     refine comp_list (K:=K) (a:=d) (xs:=od.map V.int) (fun c ys G=>Same G3 G/\∃ xs:List Int,ys=xs.map V.int/\xs=((od.take c).filter fun l=>decide (ps.getD l.toNat 0=a\/ps.getD l.toNat 0=b)).map fun l=>ps.getD l.toNat 0) (by rw[zB,op.len,sizeLine_eq];exact zl1 m6 rfl) ⟨Same.refl _,[],rfl,rfl⟩ (fun c ys G _ z=>SqL.of (z.1 _ _ (sE _ _ gd))) ?_ ?_
     ·rintro c y ys G hy ⟨sg,xs,rfl,exs⟩
      obtain⟨cl,ey⟩:=zH.mp hy
      rw[zB]at cl
      rw[zO]at ey
      subst ey
      obtain⟨l0,l1⟩:=op.mem.mp (zX cl)
      have lq:od[c].toNat<ps.length:=by exact zim m6 m2 il cl l1
      have al:atI (ps.map V.int) od[c]=some (V.int (ps.getD od[c].toNat 0)):=by
       have:=atI_getD (gs:=ps) lq
       rw[show((od[c].toNat:Nat):Int)=od[c] by exact Eq.symm (zh3 l0)]at this
       exact this
      rw[zL cl,List.filter_append,zU,<- exs]
      have ev:inV (V.int (ps.getD od[c].toNat 0)) [V.int a,V.int b]=decide (ps.getD od[c].toNat 0=a\/ps.getD od[c].toNat 0=b):=by
       rw[show [V.int a,V.int b]=[a,b].map V.int from rfl,inV_dec]
       exact decide_eq_decide.mpr (by simp)
      generalize od[c]=l at *
      have gq2:=sg _ _ (sE _ _ gq)
      refine⟨⟨rfl,rfl,trivial⟩,_,rfl,_,rfl,q,_,_,_,rfl,rfl,gq2,al,_,rfl,e,[V.int a,V.int b],rfl,sg _ _ (sE _ _ ge),rfl,rfl,_,rfl,ite2 (fun hc=>?_) (fun hc=>?_)⟩
      ·have hc:inV (V.int (ps.getD l.toNat 0)) [V.int a,V.int b]=true:=hc
       rw[ev]at hc
       rw[zDG (p:=fun l:Int=>decide (ps.getD l.toNat 0=a\/ps.getD l.toNat 0=b)) hc]
       exact⟨_,rfl,_,rfl,q,_,_,_,rfl,rfl,gq2,al,sg,xs++[ps.getD l.toNat 0],by rw[zU];rfl,rfl⟩
      ·have hc:¬ inV (V.int (ps.getD l.toNat 0)) [V.int a,V.int b]=true:=hc
       rw[ev]at hc
       rw[zDH (p:=fun l:Int=>decide (ps.getD l.toNat 0=a\/ps.getD l.toNat 0=b)) hc]
       exact⟨sg,xs,rfl,by rw[List.filter_nil,List.map_nil,zCY]⟩
     ·rintro ys G yl ⟨sg,xs,rfl,exs⟩ D hD
      rw[zB,zAP,ef]at exs
      subst exs
      refine⟨D,_,_,_,rfl,rfl,upd_same,at0,J2 _ _ ⟨?_,sE.trans (sg.trans (Same.new hD))⟩⟩
      rw[eo,et]
   ·rintro y G ⟨ey,sy⟩
    refine⟨_,rfl,_,rfl,rfl,_,rfl,?_⟩
    rw[ey,decide_eq_true rfl]
    exact iteF ⟨_,_,_,_,rfl,s3.trans sy⟩
  ·rintro σ G ⟨v7,v8,v9,v10,rfl,sG⟩
   exact fin _ (s1.trans sG)
end
open PySem L2 PyProof.Rows
open Rnd (ltF tkr uq uqs Lo)
theorem half_pk:PK (1,2):=by
 have k:∀ x:Int,0<=x->x<3->fitsB 14 x:=fun x _ _=>by show x.natAbs<2 ^ 14;rw[show(2:Nat) ^ 14=16384 by decide];lia
 exact⟨by show(0:Int)<2;decide,k 2 (by decide) (by decide),k 1 (by decide) (by decide)⟩
theorem thr_rg{z be:Int}(b1:1<=be)(bh:be<=9999)(z0:0<=z)(z1:z<be):0 <(Shr.nf (1+z) be).1/\(Shr.nf (1+z) be).1<=(Shr.nf (1+z) be).2/\fitsB 100 (Shr.nf (1+z) be).1/\fitsB 100 (Shr.nf (1+z) be).2:=by
 have i:=Shr.nf_rel (t:=1+z) (b:=be) (N:=1+z) (D:=be) (by exact zdc b1 bh) rfl
 have h3:=i.pos
 have e:=i.eq
 have h1:=i.below (by exact zdc b1 bh)
 generalize (Shr.nf (1+z) be)=f at *
 obtain⟨x,y⟩:=f
 have e:x * be=(1+z) * y:=e
 have h3:0<y:=h3
 have h1:y<=be:=h1
 have p0:0 <(1+z) * y:=Int.mul_pos (by exact zgy z0) h3
 have x0:0<x:=by
  rcases Int.lt_or_le 0 x with h | h
  ·exact h
  ·have:=Int.mul_le_mul_of_nonneg_right h (show 0<=be by exact zil b1 bh)
   rw[Int.zero_mul]at this
   exact(zep e p0 this).elim
 have xy:x<=y:=by
  rcases Int.lt_or_le y x with h | h
  ·have h4:=Int.mul_lt_mul_of_pos_right h (show 0<be by exact zdc b1 bh)
   have h5:=Int.mul_le_mul_of_nonneg_right (show 1+z<=be by exact zgl z1) (zBS h3)
   rw[Int.mul_comm be y]at h5
   exact(zea e h4 h5).elim
  ·exact h
 have k:∀ w:Int,0<=w->w<=9999->fitsB 100 w:=fun w _ _=>(fit16 (x:=w) (by lia)).mono (by decide)
 exact⟨x0,xy,k x (by exact zaq x0) (by lia),k y (by lia) (by lia)⟩
structure TlF(H:Hp)(t l o o2 d c:Addr)(n:Nat)(ties:List Tie)(ps us ws od:List Int)(th:Int×Int)(G:Hp):Prop where
 W:Wd G t l n ties ps
 n0:0<n
 ho:G o=some (.tup (us.map V.int))
 oo:OwnOk n ps us
 hw:G o2=some (.tup (ws.map V.int))
 oo2:OwnOk n ps ws
 hd:G d=some (.lst (od.map V.int))
 odp:OdP ps.length od
 hc:G c=some (frO th)
 t0:0<th.1
 t1:th.1<=th.2
 tf:fitsB 100 th.1
 tg:fitsB 100 th.2
 sm:Same H G
inductive spLawI(K:PySem.W.Frag)(gA gN:Addr)(vs:List V)(H:Hp)(Q:VK):Prop where
 |mk (a:Addr) (ns:List Int) (h1:vs=[.ref a]) (h2:SqL K H a (ns.map V.int)) (h3:ns.length<=63) (h4:FrT H gA (1,1)) (h5:FrT H gN (0,1)) (h6:∀ H',Q (.bl true) H')
noncomputable def spLaw(K:PySem.W.Frag)(gA gN:Addr):Sp:=fun vs H Q _=>spLawI K gA gN vs H Q
section
variable{P:Program}{w:World}{K:PySem.W.Frag}{mg:Str->Option Value}{base:Heap}{gA gN:Addr}
structure Fs(P:Program)(w:World)(K:PySem.W.Frag)(mg:Str->Option Value)(base:Heap)(gA gN:Addr)(g1 g2 g3 g4 g5 g6 g7 g8 g9 g10 g11 g12 g13:Addr)(d1 d2 d3 d4 d5 d6 d7 d8 d9 d10 d11 d12 d13:FuncData):Prop where
 box:CalF P w K mg base 2 "_law_box" ["_law_script","_law_k"] (spBox K) g1 d1
 web:CalF P w K mg base 3 "_law_web" ["_law_box_here","_law_many_here"] spWeb g2 d2
 many:CalF P w K mg base 2 "_law_many" ["_law_box_here","_law_least","_law_few","_law_most"] spMany g3 d3
 posts:CalF P w K mg base 2 "_law_posts" ["_law_box_here","_law_many_here","_law_most"] spPo g4 d4
 owned:CalF P w K mg base 2 "_law_owned" ["_law_box_here","_law_web_here","_law_posts_here"] spOw g5 d5
 take:TakeF P w K mg base g6 d6
 frac:CalF P w K mg base 2 "_law_frac" ["_law_top","_law_below"] spFc g7 d7
 right:CalF P w K mg base 6 "_law_owners_right" ["_law_web_here","_law_posts_here","_law_owners","_law_order","_law_threshold"] (spOrr gA gN) g8 d8
 mix:CalF P w K mg base 4 "mixed" ["one","other","part"] spMx g9 d9
 sb:CalF P w K mg base 1 "shares_by" ["posts","owners"] (spSb gA gN) g10 d10
 halves:CalF P w K mg base 4 "_law_halves_right" ["_law_posts_here","_law_shares","_law_one","_law_other","_law_order","_law_threshold"] spHr g11 d11
 ob:CalF P w K mg base 3 "owners_by" ["posts","shares","order","threshold"] spObQ g12 d12
 ev:CalF P w K mg base 2 "even_shares" ["web","posts"] (spEv gA gN) g13 d13
noncomputable abbrev nLaw:List Str:=["_law_script","_law_k","_law_box_here","_law_web_here","_law_posts_here","_law_one","_law_other","_law_left","_law_order","_law_below","_law_threshold","_law_shares","_law_some","_law_found"]
theorem scLaw:FnScope nLaw ["_law_script"] (defScope sLaw):=⟨rfl,rfl,rfl,by decide +kernel,rfl,by decide +kernel,by decide +kernel⟩
theorem csLaw1:CompScope ["_law_post","_law_left","_law_box_here"] [none,some 7,some 2] nLaw (defScope sLaw) (scO [(".0",.local),("_law_post",.local),("_law_take",.globalImplicit),("len",.globalImplicit),("_law_box_here",.free),("_law_left",.free)]):=⟨rfl,by decide +kernel,by decide +kernel,by decide +kernel,rfl,capB_ok (by decide +kernel)⟩
theorem ndLaw1:(["_law_post","_law_left","_law_box_here"]:List Str).Nodup:=by decide +kernel
theorem csLaw2:CompScope ["_law_place","_law_posts_here","_law_order"] [none,some 4,some 8] nLaw (defScope sLaw) (scO [(".0",.local),("_law_place",.local),("_law_order",.free),("_law_posts_here",.free)]):=⟨rfl,by decide +kernel,by decide +kernel,by decide +kernel,rfl,capB_ok (by decide +kernel)⟩
theorem ndLaw2:(["_law_place","_law_posts_here","_law_order"]:List Str).Nodup:=by decide +kernel
theorem ok_law{f g1 g2 g3 g4 g5 g6 g7 g8 g9 g10 g11 g12 g13:Addr}{fd d1 d2 d3 d4 d5 d6 d7 d8 d9 d10 d11 d12 d13:FuncData}(F:Fun K "law" "law" sLaw f fd)(T:Txt mg)(S:Fs P w K mg base gA gN g1 g2 g3 g4 g5 g6 g7 g8 g9 g10 g11 g12 g13 d1 d2 d3 d4 d5 d6 d7 d8 d9 d10 d11 d12 d13):FnOk P w K mg base CX0 7 f fd ["_law_script"] (spLaw K gA gN):=by
 refine F.ok scLaw (fun vs H Q E h=>?_) (fun cdv A outer s H vs Q E hr h=>?_)
 ·obtain⟨a,ns,rfl,_⟩:=h
  rfl
 ·obtain⟨a,ns,rfl,hS,hlen,hA,hN,q⟩:=h
  have hr1:Room 1 _:=hr.mono (by decide)
  have hr2:Room 2 _:=hr.mono (by decide)
  have hr3:Room 3 _:=hr.mono (by decide)
  have hr4:Room 4 _:=hr.mono (by decide)
  have hr6:Room 6 _:=hr
  have hu64:=L2.hu64 hr
  refine exT (P:=fun tT:TS=>PSs _ _ tT/\(∀ (D':Ends) (i:Nat) (p t l o o2 so D c:Addr) (z1:Int) (v11 v12 v13:Option V) (n:Nat) (ties:List Tie) (ps us ws od:List Int) (th:Int×Int) (G1:Hp),TlF H t l o o2 D c n ties ps us ws od th G1->(∀ (w11 w12 w13:Option V) (G':Hp),Same H G'->D'.nx [some (.ref a),some (.int (0+(i:Int))),some (.ref p),some (.ref t),some (.ref l),some (.ref o),some (.ref o2),some (.ref so),some (.ref D),some (.int (1+z1)),some (.ref c),w11,w12,w13] G')->tT D' [some (.ref a),some (.int (0+(i:Int))),some (.ref p),some (.ref t),some (.ref l),some (.ref o),some (.ref o2),some (.ref so),some (.ref D),some (.int (1+z1)),some (.ref c),v11,v12,v13] G1)) (fun tT hT=>⟨_,(pss_cons (ps_for PassesOwn.never rfl (pi_range1 rfl T.range (@pa_bin _ _ _ _ _ _ _ _ (pe_op op_add pe_int (pe_callB (call_min2 rfl) (by rfl) T.min boot_min (@pa_cst _ _ _ _ _ _ _ pe_int (@pa_call _ _ _ _ _ _ _ _ (pe_callB call_len_seq (by rfl) T.len PySem.boot_len (@pa_nam _ _ _ _ _ _ (pvQ 0) pa_nil)) pa_nil)))) pa_nil)) (pg_name (i:=1) scLaw.nd rfl (Or.inl rfl))
   (pss_cons (ps_set (i:=2) scLaw.nd rfl (Or.inr rfl) (pe_call S.box.ok hr2 rfl S.box.mg S.box.kp S.box.bd .nil pass0 (@pa_nam _ _ _ _ _ _ (pvQ 0) (@pa_nam _ _ _ _ _ _ (pvQ 1) pa_nil))))
   (pss_cons (ps_set (i:=3) scLaw.nd rfl (Or.inl rfl) (pe_call S.web.ok hr3 rfl S.web.mg S.web.kp S.web.bd .nil pass0 (@pa_nam _ _ _ _ _ _ (pvQ 2) (@pa_call _ _ _ _ _ _ _ _ (pe_call S.many.ok hr2 rfl S.many.mg S.many.kp S.many.bd .nil pass0 (@pa_nam _ _ _ _ _ _ (pvQ 2) (@pa_cst _ _ _ _ _ _ _ pe_int (@pa_cst _ _ _ _ _ _ _ pe_int (@pa_cst _ _ _ _ _ _ _ pe_int pa_nil))))) pa_nil))))
   (pss_cons (ps_set (i:=4) scLaw.nd rfl (Or.inr rfl) (pe_call S.posts.ok hr2 rfl S.posts.mg S.posts.kp S.posts.bd .nil pass0 (@pa_nam _ _ _ _ _ _ (pvQ 2) (@pa_sub _ _ _ _ _ _ _ (@pe_ix _ _ _ _ _ _ _ ix_tupH (pvQ 3) pe_int (fun _ _=>rfl)) (@pa_cst _ _ _ _ _ _ _ pe_int pa_nil)))))
   (pss_cons (ps_par (i:=5) (j:=6) rfl scLaw.nd rfl rfl (by decide) rfl rfl (@pa_call _ _ _ _ _ _ _ _ (pe_call S.owned.ok hr2 rfl S.owned.mg S.owned.kp S.owned.bd .nil pass0 (@pa_nam _ _ _ _ _ _ (pvQ 2) (@pa_nam _ _ _ _ _ _ (pvQ 3) (@pa_nam _ _ _ _ _ _ (pvQ 4) pa_nil)))) (@pa_call _ _ _ _ _ _ _ _ (pe_call S.owned.ok hr2 rfl S.owned.mg S.owned.kp S.owned.bd .nil pass0 (@pa_nam _ _ _ _ _ _ (pvQ 2) (@pa_nam _ _ _ _ _ _ (pvQ 3) (@pa_nam _ _ _ _ _ _ (pvQ 4) pa_nil)))) pa_nil)) rfl)
   (pss_cons (ps_set (i:=7) scLaw.nd rfl (Or.inr rfl) (pe_callTy (call_list_rng rfl) (by rfl) T.list boot_list (@pa_call _ _ _ _ _ _ _ _ (pe_callTy (call_range _) (by rfl) T.range boot_range (@pa_call _ _ _ _ _ _ _ _ (pe_callB call_lenH (by rfl) T.len PySem.boot_len (@pa_nam _ _ _ _ _ _ (pvQ 4) pa_nil)) pa_nil)) pa_nil)))
   (pss_cons (ps_set (i:=8) scLaw.nd rfl (Or.inr rfl) (pe_comp rfl csLaw1 (pi_list (pvQ 4)) (fun C s H fp=>(pg_name (i:=0) ndLaw1 rfl (Or.inl rfl))) (fun C s H fp=>pf_nil) (fun C s H fp=>(pe_bmH PySem.F.slot_list_pop PySem.F.type_list_pop mt_popAt (pvQ 1) (@pa_call _ _ _ _ _ _ _ _ (pe_call S.take.ok hr1 rfl S.take.mg S.take.kp S.take.bd .nil pass0 (@pa_nam _ _ _ _ _ _ (pvQ 2) (@pa_call _ _ _ _ _ _ _ _ (pe_callB call_lenH (by rfl) T.len PySem.boot_len (@pa_nam _ _ _ _ _ _ (pvQ 1) pa_nil)) pa_nil))) pa_nil)))))
   (pss_cons (ps_set (i:=9) scLaw.nd rfl (Or.inl rfl) (pe_op op_add pe_int (pe_call S.take.ok hr1 rfl S.take.mg S.take.kp S.take.bd .nil pass0 (@pa_nam _ _ _ _ _ _ (pvQ 2) (@pa_cst _ _ _ _ _ _ _ pe_int pa_nil)))))
   (pss_cons (ps_set (i:=10) scLaw.nd rfl (Or.inl rfl) (pe_call S.frac.ok hr2 rfl S.frac.mg S.frac.kp S.frac.bd .nil pass0 (@pa_bin _ _ _ _ _ _ _ _ (pe_op op_add pe_int (pe_call S.take.ok hr1 rfl S.take.mg S.take.kp S.take.bd .nil pass0 (@pa_nam _ _ _ _ _ _ (pvQ 2) (@pa_nam _ _ _ _ _ _ (pvQ 9) pa_nil)))) (@pa_nam _ _ _ _ _ _ (pvQ 9) pa_nil))))
   hT.1)))))))))
   (pss_one (ps_ret pe_bl))),?_⟩) ?_
  ·refine⟨a,_,rfl,.inl hS,_,_,rfl,_,_,rfl,rfl,_,rfl,?_,?_,?_⟩
   ·split <;> lia
   ·split <;> lia
   generalize ((1:Int)+(if((ns.map V.int).length:Int)<3 then((ns.map V.int).length:Int)else 3)).toNat=turns
   refine for_range (lo:=0) (n:=turns) (fun i σ H'=>Ex13 fun(v1 v2 v3 v4 v5 v6 v7 v8 v9 v10 v11 v12 v13:Option V)=>σ=[some (.ref a),v1,v2,v3,v4,v5,v6,v7,v8,v9,v10,v11,v12,v13]/\Same H H') ⟨_,_,_,_,_,_,_,_,_,_,_,_,_,rfl,Same.refl _⟩ ?_ ?_
   ·rintro i σ H0 hi ⟨v1,v2,v3,v4,v5,v6,v7,v8,v9,v10,v11,v12,v13,rfl,s0⟩
    refine⟨a,ns,0+i,by rw[Int.zero_add,zBN];rfl,s0.seq hS,fun p H1 hp B1 k1=>?_⟩
    have hpH:H p=none:=s0.free hp
    have sm1:Same H H1:=fun b o hb=>k1 _ _ (ne_of_none hb hpH) (s0 _ _ hb)
    clear k1 s0
    refine⟨p,2,6,30,0,rfl,B1,by decide,by decide,by decide,by decide,by decide,fun z H2 hz B2 k2=>?_⟩
    obtain⟨n,rfl⟩:∃ n:Nat,z=(n:Int):=⟨z.toNat,by exact zef hz⟩
    refine⟨p,n,_,rfl,B2,by decide,by exact zgn hz,by exact zbq hz,fun t ties H3 ht W3 ok pw B3 k3=>?_⟩
    obtain⟨⟨ts,bs,h1,_,_⟩,_⟩:=id W3
    refine⟨t,_,_,_,rfl,rfl,h1,at0,p,n,_,6,rfl,B3,by decide,by exact zfh hz,by exact zbq hz,by decide,by decide,fun l ps H4 hl0 hl lp po B4 k4=>?_⟩
    have W4:Wd H4 t l n ties ps:=⟨W3.keptB B3 k4,ok,pw,by exact zbq hz,hl,po⟩
    refine⟨p,t,l,n,_,ties,ps,rfl,B4,by decide,W4,lp,fun o us H5 ho oo B5 k5=>?_⟩
    have W5:=W4.kept B4 k5 lp
    refine⟨p,t,l,n,_,ties,ps,rfl,B5,by decide,W5,lp,fun o2 ws H6 ho2 oo2 B6 k6=>?_⟩
    have W6:=W5.kept B5 k6 lp
    have tne:∀ {G:Hp}{x:Addr}{xs:List V}{N:Nat},BoxAt G p N->G x=some (.tup xs)->x≠p:=fun {G x xs N} B h z=>by
     obtain⟨_,_,_,e,_⟩:=B
     rw[z,e]at h;cases h
    have op:=tne B5 ho
    have o2p:=tne B6 ho2
    have ho6:=k6 _ _ op ho
    have sm6:Same H H6:=fun b ob hb=>by
     have nb:=ne_of_none hb hpH
     exact k6 _ _ nb (k5 _ _ nb (k4 _ _ nb (k3 _ _ nb (k2 _ _ nb (sm1 _ _ hb)))))
    clear k2 k3 k4 k5 k6 sm1 B1 B2 B3 B4 B5 W3 W4 W5 hl ho hl0 ht h1
    refine⟨_,_,rfl,l,_,rfl,W6.hq,?_⟩
    rw[zB]
    have m6:=W6.po.hi
    have m2:=W6.po.lo
    have n30:=W6.n30
    refine⟨_,rfl,fun r1 hr1=>⟨r1,_,rfl,upd_same,by exact zh1,by exact zm3 m6 rfl,fun so hso=>?_⟩⟩
    have s1:=(Same.new (o:=.rng 0 (ps.length:Int)) hr1).trans (Same.new (o:=.lst ((upto ps.length).map V.int)) hso)
    have gs:(upd (upd H6 r1 (.rng 0 (ps.length:Int))) so (.lst ((upto ps.length).map V.int))) so=some (.lst ((upto ps.length).map V.int)):=upd_same
    have sop:so≠p:=B6.ne ((Same.new (o:=.rng 0 (ps.length:Int)) hr1).free hso)
    have so6:=(Same.new (o:=.rng 0 (ps.length:Int)) hr1).free hso
    rw[show((ps.length:Int)).toNat=ps.length by exact zAQ ps.length]
    generalize (upd (upd H6 r1 (.rng 0 (ps.length:Int))) so (.lst ((upto ps.length).map V.int)))=G1 at s1 gs
    have W7:=W6.same s1
    refine⟨l,rfl,⟨_,SqL.of W7.hq⟩,?_⟩
    refine comp_list (K:=K) (a:=l) (xs:=ps.map V.int) (fun c ys G2=>BoxAt G2 p (3000+c)/\Kept p H6 G2/\∃ (rs qs:List Int),G2 so=some (.lst (rs.map V.int))/\ys=qs.map V.int/\(qs++rs).Perm (upto ps.length)/\qs.length=c) (by rw[zB,sizeLine_eq];exact zl1 m6 rfl)
     ⟨(B6.same s1).mono (by decide),fun b o _ e=>s1 b o e,upto ps.length,[],gs,rfl,.refl _,rfl⟩ (fun c ys G2 _ z=>SqL.of (z.2.1 _ _ lp W6.hq)) ?_ ?_
    ·rintro c x ys G2 hx ⟨B3,k3,rs,qs,gs3,rfl,pm,ql⟩
     obtain⟨cl,_⟩:=zH.mp hx
     rw[zB]at cl
     have rl:qs.length+rs.length=ps.length:=by
      have:=pm.length_eq
      rw[zAC,upto_length]at this
      exact this
     refine⟨⟨rfl,rfl,trivial⟩,tTru_if ⟨⟨so,_,rfl,gs3⟩,so,_,rfl,gs3,p,_,_,rfl,B3,by exact zgp m6 m2 ql cl rl,by rw[zB];exact zgq ql cl rl,by rw[zB];exact zgd m6 m2 ql rl,fun y G3 y0 y1 B4 k4=>?_⟩⟩
     rw[zB]at y1
     obtain⟨k,rfl⟩:∃ k:Nat,y=(k:Int):=⟨y.toNat,by exact zh3 y0⟩
     have kl:k<rs.length:=by exact zi3 y1
     have gs4:=k4 _ _ sop gs3
     refine⟨so,rs.map V.int,(k:Int),k,V.int rs[k],rfl,rfl,gs4,by exact zh2,by exact zfw m6 m2 ql cl rl y1,?_,by rw[zAJ,zF kl];rfl,?_⟩
     ·unfold seqIndex?
      rw[zB]
      simp
      exact zi1 y1
     rw[map_eraseI]
     refine⟨(B4.put sop).mono (by exact zn4),(k3.trans k4).put so6,rs.eraseIdx k,qs++[rs[k]],upd_same,by rw[zU];rfl,?_,by rw[zAC,ql];rfl⟩
     rw[zAL]
     exact(List.Perm.append_left _ (SetA.cut_perm k rs kl)).trans pm
    rintro ys G2 yl ⟨B3,k3,rs,od,gs3,rfl,pm,ql⟩ D hD
    rw[zB]at ql B3
    have odp:OdP ps.length od:=by
     have e:rs=[]:=by
      have:=pm.length_eq
      rw[zAC,upto_length]at this
      exact List.eq_nil_of_length_eq_zero (by exact zgi ql this)
     rw[e,zCY]at pm
     exact⟨pm⟩
    have sD:=Same.new (o:=.lst (od.map V.int)) hD
    have Dp:D≠p:=B3.ne hD
    have W8:=(W6.kept B6 k3 lp).same sD
    have B8:=B3.same sD
    have ho8:=sD _ _ (k3 _ _ op ho6)
    have hw8:=sD _ _ (k3 _ _ o2p ho2)
    have sm8:Same H (upd G2 D (.lst (od.map V.int))):=fun b ob hb=>sD _ _ (k3 _ _ (ne_of_none hb hpH) (sm6 _ _ hb))
    have gD:(upd G2 D (.lst (od.map V.int))) D=some (.lst (od.map V.int)):=upd_same
    generalize (upd G2 D (.lst (od.map V.int)))=H8 at *
    clear gs s1 W7 gs3 k3 B3 sop so6 hso hr1 hD pm W6 B6 ho6 ho2 sm6 sD
    refine⟨p,_,_,rfl,B8,by exact zit m6 m2 ql,by decide,by decide,fun z1 H9 z10 z11 B9 k9=>⟨_,_,rfl,rfl,?_⟩⟩
    refine⟨p,_,_,rfl,B9,by exact zgj m6 m2 ql,by exact zen z10 z11,by lia,fun z2 G0 z20 z21 B0 k0=>⟨_,_,rfl,rfl,1+z2,1+z1,rfl,by exact zen z10 z11,(fit16 (by exact zdr z10 z11)).mono (by decide),fun c hc=>?_⟩⟩
    obtain⟨t0,t1,tf,tg⟩:=thr_rg (z:=z2) (be:=1+z1) (by exact zih z10 z11) (by lia) z20 z21
    have sc:=Same.new (o:=frO (Shr.nf (1+z2) (1+z1))) hc
    have k80:=k9.trans k0
    have W0:=((W8.kept B8 k9 lp).kept B9 k0 lp).same sc
    have ho0:=sc _ _ (k80 _ _ op ho8)
    have hw0:=sc _ _ (k80 _ _ o2p hw8)
    have gd0:=sc _ _ (k80 _ _ Dp gD)
    have sm0:Same H (upd G0 c (frO (Shr.nf (1+z2) (1+z1)))):=fun b ob hb=>sc _ _ (k80 _ _ (ne_of_none hb hpH) (sm8 _ _ hb))
    have gc:(upd G0 c (frO (Shr.nf (1+z2) (1+z1)))) c=some (frO (Shr.nf (1+z2) (1+z1))):=upd_same
    generalize (upd G0 c (frO (Shr.nf (1+z2) (1+z1))))=G1 at *
    generalize Shr.nf (1+z2) (1+z1)=th at *
    clear k80 k9 k0 sc B8 B9 B0 W8 ho8 hw8 gD sm8 hc
    refine hT.2 _ i p t l o o2 so D c z1 _ _ _ n ties ps us ws od th G1 ⟨W0,by exact zge hz n30,ho0,oo,hw0,oo2,gd0,odp,gc,t0,t1,tf,tg,sm0⟩ fun w11 w12 w13 G' sm'=>?_
    exact⟨_,_,_,_,_,_,_,_,_,_,_,_,_,rfl,sm'⟩
   ·rintro σ H' ⟨v1,v2,v3,v4,v5,v6,v7,v8,v9,v10,v11,v12,v13,rfl,_⟩
    exact q _
  ·refine⟨_,(pss_cons (ps_if (pt_not (pt_val (pe_call S.right.ok hr6 rfl S.right.mg S.right.kp S.right.bd .nil pass0 (@pa_nam _ _ _ _ _ _ (pvQ 3) (@pa_nam _ _ _ _ _ _ (pvQ 4) (@pa_nam _ _ _ _ _ _ (pvQ 5) (@pa_nam _ _ _ _ _ _ (pvQ 8) (@pa_nam _ _ _ _ _ _ (pvQ 10) pa_nil)))))))) pss_never pss_nil)
   (pss_cons (ps_set (i:=11) scLaw.nd rfl (Or.inl rfl) (pe_call S.mix.ok hr4 rfl S.mix.mg S.mix.kp S.mix.bd .nil pass0 (@pa_call _ _ _ _ _ _ _ _ (pe_call S.sb.ok hr1 rfl S.sb.mg S.sb.kp S.sb.bd .nil pass0 (@pa_nam _ _ _ _ _ _ (pvQ 4) (@pa_nam _ _ _ _ _ _ (pvQ 5) pa_nil))) (@pa_call _ _ _ _ _ _ _ _ (pe_call S.sb.ok hr1 rfl S.sb.mg S.sb.kp S.sb.bd .nil pass0 (@pa_nam _ _ _ _ _ _ (pvQ 4) (@pa_nam _ _ _ _ _ _ (pvQ 6) pa_nil))) (@pa_tup _ _ _ _ _ _ _ (@pe_tup _ _ _ _ _ (@pa_cst _ _ _ _ _ _ _ pe_int (@pa_cst _ _ _ _ _ _ _ pe_int pa_nil))) pa_nil)))))
   (pss_cons (ps_for PassesOwn.never rfl (pi_tup (@pe_tup _ _ _ _ _ (@pa_nam _ _ _ _ _ _ (pvQ 10) (@pa_tup _ _ _ _ _ _ _ (@pe_tup _ _ _ _ _ (@pa_cst _ _ _ _ _ _ _ pe_int (@pa_cst _ _ _ _ _ _ _ pe_int pa_nil))) (@pa_tup _ _ _ _ _ _ _ (@pe_tup _ _ _ _ _ (@pa_cst _ _ _ _ _ _ _ pe_int (@pa_cst _ _ _ _ _ _ _ pe_int pa_nil))) pa_nil))))) (pg_name (i:=12) scLaw.nd rfl (Or.inl rfl))
   (pss_one (ps_if (pt_not (pt_val (pe_call S.halves.ok hr4 rfl S.halves.mg S.halves.kp S.halves.bd .nil pass0 (@pa_nam _ _ _ _ _ _ (pvQ 4) (@pa_nam _ _ _ _ _ _ (pvQ 11) (@pa_nam _ _ _ _ _ _ (pvQ 5) (@pa_nam _ _ _ _ _ _ (pvQ 6) (@pa_nam _ _ _ _ _ _ (pvQ 8) (@pa_nam _ _ _ _ _ _ (pvQ 12) pa_nil))))))))) pss_never pss_nil)))
   (pss_cons (ps_set (i:=13) scLaw.nd rfl (Or.inl rfl) (pe_call S.ob.ok hr3 rfl S.ob.mg S.ob.kp S.ob.bd .nil pass0 (@pa_nam _ _ _ _ _ _ (pvQ 4) (@pa_call _ _ _ _ _ _ _ _ (pe_call S.ev.ok hr2 rfl S.ev.mg S.ev.kp S.ev.bd .nil pass0 (@pa_nam _ _ _ _ _ _ (pvQ 3) (@pa_nam _ _ _ _ _ _ (pvQ 4) pa_nil))) (@pa_nam _ _ _ _ _ _ (pvQ 8) (@pa_tup _ _ _ _ _ _ _ (@pe_tup _ _ _ _ _ (@pa_cst _ _ _ _ _ _ _ pe_int (@pa_call _ _ _ _ _ _ _ _ (pe_callB call_lenH (by rfl) T.len PySem.boot_len (@pa_nam _ _ _ _ _ _ (pvQ 4) pa_nil)) pa_nil))) pa_nil))))))
   (pss_one (ps_if (pt_cmpR (op_neS hu64) (pvQ 13) (pe_callTy call_tupleH (by rfl) T.tuple boot_tuple (@pa_comp _ _ _ _ _ _ _ _ (pe_comp rfl csLaw2 (pi_range1 rfl T.range (@pa_sub _ _ _ _ _ _ _ (@pe_ix _ _ _ _ _ _ _ ix_tupH (pvQ 3) pe_int (fun _ _=>rfl)) pa_nil)) (fun C s H fp=>(pg_name (i:=0) ndLaw2 rfl (Or.inl rfl))) (fun C s H fp=>pf_nil) (fun C s H fp=>(pe_ifExp (pt_cmpR op_inH (pvQ 0) (pvQ 1) rfl) (pvQ 0) (@pe_ix _ _ _ _ _ _ _ ix_listH (pvQ 1) (@pe_ix _ _ _ _ _ _ _ ix_listH (pvQ 2) pe_int (fun _ _=>rfl)) (fun _ _=>rfl))))) pa_nil)) (nomark _)) pss_never pss_nil)))))),?_⟩
   rintro D' i p t l o o2 so D c z1 v11 v12 v13 n ties ps us ws od th G1 ⟨W0,n0,ho0,oo,hw0,oo2,gd0,odp,gc,t0,t1,tf,tg,sm0⟩ nx
   have m6:=W0.po.hi
   have m2:=W0.po.lo
   have n30:=W0.n30
   have hA0:=sm0 _ _ hA
   have hN0:=sm0 _ _ hN
   refine⟨t,l,o,D,c,n,ties,ps,us,od,th,rfl,W0,by exact n0,ho0,oo,gd0,odp,gc,t0,t1,tf,tg,hA0,hN0,fun G2 s2=>⟨_,rfl,iteF ?_⟩⟩
   have W2:=W0.same s2
   have ul:=oo.len
   have wl:=oo2.len
   refine⟨l,o,true,ps,us,rfl,W2.hq,s2 _ _ ho0,by exact zl1 m6 rfl,by exact zh9 (zl1 n30 rfl) ul,s2 _ _ hA0,s2 _ _ hN0,fun v G3 fd1 s23=>?_⟩
   obtain⟨sa,as,rfl,_,ga,pa,_⟩:=fd1
   have s3:=s2.trans s23
   refine⟨l,o2,true,ps,ws,rfl,s3 _ _ W0.hq,s3 _ _ hw0,by exact zl1 m6 rfl,by exact zh9 (zl1 n30 rfl) wl,s3 _ _ hA0,s3 _ _ hN0,fun v G4 fd2 s34=>?_⟩
   obtain⟨sb,bs,rfl,_,gb,pb,_⟩:=fd2
   have s4:=s3.trans s34
   refine⟨(by show 2<=sizeLine;decide),fun e1 he1=>?_⟩
   have sE:=Same.new (o:=frO (1,2)) he1
   have gE:(upd G4 e1 (frO (1,2))) e1=some (frO (1,2)):=upd_same
   have eG:upd G4 e1 (.tup [V.int 1,V.int 2])=upd G4 e1 (frO (1,2)):=rfl
   rw[eG]
   generalize (upd G4 e1 (frO (1,2)))=G5 at *
   refine⟨sa,sb,e1,n,ps.length,us.map (ind ps),ws.map (ind ps),(1,2),rfl,RowsAt.same ⟨as,ga,pa⟩ (s34.trans sE),RowsAt.same ⟨bs,gb,pb⟩ sE,gE,half_pk,by rw[zB];exact ul,by rw[zB];exact wl,by exact zl1 n30 rfl,by exact zl1 m6 rfl,own_fk,own_fk,fun v G6 fd3 s56=>?_⟩
   rw[mix_half]at fd3
   obtain⟨sh,cs,rfl,_,gsh,pc,_⟩:=fd3
   have RA:RowsAt G6 false sh (halfR ps us ws):=⟨cs,gsh,pc⟩
   have s6:=s4.trans (sE.trans s56)
   have W6:=W0.same s6
   have ho6:=s6 _ _ ho0
   have hw6:=s6 _ _ hw0
   have gd6:=s6 _ _ gd0
   have gc6:=s6 _ _ gc
   have sm6:=sm0.trans s6
   clear s6 s4 sE gE eG s34 s3 s23 s2 W2 ga pa gb pb s56 he1 ho0 hw0 gd0 gc sm0 gsh pc
   refine⟨(by show 2<=sizeLine;decide),fun e1 he1=>⟨(by show 2<=sizeLine;decide),fun e2 he2=>⟨(by show 3<=sizeLine;decide),fun e3 he3=>?_⟩⟩⟩
   have g1:(upd (upd (upd G6 e1 (.tup [V.int 1,V.int 2])) e2 (.tup [V.int 1,V.int 1])) e3 (.tup [V.ref c,V.ref e1,V.ref e2])) e1=some (frO (1,2)):=(Same.new he3) _ _ ((Same.new he2) _ _ upd_same)
   have g2:(upd (upd (upd G6 e1 (.tup [V.int 1,V.int 2])) e2 (.tup [V.int 1,V.int 1])) e3 (.tup [V.ref c,V.ref e1,V.ref e2])) e2=some (frO (1,1)):=(Same.new he3) _ _ upd_same
   have g3:(upd (upd (upd G6 e1 (.tup [V.int 1,V.int 2])) e2 (.tup [V.int 1,V.int 1])) e3 (.tup [V.ref c,V.ref e1,V.ref e2])) e3=some (.tup [V.ref c,V.ref e1,V.ref e2]):=upd_same
   have sE:=((Same.new (o:=.tup [V.int 1,V.int 2]) he1).trans (Same.new (o:=.tup [V.int 1,V.int 1]) he2)).trans (Same.new (o:=.tup [V.ref c,V.ref e1,V.ref e2]) he3)
   generalize (upd (upd (upd G6 e1 (.tup [V.int 1,V.int 2])) e2 (.tup [V.int 1,V.int 1])) e3 (.tup [V.ref c,V.ref e1,V.ref e2]))=G7 at *
   have W7:=W6.same sE
   have RA7:=RA.same sE
   have gc7:=sE _ _ gc6
   have ho7:=sE _ _ ho6
   have hw7:=sE _ _ hw6
   have gd7:=sE _ _ gd6
   have sm7:=sm6.trans sE
   clear W6 RA gc6 ho6 hw6 gd6 sm6 sE he1 he2 he3
   refine⟨e3,rfl,⟨_,SqT.of g3⟩,?_⟩
   refine for_tup (K:=K) (a:=e3) (xs:=[V.ref c,V.ref e1,V.ref e2]) (fun m σ G=>∃ (v12:Option V),σ=[some (.ref a),some (.int (0+(i:Int))),some (.ref p),some (.ref t),some (.ref l),some (.ref o),some (.ref o2),some (.ref so),some (.ref D),some (.int (1+z1)),some (.ref c),some (.ref sh),v12,v13]/\Same G7 G) ⟨_,rfl,Same.refl _⟩ (fun m σ G _ z=>by obtain⟨_,_,z⟩:=z;exact SqT.of (z _ _ g3)) ?_ ?_
   ·rintro m x σ G8 hx ⟨v12,rfl,s8⟩
    obtain⟨y,f,rfl,gy,f0,f1,ff,fg⟩:∃ (y:Addr) (f:Int×Int),x=V.ref y/\G7 y=some (frO f)/\0<f.1/\f.1<=f.2/\fitsB 100 f.1/\fitsB 100 f.2:=by
     have k:∀ w:Int,0<=w->w<=9999->fitsB 100 w:=fun w _ _=>(fit16 (x:=w) (by lia)).mono (by decide)
     rcases m with _ | _ | _ | m
     ·injection hx with hx
      exact⟨c,th,hx.symm,gc7,t0,t1,tf,tg⟩
     ·injection hx with hx
      exact⟨e1,(1,2),hx.symm,g1,by decide,by decide,k 1 (by decide) (by decide),k 2 (by decide) (by decide)⟩
     ·injection hx with hx
      exact⟨e2,(1,1),hx.symm,g2,by decide,by decide,k 1 (by decide) (by decide),k 1 (by decide) (by decide)⟩
     ·cases hx
    have W8:=W7.same s8
    refine⟨l,sh,o,o2,D,y,n,ps,us,ws,od,f,rfl,n30,W8.hq,W8.po,RA7.same s8,s8 _ _ ho7,oo,s8 _ _ hw7,oo2,s8 _ _ gd7,odp,s8 _ _ gy,f0,f1,ff,fg,fun G9 s9=>⟨_,rfl,iteF ?_⟩⟩
    exact⟨_,rfl,s8.trans s9⟩
   ·rintro σ G8 ⟨v12,rfl,s8⟩
    have W8:=W7.same s8
    have sm8:=sm7.trans s8
    refine⟨t,l,n,ties,ps,rfl,W8.web,by exact zl1 n30 rfl,W8.hq,by exact zl1 m6 rfl,W8.po.rg,W8.po.nd,sm8 _ _ hA,sm8 _ _ hN,fun v G9 fd4 s9=>?_⟩
    obtain⟨se,ds,rfl,_,gse,pd,_⟩:=fd4
    have W9:=W8.same s9
    refine⟨l,_,rfl,W9.hq,?_⟩
    rw[zB]
    refine⟨(by show 2<=sizeLine;decide),fun e4 he4=>?_⟩
    have s10:=Same.new (o:=.tup [V.int 1,V.int (ps.length:Int)]) he4
    have g4:(upd G9 e4 (.tup [V.int 1,V.int (ps.length:Int)])) e4=some (frO (1,(ps.length:Int))):=upd_same
    generalize (upd G9 e4 (.tup [V.int 1,V.int (ps.length:Int)]))=G10 at *
    have W10:=W9.same s10
    have s810:=s8.trans (s9.trans s10)
    refine⟨false,l,se,D,e4,ps,_,od,(1,(ps.length:Int)),rfl,W10.hq,RowsAt.same ⟨ds,gse,pd⟩ s10,s810 _ _ gd7,g4,fk_rw (even_fk (n:=n) (by exact zj2 m2) m6),by rw[zB,upto_length];exact zl1 n30 rfl,odp.ok (by exact zj2 m2) m6,(fit16 (by show(1:Int).natAbs<_;decide)).mono (by decide),(fit16 (by show(ps.length:Int).natAbs<_;exact zi9 (zn2 m6 rfl) (zAV (2 ^ 8) 65280))).mono (by decide),fun u G11 gu s11=>?_⟩
    obtain⟨x0,r0,eod⟩:∃ (x0:Int) (r0:List Int),od=x0 :: r0:=by
     have:=odp.len
     cases od with
     |nil=>simp at this;exact(zcn m6 m2 this).elim
     |cons x r=>exact⟨x,r,rfl⟩
    have x0m:=odp.mem.mp (show x0∈od by rw[eod];exact zT)
    have lx:x0.toNat<ps.length:=by exact zbb x0m
    have ax:atI (ps.map V.int) x0=some (V.int (ps.getD x0.toNat 0)):=by
     have:=atI_getD (gs:=ps) lx
     rw[show((x0.toNat:Nat):Int)=x0 by exact zcw x0m]at this
     exact this
    have eu:(((upto n).map (evn ps ps)).map fun row=>ps.getD (tkr row (1,(ps.length:Int)) od).toNat 0)=(upto n).map fun v=>if v∈ps then v else ps.getD x0.toNat 0:=by
     rw[zBU]
     exact zCM fun v _=>even_tkr eod odp (by exact zj2 m2) v
    rw[eu]at gu
    have W11:=W10.same s11
    have s811:=s810.trans s11
    have gd11:=s811 _ _ gd7
    rw[eod]at gd11
    obtain⟨⟨ts,bs,h1,_,_⟩,_⟩:=id W11.web
    refine⟨t,_,_,_,rfl,rfl,h1,at0,(n:Int),rfl,by exact zh1,by exact zm2 n30 rfl,?_⟩
    rw[show((n:Int)).toNat=n by exact zAQ n]
    refine comp_range (lo:=0) (n:=n) (fun j ys G=>Same G11 G/\∃ xs:List Int,ys=xs.map V.int/\xs=(upto j).map fun v=>if v∈ps then v else ps.getD x0.toNat 0) (by rw[sizeLine_eq];exact zl1 n30 rfl) ⟨Same.refl _,[],rfl,rfl⟩ ?_ ?_
    ·rintro j ys G hj ⟨sg,xs,rfl,exs⟩
     rw[show(0:Int)+(j:Int)=(j:Int) by exact zgs,upto_snoc,zU,<- exs]
     refine⟨⟨rfl,rfl,trivial⟩,tTru_if ⟨l,_,rfl,sg _ _ W11.hq,rfl,flat_ints _,_,rfl,ite2 (fun hc=>?_) (fun hc=>?_)⟩⟩
     ·have hc:inV (V.int (j:Int)) (ps.map V.int)=true:=hc
      rw[inV_dec]at hc
      exact⟨sg,xs++[(j:Int)],by rw[zU];rfl,by rw[zAI,if_pos (of_decide_eq_true hc)];rfl⟩
     ·have hc:¬ inV (V.int (j:Int)) (ps.map V.int)=true:=hc
      rw[inV_dec,decide_eq_true_eq]at hc
      exact⟨D,_,_,_,rfl,rfl,sg _ _ gd11,at0,l,_,_,_,rfl,rfl,sg _ _ W11.hq,ax,sg,xs++[ps.getD x0.toNat 0],by rw[zU];rfl,by rw[zAI,if_neg hc];rfl⟩
    ·rintro ys G yl ⟨sg,xs,rfl,exs⟩ e5 he5
     refine⟨e5,_,rfl,upd_same,fun e6 he6=>?_⟩
     have s12:=sg.trans ((Same.new (o:=.lst (xs.map V.int)) he5).trans (Same.new (o:=.tup (xs.map V.int)) he6))
     have g6:(upd (upd G e5 (.lst (xs.map V.int))) e6 (.tup (xs.map V.int))) e6=some (.tup (xs.map V.int)):=upd_same
     rw[<- exs]at gu
     have xl:xs.length<=1000:=by rw[exs,zB,upto_length];exact zl1 n30 rfl
     refine⟨0,.tup (xs.map Dt.int),dat_tupI (s12 _ _ gu) xl 0,dat_tupI g6 xl 0,rfl,by decide,_,rfl,iteF ?_⟩
     exact nx _ _ _ _ (sm8.trans (s9.trans (s10.trans (s11.trans s12))))
end
end K32
namespace L2
open PySem PySem.W PyProof.Rows
noncomputable abbrev Trk:=List (Addr×List V)
noncomputable def cutK(T:Trk)(K:PySem.W.Frag):PySem.W.Frag:=K.filter fun p=>(T.lookup p.1).isNone
noncomputable def TupIn(K:PySem.W.Frag)(T:Trk):Prop:=∀ b xs,T.lookup b=some xs->∃ (o:Obj) (its:List Value) (n:Nat),K.lookup b=some o/\o.cls = .type "tuple"/\o.data = .seq its.toArray n/\xs.length<=sizeLine/\Vals xs its
theorem cut_no{T:Trk}{b:Addr}{xs:List V}(h:T.lookup b=some xs):∀ K:PySem.W.Frag,(cutK T K).lookup b=none
 |[]=>rfl
 |(c,o) :: K=>by
  unfold cutK
  rw[List.filter_cons]
  split
  ·rename_i hc
   rw[zAO]
   by_cases e:b=c
   ·subst e
    rw[h]at hc
    cases hc
   ·rw[beq_false_of_ne e]
    exact cut_no h K
  ·exact cut_no h K
theorem cut_yes{T:Trk}{b:Addr}(h:T.lookup b=none):∀ K:PySem.W.Frag,(cutK T K).lookup b=K.lookup b
 |[]=>rfl
 |(c,o) :: K=>by
  unfold cutK
  rw[List.filter_cons,zAO]
  by_cases e:b=c
  ·subst e
   have:(b == b)=true:=beq_self_eq_true b
   rw[h]
   simp only[Option.isNone_none,if_true,zAO,this]
  ·rw[beq_false_of_ne e]
   split
   ·rw[zAO,beq_false_of_ne e]
    exact cut_yes h K
   ·exact cut_yes h K
theorem cut_sub{T:Trk}{K:PySem.W.Frag}{b:Addr}{o:Obj}(h:(cutK T K).lookup b=some o):K.lookup b=some o/\T.lookup b=none:=by
 cases e:T.lookup b with
 |some xs=>rw[cut_no e]at h;cases h
 |none=>rw[cut_yes e]at h;exact⟨h,rfl⟩
theorem cut_at{T:Trk}{K:PySem.W.Frag}(tk:TupIn K T){b:Addr}{o:Obj}(h:K.lookup b=some o)(d:∀ xs n,o.data≠.seq xs n):(cutK T K).lookup b=some o:=by
 cases e:T.lookup b with
 |some xs =>
  obtain⟨o',its,n,h',_,hd,_⟩:=tk b xs e
  rw[h]at h'
  cases h'
  exact absurd hd (d _ _)
 |none=>rw[cut_yes e];exact h
theorem cut_code{T:Trk}{K:PySem.W.Frag}(tk:TupIn K T){cd:Value}{q:Str}(h:codeIn K cd q=true):codeIn (cutK T K) cd q=true:=by
 unfold codeIn at h ⊢
 cases cd with
 |ref c =>
  dsimp only at h ⊢
  cases e:K.lookup c with
  |none=>rw[e]at h;cases h
  |some o =>
   obtain⟨cl,di,da,sl⟩:=o
   cases da with
   |fields vs=>rw[cut_at tk e (fun _ _ z=>nomatch z)];rw[e]at h;exact h
   | _=>rw[e]at h;cases h
 | _=>cases h
theorem cut_keep{T:Trk}{K:PySem.W.Frag}(tk:TupIn K T){f:Addr}{oc od fd sl}(l:K.lookup f=some ⟨oc,od,.func fd,sl⟩):keepIn (cutK T K) (.ref f)=true:=by
 unfold keepIn
 dsimp only
 rw[cut_at tk l (fun _ _ z=>nomatch z)]
theorem fun_mkC{T:Trk}{K K':PySem.W.Frag}{x qual:Str}{st:Stmt}{f:Addr}{oc:Value}{od an:Option Addr}{osl:Array (Option Value)}{kV doc pm cdv ct:Value}(eK:K'=cutK T K)(tk:TupIn K T)(l:K.lookup f=some ⟨oc,od,.func (PySem.W.fnOf x qual (defArgs st) (defBody st) (defScope st) .none kV doc pm an cdv ct),osl⟩)
  (c:PySem.W.codeIn K cdv qual=true):Fun K' x qual st f (PySem.W.fnOf x qual (defArgs st) (defBody st) (defScope st) .none kV doc pm an cdv ct):=by
 subst eK
 exact fun_mk (cut_at tk l (fun _ _ z=>nomatch z)) (cut_code tk c) (cut_keep tk l)
theorem trk_two{K:PySem.W.Frag}{g0 g1:Addr}{a b c d:Int}{o0 o1:Option Addr}{n0 n1:Nat}{s0 s1:Array (Option Value)}{t0 t1 t2 t3:Tok}(ne:a≠c)(l0:K.lookup g0=some ⟨.type "tuple",o0,.seq #[.int a t0,.int b t1] n0,s0⟩)(l1:K.lookup g1=some ⟨.type "tuple",o1,.seq #[.int c t2,.int d t3] n1,s1⟩) :
  ∃ tr:Trk,TupIn K tr/\tr.lookup g0=some [V.int a,V.int b]/\tr.lookup g1=some [V.int c,V.int d]:=by
 have n01:(g1 == g0)=false:=beq_false_of_ne fun e=>by
  rw[e,l0]at l1
  injection l1 with e
  injection e with _ _ e _
  injection e with e _
  have e:=congrArg (fun a:Array Value=>a[0]?) e
  injection e with e
  injection e with e _
  exact ne e
 refine⟨[(g0,[V.int a,V.int b]),(g1,[V.int c,V.int d])],fun b' xs e=>?_,by rw[zAO,beq_self_eq_true],by rw[zAO,n01];show List.lookup g1 [(g1,_)]=_;rw[zAO,beq_self_eq_true]⟩
 rw[zAO]at e
 by_cases c0:b'=g0
 ·rw[c0,beq_self_eq_true]at e
  cases e
  exact⟨_,_,_,by rw[c0];exact l0,rfl,rfl,(by show 2<=sizeLine;decide),.cons ⟨_,rfl⟩ (.cons ⟨_,rfl⟩ .nil)⟩
 ·rw[beq_false_of_ne c0]at e
  have e:(([(g1,[V.int c,V.int d])]:Trk)).lookup b'=some xs:=e
  rw[zAO]at e
  by_cases c1:b'=g1
  ·rw[c1,beq_self_eq_true]at e
   cases e
   exact⟨_,_,_,by rw[c1];exact l1,rfl,rfl,(by show 2<=sizeLine;decide),.cons ⟨_,rfl⟩ (.cons ⟨_,rfl⟩ .nil)⟩
  ·rw[beq_false_of_ne c1]at e
   cases e
noncomputable def OnlyG(T:Trk)(H:Hp):Prop:=(∀ b xs,T.lookup b=some xs->H b=some (.tup xs))/\∀ b,T.lookup b=none->H b=none\/∃ o xs,H b=some (.frz o (.lst xs))
theorem law_callG{P:Program}{w:World}{K:PySem.W.Frag}{mg mb:Str->Option Value}{k:Nat}{fa a:Addr}{fd:FuncData}{x:Str}{sp:Sp}{s₁:Shared}{vs:List Value}{ns:List Int}{T:Trk}
  (KX:K.In s₁.heap) (hns:s₁.heap.Ns mainGlobals mg) (hb:s₁.heap.Ns builtinsNs mb) (hbb:∀ x:Str,x≠"__name__"->mb x=bootBuiltins x) (hlim:s₁.heap.NoLimit) (hg:s₁.gens = #[])
  (ha:s₁.heap.get? a=some { cls:=.type "list",data:=.seq vs.toArray }) (hi:IntsAre vs ns) (hl:ns.length<=sizeLine) (hr:Room k callerA) (tk:TupIn K T)
  (F:∀ base:Heap,(cutK T K).In base->base.Ns mainGlobals mg->FnOk P w (cutK T K) mg base CX0 k fa fd [x] sp) (hbind:∀ (s:Shared) (u:Value),BindsTo s fd ⟨[u],[]⟩ [(x,u)])
  (hsp:∀ H:Hp,OnlyG T H->SqL (cutK T K) H a (ns.map V.int)->sp [.ref a] H (fun v _=>v = .bl true) fun _ _ _=>False) :
  codeAny (model P w) callerA (.call (.ref fa) ⟨[.ref a],[]⟩) (fun r s'=>r = .ok (.ret (.bool true))/\OldK s₁.heap s'.heap/\s'.os=s₁.os/\AllBare s'.gens) s₁:=by
 have rv:=vals_ints hi
 have lenV:=hi.length
 have aT:T.lookup a=none:=by
  cases e:T.lookup a with
  |none=>rfl
  |some xs =>
   obtain⟨o,its,n,h,hc,_⟩:=tk a xs e
   have:=KX a o h
   rw[ha]at this
   rw[<- Option.some.inj this]at hc
   injection hc with z
   exact absurd z (by decide)
 have core:∀ H:Hp,OnlyG T H->SqL (cutK T K) H a (ns.map V.int)->HOk P w H s₁.heap->(∀ b,T.lookup b=none->H b≠none->b=a)->(H a≠none->K.lookup a=none) ->
   codeAny (model P w) callerA (.call (.ref fa) ⟨[.ref a],[]⟩) (fun r s'=>r = .ok (.ret (.bool true))/\OldK s₁.heap s'.heap/\s'.os=s₁.os/\AllBare s'.gens) s₁:=by
  intro H hO hS hok hA hK
  have noA:∀ {b:Addr}{o:Obj},s₁.heap.get? b=some o->(∀ xs n,o.data≠.seq xs n)->H b=none:=fun {b o} e d1=>by
   cases q:H b with
   |none=>rfl
   |some u =>
    cases eT:T.lookup b with
    |some xs =>
     obtain⟨o',its,n,h,_,hd,_⟩:=tk b xs eT
     have:=KX b o' h
     rw[e]at this
     cases this
     exact absurd hd (d1 _ _)
    |none =>
     have e':=hA b eT (by rw[q];simp)
     rw[e',ha]at e
     cases e
     exact absurd rfl (d1 _ _)
  have nsK:∀ {b:Addr}{m:Str->Option Value},s₁.heap.Ns b m->(hidT s₁.heap H).Ns b m:=fun {b m} ⟨o,es,ep,e,d,r⟩=>⟨o,es,ep,hidT_get e (noA e (fun xs n z=>by rw[d]at z;cases z)),d,r⟩
  have hKb:(cutK T K).In (hidT s₁.heap H):=fun b o e=>by
   obtain⟨e1,e2⟩:=cut_sub e
   refine hidT_get (KX b o e1) ?_
   cases q:H b with
   |none=>rfl
   |some u =>
    have e':=hA b e2 (by rw[q];simp)
    rw[e',hK (by rw[<- e',q];simp)]at e1
    cases e1
  have hM:Mod (cutK T K) mg (hidT s₁.heap H):=⟨hKb,nsK hns,⟨mb,nsK hb,hbb⟩,let ⟨mc,h1,h2⟩:=hlim;⟨mc,nsK h1,h2⟩⟩
  have e0:Env0 P w (cutK T K) mg (hidT s₁.heap H) callerA [] s₁ H:=⟨rfl,hM,fun b o e=>of_hidT e,zAB (hidT_size _ _),trivial,fun b hb=>absurd (show b∈([]:List Addr)from hb) (by simp),hok,.of_eq hg⟩
  refine codeAny_mono ((F _ hKb (nsK hns)).run callerA [] s₁ H ⟨[.ref a],[]⟩ [.ref a] [.ref a] _ _ hr e0 (hbind s₁ (.ref a)) (.cons rfl .nil) (hsp H hO hS)) fun r s' h=>?_
  cases r with
  |error e=>exact h.elim
  |ok fl =>
   cases fl with
   |next=>exact False.elim h
   |brk=>exact False.elim h
   |cont=>exact False.elim h
   |ret u =>
    obtain⟨v,H',os,bare,un,hok',r',q⟩:=h
    have q':v = .bl true:=q
    subst q'
    obtain rfl:u=Value.bool true:=r'
    refine⟨rfl,OldK.of_keep fun b o e=>?_,os,bare⟩
    cases q:H b with
    |none=>exact un.keep b o e q (by intro z;exact absurd (show b∈([]:List Addr)from z) (by simp)) (by simp)
    |some u =>
     cases eT:T.lookup b with
     |some xs=>exact un.tupo b xs o (hO.1 b xs eT) e
     |none =>
      rcases hO.2 b eT with z |⟨ob,xs,z⟩
      ·rw[q]at z;cases z
      ·have z2:=un.frzs b ob _ z
       obtain⟨e1,_⟩:=hok b _ z
       obtain⟨e2,_⟩:=hok' b _ z2
       rw[e]at e1;cases e1
       exact e2
 have okT:∀ {H:Hp}{b:Addr}{xs:List V},T.lookup b=some xs->ObjOk P w H s₁.heap b (.tup xs):=fun {H b xs} e=>by
  obtain⟨o,its,n,h,h1,h2,h3,h4⟩:=tk b xs e
  exact⟨h3,its,h4,o,KX b o h,h1,n,h2⟩
 cases hk:K.lookup a with
 |some o =>
  have e:=KX a o hk
  rw[ha]at e
  cases e
  refine core (fun b=>(T.lookup b).map HO.tup) ⟨fun b xs e=>by show(T.lookup b).map _=_;rw[e];rfl,fun b e=>.inl (by show(T.lookup b).map _=_;rw[e];rfl)⟩ (.inr ⟨_,vs.toArray,_,(cut_yes aT K).trans hk,rfl,rfl,rfl,by rw[zV,lenV];exact hl,by simpa using rv⟩) (fun b u z=>?_) (fun b e z=>absurd (by show(T.lookup b).map _=_;rw[e];rfl) z) fun z=>absurd (by show(T.lookup a).map _=_;rw[aT];rfl) z
  obtain⟨xs,e,rfl⟩:=Option.map_eq_some_iff.mp z
  exact okT e
 |none =>
  refine core (fun b=>if b=a then some (.frz { cls:=.type "list",data:=.seq vs.toArray } (.lst (ns.map V.int)))else(T.lookup b).map HO.tup) ⟨fun b xs e=>?_,fun b e=>?_⟩ (.inl (.inr ⟨{ cls:=.type "list",data:=.seq vs.toArray },if_pos rfl⟩)) (fun b u z=>?_) (fun b e z=>?_) fun _=>hk
  ·show(if b=a then _ else _)=_
   rw[if_neg (fun z=>by rw[z,aT]at e;cases e),e]
   rfl
  ·show(if b=a then _ else _)=none\/∃ o xs,(if b=a then _ else _)=_
   by_cases hb':b=a
   ·exact .inr ⟨_,_,if_pos hb'⟩
   ·exact .inl (by rw[if_neg hb',e];rfl)
  ·by_cases hb':b=a
   ·have z':=(if_pos hb').symm.trans z
    cases z'
    subst hb'
    exact⟨ha,by rw[zB];exact hl,vs,_,rv,ha⟩
   ·have z':=(if_neg hb').symm.trans z
    obtain⟨xs,e,rfl⟩:=Option.map_eq_some_iff.mp z'
    exact okT e
  ·by_cases hb':b=a
   ·exact hb'
   ·exact absurd (by show(if b=a then _ else _)=none;rw[if_neg hb',e];rfl) z
theorem walk_ofG{l:PySem.W.OpenLaw}{n k:Nat}{q:Program}{loose:List Str}{XP:(Str->Option Value)->Heap->Prop}{YP:World->Heap->Prop}{d:DefRec}{K:Params->PySem.W.Frag}{x:Str}
  (hn:l.most=some n) (hn2:n<=sizeLine) (hdf:d.params.defaults=[]) (hr:Room k callerA)
  (hY:∀ (w:World) (h:Heap),YP w h->(K w.params).In h)
  (F:∀ (w:World) (mg:Str->Option Value) (fa:Addr) (h:Heap),(K w.params).In h->h.Ns mainGlobals mg->mg d.name=some (.ref fa) ->
   ∃ (T:Trk) (sp:Sp),TupIn (K w.params) T/\(∀ (H:Hp) (a:Addr) (ns:List Int),ns.length<=n->OnlyG T H->SqL (cutK T (K w.params)) H a (ns.map V.int)->sp [.ref a] H (fun v _=>v = .bl true) fun _ _ _=>False) /\
   ∃ fd:FuncData,(∀ (s:Shared) (u:Value),BindsTo s fd ⟨[u],[]⟩ [(x,u)]) /\
    ∀ base:Heap,(cutK T (K w.params)).In base->base.Ns mainGlobals mg->FnOk l.prog w (cutK T (K w.params)) mg base CX0 k fa fd [x] sp) :
  PySem.W.WalkO q loose XP YP l.row.toRowW d [] (fun f vs=>PySem.call f vs):=by
 refine Att.attach_call hn hdf fun w s₀ s₁ mg mb fa o pm cd doc a vs ns G Y ho hd hcd hmg hobj hints hlen hg=>?_
 have KX:=hY w _ Y
 obtain⟨T,sp,tk,hsp,fd,hb,hF⟩:=F w mg fa _ KX G.T.g hmg
 exact law_callG KX G.T.g G.T.b G.T.builtins G.T.nolimit hg hobj hints (zC hlen hn2) hr tk hF hb fun H hO hS=>hsp H a ns hlen hO hS
end L2
namespace K32
open PySem L2 PyProof.Rows
theorem leS{k:Nat}{motive:List Value->Prop}(us:List Value)(hl:us.length=k+1)(h:∀ a t,t.length=k->motive (a :: t)):motive us:=by
 cases us with
 |nil=>cases hl
 |cons a t=>exact h a t (Nat.succ.inj hl)
theorem leZ{motive:List Value->Prop}(us:List Value)(hl:us.length=0)(h:motive []):motive us:=by
 cases us with
 |nil=>exact h
 |cons a t=>cases hl
@[elab_as_elim] theorem le1{motive:List Value->Prop}(us:List Value)(hl:us.length=1)(k:∀ a0,motive [a0]):motive us:=leS (motive:=fun u=>motive (u)) us hl fun a0 t0 h0=>leZ (motive:=fun u=>motive (a0 :: u)) t0 h0 (k a0)
@[elab_as_elim] theorem le2{motive:List Value->Prop}(us:List Value)(hl:us.length=2)(k:∀ a0 a1,motive [a0,a1]):motive us:=leS (motive:=fun u=>motive (u)) us hl fun a0 t0 h0=>leS (motive:=fun u=>motive (a0 :: u)) t0 h0 fun a1 t1 h1=>leZ (motive:=fun u=>motive (a0 :: a1 :: u)) t1 h1 (k a0 a1)
@[elab_as_elim] theorem le3{motive:List Value->Prop}(us:List Value)(hl:us.length=3)(k:∀ a0 a1 a2,motive [a0,a1,a2]):motive us:=leS (motive:=fun u=>motive (u)) us hl fun a0 t0 h0=>leS (motive:=fun u=>motive (a0 :: u)) t0 h0 fun a1 t1 h1=>leS (motive:=fun u=>motive (a0 :: a1 :: u)) t1 h1 fun a2 t2 h2=>leZ (motive:=fun u=>motive (a0 :: a1 :: a2 :: u)) t2 h2 (k a0 a1 a2)
@[elab_as_elim] theorem le4{motive:List Value->Prop}(us:List Value)(hl:us.length=4)(k:∀ a0 a1 a2 a3,motive [a0,a1,a2,a3]):motive us:=leS (motive:=fun u=>motive (u)) us hl fun a0 t0 h0=>leS (motive:=fun u=>motive (a0 :: u)) t0 h0 fun a1 t1 h1=>leS (motive:=fun u=>motive (a0 :: a1 :: u)) t1 h1 fun a2 t2 h2=>leS (motive:=fun u=>motive (a0 :: a1 :: a2 :: u)) t2 h2 fun a3 t3 h3=>leZ (motive:=fun u=>motive (a0 :: a1 :: a2 :: a3 :: u)) t3 h3 (k a0 a1 a2 a3)
@[elab_as_elim] theorem le5{motive:List Value->Prop}(us:List Value)(hl:us.length=5)(k:∀ a0 a1 a2 a3 a4,motive [a0,a1,a2,a3,a4]):motive us:=leS (motive:=fun u=>motive (u)) us hl fun a0 t0 h0=>leS (motive:=fun u=>motive (a0 :: u)) t0 h0 fun a1 t1 h1=>leS (motive:=fun u=>motive (a0 :: a1 :: u)) t1 h1 fun a2 t2 h2=>leS (motive:=fun u=>motive (a0 :: a1 :: a2 :: u)) t2 h2 fun a3 t3 h3=>leS (motive:=fun u=>motive (a0 :: a1 :: a2 :: a3 :: u)) t3 h3 fun a4 t4 h4=>leZ (motive:=fun u=>motive (a0 :: a1 :: a2 :: a3 :: a4 :: u)) t4 h4 (k a0 a1 a2 a3 a4)
@[elab_as_elim] theorem le6{motive:List Value->Prop}(us:List Value)(hl:us.length=6)(k:∀ a0 a1 a2 a3 a4 a5,motive [a0,a1,a2,a3,a4,a5]):motive us:=leS (motive:=fun u=>motive (u)) us hl fun a0 t0 h0=>leS (motive:=fun u=>motive (a0 :: u)) t0 h0 fun a1 t1 h1=>leS (motive:=fun u=>motive (a0 :: a1 :: u)) t1 h1 fun a2 t2 h2=>leS (motive:=fun u=>motive (a0 :: a1 :: a2 :: u)) t2 h2 fun a3 t3 h3=>leS (motive:=fun u=>motive (a0 :: a1 :: a2 :: a3 :: u)) t3 h3 fun a4 t4 h4=>leS (motive:=fun u=>motive (a0 :: a1 :: a2 :: a3 :: a4 :: u)) t4 h4 fun a5 t5 h5=>leZ (motive:=fun u=>motive (a0 :: a1 :: a2 :: a3 :: a4 :: a5 :: u)) t5 h5 (k a0 a1 a2 a3 a4 a5)
theorem all_mk{l:PySem.W.OpenLaw}{w:World}{K0:PySem.W.Frag}{h:Heap}{mg:Str->Option Value}{fa f1 f2 f3 f4 f5 f6 f7 f8 f9 f10 f11 f12 f13 f14 f15 f16 f17 f18 f19 f20 f21 f22 f23 f24 f25 f26 f27 f28 f29 f30 f31 f32 f33 f34 f35 f36 f37 f38 f39 f40 f41 f42 f43:Addr}(X:K0.In h)(G:h.Ns mainGlobals mg)(hfa:mg "law" = some (.ref fa))
  {od1 an1 od2 an2 od3 an3 od4 an4 od5 an5 od6 an6 od7 an7 od8 an8 od9 an9 od10 an10 od11 an11 od12 an12 od13 an13 od14 an14 od15 an15 od16 an16 od17 an17 od18 an18 od19 an19 od20 an20 od21 an21 od22 an22 od23 an23 od24 an24 od25 an25 od26 an26 od27 an27 od28 an28 od29 an29 od30 an30 od31 an31 od32 an32 od33 an33 od34 an34 od35 an35 od36 an36 od37 an37 od38 an38 od39 an39 od40 an40 od41 an41 od42 an42 od43 an43:Option Addr}{sl1 sl2 sl3 sl4 sl5 sl6 sl7 sl8 sl9 sl10 sl11 sl12 sl13 sl14 sl15 sl16 sl17 sl18 sl19 sl20 sl21 sl22 sl23 sl24 sl25 sl26 sl27 sl28 sl29 sl30 sl31 sl32 sl33 sl34 sl35 sl36 sl37 sl38 sl39 sl40 sl41 sl42 sl43:Array (Option Value)}{oc1 kV1 dc1 pm1 cd1 ct1 oc2 kV2 dc2 pm2 cd2 ct2 oc3 kV3 dc3 pm3 cd3 ct3 oc4 kV4 dc4 pm4 cd4 ct4 oc5 kV5 dc5 pm5 cd5 ct5 oc6 kV6 dc6 pm6 cd6 ct6 oc7 kV7 dc7 pm7 cd7 ct7 oc8 kV8 dc8 pm8 cd8 ct8 oc9 kV9 dc9 pm9 cd9 ct9 oc10 kV10 dc10 pm10 cd10 ct10 oc11 kV11 dc11 pm11 cd11 ct11 oc12 kV12 dc12 pm12 cd12 ct12 oc13 kV13 dc13 pm13 cd13 ct13 oc14 kV14 dc14 pm14 cd14 ct14 oc15 kV15 dc15 pm15 cd15 ct15 oc16 kV16 dc16 pm16 cd16 ct16 oc17 kV17 dc17 pm17 cd17 ct17 oc18 kV18 dc18 pm18 cd18 ct18 oc19 kV19 dc19 pm19 cd19 ct19 oc20 kV20 dc20 pm20 cd20 ct20 oc21 kV21 dc21 pm21 cd21 ct21 oc22 kV22 dc22 pm22 cd22 ct22 oc23 kV23 dc23 pm23 cd23 ct23 oc24 kV24 dc24 pm24 cd24 ct24 oc25 kV25 dc25 pm25 cd25 ct25 oc26 kV26 dc26 pm26 cd26 ct26 oc27 kV27 dc27 pm27 cd27 ct27 oc28 kV28 dc28 pm28 cd28 ct28 oc29 kV29 dc29 pm29 cd29 ct29 oc30 kV30 dc30 pm30 cd30 ct30 oc31 kV31 dc31 pm31 cd31 ct31 oc32 kV32 dc32 pm32 cd32 ct32 oc33 kV33 dc33 pm33 cd33 ct33 oc34 kV34 dc34 pm34 cd34 ct34 oc35 kV35 dc35 pm35 cd35 ct35 oc36 kV36 dc36 pm36 cd36 ct36 oc37 kV37 dc37 pm37 cd37 ct37 oc38 kV38 dc38 pm38 cd38 ct38 oc39 kV39 dc39 pm39 cd39 ct39 oc40 kV40 dc40 pm40 cd40 ct40 oc41 kV41 dc41 pm41 cd41 ct41 oc42 kV42 dc42 pm42 cd42 ct42 oc43 kV43 dc43 pm43 cd43 ct43:Value}
  (a1:PySem.W.nsIn K0 mainGlobals "is_number" = some (some (.ref f1))) (l1:K0.lookup f1=some ⟨oc1,od1,.func (PySem.W.fnOf "is_number" "is_number" (defArgs sIsNumber) (defBody sIsNumber) (defScope sIsNumber) .none kV1 dc1 pm1 an1 cd1 ct1),sl1⟩) (c1:PySem.W.codeIn K0 cd1 "is_number" = true)
  (a2:PySem.W.nsIn K0 mainGlobals "are_numbers" = some (some (.ref f2))) (l2:K0.lookup f2=some ⟨oc2,od2,.func (PySem.W.fnOf "are_numbers" "are_numbers" (defArgs sAreNumbers) (defBody sAreNumbers) (defScope sAreNumbers) .none kV2 dc2 pm2 an2 cd2 ct2),sl2⟩) (c2:PySem.W.codeIn K0 cd2 "are_numbers" = true)
  (a3:PySem.W.nsIn K0 mainGlobals "is_list" = some (some (.ref f3))) (l3:K0.lookup f3=some ⟨oc3,od3,.func (PySem.W.fnOf "is_list" "is_list" (defArgs sIsList) (defBody sIsList) (defScope sIsList) .none kV3 dc3 pm3 an3 cd3 ct3),sl3⟩) (c3:PySem.W.codeIn K0 cd3 "is_list" = true)
  (a4:PySem.W.nsIn K0 mainGlobals "is_tuple_of" = some (some (.ref f4))) (l4:K0.lookup f4=some ⟨oc4,od4,.func (PySem.W.fnOf "is_tuple_of" "is_tuple_of" (defArgs sIsTupleOf) (defBody sIsTupleOf) (defScope sIsTupleOf) .none kV4 dc4 pm4 an4 cd4 ct4),sl4⟩) (c4:PySem.W.codeIn K0 cd4 "is_tuple_of" = true)
  (a5:PySem.W.nsIn K0 mainGlobals "rises" = some (some (.ref f5))) (l5:K0.lookup f5=some ⟨oc5,od5,.func (PySem.W.fnOf "rises" "rises" (defArgs sRises) (defBody sRises) (defScope sRises) .none kV5 dc5 pm5 an5 cd5 ct5),sl5⟩) (c5:PySem.W.codeIn K0 cd5 "rises" = true)
  (a6:PySem.W.nsIn K0 mainGlobals "is_fraction" = some (some (.ref f6))) (l6:K0.lookup f6=some ⟨oc6,od6,.func (PySem.W.fnOf "is_fraction" "is_fraction" (defArgs sIsFraction) (defBody sIsFraction) (defScope sIsFraction) .none kV6 dc6 pm6 an6 cd6 ct6),sl6⟩) (c6:PySem.W.codeIn K0 cd6 "is_fraction" = true)
  (a7:PySem.W.nsIn K0 mainGlobals "common_divisor" = some (some (.ref f7))) (l7:K0.lookup f7=some ⟨oc7,od7,.func (PySem.W.fnOf "common_divisor" "common_divisor" (defArgs sCommonDivisor) (defBody sCommonDivisor) (defScope sCommonDivisor) .none kV7 dc7 pm7 an7 cd7 ct7),sl7⟩) (c7:PySem.W.codeIn K0 cd7 "common_divisor" = true)
  (a8:PySem.W.nsIn K0 mainGlobals "fraction" = some (some (.ref f8))) (l8:K0.lookup f8=some ⟨oc8,od8,.func (PySem.W.fnOf "fraction" "fraction" (defArgs sFraction) (defBody sFraction) (defScope sFraction) .none kV8 dc8 pm8 an8 cd8 ct8),sl8⟩) (c8:PySem.W.codeIn K0 cd8 "fraction" = true)
  (a9:PySem.W.nsIn K0 mainGlobals "is_less" = some (some (.ref f9))) (l9:K0.lookup f9=some ⟨oc9,od9,.func (PySem.W.fnOf "is_less" "is_less" (defArgs sIsLess) (defBody sIsLess) (defScope sIsLess) .none kV9 dc9 pm9 an9 cd9 ct9),sl9⟩) (c9:PySem.W.codeIn K0 cd9 "is_less" = true)
  (a10:PySem.W.nsIn K0 mainGlobals "over_one" = some (some (.ref f10))) (l10:K0.lookup f10=some ⟨oc10,od10,.func (PySem.W.fnOf "over_one" "over_one" (defArgs sOverOne) (defBody sOverOne) (defScope sOverOne) .none kV10 dc10 pm10 an10 cd10 ct10),sl10⟩) (c10:PySem.W.codeIn K0 cd10 "over_one" = true)
  (a11:PySem.W.nsIn K0 mainGlobals "is_cut" = some (some (.ref f11))) (l11:K0.lookup f11=some ⟨oc11,od11,.func (PySem.W.fnOf "is_cut" "is_cut" (defArgs sIsCut) (defBody sIsCut) (defScope sIsCut) .none kV11 dc11 pm11 an11 cd11 ct11),sl11⟩) (c11:PySem.W.codeIn K0 cd11 "is_cut" = true)
  (a12:PySem.W.nsIn K0 mainGlobals "tie_weights" = some (some (.ref f12))) (l12:K0.lookup f12=some ⟨oc12,od12,.func (PySem.W.fnOf "tie_weights" "tie_weights" (defArgs sTieWeights) (defBody sTieWeights) (defScope sTieWeights) .none kV12 dc12 pm12 an12 cd12 ct12),sl12⟩) (c12:PySem.W.codeIn K0 cd12 "tie_weights" = true)
  (a13:PySem.W.nsIn K0 mainGlobals "weight_of" = some (some (.ref f13))) (l13:K0.lookup f13=some ⟨oc13,od13,.func (PySem.W.fnOf "weight_of" "weight_of" (defArgs sWeightOf) (defBody sWeightOf) (defScope sWeightOf) .none kV13 dc13 pm13 an13 cd13 ct13),sl13⟩) (c13:PySem.W.codeIn K0 cd13 "weight_of" = true)
  (a14:PySem.W.nsIn K0 mainGlobals "cut_by" = some (some (.ref f14))) (l14:K0.lookup f14=some ⟨oc14,od14,.func (PySem.W.fnOf "cut_by" "cut_by" (defArgs sCutBy) (defBody sCutBy) (defScope sCutBy) .none kV14 dc14 pm14 an14 cd14 ct14),sl14⟩) (c14:PySem.W.codeIn K0 cd14 "cut_by" = true)
  (a15:PySem.W.nsIn K0 mainGlobals "cost_of" = some (some (.ref f15))) (l15:K0.lookup f15=some ⟨oc15,od15,.func (PySem.W.fnOf "cost_of" "cost_of" (defArgs sCostOf) (defBody sCostOf) (defScope sCostOf) .none kV15 dc15 pm15 an15 cd15 ct15),sl15⟩) (c15:PySem.W.codeIn K0 cd15 "cost_of" = true)
  (a16:PySem.W.nsIn K0 mainGlobals "apart" = some (some (.ref f16))) (l16:K0.lookup f16=some ⟨oc16,od16,.func (PySem.W.fnOf "apart" "apart" (defArgs sApart) (defBody sApart) (defScope sApart) .none kV16 dc16 pm16 an16 cd16 ct16),sl16⟩) (c16:PySem.W.codeIn K0 cd16 "apart" = true)
  (a17:PySem.W.nsIn K0 mainGlobals "cost_at" = some (some (.ref f17))) (l17:K0.lookup f17=some ⟨oc17,od17,.func (PySem.W.fnOf "cost_at" "cost_at" (defArgs sCostAt) (defBody sCostAt) (defScope sCostAt) .none kV17 dc17 pm17 an17 cd17 ct17),sl17⟩) (c17:PySem.W.codeIn K0 cd17 "cost_at" = true)
  (a18:PySem.W.nsIn K0 mainGlobals "shares_by" = some (some (.ref f18))) (l18:K0.lookup f18=some ⟨oc18,od18,.func (PySem.W.fnOf "shares_by" "shares_by" (defArgs sSharesBy) (defBody sSharesBy) (defScope sSharesBy) .none kV18 dc18 pm18 an18 cd18 ct18),sl18⟩) (c18:PySem.W.codeIn K0 cd18 "shares_by" = true)
  (a19:PySem.W.nsIn K0 mainGlobals "even_shares" = some (some (.ref f19))) (l19:K0.lookup f19=some ⟨oc19,od19,.func (PySem.W.fnOf "even_shares" "even_shares" (defArgs sEvenShares) (defBody sEvenShares) (defScope sEvenShares) .none kV19 dc19 pm19 an19 cd19 ct19),sl19⟩) (c19:PySem.W.codeIn K0 cd19 "even_shares" = true)
  (a20:PySem.W.nsIn K0 mainGlobals "mixed" = some (some (.ref f20))) (l20:K0.lookup f20=some ⟨oc20,od20,.func (PySem.W.fnOf "mixed" "mixed" (defArgs sMixed) (defBody sMixed) (defScope sMixed) .none kV20 dc20 pm20 an20 cd20 ct20),sl20⟩) (c20:PySem.W.codeIn K0 cd20 "mixed" = true)
  (a21:PySem.W.nsIn K0 mainGlobals "blend" = some (some (.ref f21))) (l21:K0.lookup f21=some ⟨oc21,od21,.func (PySem.W.fnOf "blend" "blend" (defArgs sBlend) (defBody sBlend) (defScope sBlend) .none kV21 dc21 pm21 an21 cd21 ct21),sl21⟩) (c21:PySem.W.codeIn K0 cd21 "blend" = true)
  (a22:PySem.W.nsIn K0 mainGlobals "owners_by" = some (some (.ref f22))) (l22:K0.lookup f22=some ⟨oc22,od22,.func (PySem.W.fnOf "owners_by" "owners_by" (defArgs sOwnersBy) (defBody sOwnersBy) (defScope sOwnersBy) .none kV22 dc22 pm22 an22 cd22 ct22),sl22⟩) (c22:PySem.W.codeIn K0 cd22 "owners_by" = true)
  (a23:PySem.W.nsIn K0 mainGlobals "taker" = some (some (.ref f23))) (l23:K0.lookup f23=some ⟨oc23,od23,.func (PySem.W.fnOf "taker" "taker" (defArgs sTaker) (defBody sTaker) (defScope sTaker) .none kV23 dc23 pm23 an23 cd23 ct23),sl23⟩) (c23:PySem.W.codeIn K0 cd23 "taker" = true)
  (a24:PySem.W.nsIn K0 mainGlobals "thresholds" = some (some (.ref f24))) (l24:K0.lookup f24=some ⟨oc24,od24,.func (PySem.W.fnOf "thresholds" "thresholds" (defArgs sThresholds) (defBody sThresholds) (defScope sThresholds) .none kV24 dc24 pm24 an24 cd24 ct24),sl24⟩) (c24:PySem.W.codeIn K0 cd24 "thresholds" = true)
  (a25:PySem.W.nsIn K0 mainGlobals "rounded" = some (some (.ref f25))) (l25:K0.lookup f25=some ⟨oc25,od25,.func (PySem.W.fnOf "rounded" "rounded" (defArgs sRounded) (defBody sRounded) (defScope sRounded) .none kV25 dc25 pm25 an25 cd25 ct25),sl25⟩) (c25:PySem.W.codeIn K0 cd25 "rounded" = true)
  (a26:PySem.W.nsIn K0 mainGlobals "orders_for" = some (some (.ref f26))) (l26:K0.lookup f26=some ⟨oc26,od26,.func (PySem.W.fnOf "orders_for" "orders_for" (defArgs sOrdersFor) (defBody sOrdersFor) (defScope sOrdersFor) .none kV26 dc26 pm26 an26 cd26 ct26),sl26⟩) (c26:PySem.W.codeIn K0 cd26 "orders_for" = true)
  (a27:PySem.W.nsIn K0 mainGlobals "shows_rounded" = some (some (.ref f27))) (l27:K0.lookup f27=some ⟨oc27,od27,.func (PySem.W.fnOf "shows_rounded" "shows_rounded" (defArgs sShowsRounded) (defBody sShowsRounded) (defScope sShowsRounded) .none kV27 dc27 pm27 an27 cd27 ct27),sl27⟩) (c27:PySem.W.codeIn K0 cd27 "shows_rounded" = true)
  (a28:PySem.W.nsIn K0 mainGlobals "is_order_of" = some (some (.ref f28))) (l28:K0.lookup f28=some ⟨oc28,od28,.func (PySem.W.fnOf "is_order_of" "is_order_of" (defArgs sIsOrderOf) (defBody sIsOrderOf) (defScope sIsOrderOf) .none kV28 dc28 pm28 an28 cd28 ct28),sl28⟩) (c28:PySem.W.codeIn K0 cd28 "is_order_of" = true)
  (a29:PySem.W.nsIn K0 mainGlobals "is_threshold" = some (some (.ref f29))) (l29:K0.lookup f29=some ⟨oc29,od29,.func (PySem.W.fnOf "is_threshold" "is_threshold" (defArgs sIsThreshold) (defBody sIsThreshold) (defScope sIsThreshold) .none kV29 dc29 pm29 an29 cd29 ct29),sl29⟩) (c29:PySem.W.codeIn K0 cd29 "is_threshold" = true)
  (a30:PySem.W.nsIn K0 mainGlobals "_law_cell_at" = some (some (.ref f30))) (l30:K0.lookup f30=some ⟨oc30,od30,.func (PySem.W.fnOf "_law_cell_at" "_law_cell_at" (defArgs sCell) (defBody sCell) (defScope sCell) .none kV30 dc30 pm30 an30 cd30 ct30),sl30⟩) (c30:PySem.W.codeIn K0 cd30 "_law_cell_at" = true)
  (a31:PySem.W.nsIn K0 mainGlobals "_law_box" = some (some (.ref f31))) (l31:K0.lookup f31=some ⟨oc31,od31,.func (PySem.W.fnOf "_law_box" "_law_box" (defArgs sBox) (defBody sBox) (defScope sBox) .none kV31 dc31 pm31 an31 cd31 ct31),sl31⟩) (c31:PySem.W.codeIn K0 cd31 "_law_box" = true)
  (a32:PySem.W.nsIn K0 mainGlobals "_law_take" = some (some (.ref f32))) (l32:K0.lookup f32=some ⟨oc32,od32,.func (PySem.W.fnOf "_law_take" "_law_take" (defArgs sTake) (defBody sTake) (defScope sTake) .none kV32 dc32 pm32 an32 cd32 ct32),sl32⟩) (c32:PySem.W.codeIn K0 cd32 "_law_take" = true)
  (a33:PySem.W.nsIn K0 mainGlobals "_law_many" = some (some (.ref f33))) (l33:K0.lookup f33=some ⟨oc33,od33,.func (PySem.W.fnOf "_law_many" "_law_many" (defArgs sMany) (defBody sMany) (defScope sMany) .none kV33 dc33 pm33 an33 cd33 ct33),sl33⟩) (c33:PySem.W.codeIn K0 cd33 "_law_many" = true)
  (a34:PySem.W.nsIn K0 mainGlobals "_law_weight" = some (some (.ref f34))) (l34:K0.lookup f34=some ⟨oc34,od34,.func (PySem.W.fnOf "_law_weight" "_law_weight" (defArgs sWeight) (defBody sWeight) (defScope sWeight) .none kV34 dc34 pm34 an34 cd34 ct34),sl34⟩) (c34:PySem.W.codeIn K0 cd34 "_law_weight" = true)
  (a35:PySem.W.nsIn K0 mainGlobals "_law_web" = some (some (.ref f35))) (l35:K0.lookup f35=some ⟨oc35,od35,.func (PySem.W.fnOf "_law_web" "_law_web" (defArgs sWeb) (defBody sWeb) (defScope sWeb) .none kV35 dc35 pm35 an35 cd35 ct35),sl35⟩) (c35:PySem.W.codeIn K0 cd35 "_law_web" = true)
  (a36:PySem.W.nsIn K0 mainGlobals "_law_posts" = some (some (.ref f36))) (l36:K0.lookup f36=some ⟨oc36,od36,.func (PySem.W.fnOf "_law_posts" "_law_posts" (defArgs sPosts) (defBody sPosts) (defScope sPosts) .none kV36 dc36 pm36 an36 cd36 ct36),sl36⟩) (c36:PySem.W.codeIn K0 cd36 "_law_posts" = true)
  (a37:PySem.W.nsIn K0 mainGlobals "_law_shared" = some (some (.ref f37))) (l37:K0.lookup f37=some ⟨oc37,od37,.func (PySem.W.fnOf "_law_shared" "_law_shared" (defArgs sShared) (defBody sShared) (defScope sShared) .none kV37 dc37 pm37 an37 cd37 ct37),sl37⟩) (c37:PySem.W.codeIn K0 cd37 "_law_shared" = true)
  (a38:PySem.W.nsIn K0 mainGlobals "_law_frac" = some (some (.ref f38))) (l38:K0.lookup f38=some ⟨oc38,od38,.func (PySem.W.fnOf "_law_frac" "_law_frac" (defArgs sFrac) (defBody sFrac) (defScope sFrac) .none kV38 dc38 pm38 an38 cd38 ct38),sl38⟩) (c38:PySem.W.codeIn K0 cd38 "_law_frac" = true)
  (a39:PySem.W.nsIn K0 mainGlobals "_law_less" = some (some (.ref f39))) (l39:K0.lookup f39=some ⟨oc39,od39,.func (PySem.W.fnOf "_law_less" "_law_less" (defArgs sLess) (defBody sLess) (defScope sLess) .none kV39 dc39 pm39 an39 cd39 ct39),sl39⟩) (c39:PySem.W.codeIn K0 cd39 "_law_less" = true)
  (a40:PySem.W.nsIn K0 mainGlobals "_law_owned" = some (some (.ref f40))) (l40:K0.lookup f40=some ⟨oc40,od40,.func (PySem.W.fnOf "_law_owned" "_law_owned" (defArgs sOwned) (defBody sOwned) (defScope sOwned) .none kV40 dc40 pm40 an40 cd40 ct40),sl40⟩) (c40:PySem.W.codeIn K0 cd40 "_law_owned" = true)
  (a41:PySem.W.nsIn K0 mainGlobals "_law_owners_right" = some (some (.ref f41))) (l41:K0.lookup f41=some ⟨oc41,od41,.func (PySem.W.fnOf "_law_owners_right" "_law_owners_right" (defArgs sOwnersRight) (defBody sOwnersRight) (defScope sOwnersRight) .none kV41 dc41 pm41 an41 cd41 ct41),sl41⟩) (c41:PySem.W.codeIn K0 cd41 "_law_owners_right" = true)
  (a42:PySem.W.nsIn K0 mainGlobals "_law_halves_right" = some (some (.ref f42))) (l42:K0.lookup f42=some ⟨oc42,od42,.func (PySem.W.fnOf "_law_halves_right" "_law_halves_right" (defArgs sHalvesRight) (defBody sHalvesRight) (defScope sHalvesRight) .none kV42 dc42 pm42 an42 cd42 ct42),sl42⟩) (c42:PySem.W.codeIn K0 cd42 "_law_halves_right" = true)
  (a43:PySem.W.nsIn K0 mainGlobals "law" = some (some (.ref f43))) (l43:K0.lookup f43=some ⟨oc43,od43,.func (PySem.W.fnOf "law" "law" (defArgs sLaw) (defBody sLaw) (defScope sLaw) .none kV43 dc43 pm43 an43 cd43 ct43),sl43⟩) (c43:PySem.W.codeIn K0 cd43 "law" = true)
  {gg0:Addr}{og0:Option Addr}{ng0:Nat}{sg0:Array (Option Value)}{tg0_0 tg0_1:Tok} (ga0:PySem.W.nsIn K0 mainGlobals "ALL" = some (some (.ref gg0))) (gl0:K0.lookup gg0=some ⟨.type "tuple",og0,.seq #[.int 1 tg0_0,.int 1 tg0_1] ng0,sg0⟩)
  {gg1:Addr}{og1:Option Addr}{ng1:Nat}{sg1:Array (Option Value)}{tg1_0 tg1_1:Tok} (ga1:PySem.W.nsIn K0 mainGlobals "NOTHING" = some (some (.ref gg1))) (gl1:K0.lookup gg1=some ⟨.type "tuple",og1,.seq #[.int 0 tg1_0,.int 1 tg1_1] ng1,sg1⟩)
  (z1:PySem.W.nsIn K0 mainGlobals "abs" = some none) (z2:PySem.W.nsIn K0 mainGlobals "int" = some none) (z3:PySem.W.nsIn K0 mainGlobals "len" = some none) (z4:PySem.W.nsIn K0 mainGlobals "range" = some none) (z5:PySem.W.nsIn K0 mainGlobals "min" = some none) (z6:PySem.W.nsIn K0 mainGlobals "max" = some none) (z7:PySem.W.nsIn K0 mainGlobals "tuple" = some none) (z8:PySem.W.nsIn K0 mainGlobals "sorted" = some none) (z9:PySem.W.nsIn K0 mainGlobals "isinstance" = some none) (z10:PySem.W.nsIn K0 mainGlobals "list" = some none) (z11:PySem.W.nsIn K0 mainGlobals "str" = some none) (z12:PySem.W.nsIn K0 mainGlobals "bool" = some none) (z13:PySem.W.nsIn K0 mainGlobals "sum" = some none) (z14:PySem.W.nsIn K0 mainGlobals "all" = some none) (z15:PySem.W.nsIn K0 mainGlobals "zip" = some none) (z16:PySem.W.nsIn K0 mainGlobals "enumerate" = some none) (z17:PySem.W.nsIn K0 mainGlobals "any" = some none) (z18:PySem.W.nsIn K0 mainGlobals "set" = some none) :
  ∃ (T:Trk) (sp:Sp),TupIn K0 T/\(∀ (H:Hp) (a:Addr) (ns:List Int),ns.length<=63->OnlyG T H->SqL (cutK T K0) H a (ns.map V.int)->sp [.ref a] H (fun v _=>v = .bl true) fun _ _ _=>False)/\∃ fd:FuncData,(∀ (s:Shared) (v:Value),BindsTo s fd ⟨[v],[]⟩ [("_law_script",v)])/\∀ base:Heap,(cutK T K0).In base->base.Ns mainGlobals mg->FnOk l.prog w (cutK T K0) mg base CX0 7 fa fd ["_law_script"] sp:=by
 obtain⟨tr,tk,q0,q1⟩:=trk_two (by decide) gl0 gl1
 have e:=hfa.symm.trans (PySem.W.mg_of X G a43)
 cases e
 have T:Txt mg:=⟨PySem.W.mg_none_of X G z1,PySem.W.mg_none_of X G z2,PySem.W.mg_none_of X G z3,PySem.W.mg_none_of X G z4,PySem.W.mg_none_of X G z5,PySem.W.mg_none_of X G z6,PySem.W.mg_none_of X G z7,PySem.W.mg_none_of X G z8,PySem.W.mg_none_of X G z9,PySem.W.mg_none_of X G z10,PySem.W.mg_none_of X G z11,PySem.W.mg_none_of X G z12,PySem.W.mg_none_of X G z13⟩
 have T2:Txt2 mg:=⟨PySem.W.mg_none_of X G z14,PySem.W.mg_none_of X G z15,PySem.W.mg_none_of X G z16,PySem.W.mg_none_of X G z17,PySem.W.mg_none_of X G z18⟩
 have GL:Glb mg gg0 gg1:=⟨PySem.W.mg_of X G ga0,PySem.W.mg_of X G ga1⟩
 obtain⟨K,eK⟩:∃ K,K=cutK tr K0:=⟨_,rfl⟩
 have F1:=fun_mkC (st:=sIsNumber) eK tk l1 c1
 have k1:=F1.kp
 have F2:=fun_mkC (st:=sAreNumbers) eK tk l2 c2
 have k2:=F2.kp
 have F3:=fun_mkC (st:=sIsList) eK tk l3 c3
 have k3:=F3.kp
 have F4:=fun_mkC (st:=sIsTupleOf) eK tk l4 c4
 have k4:=F4.kp
 have F5:=fun_mkC (st:=sRises) eK tk l5 c5
 have k5:=F5.kp
 have F6:=fun_mkC (st:=sIsFraction) eK tk l6 c6
 have k6:=F6.kp
 have F7:=fun_mkC (st:=sCommonDivisor) eK tk l7 c7
 have k7:=F7.kp
 have F8:=fun_mkC (st:=sFraction) eK tk l8 c8
 have k8:=F8.kp
 have F9:=fun_mkC (st:=sIsLess) eK tk l9 c9
 have k9:=F9.kp
 have F10:=fun_mkC (st:=sOverOne) eK tk l10 c10
 have k10:=F10.kp
 have F11:=fun_mkC (st:=sIsCut) eK tk l11 c11
 have k11:=F11.kp
 have F12:=fun_mkC (st:=sTieWeights) eK tk l12 c12
 have k12:=F12.kp
 have F13:=fun_mkC (st:=sWeightOf) eK tk l13 c13
 have k13:=F13.kp
 have F14:=fun_mkC (st:=sCutBy) eK tk l14 c14
 have k14:=F14.kp
 have F15:=fun_mkC (st:=sCostOf) eK tk l15 c15
 have k15:=F15.kp
 have F16:=fun_mkC (st:=sApart) eK tk l16 c16
 have k16:=F16.kp
 have F17:=fun_mkC (st:=sCostAt) eK tk l17 c17
 have k17:=F17.kp
 have F18:=fun_mkC (st:=sSharesBy) eK tk l18 c18
 have k18:=F18.kp
 have F19:=fun_mkC (st:=sEvenShares) eK tk l19 c19
 have k19:=F19.kp
 have F20:=fun_mkC (st:=sMixed) eK tk l20 c20
 have k20:=F20.kp
 have F21:=fun_mkC (st:=sBlend) eK tk l21 c21
 have k21:=F21.kp
 have F22:=fun_mkC (st:=sOwnersBy) eK tk l22 c22
 have k22:=F22.kp
 have F23:=fun_mkC (st:=sTaker) eK tk l23 c23
 have k23:=F23.kp
 have F24:=fun_mkC (st:=sThresholds) eK tk l24 c24
 have k24:=F24.kp
 have F25:=fun_mkC (st:=sRounded) eK tk l25 c25
 have k25:=F25.kp
 have F26:=fun_mkC (st:=sOrdersFor) eK tk l26 c26
 have k26:=F26.kp
 have F27:=fun_mkC (st:=sShowsRounded) eK tk l27 c27
 have k27:=F27.kp
 have F28:=fun_mkC (st:=sIsOrderOf) eK tk l28 c28
 have k28:=F28.kp
 have F29:=fun_mkC (st:=sIsThreshold) eK tk l29 c29
 have k29:=F29.kp
 have F30:=fun_mkC (st:=sCell) eK tk l30 c30
 have k30:=F30.kp
 have F31:=fun_mkC (st:=sBox) eK tk l31 c31
 have k31:=F31.kp
 have F32:=fun_mkC (st:=sTake) eK tk l32 c32
 have k32:=F32.kp
 have F33:=fun_mkC (st:=sMany) eK tk l33 c33
 have k33:=F33.kp
 have F34:=fun_mkC (st:=sWeight) eK tk l34 c34
 have k34:=F34.kp
 have F35:=fun_mkC (st:=sWeb) eK tk l35 c35
 have k35:=F35.kp
 have F36:=fun_mkC (st:=sPosts) eK tk l36 c36
 have k36:=F36.kp
 have F37:=fun_mkC (st:=sShared) eK tk l37 c37
 have k37:=F37.kp
 have F38:=fun_mkC (st:=sFrac) eK tk l38 c38
 have k38:=F38.kp
 have F39:=fun_mkC (st:=sLess) eK tk l39 c39
 have k39:=F39.kp
 have F40:=fun_mkC (st:=sOwned) eK tk l40 c40
 have k40:=F40.kp
 have F41:=fun_mkC (st:=sOwnersRight) eK tk l41 c41
 have k41:=F41.kp
 have F42:=fun_mkC (st:=sHalvesRight) eK tk l42 c42
 have k42:=F42.kp
 have F43:=fun_mkC (st:=sLaw) eK tk l43 c43
 have k43:=F43.kp
 have b1:=F1.binds (ps:=["thing"]) fun _ _ _ _ _ _ us hl=>le1 us hl fun _=>rfl
 have b2:=F2.binds (ps:=["things"]) fun _ _ _ _ _ _ us hl=>le1 us hl fun _=>rfl
 have b3:=F3.binds (ps:=["thing"]) fun _ _ _ _ _ _ us hl=>le1 us hl fun _=>rfl
 have b4:=F4.binds (ps:=["thing","many"]) fun _ _ _ _ _ _ us hl=>le2 us hl fun _ _=>rfl
 have b5:=F5.binds (ps:=["things"]) fun _ _ _ _ _ _ us hl=>le1 us hl fun _=>rfl
 have b6:=F6.binds (ps:=["thing"]) fun _ _ _ _ _ _ us hl=>le1 us hl fun _=>rfl
 have b7:=F7.binds (ps:=["one","other"]) fun _ _ _ _ _ _ us hl=>le2 us hl fun _ _=>rfl
 have b8:=F8.binds (ps:=["top","below"]) fun _ _ _ _ _ _ us hl=>le2 us hl fun _ _=>rfl
 have b9:=F9.binds (ps:=["one","other"]) fun _ _ _ _ _ _ us hl=>le2 us hl fun _ _=>rfl
 have b10:=F10.binds (ps:=["rows"]) fun _ _ _ _ _ _ us hl=>le1 us hl fun _=>rfl
 have b11:=F11.binds (ps:=["web","thing"]) fun _ _ _ _ _ _ us hl=>le2 us hl fun _ _=>rfl
 have b12:=F12.binds (ps:=["web"]) fun _ _ _ _ _ _ us hl=>le1 us hl fun _=>rfl
 have b13:=F13.binds (ps:=["web","cut"]) fun _ _ _ _ _ _ us hl=>le2 us hl fun _ _=>rfl
 have b14:=F14.binds (ps:=["web","owners"]) fun _ _ _ _ _ _ us hl=>le2 us hl fun _ _=>rfl
 have b15:=F15.binds (ps:=["web","shares"]) fun _ _ _ _ _ _ us hl=>le2 us hl fun _ _=>rfl
 have b16:=F16.binds (ps:=["one","other"]) fun _ _ _ _ _ _ us hl=>le2 us hl fun _ _=>rfl
 have b17:=F17.binds (ps:=["web","shares","l"]) fun _ _ _ _ _ _ us hl=>le3 us hl fun _ _ _=>rfl
 have b18:=F18.binds (ps:=["posts","owners"]) fun _ _ _ _ _ _ us hl=>le2 us hl fun _ _=>rfl
 have b19:=F19.binds (ps:=["web","posts"]) fun _ _ _ _ _ _ us hl=>le2 us hl fun _ _=>rfl
 have b20:=F20.binds (ps:=["one","other","part"]) fun _ _ _ _ _ _ us hl=>le3 us hl fun _ _ _=>rfl
 have b21:=F21.binds (ps:=["one","other","part"]) fun _ _ _ _ _ _ us hl=>le3 us hl fun _ _ _=>rfl
 have b22:=F22.binds (ps:=["posts","shares","order","threshold"]) fun _ _ _ _ _ _ us hl=>le4 us hl fun _ _ _ _=>rfl
 have b23:=F23.binds (ps:=["row","order","threshold"]) fun _ _ _ _ _ _ us hl=>le3 us hl fun _ _ _=>rfl
 have b24:=F24.binds (ps:=["shares"]) fun _ _ _ _ _ _ us hl=>le1 us hl fun _=>rfl
 have b25:=F25.binds (ps:=["web","posts","shares"]) fun _ _ _ _ _ _ us hl=>le3 us hl fun _ _ _=>rfl
 have b26:=F26.binds (ps:=["web","posts","shares"]) fun _ _ _ _ _ _ us hl=>le3 us hl fun _ _ _=>rfl
 have b27:=F27.binds (ps:=["web","posts","shares","told"]) fun _ _ _ _ _ _ us hl=>le4 us hl fun _ _ _ _=>rfl
 have b28:=F28.binds (ps:=["many","thing"]) fun _ _ _ _ _ _ us hl=>le2 us hl fun _ _=>rfl
 have b29:=F29.binds (ps:=["thing"]) fun _ _ _ _ _ _ us hl=>le1 us hl fun _=>rfl
 have b30:=F30.binds (ps:=["_law_script","_law_k"]) fun _ _ _ _ _ _ us hl=>le2 us hl fun _ _=>rfl
 have b31:=F31.binds (ps:=["_law_script","_law_k"]) fun _ _ _ _ _ _ us hl=>le2 us hl fun _ _=>rfl
 have b32:=F32.binds (ps:=["_law_box_here","_law_many_here"]) fun _ _ _ _ _ _ us hl=>le2 us hl fun _ _=>rfl
 have b33:=F33.binds (ps:=["_law_box_here","_law_least","_law_few","_law_most"]) fun _ _ _ _ _ _ us hl=>le4 us hl fun _ _ _ _=>rfl
 have b34:=F34.binds (ps:=["_law_box_here","_law_heavy"]) fun _ _ _ _ _ _ us hl=>le2 us hl fun _ _=>rfl
 have b35:=F35.binds (ps:=["_law_box_here","_law_many_here"]) fun _ _ _ _ _ _ us hl=>le2 us hl fun _ _=>rfl
 have b36:=F36.binds (ps:=["_law_box_here","_law_many_here","_law_most"]) fun _ _ _ _ _ _ us hl=>le3 us hl fun _ _ _=>rfl
 have b37:=F37.binds (ps:=["_law_one","_law_other"]) fun _ _ _ _ _ _ us hl=>le2 us hl fun _ _=>rfl
 have b38:=F38.binds (ps:=["_law_top","_law_below"]) fun _ _ _ _ _ _ us hl=>le2 us hl fun _ _=>rfl
 have b39:=F39.binds (ps:=["_law_one","_law_other"]) fun _ _ _ _ _ _ us hl=>le2 us hl fun _ _=>rfl
 have b40:=F40.binds (ps:=["_law_box_here","_law_web_here","_law_posts_here"]) fun _ _ _ _ _ _ us hl=>le3 us hl fun _ _ _=>rfl
 have b41:=F41.binds (ps:=["_law_web_here","_law_posts_here","_law_owners","_law_order","_law_threshold"]) fun _ _ _ _ _ _ us hl=>le5 us hl fun _ _ _ _ _=>rfl
 have b42:=F42.binds (ps:=["_law_posts_here","_law_shares","_law_one","_law_other","_law_order","_law_threshold"]) fun _ _ _ _ _ _ us hl=>le6 us hl fun _ _ _ _ _ _=>rfl
 have m1:=PySem.W.mg_of X G a1
 have m2:=PySem.W.mg_of X G a2
 have m3:=PySem.W.mg_of X G a3
 have m4:=PySem.W.mg_of X G a4
 have m5:=PySem.W.mg_of X G a5
 have m6:=PySem.W.mg_of X G a6
 have m7:=PySem.W.mg_of X G a7
 have m8:=PySem.W.mg_of X G a8
 have m9:=PySem.W.mg_of X G a9
 have m10:=PySem.W.mg_of X G a10
 have m11:=PySem.W.mg_of X G a11
 have m12:=PySem.W.mg_of X G a12
 have m13:=PySem.W.mg_of X G a13
 have m14:=PySem.W.mg_of X G a14
 have m15:=PySem.W.mg_of X G a15
 have m16:=PySem.W.mg_of X G a16
 have m17:=PySem.W.mg_of X G a17
 have m18:=PySem.W.mg_of X G a18
 have m19:=PySem.W.mg_of X G a19
 have m20:=PySem.W.mg_of X G a20
 have m21:=PySem.W.mg_of X G a21
 have m22:=PySem.W.mg_of X G a22
 have m23:=PySem.W.mg_of X G a23
 have m24:=PySem.W.mg_of X G a24
 have m25:=PySem.W.mg_of X G a25
 have m26:=PySem.W.mg_of X G a26
 have m27:=PySem.W.mg_of X G a27
 have m28:=PySem.W.mg_of X G a28
 have m29:=PySem.W.mg_of X G a29
 have m30:=PySem.W.mg_of X G a30
 have m31:=PySem.W.mg_of X G a31
 have m32:=PySem.W.mg_of X G a32
 have m33:=PySem.W.mg_of X G a33
 have m34:=PySem.W.mg_of X G a34
 have m35:=PySem.W.mg_of X G a35
 have m36:=PySem.W.mg_of X G a36
 have m37:=PySem.W.mg_of X G a37
 have m38:=PySem.W.mg_of X G a38
 have m39:=PySem.W.mg_of X G a39
 have m40:=PySem.W.mg_of X G a40
 have m41:=PySem.W.mg_of X G a41
 have m42:=PySem.W.mg_of X G a42
 have m43:=PySem.W.mg_of X G a43
 refine⟨tr,spLaw (cutK tr K0) gg0 gg1,tk,fun H a ns hl hO hS=>⟨a,ns,rfl,hS,hl,hO.1 _ _ q0,hO.1 _ _ q1,fun _=>rfl⟩,PySem.W.fnOf "law" "law" (defArgs sLaw) (defBody sLaw) (defScope sLaw) .none kV43 dc43 pm43 an43 cd43 ct43,fun s v=>.of_eq rfl,fun base _ _=>?_⟩
 rw[<- eK]
 have C__law_box:CalF l.prog w K mg base 2 "_law_box" ["_law_script","_law_k"] (spBox K) f31 _:=⟨ok_box F31 T F30 m30 b30,m31,k31,b31⟩
 have TK:TakeF l.prog w K mg base f32 _:=⟨ok_take F32,m32,k32,b32⟩
 have TW:WeightF l.prog w K mg base f34 _:=⟨ok_weight F34 TK,m34,k34,b34⟩
 have C__law_web:CalF l.prog w K mg base 3 "_law_web" ["_law_box_here","_law_many_here"] spWeb f35 _:=⟨ok_web F35 T TK TW,m35,k35,b35⟩
 have C__law_many:CalF l.prog w K mg base 2 "_law_many" ["_law_box_here","_law_least","_law_few","_law_most"] spMany f33 _:=⟨ok_many F33 TK,m33,k33,b33⟩
 have C__law_posts:CalF l.prog w K mg base 2 "_law_posts" ["_law_box_here","_law_many_here","_law_most"] spPo f36 _:=⟨ok_po F36 T TK,m36,k36,b36⟩
 have C__law_owned:CalF l.prog w K mg base 2 "_law_owned" ["_law_box_here","_law_web_here","_law_posts_here"] spOw f40 _:=⟨ok_ow F40 T TK,m40,k40,b40⟩
 have C__law_shared:CalF l.prog w K mg base 1 "_law_shared" ["_law_one","_law_other"] spSd f37 _:=⟨ok_sd F37,m37,k37,b37⟩
 have C__law_frac:CalF l.prog w K mg base 2 "_law_frac" ["_law_top","_law_below"] spFc f38 _:=⟨ok_fc F38 T C__law_shared,m38,k38,b38⟩
 have C_shares_by:CalF l.prog w K mg base 1 "shares_by" ["posts","owners"] (spSb gg0 gg1) f18 _:=⟨ok_sb F18 GL,m18,k18,b18⟩
 have C_common_divisor:CalF l.prog w K mg base 1 "common_divisor" ["one","other"] spCd f7 _:=⟨ok_cd F7 T,m7,k7,b7⟩
 have C_over_one:CalF l.prog w K mg base 2 "over_one" ["rows"] (spOo K) f10 _:=⟨ok_oo F10 C_common_divisor,m10,k10,b10⟩
 have C_thresholds:CalF l.prog w K mg base 3 "thresholds" ["shares"] spThQ f24 _:=⟨ok_th F24 T T2 C_over_one,m24,k24,b24⟩
 have C_is_less:CalF l.prog w K mg base 1 "is_less" ["one","other"] spLs f9 _:=⟨ok_il F9,m9,k9,b9⟩
 have C_taker:CalF l.prog w K mg base 2 "taker" ["row","order","threshold"] spTk f23 _:=⟨ok_tk F23 C_is_less,m23,k23,b23⟩
 have C_owners_by:CalF l.prog w K mg base 3 "owners_by" ["posts","shares","order","threshold"] spObQ f22 _:=⟨ok_ob F22 T C_taker,m22,k22,b22⟩
 have C_fraction:CalF l.prog w K mg base 2 "fraction" ["top","below"] spFr f8 _:=⟨ok_fr F8 C_common_divisor,m8,k8,b8⟩
 have C_cost_at:CalF l.prog w K mg base 3 "cost_at" ["web","shares","l"] (spCa K) f17 _:=⟨ok_ca F17 T C_over_one C_fraction,m17,k17,b17⟩
 have C_orders_for:CalF l.prog w K mg base 4 "orders_for" ["web","posts","shares"] spOf f26 _:=⟨ok_of F26 T C_cost_at C_over_one,m26,k26,b26⟩
 have C_cut_by:CalF l.prog w K mg base 1 "cut_by" ["web","owners"] spCb f14 _:=⟨ok_cb F14,m14,k14,b14⟩
 have C_tie_weights:CalF l.prog w K mg base 1 "tie_weights" ["web"] spTw f12 _:=⟨ok_tw F12,m12,k12,b12⟩
 have C_weight_of:CalF l.prog w K mg base 2 "weight_of" ["web","cut"] spWg f13 _:=⟨ok_wg F13 T C_tie_weights,m13,k13,b13⟩
 have C_rounded:CalF l.prog w K mg base 5 "rounded" ["web","posts","shares"] spRd f25 _:=⟨ok_rd F25 C_orders_for C_thresholds C_cut_by C_owners_by C_weight_of,m25,k25,b25⟩
 have C_is_tuple_of:CalF l.prog w K mg base 1 "is_tuple_of" ["thing","many"] spIt f4 _:=⟨ok_it F4 T,m4,k4,b4⟩
 have C_is_number:CalF l.prog w K mg base 1 "is_number" ["thing"] spNu f1 _:=⟨ok_nu F1 T,m1,k1,b1⟩
 have C_is_list:CalF l.prog w K mg base 1 "is_list" ["thing"] spIsL f3 _:=⟨ok_isl F3 T,m3,k3,b3⟩
 have C_are_numbers:CalF l.prog w K mg base 2 "are_numbers" ["things"] (spAn K) f2 _:=⟨ok_an F2 T2 C_is_number,m2,k2,b2⟩
 have C_rises:CalF l.prog w K mg base 1 "rises" ["things"] spRs f5 _:=⟨ok_rs F5 T2,m5,k5,b5⟩
 have C_is_cut:CalF l.prog w K mg base 3 "is_cut" ["web","thing"] spIc f11 _:=⟨ok_ic F11 T2 C_is_list C_is_tuple_of C_are_numbers C_tie_weights C_rises,m11,k11,b11⟩
 have C_is_order_of:CalF l.prog w K mg base 3 "is_order_of" ["many","thing"] spIor f28 _:=⟨ok_ior F28 T C_is_list C_are_numbers,m28,k28,b28⟩
 have C_is_fraction:CalF l.prog w K mg base 3 "is_fraction" ["thing"] spIsF f6 _:=⟨ok_isf F6 C_is_tuple_of C_are_numbers C_common_divisor,m6,k6,b6⟩
 have C_is_threshold:CalF l.prog w K mg base 4 "is_threshold" ["thing"] spIth f29 _:=⟨ok_ith F29 C_is_fraction,m29,k29,b29⟩
 have C_apart:CalF l.prog w K mg base 1 "apart" ["one","other"] spAp f16 _:=⟨ok_ap F16 T T2,m16,k16,b16⟩
 have C_cost_of:CalF l.prog w K mg base 3 "cost_of" ["web","shares"] (spCo K) f15 _:=⟨ok_co F15 T C_over_one C_apart C_fraction,m15,k15,b15⟩
 have C_shows_rounded:CalF l.prog w K mg base 5 "shows_rounded" ["web","posts","shares","told"] spSr f27 _:=⟨ok_sr F27 T C_is_tuple_of C_is_number C_is_cut C_is_order_of C_is_threshold C_cut_by C_owners_by C_weight_of C_cost_of,m27,k27,b27⟩
 have C__law_owners_right:CalF l.prog w K mg base 6 "_law_owners_right" ["_law_web_here","_law_posts_here","_law_owners","_law_order","_law_threshold"] (spOrr gg0 gg1) f41 _:=⟨ok_orr F41 C_shares_by C_thresholds C_owners_by C_rounded C_cut_by C_weight_of C_shows_rounded,m41,k41,b41⟩
 have C_blend:CalF l.prog w K mg base 3 "blend" ["one","other","part"] spBl f21 _:=⟨ok_bl F21 C_fraction,m21,k21,b21⟩
 have C_mixed:CalF l.prog w K mg base 4 "mixed" ["one","other","part"] spMx f20 _:=⟨ok_mx F20 T2 C_blend,m20,k20,b20⟩
 have C__law_less:CalF l.prog w K mg base 1 "_law_less" ["_law_one","_law_other"] spLs f39 _:=⟨ok_ls F39,m39,k39,b39⟩
 have C__law_halves_right:CalF l.prog w K mg base 4 "_law_halves_right" ["_law_posts_here","_law_shares","_law_one","_law_other","_law_order","_law_threshold"] spHr f42 _:=⟨ok_hr F42 T2 C_owners_by C__law_less,m42,k42,b42⟩
 have C_even_shares:CalF l.prog w K mg base 2 "even_shares" ["web","posts"] (spEv gg0 gg1) f19 _:=⟨ok_ev F19 T T2 C_shares_by,m19,k19,b19⟩
 exact ok_law F43 T ⟨C__law_box,C__law_web,C__law_many,C__law_posts,C__law_owned,TK,C__law_frac,C__law_owners_right,C_mixed,C_shares_by,C__law_halves_right,C_owners_by,C_even_shares⟩
theorem walk{l:PySem.W.OpenLaw}{q:Program}{loose:List Str}{XP:(Str->Option Value)->Heap->Prop}{YP:World->Heap->Prop}{d:DefRec}{K:Params->PySem.W.Frag}(hn:l.most=some 63)(hdf:d.params.defaults=[])(hY:∀ (w:World) (h:Heap),YP w h->(K w.params).In h)
  (F:∀ (w:World) (mg:Str->Option Value) (fa:Addr) (h:Heap),(K w.params).In h->h.Ns mainGlobals mg->mg d.name=some (.ref fa)->∃ (T:Trk) (sp:Sp),TupIn (K w.params) T/\(∀ (H:Hp) (a:Addr) (ns:List Int),ns.length<=63->OnlyG T H->SqL (cutK T (K w.params)) H a (ns.map V.int)->sp [.ref a] H (fun v _=>v = .bl true) fun _ _ _=>False)/\∃ fd:FuncData,(∀ (s:Shared) (u:Value),BindsTo s fd ⟨[u],[]⟩ [("_law_script",u)])/\∀ base:Heap,(cutK T (K w.params)).In base->base.Ns mainGlobals mg->FnOk l.prog w (cutK T (K w.params)) mg base CX0 7 fa fd ["_law_script"] sp) :
  PySem.W.WalkO q loose XP YP l.row.toRowW d [] (fun f vs=>PySem.call f vs) :=
 L2.walk_ofG (n:=63) (k:=7) (x:="_law_script") hn (by decide) hdf ⟨rfl,by decide,by decide,rfl⟩ hY F
end K32
open PySem PySem.W PyProof.Rows
set_option maxRecDepth 100000 in
set_option maxHeartbeats 0 in
def PySem.W.Fast.tw14590489952375761940 : PySem.Program := PySem.Challenge.pw_partedweb_k32_owners_shares_rounded
theorem PySem.W.Fast.te14590489952375761940 : PySem.Challenge.pw_partedweb_k32_owners_shares_rounded = PySem.W.Fast.tw14590489952375761940 := rfl
theorem PySem.Challenge.cw_partedweb_k32_owners_shares_rounded_holds : PySem.Challenge.rw_partedweb_k32_owners_shares_rounded.Holds := by
  w_on; o_law; k_head; (case hw => w_witness2)
  k_fill
  refine K32.walk (l := PySem.Challenge.rw_partedweb_k32_owners_shares_rounded) rfl rfl (fun w h Y => PySem.W.kIn_of Y) ?F
  case F =>
    intro w mg fa h KX G hmg
    refine' K32.all_mk KX G hmg ?a1 ?l1 ?c1 ?a2 ?l2 ?c2 ?a3 ?l3 ?c3 ?a4 ?l4 ?c4 ?a5 ?l5 ?c5 ?a6 ?l6 ?c6 ?a7 ?l7 ?c7 ?a8 ?l8 ?c8 ?a9 ?l9 ?c9 ?a10 ?l10 ?c10 ?a11 ?l11 ?c11 ?a12 ?l12 ?c12 ?a13 ?l13 ?c13 ?a14 ?l14 ?c14 ?a15 ?l15 ?c15 ?a16 ?l16 ?c16 ?a17 ?l17 ?c17 ?a18 ?l18 ?c18 ?a19 ?l19 ?c19 ?a20 ?l20 ?c20 ?a21 ?l21 ?c21 ?a22 ?l22 ?c22 ?a23 ?l23 ?c23 ?a24 ?l24 ?c24 ?a25 ?l25 ?c25 ?a26 ?l26 ?c26 ?a27 ?l27 ?c27 ?a28 ?l28 ?c28 ?a29 ?l29 ?c29 ?a30 ?l30 ?c30 ?a31 ?l31 ?c31 ?a32 ?l32 ?c32 ?a33 ?l33 ?c33 ?a34 ?l34 ?c34 ?a35 ?l35 ?c35 ?a36 ?l36 ?c36 ?a37 ?l37 ?c37 ?a38 ?l38 ?c38 ?a39 ?l39 ?c39 ?a40 ?l40 ?c40 ?a41 ?l41 ?c41 ?a42 ?l42 ?c42 ?a43 ?l43 ?c43 ?ga0 ?gl0 ?ga1 ?gl1 ?z1 ?z2 ?z3 ?z4 ?z5 ?z6 ?z7 ?z8 ?z9 ?z10 ?z11 ?z12 ?z13 ?z14 ?z15 ?z16 ?z17 ?z18
    (case a1 => k_is); (case l1 => k_is); (case c1 => k_is); (case a2 => k_is); (case l2 => k_is); (case c2 => k_is)
    (case a3 => k_is); (case l3 => k_is); (case c3 => k_is); (case a4 => k_is); (case l4 => k_is); (case c4 => k_is)
    (case a5 => k_is); (case l5 => k_is); (case c5 => k_is); (case a6 => k_is); (case l6 => k_is); (case c6 => k_is)
    (case a7 => k_is); (case l7 => k_is); (case c7 => k_is); (case a8 => k_is); (case l8 => k_is); (case c8 => k_is)
    (case a9 => k_is); (case l9 => k_is); (case c9 => k_is); (case a10 => k_is); (case l10 => k_is); (case c10 => k_is)
    (case a11 => k_is); (case l11 => k_is); (case c11 => k_is); (case a12 => k_is); (case l12 => k_is); (case c12 => k_is)
    (case a13 => k_is); (case l13 => k_is); (case c13 => k_is); (case a14 => k_is); (case l14 => k_is); (case c14 => k_is)
    (case a15 => k_is); (case l15 => k_is); (case c15 => k_is); (case a16 => k_is); (case l16 => k_is); (case c16 => k_is)
    (case a17 => k_is); (case l17 => k_is); (case c17 => k_is); (case a18 => k_is); (case l18 => k_is); (case c18 => k_is)
    (case a19 => k_is); (case l19 => k_is); (case c19 => k_is); (case a20 => k_is); (case l20 => k_is); (case c20 => k_is)
    (case a21 => k_is); (case l21 => k_is); (case c21 => k_is); (case a22 => k_is); (case l22 => k_is); (case c22 => k_is)
    (case a23 => k_is); (case l23 => k_is); (case c23 => k_is); (case a24 => k_is); (case l24 => k_is); (case c24 => k_is)
    (case a25 => k_is); (case l25 => k_is); (case c25 => k_is); (case a26 => k_is); (case l26 => k_is); (case c26 => k_is)
    (case a27 => k_is); (case l27 => k_is); (case c27 => k_is); (case a28 => k_is); (case l28 => k_is); (case c28 => k_is)
    (case a29 => k_is); (case l29 => k_is); (case c29 => k_is); (case a30 => k_is); (case l30 => k_is); (case c30 => k_is)
    (case a31 => k_is); (case l31 => k_is); (case c31 => k_is); (case a32 => k_is); (case l32 => k_is); (case c32 => k_is)
    (case a33 => k_is); (case l33 => k_is); (case c33 => k_is); (case a34 => k_is); (case l34 => k_is); (case c34 => k_is)
    (case a35 => k_is); (case l35 => k_is); (case c35 => k_is); (case a36 => k_is); (case l36 => k_is); (case c36 => k_is)
    (case a37 => k_is); (case l37 => k_is); (case c37 => k_is); (case a38 => k_is); (case l38 => k_is); (case c38 => k_is)
    (case a39 => k_is); (case l39 => k_is); (case c39 => k_is); (case a40 => k_is); (case l40 => k_is); (case c40 => k_is)
    (case a41 => k_is); (case l41 => k_is); (case c41 => k_is); (case a42 => k_is); (case l42 => k_is); (case c42 => k_is)
    (case a43 => k_is); (case l43 => k_is); (case c43 => k_is); (case ga0 => k_is); (case gl0 => k_is); (case ga1 => k_is)
    (case gl1 => k_is); (case z1 => k_is); (case z2 => k_is); (case z3 => k_is); (case z4 => k_is); (case z5 => k_is)
    (case z6 => k_is); (case z7 => k_is); (case z8 => k_is); (case z9 => k_is); (case z10 => k_is); (case z11 => k_is)
    (case z12 => k_is); (case z13 => k_is); (case z14 => k_is); (case z15 => k_is); (case z16 => k_is); (case z17 => k_is)
    (case z18 => k_is)
#print axioms PySem.Challenge.cw_partedweb_k32_owners_shares_rounded_holds
