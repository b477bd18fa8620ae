import PyProof.Rows.All
import Wide.All
import OpenK.AllK
import Wide.FinOn
import Lean
import PyProof.EqAt
import PyProof.EqKinds
import PyProof.TupleCall
import KE.KStrOpen
import KE.KRevIter
import PySem.Challenge.RW_partedweb_k75_texts_of_no_web
set_option Elab.async false
set_option linter.all false
set_option maxRecDepth 100000
abbrev zA:=@PySem.wpAny_bind
abbrev zB:=@List.length_map
abbrev zC:=@Nat.le_trans
abbrev zD:=@PySem.Heap.get?_push_of_some
abbrev zE:=@PySem.wpAny_pure
abbrev zF:=@List.getElem?_eq_getElem
abbrev zG:=@Nat.lt_of_lt_of_le
abbrev zH:=@Nat.le_refl
abbrev zI:=@Nat.le_add_right
abbrev zJ:=@Bool.false_ne_true
abbrev zK:=@PySem.Heap.lt_size
abbrev zL:=@Nat.lt_of_le_of_lt
abbrev zN:=@Nat.add_le_add_left
abbrev zO:=@Array.length_toList
abbrev zP:=@List.mem_cons_of_mem
abbrev zQ:=@List.size_toArray
abbrev zS:=@Array.getElem?_eq_getElem
abbrev zT:=@Nat.le_of_lt
abbrev zU:=@PySem.Heap.get?_push_size
abbrev zV:=@List.length_cons
abbrev zW:=@List.mem_cons
abbrev zX:=@List.mem_cons_self
abbrev zY:=@List.length_append
abbrev zZ:=@List.getElem?_eq_some_iff
abbrev zAA:=@List.mem_singleton
abbrev zAB:=@List.mem_append
abbrev zAC:=@Nat.ne_of_lt
abbrev zAD:=@List.length_take
abbrev zAE:=@Nat.add_sub_of_le
abbrev zAF:=@Array.getD_eq_getD_getElem?
abbrev zAG:=@Nat.le_of_eq
abbrev zAH:=@Array.getElem?_toList
abbrev zAI:=@Array.getElem?_eq_some_iff
abbrev zAJ:=@List.getElem?_map
abbrev zAK:=@Nat.add_assoc
abbrev zAL:=@Nat.add_lt_add_left
abbrev zAM:=@Nat.lt_of_le_of_ne
abbrev zAN:=@List.length_drop
abbrev zAO:=@Nat.zero_le
abbrev zAP:=@List.mem_map
abbrev zAQ:=@List.map_append
abbrev zAR:=@List.mem_append_right
abbrev zAS:=@List.map_cons
abbrev zAT:=@List.not_mem_nil
abbrev zAU:=@List.pairwise_append
abbrev zAV:=@List.append_assoc
abbrev zAW:=@Nat.le_add_left
abbrev zAX:=@Nat.lt_of_lt_of_eq
abbrev zAY:=@Nat.lt_succ_self
abbrev zAZ:=@List.mem_append_left
abbrev zBA:=@Nat.add_lt_of_lt_sub'
abbrev zBB:=@Bool.false_eq_true
abbrev zBC:=@List.getElem_map
abbrev zBD:=@Array.toList_append
abbrev zBE:=@Nat.sub_le
abbrev zBF:=@Nat.le_of_lt_succ
abbrev zBG:=@List.getElem_mem
abbrev zBH:=@Nat.lt_irrefl
abbrev zBI:=@Nat.le_sub_one_of_lt
abbrev zBJ:=@Bool.and_eq_true
abbrev zBK:=@Nat.add_sub_assoc
abbrev zBL:=@List.length_nil
abbrev zBM:=@Nat.lt_of_succ_lt_succ
abbrev zBN:=@List.take_append_drop
abbrev zBO:=@List.getElem_of_mem
abbrev zBP:=@List.mem_range
abbrev zBQ:=@Int.eq_ofNat_of_zero_le
abbrev zBR:=@Nat.add_le_add_right
abbrev zBS:=@List.pairwise_iff_getElem
abbrev zBT:=@Nat.pos_of_ne_zero
abbrev zBU:=@Nat.zero_add
abbrev zBV:=@List.take_of_length_le
abbrev zBW:=@List.lookup_cons
abbrev zBX:=@Nat.zero_lt_of_lt
abbrev zBY:=@Nat.one_pos
abbrev zBZ:=@Nat.min_eq_left
abbrev zCA:=@Nat.ne_of_gt
abbrev zCB:=@Array.getElem?_eq_none
abbrev zCC:=@Nat.sub_lt_left_of_lt_add
abbrev zCD:=@List.drop_eq_getElem_cons
abbrev zCE:=@Nat.mul_le_mul_left
abbrev zCF:=@Int.toNat_natCast
abbrev zCG:=@Nat.le_succ
abbrev zCH:=@Bool.eq_false_iff
abbrev zCI:=@Nat.le_of_ble_eq_true
abbrev zCJ:=@Nat.le_antisymm
abbrev zCK:=@Nat.lt_of_not_le
abbrev zCL:=@Nat.add_le_add
abbrev zCM:=@Option.map_eq_some_iff
abbrev zCN:=@List.take_add_one
abbrev zCO:=@List.map_map
abbrev zCP:=@Bool.eq_iff_iff
abbrev zCQ:=@List.getLast?_eq_getElem?
abbrev zCR:=@List.getElem?_eq_none
abbrev zCS:=@Nat.sub_lt
abbrev zCT:=@Nat.add_right_comm
abbrev zCU:=@Nat.min_eq_right
abbrev zCV:=@List.mem_of_getElem?
abbrev zCW:=@Nat.sub_pos_of_lt
abbrev zCX:=@Nat.lt_of_succ_le
abbrev zCY:=@Nat.lt_add_of_pos_right
theorem zh1{n:Nat}:-2^62<=(n:Int):=by omega
theorem zh2{n:Nat}:-2^63<=(n:Int):=by omega
theorem zh3{y:Int}(h:0<=y):y=↑y.toNat:=(Int.toNat_of_nonneg h).symm
theorem zh4{n:Nat}(h:0<n):n-1<n:=zCS h zBY
theorem zh7{i j:Nat}(h:i<j)(e:j=k):i<k:=zAX h e
theorem zh8{i j:Nat}(h:i<j)(e:k=j):i<k:=zAX h e.symm
theorem zh9{i j k:Nat}(h:j<=k)(e:i=j):i<=k:=zC (zAG e) h
theorem zi1{k:Nat}{L:Nat}(h:(k:Int)<L):((0<=if(k:Int)<0 then(k:Int)+(L:Int)else(k:Int))/\(if(k:Int)<0 then(k:Int)+(L:Int)else(k:Int))<L)/\(if(k:Int)<0 then(k:Int)+(L:Int)else(k:Int)).toNat=k:=by rw[if_neg (Int.not_lt.mpr (Int.natCast_nonneg k))];exact⟨⟨Int.natCast_nonneg k,h⟩,zCF k⟩
theorem zi2{k L:Nat}(h:k<L):(k:Int)<(L:Int):=Int.ofNat_lt.mpr h
theorem zi3{k L:Nat}(h:(k:Int)<(L:Int)):k<L:=Int.ofNat_lt.mp h
theorem zi4{x:Int}{i n:Nat}(h:i<n)(e:(i:Int)=x):0<=x/\x<(n:Int):=e ▸⟨Int.natCast_nonneg i,Int.ofNat_lt.mpr h⟩
theorem zi6{i n:Nat}(h:i<n+1):i<=n:=zBF h
theorem zi9{i j n:Nat}(h:i<j)(g:j<=n):i<n:=zG h g
theorem zj1{i n:Nat}(h:i+1<n):i<n:=Nat.lt_of_succ_lt h
theorem zj2{i n:Nat}(h:i+1<=n):i<=n:=Nat.le_of_succ_le h
theorem zj3{i n:Nat}(h:¬i<n):n<=i:=Nat.le_of_not_lt h
theorem zj4{i n:Nat}(h:¬n<=i):i<n:=zCK h
theorem zj5{i n:Nat}(h:¬i=n)(g:i<=n):i<n:=zAM g h
theorem zj7{i n:Nat}(h:i<=n)(g:¬i<n):i=n:=zCJ h (Nat.le_of_not_lt g)
theorem zj8{i:Nat}(h:i≠0):0<i:=zBT h
theorem zj9{i n:Nat}(h:i<n):0<n:=zBX h
theorem zl1{a k c:Nat}(h:a<=k)(d:Nat.ble k c=true):a<=c:=zC h (zCI d)
theorem zl2{a k c:Nat}(h:a<=k)(d:Nat.ble (k+1) c=true):a<c:=zL h (zCI d)
theorem zl4{a k c:Nat}(h:a<k)(d:Nat.ble k c=true):a<=c:=zC (zT h) (zCI d)
theorem zl5{k a c:Nat}(h:k<=a)(d:Nat.ble c k=true):c<=a:=zC (zCI d) h
theorem zl6{k a c:Nat}(h:k<=a)(d:Nat.ble (c+1) k=true):c<a:=zC (zCI d) h
theorem zm1{n m k:Nat}(h:n<=m)(g:m=k):n<=k:=zC h (zAG g)
theorem zm2{n:Nat}{k:Nat}(h:n<=k)(d:Nat.ble k 4611686018427387903=true):(n:Int)<2^62:=by have:=zCI d;omega
theorem zm3{n k:Nat}(h:n<=k)(d:Nat.ble k 1000000=true):(n:Int)<=1000000:=Int.ofNat_le.mpr (zC h (zCI d))
theorem zn4{a b:Nat}:a+b+1<=a+(b+1):=zH _
theorem zn5{a b:Nat}(h:a<b):a+1<=b:=h
theorem zn7{n:Nat}:(-1+(n:Int)).toNat=n-1:=by rw[Int.add_comm];exact Int.toNat_sub n 1
theorem zaa{a b:Nat}:a<=b->max a b=b:=Nat.max_eq_right
theorem zab{a b c:Nat}:a+1<=b->c+(b-1)=c+b-1:=fun h=>(zBK (zC (zAW 1 a) h) c).symm
theorem zac{a b:Nat}:a<=b->a+(b-a)=b:=zAE
theorem zad{a:Nat}:9<=a->a<=60->a<=2 * a+8:=by lia
theorem zae{a:Nat}:a+1+1+1<=a+8:=by lia
theorem zaf{a b c d:Nat}:a+1<=b->c+b-(a+1)<=d->b-(a+1)<=d-c:=fun h k=>Nat.le_sub_of_add_le' (zC (zAG (zBK h c).symm) k)
theorem zag{a b:Nat}:0<a->a<=500->b<a->min b a+1<=10000:=by lia
theorem zah{a b c d:Nat}:a+1<=b->c+b-(a+1)<=d->c+(d-c)=d:=fun h k=>zAE (zC (Nat.le_sub_of_add_le (zN h c)) k)
theorem zai{a b c d:Nat}:a+b<=c->d<b->a+d<c:=fun h k=>zG (zAL k a) h
theorem zaj{a b:Nat}:a<b->b-(a+1)<b-a:=fun h=>Nat.sub_lt_sub_left h (zAY a)
theorem zak{a b:Nat}:a<b->min a b+1+(b-(a+1))<=b+1:=by omega
theorem zal{a:Nat}:a<6->1500+17 * a+8<2 ^ 40:=by lia
theorem zam{a b c d e f g h:Nat}:  4<=a->a<=60->b<=a+1->c<=b->d<c->e+(f+1)+g=b->e+h=b->min d c+1<=10000:=by lia
theorem zan{a b c:Nat}:a > 1->b<c+a->c+(a-1)=c+a-1:=fun h _=>(zBK (zT h) c).symm
theorem zao{a b c:Nat}:a<=b->c=a->a+1<=b+1:=by lia
theorem zap{a b c:Nat}:a<=b->c+1<=b->¬a=b->a<=b-1:=fun h _ k=>zBI (zAM h k)
theorem zaq{a b c:Nat}:a-b=c+1->b<a->a-(b+1)=c:=by omega
theorem zar{a b c:Nat}:1<=a->a<=b->c+(b-1)=c+b-1:=fun h k=>(zBK (zC h k) c).symm
theorem zas{a b c d:Nat}:a<b->c-d<=b-a->¬d >= c->c-(d+(c-d) / 2+1)<=b-(a+1):=fun _ k _=>Nat.sub_le_sub_right (zC (Nat.sub_le_sub_left (zI d _) c) k) 1
theorem zat{a b c d:Nat}:a+b<=c->d<=b->a+d<=c:=fun h k=>zC (zN k a) h
theorem zau{a:Nat}:(↑a:Int)+1=(↑(a+1):Int):=by lia
theorem zav{a b c d:Nat}:a=b+1->c<d->d<b+1->d-1<b:=by omega
theorem zaw{a b c:Nat}:a<=120->b=a+2->c<=b+1->c<=200:=by lia
theorem zax{a b c:Nat}:a+1<=b->c<=c+b-(a+1):=fun h=>Nat.le_sub_of_add_le (zN h c)
theorem zay{a b c d e:Nat}:a=b+1->c<d->d<b+1->c=e->d-1<b:=by omega
theorem zaz{a b:Nat}:0<a->a<=500->b<a->min b a+1+(a-(b+1))<=10000:=by omega
theorem zba{a:Nat}:a > 1->a-2<a:=fun h=>zCS (zBX h) Nat.zero_lt_two
theorem zbb{a b c:Nat}:a<=b->b<c->c-1-b<=c-1-a:=fun h _=>Nat.sub_le_sub_left h _
theorem zbc{a:Nat}:1<=a->a<=30->((↑a:Int)-1).toNat<=a-1+0:=fun _ _=>zAG (Int.toNat_sub a 1)
theorem zbd{a:Nat}:a > 1->a-2<a->a-2+1<a:=fun h _=>zAX (zAY _) (Nat.sub_add_cancel h)
theorem zbe{a b c:Nat}:a<=1000->b=a->min c a<16777216:=by lia
theorem zbf{a b c d e:Nat}:a+b<=c->d<b->e+1<=d->a+d-1<c:=fun h k _=>zL (zBE _ _) (zG (zAL k a) h)
theorem zbg{a b c:Nat}:a<=b->c<a+(b-a)->c<b:=fun h k=>zAX k (zAE h)
theorem zbh{a b c:Nat}:¬a >= b->a+min (b-a) c<=b:=fun h=>zC (zN (Nat.min_le_left ..) a) (zAG (zAE (zT (Nat.not_le.mp h))))
theorem zbi{a b c:Nat}:a<=b->0<c->a+1<=b+c:=fun h h_1=>zCL h h_1
theorem zbj{a b c:Nat}:a<b+(c+1)->a<b+1+c:=by lia
theorem zbk{a b c:Nat}:a<b->c+a<c+b:=fun h=>zAL h c
theorem zbl{a:Nat}:a=0->¬a > 0:=by lia
theorem zbm{a b c d e:Nat}:a=b->c<min d (a-e)->e+c<a:=fun _ k=>zBA (zG k (Nat.min_le_right ..))
theorem zbn{a:Nat}:¬a<0:=by lia
theorem zbo{a b c:Nat}:a<=b->1<=c->a+1<=b+c:=fun h h_1=>zCL h h_1
theorem zbp{a b:Nat}:a<b->(↑a:Int)+1=(↑(a+1):Int):=by lia
theorem zbq{a b c:Nat}:a<=b->¬c >= a->c+(a-c) / 2<b:=fun h k=>zG (zAX (zAL (Nat.div_lt_self (zCW (Nat.not_le.mp k)) (zAY 1)) c) (zAE (zT (Nat.not_le.mp k)))) h
theorem zbr{a:Nat}:a<=120->a+2<=16777216:=by lia
theorem zbs{a b c d e:Nat}:a<min b (c-d)->c=e->d+a<c:=fun h _=>zBA (zG h (Nat.min_le_right ..))
theorem zbt{a:Nat}:1500+17 * a+8+1+8<=1500+17 * (a+1):=by lia
theorem zbu{a:Nat}:1500+17 * a+8+1<=1500+17 * (a+1):=by lia
theorem zbv{a b c d:Nat}:a<b->c-d<=b-a->¬d >= c->d+(c-d) / 2-d<=b-(a+1):=fun _ k l=>zC (zAG (Nat.add_sub_cancel_left ..)) (zBI (zG (Nat.div_lt_self (zCW (Nat.not_le.mp l)) (zAY 1)) k))
theorem zbw{a b c:Nat}:a<b->c+(c+b)-1-(c+a)=c+(b-1-a):=fun h=>by rw[zBK (zC (zBX h) (zAW b c)),Nat.add_sub_add_left,zBK (zBX h),zBK (zBI h)]
theorem zbx{a b c:Nat}:a+1<=b->b+1-(a+1+1)<=c->c<b+1->¬c=b->b-(a+1)<=c:=fun _ h _ _=>zC (zAG (Nat.add_sub_add_right b 1 (a+1)).symm) h
theorem zby{a b:Nat}:a<=b->¬a=b->a<=b-1:=fun h k=>zBI (zAM h k)
theorem zbz{a:Nat}:1500+17 * a+8<=1500+17 * (a+1):=by lia
theorem zca{a b c d:Nat}:a<=b->b<c->d+(d+c)-1-(d+a)=d+(c-1-a):=fun h k=>by rw[zBK (zC (zBX k) (zAW c d)),Nat.add_sub_add_left,zBK (zBX k),zBK (zC h (zBI k))]
theorem zcb{a b:Nat}:a<=0->b<a->¬b<a:=by lia
theorem zcc{a b c:Nat}:a<=b->b-a<=c-max 0 c->a=b:=fun h k=>zCJ h (Nat.sub_eq_zero_iff_le.mp (Nat.le_zero.mp (zC k (zAG (by rw[Nat.zero_max,Nat.sub_self])))))
theorem zcd{a b c:Nat}:a+b+(c+1) * 1=a+1+(b+c * 1):=by lia
theorem zce{a b c d e:Nat}:a<min b (c-d)->c=e->d+a<e:=fun h k=>zAX (zBA (zG h (Nat.min_le_right ..))) k
theorem zcf{a b c:Int}:a<b->b<c->a<c:=fun h h_1=>Int.lt_trans h h_1
theorem zcg{a b c d e f g h:Nat}:a<=b+1->c<=a->d<c->e+(f+1)+g=a->e+h=a->a<=2 * b+9:=by lia
theorem zch{a b c d:Nat}:a+b<=c->d<b->a+d<=c:=fun h k=>zC (zN (zT k) a) h
theorem zci{a b c d:Nat}:a=b->c=d->a=c->b=d:=by lia
theorem zcj{a b c:Nat}:a<=b->b<=c->b-a<=c-0:=fun _ h=>zC (zBE ..) h
theorem zck{a b:Nat}:a+1<b->min a b=a:=by lia
theorem zcl{a:Nat}:1<=a->a<=30->0 <(↑a:Int):=fun h _=>Int.natCast_pos.mpr h
theorem zcm{a b:Nat}:a+200+4 * b+1+1+2<=a+200+4 * (b+1):=zH (a+200+4 * b+1+1+2)
theorem zcn{a b c d:Nat}:a=b->c=d->¬a=c->b≠d:=by lia
theorem zco{a b c d e f g h:Nat}:a<=b+1->c<=a->d<c->e+(f+1)+g=a->e+h=a->e+g<=2 * b+9:=by lia
theorem zcp{a b c:Nat}:a > 1->b<=c->c<b+a->c-b<=a-1:=fun _ k l=>zBI (zCC k l)
theorem zcq{a b c:Nat}:a=b+c->a+1=b+(c+1):=by lia
theorem zcr{a b:Nat}:a+1+4 * b+1+2+1<=a+1+4 * (b+1):=zH (a+1+4 * b+1+2+1)
theorem zcs{a:Nat}:max 0 (min 1 (↑(a+1):Int))=1:=by lia
theorem zct{a b c d:Nat}:a+1<=b->a > 0->c<d+b->c-d<b:=fun h _ k=>(Nat.lt_or_ge c d).elim (fun l=>zL (zAG (Nat.sub_eq_zero_of_le (zT l))) (zBX h)) (fun l=>zCC l k)
theorem zcu{a b:Nat}:0=a->0=b->b=a:=by lia
theorem zcv{a b c:Nat}:a+1+(b+c)=a+1+b+c:=by lia
theorem zcw{a b c d:Nat}:a=b+1->c=d+1->(d+1) * 5 >= 7 * 3->d * 5<7 * 3->b=d->b=4:=by lia
theorem zcx{a b:Nat}:a+1+b=a+b+1:=by lia
theorem zcy{a b c d:Nat}:a=b+1->c=d+1->(d+1) * 5 >= 31 * 3->d * 5<31 * 3->b=d->b=18:=by lia
theorem zcz{a b c:Nat}:a+1000<2 ^ 40->1<=b->b<=30->c <((↑b:Int)-1).toNat->a+1+4 * c+1+2<2 ^ 40:=fun h h1 h2 h3=>zL (by show a+1+4*c+3<=_;rw[zAK,zAK];exact zN (zC (zN (zBR (zCE 4 (zC (zT (zAX h3 (Int.toNat_sub _ 1))) (zC (zBE _ 1) h2))) 3) 1) (by decide)) a) h
theorem zda{a b c d:Nat}:a=b+1->c=d+1->(d+1) * 5 >= 127 * 3->d * 5<127 * 3->b=d->b=76:=by lia
theorem zdb{a b c:Nat}:a<b->¬a<c->¬a=c->a-1<b-1:=by lia
theorem zdc{a:Nat}:a+1+1+1+1<=a+8:=by lia
theorem zdd{a b c:Nat}:a<=b->b<a+c->b-a<c:=zCC
theorem zde{a b c:Nat}:a<b-c->c+a<b:=fun h=>zBA h
theorem zdf{a:Int}:0<a->a<1073741824->a≠0:=fun h _=>Ne.symm (Int.ne_of_lt h)
theorem zdg{a b c d e f g h:Nat}:  4<=a->a<=60->b<=a+1->0<c->c<=b->d<c->e+(f+1)+g=b->e+h=b->min 1 c+(c-1)<=10000:=by lia
theorem zdh{a b c:Nat}:a=b->a=c->b=c:=by lia
theorem zdi{a:Nat}:a<6->1500+17 * a+8+1+8<2 ^ 40:=by lia
theorem zdj{a b c d:Nat}:a<min b (c-d)->a<b:=fun h=>zG h (Nat.min_le_left ..)
theorem zdk{a b:Nat}:a<b->min a b+1+(b-a)<=b+1:=by lia
theorem zdl{a b c:Int}:a=b->b=c->a=c:=by lia
theorem zdm{a b:Nat}:a<b->b=a->False:=by lia
theorem zdn{a b:Nat}:¬a >= b->1<=b-a:=fun h=>zCW (zCK h)
theorem zdo{a b c d:Nat}:a<min b c->c=d->a<b:=fun h _=>zG h (Nat.min_le_left ..)
theorem zdp{a:Nat}:2<=(↑a:Int)/\(↑a:Int)<=7\/7<=(↑a:Int)/\(↑a:Int)<=30->a<=30:=by omega
theorem zdq{a b c d e:Nat}:a<b->c+(d+1)+e=c+(d+1+e):=by lia
theorem zdr{a:Nat}:¬(↑a:Int)<0:=Int.not_ofNat_neg a
theorem zds{a b c:Nat}:4<=a->a<=60->b<c->1+a<=2 * a+8:=by lia
theorem zdt{a b c d e f g h i j:Nat}:  a<=b+1->c<d->e<=b+1->f+(g+1)+h=a->f+i=a->j=e+1->f+(e+1)+h<=2 * b+9:=by lia
theorem zdu{a b c d e f g h i j:Nat}:  a<=b+1->c<d->e<=b+1->f+(g+1)+h=a->f+i=a->j=e+1->f+(e+1)+i<=2 * b+9:=by lia
theorem zdv{a b:Nat}:a<=b->b<a+0->¬b<a+0:=by lia
theorem zdw{a b c:Nat}:a<=120->b=a+2->c<=b+1->c<=500:=by lia
theorem zdx{a b:Nat}:a+200+4 * b+1+1<=a+200+4 * (b+1):=zT (zCX (zT (zAY _)))
theorem zdy{a b c:Nat}:a+(b+1)+c=a+b+(c+1):=Nat.succ_add_eq_add_succ (a.add b) c
theorem zdz{a b c:Nat}:4<=a->a<=60->b<c->a+1<=2 * a+8:=by lia
theorem zea{a b c d e f g h:Nat}:  4<=a->a<=60->b<=a+1->c<=b->d<c->e+(f+1)+g=b->e+h=b->min d c+1+(c-d)<=10000:=by lia
theorem zeb{a b:Nat}:a<b->¬a=b-1->a<b-1:=by lia
theorem zec{a b c:Nat}:1<=a->a<=30->b<=91-a->c<=a-1+b->c<128:=fun _ h k l=>zL (zC l (zCL (zC (zBE ..) h) (zC k (zBE ..)))) (by decide)
theorem zed{a b c d:Nat}:a<=120->b=a+2->c<=b+1->0<c->d<=c+1->d<=200:=by lia
theorem zee{a b c d:Nat}:a<min b (c-d)->d+a<d+b:=fun h=>zAL (zG h (Nat.min_le_left ..)) d
theorem zef{a:Nat}:1<=a->a<=30->(↑a:Int)<1073741824:=fun _ h=>Int.lt_of_le_of_lt (Int.ofNat_le.mpr h) (by decide)
theorem zeg{a b c d:Nat}:a<min b c->c=d->a<c:=fun h _=>zG h (Nat.min_le_right b c)
theorem zeh{a b:Nat}:a+1+4 * b+1<=a+1+4 * (b+1):=zN (zI (4 * b+1) 3) (a+1)
theorem zei{a b c:Nat}:a+1<=a+(b+1)/\c+1<=c+(b+1):=by lia
theorem zej{a b c d:Nat}:a=b->c=d->b+c=d+a:=fun e g=>by rw[e,g,Nat.add_comm]
theorem zek{a b c d:Nat}:a<=b-c->a<d->a<=min (b-c) d:=fun h k=>Nat.le_min.mpr ⟨h,zT k⟩
theorem zel{a b c:Nat}:a<=b->¬c >= a->c+(a-c) / 2<=b:=fun h k=>zC (zN (Nat.div_le_self _ _) c) (zC (zAG (zAE (zT (Nat.not_le.mp k)))) h)
theorem zem{a b:Nat}:a+(b+1)=a+b+1:=Eq.symm (zAK a b 1)
theorem zen{a b c:Nat}:4<=a->a<=60->b<c->a<=2 * a+8:=by lia
theorem zeo{a:Nat}:a+2+1000+20<=a+1500:=by lia
theorem zep{a b c d:Nat}:a=3->b<=2->c<=2->d<=10->a+1+(b+1+(c+1+(d+1+0)))<=24:=by lia
theorem zeq{a b c d:Nat}:a+1000<2 ^ 40->1<=b->b<=30->c<=91-b->d<c->a+200+4 * d<2 ^ 40:=fun h _ _ h3 h4=>zL (by rw[zAK];exact zN (zC (zN (zCE 4 (zC (zT h4) (zC h3 (zBE 91 b)))) 200) (by decide)) a) h
theorem zer{a b c d e f:Nat}:a<=300->b=a->c=b+1->d=e+1->b=e->f=c->f<=16777216:=by lia
theorem zes{a b c:Nat}:a+b<a+(b+1)+c:=by lia
theorem zet{a b c:Nat}:a<=a+(b-c)+1:=by lia
theorem zeu{a b:Nat}:a=b->b<=120->b+1+1<=16777216:=by lia
theorem zev{a:Nat}:0<a->a<=500->0 <(↑a:Int):=by lia
theorem zew{a b c d e:Nat}:1<=a->a<=30->b<=91-a->c<=a-1+b->d=e->e=c->d<=16777216:=fun _ h k l m n=>zC (zAG (m.trans n)) (zC l (zC (zCL (zC (zBE ..) h) (zC k (zBE ..))) (by decide)))
theorem zex{a b:Nat}:a<b->a<=(a+b) / 2:=by lia
theorem zey{a b c d:Nat}{e f:Int}:1<=a->a<=30->b<=91-a->c<b->d<=a-1+c->e≠f->d<16777216:=fun _ h k l m _=>zL (zC m (zCL (zC (zBE ..) h) (zC (zT l) (zC k (zBE ..))))) (by decide)
theorem zez{a b:Nat}{c:Int}{d:Nat}:  1<=a->a<=30->b<=91-a->c<=(↑(d+200+4 * b):Int)->c<=(↑(d+1000):Int):=fun _ _ h3 h4=>Int.le_trans h4 (Int.ofNat_le.mpr (by rw[zAK];exact zN (zC (zN (zCE 4 (zC h3 (zBE 91 a))) 200) (by decide)) d))
theorem zfa{a b:Nat}:a<=120->b=a->(↑a:Int)<2->¬2<=a:=by lia
theorem zfb{a b c d:Nat}:a<=999->b<=c->c<a->d=b->d+1<=16777216:=by lia
theorem zfc{a b:Nat}:¬a >= b->a+(b-a) / 2+1<=b:=fun h=>zAX (zAL (Nat.div_lt_self (zCW (Nat.not_le.mp h)) (zAY 1)) a) (zAE (zT (Nat.not_le.mp h)))
theorem zfd{a b c d:Nat}:a+1000<2 ^ 40->1<=b->b<=30->c<=91-b->d<c->a+200+4 * d+1<2 ^ 40:=fun h _ _ h3 h4=>zL (by rw[zAK,zAK];exact zN (zC (zN (zBR (zCE 4 (zC (zT h4) (zC h3 (zBE 91 b)))) 1) 200) (by decide)) a) h
theorem zfe{a b:Nat}:a<=1000->b=a->0<a->a=0->False:=by lia
theorem zff{a b c:Nat}:a<=b->b<c->c-1-a<c:=fun _ k=>zL (zBE _ _) (zCS (zBX k) Nat.zero_lt_one)
theorem zfg{a b:Nat}:a<=120->b=a+2->b<=500:=by lia
theorem zfh{a b c d e:Nat}:a+b<=c->1<=d->d<=e->e<b->a+e-1<c:=fun h _ _ k=>zL (zBE _ _) (zG (zAL k a) h)
theorem zfi{a b:Nat}:a<=b->a >= b->a=b:=fun h h_1=>zCJ h h_1
theorem zfj{a b c d:Nat}:a<=b->c<d->¬c=d+b-(d+b-(d+a)):=fun h k l=>zBH c (zG k (zC (zI d a) (zAG ((Nat.sub_sub_self (zN h d)).symm.trans l.symm))))
theorem zfk{a b c:Nat}:a<=10 * b->c<=9->a+c+1<=10 * (b+1):=by lia
theorem zfl{a b c d:Nat}:a<=b->a=c->d=c->min a d<=b:=by lia
theorem zfm{a b c d:Nat}{e f:Int}:  a+1000<2 ^ 40->1<=b->b<=30->c<=91-b->d<c->e≠f->a+200+4 * d+1+1+2<2 ^ 40:=fun h _ _ h3 h4 _=>zL (by show a+200+4*d+4<=_;rw[zAK,zAK];exact zN (zC (zN (zBR (zCE 4 (zC (zT h4) (zC h3 (zBE 91 b)))) 4) 200) (by decide)) a) h
theorem zfn{a b:Nat}:a+1<=b->a+1+1<=b+1:=fun h=>zBR h 1
theorem zfo{a b:Nat}:a<=1000->min a b<=16777216:=by lia
theorem zfp{a:Nat}:0<a->a<=500->(↑a:Int)<1073741824:=by lia
theorem zfq{a b:Nat}:a<b->(a+b) / 2<b:=by lia
theorem zfr{a b c d e f:Nat}:a=b->c=b+(d+1)->b<e->e<=c->min e f-a=0->c=f->False:=by lia
theorem zfs{a b c:Nat}:a<b->c<=c+a/\c+a<c+b:=fun h=>⟨zI c a,zAL h c⟩
theorem zft{a b c d:Nat}:a<=b->c<d->¬(d+b-(d+b-(d+a))<c/\c<=d+b):=fun h k l=>zBH c (zG k (zC (zI d a) (zC (zAG (Nat.sub_sub_self (zN h d)).symm) (zT l.1))))
theorem zfu{a b:Nat}:¬a >= b->a+(b-a)<=b:=fun h=>zAG (zAE (zT (Nat.not_le.mp h)))
theorem zfv{a b:Nat}:a<=b->b<=a->a=b:=by lia
theorem zfw{a b c d:Nat}:a<min b c->c=d->a<d:=fun h k=>zG h (zC (Nat.min_le_right ..) (zAG k))
theorem zfx{a b c:Nat}:a<=b->¬a=b->c+a<c+b:=fun h g=>zAL (zAM h g) c
theorem zfy{a:Nat}:9<=a->a<=60->9<=2 * a+8:=by lia
theorem zfz{a b c d:Nat}:a+1=b->b+c<=d->a+(c+1)<=d:=fun e h=>by rw[Nat.add_comm c 1,<- zAK,e];exact h
theorem zga{a b c d e f:Nat}:a=b->c=d->e+1+c=f+1+a->e+c=f+a:=fun _ _ h=>Nat.add_right_cancel (m:=1) (by rw[zCT e c 1,zCT f a 1];exact h)
theorem zgb{a:Nat}:a<=100->1+a<=16777216:=by lia
theorem zgc{a b:Nat}:1<=a->a<=30->b+1+4 * ((↑a:Int)-1).toNat+1<=b+200+4 * 0:=fun _ h2=>by show _<=b+200;rw[zAK,zAK];exact zN (zC (zN (zBR (zCE 4 (zC (zAG (Int.toNat_sub a 1)) (zC (zBE a 1) h2))) 1) 1) (by decide)) b
theorem zgd{a b c:Nat}:a=b->b=c+1->¬c+1<b:=by lia
theorem zge{a b c d:Nat}:a<=b->a<b+(c-d)+1:=by lia
theorem zgf{a b c d e:Nat}:a=b->c=d->0+c=e+1+a->a<=c:=by lia
theorem zgg{a b c d:Nat}:4<=a->a<=60->b<c->d<=2 * a+8->¬d > 16777216:=by lia
theorem zgh{a:Nat}:¬a+1=0:=by lia
theorem zgi{a:Nat}:1<=a->a<=30->0<2 * (↑a:Int)+1:=fun _ _=>Int.sign_eq_one_iff_pos.mp rfl
theorem zgj{a:Nat}:1<=a->a+1≠0:=by lia
theorem zgk{a b c d e f g h:Nat}:  4<=a->a<=60->b<=a+1->c<=b->d<c->e+(f+1)+g=b->e+h=b->min d c+(c-(d+1))<=10000:=by lia
theorem zgl{a b c d e f g h:Nat}:  4<=a->a<=60->b<=a+1->c<=b->d<c->e+(f+1)+g=b->e+h=b->min d c+1+(c-(d+1))<=10000:=by lia
theorem zgm{a:Int}:0<=a->0<=a+1:=fun h=>Int.le_add_one h
theorem zgn{a b c d e:Nat}:a<b->a<c->¬b<c->¬b=c->a=b-1->d<e:=by lia
theorem zgo{a b c d e f:Nat}:a<128->b=a->a=c->d=e->d=f->f=a->d<=16777216:=by lia
theorem zgp{a b c d:Nat}:a<=b->b<c->d+a<d+c:=fun h g=>zAL (zL h g) d
theorem zgq{a b:Nat}:a=3->b<=2->a+1+(b+1+0)<=24:=by lia
theorem zgr{a b:Int}:a % 2147483629=b->b<2 ^ 64:=fun e=>Int.lt_trans (show b<2147483629 by rw[<- e];exact Int.emod_lt_of_pos a (by decide)) (by decide)
theorem zgs{a b c d:Nat}:a<=b->b<c->d<=d+a/\d+a<d+c:=fun h k=>⟨zI d a,zAL (zL h k) d⟩
theorem zgt{a b c:Nat}:a<b->¬a<c->¬b<c:=by lia
theorem zgu{a b c d e:Nat}:a+1<=b->c=d+a->e=b-a->e > 0:=by lia
theorem zgv{a b:Nat}:a=b->b<=120->1+b<=16777216:=by lia
theorem zgw{a b c d e:Nat}:a+1<=b->c=d+a->e=b-a->e-1=b-(a+1):=by lia
theorem zgx{a b c d:Nat}:a<=b->c<=d->a+(c+1)<=d+(b+1):=by lia
theorem zgy{a:Int}:7<=a->a<1000->0<a-6:=fun h _=>Int.sub_pos_of_lt h
theorem zgz{a:Nat}:¬a=3->¬(↑a:Int)=3:=by lia
theorem zha{a b:Nat}:a<=b->a<=2 * b+8:=by lia
theorem zhb{a b:Nat}:1<=a->a<=30->b <((↑a:Int)-1).toNat->1+(↑b:Int) <(↑a:Int):=fun _ _ h=>Int.ofNat_lt.mpr (show 1+b<a from zBA (zAX h (Int.toNat_sub _ 1)))
theorem zhc{a:Nat}{b:Int}{c d e:Nat}:  2<=a->a<=30->2<=b->b<=6->c<=a->(↑c:Int)<=b->d=c->e+1+c<=e+20:=by lia
theorem zhd{a b c d:Nat}:a=b->c=d->0+c=0+a->a<=c:=by lia
theorem zhe{a b c d e:Nat}:a+(b+c)<=d->e<b+c->e<d:=fun h g=>zG g (zC (zAW _ a) h)
theorem zhf{a b c d e:Nat}:a=b->c=d->e+1+c=0+a->¬a<=c:=by lia
theorem zhg{a b c:Nat}:a<=300->b=a->c=b+1->c<=16777216:=by lia
theorem zhh{a b:Nat}:¬a<b->¬a+1=b:=by lia
theorem zhi{a b c:Nat}:a=b->0=c->0<a->b≠c:=by lia
theorem zhj{a b c:Nat}:1<=a->a<=30->b <((↑a:Int)-1).toNat->c<=b->c<16777216:=fun _ h k l=>zL l (zG k (zC (zAG (Int.toNat_sub a 1)) (zC (zBE ..) (zC h (by decide)))))
theorem zhk{a b:Nat}:a-b<=0->b<=a->b=a:=by lia
theorem zhl{a b:Int}:a<=b->b<=a->b=a:=fun h h_1=>Int.le_antisymm h_1 h
theorem zhm{a:Nat}:a+8<2 ^ 40->a+1+1+1<2 ^ 40:=by lia
theorem zhn{a b:Nat}:¬a<b->¬a+1<b:=by lia
theorem zho{a:Nat}:0<1+(↑a:Int):=by lia
theorem zhp{a b c d:Nat}:a=b->b=c->d<a->d<min b c:=by lia
theorem zhq{a b c:Nat}:a<=b->c<13+a+1->c<0+(b+15):=by lia
theorem zhr{a b c:Nat}:a<b->¬a<c->¬b=c:=by lia
theorem zhs{a:Nat}:2<=(↑a:Int)/\(↑a:Int)<=7\/7<=(↑a:Int)/\(↑a:Int)<=30->2<=a:=by omega
theorem zht{a:Nat}:a-0=a-0:=by lia
theorem zhu{a:Nat}:1<=a->a=0->False:=by lia
theorem zhv{a b:Nat}:a<=b->b<1->a=b:=fun h g=>zCJ h (zC (zBF g) (zAO a))
theorem zhw{a:Nat}:a+1<=a->False:=by lia
theorem zhx{a:Nat}:a≠a+1:=by lia
theorem zhy{a:Nat}{b c d:Int}:a<2 ^ 40->0<=b->b<=(↑a:Int)->c % 2147483647=d->d+(b+1)<2 ^ 64:=by lia
theorem zhz{a b:Int}:a % 2147483629=b->-2 ^ 64<b:=fun e=>Int.lt_of_lt_of_le (by decide) (show 0<=b by rw[<- e];exact Int.emod_nonneg a (by decide))
theorem zia{a b:Int}:a<b-6->7+a<=b:=by lia
theorem zib{a b:Nat}:a-b<=a:=by omega
theorem zic{a b:Nat}:a<=1000->b=a->2<=a->2<=(↑a:Int):=by lia
theorem zid{a b c d e:Nat}:a+b+(c+1)<=d->e=d->a+b<e:=fun h k=>zAX (zL (zI _ c) h) k.symm
theorem zie{a b c:Nat}:a<=b->c=a+1->c<=b+1:=by lia
theorem zif{a b c d:Nat}:a+b+(c+1)<=d->a+(b+1)+c<=d:=fun h=>by rw[<- zAK a b 1,zAK _ 1 c,Nat.add_comm 1 c];exact h
theorem zig{a b c:Nat}:a<b->a=c->c<=b-1:=by omega
theorem zih{a b:Nat}:a-b=0->b<=a->b=a:=by lia
theorem zii{a b:Nat}:(↑a:Int)=(↑b:Int)->a=b:=fun h=>Int.ofNat_inj.mp h
theorem zij{a b:Int}:0<=a->a<b->0<=b:=by lia
theorem zik{a b c d:Nat}:a<=b->c+d<c+(b-a)+1->d<b+1-a:=by lia
theorem zil{a:Nat}:1<=a->a<=30->2 * (↑a:Int)+1<1073741824:=by lia
theorem zim{a b c d:Nat}:a+b<=c->d<=b->d > 1->a+d-1<c:=fun h k l=>zG (zCS (zG (zBX l) (zAW d a)) Nat.zero_lt_one) (zC (zN k a) h)
theorem zin{a:Int}:0<a->a<1073741824->0<=a:=fun h _=>Int.le_of_lt h
theorem zio{a b c:Nat}:a<=b->a<=c+(b+1):=by lia
theorem ziq{a b c:Nat}:a+1000<2 ^ 40->1<=b->b<=30->c <((↑b:Int)-1).toNat->a+1+4 * c<2 ^ 40:=fun h h1 h2 h3=>zL (by rw[zAK];exact zN (zC (zN (zCE 4 (zC (zT (zAX h3 (Int.toNat_sub _ 1))) (zC (zBE _ 1) h2))) 1) (by decide)) a) h
theorem zir{a b:Nat}:a+1000<2 ^ 40->1<=b->b<=30->a+1+4 * ((↑b:Int)-1).toNat<2 ^ 40:=fun h _ h2=>zL (by rw[zAK];exact zN (zC (zN (zCE 4 (zC (zAG (Int.toNat_sub b 1)) (zC (zBE b 1) h2))) 1) (by decide)) a) h
theorem zis{a b:Nat}:a<=120->b=a->2<=a->b-1<a:=by lia
theorem zit{a b:Nat}:a<128->a=b->b<128:=fun h h_1=>lt_of_eq_of_lt (id (Eq.symm h_1)) h
theorem ziu{a b:Nat}:2<=a->b+max 0 a<=a->b<=1:=fun _ h=>by rw[Nat.zero_max]at h;exact zC (Nat.le_of_add_le_add_right (b:=a) (c:=0) (by rw[zBU];exact h)) (zAO 1)
theorem ziv{a:Int}:1<=a->a<=1073741824->0<=a:=by lia
theorem ziw{a b c d:Nat}:4<=a->a<=60->b<=a->c<d->b+1<=16777216:=by lia
theorem zix{a:Nat}:a+2000<2 ^ 40->a+2+1000+100<2 ^ 40:=by lia
theorem ziy{a b c:Int}:a=b->¬a<c->¬c=b->c<b:=fun h k l=>Int.lt_iff_le_and_ne.mpr ⟨h▸Int.not_lt.mp k,l⟩
theorem ziz{a b:Int}:0<a->a<1073741824->0<=b->b<a->1<=1+b/\1+b<=1073741824:=fun _ k h g=>⟨Int.le_add_of_nonneg_right h,Int.le_trans (by rw[Int.add_comm];exact g) (Int.le_of_lt k)⟩
theorem zja{a b c d:Nat}:4<=a->a<=60->b<=a->c<d->1+b<=16777216:=by lia
theorem zjb{a b:Nat}:4<=a->a<=60->b<=a->b+2<=16777216:=by lia
theorem zjc{a b c:Nat}:(a+b) / 2<=c->¬c=(a+b) / 2->(a+b) / 2<c:=by lia
theorem zjd{a b c:Int}:a=b->b<c->a<c:=fun h h_1=>lt_of_eq_of_lt h h_1
theorem zje{a b c:Int}:a<b->b=c->a<c:=fun h h_1=>lt_of_lt_of_eq h h_1
theorem zjf{a b c:Nat}:a<=b->c<=10 * (13+a)->c<10 * (b+15):=by lia
theorem zjg{a:Int}:2<=a/\a<=7\/7<=a/\a<=30->a=(↑a.toNat:Int):=by lia
theorem zjh{a b:Nat}:a<b+1->b<a->False:=by lia
theorem zji{a b c d e:Nat}:4<=a->a<=60->b<=a+1->0<c->d<c->e+1<=b->1+e<=16777216:=by lia
theorem zjj{a b:Nat}:a<=(b+2) * 20000->b<=120->a+(b+2) * 1<=16777216:=by lia
theorem zjk{a b c:Nat}:a<=b->c<b+1-a->c<=b-a:=by omega
theorem zjl{a b:Nat}:a<b->¬a=b:=by lia
theorem zjm{a:Nat}:0<=(↑a:Int)->(↑a:Int)<4->a<4:=fun _ h_1=>Int.ofNat_lt.mp h_1
theorem zjn{a:Int}:a+1≠a:=by lia
namespace L2
open PySem PySem.Spec PyProof.Rows
noncomputable abbrev Key:=Sum Int Str
noncomputable def keyIs:Key->Value->Bool
 | .inl k,v=>Value.isInt k v
 | .inr x,v=>Value.isStrOf x v
noncomputable def keyH(w:World):Key->Int
 | .inl k=>hashInt k
 | .inr x=>hashStr w x
theorem keyIs_shape:∀ {k:Key}{v:Value},keyIs k v=true->(∃ i t,k=Sum.inl i/\v=Value.int i t)\/(∃ x t,k=Sum.inr x/\v=Value.str x t)
 | .inl i,v,h=>by
  obtain⟨t,e⟩:=Value.isInt_shape (k:=i) (v:=v) h
  exact .inl ⟨i,t,rfl,e⟩
 | .inr x,v,h=>by
  obtain⟨t,e⟩:=Value.isStrOf_shape (x:=x) (v:=v) h
  exact .inr ⟨x,t,rfl,e⟩
theorem keyIs_int(i:Int)(t:Tok):keyIs (.inl i) (.int i t)=true:=by simp[keyIs,Value.isInt]
theorem keyIs_str(x:Str)(t:Tok):keyIs (.inr x) (.str x t)=true:=by simp[keyIs,Value.isStrOf]
theorem key_ll(a b:Int):decide ((Sum.inl a:Key)=Sum.inl b)=(a == b):=by
 by_cases e:a=b
 ·subst e;simp
 ·have h:¬(Sum.inl a:Key)=Sum.inl b:=fun q=>e (Sum.inl.inj q)
  rw[decide_eq_false h]
  exact(beq_eq_false_iff_ne.mpr e).symm
theorem key_rr(a b:Str):decide ((Sum.inr a:Key)=Sum.inr b)=decide (a=b):=by
 by_cases e:a=b
 ·subst e;simp
 ·have h:¬(Sum.inr a:Key)=Sum.inr b:=fun q=>e (Sum.inr.inj q)
  rw[decide_eq_false h,decide_eq_false e]
theorem key_lr(a:Int)(b:Str):decide ((Sum.inl a:Key)=Sum.inr b)=false:=decide_eq_false (fun q=>nomatch q)
theorem key_rl(a:Str)(b:Int):decide ((Sum.inr a:Key)=Sum.inl b)=false:=decide_eq_false (fun q=>nomatch q)
noncomputable def mixKind(prog:Program)(w:World):PySem.KeyKind prog w Key where
 is:=keyIs
 hash:=keyH w
 inj:=fun v a b ha hb=>by
  rcases keyIs_shape ha with⟨i,t,rfl,rfl⟩ |⟨x,t,rfl,rfl⟩
  ·rcases keyIs_shape hb with⟨j,u,rfl,e⟩ |⟨y,u,rfl,e⟩
   ·injection e with e1 _;rw[e1]
   ·exact nomatch e
  ·rcases keyIs_shape hb with⟨j,u,rfl,e⟩ |⟨y,u,rfl,e⟩
   ·exact nomatch e
   ·injection e with e1 _;rw[e1]
 byValue:=fun k v h=>by
  rcases keyIs_shape h with⟨i,t,rfl,rfl⟩ |⟨x,t,rfl,rfl⟩ <;> rfl
 pyHash:=fun hv h=>by
  rcases keyIs_shape hv with⟨i,t,rfl,rfl⟩ |⟨x,t,rfl,rfl⟩
  ·exact wpAny_pyHash_int h
  ·exact wpAny_pyHash_str h
 eqBool:=fun hu hv h=>by
  rcases keyIs_shape hu with⟨i,t,rfl,rfl⟩ |⟨x,t,rfl,rfl⟩
  ·rcases keyIs_shape hv with⟨j,u,rfl,rfl⟩ |⟨y,u,rfl,rfl⟩
   ·rw[key_ll]at h;exact wpAny_eqBool_int h
   ·rw[key_lr]at h;exact SeqAt.EqAt.int_str i t y u _ _ _ _ h
  ·rcases keyIs_shape hv with⟨j,u,rfl,rfl⟩ |⟨y,u,rfl,rfl⟩
   ·rw[key_rl]at h;exact SeqAt.EqAt.str_int x t j u _ _ _ _ h
   ·rw[key_rr]at h;exact wpAny_eqBool_str h
 «strs»:=fun k x t v h=>by
  rcases keyIs_shape h with⟨i,u,rfl,e⟩ |⟨y,u,rfl,e⟩
  ·exact nomatch e
  ·injection e with e1 _
   subst e1
   cases v <;> rfl
theorem mixKind_int(prog:Program)(w:World)(i:Int)(t:Tok):(mixKind prog w).is (.inl i) (.int i t)=true:=keyIs_int i t
theorem mixKind_str(prog:Program)(w:World)(x:Str)(t:Tok):(mixKind prog w).is (.inr x) (.str x t)=true:=keyIs_str x t
open PySem PySem.Spec PyProof.Rows
inductive V where
 |non | bl (b:Bool) | int (i:Int) | str (x:Str) | byt (b:Array UInt8) | flt (b:UInt64) | ref (a:Addr) | ty (n:String)
 deriving DecidableEq
noncomputable def RelV:V->Value->Prop
 | .non,u=>u=Value.none
 | .bl b,u=>u=Value.bool b
 | .int i,u=>∃ t,u=Value.int i t
 | .str x,u=>∃ t,u=Value.str x t
 | .byt b,u=>∃ t,u=Value.bytes b t
 | .flt b,u=>∃ t,u=Value.float b t
 | .ref a,u=>u=Value.ref a
 | .ty n,u=>u=Value.type n
noncomputable abbrev Vals:List V->List Value->Prop:=Paired RelV
theorem Vals.length{xs:List V}{us:List Value}(r:Vals xs us):xs.length=us.length:=Paired.length r
theorem Vals.get:∀ {xs:List V}{us:List Value}{i:Nat}{x:V},Vals xs us->xs[i]?=some x->∃ u,us[i]?=some u/\RelV x u
 | _,_,_,_,.nil,e=>by simp at e
 | _,_,0,_,.cons r _,e=>by simp at e;subst e;exact⟨_,rfl,r⟩
 | _,_,i+1,x,.cons _ t,e=>by
  obtain⟨u,h1,h2⟩:=Vals.get (i:=i) (x:=x) t (by simpa using e)
  exact⟨u,by simpa using h1,h2⟩
theorem Vals.set{x:V}{u:Value}(r:RelV x u):∀ {xs:List V}{us:List Value} (i:Nat),Vals xs us->Vals (xs.set i x) (us.set i u)
 | _,_,_,.nil=>.nil
 | _,_,0,.cons _ t=>.cons r t
 | _,_,i+1,.cons q t=>.cons q (Vals.set r i t)
theorem Vals.append:∀ {xs ys:List V}{us ws:List Value},Vals xs us->Vals ys ws->Vals (xs++ys) (us++ws)
 | _,_,_,_,.nil,s=>s
 | _,_,_,_,.cons r t,s=>.cons r (Vals.append t s)
theorem Vals.take:∀ {xs:List V}{us:List Value} (n:Nat),Vals xs us->Vals (xs.take n) (us.take n)
 | _,_,0,_=>.nil
 | _,_,_+1,.nil=>.nil
 | _,_,n+1,.cons r t=>.cons r (Vals.take n t)
theorem Vals.drop:∀ {xs:List V}{us:List Value} (n:Nat),Vals xs us->Vals (xs.drop n) (us.drop n)
 | _,_,0,r=>r
 | _,_,_+1,.nil=>.nil
 | _,_,n+1,.cons _ t=>Vals.drop n t
noncomputable def RelO:Option V->Option Value->Prop
 |some v,some u=>RelV v u
 |none,none=>True
 | _,_=>False
noncomputable def KV{κ:Type}:List (κ×V)->List (κ×Value)->Prop:=Paired fun(p:κ×V) (q:κ×Value)=>p.1=q.1/\RelV p.2 q.2
noncomputable def kV:Key->V
 | .inl i=>.int i
 | .inr x=>.str x
inductive HO where
 /-- a list -/
 |lst (xs:List V)
 /-- a tuple (never changes) -/
 |tup (xs:List V)
 /-- a dict whose keys are ints and texts;one whose keys are tuples of ints and texts (the empty one is both) -/
 |dK (kvs:List (Key×V)) | dT (kvs:List (List Key×V))
 /-- a set of ints: its members,its size -/
 |set (S:Int->Bool) (n:Nat)
 /-- an instance of the class at C,its dict at dx,its attributes -/
 |ins (C dx:Addr) (fs:List (Str×V))
 /-- the dict of the instance at x -/
 |own (x:Addr)
 /-- the dict of an exception -/
 |xd (fs:List (Str×V))
 /-- a bound method,f of x -/
 |met (f x:Addr)
 /-- a range object lo,lo+1,.. below hi -/
 |rng (lo hi:Int)
 /-- a thing that is known to the object (the script;a dict while a loop walks it): read,never written while it is so -/
 |frz (o:Obj) (u:HO)
 /-- a code object's table -/
 |tbl (ps:Array Value)
 /-- any other thing,by what is true of its one object (a def of one's own: SetO a S n:=HO.ext fun h=>..) -/
 |ext (φ:Heap->Prop)
noncomputable abbrev Hp:=Addr->Option HO
noncomputable def upd(H:Hp)(a:Addr)(o:HO):Hp:=fun b=>if b=a then some o else H b
theorem upd_same{H:Hp}{a:Addr}{o:HO}:upd H a o a=some o:=by unfold upd;rw[if_pos rfl]
theorem upd_ne{H:Hp}{a b:Addr}{o:HO}(h:b≠a):upd H a o b=H b:=by unfold upd;rw[if_neg h]
theorem ne_of{H:Hp}{a b:Addr}{o u:HO}(h:H a=some o)(h':H b=some u)(d:o≠u):a≠b:=by
 intro e;subst e;rw[h]at h';exact d (Option.some.inj h')
theorem ne_of_none{H:Hp}{a b:Addr}{o:HO}(h:H a=some o)(h':H b=none):a≠b:=by
 intro e;subst e;rw[h]at h';cases h'
section
variable(P:Program)(w:World)
noncomputable def ObjOk(H:Hp)(h:Heap)(a:Addr):HO->Prop
 | .lst xs=>xs.length<=sizeLine/\∃ (its:List Value) (n:Nat),Vals xs its/\h.get? a=some { cls:=.type "list",data:=.seq its.toArray n }
 | .tup xs=>xs.length<=sizeLine/\∃ its:List Value,Vals xs its/\IsTup h a its.toArray
 | .dK kvs=>kvs.length<=sizeLine/\(a == sysModules)=false/\∃ vs,KV kvs vs/\h.DictOf (mixKind P w) a vs
 | .dT kvs=>kvs.length<=sizeLine/\(a == sysModules)=false/\∃ xs:List (List Key×Addr×Value),
   Paired (fun(p:List Key×V) (q:List Key×Addr×Value)=>p.1=q.1/\H q.2.1=some (.tup (p.1.map kV))/\RelV p.2 q.2.2) kvs xs /\
   ∃ o es ep,h.get? a=some o/\o.ExactDict/\o.data = .dict es ep/\es.toList=xs.map (entryOfKey (tupleKind (mixKind P w)))/\(xs.map (·.1)).Nodup
 | .set S n=>h.SetOf (intKind P w) a S n
 | .ins C dx fs=>H dx=some (.own a)/\fs.length<=1000/\dx≠a/\h.get? a=some (PySem.W.instObj C dx) /\
   ∃ mA,h.Ns1 dx mA/\(∀ f,RelO (fs.lookup f) (mA f))/\PySem.Within mA (fs.map (·.1))
 | .own _=>∃ o,h.get? a=some o
 | .xd fs=>∃ mA,h.Ns1 a mA/\∀ f,RelO (fs.lookup f) (mA f)
 | .rng lo hi=>∃ t u v,h.get? a=some { cls:=.type "range",data:=.fields #[.int lo t,.int hi u,.int 1 v] }
 | .frz o u=>h.get? a=some o/\ObjOk H h a u
 | .tbl ps=>h.get? a=some { cls:=.none,data:=.fields ps }
 | .met f x=>h.get? a=some (PySem.W.methodObj (.ref f) (.ref x))
 | .ext φ=>φ h/\(∃ o,h.get? a=some o)/\∀ h1 h2:Heap,φ h1->(∀ o,h1.get? a=some o->h2.get? a=some o)->φ h2
noncomputable def HOk(H:Hp)(h:Heap):Prop:=∀ a o,H a=some o->ObjOk P w H h a o
end
section
variable{P:Program}{w:World}{H H':Hp}{h h':Heap}{a:Addr}{o:HO}
theorem ObjOk.lt(x:ObjOk P w H h a o):a<h.objs.size:=by
 cases o with
 |lst xs=>obtain⟨_,_,_,_,e⟩:=x;exact zK e
 |tup xs=>obtain⟨_,_,_,p⟩:=x;exact p.lt
 |dK kvs=>obtain⟨_,_,_,_,o,_,_,e,_⟩:=x;exact zK e
 |dT kvs=>obtain⟨_,_,_,_,o,_,_,e,_⟩:=x;exact zK e
 |set S n=>obtain⟨o,_,_,_,e,_⟩:=x;exact zK e
 |ins C dx fs=>obtain⟨_,_,_,e,_⟩:=x;exact zK e
 |own y=>obtain⟨_,e⟩:=x;exact zK e
 |xd fs=>obtain⟨_,⟨_,_,_,e,_⟩,_⟩:=x;exact zK e
 |rng lo hi=>obtain⟨_,_,_,e⟩:=x;exact zK e
 |frz ob u=>obtain⟨e,_⟩:=x;exact zK e
 |tbl ps=>exact zK (show h.get? a=some _ from x)
 |met f y=>exact zK (show h.get? a=some _ from x)
 |ext φ=>obtain⟨_,⟨_,e⟩,_⟩:=x;exact zK e
theorem Paired.mapP{α β:Type}{F G:α->β->Prop}:∀ {l₁:List α}{l₂:List β},Paired F l₁ l₂->(∀ a b,F a b->G a b)->Paired G l₁ l₂
 | _,_,.nil,_=>.nil
 | _,_,.cons r t,f=>.cons (f _ _ r) (Paired.mapP t f)
theorem ObjOk.stay(x:ObjOk P w H h a o)(k:∀ b u,(b=a\/H b=some (.own a))->h.get? b=some u->h'.get? b=some u)
  (ho:∀ b,H b=some (.own a)->H' b=some (.own a)) (ht:∀ b xs,H b=some (.tup xs)->H' b=some (.tup xs)):ObjOk P w H' h' a o:=by
 induction o with
 |lst xs=>obtain⟨z,its,n,r,e⟩:=x;exact⟨z,its,n,r,k _ _ (.inl rfl) e⟩
 |tup xs=>obtain⟨z,its,r,ob,e,c⟩:=x;exact⟨z,its,r,ob,k _ _ (.inl rfl) e,c⟩
 |dK kvs=>obtain⟨z,y,vs,r,ob,es,ep,e,c⟩:=x;exact⟨z,y,vs,r,ob,es,ep,k _ _ (.inl rfl) e,c⟩
 |dT kvs =>
  obtain⟨z,y,xs,r,ob,es,ep,e,c⟩:=x
  exact⟨z,y,xs,Paired.mapP r fun p q z=>⟨z.1,ht _ _ z.2.1,z.2.2⟩,ob,es,ep,k _ _ (.inl rfl) e,c⟩
 |set S n=>obtain⟨ob,es,ep,t,e,c⟩:=x;exact⟨ob,es,ep,t,k _ _ (.inl rfl) e,c⟩
 |ins C dx fs =>
  obtain⟨d,z,ne,e,mA,⟨od,es,ep,e2,c⟩,r⟩:=x
  exact⟨ho _ d,z,ne,k _ _ (.inl rfl) e,mA,⟨od,es,ep,k _ _ (.inr d) e2,c⟩,r⟩
 |own y=>obtain⟨ob,e⟩:=x;exact⟨ob,k _ _ (.inl rfl) e⟩
 |xd fs=>obtain⟨mA,⟨od,es,ep,e,c⟩,r⟩:=x;exact⟨mA,⟨od,es,ep,k _ _ (.inl rfl) e,c⟩,r⟩
 |rng lo hi=>obtain⟨t,u,v,e⟩:=x;exact⟨t,u,v,k _ _ (.inl rfl) e⟩
 |frz ob u ih=>obtain⟨e,q⟩:=x;exact⟨k _ _ (.inl rfl) e,ih q⟩
 |tbl ps =>
  have e:h.get? a=some { cls:=.none,data:=.fields ps }:=x
  show h'.get? a=some { cls:=.none,data:=.fields ps }
  exact k a _ (.inl rfl) e
 |met f y =>
  have e:h.get? a=some (PySem.W.methodObj (.ref f) (.ref y)):=x
  show h'.get? a=some (PySem.W.methodObj (.ref f) (.ref y))
  exact k a _ (.inl rfl) e
 |ext φ=>obtain⟨p,⟨o,e⟩,st⟩:=x;exact⟨st _ _ p fun o q=>k _ _ (.inl rfl) q,⟨o,k _ _ (.inl rfl) e⟩,st⟩
theorem HOk.lt(x:HOk P w H h)(e:H a=some o):a<h.objs.size:=(x a o e).lt
theorem HOk.fresh(x:HOk P w H h)(e:h.objs.size<=a):H a=none:=by
 cases q:H a with
 |none=>rfl
 |some u=>exact absurd (zG (x.lt q) e) (zBH _)
theorem HOk.kept(x:HOk P w H h)(k:∀ b u,h.get? b=some u->h'.get? b=some u):HOk P w H h':=fun a o e =>
 (x a o e).stay (fun b u _ q=>k b u q) (fun _ q=>q) fun _ _ q=>q
theorem HOk.laid(x:HOk P w H h)(k:∀ b u,h.get? b=some u->h'.get? b=some u)(hp:h.objs.size<=a)(new:ObjOk P w (upd H a o) h' a o):HOk P w (upd H a o) h':=fun b u e=>by
 have hn:=x.fresh hp
 by_cases hb:b=a
 ·subst hb;rw[upd_same]at e;cases e;exact new
 ·rw[upd_ne hb]at e
  exact(x b u e).stay (fun c v _ q=>k c v q) (fun c q=>by rw[upd_ne (ne_of_none q hn)];exact q) fun c xs q=>by rw[upd_ne (ne_of_none q hn)];exact q
end
noncomputable def Rd(H:Hp)(a:Addr)(u:HO):Prop:=H a=some u\/∃ o,H a=some (.frz o u)
theorem Rd.ok{P:Program}{w:World}{H:Hp}{h:Heap}{a:Addr}{u:HO}(r:Rd H a u)(x:HOk P w H h):ObjOk P w H h a u:=by
 rcases r with r |⟨o,r⟩
 ·exact x a u r
 ·obtain⟨_,q⟩:=x a _ r
  exact q
noncomputable def Mut:Option HO->Prop
 |some (.lst _)=>True
 |some (.dK _)=>True
 |some (.dT _)=>True
 |some (.set _ _)=>True
 |some (.ins _ _ _)=>True
 |some (.ext _)=>True
 | _=>False
section
variable{P:Program}{w:World}{H:Hp}{h h':Heap}{x e:Addr}{o':HO}
theorem HOk.write(ok:HOk P w H h)(mu:Mut (H x))(he:e=x\/H e=some (.own x))(k:∀ b u,b≠e->h.get? b=some u->h'.get? b=some u)(heo:∃ u,h'.get? e=some u)
  (new:ObjOk P w (upd H x o') h' x o'):HOk P w (upd H x o') h':=fun b u q=>by
 have nown:∀ c y,H c=some (.own y)->c≠x:=fun c y r z=>by subst z;rw[r]at mu;exact mu
 have ntup:∀ c xs,H c=some (.tup xs)->c≠x:=fun c xs r z=>by subst z;rw[r]at mu;exact mu
 by_cases hb:b=x
 ·subst hb;rw[upd_same]at q;cases q;exact new
 ·rw[upd_ne hb]at q
  by_cases hbe:b=e
  ·have q':H b=some (.own x):=by
    rcases he with z | z
    ·exact absurd (hbe.trans z) hb
    ·rw[hbe];exact z
   rw[q]at q';cases q'
   obtain⟨v,hv⟩:=heo
   exact⟨v,by rw[hbe];exact hv⟩
  ·refine(ok b u q).stay (fun c v hc r=>k c v ?_ r) (fun c r=>by rw[upd_ne (nown c b r)];exact r) fun c xs r=>by rw[upd_ne (ntup c xs r)];exact r
   rcases hc with rfl | hc
   ·exact hbe
   ·rintro rfl
    rcases he with z | z
    ·exact nown c b hc z
    ·rw[hc]at z;cases z;exact hb rfl
end
structure Un(fs ex:List Addr)(H H':Hp)(h h':Heap):Prop where
 keep:∀ b o,h.get? b=some o->H b=none->b∉fs->b∉ex->h'.get? b=some o
 slot:∀ b o,h.get? b=some o->H b=none->b∈fs->b∉ex->∃ sl,h'.get? b=some { o with slots:=sl }
 free:∀ b o,h.get? b=some o->H b=none->b∉ex->H' b=none
 there:∀ b o,h.get? b=some o->b∉ex->∃ o',h'.get? b=some o'
 tups:∀ b xs,H b=some (.tup xs)->H' b=some (.tup xs)
 frzs:∀ b o u,H b=some (.frz o u)->H' b=some (.frz o u)
 tbls:∀ b ps,H b=some (.tbl ps)->∃ more,H' b=some (.tbl (ps++more))
section
variable{fs fs' ex ex':List Addr}{H H1 H2:Hp}{h h1 h2 h':Heap}{a x e:Addr}{o:HO}
theorem Un.any(u:Un fs ex H H1 h h1){b:Addr}{ob:Obj}(q:h.get? b=some ob)(n:H b=none)(hx:b∉ex):∃ sl,h1.get? b=some { ob with slots:=sl }:=by
 by_cases hb:b∈fs
 ·exact u.slot b ob q n hb hx
 ·exact⟨ob.slots,u.keep b ob q n hb hx⟩
theorem Un.kept(k:∀ b u,h.get? b=some u->h'.get? b=some u):Un fs ex H H h h' :=
 ⟨fun b ob q _ _ _=>k b ob q,fun b ob q _ _ _=>⟨ob.slots,k b ob q⟩,fun _ _ _ n _=>n,fun b ob q _=>⟨ob,k b ob q⟩,fun _ _ q=>q,fun _ _ _ q=>q,fun _ ps q=>⟨#[],by rw[q];simp⟩⟩
theorem Un.refl:Un fs ex H H h h:=Un.kept fun _ _ q=>q
theorem Un.laid(k:∀ b u,h.get? b=some u->h'.get? b=some u)(hp:h.objs.size<=a)(hn:H a=none):Un fs ex H (upd H a o) h h' where
 keep:=fun b u q _ _ _=>k b u q
 slot:=fun b u q _ _ _=>⟨u.slots,k b u q⟩
 free:=fun b u q n _=>by rw[upd_ne (zAC (zG (zK q) hp))];exact n
 there:=fun b u q _=>⟨u,k b u q⟩
 tups:=fun b xs q=>by rw[upd_ne (ne_of_none q hn)];exact q
 frzs:=fun b u xs q=>by rw[upd_ne (ne_of_none q hn)];exact q
 tbls:=fun b ps q=>⟨#[],by rw[upd_ne (ne_of_none q hn),q];simp⟩
theorem Un.write(mu:Mut (H x))(he:e=x\/H e=some (.own x))(k:∀ b u,b≠e->h.get? b=some u->h'.get? b=some u)(heo:∃ u,h'.get? e=some u):Un fs ex H (upd H x o) h h':=by
 have hx:∀ b,H b=none->b≠x:=fun b n z=>by subst z;rw[n]at mu;exact mu
 have hb:∀ b,H b=none->b≠e:=fun b n z=>by
  subst z
  rcases he with r | r
  ·exact hx b n r
  ·rw[n]at r;cases r
 have hm:∀ b u,H b=some u->¬ Mut (some u)->b≠x:=fun b u q nm z=>by subst z;rw[q]at mu;exact nm mu
 refine⟨fun b u q n _ _=>k b u (hb b n) q,fun b u q n _ _=>⟨u.slots,k b u (hb b n) q⟩,fun b u q n _=>by rw[upd_ne (hx b n)];exact n,fun b u q _=>?_,
  fun b xs q=>by rw[upd_ne (hm b _ q fun z=>z)];exact q,fun b u xs q=>by rw[upd_ne (hm b _ q fun z=>z)];exact q,fun b ps q=>⟨#[],by rw[upd_ne (hm b _ q fun z=>z),q];simp⟩⟩
 by_cases hbe:b=e
 ·subst hbe;exact heo
 ·exact⟨u,k b u hbe q⟩
end
noncomputable def trk(h:Heap)(H:Hp):List Addr:=(List.range h.objs.size).filter fun a=>(H a).isSome
noncomputable def hidT(h:Heap)(H:Hp):Heap:=PySem.W.hideAll h (trk h H)
theorem hidT_size(h:Heap)(H:Hp):(hidT h H).objs.size=h.objs.size:=PySem.W.hideAll_size _ _
theorem hidT_get{h:Heap}{H:Hp}{b:Addr}{o:Obj}(e:h.get? b=some o)(n:H b=none):(hidT h H).get? b=some o :=
 PySem.W.hideAll_get _ e fun hm=>by
  have q:(H b).isSome=true:=(List.mem_filter.mp hm).2
  rw[n]at q;simp at q
theorem of_hidT{h:Heap}{H:Hp}{b:Addr}{o:Obj}(e:(hidT h H).get? b=some o):h.get? b=some o/\H b=none:=by
 have e':h.get? b=some o:=PySem.W.of_hideAll (trk h H) e
 refine⟨e',?_⟩
 cases q:H b with
 |none=>rfl
 |some x =>
  have hm:b∈trk h H:=List.mem_filter.mpr ⟨zBP.mpr (zK e'),by simp[q]⟩
  have z:(hidT h H).get? b=none:=PySem.W.hideAll_none (trk h H) hm
  rw[z]at e;cases e
open PySem PySem.Spec PyProof.Rows
structure Mod(K:PySem.W.Frag)(mg:Str->Option Value)(base:Heap):Prop where
 kin:K.In base
 glob:base.Ns mainGlobals mg
 blt:∃ mb,base.Ns builtinsNs mb/\∀ x:Str,x≠"__name__"->mb x=bootBuiltins x
 nolimit:base.NoLimit
structure Cx where
 prog:Program
 w:World
 K:PySem.W.Frag
 mg:Str->Option Value
 base:Heap
 A:Around
 N:List Str
 s₀:Shared
 H₀:Hp
 env:Env
 outer:List Env
 stack:List Env
 ex:List Addr
 fn:Str->Bool
 calm:Bool
 pn:List (Addr×Obj)
 xe:Value->Shared->Prop
noncomputable def frs(l:List Env):List Addr:=l.filterMap (·.frame)
noncomputable abbrev Cx.fs(X:Cx):List Addr:=frs X.outer
noncomputable def Vis(sc:Scope)(x:Str):Prop:=sc.names.lookup x=some .local\/sc.names.lookup x=some .cell\/sc.names.lookup x=some .free
noncomputable def Loc(sc:Scope)(x:Str):Prop:=sc.names.lookup x=some .local\/sc.names.lookup x=some .cell
noncomputable def Look(env:Env)(h:Heap)(m:Str->Option Value)(x:Str)(u:Value):Prop :=
 (env.kindOf x=some .local/\m x=some u)\/((env.kindOf x=some .cell\/env.kindOf x=some .free)/\∃ c,env.cells.lookup x=some c/\h.IsCell c (some u))
structure Cx.Ok(X:Cx):Prop where
 mod:Mod X.K X.mg X.base
 kind:X.env.scope.kind = .function
 glob:X.env.globals=mainGlobals
 blt:X.env.builtins=builtinsNs
 above:X.s₀.heap.objs.size<=X.env.locals
 inj:∀ x y c,X.env.cells.lookup x=some c->X.env.cells.lookup y=some c->x=y
 has:∀ x,(X.env.kindOf x=some .cell\/X.env.kindOf x=some .free)->∃ c,X.env.cells.lookup x=some c
 cab:∀ x c,X.fn x=true->X.env.cells.lookup x=some c->X.s₀.heap.objs.size<=c
 hd:X.calm=true->X.A.handled=none
 frames:X.A.frames=some X.stack
 stk:X.stack=X.outer\/(X.stack=X.env :: X.outer/\X.env.frame=some X.env.locals)
 exf:∀ b∈X.ex,b≠X.env.locals/\∀ x c,X.env.cells.lookup x=some c->c≠b
 bs:∀ b o,X.base.get? b=some o->X.s₀.heap.get? b=some o/\X.H₀ b=none
 bsz:X.base.objs.size<=X.s₀.heap.objs.size
 noex:∀ b o,X.base.get? b=some o->b∉X.ex
 exfs:∀ b∈X.ex,b∉X.fs
 funs:X.s₀.heap.FunFrames X.base X.outer
 frf:∀ b∈X.fs,X.H₀ b=none
structure Inv(X:Cx)(pins:List (Addr×Obj))(σ:List (Option V))(H:Hp)(s:Shared):Prop where
 ok:X.Ok
 os:s.os=X.s₀.os
 bare:AllBare s.gens
 base:Un X.fs X.ex X.H₀ H X.s₀.heap s.heap
 loc:∃ m,s.heap.Ns X.env.locals m/\∀ (i:Nat) (x:Str) (v:V),X.N[i]?=some x->σ[i]?=some (some v)->Vis X.env.scope x->∃ u,RelV v u/\Look X.env s.heap m x u
 cell:∀ x c,X.env.cells.lookup x=some c->∃ v,s.heap.IsCell c v
 free:H X.env.locals=none
 freeC:∀ x c,X.env.cells.lookup x=some c->H c=none
 pin:∀ p∈X.pn++pins,s.heap.get? p.1=some p.2/\H p.1=none/\p.1≠X.env.locals/\p.1∉X.fs/\∀ v,p.2.data≠.cell v
 hok:HOk X.prog X.w H s.heap
 len:σ.length=X.N.length
section
variable{X:Cx}{pins:List (Addr×Obj)}{σ:List (Option V)}{H H':Hp}{s:Shared}{h':Heap}
theorem Cx.Ok.nofr(ok:X.Ok){b:Addr}{o:Obj}(e:X.base.get? b=some o):b∉X.fs:=fun hb=>by
 have:=(ok.funs.mem hb).1
 rw[e]at this;cases this
theorem Inv.bs(I:Inv X pins σ H s):∀ b o,X.base.get? b=some o->s.heap.get? b=some o/\H b=none:=fun b o e =>
 ⟨I.base.keep b o (I.ok.bs b o e).1 (I.ok.bs b o e).2 (I.ok.nofr e) (I.ok.noex b o e),I.base.free b o (I.ok.bs b o e).1 (I.ok.bs b o e).2 (I.ok.noex b o e)⟩
theorem Inv.bk(I:Inv X pins σ H s):∀ b o,X.base.get? b=some o->s.heap.get? b=some o:=fun b o e=>(I.bs b o e).1
theorem Inv.mod(I:Inv X pins σ H s):Mod X.K X.mg X.base:=I.ok.mod
theorem Inv.kIn(I:Inv X pins σ H s):X.K.In s.heap:=I.ok.mod.kin.keeps I.bk
theorem Inv.lt(I:Inv X pins σ H s):X.env.locals<s.heap.objs.size:=let ⟨_,hn,_⟩:=I.loc;hn.lt
theorem Inv.sz(I:Inv X pins σ H s):X.s₀.heap.objs.size<=s.heap.objs.size:=zC I.ok.above (zT I.lt)
theorem Inv.nofs(I:Inv X pins σ H s){a:Addr}(h:s.heap.objs.size<=a):a∉X.fs:=fun hb=>by
 obtain⟨_,o,ho,_⟩:=I.ok.funs.mem hb
 exact absurd (zG (zK ho) (zC I.sz h)) (zBH _)
theorem Inv.cne(I:Inv X pins σ H s):∀ x c,X.env.cells.lookup x=some c->c≠X.env.locals:=fun x c e z=>by
 obtain⟨v,o,ho,hd⟩:=I.cell x c e
 obtain⟨m,⟨o',es,ep,ho',hd',_⟩,_⟩:=I.loc
 rw[z,ho']at ho;cases ho;rw[hd']at hd;cases hd
theorem Inv.funs(I:Inv X pins σ H s):s.heap.FunFrames X.base X.outer:=by
 have all:∀ (l:List Env),(∀ b∈frs l,b∈X.fs)->X.s₀.heap.FunFrames X.base l->s.heap.FunFrames X.base l:=by
  intro l
  induction l with
  |nil=>intro _ _;trivial
  |cons env r ih =>
   intro hs hl
   obtain⟨hk,⟨L,o,hf,hn,ho,hd⟩,hr⟩:=hl
   have hL:L∈X.fs:=hs L (by unfold frs;rw[List.filterMap_cons,hf];exact zX)
   obtain⟨sl,e⟩:=I.base.slot L o ho (I.ok.frf L hL) hL fun z=>I.ok.exfs L z hL
   exact⟨hk,⟨L,_,hf,hn,e,hd⟩,ih (fun b hb=>hs b (by unfold frs;rw[List.filterMap_cons,hf];exact zP _ hb)) hr⟩
 exact all X.outer (fun _ hb=>hb) I.ok.funs
theorem Inv.stack(I:Inv X pins σ H s):s.heap.FunFrames X.base X.stack:=by
 rcases I.ok.stk with e |⟨e,hf⟩
 ·rw[e];exact I.funs
 ·rw[e]
  obtain⟨m,hn,_⟩:=I.loc
  refine .cons (by rw[I.ok.kind];decide) hf hn ?_ I.funs
  exact Heap.get?_none_of_le (zC I.ok.bsz I.ok.above)
theorem Inv.stkSub(I:Inv X pins σ H s):∀ b∈frs X.stack,b∈X.env.locals :: X.fs:=fun b hb=>by
 rcases I.ok.stk with e |⟨e,hf⟩
 ·rw[e]at hb;exact zP _ hb
 ·rw[e]at hb
  unfold frs at hb
  rw[List.filterMap_cons,hf]at hb
  exact hb
theorem Inv.stkFree(I:Inv X pins σ H s):∀ b∈frs X.stack,H b=none:=fun b hb=>by
 rcases zW.mp (I.stkSub b hb)with e | hb
 ·rw[e];exact I.free
 ·obtain⟨_,o,ho,_⟩:=I.ok.funs.mem hb
  exact I.base.free b o ho (I.ok.frf b hb) fun z=>I.ok.exfs b z hb
theorem Inv.step{g':Array GenState}{t':Nat}{d':Drawn}{ch:List Addr}(I:Inv X pins σ H s)
  (hch:∀ b∈ch,(b∈X.ex\/X.s₀.heap.objs.size<=b)/\b≠X.env.locals/\(∀ x c,X.env.cells.lookup x=some c->c≠b)/\∀ p∈X.pn++pins,p.1≠b)
  (keep:∀ b o,b≠X.env.locals->b∉X.fs->b∉ch->s.heap.get? b=some o->H b=none->h'.get? b=some o)
  (slot:∀ b o,b≠X.env.locals->b∈X.fs->b∉ch->s.heap.get? b=some o->H b=none->∃ sl,h'.get? b=some { o with slots:=sl }) (free:∀ b o,b∉ch->s.heap.get? b=some o->H b=none->H' b=none)
  (there:∀ b o,b∉ch->s.heap.get? b=some o->∃ o',h'.get? b=some o')
  (tups:∀ b xs,H b=some (.tup xs)->H' b=some (.tup xs)) (frzs:∀ b o u,H b=some (.frz o u)->H' b=some (.frz o u)) (tbls:∀ b ps,H b=some (.tbl ps)->∃ more,H' b=some (.tbl (ps++more)))
  (ns:∀ m,s.heap.Ns X.env.locals m->h'.Ns X.env.locals m) (hok:HOk X.prog X.w H' h') (hg:AllBare g') :
  Inv X pins σ H' { s with heap:=h',gens:=g',drawn:=d',toks:=t' }:=by
 have neL:∀ b o,X.s₀.heap.get? b=some o->b≠X.env.locals:=fun b o e=>zAC (zG (zK e) I.ok.above)
 have neC:∀ b o,X.s₀.heap.get? b=some o->b∉X.ex->b∉ch:=fun b o e hx hb=>by
  rcases(hch b hb).1 with z | z
  ·exact hx z
  ·exact absurd (zG (zK e) z) (zBH _)
 have cellK:∀ x c,X.env.cells.lookup x=some c->∀ v,s.heap.IsCell c v->h'.IsCell c v:=fun x c e v ⟨o,ho,hd⟩=>by
  have nch:c∉ch:=fun z=>(hch c z).2.2.1 x c e rfl
  by_cases hc:c∈X.fs
  ·obtain⟨sl,q⟩:=slot c o (I.cne x c e) hc nch ho (I.freeC x c e)
   exact⟨_,q,hd⟩
  ·exact⟨o,keep c o (I.cne x c e) hc nch ho (I.freeC x c e),hd⟩
 refine⟨I.ok,I.os,hg,⟨fun b o e n hb hx=>?_,fun b o e n hb hx=>?_,fun b o e n hx=>?_,fun b o e hx=>?_,fun b xs e=>tups b xs (I.base.tups b xs e),fun b o xs e=>frzs b o xs (I.base.frzs b o xs e),fun b ps e=>?_⟩,?_,fun x c e=>?_,?_,fun x c e=>?_,fun p hp=>?_,hok,I.len⟩
 ·exact keep b o (neL b o e) hb (neC b o e hx) (I.base.keep b o e n hb hx) (I.base.free b o e n hx)
 ·obtain⟨sl,e1⟩:=I.base.slot b o e n hb hx
  obtain⟨sl',e2⟩:=slot b _ (neL b o e) hb (neC b o e hx) e1 (I.base.free b o e n hx)
  exact⟨sl',e2⟩
 ·obtain⟨o',e1⟩:=I.base.there b o e hx
  exact free b o' (neC b o e hx) e1 (I.base.free b o e n hx)
 ·obtain⟨o',e1⟩:=I.base.there b o e hx
  exact there b o' (neC b o e hx) e1
 ·obtain⟨m1,e1⟩:=I.base.tbls b ps e
  obtain⟨m2,e2⟩:=tbls b _ e1
  exact⟨m1++m2,by rw[e2,Array.append_assoc]⟩
 ·obtain⟨m,hn,hl⟩:=I.loc
  refine⟨m,ns m hn,fun i x v e1 e2 e3=>?_⟩
  obtain⟨u,r,l⟩:=hl i x v e1 e2 e3
  refine⟨u,r,?_⟩
  rcases l with l |⟨k,c,e,z⟩
  ·exact .inl l
  ·exact .inr ⟨k,c,e,cellK x c e _ z⟩
 ·obtain⟨v,z⟩:=I.cell x c e
  exact⟨v,cellK x c e v z⟩
 ·obtain⟨m,⟨o,_,_,ho,_⟩,_⟩:=I.loc
  exact free _ o (fun z=>(hch _ z).2.1 rfl) ho I.free
 ·obtain⟨v,o,ho,hd⟩:=I.cell x c e
  exact free c o (fun z=>(hch c z).2.2.1 x c e rfl) ho (I.freeC x c e)
 ·obtain⟨e,n,ne,nf,d⟩:=I.pin p hp
  have nch:p.1∉ch:=fun z=>(hch p.1 z).2.2.2 p hp rfl
  exact⟨keep p.1 p.2 ne nf nch e n,free p.1 p.2 nch e n,ne,nf,d⟩
theorem Inv.un{t':Nat}(I:Inv X pins σ H s)(u:Un X.fs [] H H' s.heap h')(hok:HOk X.prog X.w H' h'):Inv X pins σ H' { s with heap:=h',toks:=t' }:=by
 obtain⟨m,⟨o,es,ep,ho,r⟩,_⟩:=id I.loc
 obtain⟨sl,hL⟩:=u.any ho I.free (by simp)
 exact I.step (g':=s.gens) (d':=s.drawn) (ch:=[]) (fun _ z=>nomatch z) (fun b o _ hb _ e n=>u.keep b o e n hb (by simp)) (fun b o _ hb _ e n=>u.slot b o e n hb (by simp)) (fun b o _ e n=>u.free b o e n (by simp)) (fun b o _ e=>u.there b o e (by simp)) u.tups u.frzs u.tbls (fun m' hm=>by
  obtain⟨o',es',ep',ho',r'⟩:=hm
  rw[ho]at ho';cases ho'
  exact⟨_,es',ep',hL,r'⟩) hok I.bare
theorem Inv.call{g':Array GenState}{t':Nat}{d':Drawn}{ch:List Addr}(I:Inv X pins σ H s)(u:Un (frs X.stack) ch H H' s.heap h')(hok:HOk X.prog X.w H' h')(hg:AllBare g')
  (hch:∀ b∈ch,(b∈X.ex\/X.s₀.heap.objs.size<=b)/\b≠X.env.locals/\(∀ x c,X.env.cells.lookup x=some c->c≠b)/\∀ p∈X.pn++pins,p.1≠b) :
  Inv X pins σ H' { s with heap:=h',gens:=g',drawn:=d',toks:=t' }:=by
 obtain⟨m,⟨o,es,ep,ho,r⟩,_⟩:=id I.loc
 obtain⟨sl,hL⟩:=u.any ho I.free fun z=>(hch _ z).2.1 rfl
 exact I.step (ch:=ch) hch (fun b o hL hb hc e n=>u.keep b o e n (fun z=>(zW.mp (I.stkSub b z)).elim hL hb) hc) (fun b o _ _ hc e n=>u.any e n hc) (fun b o hc e n=>u.free b o e n hc) (fun b o hc e=>u.there b o e hc) u.tups u.frzs u.tbls (fun m' hm=>by
  obtain⟨o',es',ep',ho',r'⟩:=hm
  rw[ho]at ho';cases ho'
  exact⟨_,es',ep',hL,r'⟩) hok hg
theorem Inv.turned{t':Nat}{it:Addr}(I:Inv X pins σ H s)(k:∀ b o,b≠it->s.heap.get? b=some o->h'.get? b=some o)(hn:H it=none)(hL:it≠X.env.locals)
  (h1:it∈X.ex\/X.s₀.heap.objs.size<=it) (h2:∀ x c,X.env.cells.lookup x=some c->c≠it) (h3:∀ p∈X.pn++pins,p.1≠it):Inv X pins σ H { s with heap:=h',toks:=t' }:=by
 have nit:∀ b u,H b=some u->b≠it:=fun b u e z=>by rw[z,hn]at e;cases e
 refine I.step (g':=s.gens) (d':=s.drawn) (ch:=[it]) (fun b hb=>?_) (fun b o _ _ hc e _=>k b o (fun z=>hc (by simp[z])) e) (fun b o _ _ hc e _=>⟨o.slots,k b o (fun z=>hc (by simp[z])) e⟩) (fun _ _ _ _ n=>n)
  (fun b o hc e=>⟨o,k b o (fun z=>hc (by simp[z])) e⟩) (fun _ _ e=>e) (fun _ _ _ e=>e) (fun b ps e=>⟨#[],by rw[e];simp⟩) (fun m hm=>?_) (fun b u e=>?_) I.bare
 ·have e:b=it:=by simpa using hb
  subst e
  exact⟨h1,hL,h2,h3⟩
 ·obtain⟨o,es,ep,ho,r⟩:=hm
  exact⟨o,es,ep,k _ o (Ne.symm hL) ho,r⟩
 ·refine(I.hok b u e).stay (fun c v hc q=>k c v ?_ q) (fun _ q=>q) fun _ _ q=>q
  rcases hc with z | z
  ·rw[z];exact nit b u e
  ·exact nit c _ z
theorem Inv.tok(I:Inv X pins σ H s)(t:Nat):Inv X pins σ H { s with toks:=t }:=I.un (h':=s.heap) (t':=t) Un.refl I.hok
theorem Inv.kept{t':Nat}(I:Inv X pins σ H s)(k:∀ b u,s.heap.get? b=some u->h'.get? b=some u):Inv X pins σ H { s with heap:=h',toks:=t' }:=I.un (Un.kept k) (I.hok.kept k)
theorem Inv.laid{a:Addr}{o:HO}{t':Nat}(I:Inv X pins σ H s)(k:∀ b u,s.heap.get? b=some u->h'.get? b=some u)(hp:s.heap.objs.size<=a)(new:ObjOk X.prog X.w (upd H a o) h' a o) :
  Inv X pins σ (upd H a o) { s with heap:=h',toks:=t' }:=I.un (Un.laid k hp (I.hok.fresh hp)) (I.hok.laid k hp new)
theorem Inv.write{x e:Addr}{o:HO}{t':Nat}(I:Inv X pins σ H s)(mu:Mut (H x))(he:e=x\/H e=some (.own x))(k:∀ b u,b≠e->s.heap.get? b=some u->h'.get? b=some u)(heo:∃ u,h'.get? e=some u)
  (new:ObjOk X.prog X.w (upd H x o) h' x o):Inv X pins σ (upd H x o) { s with heap:=h',toks:=t' }:=I.un (Un.write mu he k heo) (I.hok.write mu he k heo new)
theorem Inv.weak{σ':List (Option V)}(I:Inv X pins σ H s)(hl:σ'.length=σ.length)(w:∀ (i:Nat) v,σ'[i]?=some (some v)->σ[i]?=some (some v)):Inv X pins σ' H s :=
 ⟨I.ok,I.os,I.bare,I.base,let ⟨m,hn,hl'⟩:=I.loc;⟨m,hn,fun i x v e1 e2 e3=>hl' i x v e1 (w i v e2) e3⟩,I.cell,I.free,I.freeC,I.pin,I.hok,hl.trans I.len⟩
theorem Inv.pins_of{pins':List (Addr×Obj)}(I:Inv X pins σ H s)(h:∀ p∈pins',s.heap.get? p.1=some p.2/\H p.1=none/\p.1≠X.env.locals/\p.1∉X.fs/\∀ v,p.2.data≠.cell v):Inv X pins' σ H s :=
 ⟨I.ok,I.os,I.bare,I.base,I.loc,I.cell,I.free,I.freeC,fun p hp=>(zAB.mp hp).elim (fun z=>I.pin p (zAZ _ z)) (h p),I.hok,I.len⟩
theorem nodup_ix{N:List Str}(hN:N.Nodup){i j:Nat}{x:Str}(a:N[i]?=some x)(b:N[j]?=some x):i=j:=by
 obtain⟨h1,e1⟩:=zZ.mp a
 obtain⟨h2,e2⟩:=zZ.mp b
 exact(List.getElem_inj hN).mp (e1.trans e2.symm)
theorem store_ok2{M:Model}{A:Around}{E:Value->Shared->Prop}{i:Nat}{x:Str}{v:V}{u:Value}{Q:Unit->Shared->Prop}(I:Inv X pins σ H s)(hN:X.N.Nodup)(hi:X.N[i]?=some x)(hx:Loc X.env.scope x)(r:RelV v u)
  (h:∀ s',Inv X pins (σ.set i (some v)) H s'->(∃ a,Heap.SameBut a s.heap s'.heap/\(a=X.env.locals\/X.env.cells.lookup x=some a))->Q () s') (hf:X.fn x=true\/X.env.scope.names.lookup x=some .local:=by first | exact .inl rfl | exact .inr rfl | assumption):wpAny M A (storeName X.env x u) Q E s:=by
 obtain⟨m,hn,hl⟩:=id I.loc
 have hcls:(X.env.scope.kind == .class ||(X.env.scope.kind == .module && X.env.locals != X.env.globals))=false:=by rw[I.ok.kind];rfl
 have hiσ:i<σ.length:=by rw[I.len];exact(zZ.mp hi).1
 have cne:=I.cne
 have tracked:∀ {a:Addr}{h':Heap},(∃ o,s.heap.get? a=some o/\H a=none)->Heap.SameBut a s.heap h'->HOk X.prog X.w H h':=fun {a h'} ha hs b ob e=>by
  obtain⟨_,_,hfree⟩:=ha
  refine(I.hok b ob e).stay (fun c w' hc q=>(hs.2 c ?_).trans q) (fun _ q=>q) fun _ _ q=>q
  rintro rfl
  rcases hc with rfl | hc
  ·rw[hfree]at e;cases e
  ·rw[hfree]at hc;cases hc
 rcases hx with hk | hk
 ·refine wpAny_storeName_local hk hn (fun h' hn' hs=>?_) hcls
  obtain⟨oL,_,_,hoL,_⟩:=id hn
  refine h _ ⟨I.ok,I.os,I.bare,⟨fun b o e n hb hx=>?_,fun b o e n hb hx=>?_,I.base.free,fun b o e hx=>?_,I.base.tups,I.base.frzs,I.base.tbls⟩,⟨_,hn',fun j y v' e1 e2 e3=>?_⟩,fun y c e=>?_,I.free,I.freeC,fun p hp=>?_,tracked ⟨oL,hoL,I.free⟩ hs,by simpa using I.len⟩ ⟨_,hs,.inl rfl⟩
  ·exact(hs.2 b (zAC (zG (zK e) I.ok.above))).trans (I.base.keep b o e n hb hx)
  ·obtain⟨sl,e1⟩:=I.base.slot b o e n hb hx
   exact⟨sl,(hs.2 b (zAC (zG (zK e) I.ok.above))).trans e1⟩
  ·obtain⟨o',e1⟩:=I.base.there b o e hx
   exact⟨o',(hs.2 b (zAC (zG (zK e) I.ok.above))).trans e1⟩
  ·by_cases hj:j=i
   ·subst hj
    rw[hi]at e1;cases e1
    rw[List.getElem?_set_self hiσ]at e2
    cases e2
    exact⟨u,r,.inl ⟨hk,by simp⟩⟩
   ·rw[List.getElem?_set_ne (Ne.symm hj)]at e2
    obtain⟨u',r',q⟩:=hl j y v' e1 e2 e3
    refine⟨u',r',?_⟩
    rcases q with⟨k,e⟩ |⟨k,c,e,z⟩
    ·refine .inl ⟨k,?_⟩
     have:y≠x:=fun e=>hj (nodup_ix hN e1 (e▸hi))
     simp[this,e]
    ·exact .inr ⟨k,c,e,z.sameBut hs (cne y c e)⟩
  ·obtain⟨w',z⟩:=I.cell y c e
   exact⟨w',z.sameBut hs (cne y c e)⟩
  ·obtain⟨e,n,ne,nf,d⟩:=I.pin p hp
   exact⟨(hs.2 p.1 ne).trans e,n,ne,nf,d⟩
 ·have hfn:X.fn x=true:=by
   rcases hf with z | z
   ·exact z
   ·rw[z]at hk;cases hk
  obtain⟨c,hc⟩:=I.ok.has x (.inl hk)
  obtain⟨w',z⟩:=I.cell x c hc
  refine wpAny_storeName_cell I.ok.kind hk hc z (fun h' hc' hs=>?_)
  obtain⟨oc,hoc,hocd⟩:=id z
  refine h { s with heap:=h' } ⟨I.ok,I.os,I.bare,⟨fun b o e n hb hx=>?_,fun b o e n hb hx=>?_,I.base.free,fun b o e hx=>?_,I.base.tups,I.base.frzs,I.base.tbls⟩,⟨m,hn.sameBut hs (Ne.symm (cne x c hc)),fun j y v' e1 e2 e3=>?_⟩,fun y c' e=>?_,I.free,I.freeC,fun p hp=>?_,tracked ⟨oc,hoc,I.freeC x c hc⟩ hs,by simpa using I.len⟩ ⟨c,hs,.inr hc⟩
  ·exact(hs.2 b (zAC (zG (zK e) (I.ok.cab x c hfn hc)))).trans (I.base.keep b o e n hb hx)
  ·obtain⟨sl,e1⟩:=I.base.slot b o e n hb hx
   exact⟨sl,(hs.2 b (zAC (zG (zK e) (I.ok.cab x c hfn hc)))).trans e1⟩
  ·obtain⟨o',e1⟩:=I.base.there b o e hx
   exact⟨o',(hs.2 b (zAC (zG (zK e) (I.ok.cab x c hfn hc)))).trans e1⟩
  ·by_cases hj:j=i
   ·subst hj
    rw[hi]at e1;cases e1
    rw[List.getElem?_set_self hiσ]at e2
    cases e2
    exact⟨u,r,.inr ⟨.inl hk,c,hc,hc'⟩⟩
   ·rw[List.getElem?_set_ne (Ne.symm hj)]at e2
    obtain⟨u',r',q⟩:=hl j y v' e1 e2 e3
    refine⟨u',r',?_⟩
    rcases q with q |⟨k,c',e,z'⟩
    ·exact .inl q
    ·refine .inr ⟨k,c',e,z'.sameBut hs ?_⟩
     rintro rfl
     exact hj (nodup_ix hN e1 (I.ok.inj _ _ _ e hc▸hi))
  ·by_cases hcc:c'=c
   ·subst hcc;exact⟨_,hc'⟩
   ·obtain⟨w2,z2⟩:=I.cell y c' e
    exact⟨w2,z2.sameBut hs hcc⟩
  ·obtain⟨e,n,ne,nf,d⟩:=I.pin p hp
   refine⟨(hs.2 p.1 ?_).trans e,n,ne,nf,d⟩
   intro q
   rw[q,hoc]at e
   have q':oc=p.2:=Option.some.inj e
   exact d w' (by rw[<- q'];exact hocd)
theorem store_ok{M:Model}{A:Around}{E:Value->Shared->Prop}{i:Nat}{x:Str}{v:V}{u:Value}{Q:Unit->Shared->Prop}(I:Inv X pins σ H s)(hN:X.N.Nodup)(hi:X.N[i]?=some x)(hx:Loc X.env.scope x)(r:RelV v u)
  (h:∀ s',Inv X pins (σ.set i (some v)) H s'->Q () s') (hf:X.fn x=true\/X.env.scope.names.lookup x=some .local:=by first | exact .inl rfl | exact .inr rfl | assumption):wpAny M A (storeName X.env x u) Q E s :=
 store_ok2 I hN hi hx r (fun s' I' _=>h s' I') hf
theorem Inv.call'{s':Shared}{ch:List Addr}(I:Inv X pins σ H s)(ho:s'.os=s.os)(u:Un (frs X.stack) ch H H' s.heap s'.heap)(hok:HOk X.prog X.w H' s'.heap)(hg:AllBare s'.gens)
  (hch:∀ b∈ch,(b∈X.ex\/X.s₀.heap.objs.size<=b)/\b≠X.env.locals/\(∀ x c,X.env.cells.lookup x=some c->c≠b)/\∀ p∈X.pn++pins,p.1≠b):Inv X pins σ H' s':=by
 obtain⟨h',g',d',t',o'⟩:=s'
 have e:o'=s.os:=ho
 subst e
 exact I.call (g':=g') (t':=t') (d':=d') u hok hg hch
end
noncomputable abbrev XK:=Value->Option Addr->Hp->Prop
noncomputable abbrev St:=List (Option V)
noncomputable abbrev VK:=V->Hp->Prop
noncomputable abbrev TE:=St->Hp->VK->Prop
noncomputable abbrev TT:=St->Hp->(Bool->Hp->Prop)->Prop
noncomputable abbrev TA:=St->Hp->(List V->Hp->Prop)->Prop
structure Ends where
 nx:St->Hp->Prop
 rt:VK
 bk:St->Hp->Prop:=fun _ _=>False
 ct:St->Hp->Prop:=fun _ _=>False
noncomputable abbrev TS:=Ends->St->Hp->Prop
noncomputable def EP(X:Cx)(pins:List (Addr×Obj))(σ:St)(Q:VK)(u:Value)(s':Shared):Prop:=∃ v H',Inv X pins σ H' s'/\RelV v u/\Q v H'
noncomputable def TP(X:Cx)(pins:List (Addr×Obj))(σ:St)(Q:Bool->Hp->Prop)(b:Bool)(s':Shared):Prop:=∃ H',Inv X pins σ H' s'/\Q b H'
noncomputable def AP(X:Cx)(pins:List (Addr×Obj))(σ:St)(Q:List V->Hp->Prop)(us:List Value)(s':Shared):Prop:=∃ vs H',Inv X pins σ H' s'/\Vals vs us/\Q vs H'
noncomputable def SP(X:Cx)(pins:List (Addr×Obj))(D:Ends)(f:Flow)(s':Shared):Prop :=
 match f with
 | .next=>∃ σ' H',Inv X pins σ' H' s'/\D.nx σ' H'
 | .brk=>∃ σ' H',Inv X pins σ' H' s'/\D.bk σ' H'
 | .cont=>∃ σ' H',Inv X pins σ' H' s'/\D.ct σ' H'
 | .ret u=>∃ v σ' H',Inv X pins σ' H' s'/\RelV v u/\D.rt v H'
noncomputable def PE(X:Cx)(e:Expr)(t:TE):Prop :=
 ∀ (pins:List (Addr×Obj)) (s:Shared) (σ:St) (H:Hp) (Q:VK),Inv X pins σ H s->t σ H Q->wpAny (model X.prog X.w) X.A (eval e X.env) (EP X pins σ Q) X.xe s
noncomputable def PT(X:Cx)(e:Expr)(t:TT):Prop :=
 ∀ (pins:List (Addr×Obj)) (s:Shared) (σ:St) (H:Hp) (Q:Bool->Hp->Prop),Inv X pins σ H s->t σ H Q->wpAny (model X.prog X.w) X.A (isTrue e X.env (eval e X.env)) (TP X pins σ Q) X.xe s
noncomputable def PW(X:Cx)(e:Expr)(t:TT):Prop :=
 ∀ (whole:Sem Value) (pins:List (Addr×Obj)) (s:Shared) (σ:St) (H:Hp) (Q:Bool->Hp->Prop),Inv X pins σ H s->t σ H Q->wpAny (model X.prog X.w) X.A (isTrue e X.env whole) (TP X pins σ Q) X.xe s
theorem PW.pt{X:Cx}{e:Expr}{t:TT}(h:PW X e t):PT X e t:=h _
noncomputable def PA(X:Cx)(es:List Expr)(t:TA):Prop :=
 ∀ (pos:Pos) (pins:List (Addr×Obj)) (s:Shared) (σ:St) (H:Hp) (Q:List V->Hp->Prop),Inv X pins σ H s->t σ H Q->wpAny (model X.prog X.w) X.A (spliced (backTo pos (starEach es X.env))) (AP X pins σ Q) X.xe s
noncomputable def PS(X:Cx)(st:Stmt)(t:TS):Prop :=
 ∀ (pins:List (Addr×Obj)) (s:Shared) (σ:St) (H:Hp) (D:Ends),Inv X pins σ H s->t D σ H->wpAny (model X.prog X.w) X.A (exec st X.env) (SP X pins D) X.xe s
noncomputable def PSs(X:Cx)(st:List Stmt)(t:TS):Prop :=
 ∀ (pins:List (Addr×Obj)) (s:Shared) (σ:St) (H:Hp) (D:Ends),Inv X pins σ H s->t D σ H->wpAny (model X.prog X.w) X.A (execs st X.env) (SP X pins D) X.xe s
theorem thn{α:Type}{t:Sem α}{Q Q':α->Shared->Prop}{M:Model}{A:Around}{E:Value->Shared->Prop}{s:Shared}(h:wpAny M A t Q E s)(hQ:∀ a s,Q a s->Q' a s):wpAny M A t Q' E s:=wpAny_mono h hQ fun _ _ x=>x
open PySem PySem.Spec PyProof.Rows
section
variable{X:Cx}
inductive Ex6{t0 t1 t2 t3 t4 t5:Type}(P:t0->t1->t2->t3->t4->t5->Prop):Prop where
 |mk (a0:t0) (a1:t1) (a2:t2) (a3:t3) (a4:t4) (a5:t5) (h:P a0 a1 a2 a3 a4 a5)
inductive Ex7{t0 t1 t2 t3 t4 t5 t6:Type}(P:t0->t1->t2->t3->t4->t5->t6->Prop):Prop where
 |mk (a0:t0) (a1:t1) (a2:t2) (a3:t3) (a4:t4) (a5:t5) (a6:t6) (h:P a0 a1 a2 a3 a4 a5 a6)
inductive Ex8{t0 t1 t2 t3 t4 t5 t6 t7:Type}(P:t0->t1->t2->t3->t4->t5->t6->t7->Prop):Prop where
 |mk (a0:t0) (a1:t1) (a2:t2) (a3:t3) (a4:t4) (a5:t5) (a6:t6) (a7:t7) (h:P a0 a1 a2 a3 a4 a5 a6 a7)
inductive tVarI(i:Nat)(σ:St)(H:Hp)(Q:VK):Prop where
 |mk (v:_) (h1:σ[i]?=some (some v)) (h2:Q v H)
noncomputable def tVar(i:Nat):TE:=fun σ H Q=>tVarI i σ H Q
noncomputable def tC(v:V):TE:=fun _ H Q=>Q v H
theorem pe_var{i:Nat}{x:Str}{pos:Pos}(hN:X.N[i]?=some x)(hv:Vis X.env.scope x)(hd:(x ==("__debug__":Str))=false:=by decide)(hcd:(x ==("__classdict__":Str))=false:=by decide):PE X (.Name x pos) (tVar i):=by
 intro pins s σ H Q I h
 obtain⟨v,e,h⟩:=h
 obtain⟨m,hn,hl⟩:=I.loc
 obtain⟨u,r,l⟩:=hl i x v hN e hv
 have fin:EP X pins σ Q u s:=⟨v,H,I,r,h⟩
 rcases l with⟨hk,hm⟩ |⟨hk,c,hc,hcell⟩
 ·exact wpAny_Name (wpAny_loadName_local I.ok.kind hk hn hm fin) hd
 ·rcases hk with hk | hk
  ·exact wpAny_Name (wpAny_loadName_cell I.ok.kind hk hc hcell fin) hd
  ·exact wpAny_Name (wpAny_loadName_free I.ok.kind hk hc hcell fin hcd) hd
theorem pe_int{i j pos}:PE X (.Constant (.int i) j pos) (tC (.int i)):=fun _ _ _ H _ I h=>wpAny_Constant_int ⟨.int i,H,I.tok _,⟨_,rfl⟩,h⟩
theorem pe_bl{b j pos}:PE X (.Constant (.bool b) j pos) (tC (.bl b)):=fun _ _ _ H _ I h=>Constant_bool ⟨.bl b,H,I,rfl,h⟩
theorem pe_non{j pos}:PE X (.Constant .none j pos) (tC .non):=fun _ _ _ H _ I h=>Constant_none ⟨.non,H,I,rfl,h⟩
theorem pe_str{x j pos}:PE X (.Constant (.str x) j pos) (tC (.str x)):=fun _ _ _ H _ I h=>Calls.Constant_str ⟨.str x,H,I.tok _,⟨_,rfl⟩,h⟩
noncomputable def Gl(X:Cx)(x:Str):Prop:=X.env.kindOf x=some .globalImplicit
theorem ld_glob{E:Value->Shared->Prop}{pins:List (Addr×Obj)}{s:Shared}{σ:St}{H:Hp}{x:Str}{u:Value}{pos:Pos}{Q:Value->Shared->Prop}(I:Inv X pins σ H s)(hg:Gl X x)(hm:X.mg x=some u)(h:Q u s)
  (hd:(x ==("__debug__":Str))=false:=by decide):wpAny (model X.prog X.w) X.A (eval (.Name x pos) X.env) Q E s :=
 Calls.Name_function_global I.ok.kind hg (Calls.loadGlobal_global (by rw[I.ok.glob];exact I.mod.glob.keeps I.bk) hm h) hd
theorem ld_blt{E:Value->Shared->Prop}{pins:List (Addr×Obj)}{s:Shared}{σ:St}{H:Hp}{x:Str}{u:Value}{pos:Pos}{Q:Value->Shared->Prop}(I:Inv X pins σ H s)(hg:Gl X x)(hm:X.mg x=none)(hv:bootBuiltins x=some u)(h:Q u s)
  (hn:x≠"__name__":=by decide) (hd:(x ==("__debug__":Str))=false:=by decide):wpAny (model X.prog X.w) X.A (eval (.Name x pos) X.env) Q E s:=by
 obtain⟨mb,h1,h2⟩:=I.mod.blt
 exact Calls.Name_function_global I.ok.kind hg (Calls.loadGlobal_builtin (by rw[I.ok.glob];exact I.mod.glob.keeps I.bk) hm (by rw[I.ok.blt];exact h1.keeps I.bk) ((h2 x hn).trans hv) h) hd
theorem pe_glob{x:Str}{v:V}{u:Value}{pos:Pos}(hg:Gl X x)(hm:X.mg x=some u)(r:RelV v u)(hd:(x ==("__debug__":Str))=false:=by decide):PE X (.Name x pos) (tC v) :=
 fun _ _ _ H _ I h=>ld_glob I hg hm ⟨v,H,I,r,h⟩ hd
theorem pe_bltn{x:Str}{v:V}{u:Value}{pos:Pos}(hg:Gl X x)(hm:X.mg x=none)(hv:bootBuiltins x=some u)(r:RelV v u)(hn:x≠"__name__":=by decide)(hd:(x ==("__debug__":Str))=false:=by decide):PE X (.Name x pos) (tC v) :=
 fun _ _ _ H _ I h=>ld_blt I hg hm hv ⟨v,H,I,r,h⟩ hn hd
variable{a b:Expr}{ta tb:TE}{pos:Pos}
noncomputable def PC(X:Cx)(op:CmpOp)(a b:Expr)(t:TE):Prop :=
 ∀ (pins:List (Addr×Obj)) (s:Shared) (σ:St) (H:Hp) (Q:VK),Inv X pins σ H s->t σ H Q ->
  wpAny (model X.prog X.w) X.A (eval a X.env) (fun v s₁=>wpAny (model X.prog X.w) X.A (eval b X.env) (fun u s₂=>wpAny (model X.prog X.w) X.A (compareOp op v u) (EP X pins σ Q) X.xe s₂) X.xe s₁) X.xe s
theorem nobehind(b:Expr){op:CmpOp}(h:op≠.In)(h2:op≠.NotIn):behindInMarks op b=false:=by
 have e1:(op == CmpOp.In)=false:=by cases op <;> first | rfl | exact absurd rfl h
 have e2:(op == CmpOp.NotIn)=false:=by cases op <;> first | rfl | exact absurd rfl h2
 cases b <;> simp[behindInMarks,e1,e2]
noncomputable def tIsN(ta:TE):TE:=fun σ H Q=>ta σ H fun x H1=>Q (.bl (decide (x = .non))) H1
noncomputable def tNotN(ta:TE):TE:=fun σ H Q=>ta σ H fun x H1=>Q (.bl (!decide (x = .non))) H1
theorem RelV.none_iff{x:V}{v:Value}(r:RelV x v):(v == Value.none)=decide (x = .non):=by
 cases x with
 |non=>cases r;rfl
 |bl _=>cases r;rfl
 |int _=>obtain⟨t,rfl⟩:=r;rfl
 |str _=>obtain⟨t,rfl⟩:=r;rfl
 |byt _=>obtain⟨t,rfl⟩:=r;rfl
 |flt _=>obtain⟨t,rfl⟩:=r;rfl
 |ref _=>cases r;rfl
 |ty _=>cases r;rfl
theorem pc_isN{j pos'}(ha:PE X a ta):PC X .Is a (.Constant .none j pos') (tIsN ta):=by
 intro pins s σ H Q I h
 refine thn (ha pins s σ H _ I h) fun v s1 ⟨x,H1,I1,r1,q1⟩=>?_
 exact Constant_none (is_none_gen ⟨.bl _,H1,I1,by rw[r1.none_iff];rfl,q1⟩)
theorem pc_notN{j pos'}(ha:PE X a ta):PC X .IsNot a (.Constant .none j pos') (tNotN ta):=by
 intro pins s σ H Q I h
 refine thn (ha pins s σ H _ I h) fun v s1 ⟨x,H1,I1,r1,q1⟩=>?_
 exact Constant_none (isnot_none_gen ⟨.bl _,H1,I1,by rw[r1.none_iff];rfl,q1⟩)
inductive ExB(x:V)(Q:Bool->Prop):Prop where
 |mk (c:Bool) (e:x = .bl c) (h:Q c)
noncomputable def tB(t:TE):TT:=fun σ H Q=>t σ H fun x H1=>ExB x fun c=>Q c H1
theorem pt_cmp{op:CmpOp}{t:TE}(h:PC X op a b t)(h1:behindInMarks op b=false:=by first | exact nobehind _ (by decide) (by decide) | rfl):PT X (.Compare a [op] [b] pos) (tB t):=by
 intro pins s σ H Q I hw
 refine wpAny_isTrue_Compare1 (thn (h pins s σ H _ I hw) fun v s1 h1=>thn h1 fun u s2 h2=>thn h2 fun c s3 ⟨x,H1,I1,r1,q1⟩=>?_) h1
 obtain⟨d,rfl,q⟩:=q1
 cases r1
 exact wpAny_truthy_bool ⟨H1,I1,q⟩
theorem pt_val{e:Expr}{t:TE}(h:PE X e t)(he:∀ whole,isTrue e X.env whole=(do let v <- whole;standAt e.pos;holding [v] (truthy v)):=by intro _;rfl):PT X e (tB t):=by
 intro pins s σ H Q I hw
 refine isTrue_plain (thn (h pins s σ H _ I hw) fun v s1 ⟨x,H1,I1,r1,q1⟩=>?_) (he _)
 obtain⟨d,rfl,q⟩:=q1
 cases r1
 exact wpAny_truthy_bool ⟨H1,I1,q⟩
variable{tA tB':TT}{rest:List Expr}
noncomputable def tAnd(t u:TT):TT:=fun σ H Q=>t σ H fun c H1=>if c=true then u σ H1 Q else Q false H1
noncomputable def tOr(t u:TT):TT:=fun σ H Q=>t σ H fun c H1=>if c=true then Q true H1 else u σ H1 Q
noncomputable def tNot(t:TT):TT:=fun σ H Q=>t σ H fun c H1=>Q (!c) H1
theorem pw_and1(ha:PT X a tA):PW X (.BoolOp .And [a] pos) tA:=by
 intro wh pins s σ H Q I h
 refine isTrue_and (thn (ha pins s σ H Q I h) fun c s1 e=>?_)
 cases c with
 |true=>exact isTrue_and_nil e
 |false=>exact e
theorem pw_or1(ha:PT X a tA):PW X (.BoolOp .Or [a] pos) tA:=by
 intro wh pins s σ H Q I h
 refine isTrue_or (thn (ha pins s σ H Q I h) fun c s1 e=>?_)
 cases c with
 |false=>exact isTrue_or_nil e
 |true=>exact e
theorem pw_and(ha:PT X a tA)(hb:PW X (.BoolOp .And (b :: rest) pos) tB'):PW X (.BoolOp .And (a :: b :: rest) pos) (tAnd tA tB'):=by
 intro wh pins s σ H Q I h
 refine isTrue_and (thn (ha pins s σ H _ I h) fun c s1 ⟨H1,I1,q1⟩=>?_)
 cases c with
 |true=>exact hb wh pins s1 σ H1 Q I1 q1
 |false=>exact⟨H1,I1,q1⟩
theorem pw_or(ha:PT X a tA)(hb:PW X (.BoolOp .Or (b :: rest) pos) tB'):PW X (.BoolOp .Or (a :: b :: rest) pos) (tOr tA tB'):=by
 intro wh pins s σ H Q I h
 refine isTrue_or (thn (ha pins s σ H _ I h) fun c s1 ⟨H1,I1,q1⟩=>?_)
 cases c with
 |true=>exact⟨H1,I1,q1⟩
 |false=>exact hb wh pins s1 σ H1 Q I1 q1
theorem pt_not(ha:PT X a tA):PT X (.UnaryOp .Not a pos) (tNot tA):=by
 intro pins s σ H Q I h
 exact isTrue_not (ha pins s σ H (fun c H1=>Q (!c) H1) I h)
noncomputable def tAndV(ta tb:TE):TE:=fun σ H Q=>ta σ H fun x H1=>ExB x fun c=>if c=true then tb σ H1 Q else Q (.bl false) H1
noncomputable def tOrV(ta tb:TE):TE:=fun σ H Q=>ta σ H fun x H1=>ExB x fun c=>if c=true then Q (.bl true) H1 else tb σ H1 Q
noncomputable def tNotV(ta:TE):TE:=fun σ H Q=>ta σ H fun x H1=>ExB x fun c=>Q (.bl (!c)) H1
theorem pe_one{op}{t:TE}(h:PE X a t):PE X (.BoolOp op [a] pos) t:=fun pins s σ H Q I hw=>BoolOp_one (h pins s σ H Q I hw)
theorem pe_and(ha:PE X a ta)(hb:PE X (.BoolOp .And (b :: rest) pos) tb):PE X (.BoolOp .And (a :: b :: rest) pos) (tAndV ta tb):=by
 intro pins s σ H Q I h
 refine BoolOp_and (thn (ha pins s σ H _ I h) fun v s1 ⟨x,H1,I1,r1,q1⟩=>?_)
 obtain⟨c,rfl,q1⟩:=q1
 cases r1
 refine wpAny_truthy_bool ?_
 cases c with
 |true=>exact hb pins s1 σ H1 Q I1 q1
 |false=>exact⟨.bl false,H1,I1,rfl,q1⟩
theorem pe_or(ha:PE X a ta)(hb:PE X (.BoolOp .Or (b :: rest) pos) tb):PE X (.BoolOp .Or (a :: b :: rest) pos) (tOrV ta tb):=by
 intro pins s σ H Q I h
 refine BoolOp_or (thn (ha pins s σ H _ I h) fun v s1 ⟨x,H1,I1,r1,q1⟩=>?_)
 obtain⟨c,rfl,q1⟩:=q1
 cases r1
 refine wpAny_truthy_bool ?_
 cases c with
 |false=>exact hb pins s1 σ H1 Q I1 q1
 |true=>exact⟨.bl true,H1,I1,rfl,q1⟩
theorem pe_not(ha:PE X a ta):PE X (.UnaryOp .Not a pos) (tNotV ta):=by
 intro pins s σ H Q I h
 refine UnaryOp_ (thn (ha pins s σ H _ I h) fun v s1 ⟨x,H1,I1,r1,q1⟩=>?_)
 obtain⟨c,rfl,q1⟩:=q1
 cases r1
 exact not_of (wpAny_truthy_bool ⟨.bl (!c),H1,I1,rfl,q1⟩)
noncomputable def tIf(t:TT)(ta tb:TE):TE:=fun σ H Q=>t σ H fun c H1=>if c=true then ta σ H1 Q else tb σ H1 Q
theorem pe_ifExp{c:Expr}(hc:PT X c tA)(ha:PE X a ta)(hb:PE X b tb):PE X (.IfExp c a b pos) (tIf tA ta tb):=by
 intro pins s σ H Q I h
 refine wpAny_IfExp (thn (hc pins s σ H _ I h) fun d s1 ⟨H1,I1,q1⟩=>?_)
 cases d with
 |true=>exact ha pins s1 σ H1 Q I1 q1
 |false=>exact hb pins s1 σ H1 Q I1 q1
end
open PySem PySem.Spec PyProof.Rows
noncomputable def SqL(K:PySem.W.Frag)(H:Hp)(a:Addr)(xs:List V):Prop :=
 Rd H a (.lst xs) \/
  ∃ (o:Obj) (its:Array Value) (n:Nat),K.lookup a=some o/\o.cls = .type "list"/\o.dict=none/\o.data = .seq its n/\its.size<=sizeLine/\Vals xs its.toList
noncomputable def SqT(K:PySem.W.Frag)(H:Hp)(a:Addr)(xs:List V):Prop :=
 Rd H a (.tup xs) \/
  ∃ (o:Obj) (its:Array Value) (n:Nat),K.lookup a=some o/\o.cls = .type "tuple"/\o.data = .seq its n/\its.size<=sizeLine/\Vals xs its.toList
noncomputable def absV:Value->Option V
 | .none=>some .non
 | .bool b=>some (.bl b)
 | .int i _=>some (.int i)
 | .str x _=>some (.str x)
 | .bytes b _=>some (.byt b)
 | .float b _=>some (.flt b)
 | .ref a=>some (.ref a)
 | .type n=>some (.ty n)
 | _=>none
theorem RelV.abs{x:V}{u:Value}(r:RelV x u):absV u=some x:=by
 cases x with
 |non=>cases r;rfl
 |bl _=>cases r;rfl
 |int _=>obtain⟨t,rfl⟩:=r;rfl
 |str _=>obtain⟨t,rfl⟩:=r;rfl
 |byt _=>obtain⟨t,rfl⟩:=r;rfl
 |flt _=>obtain⟨t,rfl⟩:=r;rfl
 |ref _=>cases r;rfl
 |ty _=>cases r;rfl
theorem RelV.inj{x y:V}{u:Value}(r:RelV x u)(q:RelV y u):x=y:=Option.some.inj (r.abs.symm.trans q.abs)
theorem Vals.inj:∀ {xs ys:List V}{us:List Value},Vals xs us->Vals ys us->xs=ys:=by
 intro xs ys us h
 induction h generalizing ys with
 |nil=>intro h';cases h';rfl
 |cons r t ih =>
  intro h'
  cases h' with
  |cons r' t'=>rw[r.inj r',ih t']
section
variable{X:Cx}{pins:List (Addr×Obj)}{σ:St}{H:Hp}{s:Shared}{a:Addr}{xs ys:List V}
theorem SqL.of{K:PySem.W.Frag}(h:H a=some (.lst xs)):SqL K H a xs:=.inl (.inl h)
theorem SqT.of{K:PySem.W.Frag}(h:H a=some (.tup xs)):SqT K H a xs:=.inl (.inl h)
theorem Inv.list(I:Inv X pins σ H s)(h:SqL X.K H a xs):∃ its:List Value,Vals xs its/\PlainL s.heap a its.toArray/\xs.length<=sizeLine:=by
 rcases h with h |⟨o,its,n,hk,hc,hd,hs,hz,r⟩
 ·obtain⟨z,its,n,r,e⟩:=h.ok I.hok
  exact⟨its,r,⟨_,n,e,rfl,rfl,rfl⟩,z⟩
 ·refine⟨its.toList,r,⟨o,n,I.kIn a o hk,hc,hd,by simpa using hs⟩,?_⟩
  have e:=r.length
  simp only[zO]at e
  lia
theorem Inv.tuple(I:Inv X pins σ H s)(h:SqT X.K H a xs):∃ its:List Value,Vals xs its/\IsTup s.heap a its.toArray/\xs.length<=sizeLine:=by
 rcases h with h |⟨o,its,n,hk,hc,hs,hz,r⟩
 ·obtain⟨z,its,r,p⟩:=h.ok I.hok
  exact⟨its,r,p,z⟩
 ·refine⟨its.toList,r,⟨o,I.kIn a o hk,hc,n,by simpa using hs⟩,?_⟩
  have e:=r.length
  simp only[zO]at e
  lia
theorem Inv.list_inj(I:Inv X pins σ H s)(h:SqL X.K H a xs)(h':SqL X.K H a ys):xs=ys:=by
 obtain⟨its,r,⟨o,n,e,_,_,d⟩,_⟩:=I.list h
 obtain⟨its',r',⟨o',n',e',_,_,d'⟩,_⟩:=I.list h'
 rw[e]at e';cases e'
 rw[d]at d'
 injection d' with d1 _
 have:its=its':=by simpa using congrArg Array.toList d1
 subst this
 exact r.inj r'
theorem Inv.tuple_inj(I:Inv X pins σ H s)(h:SqT X.K H a xs)(h':SqT X.K H a ys):xs=ys:=by
 obtain⟨its,r,⟨o,e,_,n,d⟩,_⟩:=I.tuple h
 obtain⟨its',r',⟨o',e',_,n',d'⟩,_⟩:=I.tuple h'
 rw[e]at e';cases e'
 rw[d]at d'
 injection d' with d1 _
 have:its=its':=by simpa using congrArg Array.toList d1
 subst this
 exact r.inj r'
end
noncomputable abbrev Cx.wish(X:Cx)(E:Value->Shared->Prop):Cx:={ X with xe:=E }
noncomputable abbrev Cx.nox(X:Cx):Cx:=X.wish fun _ _=>False
theorem Cx.Ok.wish{X:Cx}(ok:X.Ok)(E:Value->Shared->Prop):(X.wish E).Ok :=
 ⟨ok.mod,ok.kind,ok.glob,ok.blt,ok.above,ok.inj,ok.has,ok.cab,ok.hd,ok.frames,ok.stk,ok.exf,ok.bs,ok.bsz,ok.noex,ok.exfs,ok.funs,ok.frf⟩
theorem Cx.Ok.unwish{X:Cx}{E:Value->Shared->Prop}(ok:(X.wish E).Ok):X.Ok :=
 ⟨ok.mod,ok.kind,ok.glob,ok.blt,ok.above,ok.inj,ok.has,ok.cab,ok.hd,ok.frames,ok.stk,ok.exf,ok.bs,ok.bsz,ok.noex,ok.exfs,ok.funs,ok.frf⟩
section
variable{X:Cx}{pins:List (Addr×Obj)}{σ:St}{H:Hp}{s:Shared}{E:Value->Shared->Prop}
theorem Inv.wish(I:Inv X pins σ H s)(E:Value->Shared->Prop):Inv (X.wish E) pins σ H s:=⟨I.ok.wish E,I.os,I.bare,I.base,I.loc,I.cell,I.free,I.freeC,I.pin,I.hok,I.len⟩
theorem Inv.unwish(I:Inv (X.wish E) pins σ H s):Inv X pins σ H s:=⟨I.ok.unwish,I.os,I.bare,I.base,I.loc,I.cell,I.free,I.freeC,I.pin,I.hok,I.len⟩
theorem SP.unwish{D:Ends}{f:Flow}{s':Shared}(h:SP (X.wish E) pins D f s'):SP X pins D f s':=by
 cases f with
 |next=>obtain⟨σ',H',I,q⟩:=h;exact⟨σ',H',I.unwish,q⟩
 |brk=>obtain⟨σ',H',I,q⟩:=h;exact⟨σ',H',I.unwish,q⟩
 |cont=>obtain⟨σ',H',I,q⟩:=h;exact⟨σ',H',I.unwish,q⟩
 |ret u=>obtain⟨v,σ',H',I,r,q⟩:=h;exact⟨v,σ',H',I.unwish,r,q⟩
theorem PSs.nox{st:List Stmt}{t:TS}(h:PSs X.nox st t):PSs X st t:=fun pins s σ H D I hw =>
 wpAny_mono (h pins s σ H D (I.wish _) hw) (fun _ _ q=>q.unwish) fun _ _ z=>False.elim z
end
section
variable{X:Cx}{st:Stmt}{rest:List Stmt}{t u:TS}{e:Expr}{te:TE}{pos:Pos}
noncomputable def tNext:TS:=fun D σ H=>D.nx σ H
noncomputable def tSeq(t u:TS):TS:=fun D σ H=>t { D with nx:=u D } σ H
theorem pss_nil:PSs X [] tNext:=fun _ _ σ H _ I h=>wpAny_execs_nil ⟨σ,H,I,h⟩
theorem pss_cons(h1:PS X st t)(h2:PSs X rest u):PSs X (st :: rest) (tSeq t u):=by
 intro pins s σ H D I h
 refine wpAny_execs_cons (thn (h1 pins s σ H { D with nx:=u D } I h) fun f s1 q=>?_)
 cases f with
 |next =>
  obtain⟨σ',H',I',q⟩:=q
  exact h2 pins s1 σ' H' D I' q
 |ret v=>exact q
 |brk=>exact q
 |cont=>exact q
theorem pss_one(h1:PS X st t):PSs X [st] t:=by
 intro pins s σ H D I h
 refine wpAny_execs_cons (thn (h1 pins s σ H D I h) fun f s1 q=>?_)
 cases f with
 |next=>exact wpAny_execs_nil q
 |ret v=>exact q
 |brk=>exact q
 |cont=>exact q
theorem Inv.quiet{pins:List (Addr×Obj)}{σ:St}{H:Hp}{s:Shared}(I:Inv X pins σ H s):interactive X.env=false:=by simp[interactive,I.ok.kind]
noncomputable def tDrop(te:TE):TS:=fun D σ H=>te σ H fun _ H1=>D.nx σ H1
theorem ps_expr(he:PE X e te)(hs:swapsWith e none pos.line X.env=pure false:=by rfl):PS X (.Expr e pos) (tDrop te):=by
 intro pins s σ H D I h
 exact wpAny_Expr_any (thn (he pins s σ H _ I h) fun v s1 ⟨x,H1,I1,r1,q1⟩=>⟨σ,H1,I1,q1⟩) I.quiet hs
noncomputable def tRet(te:TE):TS:=fun D σ H=>te σ H D.rt
theorem ps_ret(he:PE X e te):PS X (.Return (some e) pos) (tRet te):=by
 intro pins s σ H D I h
 exact wpAny_Return_some (thn (he pins s σ H _ I h) fun v s1 ⟨x,H1,I1,r1,q1⟩=>⟨x,σ,H1,I1,r1,q1⟩)
noncomputable def tIfS(c:TT)(t u:TS):TS:=fun D σ H=>c σ H fun b H1=>if b=true then t D σ H1 else u D σ H1
theorem ps_if{c:Expr}{a b:List Stmt}{tc:TT}(hc:PT X c tc)(ha:PSs X a t)(hb:PSs X b u):PS X (.If c a b pos) (tIfS tc t u):=by
 intro pins s σ H D I h
 refine wpAny_If (thn (hc pins s σ H _ I h) fun d s1 ⟨H1,I1,q1⟩=>?_)
 cases d with
 |true=>exact ha pins s1 σ H1 D I1 q1
 |false=>exact hb pins s1 σ H1 D I1 q1
noncomputable def tNever:TS:=fun _ _ _=>False
theorem ps_never:PS X st tNever:=fun _ _ _ _ _ _ h=>h.elim
theorem pss_never{sts:List Stmt}:PSs X sts tNever:=fun _ _ _ _ _ _ h=>h.elim
end
noncomputable abbrev TG:=V->St->Hp->(St->Hp->Prop)->Prop
noncomputable abbrev TGs:=List V->St->Hp->(St->Hp->Prop)->Prop
noncomputable def PG(X:Cx)(target:Expr)(t:TG):Prop :=
 ∀ (pins:List (Addr×Obj)) (s:Shared) (σ:St) (H:Hp) (v:V) (u:Value) (Q:St->Hp->Prop),Inv X pins σ H s->RelV v u->t v σ H Q ->
  wpAny (model X.prog X.w) X.A (assign target X.env u) (fun _ s'=>∃ σ' H',Inv X pins σ' H' s'/\Q σ' H') X.xe s
noncomputable def PGs(X:Cx)(ts:List Expr)(t:TGs):Prop :=
 ∀ (pins:List (Addr×Obj)) (s:Shared) (σ:St) (H:Hp) (vs:List V) (us:List Value) (Q:St->Hp->Prop),Inv X pins σ H s->Vals vs us->t vs σ H Q ->
  wpAny (model X.prog X.w) X.A (assignInOrder ((assignEach ts X.env).map (·.2)) us) (fun _ s'=>∃ σ' H',Inv X pins σ' H' s'/\Q σ' H') X.xe s
noncomputable abbrev TSet:=V->V->V->Hp->(Hp->Prop)->Prop
noncomputable def PSet(X:Cx)(t:TSet):Prop :=
 ∀ (pins:List (Addr×Obj)) (s:Shared) (σ:St) (H:Hp) (o i v:V) (ov iv u:Value) (Q:Hp->Prop),Inv X pins σ H s->RelV o ov->RelV i iv->RelV v u->t o i v H Q ->
  wpAny (model X.prog X.w) X.A (setItem ov iv u) (fun _ s'=>∃ H',Inv X pins σ H' s'/\Q H') X.xe s
section
variable{X:Cx}{pos:Pos}
noncomputable def gName(i:Nat):TG:=fun v σ H Q=>Q (σ.set i (some v)) H
theorem pg_name{i:Nat}{x:Str}(hN:X.N.Nodup)(hi:X.N[i]?=some x)(hx:Loc X.env.scope x)(hf:X.fn x=true\/X.env.scope.names.lookup x=some .local:=by first | exact .inl rfl | exact .inr rfl | assumption):PG X (.Name x pos) (gName i):=by
 intro pins s σ H v u Q I r h
 exact wpAny_assign_Name (store_ok I hN hi hx r (fun s' I'=>⟨_,H,I',h⟩) hf)
noncomputable def gNil:TGs:=fun vs σ H Q=>vs=[]/\Q σ H
inductive gConsI(t:TG)(u:TGs)(vs:List V)(σ:St)(H:Hp)(Q:St->Hp->Prop):Prop where
 |mk (v:_) (r:_) (h1:vs=v :: r) (h2:t v σ H fun σ' H'=>u r σ' H' Q)
noncomputable def gCons(t:TG)(u:TGs):TGs:=fun vs σ H Q=>gConsI t u vs σ H Q
theorem pgs_nil:PGs X [] gNil:=by
 intro pins s σ H vs us Q I r h
 obtain⟨e,h⟩:=h
 subst e
 cases r
 exact assignInOrder_nil ⟨σ,H,I,h⟩
theorem pgs_cons{e:Expr}{es:List Expr}{t:TG}{u:TGs}(h1:PG X e t)(h2:PGs X es u)
  (hs:(assignEach (e :: es) X.env).map (·.2)=assign e X.env :: (assignEach es X.env).map (·.2):=by rfl):PGs X (e :: es) (gCons t u):=by
 intro pins s σ H vs us Q I r h
 obtain⟨v,vr,e1,h⟩:=h
 subst e1
 cases r with
 |cons r rr =>
  rw[hs]
  refine assignInOrder_cons (thn (h1 pins s σ H _ _ _ I r h) fun _ s1 ⟨σ1,H1,I1,q1⟩=>?_)
  exact h2 pins s1 σ1 H1 _ _ Q I1 rr q1
inductive gTupI(K:PySem.W.Frag)(n:Nat)(t:TGs)(v:V)(σ:St)(H:Hp)(Q:St->Hp->Prop):Prop where
 |mk (a:_) (xs:_) (h1:v = .ref a) (h2:SqT K H a xs) (h3:xs.length=n) (h4:t xs σ H Q)
noncomputable def gTup(K:PySem.W.Frag)(n:Nat)(t:TGs):TG:=fun v σ H Q=>gTupI K n t v σ H Q
theorem pg_tup{es:List Expr}{k:Nat}{t:TGs}{n:Nat}(hc:X.calm=true)(h:PGs X es t)
  (hn:(assignEach es X.env).length=n:=by rfl) (hst:(assignEach es X.env).findIdx? (·.1)=none:=by rfl):PG X (.Tuple es k pos) (gTup X.K n t):=by
 intro pins s σ H v u Q I r hw
 obtain⟨a,xs,e1,hq,hl,hw⟩:=hw
 subst e1
 cases r
 obtain⟨its,rv,ht,hz⟩:=I.tuple hq
 refine assign_Tuple_tuple (I.ok.hd hc) ht (by simp[hn,<- hl,rv.length]) hst fun h' hx=>?_
 have I1:Inv X pins σ H { s with heap:=h' }:=I.kept (t':=s.toks) fun b o e=>hx b o (zAC (zK e)) e
 exact h pins _ σ H xs _ Q I1 (by simpa using rv) hw
noncomputable def gSub(to ti:TE)(t:TSet):TG:=fun v σ H Q=>to σ H fun o H1=>ti σ H1 fun i H2=>t o i v H2 fun H3=>Q σ H3
theorem pg_sub{o i:Expr}{to ti:TE}{t:TSet}(ho:PE X o to)(hi:PE X i ti)(hs:PSet X t)
  (ha:∀ v,assign (.Subscript o i pos) X.env v=(do
   let ov <- holding [v] (eval o X.env)
   let iv <- holding [v,ov] (eval i X.env)
   standAt pos
   holding [v,ov,iv] (setItem ov iv v)
   release [v,ov,iv] []):=by intro _;rfl):PG X (.Subscript o i pos) (gSub to ti t):=by
 intro pins s σ H v u Q I r h
 rw[ha]
 refine zA (wpAny_holding (thn (ho pins s σ H _ I h) fun ov s1 ⟨x,H1,I1,r1,q1⟩=>?_))
 refine zA (wpAny_holding (thn (hi pins s1 σ H1 _ I1 q1) fun iv s2 ⟨y,H2,I2,r2,q2⟩=>?_))
 refine zA (wpAny_standAt (zA (wpAny_holding (thn (hs pins s2 σ H2 x y v ov iv u _ I2 r1 r2 r q2) fun _ s3 ⟨H3,I3,q3⟩=>?_))))
 exact wpAny_release ⟨σ,H3,I3,q3⟩
noncomputable def tAsg(te:TE)(g:TG):TS:=fun D σ H=>te σ H fun x H1=>g x σ H1 D.nx
theorem ps_asg{tg e:Expr}{te:TE}{g:TG}(he:PE X e te)(hg:PG X tg g)(hs:swapsWithSole [tg] e pos.line X.env=pure false:=by rfl)(hw:swappedStores [tg] e X.env=pure none:=by rfl)
  (h1:(assignEach [tg] X.env).map (·.2)=[assign tg X.env]:=by rfl):PS X (.Assign [tg] e pos) (tAsg te g):=by
 intro pins s σ H D I h
 refine wpAny_Assign_stores (thn (he pins s σ H _ I h) fun v s1 ⟨x,H1,I1,r1,q1⟩=>?_) hs hw
 rw[h1]
 exact thn (hg pins s1 σ H1 x v _ I1 r1 q1) fun _ s2 q=>q
theorem ps_set{i:Nat}{x:Str}{e:Expr}{te:TE}{pos':Pos}(hN:X.N.Nodup)(hi:X.N[i]?=some x)(hx:Loc X.env.scope x)(he:PE X e te)(hs:swapsWith e (some (.Name x pos')) pos.line X.env=pure false:=by rfl)(hf:X.fn x=true\/X.env.scope.names.lookup x=some .local:=by first | exact .inl rfl | exact .inr rfl | assumption) :
  PS X (.Assign [.Name x pos'] e pos) (tAsg te (gName i)):=by
 intro pins s σ H D I h
 refine wpAny_Assign_Name (thn (he pins s σ H _ I h) fun v s1 ⟨y,H1,I1,r1,q1⟩=>?_) hs
 exact store_ok I1 hN hi hx r1 (fun s2 I2=>⟨_,H1,I2,q1⟩) hf
noncomputable def tPar(i j:Nat)(ta:TA):TS:=fun D σ H=>ta σ H fun vs H1=>∃ v w,vs=[v,w]/\D.nx ((σ.set i (some v)).set j (some w)) H1
theorem ps_par{i j:Nat}{x y:Str}{a b:Expr}{ta:TA}{px py pt:Pos}{kt k2 pt2}(hc:X.calm=true)(hN:X.N.Nodup)(hi:X.N[i]?=some x)(hj:X.N[j]?=some y)(hij:i≠j)
  (hx:X.env.scope.names.lookup x=some .local) (hy:X.env.scope.names.lookup y=some .local) (ha:PA X [a,b] ta)
  (hw:swappedStores [.Tuple [.Name x px,.Name y py] kt pt] (.Tuple [a,b] k2 pt2) X.env=pure (some [x,y]))
  (hs:swapsWithSole [.Tuple [.Name x px,.Name y py] kt pt] (.Tuple [a,b] k2 pt2) pos.line X.env=pure false:=by rfl) :
  PS X (.Assign [.Tuple [.Name x px,.Name y py] kt pt] (.Tuple [a,b] k2 pt2) pos) (tPar i j ta):=by
 intro pins s σ H D I h
 rw[exec_Assign_arm]
 refine zA (wpAny_standAt ?_)
 rw[hs]
 refine zA (zE ?_)
 rw[if_neg (by decide)]
 refine zA (Tuple_ (thn (ha _ pins s σ H _ I h) fun us s1 ⟨vs,H1,I1,r1,q1⟩=>?_))
 obtain⟨v,w,e1,q1⟩:=q1
 subst e1
 obtain⟨u1,u2,rfl,rv,rw'⟩:∃ u1 u2,us=[u1,u2]/\RelV v u1/\RelV w u2:=by
  cases r1 with
  |cons p q =>
   cases q with
   |cons p' q' =>
    cases q'
    exact⟨_,_,rfl,p,p'⟩
 refine wpAny_newObj_type ?_ (by show 2<=sizeLine;decide)
 have I2:Inv X pins σ H1 { s1 with heap:=s1.heap.push { cls:=.type "tuple",data:=.seq [u1,u2].toArray } }:=I1.kept (t':=s1.toks) fun b o e=>zD _ e
 rw[hw]
 refine zA (zE ?_)
 show wpAny (model X.prog X.w) X.A (do rule "assign.swapped-stores";let items <- unpackItems (.ref s1.heap.objs.size) 2 none;assignInOrder [fun v=>bindName X.env y v,fun v=>bindName X.env x v] items.reverse;pure Flow.next) _ _ _
 refine zA (wpAny_rule (zA (unpackItems_tuple (items:=#[u1,u2]) (I.ok.hd hc) (IsTup.new s1.heap _) fun h' hx'=>?_)))
 have I3:=I2.kept (h':=h') (t':=s1.toks) fun b o e=>hx' b o (zAC (zK e)) e
 show wpAny _ _ (assignInOrder [fun v=>bindName X.env y v,fun v=>bindName X.env x v] [u2,u1] >>= fun _=>pure Flow.next) _ _ _
 refine zA (assignInOrder_cons (wpAny_bindName (store_ok I3 hN hj (.inl hy) rw' (fun s2 I4=>?_) (.inr hy))))
 refine assignInOrder_cons (wpAny_bindName (store_ok I4 hN hi (.inl hx) rv (fun s3 I5=>assignInOrder_nil (zE ?_)) (.inr hx)))
 rw[List.set_comm _ _ (Ne.symm hij)]at I5
 exact⟨_,H1,I5,q1⟩
end
structure It where
 go:Nat->Hp->Prop
 yld:Nat->Hp->V->Hp->Prop
 stop:Nat->Hp->Prop
noncomputable def FpOk(X:Cx)(pins:List (Addr×Obj))(H:Hp)(b:Addr):Prop :=
 H b=none/\b≠X.env.locals/\b∉X.fs/\(b∈X.ex\/X.s₀.heap.objs.size<=b)/\(∀ x c,X.env.cells.lookup x=some c->c≠b)/\∀ p∈X.pn++pins,p.1≠b
theorem Inv.fpOk{X:Cx}{pins:List (Addr×Obj)}{σ:St}{H H':Hp}{s:Shared}{b:Addr}(I:Inv X pins σ H s)(hb:s.heap.objs.size<=b)(hn:H' b=none):FpOk X pins H' b:=by
 refine⟨hn,zCA (zG I.lt hb),I.nofs hb,.inr (zC I.sz hb),fun x c e z=>?_,fun p hp z=>?_⟩
 ·obtain⟨v,q⟩:=I.cell x c e
  exact absurd (zG q.lt (by rw[z];exact hb)) (zBH _)
 ·exact absurd (zG (zK (I.pin p hp).1) (by rw[z];exact hb)) (zBH _)
structure Turn(P:Program)(w:World)(K:PySem.W.Frag)(tg:Expr)(J:It)(fp:List Addr)(it:Addr)(tn:Nat->Heap->Prop):Prop where
 mem:it∈fp
 obj:∀ i h,tn i h->∀ b∈fp,∃ o,h.get? b=some o/\∀ v,o.data≠.cell v
 keep:∀ i h h',tn i h->(∀ b∈fp,∀ o,h.get? b=some o->h'.get? b=some o)->tn i h'
 item:∀ (X:Cx),X.prog=P->X.w=w->X.K=K->X.calm=true->∀ (i:Nat) (pins:List (Addr×Obj)) (s:Shared) (σ:St) (H:Hp) (E:Value->Shared->Prop),Inv X pins σ H s->(∀ b∈fp,FpOk X pins H b)->tn i s.heap->J.go i H ->
  wpAny (model P w) X.A (pyNext (.ref it)) (fun r s1=>∃ u,r=some u /\
   wpAny (model P w) X.A (letOwnedTupleGo tg (.ref it) u) (fun _ s2=>∃ x H',Inv X pins σ H' s2/\RelV x u/\J.yld i H x H'/\tn (i+1) s2.heap/\∀ b∈fp,H' b=none) E s1) E s
 done:∀ (X:Cx),X.prog=P->X.w=w->X.K=K->X.calm=true->∀ (i:Nat) (pins:List (Addr×Obj)) (s:Shared) (σ:St) (H:Hp) (E:Value->Shared->Prop),Inv X pins σ H s->(∀ b∈fp,FpOk X pins H b)->tn i s.heap->J.stop i H ->
  wpAny (model P w) X.A (pyNext (.ref it)) (fun r s1=>r=none/\Inv X pins σ H s1) E s
 self:∀ (A:Around) (i:Nat) (s:Shared) (Q:Value->Shared->Prop) (E:Value->Shared->Prop),tn i s.heap->Q (.ref it) s->wpAny (model P w) A (pyIter (.ref it)) Q E s
noncomputable abbrev TI:=St->Hp->(It->Hp->Prop)->Prop
noncomputable def PIE(X:Cx)(pins:List (Addr×Obj))(σ:St)(tg:Expr)(R:It->Hp->Prop)(itv:Value)(s2:Shared):Prop :=
 ∃ (it:Addr) (fp:List Addr) (tn:Nat->Heap->Prop) (J:It) (H':Hp),itv = .ref it/\Inv X pins σ H' s2/\Turn X.prog X.w X.K tg J fp it tn/\tn 0 s2.heap/\(∀ b∈fp,FpOk X pins H' b)/\R J H'
noncomputable def PI(X:Cx)(tg iter:Expr)(wi:TI):Prop :=
 ∀ (pins:List (Addr×Obj)) (s:Shared) (σ:St) (H:Hp) (R:It->Hp->Prop),Inv X pins σ H s->wi σ H R ->
  wpAny (model X.prog X.w) X.A (eval iter X.env) (fun v s1=>wpAny (model X.prog X.w) X.A (pyIter v) (PIE X pins σ tg R) X.xe s1) X.xe s
theorem go_of {M : Model} {A : Around} {E : Value → Shared → Prop} {s : Shared} {tg : Expr} {it : Addr} {u : Value} {o : Obj} {n : String} {vs : Array Value} {Q : Unit → Shared → Prop} (ho : s.heap.get? it = some o) (hc : o.cls = .type n) (hd : o.data = .fields vs)
    (hn : ["enumerate", "zip", "dict_itemiterator", "dict_reverseitemiterator", "odict_iterator", "itertools.zip_longest", "itertools.pairwise"].contains n = false) (hQ : Q () s) : wpAny M A (letOwnedTupleGo tg (.ref it) u) Q E s := by
  unfold letOwnedTupleGo
  cases tg <;> first
    | exact zE hQ
    | (cases u <;> first
        | exact zE hQ
        | (refine zA (wpAny_load ho ?_)
           rw [hc, hd]
           show wpAny M A (if (["enumerate", "zip", "dict_itemiterator", "dict_reverseitemiterator", "odict_iterator", "itertools.zip_longest", "itertools.pairwise"].contains n && vs[0]? == some (rawInt _)) = true then _ else _) Q E s
           rw [if_neg (by intro h; rw [hn, Bool.false_and] at h; cases h)]
           exact zE hQ))
noncomputable def Itl(K:PySem.W.Frag)(a:Addr):It :=
 ⟨fun i H=>∃ xs x,SqL K H a xs/\xs[i]?=some x,fun i H x H'=>H'=H/\∀ xs,SqL K H a xs->xs[i]?=some x,fun i H=>∃ xs,SqL K H a xs/\xs.length<=i⟩
noncomputable def Itt(K:PySem.W.Frag)(a:Addr):It :=
 ⟨fun i H=>∃ xs x,SqT K H a xs/\xs[i]?=some x,fun i H x H'=>H'=H/\∀ xs,SqT K H a xs->xs[i]?=some x,fun i H=>∃ xs,SqT K H a xs/\xs.length<=i⟩
noncomputable def Itr(lo:Int)(n:Nat):It:=⟨fun i _=>i<n,fun i H x H'=>H'=H/\x = .int (lo+i),fun i _=>n<=i⟩
theorem turn_list{P:Program}{w:World}{K:PySem.W.Frag}{tg:Expr}(a it:Addr):Turn P w K tg (Itl K a) [it] it (fun i h=>h.IsListIter it a i)where
 mem:=by simp
 obj:=fun i h st b hb=>by
  have e:b=it:=by simpa using hb
  subst e
  obtain⟨o,e,c,d⟩:=st
  exact⟨o,e,fun v z=>by rw[d]at z;cases z⟩
 keep:=fun i h h' st k=>st.at fun o e=>k it (by simp) o e
 item:=by
  intro X hP hw hK hc i pins s σ H E I hf st hg
  subst hP hw hK
  obtain⟨xs,x,hq,hx⟩:=hg
  obtain⟨its,rv,p,hz⟩:=I.list hq
  obtain⟨u,hu,ru⟩:=rv.get hx
  obtain⟨f0,f1,f2,f3,f4,f5⟩:=hf it (by simp)
  refine wpAny_pyNext_list_item st p.isList (x:=u) (by simpa using hu) fun h' st' sb=>?_
  have I1:Inv X pins σ H { s with heap:=h' }:=I.turned (t':=s.toks) (fun b o hb e=>(sb.2 b hb).trans e) f0 f1 f3 f4 f5
  obtain⟨o,e,c,d⟩:=id st'
  exact⟨u,rfl,go_of (s:={ s with heap:=h' }) e c d (by decide) ⟨x,H,I1,ru,⟨rfl,fun ys hy=>by rw[I.list_inj hy hq];exact hx⟩,st',fun b hb=>(hf b hb).1⟩⟩
 done:=by
  intro X hP hw hK hc i pins s σ H E I hf st hg
  subst hP hw hK
  obtain⟨xs,hq,hx⟩:=hg
  obtain⟨its,rv,p,hz⟩:=I.list hq
  obtain⟨f0,f1,f2,f3,f4,f5⟩:=hf it (by simp)
  have hl:=rv.length
  exact wpAny_pyNext_list_end (I.ok.hd hc) st p.isList (by simp;lia) fun h' eb=>⟨rfl,I.turned (t':=s.toks) (fun b o hb e=>eb b o hb e) f0 f1 f3 f4 f5⟩
 self:=fun _ _ _ _ _ st h=>wpAny_pyIter_listiter st h
theorem turn_tuple{P:Program}{w:World}{K:PySem.W.Frag}{tg:Expr}(a it:Addr):Turn P w K tg (Itt K a) [it] it (fun i h=>h.IsTupleIter it a i)where
 mem:=by simp
 obj:=fun i h st b hb=>by
  have e:b=it:=by simpa using hb
  subst e
  obtain⟨o,e,c,d⟩:=st
  exact⟨o,e,fun v z=>by rw[d]at z;cases z⟩
 keep:=fun i h h' st k=>st.at fun o e=>k it (by simp) o e
 item:=by
  intro X hP hw hK hc i pins s σ H E I hf st hg
  subst hP hw hK
  obtain⟨xs,x,hq,hx⟩:=hg
  obtain⟨its,rv,p,hz⟩:=I.tuple hq
  obtain⟨u,hu,ru⟩:=rv.get hx
  obtain⟨f0,f1,f2,f3,f4,f5⟩:=hf it (by simp)
  refine wpAny_pyNext_tuple_item st (show s.heap.IsTuple a its.toArray from p) (x:=u) (by simpa using hu) fun h' st' sb=>?_
  have I1:Inv X pins σ H { s with heap:=h' }:=I.turned (t':=s.toks) (fun b o hb e=>(sb.2 b hb).trans e) f0 f1 f3 f4 f5
  obtain⟨o,e,c,d⟩:=id st'
  exact⟨u,rfl,go_of (s:={ s with heap:=h' }) e c d (by decide) ⟨x,H,I1,ru,⟨rfl,fun ys hy=>by rw[I.tuple_inj hy hq];exact hx⟩,st',fun b hb=>(hf b hb).1⟩⟩
 done:=by
  intro X hP hw hK hc i pins s σ H E I hf st hg
  subst hP hw hK
  obtain⟨xs,hq,hx⟩:=hg
  obtain⟨its,rv,p,hz⟩:=I.tuple hq
  obtain⟨f0,f1,f2,f3,f4,f5⟩:=hf it (by simp)
  have hl:=rv.length
  exact wpAny_pyNext_tuple_end (I.ok.hd hc) st (show s.heap.IsTuple a its.toArray from p) (by simp;lia) fun h' eb=>⟨rfl,I.turned (t':=s.toks) (fun b o hb e=>eb b o hb e) f0 f1 f3 f4 f5⟩
 self:=fun _ _ _ _ _ st h=>wpAny_pyIter_tupleiter st h
theorem turn_range{P:Program}{w:World}{K:PySem.W.Frag}{tg:Expr}(it:Addr)(lo:Int)(n:Nat):Turn P w K tg (Itr lo n) [it] it (fun i h=>IsRangeIter h it (lo+(i:Nat) * 1) ((n:Int)-(i:Nat)) 1)where
 mem:=by simp
 obj:=fun i h st b hb=>by
  have e:b=it:=by simpa using hb
  subst e
  exact⟨_,st,fun v z=>by
   have z':Data.fields _=Data.cell v:=z
   cases z'⟩
 keep:=fun i h h' st k=>k it (by simp) _ st
 item:=by
  intro X hP hw hK hc i pins s σ H E I hf st hg
  subst hP hw hK
  obtain⟨f0,f1,f2,f3,f4,f5⟩:=hf it (by simp)
  have W:=Walks.range (prog:=X.prog) (w:=X.w) (I.ok.hd hc) it lo 1 n
  refine W.item i s _ _ hg st fun v h' tk hv st' kk=>?_
  obtain⟨t,rfl⟩:=hv
  have I1:Inv X pins σ H { s with heap:=h',toks:=tk }:=I.turned (fun b o hb e=>kk b o (by simpa using hb) e) f0 f1 f3 f4 f5
  refine⟨_,rfl,go_of (s:={ s with heap:=h',toks:=tk }) (n:="range_iterator") st' rfl rfl (by decide) ⟨.int (lo+i),H,I1,⟨t,?_⟩,⟨rfl,rfl⟩,st',fun b hb=>(hf b hb).1⟩⟩
  rw[Int.mul_one]
 done:=by
  intro X hP hw hK hc i pins s σ H E I hf st hg
  subst hP hw hK
  obtain⟨f0,f1,f2,f3,f4,f5⟩:=hf it (by simp)
  exact wpAny_pyNext_range_end (I.ok.hd hc) st (by have:n<=i:=hg;lia) fun h' eb=>⟨rfl,I.turned (t':=s.toks) (fun b o hb e=>eb b o hb e) f0 f1 f3 f4 f5⟩
 self:=fun _ _ _ _ _ st h=>wpAny_pyIter_rangeiter st h
open PySem PySem.Spec PyProof.Rows
section
variable{X:Cx}{tg:Expr}
inductive ExS(x:V)(S Q:Addr->Prop):Prop where
 |mk (a:Addr) (e:x = .ref a) (s:S a) (h:Q a)
noncomputable def iList(K:PySem.W.Frag)(tl:TE):TI:=fun σ H R=>tl σ H fun x H1=>ExS x (fun a=>∃ xs,SqL K H1 a xs) fun a=>R (Itl K a) H1
noncomputable def iTup(K:PySem.W.Frag)(tl:TE):TI:=fun σ H R=>tl σ H fun x H1=>ExS x (fun a=>∃ xs,SqT K H1 a xs) fun a=>R (Itt K a) H1
theorem pi_list{l:Expr}{tl:TE}(hl:PE X l tl):PI X tg l (iList X.K tl):=by
 intro pins s σ H R I h
 refine thn (hl pins s σ H _ I h) fun v s1 ⟨x,H1,I1,r1,q1⟩=>?_
 obtain⟨a,e,⟨xs,hq⟩,q⟩:=q1
 subst e
 cases r1
 obtain⟨its,rv,p,hz⟩:=I1.list hq
 refine wpAny_pyIter_list p.isList ?_
 refine⟨s1.heap.objs.size,[s1.heap.objs.size],_,_,H1,rfl,I1.kept (t':=s1.toks) fun b o e=>zD _ e,turn_list a _,⟨_,zU _ rfl,rfl,rfl⟩,fun b hb=>?_,q⟩
 have e:b=s1.heap.objs.size:=by simpa using hb
 subst e
 exact I1.fpOk (zH _) (I1.hok.fresh (zH _))
theorem pi_tup{l:Expr}{tl:TE}(hl:PE X l tl):PI X tg l (iTup X.K tl):=by
 intro pins s σ H R I h
 refine thn (hl pins s σ H _ I h) fun v s1 ⟨x,H1,I1,r1,q1⟩=>?_
 obtain⟨a,e,⟨xs,hq⟩,q⟩:=q1
 subst e
 cases r1
 obtain⟨its,rv,p,hz⟩:=I1.tuple hq
 refine wpAny_pyIter_tuple (show s1.heap.IsTuple a its.toArray from p) ?_
 refine⟨s1.heap.objs.size,[s1.heap.objs.size],_,_,H1,rfl,I1.kept (t':=s1.toks) fun b o e=>zD _ e,turn_tuple a _,⟨_,zU _ rfl,rfl,rfl⟩,fun b hb=>?_,q⟩
 have e:b=s1.heap.objs.size:=by simpa using hb
 subst e
 exact I1.fpOk (zH _) (I1.hok.fresh (zH _))
theorem range_it{pins:List (Addr×Obj)}{σ:St}{H:Hp}{s:Shared}{R:It->Hp->Prop}{E:Value->Shared->Prop}{lo hi:Int}{t u v:Tok}{tk:Nat}(I:Inv X pins σ H s)(h1:-(2 ^ 62)<=lo)(h2:lo<2 ^ 62)(h3:-(2 ^ 62)<=hi)(h4:hi<2 ^ 62)
  (q:R (Itr lo (hi-lo).toNat) H):wpAny (model X.prog X.w) X.A (pyIter (.ref s.heap.objs.size)) (PIE X pins σ tg R) E { s with heap:=s.heap.push { cls:=.type "range",data:=.fields #[.int lo t,.int hi u,.int 1 v] },toks:=tk }:=by
 refine wpAny_pyIter_range (IsRange.new ..) (small_one h1 h2 h3 h4) ?_
 have I1:Inv X pins σ H { s with heap:=s.heap.push { cls:=.type "range",data:=.fields #[.int lo t,.int hi u,.int 1 v] },toks:=tk }:=I.kept fun b o e=>zD _ e
 refine⟨(s.heap.push { cls:=.type "range",data:=.fields #[.int lo t,.int hi u,.int 1 v] }).objs.size,[(s.heap.push { cls:=.type "range",data:=.fields #[.int lo t,.int hi u,.int 1 v] }).objs.size],_,_,H,rfl,
  I1.kept (t':=tk) fun b o e=>zD _ e,turn_range _ lo (hi-lo).toNat,?_,fun b hb=>?_,q⟩
 ·have e1:lo+((0:Nat):Int) * 1=lo:=by simp
  have e2:(((hi-lo).toNat:Nat):Int)-((0:Nat):Int)=Builtin.Range.rangeSize lo hi 1:=by rw[rangeSize_one];split <;> lia
  show IsRangeIter _ _ (lo+((0:Nat):Int) * 1) ((((hi-lo).toNat:Nat):Int)-((0:Nat):Int)) 1
  rw[e1,e2]
  exact zU _ rfl
 ·have e:b=(s.heap.push { cls:=.type "range",data:=.fields #[.int lo t,.int hi u,.int 1 v] }).objs.size:=by simpa using hb
  subst e
  exact I1.fpOk (zH _) (I1.hok.fresh (zH _))
noncomputable def iRng1(ta:TA):TI:=fun σ H R=>ta σ H fun vs H1=>∃ j:Int,vs=[.int j]/\-(2 ^ 62)<=j/\j<2 ^ 62/\R (Itr 0 j.toNat) H1
noncomputable def iRng2(ta:TA):TI:=fun σ H R=>ta σ H fun vs H1=>∃ i j:Int,vs=[.int i,.int j]/\(-(2 ^ 62)<=i/\i<2 ^ 62/\-(2 ^ 62)<=j/\j<2 ^ 62)/\R (Itr i (j-i).toNat) H1
theorem pi_range1{a:Expr}{ta:TA}{p pos:Pos}(hg:Gl X "range")(hm:X.mg "range" = none)(ha:PA X [a] ta)(hs:starEach [a] X.env=[(false,eval a X.env)]:=by rfl):PI X tg (.Call (.Name "range" p) [a] [] pos) (iRng1 ta):=by
 intro pins s σ H R I h
 refine Call_ (ld_blt I hg hm boot_range (PyProof.Rows.callWith_type1 (thn (ha pos pins s σ H _ I h) fun us s1 ⟨vs,H1,I1,r1,q1⟩=>?_) hs rfl))
 obtain⟨j,e,q1,q2,q⟩:=q1
 subst e
 cases r1 with
 |cons r rr =>
  cases rr
  obtain⟨t,rfl⟩:=r
  exact call_range_1 (range_it I1 (by lia) (by lia) q1 q2 (by simpa using q))
theorem pi_range2{a b:Expr}{ta:TA}{p pos:Pos}(hg:Gl X "range")(hm:X.mg "range" = none)(ha:PA X [a,b] ta)(hs:starEach [a,b] X.env=[(false,eval a X.env),(false,eval b X.env)]:=by rfl)(hs2:starEach [b] X.env=[(false,eval b X.env)]:=by rfl) :
  PI X tg (.Call (.Name "range" p) [a,b] [] pos) (iRng2 ta):=by
 intro pins s σ H R I h
 refine Call_ (ld_blt I hg hm boot_range (PyProof.Rows.callWith_type1 (thn (ha pos pins s σ H _ I h) fun us s1 ⟨vs,H1,I1,r1,q1⟩=>?_) (by rw[hs,hs2]) (by rw[hs2];rfl)))
 obtain⟨i,j,e,⟨q1,q2,q3,q4⟩,q⟩:=q1
 subst e
 cases r1 with
 |cons r rr =>
  cases rr with
  |cons r' rr =>
   cases rr
   obtain⟨t,rfl⟩:=r
   obtain⟨t',rfl⟩:=r'
   exact call_range_2 (range_it I1 q1 q2 q3 q4 q)
noncomputable def tFor(wi:TI)(g:TG)(tb:TS):TS:=fun D σ H=>wi σ H fun J H1=>∃ W:Nat->Nat->St->Hp->Prop,(∃ m,W 0 m σ H1)/\∀ i m σ H,W i m σ H ->
 (J.stop i H/\D.nx σ H)\/(J.go i H/\∃ N:St->Hp->Prop,(∀ σ' H',N σ' H'->∃ m',m'<m/\W (i+1) m' σ' H')/\∀ x H',J.yld i H x H'->g x σ H' fun σ2 H2=>tb { D with nx:=N,ct:=N,bk:=D.nx } σ2 H2)
noncomputable def pinsAt(fp:List Addr)(h:Heap):List (Addr×Obj):=fp.filterMap fun b=>(h.get? b).map fun o=>(b,o)
theorem mem_pinsAt{fp:List Addr}{h:Heap}{b:Addr}{o:Obj}(hb:b∈fp)(e:h.get? b=some o):(b,o)∈pinsAt fp h:=List.mem_filterMap.mpr ⟨b,hb,by rw[e];rfl⟩
theorem of_pinsAt{fp:List Addr}{h:Heap}{p:Addr×Obj}(hp:p∈pinsAt fp h):p.1∈fp/\h.get? p.1=some p.2:=by
 obtain⟨b,hb,e⟩:=List.mem_filterMap.mp hp
 cases q:h.get? b with
 |none=>rw[q]at e;cases e
 |some o =>
  rw[q]at e
  have e':(b,o)=p:=Option.some.inj e
  subst e'
  exact⟨hb,q⟩
theorem Inv.pinned{pins:List (Addr×Obj)}{σ:St}{H:Hp}{s:Shared}{fp:List Addr}(I:Inv X pins σ H s)(hf:∀ b∈fp,FpOk X pins H b)(ho:∀ b∈fp,∃ o,s.heap.get? b=some o/\∀ v,o.data≠.cell v):Inv X (pins++pinsAt fp s.heap) σ H s :=
 I.pins_of fun p hp=>(zAB.mp hp).elim (fun z=>I.pin p (zAR _ z)) fun z=>by
  obtain⟨hb,e⟩:=of_pinsAt z
  obtain⟨f0,f1,f2,_⟩:=hf p.1 hb
  obtain⟨o,e',d⟩:=ho p.1 hb
  rw[e]at e';cases e'
  exact⟨e,f0,f1,f2,d⟩
theorem Inv.unpinned{pins pl:List (Addr×Obj)}{σ:St}{H:Hp}{s:Shared}(I:Inv X (pins++pl) σ H s):Inv X pins σ H s:=I.pins_of fun p hp=>I.pin p (zAR _ (zAZ _ hp))
theorem ps_for{iter:Expr}{body:List Stmt}{wi:TI}{g:TG}{tb:TS}{pos:Pos}(hp:PassesOwn (model X.prog X.w) X.A X.env X.xe)(hc:X.calm=true)(hi:PI X tg iter wi)(hg:PG X tg g)(hb:PSs X body tb)
  (hs:∀ x,foldedSetIterable iter X.env x=pure x:=by intro _;rfl):PS X (.For tg iter body [] pos) (tFor wi g tb):=by
 intro pins s σ H D I h
 refine wpAny_For (thn (hi pins s σ H _ I h) fun v s1 h1=>thn h1 fun itv s2 h2=>?_) hs
 obtain⟨it,fp,tn,J,H2,e,I2,T,st2,f2,W,⟨m0,w0⟩,turn⟩:=h2
 subst e
 -- what stays true of the iterator's objects through the loop
 have stat:∀ {H':Hp},(∀ b∈fp,H' b=none)->∀ b∈fp,FpOk X pins H' b:=fun hn b hb=>⟨hn b hb,(f2 b hb).2⟩
 refine codeAny_forLoop_any (fun n s'=>∃ i σ' H',Inv X pins σ' H' s'/\tn i s'.heap/\(∀ b∈fp,H' b=none)/\W i n σ' H') ?_ m0 ⟨0,σ,H2,I2,st2,fun b hb=>(f2 b hb).1,w0⟩
 rintro n s3 ⟨i,σ3,H3,I3,st3,fr3,w3⟩
 rcases turn i n σ3 H3 w3 with⟨stop,qn⟩ |⟨go,N,hN,step⟩
 ·refine wpAny_passesOwn hp (thn (T.done X rfl rfl rfl hc i pins s3 σ3 H3 X.xe I3 (stat fr3) st3 stop) fun r s4 ⟨hr,I4⟩=>?_)
  subst hr
  exact wpAny_execs_nil ⟨σ3,H3,I4,qn⟩
 ·refine wpAny_passesOwn hp (thn (T.item X rfl rfl rfl hc i pins s3 σ3 H3 X.xe I3 (stat fr3) st3 go) fun r s4 ⟨u,hr,h4⟩=>?_)
  subst hr
  refine wpAny_passesOwn hp (thn h4 fun _ s5 ⟨x,H5,I5,r5,y5,st5,fr5⟩=>?_)
  have I5':=I5.pinned (stat fr5) (T.obj _ _ st5)
  refine wpAny_passesOwn hp (thn (hg _ s5 σ3 H5 x u _ I5' r5 (step x H5 y5)) fun _ s6 ⟨σ6,H6,I6,q6⟩=>?_)
  refine wpAny_passesOwn hp (thn (hb _ s6 σ6 H6 _ I6 q6) fun f s7 q7=>?_)
  have again:∀ {σ7:St}{H7:Hp},Inv X (pins++pinsAt fp s5.heap) σ7 H7 s7->N σ7 H7->∃ m,m<n/\∃ i σ' H',Inv X pins σ' H' s7/\tn i s7.heap/\(∀ b∈fp,H' b=none)/\W i m σ' H':=fun {σ7 H7} I7 n7=>by
   obtain⟨m',hm,w7⟩:=hN σ7 H7 n7
   refine⟨m',hm,i+1,σ7,H7,I7.unpinned,T.keep _ _ _ st5 fun b hb o e=>(I7.pin (b,o) (zAR _ (zAR _ (mem_pinsAt hb e)))).1,fun b hb=>?_,w7⟩
   obtain⟨o,e,d⟩:=T.obj _ _ st5 b hb
   exact(I7.pin (b,o) (zAR _ (zAR _ (mem_pinsAt hb e)))).2.1
  cases f with
  |next=>obtain⟨σ7,H7,I7,n7⟩:=q7;exact again I7 n7
  |cont=>obtain⟨σ7,H7,I7,n7⟩:=q7;exact again I7 n7
  |brk=>obtain⟨σ7,H7,I7,q7⟩:=q7;exact⟨σ7,H7,I7.unpinned,q7⟩
  |ret v=>obtain⟨x7,σ7,H7,I7,r7,q7⟩:=q7;exact⟨x7,σ7,H7,I7.unpinned,r7,q7⟩
end
theorem for_list{K:PySem.W.Frag}{a:Addr}{xs:List V}{g:TG}{tb:TS}{D:Ends}{σ:St}{H:Hp}(Pv:Nat->St->Hp->Prop)(h0:Pv 0 σ H)(hl:∀ i σ H,i<=xs.length->Pv i σ H->SqL K H a xs)
  (hs:∀ i x σ H,xs[i]?=some x->Pv i σ H->g x σ H fun σ2 H2=>tb { D with nx:=Pv (i+1),ct:=Pv (i+1),bk:=D.nx } σ2 H2) (hd:∀ σ H,Pv xs.length σ H->D.nx σ H) :
  ∃ W:Nat->Nat->St->Hp->Prop,(∃ m,W 0 m σ H)/\∀ i m σ H,W i m σ H ->
   ((Itl K a).stop i H/\D.nx σ H)\/((Itl K a).go i H/\∃ N:St->Hp->Prop,(∀ σ' H',N σ' H'->∃ m',m'<m/\W (i+1) m' σ' H')/\∀ x H',(Itl K a).yld i H x H'->g x σ H' fun σ2 H2=>tb { D with nx:=N,ct:=N,bk:=D.nx } σ2 H2):=by
 refine⟨fun i m σ H=>m=xs.length-i/\i<=xs.length/\Pv i σ H,⟨xs.length,by simp,zAO _,h0⟩,?_⟩
 rintro i m σ H ⟨rfl,hi,p⟩
 have q:=hl i σ H hi p
 by_cases hlt:i<xs.length
 ·refine .inr ⟨⟨xs,xs[i],q,by simp[hlt]⟩,Pv (i+1),fun σ' H' p'=>⟨xs.length-(i+1),by omega,rfl,hlt,p'⟩,fun x H' y=>?_⟩
  obtain⟨e,y⟩:=y
  subst e
  exact hs i x σ _ (y xs q) p
 ·have e:i=xs.length:=by lia
  subst e
  exact .inl ⟨⟨xs,q,zH _⟩,hd σ H p⟩
theorem for_range{lo:Int}{n:Nat}{g:TG}{tb:TS}{D:Ends}{σ:St}{H:Hp}(Pv:Nat->St->Hp->Prop)(h0:Pv 0 σ H)
  (hs:∀ i σ H,i<n->Pv i σ H->g (.int (lo+i)) σ H fun σ2 H2=>tb { D with nx:=Pv (i+1),ct:=Pv (i+1),bk:=D.nx } σ2 H2) (hd:∀ σ H,Pv n σ H->D.nx σ H) :
  ∃ W:Nat->Nat->St->Hp->Prop,(∃ m,W 0 m σ H)/\∀ i m σ H,W i m σ H ->
   ((Itr lo n).stop i H/\D.nx σ H)\/((Itr lo n).go i H/\∃ N:St->Hp->Prop,(∀ σ' H',N σ' H'->∃ m',m'<m/\W (i+1) m' σ' H')/\∀ x H',(Itr lo n).yld i H x H'->g x σ H' fun σ2 H2=>tb { D with nx:=N,ct:=N,bk:=D.nx } σ2 H2):=by
 refine⟨fun i m σ H=>m=n-i/\i<=n/\Pv i σ H,⟨n,by simp,zAO _,h0⟩,?_⟩
 rintro i m σ H ⟨rfl,hi,p⟩
 by_cases hlt:i<n
 ·refine .inr ⟨hlt,Pv (i+1),fun σ' H' p'=>⟨n-(i+1),by omega,rfl,hlt,p'⟩,fun x H' y=>?_⟩
  obtain⟨e,y⟩:=y
  subst e y
  exact hs i σ _ hlt p
 ·have e:i=n:=by lia
  subst e
  exact .inl ⟨zH _,hd σ H p⟩
open PySem PySem.Spec PyProof.Rows
noncomputable abbrev R2:=V->V->Hp->VK->Prop
noncomputable def OpR(X:Cx)(f:Value->Value->Sem Value)(r:R2):Prop :=
 ∀ (pins:List (Addr×Obj)) (s:Shared) (σ:St) (H:Hp) (x y:V) (v u:Value) (Q:VK),Inv X pins σ H s->RelV x v->RelV y u->r x y H Q ->
  wpAny (model X.prog X.w) X.A (f v u) (EP X pins σ Q) X.xe s
noncomputable def UnR(X:Cx)(f:Value->Sem Value)(r:V->Hp->VK->Prop):Prop :=
 ∀ (pins:List (Addr×Obj)) (s:Shared) (σ:St) (H:Hp) (x:V) (v:Value) (Q:VK),Inv X pins σ H s->RelV x v->r x H Q ->
  wpAny (model X.prog X.w) X.A (f v) (EP X pins σ Q) X.xe s
noncomputable def CallR(X:Cx)(f:Value)(r:List V->Hp->VK->Prop):Prop :=
 ∀ (pins:List (Addr×Obj)) (s:Shared) (σ:St) (H:Hp) (xs:List V) (us:List Value) (Q:VK),Inv X pins σ H s->Vals xs us->r xs H Q ->
  wpAny (model X.prog X.w) X.A (call f us) (EP X pins σ Q) X.xe s
noncomputable def TruR(X:Cx)(r:V->Hp->(Bool->Hp->Prop)->Prop):Prop :=
 ∀ (pins:List (Addr×Obj)) (s:Shared) (σ:St) (H:Hp) (x:V) (v:Value) (Q:Bool->Hp->Prop),Inv X pins σ H s->RelV x v->r x H Q ->
  wpAny (model X.prog X.w) X.A (truthy v) (TP X pins σ Q) X.xe s
noncomputable def tOp(r:R2)(ta tb:TE):TE:=fun σ H Q=>ta σ H fun x H1=>tb σ H1 fun y H2=>r x y H2 Q
noncomputable def tUn(r:V->Hp->VK->Prop)(ta:TE):TE:=fun σ H Q=>ta σ H fun x H1=>r x H1 Q
inductive rII(C:Int->Int->Prop)(g:Int->Int->V)(x:V)(y:V)(H:Hp)(Q:VK):Prop where
 |mk (i:_) (j:_) (h1:x = .int i) (h2:y = .int j) (h3:C i j) (h4:Q (g i j) H)
noncomputable def rI(C:Int->Int->Prop)(g:Int->Int->V):R2:=fun x y H Q=>rII C g x y H Q
inductive rI0I(g:Int->Int->V)(x:V)(y:V)(H:Hp)(Q:VK):Prop where
 |mk (i:_) (j:_) (h1:x = .int i) (h2:y = .int j) (h3:Q (g i j) H)
noncomputable def rI0(g:Int->Int->V):R2:=fun x y H Q=>rI0I g x y H Q
inductive rUI(g:Int->V)(x:V)(H:Hp)(Q:VK):Prop where
 |mk (i:_) (h1:x = .int i) (h2:Q (g i) H)
noncomputable def rU(g:Int->V):V->Hp->VK->Prop:=fun x H Q=>rUI g x H Q
section
variable{X:Cx}{a b c:Expr}{ta tb tc:TE}{pos:Pos}
theorem binT(ha:PE X a ta)(hb:PE X b tb){pins:List (Addr×Obj)}{s:Shared}{σ:St}{H:Hp}{R:V->V->Hp->Prop}(I:Inv X pins σ H s)
  (h:ta σ H fun x H1=>tb σ H1 fun y H2=>R x y H2) {Q:Value->Shared->Prop}{f:Value->Value->Sem Value}
  (hf:∀ v u s2 x y H2,Inv X pins σ H2 s2->RelV x v->RelV y u->R x y H2->wpAny (model X.prog X.w) X.A (f v u) Q X.xe s2) :
  wpAny (model X.prog X.w) X.A (eval a X.env) (fun v s₁=>wpAny (model X.prog X.w) X.A (eval b X.env) (fun u s₂=>wpAny (model X.prog X.w) X.A (f v u) Q X.xe s₂) X.xe s₁) X.xe s:=by
 refine thn (ha pins s σ H _ I h) fun v s1 ⟨x,H1,I1,r1,q1⟩=>?_
 refine thn (hb pins s1 σ H1 _ I1 q1) fun u s2 ⟨y,H2,I2,r2,q2⟩=>?_
 exact hf v u s2 x y H2 I2 r1 r2 q2
theorem pe_op{op:Operator}{r:R2}(ho:OpR X (binaryOp op) r)(ha:PE X a ta)(hb:PE X b tb):PE X (.BinOp a op b pos) (tOp r ta tb):=by
 intro pins s σ H Q I h
 exact wpAny_BinOp (binT ha hb I h fun v u s2 x y H2 I2 rx ry q=>ho pins s2 σ H2 x y v u Q I2 rx ry q)
theorem pe_un{op:UnaryOp}{r:V->Hp->VK->Prop}(ho:UnR X (unaryOp op) r)(ha:PE X a ta):PE X (.UnaryOp op a pos) (tUn r ta):=by
 intro pins s σ H Q I h
 exact UnaryOp_ (thn (ha pins s σ H _ I h) fun v s1 ⟨x,H1,I1,r1,q1⟩=>ho pins s1 σ H1 x v Q I1 r1 q1)
theorem opI{f:Value->Value->Sem Value}{C:Int->Int->Prop}{g:Int->Int->Int}
  (rule:∀ (i j:Int) (t u:Tok) (s:Shared) (Q:Value->Shared->Prop) (E:Value->Shared->Prop),C i j->Q (.int (g i j) s.toks) { s with toks:=s.toks+1 }->wpAny (model X.prog X.w) X.A (f (.int i t) (.int j u)) Q E s) :
  OpR X f (rI C fun i j=>.int (g i j)):=by
 intro pins s σ H x y v u Q I rx ry h
 obtain⟨i,j,rfl,rfl,hc,q⟩:=h
 obtain⟨t,rfl⟩:=rx
 obtain⟨t',rfl⟩:=ry
 exact rule i j t t' s _ _ hc ⟨.int (g i j),H,I.tok _,⟨_,rfl⟩,q⟩
theorem opI0{f:Value->Value->Sem Value}{g:Int->Int->Int}
  (rule:∀ (i j:Int) (t u:Tok) (s:Shared) (Q:Value->Shared->Prop) (E:Value->Shared->Prop),Q (.int (g i j) s.toks) { s with toks:=s.toks+1 }->wpAny (model X.prog X.w) X.A (f (.int i t) (.int j u)) Q E s) :
  OpR X f (rI0 fun i j=>.int (g i j)):=by
 intro pins s σ H x y v u Q I rx ry h
 obtain⟨i,j,rfl,rfl,q⟩:=h
 obtain⟨t,rfl⟩:=rx
 obtain⟨t',rfl⟩:=ry
 exact rule i j t t' s _ _ ⟨.int (g i j),H,I.tok _,⟨_,rfl⟩,q⟩
theorem opB0{f:Value->Value->Sem Value}{g:Int->Int->Bool}
  (rule:∀ (i j:Int) (t u:Tok) (s:Shared) (Q:Value->Shared->Prop) (E:Value->Shared->Prop),Q (.bool (g i j)) s->wpAny (model X.prog X.w) X.A (f (.int i t) (.int j u)) Q E s) :
  OpR X f (rI0 fun i j=>.bl (g i j)):=by
 intro pins s σ H x y v u Q I rx ry h
 obtain⟨i,j,rfl,rfl,q⟩:=h
 obtain⟨t,rfl⟩:=rx
 obtain⟨t',rfl⟩:=ry
 exact rule i j t t' s _ _ ⟨.bl (g i j),H,I,rfl,q⟩
noncomputable def CDiv(i j:Int):Prop:=0<j/\j<1073741824
noncomputable def CPow(i j:Int):Prop:=0<=j/\j<=1000000/\i.natAbs<2 ^ 64
noncomputable def CMul(i j:Int):Prop:=(-(2 ^ 64)<i/\i<2 ^ 64)\/(-(2 ^ 64)<j/\j<2 ^ 64)
theorem CMul.ok{i j:Int}(h:CMul i j):IntMulOk i j:=by
 rcases h with⟨h1,h2⟩ |⟨h1,h2⟩
 ·exact .of_left (intBits_le_64 h1 h2)
 ·exact .of_right (intBits_le_64 h1 h2)
theorem op_add:OpR X (binaryOp .Add) (rI0 fun i j=>.int (i+j)):=opI0 fun _ _ _ _ _ _ _ q=>add_int q
theorem op_sub:OpR X (binaryOp .Sub) (rI0 fun i j=>.int (i-j)):=opI0 fun _ _ _ _ _ _ _ q=>sub_int q
theorem op_mul:OpR X (binaryOp .Mult) (rI CMul fun i j=>.int (i * j)):=opI fun _ _ _ _ _ _ _ hc q=>mul_int q hc.ok
theorem op_fdiv:OpR X (binaryOp .FloorDiv) (rI CDiv fun i j=>.int (i / j)):=opI fun i j _ _ _ _ _ hc q=>by
 have h1:(0:Int)<j:=hc.1
 have h2:j<1073741824:=hc.2
 exact floordiv_int (by lia) (by rw[Int.fdiv_eq_ediv_of_nonneg i (by lia)];exact q) (.inl (PyProof.noPylong_small (by omega)))
theorem op_mod:OpR X (binaryOp .Mod) (rI (fun _ j=>0<j) fun i j=>.int (i % j)):=opI fun i j _ _ _ _ _ hc q=>by
 have h1:(0:Int)<j:=hc
 exact mod_int' (by lia) (by rw[Int.fmod_eq_emod_of_nonneg i (by lia)];exact q)
theorem op_pow:OpR X (binaryOp .Pow) (rI CPow fun i j=>.int (i ^ j.toNat)):=opI fun _ _ _ _ _ _ _ hc q=>pow_int_small hc.1 hc.2.1 hc.2.2 q
theorem unI{f:Value->Sem Value}{g:Int->Int}
  (rule:∀ (i:Int) (t:Tok) (s:Shared) (Q:Value->Shared->Prop) (E:Value->Shared->Prop),Q (.int (g i) s.toks) { s with toks:=s.toks+1 }->wpAny (model X.prog X.w) X.A (f (.int i t)) Q E s) :
  UnR X f (rU fun i=>.int (g i)):=by
 intro pins s σ H x v Q I rx h
 obtain⟨i,rfl,q⟩:=h
 obtain⟨t,rfl⟩:=rx
 exact rule i t s _ _ ⟨.int (g i),H,I.tok _,⟨_,rfl⟩,q⟩
theorem un_neg:UnR X (unaryOp .USub) (rU fun i=>.int (-i)):=unI fun _ _ _ _ _ q=>neg_int q
end
noncomputable def scal:V->V->Bool
 | .non,.non=>true | .non,.int _=>true | .int _,.non=>true | .non,.bl _=>true | .bl _,.non=>true | .non,.str _=>true | .str _,.non=>true
 | .int _,.int _=>true | .bl _,.bl _=>true | .str _,.str _=>true | .byt _,.byt _=>true
 | .int _,.str _=>true | .str _,.int _=>true | .bl _,.str _=>true | .str _,.bl _=>true
 | _,_=>false
noncomputable def rEq:R2:=fun x y H Q=>scal x y=true/\Q (.bl (decide (x=y))) H
noncomputable def rNe:R2:=fun x y H Q=>scal x y=true/\Q (.bl (!decide (x=y))) H
theorem dec_int{i j:Int}:decide (V.int i=V.int j)=(i == j):=by
 rw[zCP]
 simp
theorem dec_bl{i j:Bool}:decide (V.bl i=V.bl j)=(i == j):=by
 rw[zCP]
 simp
theorem dec_str{i j:Str}:decide (V.str i=V.str j)=(i == j):=by
 rw[zCP]
 simp
theorem dec_byt{i j:Array UInt8}:decide (V.byt i=V.byt j)=(i.toList == j.toList):=by
 rw[zCP]
 cases i
 cases j
 simp
section
variable{X:Cx}{a b c:Expr}{ta tb tc:TE}{pos:Pos}
theorem fin_bl{pins:List (Addr×Obj)}{σ:St}{H:Hp}{s:Shared}{Q:VK}{k k':Bool}(I:Inv X pins σ H s)(q:Q (.bl k) H)(e:k=k'):EP X pins σ Q (.bool k') s:=by
 subst e
 exact⟨.bl k,H,I,rfl,q⟩
theorem op_eq:OpR X (compareOp .Eq) rEq:=by
 intro pins s σ H x y v u Q I rx ry h
 obtain⟨hs,q⟩:=h
 cases x with
 |non =>
  cases rx
  cases y with
  |non=>cases ry;exact PySem.EqNone.eq_none_none (fin_bl I q (by simp))
  |bl j=>cases ry;exact PySem.EqNone.eq_none_bool (fin_bl I q (by simp))
  |int j=>obtain⟨t',rfl⟩:=ry;exact PySem.EqNone.eq_none_int (fin_bl I q (by simp))
  |str j=>obtain⟨t',rfl⟩:=ry;exact PySem.EqNone.eq_none_str (fin_bl I q (by simp))
  | _=>exact absurd (show false=true from hs) zJ
 |bl i =>
  cases rx
  cases y with
  |non=>cases ry;exact PySem.EqNone.eq_bool_none (fin_bl I q (by simp))
  |bl j=>cases ry;exact eq_bool (fin_bl I q dec_bl)
  |str j=>obtain⟨t',rfl⟩:=ry;exact PySem.EqMixed.eq_bool_str (fin_bl I q (by simp))
  | _=>exact absurd (show false=true from hs) zJ
 |int i =>
  obtain⟨t,rfl⟩:=rx
  cases y with
  |non=>cases ry;exact PySem.EqNone.eq_int_none (fin_bl I q (by simp))
  |int j=>obtain⟨t',rfl⟩:=ry;exact eq_int (fin_bl I q dec_int)
  |str j=>obtain⟨t',rfl⟩:=ry;exact PySem.EqMixed.eq_int_str (fin_bl I q (by simp))
  | _=>exact absurd (show false=true from hs) zJ
 |str i =>
  obtain⟨t,rfl⟩:=rx
  cases y with
  |non=>cases ry;exact PySem.EqNone.eq_str_none (fin_bl I q (by simp))
  |bl j=>cases ry;exact PySem.EqMixed.eq_str_bool (fin_bl I q (by simp))
  |int j=>obtain⟨t',rfl⟩:=ry;exact PySem.EqMixed.eq_str_int (fin_bl I q (by simp))
  |str j=>obtain⟨t',rfl⟩:=ry;exact eq_str (fin_bl I q dec_str)
  | _=>exact absurd (show false=true from hs) zJ
 |byt i =>
  obtain⟨t,rfl⟩:=rx
  cases y with
  |byt j=>obtain⟨t',rfl⟩:=ry;exact PySem.W.eq_bytes (fin_bl I q dec_byt)
  | _=>exact absurd (show false=true from hs) zJ
 | _=>cases y <;> exact absurd (show false=true from hs) zJ
theorem op_ne:OpR X (compareOp .NotEq) rNe:=by
 intro pins s σ H x y v u Q I rx ry h
 obtain⟨hs,q⟩:=h
 cases x with
 |non =>
  cases rx
  cases y with
  |non=>cases ry;exact PySem.EqNone.ne_none_none (fin_bl I q (by simp))
  |bl j=>cases ry;exact PySem.EqNone.ne_none_bool (fin_bl I q (by simp))
  |int j=>obtain⟨t',rfl⟩:=ry;exact PySem.EqNone.ne_none_int (fin_bl I q (by simp))
  |str j=>obtain⟨t',rfl⟩:=ry;exact PySem.EqNone.ne_none_str (fin_bl I q (by simp))
  | _=>exact absurd (show false=true from hs) zJ
 |bl i =>
  cases rx
  cases y with
  |non=>cases ry;exact PySem.EqNone.ne_bool_none (fin_bl I q (by simp))
  |bl j=>cases ry;exact ne_bool (fin_bl I q (congrArg not dec_bl))
  |str j=>obtain⟨t',rfl⟩:=ry;exact PySem.EqMixed.ne_bool_str (fin_bl I q (by simp))
  | _=>exact absurd (show false=true from hs) zJ
 |int i =>
  obtain⟨t,rfl⟩:=rx
  cases y with
  |non=>cases ry;exact PySem.EqNone.ne_int_none (fin_bl I q (by simp))
  |int j=>obtain⟨t',rfl⟩:=ry;exact ne_int (fin_bl I q (congrArg not dec_int))
  |str j=>obtain⟨t',rfl⟩:=ry;exact PySem.EqMixed.ne_int_str (fin_bl I q (by simp))
  | _=>exact absurd (show false=true from hs) zJ
 |str i =>
  obtain⟨t,rfl⟩:=rx
  cases y with
  |non=>cases ry;exact PySem.EqNone.ne_str_none (fin_bl I q (by simp))
  |bl j=>cases ry;exact PySem.EqMixed.ne_str_bool (fin_bl I q (by simp))
  |int j=>obtain⟨t',rfl⟩:=ry;exact PySem.EqMixed.ne_str_int (fin_bl I q (by simp))
  |str j=>obtain⟨t',rfl⟩:=ry;exact ne_str (fin_bl I q (congrArg not dec_str))
  | _=>exact absurd (show false=true from hs) zJ
 |byt i =>
  obtain⟨t,rfl⟩:=rx
  cases y with
  |byt j=>obtain⟨t',rfl⟩:=ry;exact PySem.W.ne_bytes (fin_bl I q (congrArg not dec_byt))
  | _=>exact absurd (show false=true from hs) zJ
 | _=>cases y <;> exact absurd (show false=true from hs) zJ
theorem op_lt:OpR X (compareOp .Lt) (rI0 fun i j=>.bl (decide (i<j))):=opB0 fun _ _ _ _ _ _ _ q=>lt_int q
theorem op_le:OpR X (compareOp .LtE) (rI0 fun i j=>.bl (decide (i<=j))):=opB0 fun _ _ _ _ _ _ _ q=>le_int q
theorem op_gt:OpR X (compareOp .Gt) (rI0 fun i j=>.bl (decide (j<i))):=opB0 fun _ _ _ _ _ _ _ q=>gt_int q
theorem op_ge:OpR X (compareOp .GtE) (rI0 fun i j=>.bl (decide (j<=i))):=opB0 fun _ _ _ _ _ _ _ q=>ge_int q
theorem op_in_str:OpR X (compareOp .In) (fun x y H Q=>∃ i j,x = .str i/\y = .str j/\Q (.bl (!(Builtin.Str.occurrences j i 0 j.length 1).isEmpty)) H):=by
 intro pins s σ H x y v u Q I rx ry h
 obtain⟨i,j,rfl,rfl,q⟩:=h
 obtain⟨t,rfl⟩:=rx
 obtain⟨t',rfl⟩:=ry
 exact in_str (fin_bl I q rfl)
theorem op_isN:OpR X (compareOp .Is) (fun x y H Q=>y = .non/\Q (.bl (decide (x = .non))) H):=by
 intro pins s σ H x y v u Q I rx ry h
 obtain⟨rfl,q⟩:=h
 cases ry
 refine is_none_gen (fin_bl I q ?_)
 cases x <;> first
  |(cases rx;rfl)
  |(obtain⟨t,rfl⟩:=rx;rfl)
theorem nomark(b:Expr){op:CmpOp}(h:op≠.In:=by decide)(h2:op≠.NotIn:=by decide):behindInMarks op b=false:=by
 have e1:(op == CmpOp.In)=false:=by cases op <;> first | rfl | exact absurd rfl h
 have e2:(op == CmpOp.NotIn)=false:=by cases op <;> first | rfl | exact absurd rfl h2
 cases b <;> simp[behindInMarks,e1,e2]
theorem pe_cmpR{op:CmpOp}{r:R2}(ho:OpR X (compareOp op) r)(ha:PE X a ta)(hb:PE X b tb)(hm:behindInMarks op b=false):PE X (.Compare a [op] [b] pos) (tOp r ta tb):=by
 intro pins s σ H Q I h
 exact wpAny_Compare1 (binT ha hb I h fun v u s2 x y H2 I2 rx ry q=>ho pins s2 σ H2 x y v u Q I2 rx ry q) hm
noncomputable def tTest(t:TE):TT:=fun σ H Q=>t σ H fun x H'=>ExB x fun k=>Q k H'
theorem pt_cmpR{op:CmpOp}{r:R2}(ho:OpR X (compareOp op) r)(ha:PE X a ta)(hb:PE X b tb)(hm:behindInMarks op b=false):PT X (.Compare a [op] [b] pos) (tTest (tOp r ta tb)):=by
 intro pins s σ H Q I h
 refine wpAny_isTrue_Compare1 (thn (ha pins s σ H _ I h) fun v s1 ⟨x,H1,I1,r1,q1⟩=>thn (hb pins s1 σ H1 _ I1 q1) fun u s2 ⟨y,H2,I2,r2,q2⟩ =>
  thn (ho pins s2 σ H2 x y v u _ I2 r1 r2 q2) fun c s3 ⟨z,H3,I3,r3,k,e,q3⟩=>?_) hm
 subst e
 cases r3
 exact wpAny_truthy_bool ⟨H3,I3,q3⟩
noncomputable def tChain(r r':R2)(ta tb tc:TE):TE:=fun σ H Q=>ta σ H fun x H1=>tb σ H1 fun y H2=>r x y H2 fun z H3=>ExB z fun k =>
 (if k=true then tc σ H3 fun w' H4=>r' y w' H4 Q else Q (.bl false) H3)
theorem pt_chain{op op':CmpOp}{r r':R2}(ho:OpR X (compareOp op) r)(ho':OpR X (compareOp op') r')(ha:PE X a ta)(hb:PE X b tb)(hc:PE X c tc)
  (hm:lastMarks [op,op'] [b,c]=false:=by with_unfolding_all rfl):PT X (.Compare a [op,op'] [b,c] pos) (tTest (tChain r r' ta tb tc)):=by
 intro pins s σ H Q I h
 refine isTrue_chain (thn (ha pins s σ H _ I h) fun v s1 ⟨x,H1,I1,r1,q1⟩=>test_link (thn (hb pins s1 σ H1 _ I1 q1) fun u s2 ⟨y,H2,I2,r2,q2⟩ =>
  thn (ho pins s2 σ H2 x y v u _ I2 r1 r2 q2) fun d s3 ⟨z,H3,I3,r3,k,e,q3⟩=>?_)) hm
 subst e
 cases r3
 refine wpAny_truthy_bool ?_
 cases k with
 |false =>
  obtain⟨k',e',q'⟩:=q3
  cases e'
  exact ite_ff ⟨H3,I3,q'⟩
 |true =>
  refine ite_tt (test_last (thn (hc pins s3 σ H3 _ I3 q3) fun w' s4 ⟨z',H4,I4,r4,q4⟩=>thn (ho' pins s4 σ H4 y z' u w' _ I4 r2 r4 q4) fun d' s5 ⟨z2,H5,I5,r5,k2,e2,q5⟩=>?_))
  subst e2
  cases r5
  exact wpAny_truthy_bool ⟨H5,I5,q5⟩
noncomputable def TruV(K:PySem.W.Frag)(x:V)(H:Hp)(k:Bool):Prop :=
 match x with
 | .non=>k=false
 | .bl b=>k=b
 | .int i=>k=(i != 0)
 | .str y=>y.length<=sizeLine/\k=((y.length:Int) != 0)
 | .byt y=>y.size<=sizeLine/\k=((y.size:Int) != 0)
 | .ref p=>(∃ xs,SqL K H p xs/\k = !xs.isEmpty)\/(∃ xs,SqT K H p xs/\k = !xs.isEmpty)\/∃ kvs,H p=some (.dK kvs)/\k = !kvs.isEmpty
 | _=>False
theorem isEmpty_kv{κ:Type}{kvs:List (κ×V)}{vs:List (κ×Value)}(r:KV kvs vs):(!vs.isEmpty) = !kvs.isEmpty:=by
 cases r <;> rfl
theorem isEmpty_of{xs:List V}{its:List Value}(r:Vals xs its):(!its.toArray.isEmpty) = !xs.isEmpty:=by
 cases r <;> simp
theorem line63:(sizeLine:Nat)<2 ^ 63:=by rw[sizeLine_eq];decide
theorem tru_ok:TruR X (fun x H Q=>∃ k,TruV X.K x H k/\Q k H):=by
 intro pins s σ H x v Q I rx h
 obtain⟨k,e,q⟩:=h
 have hl:=line63
 have hs:sizeLine=16777216:=sizeLine_eq
 cases x with
 |non =>
  cases rx
  have e':k=false:=e
  subst e'
  exact truthy_none ⟨H,I,q⟩
 |bl b =>
  cases rx
  have e':k=b:=e
  subst e'
  exact wpAny_truthy_bool ⟨H,I,q⟩
 |int i =>
  obtain⟨t,rfl⟩:=rx
  have e':k=(i != 0):=e
  subst e'
  exact PySem.P.truthy_int ⟨H,I,q⟩
 |str y =>
  obtain⟨t,rfl⟩:=rx
  obtain⟨hy,e'⟩:y.length<=sizeLine/\k=((y.length:Int) != 0):=e
  subst e'
  exact PySem.P.truthy_str (by lia) ⟨H,I.tok _,q⟩
 |byt y =>
  obtain⟨t,rfl⟩:=rx
  obtain⟨hy,e'⟩:y.size<=sizeLine/\k=((y.size:Int) != 0):=e
  subst e'
  exact PySem.W.truthy_bytes (by lia) ⟨H,I.tok _,q⟩
 |ref p =>
  cases rx
  have e':(∃ xs,SqL X.K H p xs/\k = !xs.isEmpty)\/(∃ xs,SqT X.K H p xs/\k = !xs.isEmpty)\/∃ kvs,H p=some (.dK kvs)/\k = !kvs.isEmpty:=e
  rcases e' with⟨xs,hx,e'⟩ |⟨xs,hx,e'⟩ |⟨kvs,hx,e'⟩
  ·subst e'
   obtain⟨its,r,pl,hz⟩:=I.list hx
   have hlen:=r.length
   exact wpAny_truthy_list pl.isList (by simp only[zQ];lia) ⟨H,I.tok _,by rw[isEmpty_of r];exact q⟩
  ·subst e'
   obtain⟨its,r,pl,hz⟩:=I.tuple hx
   have hlen:=r.length
   exact truthy_tuple pl (by simp only[zQ];lia) ⟨H,I.tok _,by rw[isEmpty_of r];exact q⟩
  ·subst e'
   obtain⟨hz,hS,vs,r,m⟩:kvs.length<=sizeLine/\(p == sysModules)=false/\∃ vs,KV kvs vs/\s.heap.DictOf (mixKind X.prog X.w) p vs:=I.hok p _ hx
   have hlen:kvs.length=vs.length:=Paired.length r
   exact wpAny_truthy_dict hS m (by lia) ⟨H,I.tok _,by rw[isEmpty_kv r];exact q⟩
 | _=>exact(show False from e).elim
theorem pt_truth(ha:PE X a ta)(he:∀ whole,isTrue a X.env whole=(do let v <- whole;standAt a.pos;holding [v] (truthy v))) :
  PT X a (fun σ H Q=>ta σ H fun x H'=>∃ k,TruV X.K x H' k/\Q k H'):=by
 intro pins s σ H Q I h
 exact isTrue_plain (thn (ha pins s σ H _ I h) fun v s1 ⟨x,H1,I1,r1,q1⟩=>tru_ok pins s1 σ H1 x v Q I1 r1 q1) (he _)
theorem op_add_str:OpR X (binaryOp .Add) (fun x y H Q=>∃ i j,x = .str i/\y = .str j/\i.length+j.length<=sizeLine/\Q (.str (i++j)) H):=by
 intro pins s σ H x y v u Q I rx ry h
 obtain⟨i,j,rfl,rfl,hz,q⟩:=h
 obtain⟨t,rfl⟩:=rx
 obtain⟨t',rfl⟩:=ry
 exact add_str (fun t' tk=>⟨.str (i++j),H,I.tok _,⟨_,rfl⟩,q⟩) hz
theorem vals1{x:V}{us:List Value}(r:Vals [x] us):∃ u,us=[u]/\RelV x u:=by
 cases r with
 |cons r1 r2=>cases r2;exact⟨_,rfl,r1⟩
theorem vals2{x y:V}{us:List Value}(r:Vals [x,y] us):∃ u w',us=[u,w']/\RelV x u/\RelV y w':=by
 cases r with
 |cons r1 r2 =>
  cases r2 with
  |cons r3 r4=>cases r4;exact⟨_,_,rfl,r1,r3⟩
theorem call_abs:CallR X (.builtin "abs") (fun xs H Q=>∃ i,xs=[.int i]/\Q (.int (if i<0 then -i else i)) H):=by
 intro pins s σ H xs us Q I r h
 obtain⟨i,rfl,q⟩:=h
 obtain⟨u,rfl,t,rfl⟩:=vals1 r
 exact call_abs_int fun u tk=>⟨.int (if i<0 then -i else i),H,I.tok _,⟨_,rfl⟩,q⟩
theorem call_max2(hc:X.calm=true):CallR X (.builtin "max") (fun xs H Q=>∃ i j,xs=[.int i,.int j]/\Q (.int (if j > i then j else i)) H):=by
 intro pins s σ H xs us Q I r h
 obtain⟨i,j,rfl,q⟩:=h
 obtain⟨u,w',rfl,⟨t,rfl⟩,⟨t',rfl⟩⟩:=vals2 r
 refine max_two_ints (I.ok.hd hc) fun h' tk k=>⟨_,H,I.kept k,?_,q⟩
 by_cases hj:j > i
 ·rw[if_pos hj,if_pos hj];exact⟨_,rfl⟩
 ·rw[if_neg hj,if_neg hj];exact⟨_,rfl⟩
theorem call_min2(hc:X.calm=true):CallR X (.builtin "min") (fun xs H Q=>∃ i j,xs=[.int i,.int j]/\Q (.int (if j<i then j else i)) H):=by
 intro pins s σ H xs us Q I r h
 obtain⟨i,j,rfl,q⟩:=h
 obtain⟨u,w',rfl,⟨t,rfl⟩,⟨t',rfl⟩⟩:=vals2 r
 refine min_two_ints (I.ok.hd hc) fun h' tk k=>⟨_,H,I.kept k,?_,q⟩
 by_cases hj:j<i
 ·rw[if_pos hj,if_pos hj];exact⟨_,rfl⟩
 ·rw[if_neg hj,if_neg hj];exact⟨_,rfl⟩
theorem call_int1:CallR X (.type "int") (fun xs H Q=>(∃ i,xs=[.int i]/\Q (.int i) H)\/∃ k,xs=[.bl k]/\Q (.int (if k then 1 else 0)) H):=by
 intro pins s σ H xs us Q I r h
 rcases h with⟨i,rfl,q⟩ |⟨k,rfl,q⟩
 ·obtain⟨u,rfl,t,rfl⟩:=vals1 r
  exact call_int_int ⟨.int i,H,I,⟨_,rfl⟩,q⟩
 ·obtain⟨u,rfl,r1⟩:=vals1 r
  cases r1
  exact call_int_bool ⟨.int (if k then 1 else 0),H,I.tok _,⟨_,rfl⟩,q⟩
theorem call_str_int:CallR X (.type "str") (fun xs H Q=>∃ i,xs=[.int i]/\i.natAbs.log2<1920/\Q (.str (toString i)) H):=by
 intro pins s σ H xs us Q I r h
 obtain⟨i,rfl,hz,q⟩:=h
 obtain⟨u,rfl,t,rfl⟩:=vals1 r
 exact PySem.P.str_of_int hz ⟨.str _,H,I.tok _,⟨_,rfl⟩,q⟩
end
open PySem PySem.Spec PyProof.Rows
structure ObjM(h:Heap)(x dx C:Addr)(mA:Str->Option Value):Prop where
 obj:h.get? x=some (PySem.W.instObj C dx)
 ns:h.Ns1 dx mA
 ne:dx≠x
theorem lookIn_ns{h:Heap}{dx:Addr}{mA:Str->Option Value}(n:h.Ns1 dx mA):∃ od,h.get? dx=some od/\∀ name,PySem.W.lookIn name od=some (mA name):=by
 obtain⟨o,es,ep,ho,hd,hk,_,hm⟩:=n
 refine⟨o,ho,fun name=>?_⟩
 have e:=hm name
 unfold nsFind findBy at e
 rw[<- Array.find?_toList]at e
 unfold PySem.W.lookIn
 rw[hd]
 dsimp only
 split
 ·rename_i y q
  rw[q]at e
  exact congrArg some e
 ·rename_i q
  rw[q]at e
  have a:es.toList.any (·.refKey)=false:=by
   rw[List.any_eq_false]
   intro y hy
   obtain⟨z,t,hkey⟩:=hk y (Array.mem_toList_iff.mp hy)
   simp[DictEntry.refKey,hkey]
  have a':¬ es.toList.any (·.refKey)=true:=by rw[a];exact zJ
  rw[if_neg a']
  exact congrArg some e
theorem ObjM.look{h:Heap}{x dx C:Addr}{mA:Str->Option Value}(I:ObjM h x dx C mA):∃ od,PySem.W.InstAt h x (PySem.W.instObj C dx) C (some od)/\∀ name,PySem.W.lookIn name od=some (mA name) :=
 let ⟨od,ho,hl⟩:=lookIn_ns I.ns
 ⟨od,⟨I.obj,rfl,rfl,ho⟩,hl⟩
theorem RelO.some_of{v:V}{o:Option Value}(r:RelO (some v) o):∃ u,o=some u/\RelV v u:=by
 cases o with
 |none=>exact(show False from r).elim
 |some u=>exact⟨u,rfl,r⟩
theorem handed_of{v:V}{u:Value}(r:RelV v u):PySem.W.handedIn u=true:=by
 cases v with
 |non=>cases(show u=Value.none from r);rfl
 |bl b=>cases(show u=Value.bool b from r);rfl
 |int i=>obtain⟨t,e⟩:=(show ∃ t,u=Value.int i t from r);cases e;rfl
 |str x=>obtain⟨t,e⟩:=(show ∃ t,u=Value.str x t from r);cases e;rfl
 |byt b=>obtain⟨t,e⟩:=(show ∃ t,u=Value.bytes b t from r);cases e;rfl
 |flt b=>obtain⟨t,e⟩:=(show ∃ t,u=Value.float b t from r);cases e;rfl
 |ref a=>cases(show u=Value.ref a from r);rfl
 |ty n=>cases(show u=Value.type n from r);rfl
section
variable{P:Program}{w:World}{H H':Hp}{h h':Heap}{a C dx:Addr}{fs fs':List (Str×V)}
theorem ins_get(hok:HOk P w H h)(e:H a=some (.ins C dx fs)):∃ mA,ObjM h a dx C mA/\(∀ f,RelO (fs.lookup f) (mA f))/\PySem.Within mA (fs.map (·.1))/\fs.length<=1000/\H dx=some (.own a):=by
 obtain⟨d,z,ne,ob,mA,n,r,q⟩:=(show ObjOk P w H h a (.ins C dx fs)from hok a _ e)
 exact⟨mA,⟨ob,n,ne⟩,r,q,z,d⟩
end
structure Cls(K:PySem.W.Frag)(C:Addr):Prop where
 pg:PySem.W.plainGet K C Str.empty=true
 hd:PySem.W.hasDictIn K C=true
 po:PySem.W.plainOver K C=true
 sa:PySem.W.findIn K (.ref C) "__setattr__" = some (some (.builtin "object.__setattr__"))
theorem Cls.get{K:PySem.W.Frag}{C:Addr}(c:Cls K C)(f:Str):PySem.W.plainGet K C f=true:=c.pg
section
variable{X:Cx}{pins:List (Addr×Obj)}{σ:St}{H:Hp}{s:Shared}{a C dx:Addr}{fs:List (Str×V)}{f:Str}{v:V}{A:Around}{E:Value->Shared->Prop}
theorem attr_of{prog:Program}{w:World}{env:Env}{e:Expr}{f:Str}{pos:Pos}{s:Shared}{Q:Value->Shared->Prop}(hb:attributeBase e f env (eval e env)=eval e env)
  (h:wpAny (model prog w) A (eval e env) (fun o s₁=>wpAny (model prog w) A (getAttr o f true) Q E s₁) E s):wpAny (model prog w) A (eval (.Attribute e f pos) env) Q E s :=
 Attribute_any_ h (by rw[arm_eval_Attribute,hb])
end
section
variable{X:Cx}{pins:List (Addr×Obj)}{σ:St}{H:Hp}{s:Shared}{A:Around}{E:Value->Shared->Prop}{Q:Value->Shared->Prop}{c:Value}{b:Bool}
inductive TyOf(K:PySem.W.Frag)(H:Hp):V->Value->Prop where
 |non:TyOf K H .non (.type "NoneType")
 |bl (x:Bool):TyOf K H (.bl x) (.type "bool")
 |int (i:Int):TyOf K H (.int i) (.type "int")
 |str (x:Str):TyOf K H (.str x) (.type "str")
 |flt (x:UInt64):TyOf K H (.flt x) (.type "float")
 |lst {a:Addr}{xs:List V} (e:H a=some (.lst xs)):TyOf K H (.ref a) (.type "list")
 |frz {a:Addr}{o:Obj}{xs:List V} (e:H a=some (.frz o (.lst xs))):TyOf K H (.ref a) (.type "list")
 |tup {a:Addr}{xs:List V} (e:H a=some (.tup xs)):TyOf K H (.ref a) (.type "tuple")
 |dK {a:Addr}{kvs:List (Key×V)} (e:H a=some (.dK kvs)):TyOf K H (.ref a) (.type "dict")
 |dT {a:Addr}{kvs:List (List Key×V)} (e:H a=some (.dT kvs)):TyOf K H (.ref a) (.type "dict")
 |ins {a C dx:Addr}{fs:List (Str×V)} (e:H a=some (.ins C dx fs)) (cl:Cls K C) (ha:PySem.W.findIn K (.ref C) "__class__" = some (some (.builtin "object.__class__")))
   (hn:PySem.W.specialIn K (.builtin "object.__class__") "__get__" = some (some (.builtin "getset_descriptor.__get__"))) (htk:PySem.W.takesIn K (.builtin "object.__class__")=some true)
   (hm:PySem.W.mroIn K C (.type "object")=some true):TyOf K H (.ref a) (.ref C)
theorem isinst_ok{x:V}{u t:Value}(I:Inv X pins σ H s)(rx:RelV x u)(ty:TyOf X.K H x t)(e:PySem.W.kitOne X.K t c=some b)(h:∀ tk,Q (.bool b) { s with toks:=tk }) :
  wpAny (model X.prog X.w) A (call (.builtin "isinstance") [u,c]) Q E s:=by
 cases ty with
 |non=>cases(show u=Value.none from rx);exact PySem.W.kia_one PySem.W.kitx_none I.kIn True.intro e (fun z=>nomatch z) h
 |bl y=>cases(show u=Value.bool y from rx);exact PySem.W.kia_one PySem.W.kitx_bool I.kIn True.intro e (fun z=>nomatch z) h
 |int i=>obtain⟨t,q⟩:=(show ∃ t,u=Value.int i t from rx);cases q;exact PySem.W.kia_one PySem.W.kitx_int I.kIn True.intro e (fun z=>nomatch z) h
 |str y=>obtain⟨t,q⟩:=(show ∃ t,u=Value.str y t from rx);cases q;exact PySem.W.kia_one PySem.W.kitx_str I.kIn True.intro e (fun z=>nomatch z) h
 |flt y=>obtain⟨t,q⟩:=(show ∃ t,u=Value.float y t from rx);cases q;exact PySem.W.kia_one PySem.W.kitx_float I.kIn True.intro e (fun z=>nomatch z) h
 | @lst a xs ea =>
  cases(show u=Value.ref a from rx)
  obtain⟨_,_,n,_,h1⟩:=(show ObjOk X.prog X.w H s.heap a (.lst xs)from I.hok a _ ea)
  exact PySem.W.kia_one PySem.W.kitx_list I.kIn ⟨_,h1,rfl⟩ e (fun z=>nomatch z) h
 | @frz a ob xs ea =>
  cases(show u=Value.ref a from rx)
  obtain⟨_,_,_,n,_,h1⟩:=(show ObjOk X.prog X.w H s.heap a (.frz ob (.lst xs))from I.hok a _ ea)
  exact PySem.W.kia_one PySem.W.kitx_list I.kIn ⟨_,h1,rfl⟩ e (fun z=>nomatch z) h
 | @tup a xs ea =>
  cases(show u=Value.ref a from rx)
  obtain⟨_,_,_,p⟩:=(show ObjOk X.prog X.w H s.heap a (.tup xs)from I.hok a _ ea)
  obtain⟨o,h1,h2,_⟩:=p
  exact PySem.W.kia_one PySem.W.kitx_tuple I.kIn ⟨o,h1,h2⟩ e (fun z=>nomatch z) h
 | @dK a kvs ea =>
  cases(show u=Value.ref a from rx)
  obtain⟨_,_,vs,_,p⟩:=(show ObjOk X.prog X.w H s.heap a (.dK kvs)from I.hok a _ ea)
  obtain⟨o,es,ep,h1,h2,_⟩:=p
  exact PySem.W.kia_one PySem.W.kitx_dict I.kIn ⟨o,h1,h2.1⟩ e (fun z=>nomatch z) h
 | @dT a kvs ea =>
  cases(show u=Value.ref a from rx)
  obtain⟨_,_,xs,_,o,es,ep,h1,h2,_⟩:=(show ObjOk X.prog X.w H s.heap a (.dT kvs)from I.hok a _ ea)
  exact PySem.W.kia_one PySem.W.kitx_dict I.kIn ⟨o,h1,h2.1⟩ e (fun z=>nomatch z) h
 | @ins a C dx fs ea cl ha hn htk hm =>
  cases(show u=Value.ref a from rx)
  obtain⟨mA,O,_⟩:=ins_get I.hok ea
  obtain⟨od,J,_⟩:=O.look
  exact PySem.W.kia_one (PySem.W.kitx_own (cl.get _) cl.hd ha hn htk hm) I.kIn J e (fun z=>nomatch z) h
end
open PySem PySem.Spec PyProof.Rows
theorem deep_gd{A:Around}{env:Env}(h:A.guards=some []):(A.deeper env).guards=some []:=by
 first | exact h | simp[Around.deeper,h]
theorem make_gd{A:Around}{C:Addr}{us:List Value}{kw:List (Str×Value)}(h:A.guards=some []):(A.under (.builtin "type.__call__" ⟨.ref C :: us,kw⟩)).guards=some []:=by
 have e:(Code.builtin "type.__call__" ⟨.ref C :: us,kw⟩).guards=[]:=by unfold Code.guards;rfl
 show pushGuards (Code.builtin "type.__call__" ⟨.ref C :: us,kw⟩).guards A.guards=some []
 rw[e,h];rfl
structure Room(k:Nat)(A:Around):Prop where
 hd:A.handled=none
 dp:A.depth+3 * k+5<recursionLimit
 un:A.units+16 * k+200<cLine
 gd:A.guards=some []
theorem Room.mono{j k:Nat}{A:Around}(r:Room k A)(h:j<=k):Room j A:=⟨r.hd,by have:=r.dp;lia,by have:=r.un;lia,r.gd⟩
theorem Room.deeper{k:Nat}{A:Around}(r:Room (k+1) A)(env:Env):Room k (A.deeper env) :=
 ⟨r.hd,by have:=r.dp;show A.depth+1+3 * k+5<_;lia,by have:=r.un;show A.units+3+16 * k+200<_;lia,deep_gd r.gd⟩
theorem make_depth{A:Around}{C:Addr}{us:List Value}{kw:List (Str×Value)}:(A.under (.builtin "type.__call__" ⟨.ref C :: us,kw⟩)).depth=A.depth+1:=by
 first | rfl | simp[Around.under,Code.weight,Code.isCreation,Code.isGuard,Code.isCaller,Code.frames,Code.isFrame,guardIds]
theorem make_units{A:Around}{C:Addr}{us:List Value}{kw:List (Str×Value)}:(A.under (.builtin "type.__call__" ⟨.ref C :: us,kw⟩)).units=A.units+1:=by
 first | rfl | simp[Around.under,Code.cUnits,Code.frames,Code.isFrame]
theorem Room.make{k:Nat}{A:Around}(r:Room (k+1) A)(C:Addr)(us:List Value)(kw:List (Str×Value)):Room k (A.under (.builtin "type.__call__" ⟨.ref C :: us,kw⟩)) :=
 ⟨r.hd,by have:=r.dp;rw[make_depth];lia,by have:=r.un;rw[make_units];lia,make_gd r.gd⟩
theorem Room.depth{k:Nat}{A:Around}(r:Room k A):A.depth<recursionLimit:=by have:=r.dp;lia
theorem Room.units{k:Nat}{A:Around}(r:Room k A):A.units+64<cLine:=by have:=r.un;lia
theorem Room.units0{k:Nat}{A:Around}(r:Room k A):A.units<cLine:=by have:=r.un;lia
noncomputable def tNil:TA:=fun _ H Q=>Q [] H
noncomputable def tCons(ta:TE)(tr:TA):TA:=fun σ H Q=>ta σ H fun x H1=>tr σ H1 fun xs H2=>Q (x :: xs) H2
section
variable{X:Cx}{e:Expr}{es:List Expr}{te:TE}{t:TA}{pos:Pos}
theorem pa_nil:PA X [] tNil:=fun _ _ _ _ H Q I h=>Calls.spliced_nil ⟨[],H,I,.nil,h⟩
theorem pa_cons(ha:PE X e te)(hr:PA X es t)(hs:starEach (e :: es) X.env=(false,eval e X.env) :: starEach es X.env:=by rfl):PA X (e :: es) (tCons te t):=by
 intro pos pins s σ H Q I h
 rw[hs]
 show wpAny _ _ (spliced ((false,eval e X.env) :: backTo pos (starEach es X.env))) _ _ s
 refine Calls.spliced_cons (thn (ha pins s σ H _ I h) fun u s1 ⟨x,H1,I1,r1,q1⟩=>?_)
 exact thn (hr pos pins s1 σ H1 _ I1 q1) fun us s2 ⟨xs,H2,I2,r2,q2⟩=>⟨x :: xs,H2,I2,.cons r1 r2,q2⟩
noncomputable def tTup(t:TA):TE:=fun σ H Q=>t σ H fun xs H1=>xs.length<=sizeLine/\∀ p,H1 p=none->Q (.ref p) (upd H1 p (.tup xs))
noncomputable def tLst(t:TA):TE:=fun σ H Q=>t σ H fun xs H1=>xs.length<=sizeLine/\∀ p,H1 p=none->Q (.ref p) (upd H1 p (.lst xs))
theorem pe_tup{x1}(h:PA X es t):PE X (.Tuple es x1 pos) (tTup t):=by
 intro pins s σ H Q I hq
 refine wpAny_Tuple_spliced (thn (h pos pins s σ H _ I hq) fun us s1 ⟨xs,H1,I1,r,z,q⟩=>⟨by rw[<- r.length];exact z,?_⟩)
 have hf:H1 s1.heap.objs.size=none:=I1.hok.fresh (zH _)
 refine⟨.ref s1.heap.objs.size,upd H1 s1.heap.objs.size (.tup xs),I1.laid (t':=s1.toks) (fun b u e=>zD _ e) (zH _) ?_,rfl,q _ hf⟩
 exact⟨z,us,r,⟨_,zU _ rfl,rfl,_,rfl⟩⟩
theorem pe_lst(h:PA X es t):PE X (.List es pos) (tLst t):=by
 intro pins s σ H Q I hq
 refine wpAny_List_spliced (thn (h pos pins s σ H _ I hq) fun us s1 ⟨xs,H1,I1,r,z,q⟩=>⟨by rw[<- r.length];exact z,?_⟩)
 have hf:H1 s1.heap.objs.size=none:=I1.hok.fresh (zH _)
 refine⟨.ref s1.heap.objs.size,upd H1 s1.heap.objs.size (.lst xs),I1.laid (t':=s1.toks) (fun b u e=>zD _ e) (zH _) ?_,rfl,q _ hf⟩
 exact⟨z,us,0,r,zU _ rfl⟩
end
noncomputable abbrev Sp:=List V->Hp->VK->XK->Prop
noncomputable abbrev CXT:=List Env->Hp->Shared->XK->Value->Shared->Prop
structure Env0(P:Program)(w:World)(K:PySem.W.Frag)(mg:Str->Option Value)(base:Heap)(A:Around)(outer:List Env)(s:Shared)(H:Hp):Prop where
 frames:A.frames=some outer
 mod:Mod K mg base
 bs:∀ b o,base.get? b=some o->s.heap.get? b=some o/\H b=none
 bsz:base.objs.size<=s.heap.objs.size
 funs:s.heap.FunFrames base outer
 frf:∀ b∈frs outer,H b=none
 hok:HOk P w H s.heap
 bare:AllBare s.gens
noncomputable def CE(outer:List Env)(P:Program)(w:World)(H:Hp)(s:Shared)(Q:VK)(u:Value)(s':Shared):Prop :=
 ∃ v H',s'.os=s.os/\AllBare s'.gens/\Un (frs outer) [] H H' s.heap s'.heap/\HOk P w H' s'.heap/\RelV v u/\Q v H'
noncomputable def CR(CX:CXT)(outer:List Env)(P:Program)(w:World)(H:Hp)(s:Shared)(Q:VK)(E:XK)(r:Result)(s':Shared):Prop :=
 match r with
 | .ok (.ret u)=>CE outer P w H s Q u s'
 | .ok _=>False
 | .error e=>CX outer H s E e s'
structure FnOk(P:Program)(w:World)(K:PySem.W.Frag)(mg:Str->Option Value)(base:Heap)(CX:CXT)(k:Nat)(f:Addr)(fd:FuncData)(ps:List Str)(sp:Sp):Prop where
 len:∀ vs H Q E,sp vs H Q E->vs.length=ps.length
 run:∀ (A:Around) (outer:List Env) (s:Shared) (H:Hp) (args:Args) (us:List Value) (vs:List V) (Q:VK) (E:XK),Room k A->Env0 P w K mg base A outer s H->BindsTo s fd args (ps.zip us)->Vals vs us->sp vs H Q E ->
  codeAny (model P w) A (.call (.ref f) args) (CR CX outer P w H s Q E) s
theorem Env0.make{P:Program}{w:World}{K:PySem.W.Frag}{mg:Str->Option Value}{base:Heap}{A:Around}{outer:List Env}{s:Shared}{H:Hp}(e:Env0 P w K mg base A outer s H)(C:Addr)(us:List Value)(kw:List (Str×Value)) :
  Env0 P w K mg base (A.under (.builtin "type.__call__" ⟨.ref C :: us,kw⟩)) outer s H:=⟨by first | exact e.frames |(simpa[Around.under,Code.envs,Code.isFrame,pushEnvs]using e.frames),e.mod,e.bs,e.bsz,e.funs,e.frf,e.hok,e.bare⟩
section
variable{X:Cx}{pins:List (Addr×Obj)}{σ:St}{H:Hp}{s s':Shared}
theorem Inv.env0(I:Inv X pins σ H s):Env0 X.prog X.w X.K X.mg X.base X.A X.stack s H :=
 ⟨I.ok.frames,I.ok.mod,I.bs,zC I.ok.bsz I.sz,I.stack,I.stkFree,I.hok,I.bare⟩
theorem Inv.after{Q:VK}{u:Value}(I:Inv X pins σ H s)(h:CE X.stack X.prog X.w H s Q u s'):EP X pins σ Q u s':=by
 obtain⟨v,H',os,bare,un,hok,r,q⟩:=h
 obtain⟨hh,g,d,t,os'⟩:=s'
 obtain rfl:os'=s.os:=os
 exact⟨v,H',I.call (h':=hh) (g':=g) (d':=d) (t':=t) (ch:=[]) un hok bare (fun b z=>absurd z (by simp)),r,q⟩
end
noncomputable def tCall(sp:Sp)(dvs:List V)(E:XK)(t:TA):TE:=fun σ H Q=>t σ H fun vs H1=>sp (vs++dvs) H1 Q E
noncomputable def Binds(K:PySem.W.Frag)(fd:FuncData)(ps:List Str)(ds:List Value):Prop :=
 ∀ (s:Shared) (us:List Value),K.In s.heap->(us++ds).length=ps.length->BindsTo s fd ⟨us,[]⟩ (ps.zip (us++ds))
theorem Binds.all{K:PySem.W.Frag}{fd:FuncData}{ps:List Str}(h:∀ us:List Value,us.length=ps.length->bindArgs fd ⟨us,[]⟩=pure (ps.zip us)):Binds K fd ps []:=fun s us _ hl=>by
 rw[List.append_nil]at hl ⊢
 exact .of_eq (h us hl)
noncomputable def Passes(CX:CXT)(X:Cx)(E:XK):Prop:=∀ (pins:List (Addr×Obj)) (σ:St) (H:Hp) (s:Shared) (e:Value) (s':Shared),Inv X pins σ H s->CX X.stack H s E e s'->X.xe e s'
section
variable{X:Cx}{CX:CXT}{k:Nat}{f C:Addr}{fd:FuncData}{ps:List Str}{sp:Sp}{dvs:List V}{ds:List Value}{E:XK}{x m:Str}{p pos apos:Pos}{e o:Expr}{es:List Expr}{ta:TE}{t:TA}
theorem run_fn{pins:List (Addr×Obj)}{σ:St}{H:Hp}{s:Shared}{Q:VK}{us:List Value}{vs:List V}(F:FnOk X.prog X.w X.K X.mg X.base CX k f fd ps sp)(hr:Room k X.A)(hb:Binds X.K fd ps ds)(hd:Vals dvs ds)(hx:Passes CX X E)
  (I:Inv X pins σ H s) (r:Vals vs us) (h:sp (vs++dvs) H Q E):wpAny (model X.prog X.w) X.A (call (.ref f) us) (EP X pins σ Q) X.xe s:=by
 have r2:Vals (vs++dvs) (us++ds):=r.append hd
 have hl:(us++ds).length=ps.length:=by rw[<- r2.length];exact F.len _ _ _ _ h
 refine wpAny_call (codeAny_mono (F.run X.A X.stack s H ⟨us,[]⟩ (us++ds) (vs++dvs) Q E hr I.env0 (hb s us I.kIn hl) r2 h) fun r s' hq=>?_)
 cases r with
 |error e=>exact hx pins σ H s e s' I hq
 |ok fl =>
  cases fl with
  |ret u=>exact I.after hq
  |next=>exact False.elim hq
  |brk=>exact False.elim hq
  |cont=>exact False.elim hq
theorem pe_call(F:FnOk X.prog X.w X.K X.mg X.base CX k f fd ps sp)(hr:Room k X.A)(hg:Gl X x)(hm:X.mg x=some (.ref f))(hk:PySem.W.keepIn X.K (.ref f)=true)(hb:Binds X.K fd ps ds)(hd:Vals dvs ds)(hx:Passes CX X E)
  (ha:PA X (e :: es) t) (hdb:(x ==("__debug__":Str))=false:=by decide) (he:starEach (e :: es) X.env=(false,eval e X.env) :: starEach es X.env:=by rfl) (hpl:(backTo pos (starEach es X.env)).any (·.1)=false:=by rfl) :
  PE X (.Call (.Name x p) (e :: es) [] pos) (tCall sp dvs E t):=by
 intro pins s σ H Q I h
 refine wpAny_Call_Name_kw (ld_glob I hg hm ?_ hdb)
 refine PySem.W.callWith_K (h₀:=X.base) I.ok.mod.kin hk (thn (ha pos pins s σ H _ I h) fun us s1 ⟨vs,H1,I1,r,q⟩=>⟨I1.kIn,?_⟩) he hpl
 exact run_fn F hr hb hd hx I1 r q
end
noncomputable def PK(X:Cx)(kws:List Keyword)(t:TA):Prop :=
 ∀ (pos:Pos) (pins:List (Addr×Obj)) (s:Shared) (σ:St) (H:Hp) (Q:List V->Hp->Prop),Inv X pins σ H s->t σ H Q->wpAny (model X.prog X.w) X.A (evalAll ((backToKw pos (keywordEach kws X.env)).map (·.2))) (AP X pins σ Q) X.xe s
section
variable{X:Cx}{CX:CXT}{k:Nat}{f C:Addr}{fd:FuncData}{ps ks:List Str}{sp:Sp}{E:XK}{x m:Str}{p pos apos kpos:Pos}{e o:Expr}{es:List Expr}{kws:List Keyword}{te ta:TE}{t tk:TA}{nm:Option Str}
theorem pk_nil:PK X [] tNil:=fun _ _ _ _ H Q I h=>wpAny_evalAll_nil ⟨[],H,I,.nil,h⟩
theorem pk_cons(ha:PE X e te)(hr:PK X kws t):PK X (⟨nm,e,kpos⟩ :: kws) (tCons te t):=by
 intro pos pins s σ H Q I h
 show wpAny _ _ (evalAll ((do let v <- eval e X.env;standAt pos;pure v) :: (backToKw pos (keywordEach kws X.env)).map (·.2))) _ _ s
 refine wpAny_evalAll_cons (zA (thn (ha pins s σ H _ I h) fun u s1 ⟨x,H1,I1,r1,q1⟩=>zA (wpAny_standAt (zE ?_))))
 exact thn (hr pos pins s1 σ H1 _ I1 q1) fun us s2 ⟨xs,H2,I2,r2,q2⟩=>⟨x :: xs,H2,I2,.cons r1 r2,q2⟩
variable{g:List Value->List Value->List Value}{gV:List V->List V->List V}
end
structure FnScope(N P:List Str)(sc:Scope):Prop where
 kind:sc.kind = .function
 co:sc.isCoroutine=false
 gen:sc.isGenerator=false
 nd:N.Nodup
 pre:N.take P.length=P
 par:∀ x∈P,sc.names.lookup x=some .local\/sc.names.lookup x=some .cell
 nofree:∀ y∈sc.names,y.2≠.free
theorem bindL_out{kindOf:Str->Option NameKind}{x:Str}:∀ {binds:List (Str×Value)}{m:Str->Option Value},(∀ v,(x,v)∉binds)->bindL kindOf binds m x=m x
 |[],_,_=>rfl
 |(n,v) :: r,m,h=>by
  unfold bindL
  rw[bindL_out fun w hw=>h w (zP _ hw)]
  split
  ·have:x≠n:=by rintro rfl;exact h v zX
   simp[this]
  ·rfl
theorem bindC_out{kindOf:Str->Option NameKind}{x:Str}:∀ {binds:List (Str×Value)}{m:Str->Option Value},(∀ v,(x,v)∉binds)->bindC kindOf binds m x=m x
 |[],_,_=>rfl
 |(n,v) :: r,m,h=>by
  unfold bindC
  rw[bindC_out fun w hw=>h w (zP _ hw)]
  split
  ·rfl
  ·have:x≠n:=by rintro rfl;exact h v zX
   simp[this]
theorem bindL_get{kindOf:Str->Option NameKind}{x:Str}{v:Value}:∀ {P:List Str}{vs:List Value}{i:Nat}{m:Str->Option Value},P.Nodup->P[i]?=some x->vs[i]?=some v->kindOf x=some .local ->
  bindL kindOf (P.zip vs) m x=some v
 |[],_,_,_,_,h,_,_=>by simp at h
 | _ :: _,[],_,_,_,_,h,_=>by simp at h
 |p :: P,w :: vs,0,m,nd,h1,h2,hk=>by
  simp at h1 h2;subst h1;subst h2
  show bindL kindOf ((p,w) :: P.zip vs) m p=_
  unfold bindL
  rw[bindL_out fun v hv=>(List.nodup_cons.mp nd).1 (List.of_mem_zip hv).1,if_pos hk]
  simp
 |p :: P,w :: vs,i+1,m,nd,h1,h2,hk=>by
  show bindL kindOf ((p,w) :: P.zip vs) m x=_
  unfold bindL
  exact bindL_get (i:=i) (List.nodup_cons.mp nd).2 (by simpa using h1) (by simpa using h2) hk
theorem bindC_get{kindOf:Str->Option NameKind}{x:Str}{v:Value}:∀ {P:List Str}{vs:List Value}{i:Nat}{m:Str->Option Value},P.Nodup->P[i]?=some x->vs[i]?=some v->kindOf x≠some .local ->
  bindC kindOf (P.zip vs) m x=some v
 |[],_,_,_,_,h,_,_=>by simp at h
 | _ :: _,[],_,_,_,_,h,_=>by simp at h
 |p :: P,w :: vs,0,m,nd,h1,h2,hk=>by
  simp at h1 h2;subst h1;subst h2
  show bindC kindOf ((p,w) :: P.zip vs) m p=_
  unfold bindC
  rw[bindC_out fun v hv=>(List.nodup_cons.mp nd).1 (List.of_mem_zip hv).1,if_neg hk]
  simp
 |p :: P,w :: vs,i+1,m,nd,h1,h2,hk=>by
  show bindC kindOf ((p,w) :: P.zip vs) m x=_
  unfold bindC
  exact bindC_get (i:=i) (List.nodup_cons.mp nd).2 (by simpa using h1) (by simpa using h2) hk
noncomputable def start(N:List Str)(vs:List V):St:=vs.map some++List.replicate (N.length-vs.length) none
noncomputable def cxOf(CX:CXT)(P:Program)(w:World)(K:PySem.W.Frag)(mg:Str->Option Value)(base:Heap)(N:List Str)(qual:Str)(scope:Scope)(f:Addr)(cd:Value)(A:Around)(outer:List Env)(s:Shared)(H:Hp)(E:XK):Cx where
 prog:=P
 w:=w
 K:=K
 mg:=mg
 base:=base
 A:=A.deeper (envOfC qual scope s.heap.objs.size f cd)
 N:=N
 s₀:=s
 H₀:=H
 env:=envOfC qual scope s.heap.objs.size f cd
 outer:=outer
 stack:=envOfC qual scope s.heap.objs.size f cd :: outer
 ex:=[]
 calm:=true
 fn:=fun _=>true
 pn:=[]
 xe:=fun e s'=>wpAny (model P w) (A.deeper (envOfC qual scope s.heap.objs.size f cd)) (leaving (envOfC qual scope s.heap.objs.size f cd) e) (fun _ s''=>CX outer H s E e s'') (fun e' s''=>CX outer H s E e' s'') s'
theorem cell_has{sc:Scope}{n:Nat}{x:Str}(h:sc.names.lookup x=some .cell):∃ c,(cellsFrom n sc.names []).lookup x=some c:=by
 have q:=PySem.W.cellsFrom_some sc.names n [] (.inl h)
 exact Option.isSome_iff_exists.mp q
theorem inv_start{CX:CXT}{P:Program}{w:World}{K:PySem.W.Frag}{mg:Str->Option Value}{base:Heap}{N ps:List Str}{qual:Str}{scope:Scope}{f:Addr}{cd:Value}{A:Around}{outer:List Env}{s s1:Shared}{H:Hp}{E:XK}{us:List Value}{vs:List V}
  (S:FnScope N ps scope) (hd:A.handled=none) (e0:Env0 P w K mg base A outer s H) (hl:vs.length=ps.length) (r:Vals vs us)
  (x:InCallC s s.heap.objs.size (bindL (envOfC qual scope s.heap.objs.size f cd).kindOf (ps.zip us) fun _=>none) (cellsFrom (s.heap.objs.size+1) scope.names []) (bindC (envOfC qual scope s.heap.objs.size f cd).kindOf (ps.zip us) fun _=>none) s1) :
  Inv (cxOf CX P w K mg base N qual scope f cd A outer s H E) [] (start N vs) H s1:=by
 have hpl:ps.length<=N.length:=by have:=congrArg List.length S.pre;rw[zAD]at this;lia
 obtain⟨h1,tk,rfl,hk⟩:=x.done
 have noA:∀ b:Addr,b∉(cxOf CX P w K mg base N qual scope f cd A outer s H E).ex:=fun b z=>absurd (show b∈([]:List Addr)from z) (by simp)
 refine⟨⟨e0.mod,S.kind,rfl,rfl,zH _,fun y z c h1 h2=>?_,fun y hy=>?_,fun y c _ h=>?_,fun _=>hd,Around.frames_deeper e0.frames,.inr ⟨rfl,rfl⟩,fun b z=>absurd z (noA b),e0.bs,e0.bsz,fun b _ _=>noA b,fun b z=>absurd z (noA b),e0.funs,e0.frf⟩,
  rfl,e0.bare,Un.kept hk,⟨_,x.toInCall.ns,fun i y v h1 h2 h3=>?_⟩,fun y c h=>⟨_,x.cell y c h⟩,e0.hok.fresh (zH _),fun y c h=>?_,fun p hp=>absurd (show p∈([]:List (Addr×Obj))from hp) (by simp),e0.hok.kept hk,?_⟩
 ·exact name_of_addr x.apart (PySem.mem_of_lookup h1) (PySem.mem_of_lookup h2)
 ·have hy:scope.names.lookup y=some .cell\/scope.names.lookup y=some .free:=hy
  rcases hy with hy | hy
  ·exact cell_has hy
  ·exact absurd rfl (S.nofree _ (PySem.mem_of_lookup hy))
 ·exact zT (x.above y c (PySem.mem_of_lookup h))
 ·have hi:i<vs.length:=by
   unfold start at h2
   by_cases hi:i<vs.length
   ·exact hi
   ·rw[List.getElem?_append_right (by simpa using hi)]at h2
    rw[List.getElem?_replicate]at h2
    split at h2 <;> cases h2
  have ha:vs[i]?=some v:=by
   unfold start at h2
   rw[List.getElem?_append_left (by simpa using hi),zAJ]at h2
   cases e:vs[i]? with
   |none=>rw[e]at h2;cases h2
   |some a=>rw[e]at h2;cases h2;rfl
  obtain⟨u,hu,rv⟩:=r.get ha
  have hp:ps[i]?=some y:=by
   rw[<- S.pre,List.getElem?_take_of_lt (by lia)];exact h1
  have ndP:ps.Nodup:=by rw[<- S.pre];exact S.nd.sublist (List.take_sublist _ _)
  refine⟨u,rv,?_⟩
  rcases S.par y (zCV hp)with k | k
  ·exact .inl ⟨k,bindL_get ndP hp hu k⟩
  ·obtain⟨c,e⟩:=cell_has (n:=s.heap.objs.size+1) k
   refine .inr ⟨.inl k,c,e,?_⟩
   have q:=x.cell y c e
   rw[bindC_get ndP hp hu (by show scope.names.lookup y≠_;rw[k];decide)]at q
   exact q
 ·exact e0.hok.fresh (zT (x.above y c (PySem.mem_of_lookup h)))
 ·unfold start
  show _=N.length
  rw[zY,zB,List.length_replicate]
  lia
theorem fn_of{CX:CXT}{P:Program}{w:World}{K:PySem.W.Frag}{mg:Str->Option Value}{base:Heap}{k:Nat}{f:Addr}{name qual:Str}{params:Arguments}{body:List Stmt}{scope:Scope}{dV kV doc pm cdv ct oc:Value}{an od:Option Addr}
  {osl:Array (Option Value)}{N ps:List Str}{sp:Sp} (lk:K.lookup f=some ⟨oc,od,.func (PySem.W.fnOf name qual params body scope dV kV doc pm an cdv ct),osl⟩) (hcd:PySem.W.codeIn K cdv qual=true) (S:FnScope N ps scope)
  (len:∀ vs H Q E,sp vs H Q E->vs.length=ps.length)
  (hbody:∀ (A:Around) (outer:List Env) (s:Shared) (H:Hp) (vs:List V) (Q:VK) (E:XK),Room k (A.deeper (envOfC qual scope s.heap.objs.size f cdv))->sp vs H Q E ->
   ∃ t,PSs (cxOf CX P w K mg base N qual scope f cdv A outer s H E) body t/\t { nx:=fun _ H'=>Q .non H',rt:=Q } (start N vs) H) :
  FnOk P w K mg base CX (k+1) f (PySem.W.fnOf name qual params body scope dV kV doc pm an cdv ct) ps sp:=by
 refine⟨len,fun A outer s H args us vs Q E hr e0 hb r hsp=>?_⟩
 have hl:=len _ _ _ _ hsp
 have KX:K.In s.heap:=e0.mod.kin.keeps fun b o e=>(e0.bs b o e).1
 have lim:s.heap.NoLimit:=e0.mod.nolimit.keeps fun b o e=>(e0.bs b o e).1
 have hkind:∀ y∈ps.zip us,scope.names.lookup y.1=some .local\/(scope.names.lookup y.1=some .cell/\((cellsFrom (s.heap.objs.size+1) scope.names []).lookup y.1).isSome=true):=fun⟨n,v⟩ hy=>by
  rcases S.par n (List.of_mem_zip hy).1 with q | q
  ·exact .inl q
  ·exact .inr ⟨q,PySem.W.cellsFrom_some _ _ _ (.inl q)⟩
 refine codeAny_call_function hr.depth (KX _ _ lk) rfl S.co S.gen rfl (PySem.W.codeRec_of KX hcd) (hb _ _ _ _ ?_)
 refine wpAny_newFunctionEnv_cells S.kind hkind fun env he s1 x=>?_
 subst he
 refine⟨lim.keeps x.toInCall.keep,codeAny_func ?_⟩
 obtain⟨t,ht,hq⟩:=hbody A outer s H vs Q E (hr.deeper _) hsp
 have I:Inv (cxOf CX P w K mg base N qual scope f cdv A outer s H E) [] (start N vs) H s1:=inv_start S hr.hd e0 hl r x
 refine wpAny_mono (ht [] s1 (start N vs) H _ I hq) (fun fl s' hs=>?_) fun e s' hs=>hs
 have fin:∀ {σ':St}{H':Hp}{v:V}{u:Value},Inv (cxOf CX P w K mg base N qual scope f cdv A outer s H E) [] σ' H' s'->RelV v u->Q v H'->CE outer P w H s Q u s' :=
  fun {σ' H' v u} J rv q=>⟨v,H',J.os,J.bare,J.base,J.hok,rv,q⟩
 cases fl with
 |ret u =>
  obtain⟨v,σ',H',J,rv,q⟩:=hs
  exact fin J rv q
 |next =>
  obtain⟨σ',H',J,q⟩:=hs
  exact fin (v:=V.non) (u:=Value.none) J rfl q
 |brk =>
  obtain⟨_,_,_,q⟩:=hs
  exact False.elim q
 |cont =>
  obtain⟨_,_,_,q⟩:=hs
  exact False.elim q
open PySem PySem.Spec PyProof.Rows
section
variable{X:Cx}{x:Str}{p pos:Pos}{e:Expr}{es:List Expr}{t:TA}{id T:String}{r:List V->Hp->VK->Prop}
noncomputable def tCB(r:List V->Hp->VK->Prop)(t:TA):TE:=fun σ H Q=>t σ H fun vs H1=>r vs H1 Q
theorem pe_callB(hc:CallR X (.builtin id) r)(hg:Gl X x)(hm:X.mg x=none)(hv:bootBuiltins x=some (.builtin id))(ha:PA X (e :: es) t)(hn:x≠"__name__":=by decide)(hdb:(x ==("__debug__":Str))=false:=by decide)
  (he:starEach (e :: es) X.env=(false,eval e X.env) :: starEach es X.env:=by rfl) (hpl:(backTo pos (starEach es X.env)).any (·.1)=false:=by rfl):PE X (.Call (.Name x p) (e :: es) [] pos) (tCB r t):=by
 intro pins s σ H Q I h
 refine wpAny_Call_Name_kw (ld_blt I hg hm hv ?_ hn hdb)
 exact PyProof.Rows.callWith_builtin1 (thn (ha pos pins s σ H _ I h) fun us s1 ⟨vs,H1,I1,r1,q1⟩=>hc pins s1 σ H1 vs us Q I1 r1 q1) he hpl
theorem pe_callTy(hc:CallR X (.type T) r)(hg:Gl X x)(hm:X.mg x=none)(hv:bootBuiltins x=some (.type T))(ha:PA X (e :: es) t)(hn:x≠"__name__":=by decide)(hdb:(x ==("__debug__":Str))=false:=by decide)
  (he:starEach (e :: es) X.env=(false,eval e X.env) :: starEach es X.env:=by rfl) (hpl:(backTo pos (starEach es X.env)).any (·.1)=false:=by rfl):PE X (.Call (.Name x p) (e :: es) [] pos) (tCB r t):=by
 intro pins s σ H Q I h
 refine wpAny_Call_Name_kw (ld_blt I hg hm hv ?_ hn hdb)
 exact PyProof.Rows.callWith_type1 (thn (ha pos pins s σ H _ I h) fun us s1 ⟨vs,H1,I1,r1,q1⟩=>hc pins s1 σ H1 vs us Q I1 r1 q1) he hpl
end
open PySem PySem.Spec PyProof.Rows
section
variable{κ:Type}[DecidableEq κ]
noncomputable def valV(kvs:List (κ×V))(k:κ):Option V:=(kvs.find? fun kv=>decide (kv.1=k)).map (·.2)
noncomputable def putK(kvs:List (κ×V))(k:κ)(v:V):List (κ×V) :=
 if(kvs.any fun kv=>decide (kv.1=k))=true then kvs.map (fun kv=>if kv.1=k then(kv.1,v)else kv)else kvs++[(k,v)]
theorem valV_nil{k:κ}:valV ([]:List (κ×V)) k=none:=rfl
theorem valV_pos{p:κ×V}{r:List (κ×V)}{k:κ}(e:p.1=k):valV (p :: r) k=some p.2:=by simp[valV,List.find?_cons,e]
theorem valV_neg{p:κ×V}{r:List (κ×V)}{k:κ}(e:¬ p.1=k):valV (p :: r) k=valV r k:=by simp[valV,List.find?_cons,e]
theorem valV_any(k:κ):∀ kvs:List (κ×V),(kvs.any fun kv=>decide (kv.1=k))=(valV kvs k).isSome
 |[]=>rfl
 |p :: r=>by
  rw[List.any_cons]
  by_cases e:p.1=k
  ·simp only[valV_pos e,decide_eq_true e,Bool.true_or,Option.isSome_some]
  ·rw[valV_neg e,decide_eq_false e,Bool.false_or];exact valV_any k r
theorem length_putK(kvs:List (κ×V))(k:κ)(v:V):(putK kvs k v).length<=kvs.length+1:=by
 unfold putK
 split
 ·rw[zB];lia
 ·rw[zY,zV,zBL];lia
theorem RelO.isSome_eq{o:Option V}{u:Option Value}(r:RelO o u):o.isSome=u.isSome:=by
 cases o with
 |none=>cases u with
  |none=>rfl
  |some _=>exact(show False from r).elim
 |some _=>cases u with
  |none=>exact(show False from r).elim
  |some _=>rfl
theorem KV.val{kvs:List (κ×V)}{vs:List (κ×Value)}(r:KV kvs vs)(k:κ):RelO (valV kvs k) (valueAt vs k):=by
 unfold KV at r
 induction r with
 |nil=>exact True.intro
 | @cons p q ps qs h t ih =>
  obtain⟨h1,h2⟩:=h
  by_cases e:p.1=k
  ·have e':q.1=k:=h1.symm.trans e
   have b:valueAt (q :: qs) k=some q.2:=by simp[valueAt,List.find?_cons,e']
   rw[valV_pos e,b];exact h2
  ·have e':¬ q.1=k:=fun z=>e (h1.trans z)
   have b:valueAt (q :: qs) k=valueAt qs k:=by simp[valueAt,List.find?_cons,e']
   rw[valV_neg e,b];exact ih
theorem KV.any{kvs:List (κ×V)}{vs:List (κ×Value)}(r:KV kvs vs)(k:κ):(kvs.any fun kv=>decide (kv.1=k))=vs.any fun kv=>decide (kv.1=k):=by
 unfold KV at r
 induction r with
 |nil=>rfl
 |cons h t ih=>rw[List.any_cons,List.any_cons,ih,h.1]
theorem KV.repl{kvs:List (κ×V)}{vs:List (κ×Value)}(r:KV kvs vs)(k:κ){y:V}{u:Value}(ry:RelV y u) :
  KV (kvs.map fun kv=>if kv.1=k then(kv.1,y)else kv) (vs.map fun kv=>if kv.1=k then(kv.1,u)else kv):=by
 unfold KV at r ⊢
 induction r with
 |nil=>exact .nil
 | @cons p q ps qs h t ih =>
  rw[zAS,zAS]
  refine .cons ?_ ih
  obtain⟨h1,h2⟩:=h
  by_cases e:p.1=k
  ·rw[if_pos e,if_pos (h1.symm.trans e)];exact⟨h1,ry⟩
  ·rw[if_neg e,if_neg (fun z=>e (h1.trans z))];exact⟨h1,h2⟩
theorem KV.put{kvs:List (κ×V)}{vs:List (κ×Value)}(r:KV kvs vs)(k:κ){y:V}{u:Value}(ry:RelV y u):KV (putK kvs k y) (stored vs k u):=by
 unfold putK stored
 rw[r.any k]
 by_cases e:(vs.any fun kv=>decide (kv.1=k))=true
 ·rw[if_pos e,if_pos e];exact r.repl k ry
 ·rw[if_neg e,if_neg e];exact Paired.snoc r ⟨rfl,ry⟩
theorem KV.length{kvs:List (κ×V)}{vs:List (κ×Value)}(r:KV kvs vs):kvs.length=vs.length:=Paired.length r
end
theorem kV_is{P:Program}{w:World}{k:Key}{u:Value}(r:RelV (kV k) u):(mixKind P w).is k u=true:=by
 cases k with
 |inl i=>obtain⟨t,e⟩:=(show ∃ t,u=Value.int i t from r);subst e;exact mixKind_int P w i t
 |inr x=>obtain⟨t,e⟩:=(show ∃ t,u=Value.str x t from r);subst e;exact mixKind_str P w x t
theorem items_are{P:Program}{w:World}:∀ {ks:List Key}{us:List Value},Vals (ks.map kV) us->ItemsAre (mixKind P w) ks us
 |[],_,r=>by rw[List.map_nil]at r;cases r;exact .nil
 |k :: ks,_,r=>by
  rw[zAS]at r
  cases r with
  |cons h t=>exact .cons (kV_is h) (items_are t)
noncomputable abbrev KT(H:Hp):List (List Key×V)->List (List Key×Addr×Value)->Prop:=Paired fun p q=>p.1=q.1/\H q.2.1=some (.tup (p.1.map kV))/\RelV p.2 q.2.2
theorem KT.val{H:Hp}{kvs:List (List Key×V)}{xs:List (List Key×Addr×Value)}(r:KT H kvs xs)(k:List Key):RelO (valV kvs k) ((atKey xs k).map (·.2)):=by
 induction r with
 |nil=>exact True.intro
 | @cons p q ps qs h t ih =>
  obtain⟨h1,_,h2⟩:=h
  by_cases e:p.1=k
  ·have e':q.1=k:=h1.symm.trans e
   have b:atKey (q :: qs) k=some q.2:=by simp[atKey,List.find?_cons,e']
   rw[valV_pos e,b];exact h2
  ·have e':¬ q.1=k:=fun z=>e (h1.trans z)
   have b:atKey (q :: qs) k=atKey qs k:=by simp[atKey,List.find?_cons,e']
   rw[valV_neg e,b];exact ih
theorem KT.repl{H:Hp}{kvs:List (List Key×V)}{xs:List (List Key×Addr×Value)}(r:KT H kvs xs)(k:List Key){y:V}{u:Value}(ry:RelV y u) :
  KT H (kvs.map fun kv=>if kv.1=k then(kv.1,y)else kv) (xs.map (putAt k u)):=by
 induction r with
 |nil=>exact .nil
 | @cons p q ps qs h t ih =>
  rw[zAS,zAS]
  refine .cons ?_ ih
  obtain⟨h1,h2,h3⟩:=h
  unfold putAt
  by_cases e:p.1=k
  ·rw[if_pos e,if_pos (h1.symm.trans e)];exact⟨h1,h2,ry⟩
  ·rw[if_neg e,if_neg (fun z=>e (h1.trans z))];exact⟨h1,h2,h3⟩
theorem KT.put{H:Hp}{kvs:List (List Key×V)}{xs:List (List Key×Addr×Value)}(r:KT H kvs xs)(k:List Key){b:Addr}{y:V}{u:Value}(hb:H b=some (.tup (k.map kV)))(ry:RelV y u) :
  KT H (putK kvs k y) (storedH xs k b u):=by
 have e:(kvs.any fun kv=>decide (kv.1=k))=(atKey xs k).isSome:=by
  rw[valV_any,(r.val k).isSome_eq,Option.isSome_map]
 unfold putK storedH
 rw[e]
 by_cases q:(atKey xs k).isSome=true
 ·rw[if_pos q,if_pos q];exact r.repl k ry
 ·rw[if_neg q,if_neg q];exact Paired.snoc r ⟨rfl,hb,ry⟩
theorem KT.keeps{H H':Hp}{kvs:List (List Key×V)}{xs:List (List Key×Addr×Value)}(r:KT H kvs xs)(ht:∀ b ys,H b=some (.tup ys)->H' b=some (.tup ys)):KT H' kvs xs :=
 Paired.mapP r fun _ _ z=>⟨z.1,ht _ _ z.2.1,z.2.2⟩
section
variable{P:Program}{w:World}{H:Hp}{h:Heap}{a:Addr}
theorem rd_of{u:HO}(ok:HOk P w H h)(e:Rd H a u):ObjOk P w H h a u:=e.ok ok
theorem dk_rd{kvs:List (Key×V)}(ok:HOk P w H h)(e:Rd H a (.dK kvs)):kvs.length<=sizeLine/\(a == sysModules)=false/\∃ vs,KV kvs vs/\h.DictOf (mixKind P w) a vs :=
 show ObjOk P w H h a (.dK kvs)from rd_of ok e
theorem dk_of{kvs:List (Key×V)}(ok:HOk P w H h)(e:H a=some (.dK kvs)):kvs.length<=sizeLine/\(a == sysModules)=false/\∃ vs,KV kvs vs/\h.DictOf (mixKind P w) a vs:=dk_rd ok (.inl e)
theorem key_of{ks:List Key}(ok:HOk P w H h)(e:H a=some (.tup (ks.map kV))):(tupleKind (mixKind P w)).is h ks a:=by
 obtain⟨_,its,r,o,h1,h2,n,h3⟩:=(show ObjOk P w H h a (.tup (ks.map kV))from ok a _ e)
 exact⟨o,its.toArray,n,h1,h2,h3,by simpa using items_are r⟩
theorem dt_rd{kvs:List (List Key×V)}(ok:HOk P w H h)(e:Rd H a (.dT kvs)):kvs.length<=sizeLine/\(a == sysModules)=false /\
  ∃ xs,KT H kvs xs/\h.DictOfH (tupleKind (mixKind P w)) a xs:=by
 obtain⟨z,y,xs,r,o,es,ep,h1,h2,h3,h4,h5⟩:=(show ObjOk P w H h a (.dT kvs)from rd_of ok e)
 refine⟨z,y,xs,r,o,es,ep,h1,h2,h3,h4,fun x hx=>?_,h5⟩
 have all:∀ {l:List (List Key×V)}{m:List (List Key×Addr×Value)},KT H l m->∀ x∈m,(tupleKind (mixKind P w)).is h x.1 x.2.1:=by
  intro l m q
  induction q with
  |nil=>intro x hx;exact nomatch hx
  | @cons p q ps qs hq t ih =>
   intro x hx
   rcases zW.mp hx with e | hx
   ·subst e
    exact key_of ok (by rw[<- hq.1];exact hq.2.1)
   ·exact ih x hx
 exact all r x hx
theorem dt_of{kvs:List (List Key×V)}(ok:HOk P w H h)(e:H a=some (.dT kvs)):kvs.length<=sizeLine/\(a == sysModules)=false /\
  ∃ xs,KT H kvs xs/\h.DictOfH (tupleKind (mixKind P w)) a xs:=dt_rd ok (.inl e)
end
noncomputable def DGet(H:Hp)(a:Addr)(y:V)(r:Option V):Prop :=
 (∃ kvs k,Rd H a (.dK kvs)/\y=kV k/\r=valV kvs k)\/∃ kvs k b,Rd H a (.dT kvs)/\y = .ref b/\H b=some (.tup (k.map kV))/\r=valV kvs k
noncomputable def DPut(H:Hp)(a:Addr)(y v:V)(H':Hp):Prop :=
 (∃ kvs k,H a=some (.dK kvs)/\y=kV k/\kvs.length<sizeLine/\H'=upd H a (.dK (putK kvs k v))) \/
 ∃ kvs k b,H a=some (.dT kvs)/\y = .ref b/\H b=some (.tup (k.map kV))/\kvs.length<sizeLine/\H'=upd H a (.dT (putK kvs k v))
theorem DGet.t{H:Hp}{a b:Addr}{kvs:List (List Key×V)}{k:List Key}(e:H a=some (.dT kvs))(eb:H b=some (.tup (k.map kV))):DGet H a (.ref b) (valV kvs k):=.inr ⟨kvs,k,b,.inl e,rfl,eb,rfl⟩
theorem DPut.t{H:Hp}{a b:Addr}{kvs:List (List Key×V)}{k:List Key}{v:V}(e:H a=some (.dT kvs))(eb:H b=some (.tup (k.map kV)))(hl:kvs.length<sizeLine) :
  DPut H a (.ref b) v (upd H a (.dT (putK kvs k v))):=.inr ⟨kvs,k,b,e,rfl,eb,hl,rfl⟩
section
variable{X:Cx}{pins:List (Addr×Obj)}{σ:St}{H:Hp}{s:Shared}{a:Addr}{y v:V}{u r:Value}{o:Option V}{A:Around}{E:Value->Shared->Prop}
theorem Inv.big(I:Inv X pins σ H s):sysModules<s.heap.objs.size:=by
 have h:mainGlobals<s.heap.objs.size:=(I.mod.glob.keeps I.bk).lt
 exact Nat.lt_trans (by decide) h
theorem d_getItem{Q:Value->Shared->Prop}(hu:A.units+1<cLine)(I:Inv X pins σ H s)(g:DGet H a y (some v))(ry:RelV y u)(h:∀ w' s',Inv X pins σ H s'->RelV v w'->Q w' s') :
  wpAny (model X.prog X.w) A (getItem (.ref a) u) Q E s:=by
 rcases g with⟨kvs,k,e,ey,l⟩ |⟨kvs,k,b,e,ey,eb,l⟩
 ·subst ey
  obtain⟨z,hd,vs,rel,dd⟩:=dk_rd I.hok e
  obtain⟨w',hw,rw'⟩:=RelO.some_of (v:=v) (o:=valueAt vs k) (by rw[l];exact rel.val k)
  exact wpAny_getItem_of (kV_is ry) dd.mapOf hw (h w' _ (I.tok _) rw')
 ·subst ey
  cases(show u=Value.ref b from ry)
  obtain⟨z,hd,xs,rel,dd⟩:=dt_rd I.hok e
  obtain⟨w',hw,rw'⟩:=RelO.some_of (v:=v) (o:=(atKey xs k).map (·.2)) (by rw[l];exact rel.val k)
  obtain⟨p,hp,hp2⟩:=zCM.mp hw
  refine wpAny_getItem_heap (tupleKind_room_in1 hu) (key_of I.hok eb) dd hp ?_
  rw[hp2]
  exact h w' _ (I.tok _) rw'
theorem d_write{h':Heap}{t':Nat}{ob:HO}(I:Inv X pins σ H s)(mu:Mut (H a))(hs:Heap.SameBut a s.heap h')(he:∃ q,h'.get? a=some q)(new:ObjOk X.prog X.w (upd H a ob) h' a ob) :
  Inv X pins σ (upd H a ob) { s with heap:=h',toks:=t' } :=
 I.write (x:=a) (e:=a) mu (.inl rfl) (fun b q hb z=>(hs.2 b hb).trans z) he new
theorem dk_new{P:Program}{w:World}{H':Hp}{h':Heap}{kvs:List (Key×V)}{vs:List (Key×Value)}(z:kvs.length<=sizeLine)(hd:(a == sysModules)=false)(rel:KV kvs vs)(dd:h'.DictOf (mixKind P w) a vs) :
  ObjOk P w H' h' a (.dK kvs):=⟨z,hd,vs,rel,dd⟩
theorem d_setItem{H':Hp}{Q:Unit->Shared->Prop}(hu:A.units+1<cLine)(I:Inv X pins σ H s)(g:DPut H a y v H')(ry:RelV y u)(rv:RelV v r)(h:∀ s',Inv X pins σ H' s'->Q () s') :
  wpAny (model X.prog X.w) A (setItem (.ref a) u r) Q E s:=by
 rcases g with⟨kvs,k,e,ey,l,eH⟩ |⟨kvs,k,b,e,ey,eb,l,eH⟩
 ·subst ey eH
  obtain⟨z,hd,vs,rel,dd⟩:=dk_of I.hok e
  have hz:vs.length<=sizeLine:=by rw[<- rel.length];exact z
  have hl:(putK kvs k v).length<=sizeLine:=by have:=length_putK kvs k v;lia
  refine wpAny_setItem_pairs (hsz:=hz) (kV_is ry) dd fun h' dd' hs=>h _ ?_
  have he:∃ q,h'.get? a=some q:=let ⟨q,_,_,hq,_⟩:=dd';⟨q,hq⟩
  exact d_write I (by rw[e];exact True.intro) hs he (dk_new hl hd (rel.put k rv) dd')
 ·subst ey eH
  cases(show u=Value.ref b from ry)
  obtain⟨z,hd,xs,rel,dd⟩:=dt_of I.hok e
  have hz:xs.length<=sizeLine:=by rw[<- Paired.length rel];exact z
  have hl:(putK kvs k v).length<=sizeLine:=by have:=length_putK kvs k v;lia
  refine wpAny_setItem_heap (hsz:=hz) (tupleKind_room_in1 hu) (key_of I.hok eb) dd fun h' dd' hs=>h _ ?_
  obtain⟨q,es,ep,hq,h2,h3,h4,_,h5⟩:=dd'
  refine d_write I (by rw[e];exact True.intro) hs ⟨q,hq⟩ ⟨hl,hd,_,(rel.put k eb rv).keeps fun c ys ec=>?_,q,es,ep,hq,h2,h3,h4,h5⟩
  rw[upd_ne (ne_of ec e (fun z=>nomatch z))]
  exact ec
end
noncomputable def NoSl(i:Expr):Prop:=∀ ov iv,subscripted i false ov iv=operate [ov,iv] (getItem ov iv)
theorem subD_of{prog:Program}{w:World}{A:Around}{E:Value->Shared->Prop}{s:Shared}{env:Env}{value slice:Expr}{pos:Pos}{T id:String}{Q:Value->Shared->Prop}
  (hl:typeLookup (.type T) "__getitem__" = pure (some (.builtin id))) (hs:NoSl slice)
  (h:wpAny (model prog w) A (eval value env) (fun o s₁=>wpAny (model prog w) A (eval slice env) (fun i s₂=>s₂.TypeIs o T/\wpAny (model prog w) A (getItem o i) Q E s₂) E s₁) E s) :
  wpAny (model prog w) A (eval (.Subscript value slice pos) env) Q E s:=by
 refine Subscript_ (wpAny_mono h (fun o s₁ h₁=>wpAny_mono h₁ (fun i s₂ h₂=>?_) fun _ _ x=>x) fun _ _ x=>x)
 obtain⟨hT,h₂⟩:=h₂
 unfold subscriptTail
 refine zA ?_
 rw[getitemInPython_of_ne hT.not_modules]
 refine zA (wpAny_specialOf hT hl ?_)
 have fin:wpAny (model prog w) A (subscripted slice false o i) (fun r s₃=>wpAny (model prog w) A (letTemporaryGo value o r >>= fun _=>pure r) Q E s₃) E s₂:=by
  rw[hs o i]
  exact wpAny_operating (wpAny_mono h₂ (fun r s₃ h₃=>zA (wpAny_letTemporaryGo (zE h₃))) fun _ _ x=>x)
 first
  |exact zE (zA fin)
  |exact zA (zE (zA fin))
  |exact zA fin
theorem dict_typeIs{X:Cx}{pins:List (Addr×Obj)}{σ:St}{H:Hp}{s:Shared}{a:Addr}{y:V}{o:Option V}(I:Inv X pins σ H s)(g:DGet H a y o):s.TypeIs (.ref a) "dict":=by
 rcases g with⟨kvs,k,e,_,_⟩ |⟨kvs,k,b,e,_,_,_⟩
 ·obtain⟨_,_,vs,_,dd⟩:=dk_rd I.hok e
  exact dd.typeIs
 ·obtain⟨_,_,xs,_,dd⟩:=dt_rd I.hok e
  exact dd.typeIs
noncomputable def tDGet(td ty:TE):TE:=fun σ H Q=>td σ H fun x H1=>ty σ H1 fun y H2=>∃ a v,x = .ref a/\DGet H2 a y (some v)/\Q v H2
noncomputable def sDPut(td ty tv:TE):TS:=fun D σ H=>tv σ H fun v H1=>td σ H1 fun x H2=>ty σ H2 fun y H3=>∃ a H4,x = .ref a/\DPut H3 a y v H4/\D.nx σ H4
section
variable{X:Cx}{o i e value:Expr}{pos pos' tpos:Pos}{td ty tv:TE}
theorem pe_dget(hu:X.A.units+1<cLine)(ho:PE X o td)(hi:PE X i ty)(hs:NoSl i):PE X (.Subscript o i pos) (tDGet td ty):=by
 intro pins s σ H Q I h
 refine subD_of PySem.F.slot_dict_getitem.lookup hs (thn (ho pins s σ H _ I h) fun u s1 ⟨x,H1,I1,rx,q1⟩=>thn (hi pins s1 σ H1 _ I1 q1) fun iv s2 ⟨y,H2,I2,ry,a,v,ex,g,q2⟩=>?_)
 subst ex
 obtain rfl:u=Value.ref a:=rx
 exact⟨dict_typeIs I2 g,d_getItem hu I2 g ry fun w' s3 I3 rw'=>⟨v,H2,I3,rw',q2⟩⟩
theorem ps_dput(hu:X.A.units+1<cLine)(ho:PE X o td)(hi:PE X i ty)(hv:PE X value tv)(hs:swapsWith value (some (.Subscript o i pos')) pos.line X.env=pure false) :
  PS X (.Assign [.Subscript o i pos'] value pos) (sDPut td ty tv):=by
 intro pins s σ H D I h
 refine wpAny_Assign_Subscript (thn (hv pins s σ H _ I h) fun r s1 ⟨v,H1,I1,rv,q1⟩=>thn (ho pins s1 σ H1 _ I1 q1) fun u s2 ⟨x,H2,I2,rx,q2⟩=>thn (hi pins s2 σ H2 _ I2 q2) fun iv s3 ⟨y,H3,I3,ry,a,H4,ex,g,q3⟩=>?_) hs
 subst ex
 obtain rfl:u=Value.ref a:=rx
 exact d_setItem hu I3 g ry rv fun s4 I4=>⟨σ,H4,I4,q3⟩
end
theorem dt_empty{P:Program}{w:World}{H:Hp}(h:Heap)(hb:sysModules<h.objs.size):ObjOk P w H (h.push { cls:=.type "dict",data:=.dict #[] }) h.objs.size (.dT []) :=
 ⟨zAO _,beq_eq_false_iff_ne.mpr (Ne.symm (zAC hb)),[],.nil,_,#[],0,zU _ rfl,⟨rfl,rfl,rfl⟩,rfl,rfl,List.nodup_nil⟩
noncomputable def tDNewT:TE:=fun _ H Q=>∀ p,H p=none->Q (.ref p) (upd H p (.dT []))
section
variable{X:Cx}{pos:Pos}
theorem pe_dnewT:PE X (.Dict [] [] pos) tDNewT:=fun pins s σ H Q I h =>
 wpAny_Dict_empty ⟨.ref s.heap.objs.size,_,I.laid (a:=s.heap.objs.size) (o:=.dT []) (t':=s.toks) (fun _ _ q=>zD _ q) (zH _) (dt_empty s.heap I.big),rfl,h _ (I.hok.fresh (zH _))⟩
end
end L2
namespace HT
open PySem PyProof.Rows
noncomputable def lexLt:List Int->List Int->Bool
 |[],[]=>false
 |[],_ :: _=>true
 | _ :: _,[]=>false
 |x :: xs,y :: ys=>if x=y then lexLt xs ys else decide (x<y)
theorem lexLt_cons(x y:Int)(xs ys:List Int):lexLt (x :: xs) (y :: ys)=if x=y then lexLt xs ys else decide (x<y):=rfl
theorem lexLt_nil_nil:lexLt [] []=false:=rfl
theorem lexLt_nil_cons(y:Int)(ys:List Int):lexLt [] (y :: ys)=true:=rfl
theorem lexLt_cons_nil(x:Int)(xs:List Int):lexLt (x :: xs) []=false:=rfl
theorem eqAt_int(A:Around)(s:Shared)(a:Int)(t:Tok)(c:Int)(u:Tok):∃ e,SeqAt.EqAt A s (.int a t) (.int c u) e/\(e=true↔a=c) :=
 ⟨(a == c),SeqAt.EqAt.int_int a t c u,by simp⟩
theorem rcLt_int(A:Around)(s:Shared)(a:Int)(t:Tok)(c:Int)(u:Tok)(prog:Program)(w:World)(E:Value->Shared->Prop)(Q:Value->Shared->Prop)(h:Q (.bool (decide (a<c))) s) :
  wpAny (model prog w) A (richCompare .Lt (.int a t) (.int c u)) Q E s :=
 (PyProof.Rows.lt_int h:wpAny (model prog w) A (compareOp .Lt (.int a t) (.int c u)) Q E s)
section
open PySem.SeqAt
open PySem.AutoSeq1 (wpAny_loadPart')
open PySem.MeetsSeq PySem.MeetsSeq2 PySem.MeetsSeq3
theorem tuple_lt_ints(l b:Addr)(items items2:Array Value)(n n2:Nat)(dd dd2:Option Addr)(sl sl2:Array (Option Value))(ns ms:List Int)(hi:IntsAre items.toList ns)(hj:IntsAre items2.toList ms) :
  Meets (Builtin.«tuple.__lt__» ⟨[.ref l,.ref b],[]⟩)
   (fun _ R s=>s.heap.get? l=some { cls:=.type "tuple",dict:=dd,data:=.seq items n,slots:=sl }/\s.heap.get? b=some { cls:=.type "tuple",dict:=dd2,data:=.seq items2 n2,slots:=sl2 } /\
    R (.ok (.ret (.bool (lexLt ns ms)))) s) :=
 .of_wp fun prog w A R s h=>by
  obtain⟨hp,g,d,tk,os⟩:=s;obtain⟨hl,hb,h⟩:=h
  have f2:=AutoSeq1.sub_tuple_tuple
  have z1:items.size=ns.length:=by rw[<- hi.length];simp
  have z2:items2.size=ms.length:=by rw[<- hj.length];simp
  wp_walk using wpAny_loadPart' hl,wpAny_loadPart' hb,wpAny_forIn_list _ (fun rest b s'=>b.1=none/\s'=⟨hp,g,d,tk,os⟩/\∃ (vs ws:List Value) (ns' ms':List Int),rest=vs.zip ws /\
   IntsAre vs ns'/\IntsAre ws ms'/\ns'.length+items2.size=ms'.length+items.size/\R (.ok (.ret (.bool (lexLt ns' ms')))) ⟨hp,g,d,tk,os⟩) _
  case turn =>
   rintro⟨y,x⟩ rest b s' ⟨hb',rfl,vs,ws,ns',ms',hz,hvi,hwi,hlen,hR⟩
   cases hvi with
   |nil=>rw[List.zip_nil_left]at hz;cases hz
   |cons a t hvi' =>
    cases hwi with
    |nil=>rw[List.zip_nil_right]at hz;cases hz
    |cons c u hwi' =>
     rw[List.zip_cons_cons]at hz
     injection hz with hyx hrest
     injection hyx with hy hx
     subst hy hx
     rw[lexLt_cons]at hR
     simp only[zV]at hlen
     obtain⟨e,he,hiff⟩:=eqAt_int A.in1 ⟨hp,g,d,tk,os⟩ a t c u
     refine zA (he prog w _ _ ?_)
     cases e with
     |true =>
      rw[if_pos (hiff.mp rfl)]at hR
      wp_walk
      exact⟨rfl,rfl,_,_,_,_,hrest,hvi',hwi',by lia,hR⟩
     |false =>
      rw[if_neg (fun q=>absurd (hiff.mpr q) zJ)]at hR
      have hri:=rcLt_int A.in1 ⟨hp,g,d,tk,os⟩ a t c u prog w
      wp_walk using hri
      exact⟨_,rfl,by simpa using hR⟩
  case fin =>
   rintro⟨b1,b2⟩ s' ⟨hb',rfl,vs,ws,ns',ms',hz,hvi,hwi,hlen,hR⟩
   simp only at hb'
   subst hb'
   have hv:lexLt ns' ms'=decide (items.size<items2.size):=by
    cases hvi with
    |nil =>
     cases hwi with
     |nil =>
      simp only[zBL]at hlen
      rw[lexLt_nil_nil]
      exact(decide_eq_false (by lia)).symm
     |cons c u hw =>
      simp only[zBL,zV]at hlen
      rw[lexLt_nil_cons]
      exact(decide_eq_true (by lia)).symm
    |cons a t hv =>
     cases hwi with
     |nil =>
      simp only[zBL,zV]at hlen
      rw[lexLt_cons_nil]
      exact(decide_eq_false (by lia)).symm
     |cons c u hw =>
      rw[List.zip_cons_cons]at hz
      cases hz
   rw[hv]at hR
   wp_walk
   exact⟨_,rfl,by simpa[Builtin.Tuple.tupleCompareSizes]using hR⟩
  case h =>
   exact⟨rfl,rfl,items.toList,items2.toList,ns,ms,rfl,hi,hj,by lia,h⟩
end
section
variable{prog:Program}{w:World}{A:Around}{E:Value->Shared->Prop}{s:Shared}
theorem lt_tupInts{l b:Addr}{items items2:Array Value}{ns ms:List Int}{Q:Value->Shared->Prop}(hl:IsTup s.heap l items)(hb:IsTup s.heap b items2)(hi:IntsAre items.toList ns)(hj:IntsAre items2.toList ms)
  (hu:A.units<cLine) (h:Q (.bool (lexLt ns ms)) s):wpAny (model prog w) A (compareOp .Lt (.ref l) (.ref b)) Q E s:=by
 obtain⟨⟨cls,dd,data,sl⟩,ho,hc,n,hd⟩:=id hl
 obtain⟨⟨cls2,dd2,data2,sl2⟩,ho2,hc2,n2,hd2⟩:=id hb
 simp only at hc hd hc2 hd2
 subst hc hd hc2 hd2
 exact richCompare_meets_room (op:=.Lt) ⟨_,ho,rfl⟩ ⟨_,ho2,rfl⟩ PySem.F.slot_tuple_lt PySem.F.entry_tuple_lt (PySem.F.args_tuple_lt_2 _ _) (tuple_lt_ints l b items items2 n n2 dd dd2 sl sl2 ns ms hi hj)
  ⟨ho,ho2,show Value.bool (lexLt ns ms)≠Value.notImplemented/\Q (.bool (lexLt ns ms)) s from⟨(fun x=>nomatch x),h⟩⟩ hu
theorem cat_tup{t b:Addr}{vs ws:List Value}{Q:Value->Shared->Prop}(ht:IsTup s.heap t vs.toArray)(hb:IsTup s.heap b ws.toArray)(hv:vs≠[])
  (h1:ws=[]->Q (.ref t) s) (h2:ws≠[]->Q (.ref s.heap.objs.size) { s with heap:=s.heap.push { cls:=.type "tuple",data:=.seq (vs++ws).toArray } })
  (hsz:vs.length+ws.length<=sizeLine):wpAny (model prog w) A (binaryOp .Add (.ref t) (.ref b)) Q E s:=by
 obtain⟨⟨cls,dd,data,sl⟩,ho,hc,n,hd⟩:=id ht
 obtain⟨⟨cls2,dd2,data2,sl2⟩,ho2,hc2,n2,hd2⟩:=id hb
 simp only at hc hd hc2 hd2
 subst hc hd hc2 hd2
 have e:vs.toArray++ws.toArray=(vs++ws).toArray:=by simp
 by_cases hw:ws=[]
 ·exact concat_meets ⟨_,ho,rfl⟩ ⟨_,ho2,rfl⟩ noFill_tuple_add seq_tuple_add PySem.F.slot_tuple_add PySem.F.entry_tuple_add (PySem.F.args_tuple_add_2 _ _)
   (tuple_addW1 t b vs.toArray ws.toArray n n2 dd dd2 sl sl2 (by simpa using hv) (by simp[hw])) ⟨ho,ho2,h1 hw⟩
 ·refine concat_meets ⟨_,ho,rfl⟩ ⟨_,ho2,rfl⟩ noFill_tuple_add seq_tuple_add PySem.F.slot_tuple_add PySem.F.entry_tuple_add (PySem.F.args_tuple_add_2 _ _)
   (tuple_addW2 t b vs.toArray ws.toArray n n2 dd dd2 sl sl2 (by simpa using hv) (by simpa using hw) (by rw[zQ,zQ];exact hsz)) ⟨ho,ho2,?_⟩
  rw[e]
  exact h2 hw
noncomputable def sIx(n d:Nat):Option Int->Nat
 |none=>d
 |some v=>if v<0 then(v+(n:Int)).toNat else min v.toNat n
theorem sIx_none(n d:Nat):sIx n d none=d:=rfl
theorem sIx_nat(n d k:Nat):sIx n d (some (k:Int))=min k n:=by
 show(if(k:Int)<0 then((k:Int)+(n:Int)).toNat else min (k:Int).toNat n)=min k n
 rw[if_neg (by lia),zCF]
theorem sIx_le(n d:Nat)(hd:d<=n)(o:Option Int):sIx n d o<=n:=by
 cases o with
 |none=>exact hd
 |some v =>
  show(if v<0 then(v+(n:Int)).toNat else min v.toNat n)<=n
  by_cases hv:v<0
  ·rw[if_pos hv];lia
  ·rw[if_neg hv];exact Nat.min_le_right _ _
theorem clip_eq(v:Int)(n d:Nat):(if v<0 then max (v+(n:Int)) 0 else min v (n:Int))=((sIx n d (some v):Nat):Int):=by
 show(if v<0 then max (v+(n:Int)) 0 else min v (n:Int))=(((if v<0 then(v+(n:Int)).toNat else min v.toNat n):Nat):Int)
 by_cases hv:v<0
 ·simp only[if_pos hv];lia
 ·simp only[if_neg hv];lia
theorem adjust_gen(lo hi:Option Int)(n:Nat):Builtin.Slice.sliceAdjust lo hi 1 (n:Int)=(((sIx n 0 lo:Nat):Int),((sIx n n hi:Nat):Int)):=by
 have h1:¬((1:Int)<0):=by lia
 unfold Builtin.Slice.sliceAdjust
 simp only[h1,if_false]
 refine Prod.ext ?_ ?_
 ·cases lo with
  |none=>rfl
  |some v=>exact clip_eq v n 0
 ·cases hi with
  |none=>rfl
  |some v=>exact clip_eq v n n
theorem places_gen(i j:Nat):Builtin.Slice.slicePlaces (i:Int) (j:Int) 1=j-i:=by
 unfold Builtin.Slice.slicePlaces
 have h1:(1:Int) > 0:=by lia
 simp only[h1,if_true,Int.ediv_one]
 split <;> lia
theorem slicePart_{v:Value}{o:Option Int}{Q:Option Int->Shared->Prop}(p:IsPart v o)(h:Q o s):wpAny (model prog w) A (Builtin.Slice.slicePartIndex v) Q E s:=by
 cases p with
 |none=>exact slicePart_none h
 |int i t=>exact slicePart_int h
theorem sliceApplied_gen{sl:Addr}{vl vu:Value}{lo hi:Option Int}{n:Nat}{Q:Int×Int×Nat->Shared->Prop}(hs:s.heap.IsSliceOf sl vl vu .none)(pl:IsPart vl lo)(pu:IsPart vu hi)
  (h:Q (((sIx n 0 lo:Nat):Int),1,sIx n n hi-sIx n 0 lo) s):wpAny (model prog w) A (Builtin.Slice.sliceApplied (.ref sl) (pure (n:Int))) Q E s:=by
 obtain⟨os,hos,hcs,hds⟩:=id hs
 unfold Builtin.Slice.sliceApplied Builtin.Slice.sliceFields
 refine zA (zA (wpAny_field hos hds (x:=vl) rfl (zA (wpAny_field hos hds (x:=vu) rfl (zA (wpAny_field hos hds (x:=.none) rfl (zE ?_)))))))
 refine zA (slicePart_none ?_)
 show wpAny _ _ (if((1:Int) == 0)=true then _ else _) _ _ s
 rw[if_neg (by decide)]
 refine zA (slicePart_ pl (zA (slicePart_ pu (zA (zE ?_)))))
 show wpAny _ _ (match Builtin.Slice.sliceAdjust lo hi 1 (n:Int)with |(lo,hi)=>pure (lo,(1:Int),Builtin.Slice.slicePlaces lo hi 1)) _ _ s
 rw[adjust_gen lo hi n]
 show wpAny _ _ (pure (((sIx n 0 lo:Nat):Int),(1:Int),Builtin.Slice.slicePlaces ((sIx n 0 lo:Nat):Int) ((sIx n n hi:Nat):Int) 1)) _ _ s
 rw[places_gen]
 exact zE h
theorem pick_gen(xs:Array Value)(i k:Nat):((List.range k).filterMap fun(m:Nat)=>xs[((i:Int)+(m:Int) * 1).toNat]?).toArray=((xs.toList.drop i).take k).toArray:=by
 have e:(fun(m:Nat)=>xs[((i:Int)+(m:Int) * 1).toNat]?)=fun m=>xs[i+m]?:=by
  funext m
  have:((i:Int)+(m:Int) * 1).toNat=i+m:=by lia
  rw[this]
 rw[e]
 have:=pick_run xs i k
 rw[List.filterMap_map]at this
 have e2:((fun x=>xs[x]?) ∘ fun x=>i+x)=fun m=>xs[i+m]?:=rfl
 rw[e2]at this
 rw[this]
theorem getItem_tuple_cut{t sl:Addr}{items:Array Value}{vl vu:Value}{lo hi:Option Int}{Q:Value->Shared->Prop}(ht:IsTup s.heap t items)(hs:s.heap.IsSliceOf sl vl vu .none)(pl:IsPart vl lo)(pu:IsPart vu hi)
  (hw:¬(sIx items.size 0 lo=0/\sIx items.size items.size hi=items.size))
  (h:Q (.ref s.heap.objs.size) { s with heap:=s.heap.push { cls:=.type "tuple",data:=.seq ((items.toList.drop (sIx items.size 0 lo)).take (sIx items.size items.size hi-sIx items.size 0 lo)).toArray } })
  (hsz:items.size<=sizeLine):wpAny (model prog w) A (getItem (.ref t) (.ref sl)) Q E s:=by
 have htake:sizeOk (.seq ((items.toList.drop (sIx items.size 0 lo)).take (sIx items.size items.size hi-sIx items.size 0 lo)).toArray):=by
  show((items.toList.drop (sIx items.size 0 lo)).take (sIx items.size items.size hi-sIx items.size 0 lo)).toArray.size<=sizeLine
  rw[zQ,zAD,zAN,zO]
  omega
 have hj:sIx items.size items.size hi<=items.size:=sIx_le _ _ (zH _) hi
 obtain⟨os,hos,hcs,hds⟩:=id hs
 have hTs:s.TypeIs (.ref sl) "slice":=⟨os,hos,hcs⟩
 unfold getItem
 try with_reducible refine wpAny_holding ?_
 first | refine zA (zE ?_) | skip
 refine zA (wpAny_sequenceKey ht.typeIs (by decide) ?_)
 refine zA (wpAny_callSpecial?_slot (name:=Str.ofString "__getitem__") ht.typeIs PyProof.Rows.slot_tuple_getitem
  (wpAny_call_entry PyProof.Rows.slot_tuple_getitem ht.typeIs entry_tuple_getitem ?_ (args_tuple_getitem _ _)))
 show wpAny _ _ (Builtin.Tuple.tupleItemsOf (.ref t) >>= _) _ _ s
 refine zA (tupleItemsOf_ ht ?_)
 refine zA (wpAny_typeOf hTs ?_)
 rw[if_pos (by decide)]
 refine zA (sliceApplied_gen hs pl pu ?_)
 have hno:¬((((sIx items.size 0 lo:Nat):Int) == 0 && (1:Int) == 1 && (sIx items.size items.size hi-sIx items.size 0 lo) == items.size)=true):=by
  intro q
  rw[zBJ,zBJ]at q
  have q1:((sIx items.size 0 lo:Nat):Int)=0:=eq_of_beq q.1.1
  have q2:sIx items.size items.size hi-sIx items.size 0 lo=items.size:=eq_of_beq q.2
  exact hw ⟨by lia,by omega⟩
 show wpAny _ _ (if(((sIx items.size 0 lo:Nat):Int) == 0 && (1:Int) == 1 && (sIx items.size items.size hi-sIx items.size 0 lo) == items.size)=true then _ else _) _ _ s
 rw[if_neg hno,pick_gen]
 first
  |exact zA (m:=Builtin.Tuple.tupleExact _) (wpAny_newObj_type (zE ⟨_,rfl,zE h⟩) htake)
  |exact zA (m:=Builtin.Tuple.tupleExact _) (wpAny_newObj_type (zA (zE (zE ⟨_,rfl,zE h⟩))) htake)
  |exact zA (zA (m:=Builtin.Tuple.tupleExact _) (wpAny_newObj_type (zE (zE ⟨_,rfl,zE h⟩)) htake))
  |exact zA (zA (m:=Builtin.Tuple.tupleExact _) (wpAny_newObj_type (zE ⟨_,rfl,zE h⟩) htake))
end
end HT
namespace L2
open PySem PySem.Spec PyProof.Rows
noncomputable abbrev TO:=St->Hp->(Option Int->Hp->Prop)->Prop
noncomputable def PO(X:Cx)(e:Option Expr)(t:TO):Prop :=
 ∀ (pins:List (Addr×Obj)) (s:Shared) (σ:St) (H:Hp) (Q:Option Int->Hp->Prop),Inv X pins σ H s->t σ H Q ->
  wpAny (model X.prog X.w) X.A (evalPart e X.env) (fun u s'=>∃ o H',Inv X pins σ H' s'/\IsPart u o/\Q o H') X.xe s
noncomputable def tNoPart:TO:=fun _ H Q=>Q none H
noncomputable def tPart(t:TE):TO:=fun σ H Q=>t σ H fun x H1=>∃ i,x = .int i/\Q (some i) H1
theorem intsAre_of{ns:List Int}:∀ {us:List Value},Vals (ns.map V.int) us->IntsAre us ns:=by
 induction ns with
 |nil=>intro us r;rw[List.map_nil]at r;cases r;exact .nil
 |cons n ns ih =>
  intro us r
  rw[zAS]at r
  cases r with
  |cons r1 r2 =>
   obtain⟨t,e⟩:=r1
   subst e
   exact .cons n t (ih r2)
section
variable{X:Cx}{e:Expr}{te:TE}{lo hi:Option Expr}{tl th:TO}{pos p2:Pos}
theorem po_none:PO X none tNoPart:=by
 intro pins s σ H Q I h
 rw[evalPart_none]
 exact zE ⟨none,H,I,.none,h⟩
theorem po_some(h:PE X e te):PO X (some e) (tPart te):=by
 intro pins s σ H Q I hw
 rw[evalPart_some]
 refine thn (h pins s σ H _ I hw) fun u s1 ⟨x,H1,I1,r1,q1⟩=>?_
 obtain⟨i,rfl,q⟩:=q1
 obtain⟨t,rfl⟩:=r1
 exact⟨some i,H1,I1,.int i t,q⟩
noncomputable def SlR(X:Cx)(r:V->Option Int->Option Int->Hp->VK->Prop):Prop :=
 ∀ (pins:List (Addr×Obj)) (s:Shared) (σ:St) (H:Hp) (x:V) (v vl vu:Value) (lo hi:Option Int) (sl:Addr) (Q:VK),Inv X pins σ H s->RelV x v->s.heap.IsSliceOf sl vl vu .none->IsPart vl lo->IsPart vu hi->r x lo hi H Q ->
  ∃ T id,typeLookup (.type T) "__getitem__" = pure (some (.builtin id))/\s.TypeIs v T/\wpAny (model X.prog X.w) X.A (getItem v (.ref sl)) (EP X pins σ Q) X.xe s
noncomputable def tSl(r:V->Option Int->Option Int->Hp->VK->Prop)(te:TE)(tl th:TO):TE:=fun σ H Q=>te σ H fun x H1=>tl σ H1 fun l H2=>th σ H2 fun u H3=>r x l u H3 Q
theorem pe_slice{r:V->Option Int->Option Int->Hp->VK->Prop}(hr:SlR X r)(he:PE X e te)(hl:PO X lo tl)(hu:PO X hi th):PE X (.Subscript e (.Slice lo hi none p2) pos) (tSl r te tl th):=by
 intro pins s σ H Q I h
 refine Subscript_ (thn (he pins s σ H _ I h) fun v s1 ⟨x,H1,I1,r1,q1⟩=>?_)
 refine wpAny_Slice (thn (hl pins s1 σ H1 _ I1 q1) fun vl s2 ⟨l,H2,I2,pl,q2⟩=>thn (hu pins s2 σ H2 _ I2 q2) fun vu s3 ⟨u,H3,I3,pu,q3⟩=>?_)
 rw[evalPart_none]
 refine zE ?_
 have I4:Inv X pins σ H3 { s3 with heap:=s3.heap.push { cls:=.type "slice",data:=.fields #[vl,vu,.none] } }:=I3.kept (t':=s3.toks) fun b ob q=>zD _ q
 obtain⟨T,id,hT,ht,hg⟩:=hr pins { s3 with heap:=s3.heap.push { cls:=.type "slice",data:=.fields #[vl,vu,.none] } } σ H3 x v vl vu l u s3.heap.objs.size Q I4 r1 (Heap.IsSliceOf.new ..) pl pu q3
 show wpAny (model X.prog X.w) X.A (subscriptTail e (.Slice lo hi none p2) v (.ref s3.heap.objs.size)) (EP X pins σ Q) X.xe { s3 with heap:=s3.heap.push { cls:=.type "slice",data:=.fields #[vl,vu,.none] } }
 exact tail_any (ops:=[.ref s3.heap.objs.size,v]) ht hT hg (by with_unfolding_all rfl)
noncomputable def cutV(xs:List V)(lo hi:Option Int):List V:=(xs.drop (HT.sIx xs.length 0 lo)).take (HT.sIx xs.length xs.length hi-HT.sIx xs.length 0 lo)
theorem cutV_length(xs:List V)(lo hi:Option Int):(cutV xs lo hi).length<=xs.length:=by
 unfold cutV
 rw[zAD,zAN]
 omega
inductive rSlTI(K:PySem.W.Frag)(x:V)(lo:Option Int)(hi:Option Int)(H:Hp)(Q:VK):Prop where
 |mk (a:_) (xs:_) (h1:x = .ref a) (h2:SqT K H a xs) (h3:¬(HT.sIx xs.length 0 lo=0/\HT.sIx xs.length xs.length hi=xs.length)) (h4:∀ p,H p=none->Q (.ref p) (upd H p (.tup (cutV xs lo hi))))
noncomputable def rSlT(K:PySem.W.Frag):V->Option Int->Option Int->Hp->VK->Prop:=fun x lo hi H Q=>rSlTI K x lo hi H Q
theorem sl_tup:SlR X (rSlT X.K):=by
 intro pins s σ H x v vl vu lo hi sl Q I rx hs pl pu h
 obtain⟨a,xs,rfl,hx,hw,q⟩:=h
 cases rx
 obtain⟨its,r,ht,hz⟩:=I.tuple hx
 have hlen:its.toArray.size=xs.length:=by rw[zQ];exact r.length.symm
 refine⟨"tuple",_,PyProof.Rows.slot_tuple_getitem.lookup,ht.typeIs,?_⟩
 refine HT.getItem_tuple_cut ht hs pl pu (by rw[hlen];exact hw) ?_ (by rw[hlen];exact hz)
 rw[hlen]
 refine⟨.ref s.heap.objs.size,_,I.laid (t':=s.toks) (o:=.tup (cutV xs lo hi)) (fun b ob q=>zD _ q) (zH _) ?_,rfl,q _ (I.hok.fresh (zH _))⟩
 exact⟨zC (cutV_length xs lo hi) hz,_,(r.drop (HT.sIx xs.length 0 lo)).take (HT.sIx xs.length xs.length hi-HT.sIx xs.length 0 lo),IsTup.new _ _⟩
inductive rLtTI(K:PySem.W.Frag)(x:V)(y:V)(H:Hp)(Q:VK):Prop where
 |mk (a:_) (b:_) (ns:_) (ms:_) (h1:x = .ref a) (h2:y = .ref b) (h3:SqT K H a (ns.map V.int)) (h4:SqT K H b (ms.map V.int)) (h5:Q (.bl (HT.lexLt ns ms)) H)
noncomputable def rLtT(K:PySem.W.Frag):R2:=fun x y H Q=>rLtTI K x y H Q
theorem op_ltT(hu:X.A.units<cLine):OpR X (compareOp .Lt) (rLtT X.K):=by
 intro pins s σ H x y v u Q I rx ry h
 obtain⟨a,b,ns,ms,rfl,rfl,ha,hb,q⟩:=h
 cases rx
 cases ry
 obtain⟨its,r1,p1,_⟩:=I.tuple ha
 obtain⟨its2,r2,p2,_⟩:=I.tuple hb
 have i1:IntsAre its.toArray.toList ns:=intsAre_of r1
 have i2:IntsAre its2.toArray.toList ms:=intsAre_of r2
 exact HT.lt_tupInts p1 p2 i1 i2 hu ⟨.bl (HT.lexLt ns ms),H,I,rfl,q⟩
noncomputable def rCatT(K:PySem.W.Frag):R2:=fun x y H Q=>∃ a b xs ys,x = .ref a/\y = .ref b/\SqT K H a xs/\SqT K H b ys/\xs≠[]/\xs.length+ys.length<=sizeLine /\
 (ys=[]->Q (.ref a) H)/\(ys≠[]->∀ p,H p=none->Q (.ref p) (upd H p (.tup (xs++ys))))
theorem Vals.nil_iff{xs:List V}{us:List Value}(r:Vals xs us):us=[]↔xs=[]:=by
 cases r with
 |nil=>simp
 |cons _ _=>simp
theorem op_catT:OpR X (binaryOp .Add) (rCatT X.K):=by
 intro pins s σ H x y v u Q I rx ry h
 obtain⟨a,b,xs,ys,rfl,rfl,ha,hb,hx,hz,q1,q2⟩:=h
 cases rx
 cases ry
 obtain⟨its,r1,p1,_⟩:=I.tuple ha
 obtain⟨its2,r2,p2,_⟩:=I.tuple hb
 refine HT.cat_tup p1 p2 (fun z=>hx (r1.nil_iff.mp z)) (fun z=>⟨.ref a,H,I,rfl,q1 (r2.nil_iff.mp z)⟩) (fun z=>?_) (by rw[<- r1.length,<- r2.length];exact hz)
 refine⟨.ref s.heap.objs.size,_,I.laid (t':=s.toks) (o:=.tup (xs++ys)) (fun b ob q=>zD _ q) (zH _) ?_,rfl,q2 (fun w=>z (r2.nil_iff.mpr w)) _ (I.hok.fresh (zH _))⟩
 exact⟨by rw[zY];exact hz,_,r1.append r2,IsTup.new _ _⟩
end
open PySem PySem.Spec PyProof.Rows
noncomputable def ixN(n:Nat)(i:Int):Option Nat:=if 0<=i then(if i<n then some i.toNat else none)else if -(n:Int)<=i then some (i+n).toNat else none
noncomputable def atI{α:Type}(xs:List α)(i:Int):Option α:=(ixN xs.length i).bind fun j=>xs[j]?
theorem ixN_seq{n:Nat}{i:Int}{j:Nat}(h:ixN n i=some j):seqIndex? i n=some j/\j<n/\-(n:Int)<=i/\i<n:=by
 unfold ixN at h
 by_cases h0:0<=i
 ·rw[if_pos h0]at h
  by_cases h1:i<n
  ·rw[if_pos h1]at h
   have e:i.toNat=j:=Option.some.inj h
   exact⟨by rw[seqIndex_of h0 h1,e],by omega,by lia,h1⟩
  ·rw[if_neg h1]at h;cases h
 ·rw[if_neg h0]at h
  by_cases h1:-(n:Int)<=i
  ·rw[if_pos h1]at h
   have e:(i+n).toNat=j:=Option.some.inj h
   exact⟨by rw[seqIndex_neg (by lia) h1,e],by lia,h1,by lia⟩
  ·rw[if_neg h1]at h;cases h
theorem atI_get{α:Type}{xs:List α}{i:Int}{v:α}(h:atI xs i=some v):∃ j,seqIndex? i xs.length=some j/\xs[j]?=some v/\j<xs.length/\-(xs.length:Int)<=i/\i<xs.length:=by
 unfold atI at h
 cases e:ixN xs.length i with
 |none=>rw[e]at h;cases h
 |some j =>
  rw[e]at h
  obtain⟨h1,h2,h3,h4⟩:=ixN_seq e
  exact⟨j,h1,h,h2,h3,h4⟩
theorem atI_nat{α:Type}{xs:List α}{j:Nat}{v:α}(h:xs[j]?=some v):atI xs (j:Int)=some v:=by
 have hj:j<xs.length:=(zZ.mp h).1
 have e:ixN xs.length (j:Int)=some j:=by
  unfold ixN
  rw[if_pos (by lia),if_pos (by lia)];simp
 unfold atI;rw[e];exact h
noncomputable def PlainIx(b:Expr):Prop:=∀ o i,subscripted b false o i=operate [o,i] (getItem o i)
noncomputable def IxR(X:Cx)(r:R2):Prop :=
 ∀ (value slice:Expr) (pins:List (Addr×Obj)) (s:Shared) (σ:St) (H:Hp) (x y:V) (v u:Value) (Q:VK),Inv X pins σ H s->RelV x v->RelV y u->r x y H Q ->
  subscripted slice false v u=operate [v,u] (getItem v u)->wpAny (model X.prog X.w) X.A (subscriptTail value slice v u) (EP X pins σ Q) X.xe s
noncomputable def MtR(X:Cx)(id:String)(r:V->List V->Hp->VK->Prop):Prop :=
 ∀ (pins:List (Addr×Obj)) (s:Shared) (σ:St) (H:Hp) (x:V) (xs:List V) (v:Value) (us:List Value) (Q:VK),Inv X pins σ H s->RelV x v->Vals xs us->r x xs H Q ->
  wpAny (model X.prog X.w) X.A (call (.builtin id) (v :: us)) (EP X pins σ Q) X.xe s
section
variable{X:Cx}{a b:Expr}{ta tb:TE}{pos:Pos}
theorem pe_ix{r:R2}(hr:IxR X r)(ha:PE X a ta)(hb:PE X b tb)(hs:PlainIx b):PE X (.Subscript a b pos) (tOp r ta tb):=by
 intro pins s σ H Q I h
 exact Subscript_ (binT ha hb I h fun v u s2 x y H2 I2 rx ry q=>hr a b pins s2 σ H2 x y v u Q I2 rx ry q (hs _ _))
inductive rIxLI(K:PySem.W.Frag)(x:V)(y:V)(H:Hp)(Q:VK):Prop where
 |mk (p:_) (xs:_) (i:_) (v:_) (h1:x = .ref p) (h2:y = .int i) (h3:SqL K H p xs) (h4:atI xs i=some v) (h5:Q v H)
noncomputable def rIxL(K:PySem.W.Frag):R2:=fun x y H Q=>rIxLI K x y H Q
inductive rIxTI(K:PySem.W.Frag)(x:V)(y:V)(H:Hp)(Q:VK):Prop where
 |mk (p:_) (xs:_) (i:_) (v:_) (h1:x = .ref p) (h2:y = .int i) (h3:SqT K H p xs) (h4:atI xs i=some v) (h5:Q v H)
noncomputable def rIxT(K:PySem.W.Frag):R2:=fun x y H Q=>rIxTI K x y H Q
inductive rIxSI(x:V)(y:V)(H:Hp)(Q:VK):Prop where
 |mk (z:_) (i:_) (c:_) (h1:x = .str z) (h2:y = .int i) (h3:z.length<=sizeLine) (h4:atI z.cps.toList i=some c) (h5:Q (.str ⟨#[c]⟩) H)
noncomputable def rIxS:R2:=fun x y H Q=>rIxSI x y H Q
theorem ix_list:IxR X (rIxL X.K):=by
 intro value slice pins s σ H x y v u Q I rx ry h hs
 obtain⟨p,xs,i,z,rfl,rfl,hq,he,q⟩:=h
 cases rx
 obtain⟨t,rfl⟩:=ry
 obtain⟨its,r,pl,hz⟩:=I.list hq
 obtain⟨j,h1,h2,h3,h4,h5⟩:=atI_get he
 obtain⟨w,ew,rw'⟩:=r.get h2
 have hl:=r.length
 have hn:=line63
 have fin:EP X pins σ Q w s:=⟨z,H,I,rw',q⟩
 by_cases h0:0<=i
 ·have hj:i.toNat=j:=by
   rw[seqIndex_of h0 h5]at h1
   exact Option.some.inj h1
  exact item_listR pl.isList h0 (by lia) (by rw[hj];simpa using ew) fin hs
 ·have hj:(i+(its.toArray.size:Int)).toNat=j:=by
   rw[seqIndex_neg (by lia) h4]at h1
   rw[zQ,<- hl]
   exact Option.some.inj h1
  exact subscriptTail_builtinR (x:=w) pl.isList.typeIs slot_list_getitem.lookup
   (wpAny_getItem_list_neg (Q:=fun r s'=>r=w/\EP X pins σ Q r s') pl.isList (by lia) (by rw[zQ] <;> lia) (by lia) (by rw[hj];simpa using ew) ⟨rfl,fin⟩) hs
theorem ix_tup:IxR X (rIxT X.K):=by
 intro value slice pins s σ H x y v u Q I rx ry h hs
 obtain⟨p,xs,i,z,rfl,rfl,hq,he,q⟩:=h
 cases rx
 obtain⟨t,rfl⟩:=ry
 obtain⟨its,r,pl,hz⟩:=I.tuple hq
 obtain⟨j,h1,h2,h3,h4,h5⟩:=atI_get he
 obtain⟨w,ew,rw'⟩:=r.get h2
 have hl:=r.length
 have hn:=line63
 have fin:EP X pins σ Q w s:=⟨z,H,I,rw',q⟩
 exact subscriptTail_builtinR (x:=w) pl.typeIs slot_tuple_getitem.lookup
  (getItem_tuple (j:=j) (Q:=fun r s'=>r=w/\EP X pins σ Q r s') pl (by lia) (by lia) (by rw[zQ,<- hl];exact h1) (by simpa using ew) ⟨rfl,fin⟩) hs
theorem ix_str:IxR X rIxS:=by
 intro value slice pins s σ H x y v u Q I rx ry h hs
 obtain⟨z,i,c,rfl,rfl,hz,he,q⟩:=h
 obtain⟨t,rfl⟩:=rx
 obtain⟨t',rfl⟩:=ry
 obtain⟨j,h1,h2,h3,h4,h5⟩:=atI_get he
 have hl:z.cps.toList.length=z.length:=by simp[Str.length]
 rw[hl]at h1 h4 h5
 have hn:=line63
 exact tail_any (typeIs_str s z t) slot_str_getitem.lookup (getItem_str (c:=c) (by
  have e1:decide (i < -(2 ^ 63:Int))=false:=decide_eq_false (by lia)
  have e2:decide (i >= 2 ^ 63)=false:=decide_eq_false (by lia)
  rw[e1,e2,Bool.or_false]) (by rw[h1];simpa using h2) ⟨.str ⟨#[c]⟩,H,I.tok _,⟨_,rfl⟩,q⟩) hs
theorem mapSeq_set(its:List Value)(n j:Nat)(u:Value):Obj.mapSeq (·.setIfInBounds j u) { cls:=.type "list",data:=.seq its.toArray n } = { cls:=.type "list",data:=.seq (its.set j u).toArray n }:=by
 simp[Obj.mapSeq]
theorem Inv.lst{pins:List (Addr×Obj)}{σ:St}{H:Hp}{s:Shared}{p:Addr}{xs:List V}(I:Inv X pins σ H s)(h:H p=some (.lst xs)) :
  ∃ (its:List Value) (n:Nat),Vals xs its/\s.heap.get? p=some { cls:=.type "list",data:=.seq its.toArray n }/\xs.length<=sizeLine:=by
 obtain⟨z,its,n,r,e⟩:=I.hok p _ h
 exact⟨its,n,r,e,z⟩
theorem Inv.lstUpd{pins:List (Addr×Obj)}{σ:St}{H:Hp}{s:Shared}{p:Addr}{xs ys:List V}{its its':List Value}{n n':Nat}{f:Obj->Obj}(I:Inv X pins σ H s)(h:H p=some (.lst xs))
  (ho:s.heap.get? p=some { cls:=.type "list",data:=.seq its.toArray n }) (hf:f { cls:=.type "list",data:=.seq its.toArray n } = { cls:=.type "list",data:=.seq its'.toArray n' }) (r:Vals ys its') (hz:ys.length<=sizeLine) (t:Nat) :
  Inv X pins σ (upd H p (.lst ys)) { s with heap:=s.heap.update p f,toks:=t }:=by
 have e:(s.heap.update p f).get? p=some { cls:=.type "list",data:=.seq its'.toArray n' }:=by
  rw[Heap.get?_update_self f ho (by rw[hf] <;> rfl),hf]
 refine I.write (x:=p) (e:=p) (by rw[h];trivial) (.inl rfl) (fun b u hb q=>(Heap.get?_update_other _ _ (Ne.symm hb)).trans q) ⟨_,e⟩ ?_
 exact⟨hz,its',n',r,e⟩
inductive rSetLI(o:V)(i:V)(v:V)(H:Hp)(Q:Hp->Prop):Prop where
 |mk (p:_) (xs:_) (k:_) (j:_) (h1:o = .ref p) (h2:i = .int k) (h3:H p=some (.lst xs)) (h4:ixN xs.length k=some j) (h5:Q (upd H p (.lst (xs.set j v))))
noncomputable def rSetL:V->V->V->Hp->(Hp->Prop)->Prop:=fun o i v H Q=>rSetLI o i v H Q
theorem set_list:PSet X rSetL:=by
 intro pins s σ H o i v ov iv u Q I ro ri rv h
 obtain⟨p,xs,k,j,rfl,rfl,hp,hj,q⟩:=h
 cases ro
 obtain⟨t,rfl⟩:=ri
 obtain⟨its,n,r,ho,hz⟩:=I.lst hp
 obtain⟨h1,h2,h3,h4⟩:=ixN_seq hj
 have hl:=r.length
 have hn:=line63
 have I':Inv X pins σ (upd H p (.lst (xs.set j v))) { s with heap:=s.heap.update p (Obj.mapSeq (·.setIfInBounds j u)) } :=
  I.lstUpd hp ho (mapSeq_set its n j u) (r.set rv j) (by rw[List.length_set];exact hz) s.toks
 by_cases h0:0<=k
 ·have hk:k.toNat=j:=by
   rw[seqIndex_of h0 h4]at h1
   exact Option.some.inj h1
  exact PySem.W.ki_setAt ho h0 (by lia) (by rw[zQ,<- hl];exact h4) (by rw[hk];exact⟨_,I',q⟩)
 ·have hk:(k+(its.toArray.size:Int)).toNat=j:=by
   rw[seqIndex_neg (by lia) h3]at h1
   rw[zQ,<- hl]
   exact Option.some.inj h1
  exact PySem.W.ki_setBack ho (by lia) (by rw[zQ,<- hl];exact h3) (by lia) (by rw[hk];exact⟨_,I',q⟩)
theorem slice_bounds(lo hi:Option Int)(n:Nat):(sliceBounds lo hi none n).1=((HT.sIx n 0 lo:Nat):Int)/\(sliceBounds lo hi none n).2.1=((HT.sIx n n hi:Nat):Int)/\(sliceBounds lo hi none n).2.2=1:=by
 refine⟨?_,?_,rfl⟩
 ·cases lo with
  |none=>simp[sliceBounds,HT.sIx]
  |some i =>
   simp only[sliceBounds,HT.sIx,Option.getD_none,show(1:Int) > 0 by decide,if_true]
   by_cases h:i<0
   ·simp only[h,if_true] <;> lia
   ·simp only[h,if_false] <;> lia
 ·cases hi with
  |none=>simp[sliceBounds,HT.sIx]
  |some i =>
   simp only[sliceBounds,HT.sIx,Option.getD_none,show(1:Int) > 0 by decide,if_true]
   by_cases h:i<0
   ·simp only[h,if_true] <;> lia
   ·simp only[h,if_false] <;> lia
theorem slicePick_cut(its:List Value)(lo hi:Option Int):slicePick its.toArray lo hi none=((its.drop (HT.sIx its.length 0 lo)).take (HT.sIx its.length its.length hi-HT.sIx its.length 0 lo)).toArray:=by
 obtain⟨h1,h2,h3⟩:=slice_bounds lo hi its.toArray.size
 unfold slicePick
 rw[h1,h2,h3]
 simp only[sliceRange_one,pick_run,zQ] <;> rfl
inductive rSlLI(K:PySem.W.Frag)(x:V)(lo:Option Int)(hi:Option Int)(H:Hp)(Q:VK):Prop where
 |mk (a:_) (xs:_) (h1:x = .ref a) (h2:SqL K H a xs) (h3:∀ p,H p=none->Q (.ref p) (upd H p (.lst (cutV xs lo hi))))
noncomputable def rSlL(K:PySem.W.Frag):V->Option Int->Option Int->Hp->VK->Prop:=fun x lo hi H Q=>rSlLI K x lo hi H Q
theorem sl_list:SlR X (rSlL X.K):=by
 intro pins s σ H x v vl vu lo hi sl Q I rx hs pl pu h
 obtain⟨a,xs,rfl,hx,q⟩:=h
 cases rx
 obtain⟨its,r,ht,hz⟩:=I.list hx
 have hlen:=r.length
 refine⟨"list",_,slot_list_getitem.lookup,ht.isList.typeIs,?_⟩
 refine wpAny_getItem_list_slice ht.isList hs pl pu .none (by simp) ?_ (by rw[zQ] <;> lia)
 rw[slicePick_cut,<- hlen]
 refine⟨.ref s.heap.objs.size,_,I.laid (t':=s.toks) (o:=.lst (cutV xs lo hi)) (fun b ob q=>zD _ q) (zH _) ?_,rfl,q _ (I.hok.fresh (zH _))⟩
 exact⟨zC (cutV_length xs lo hi) hz,_,0,(r.drop (HT.sIx xs.length 0 lo)).take (HT.sIx xs.length xs.length hi-HT.sIx xs.length 0 lo),zU _ rfl⟩
noncomputable def flatV:V->Bool
 | .non=>true
 | .bl _=>true
 | .int _=>true
 | .str _=>true
 | _=>false
noncomputable def eqV:V->V->Bool
 | .non,.non=>true
 | .bl a,.bl b=>a == b
 | .bl a,.int b=>(if a then 1 else 0) == b
 | .int a,.bl b=>a ==(if b then 1 else 0)
 | .int a,.int b=>a == b
 | .str a,.str b=>a == b
 | _,_=>false
theorem eqAt_V{A:Around}{s:Shared}{y x:V}{u v:Value}(ry:RelV y u)(rx:RelV x v)(fy:flatV y=true)(fx:flatV x=true):SeqAt.EqAt A s u v (eqV y x):=by
 cases y with
 |non =>
  cases ry
  cases x with
  |non=>cases rx;exact SeqAt.EqAt.same _
  |bl b=>cases rx;exact SeqAt.EqAt.none_bool b
  |int b=>obtain⟨t,rfl⟩:=rx;exact SeqAt.EqAt.none_int b t
  |str b=>obtain⟨t,rfl⟩:=rx;exact SeqAt.EqAt.none_str b t
  | _=>exact absurd (show false=true from fx) zJ
 |bl a =>
  cases ry
  cases x with
  |non=>cases rx;exact SeqAt.EqAt.bool_none a
  |bl b=>cases rx;exact SeqAt.EqAt.bool_bool a b
  |int b=>obtain⟨t,rfl⟩:=rx;exact SeqAt.EqAt.bool_int a b t
  |str b=>obtain⟨t,rfl⟩:=rx;exact SeqAt.EqAt.bool_str a b t
  | _=>exact absurd (show false=true from fx) zJ
 |int a =>
  obtain⟨t',rfl⟩:=ry
  cases x with
  |non=>cases rx;exact SeqAt.EqAt.int_none a t'
  |bl b=>cases rx;exact SeqAt.EqAt.int_bool a t' b
  |int b=>obtain⟨t,rfl⟩:=rx;exact SeqAt.EqAt.int_int a t' b t
  |str b=>obtain⟨t,rfl⟩:=rx;exact SeqAt.EqAt.int_str a t' b t
  | _=>exact absurd (show false=true from fx) zJ
 |str a =>
  obtain⟨t',rfl⟩:=ry
  cases x with
  |non=>cases rx;exact SeqAt.EqAt.str_none a t'
  |bl b=>cases rx;exact SeqAt.EqAt.str_bool a t' b
  |int b=>obtain⟨t,rfl⟩:=rx;exact SeqAt.EqAt.str_int a t' b t
  |str b=>obtain⟨t,rfl⟩:=rx;exact SeqAt.EqAt.str_str a t' b t
  | _=>exact absurd (show false=true from fx) zJ
 | _=>exact absurd (show false=true from fy) zJ
noncomputable def eqU(x:V)(u:Value):Bool:=match u with
 | .none=>eqV .non x
 | .bool b=>eqV (.bl b) x
 | .int i _=>eqV (.int i) x
 | .str z _=>eqV (.str z) x
 | _=>false
theorem eqU_of{x y:V}{u:Value}(r:RelV y u)(f:flatV y=true):eqU x u=eqV y x:=by
 cases y with
 |non=>cases r;rfl
 |bl b=>cases r;rfl
 |int i=>obtain⟨t,rfl⟩:=r;rfl
 |str z=>obtain⟨t,rfl⟩:=r;rfl
 | _=>exact absurd (show false=true from f) zJ
theorem any_eqU{x:V}:∀ {xs:List V}{us:List Value},Vals xs us->xs.all flatV=true->us.any (eqU x)=xs.any fun y=>eqV y x
 | _,_,.nil,_=>rfl
 |y :: xs,u :: us,.cons r t,f=>by
  rw[List.all_cons,zBJ]at f
  rw[List.any_cons,List.any_cons,eqU_of r f.1,any_eqU t f.2]
theorem mem_eqAt{A:Around}{s:Shared}{x:V}{v:Value}(rx:RelV x v)(fx:flatV x=true):∀ {xs:List V}{us:List Value},Vals xs us->xs.all flatV=true->∀ u∈us,SeqAt.EqAt A s u v (eqU x u)
 | _,_,.nil,_=>fun u hu=>by cases hu
 |y :: xs,u :: us,.cons r t,f=>fun u' hu=>by
  rw[List.all_cons,zBJ]at f
  rcases zW.mp hu with rfl | hu
  ·rw[eqU_of r f.1];exact eqAt_V r rx f.1 fx
  ·exact mem_eqAt rx fx t f.2 u' hu
noncomputable def inV(x:V)(xs:List V):Bool:=xs.any fun y=>eqV y x
inductive rInI(K:PySem.W.Frag)(neg:Bool)(x:V)(y:V)(H:Hp)(Q:VK):Prop where
 |mk (p:_) (xs:_) (h1:y = .ref p) (h2:(SqL K H p xs\/SqT K H p xs)) (h3:flatV x=true) (h4:xs.all flatV=true) (h5:Q (.bl (if neg then !inV x xs else inV x xs)) H)
noncomputable def rIn(K:PySem.W.Frag)(neg:Bool):R2:=fun x y H Q=>rInI K neg x y H Q
theorem op_notIn_seq:OpR X (compareOp .NotIn) (rIn X.K true):=by
 intro pins s σ H x y v u Q I rx ry h
 obtain⟨p,xs,rfl,hq,fx,fs,q⟩:=h
 cases ry
 rcases hq with hq | hq
 ·obtain⟨its,r,pl,hz⟩:=I.list hq
  refine SeqAt.notIn_listAt (eqU x) pl.isList (fun w hw=>mem_eqAt rx fx r fs w (by simpa using hw)) ⟨.bl _,H,I,rfl,?_⟩
  rw[show its.toArray.any (eqU x)=its.any (eqU x) by simp,any_eqU r fs]
  exact q
 ·obtain⟨its,r,pl,hz⟩:=I.tuple hq
  refine SeqAt.notIn_tupleAt (eqU x) pl (fun w hw=>mem_eqAt rx fx r fs w (by simpa using hw)) ⟨.bl _,H,I,rfl,?_⟩
  rw[show its.toArray.any (eqU x)=its.any (eqU x) by simp,any_eqU r fs]
  exact q
theorem call_len_seq:CallR X (.builtin "len") (fun xs H Q=>∃ p ys,xs=[.ref p]/\(SqL X.K H p ys\/SqT X.K H p ys)/\Q (.int ys.length) H):=by
 intro pins s σ H xs us Q I r h
 obtain⟨p,ys,rfl,hq,q⟩:=h
 obtain⟨u,rfl,rx⟩:=vals1 r
 cases rx
 have hn:=line63
 rcases hq with hq | hq
 ·obtain⟨its,r',pl,hz⟩:=I.list hq
  have hlen:=r'.length
  exact Calls.call_len_list pl.isList (by simp only[zQ] <;> lia) ⟨.int ys.length,H,I.tok _,⟨s.toks+1,by rw[zQ,hlen]⟩,q⟩
 ·obtain⟨its,r',pl,hz⟩:=I.tuple hq
  have hlen:=r'.length
  exact len_tuple pl (by simp only[zQ] <;> lia) ⟨.int ys.length,H,I.tok _,⟨s.toks+1,by rw[zQ,hlen]⟩,q⟩
theorem call_tuple_of:CallR X (.type "tuple") (fun xs H Q=>∃ p ys,xs=[.ref p]/\((SqL X.K H p ys/\∀ l,H l=none->Q (.ref l) (upd H l (.tup ys)))\/(SqT X.K H p ys/\Q (.ref p) H))):=by
 intro pins s σ H xs us Q I r h
 obtain⟨p,ys,rfl,h⟩:=h
 obtain⟨u,rfl,rx⟩:=vals1 r
 cases rx
 rcases h with⟨hq,q⟩ |⟨hq,q⟩
 ·obtain⟨its,r',pl,hz⟩:=I.list hq
  have hlen:=r'.length
  refine call_tuple_list pl.isList (fun h' kp=>?_) (by simp only[zQ] <;> lia)
  have I1:Inv X pins σ H { s with heap:=h' }:=I.kept (t':=s.toks) kp
  have I2:Inv X pins σ (upd H h'.objs.size (.tup ys)) { s with heap:=h'.push { cls:=.type "tuple",data:=.seq its.toArray } } :=
   I1.laid (t':=s.toks) (fun b o e=>zD _ e) (zH _) (show ObjOk X.prog X.w _ _ _ (.tup ys)from⟨hz,its,r',IsTup.new _ _⟩)
  exact⟨.ref h'.objs.size,_,I2,rfl,q _ (I1.hok.fresh (zH _))⟩
 ·obtain⟨its,r',pl,hz⟩:=I.tuple hq
  exact call_tuple_same pl ⟨.ref p,H,I,rfl,q⟩
noncomputable def tyV(K:PySem.W.Frag)(T:String)(x:V)(H:Hp):Prop:=match x with
 | .str _=>T = "str"
 | .int _=>T = "int"
 | .ref p=>(T = "list"/\∃ xs,SqL K H p xs)\/(T = "tuple"/\∃ o,K.lookup p=some o/\o.cls = .type "tuple"/\o.dict=none) \/
   (T = "dict"/\((∃ kvs,H p=some (.dK kvs))\/∃ kvs,H p=some (.dT kvs)))\/(T = "set"/\∃ S n,H p=some (.set S n))
 | _=>False
theorem tyV_is{pins:List (Addr×Obj)}{σ:St}{H:Hp}{s:Shared}{T:String}{x:V}{v:Value}(I:Inv X pins σ H s)(r:RelV x v)(ty:tyV X.K T x H) :
  s.TypeIs v T/\∀ a,v = .ref a->∃ ob,s.heap.get? a=some ob/\ob.dict=none:=by
 cases x with
 |str z =>
  obtain⟨t,rfl⟩:=r
  cases(show T = "str" from ty)
  exact⟨typeIs_str s z t,fun _ e=>nomatch e⟩
 |int i =>
  obtain⟨t,rfl⟩:=r
  cases(show T = "int" from ty)
  exact⟨typeIs_int s i t,fun _ e=>nomatch e⟩
 |ref p =>
  cases r
  rcases ty with⟨rfl,xs,hq⟩ |⟨rfl,o,hk,hc,hd⟩ |⟨rfl,hk⟩ |⟨rfl,S,n,hk⟩
  ·obtain⟨its,_,pl,_⟩:=I.list hq
   refine⟨pl.isList.typeIs,fun a e=>?_⟩
   cases e
   obtain⟨o,n,e,c,hd,_⟩:=pl
   exact⟨o,e,hd⟩
  ·refine⟨⟨o,I.kIn p o hk,hc⟩,fun a e=>?_⟩
   cases e
   exact⟨o,I.kIn _ o hk,hd⟩
  ·have z:∃ o,s.heap.get? p=some o/\o.ExactDict:=by
    rcases hk with⟨kvs,hk⟩ |⟨kvs,hk⟩
    ·obtain⟨_,_,_,_,o,_,_,e,ex,_⟩:=I.hok p _ hk
     exact⟨o,e,ex⟩
    ·obtain⟨_,_,_,_,o,_,_,e,ex,_⟩:=I.hok p _ hk
     exact⟨o,e,ex⟩
   obtain⟨o,e,ex⟩:=z
   refine⟨⟨o,e,ex.1⟩,fun a e2=>?_⟩
   cases e2
   exact⟨o,e,ex.2.1⟩
  ·obtain⟨o,_,_,_,e,ex,_⟩:=I.hok p _ hk
   refine⟨⟨o,e,ex.1⟩,fun a e2=>?_⟩
   cases e2
   exact⟨o,e,ex.2.1⟩
 | _=>exact False.elim ty
noncomputable def tBM0(K:PySem.W.Frag)(T:String)(r:V->List V->Hp->VK->Prop)(to:TE):TE:=fun σ H Q=>to σ H fun x H1=>tyV K T x H1/\r x [] H1 Q
noncomputable def tBM(K:PySem.W.Frag)(T:String)(r:V->List V->Hp->VK->Prop)(to:TE)(t:TA):TE:=fun σ H Q=>to σ H fun x H1=>tyV K T x H1/\t σ H1 fun xs H2=>r x xs H2 Q
variable{o e:Expr}{es:List Expr}{to:TE}{t:TA}{name:Str}{apos cpos:Pos}{T id:String}{r:V->List V->Hp->VK->Prop}
theorem pe_bm0(pa:PlainAttrs T)(slot:Slot T name id)(hty:typeOf (.builtin id)=pure (.type "method_descriptor"))(hm:MtR X id r)(ho:PE X o to)
  (hbase:attributeBase o name X.env (eval o X.env)=eval o X.env:=by rfl) (hline:(apos.endLine == cpos.line)=true:=by rfl):PE X (.Call (.Attribute o name apos) [] [] cpos) (tBM0 X.K T r to):=by
 intro pins s σ H Q I h
 refine wpAny_Call_method0_late hbase hline (thn (ho pins s σ H _ I h) fun v s1 ⟨x,H1,I1,r1,ty,q1⟩=>?_)
 obtain⟨h1,h2⟩:=tyV_is I1 r1 ty
 exact⟨T,id,pa,slot,hty,h1,h2,Calls.callWith_builtin rfl (PySem.evalArgs_none (hm pins s1 σ H1 x [] v [] Q I1 r1 .nil q1))⟩
theorem pe_bm(pa:PlainAttrs T)(slot:Slot T name id)(hty:typeOf (.builtin id)=pure (.type "method_descriptor"))(hm:MtR X id r)(ho:PE X o to)(ha:PA X (e :: es) t)
  (hbase:attributeBase o name X.env (eval o X.env)=eval o X.env:=by rfl)
  (hfew:((backTo cpos (starEach (e :: es) X.env)).all (fun x=>!x.1) && (backToKw cpos (keywordEach [] X.env)).all (fun x=>x.1.isSome)
   && decide ((e :: es).length+([]:List Keyword).length+(if([]:List Keyword).isEmpty then 0 else 1)<30))=true:=by rfl)
  (hline:(apos.endLine == cpos.line)=true:=by rfl) (hs:starEach (e :: es) X.env=(false,eval e X.env) :: starEach es X.env:=by rfl) (hplain:(backTo cpos (starEach es X.env)).any (·.1)=false:=by rfl) :
  PE X (.Call (.Attribute o name apos) (e :: es) [] cpos) (tBM X.K T r to t):=by
 intro pins s σ H Q I h
 refine wpAny_Call_method_late hbase hfew hline rfl (thn (ho pins s σ H _ I h) fun v s1 ⟨x,H1,I1,r1,ty,q1⟩=>?_)
 obtain⟨h1,h2⟩:=tyV_is I1 r1 ty
 refine⟨T,id,pa,slot,hty,h1,h2,?_⟩
 have hA:=ha cpos pins s1 σ H1 _ I1 q1
 rw[hs]at hA ⊢
 refine Calls.callWith_builtin (by show(false ||(backTo cpos (starEach es X.env)).any (·.1))=false;rw[hplain] <;> rfl) (Calls.evalArgs_plain ?_)
 exact thn hA fun us s2 ⟨vs,H2,I2,r2,q2⟩=>hm pins s2 σ H2 x vs v us Q I2 r1 r2 q2
end
open PySem PySem.Spec PyProof.Rows
noncomputable def MtM(X:Cx)(id:String)(r:V->List V->Hp->VK->Prop):Prop :=
 ∀ (pins:List (Addr×Obj)) (s:Shared) (σ:St) (H:Hp) (x:V) (xs:List V) (v:Value) (us:List Value) (Q:VK),Inv X pins σ H s->RelV x v->Vals xs us->r x xs H Q ->
  wpAny (model X.prog X.w) X.A (call (.builtin id) (v :: us)) (EP X pins σ Q) X.xe s
theorem Vals.one{x:V}{us:List Value}(h:Vals [x] us):∃ u,us=[u]/\RelV x u:=by
 cases h with | cons r q=>cases q;exact⟨_,rfl,r⟩
theorem Vals.eraseIdx:∀ {xs:List V}{us:List Value} (i:Nat),Vals xs us->Vals (xs.eraseIdx i) (us.eraseIdx i)
 | _,_,_,.nil=>.nil
 | _,_,0,.cons _ t=>t
 | _,_,i+1,.cons r t=>.cons r (Vals.eraseIdx i t)
theorem len_erase{α:Type}:∀ (l:List α) (i:Nat),(l.eraseIdx i).length<=l.length
 |[],_=>zH _
 | _ :: _,0=>zCG _
 | _ :: r,i+1=>Nat.succ_le_succ (len_erase r i)
section
variable{X:Cx}{pins:List (Addr×Obj)}{σ:St}{H:Hp}{s:Shared}{l b:Addr}{xs ys zs:List V}
theorem Inv.lset{its its':List Value}{n:Nat}{f:Array Value->Array Value}{t':Nat}(I:Inv X pins σ H s)(hH:H l=some (.lst xs))
  (e:s.heap.get? l=some { cls:=.type "list",data:=.seq its.toArray n }) (hf:f its.toArray=its'.toArray) (hv:Vals ys its') (hz:ys.length<=sizeLine) :
  Inv X pins σ (upd H l (.lst ys)) { s with heap:=s.heap.update l (Obj.mapSeq f),toks:=t' }:=by
 have q:=PySem.IsL.update e f
 rw[hf]at q
 refine I.write (x:=l) (e:=l) (by rw[hH];exact trivial) (.inl rfl) (fun b' u hb hu=>(Heap.get?_update_other s.heap (Obj.mapSeq f) (Ne.symm hb)).trans hu) ⟨_,q⟩ ?_
 exact⟨hz,its',_,hv,q⟩
theorem Inv.lnew{its:List Value}{t':Nat}(I:Inv X pins σ H s)(hv:Vals ys its)(hz:ys.length<=sizeLine) :
  Inv X pins σ (upd H s.heap.objs.size (.lst ys)) { s with heap:=s.heap.push { cls:=.type "list",data:=.seq its.toArray },toks:=t' } :=
 I.laid (fun _ _ q=>zD _ q) (zH _) ⟨hz,its,0,hv,zU _ rfl⟩
theorem Inv.fresh(I:Inv X pins σ H s):H s.heap.objs.size=none:=I.hok.fresh (zH _)
theorem Inv.lstM(I:Inv X pins σ H s)(hH:H l=some (.lst xs)):xs.length<=sizeLine/\∃ (its:List Value) (n:Nat),Vals xs its/\xs.length=its.length/\s.heap.get? l=some { cls:=.type "list",data:=.seq its.toArray n }:=by
 obtain⟨z,its,n,r,e⟩:=I.hok l _ hH
 exact⟨z,its,n,r,r.length,e⟩
end
section
variable{X:Cx}
inductive rAppendI(x:V)(vs:List V)(H:Hp)(Q:VK):Prop where
 |mk (l:_) (xs:_) (y:_) (h1:x = .ref l) (h2:vs=[y]) (h3:H l=some (.lst xs)) (h4:xs.length<sizeLine) (h5:Q .non (upd H l (.lst (xs++[y]))))
noncomputable def rAppend:V->List V->Hp->VK->Prop:=fun x vs H Q=>rAppendI x vs H Q
theorem mt_append:MtM X "list.append" rAppend:=by
 intro pins s σ H x vs v us Q I rx rv h
 obtain⟨l,xs,y,rfl,rfl,hH,hz,q⟩:=h
 cases rx
 obtain⟨u,rfl,ru⟩:=rv.one
 obtain⟨z,its,n,r,hl,e⟩:=I.lstM hH
 refine call_meets F.slot_list_append ⟨_,e,rfl⟩ F.entry_list_append (F.args_list_append_2 _ _) (PySem.list_append l its.toArray n u (by rw[zQ];lia)) ⟨e,?_⟩
 refine⟨.non,_,I.lset (its':=its++[u]) hH e (by simp) (r.append (.cons ru .nil)) ?_,rfl,q⟩
 rw[zY,List.length_singleton]
 lia
inductive rPopAtI(x:V)(vs:List V)(H:Hp)(Q:VK):Prop where
 |mk (l:_) (xs:_) (i:_) (k:_) (y:_) (h1:x = .ref l) (h2:vs=[.int i]) (h3:H l=some (.lst xs)) (h4:-(2 ^ 63)<=i) (h5:i<2 ^ 63) (h6:seqIndex? i xs.length=some k) (h7:xs[k]?=some y) (h8:Q y (upd H l (.lst (xs.eraseIdx k))))
noncomputable def rPopAt:V->List V->Hp->VK->Prop:=fun x vs H Q=>rPopAtI x vs H Q
theorem mt_popAt:MtM X "list.pop" rPopAt:=by
 intro pins s σ H x vs v us Q I rx rv h
 obtain⟨l,xs,i,k,y,rfl,rfl,hH,h1,h2,hk,hy,q⟩:=h
 cases rx
 obtain⟨u,rfl,ru⟩:=rv.one
 obtain⟨t,rfl⟩:=ru
 obtain⟨z,its,n,r,hl,e⟩:=I.lstM hH
 obtain⟨w,hw,rw'⟩:=r.get hy
 refine call_meets F.slot_list_pop ⟨_,e,rfl⟩ F.entry_list_pop (F.args_list_pop_2 _ _)
  (MeetsSeq.list_pop_at l its.toArray n i t k w (fitsIndex_both h1 h2) (by rw[zQ,<- hl];exact hk) (by rw[<- zAH];exact hw) (by rw[zQ];lia)) ⟨e,?_⟩
 refine⟨y,_,I.lset (its':=its.eraseIdx k) hH e ?_ (r.eraseIdx k) ?_,rw',q⟩
 ·show its.toArray.eraseIdxIfInBounds k=(its.eraseIdx k).toArray
  rw[List.eraseIdxIfInBounds_toArray]
 ·have:=len_erase xs k
  lia
inductive rCatI(x:V)(y:V)(H:Hp)(Q:VK):Prop where
 |mk (l:_) (b:_) (xs:_) (zs:_) (h1:x = .ref l) (h2:y = .ref b) (h3:H l=some (.lst xs)) (h4:H b=some (.lst zs)) (h5:xs.length+zs.length<=sizeLine) (h6:∀ p,H p=none->Q (.ref p) (upd H p (.lst (xs++zs))))
noncomputable def rCat:R2:=fun x y H Q=>rCatI x y H Q
theorem op_cat:OpR X (binaryOp .Add) rCat:=by
 intro pins s σ H x y v u Q I rx ry h
 obtain⟨l,b,xs,zs,rfl,rfl,hH,hB,hz,q⟩:=h
 cases rx
 cases ry
 obtain⟨z,its,n,r,hl,e⟩:=I.lstM hH
 obtain⟨z2,its2,n2,r2,hl2,e2⟩:=I.lstM hB
 refine PySem.P.add_list e e2 ?_ (by rw[zQ,zQ];lia)
 have ea:its.toArray++its2.toArray=(its++its2).toArray:=by simp
 rw[ea]
 exact⟨.ref _,_,I.lnew (t':=s.toks) (r.append r2) (by rw[zY];omega),rfl,q _ I.fresh⟩
end
end L2
namespace Att
open PySem PySem.W PySem.Calls PyProof.Rows
theorem ints_of_wellAll{P:Params}{h:Heap}:∀ (ns:List Int) (vs:List Value),WellAll P h vs (ns.map WData.int)->IntsAre vs ns:=by
 intro ns
 induction ns with
 |nil =>
  intro vs w
  rw[List.map_nil]at w
  cases w
  exact .nil
 |cons n ns ih =>
  intro vs w
  rw[zAS]at w
  cases w with
  |cons a b =>
   cases a
   exact .cons _ _ (ih _ b)
theorem script_of{l:OpenLaw}{n:Nat}(hn:l.most=some n){P:Params}{h:Heap}{args:List WData}{vals:List Value}
  (hpre:l.row.toRowW.claim.pre args=true) (hwl:WellAll P h vals args) :
  ∃ a vs ns,vals=[Value.ref a]/\args=[WData.list (ns.map WData.int)]/\h.get? a=some { cls:=.type "list",data:=.seq vs.toArray }/\IntsAre vs ns/\ns.length<=n:=by
 have hsh:WShape.hasAll [] args [.list .int]=true:=(pre_splitW hpre).1
 have hc:l.pre.holds [] { args:=args } = true:=(pre_splitW hpre).2
 obtain⟨d,r,rfl,h1,h2⟩:=hasAllW_cons hsh
 obtain rfl:=hasAllW_nil h2
 obtain⟨xs,rfl,h3⟩:=hasW_list h1
 obtain⟨ns,rfl⟩:=items_int h3
 have hlen:ns.length<=n:=by
  unfold OpenLaw.pre at hc
  have h4:(WTm.not (.lt (.lit (.int (n:Int))) (.len (.arg 0)))).holds [] { args:=[.list (ns.map .int)] } = true:=by
   have h4:=(holds_andW hc).1
   rw[hn]at h4
   exact h4
  have h5:=condW_of h4 (w_not (w_lt w_lit (w_len_list (w_arg rfl))))
  rw[zB]at h5
  refine Nat.le_of_not_lt fun q=>?_
  have q':(n:Int) <((ns.length:Nat):Int):=by omega
  first
   |(rw[decide_eq_true q']at h5;exact absurd h5 (by decide))
   |(simp at h5;omega)
 cases hwl with
 |cons w1 w2 =>
  cases w2
  cases w1 with
  |list ho hall=>exact⟨_,_,ns,rfl,rfl,ho,ints_of_wellAll ns _ hall,hlen⟩
theorem post_true(l:OpenLaw)(args:List WData):l.row.toRowW.claim.post args (.bool true) args=true :=
 postW_of (r:=l.row.toRowW) (X:=(true == true))
  (show WShape.has [] (.bool true) .bool=true by first | rfl | decide | simp[WShape.has,WShape.arms,WShape.armsAll])
  (show(WTm.eq .res (.lit (.bool true))).value [] { args:=args,res:=some (.bool true),after:=args } = some (.bool (true == true))from w_eq_bool (w_res rfl) w_lit) rfl
theorem attach_call{l:OpenLaw}{n:Nat}{q:Program}{loose:List Str}{XP:(Str->Option Value)->Heap->Prop}{YP:World->Heap->Prop}{d:DefRec}
  (hn:l.most=some n) (hdf:d.params.defaults=[])
  (call:∀ (w:World) (s₀ s₁:Shared) (mg mb:Str->Option Value) (fa:Addr) (o:Obj) (pm cd doc:Value) (a:Addr) (vs:List Value) (ns:List Int),
   Ground q loose [] XP w s₀ mg mb s₁.heap->YP w s₁.heap ->
   s₁.heap.get? fa=some o->o.data = .func (docDef d.name d.params d.body d.scope pm cd doc)->s₁.heap.CodeRec cd d.name->mg d.name=some (.ref fa) ->
   s₁.heap.get? a=some { cls:=.type "list",data:=.seq vs.toArray }->IntsAre vs ns->ns.length<=n->s₁.gens = #[] ->
   codeAny (model l.prog w) callerA (.call (.ref fa) ⟨[.ref a],[]⟩) (fun r s'=>r = .ok (.ret (.bool true))/\OldK s₁.heap s'.heap/\s'.os=s₁.os/\AllBare s'.gens) s₁) :
  WalkO q loose XP YP l.row.toRowW d [] (fun f vs=>PySem.call f vs):=by
 intro w s₀ s₁ mg mb G Y fa o pm cd doc dV kV ho hd hcd hD hmg hg args vals as hpre hlay hrd hwl hlo
 obtain rfl:dV = .none:=Dflts.none hD hdf
 obtain rfl:kV = .none:=Dflts.noKw hD
 obtain⟨a,vs,ns,rfl,rfl,hobj,hints,hlen⟩:=script_of hn hpre hwl
 refine enter_call (codeAny_mono (call w s₀ s₁ mg mb fa o pm cd doc a vs ns G Y ho (fd_plain hd) hcd hmg hobj hints hlen hg) fun r s' hq=>?_)
 obtain⟨rfl,h2,h3,h4⟩:=hq
 exact⟨.inl ⟨.bool true,.bool true,[],rfl,fun _=>rfl,.bool true,post_true l _,fun _=>⟨List.Pairwise.nil,fun _ hm=>(nomatch hm)⟩⟩,h2,h3,h4⟩
end Att
namespace L2
open PySem PySem.Spec PyProof.Rows
theorem vals_ints:∀ {vs:List Value}{ns:List Int},IntsAre vs ns->Vals (ns.map V.int) vs
 | _,_,.nil=>.nil
 | _,_,.cons n t h=>.cons ⟨t,rfl⟩ (vals_ints h)
noncomputable def Only(H:Hp):Prop:=∀ b,H b=none\/∃ o xs,H b=some (.frz o (.lst xs))
theorem law_call{P:Program}{w:World}{K:PySem.W.Frag}{mg mb:Str->Option Value}{CX:CXT}{k:Nat}{fa a:Addr}{fd:FuncData}{x:Str}{sp:Sp}{s₁:Shared}{vs:List Value}{ns:List Int}
  (KX:K.In s₁.heap) (hns:s₁.heap.Ns mainGlobals mg) (hb:s₁.heap.Ns builtinsNs mb) (hbb:∀ x:Str,x≠"__name__"->mb x=bootBuiltins x) (hlim:s₁.heap.NoLimit) (hg:s₁.gens = #[])
  (ha:s₁.heap.get? a=some { cls:=.type "list",data:=.seq vs.toArray }) (hi:IntsAre vs ns) (hl:ns.length<=sizeLine) (hr:Room k callerA)
  (F:∀ base:Heap,K.In base->base.Ns mainGlobals mg->FnOk P w K mg base CX k fa fd [x] sp) (hbind:∀ (s:Shared) (u:Value),BindsTo s fd ⟨[u],[]⟩ [(x,u)])
  (hsp:∀ H:Hp,Only H->SqL K H a (ns.map V.int)->sp [.ref a] H (fun v _=>v = .bl true) fun _ _ _=>False)
  (hCX:∀ H e s',CX [] H s₁ (fun _ _ _=>False) e s'->False) :
  codeAny (model P w) callerA (.call (.ref fa) ⟨[.ref a],[]⟩) (fun r s'=>r = .ok (.ret (.bool true))/\OldK s₁.heap s'.heap/\s'.os=s₁.os/\AllBare s'.gens) s₁:=by
 have rv:=vals_ints hi
 have lenV:=hi.length
 -- from an abstract heap in which nothing but the script may be tracked
 have core:∀ H:Hp,Only H->SqL K H a (ns.map V.int)->HOk P w H s₁.heap->(∀ b,H b≠none->b=a)->(H a≠none->K.lookup a=none) ->
   codeAny (model P w) callerA (.call (.ref fa) ⟨[.ref a],[]⟩) (fun r s'=>r = .ok (.ret (.bool true))/\OldK s₁.heap s'.heap/\s'.os=s₁.os/\AllBare s'.gens) s₁:=by
  intro H hO hS hok hA hK
  have base_of:∀ {b:Addr}{o:Obj},s₁.heap.get? b=some o->H b=none->(hidT s₁.heap H).get? b=some o:=fun e n=>hidT_get e n
  have noA:∀ {b:Addr}{o:Obj}{es:Array DictEntry}{ep:Nat},s₁.heap.get? b=some o->o.data = .dict es ep->H b=none:=fun {b o es ep} e d=>by
   cases q:H b with
   |none=>rfl
   |some u =>
    have e':b=a:=hA b (by rw[q];simp)
    subst e'
    rw[ha]at e;cases e
    have d':Data.seq vs.toArray _=Data.dict es ep:=d
    cases d'
  have nsK:∀ {b:Addr}{m:Str->Option Value},s₁.heap.Ns b m->(hidT s₁.heap H).Ns b m:=fun {b m} ⟨o,es,ep,e,d,r⟩=>⟨o,es,ep,base_of e (noA e d),d,r⟩
  have hKb:K.In (hidT s₁.heap H):=fun b o e=>base_of (KX b o e) (by
   cases q:H b with
   |none=>rfl
   |some u =>
    have e':b=a:=hA b (by rw[q];simp)
    subst e'
    rw[hK (by rw[q];simp)]at e;cases e)
  have hM:Mod K mg (hidT s₁.heap H):=⟨hKb,nsK hns,⟨mb,nsK hb,hbb⟩,let ⟨mc,h1,h2⟩:=hlim;⟨mc,nsK h1,h2⟩⟩
  have e0:Env0 P w K mg (hidT s₁.heap H) callerA [] s₁ H:=⟨rfl,hM,fun b o e=>of_hidT e,zAG (hidT_size _ _),trivial,fun b hb=>absurd (show b∈([]:List Addr)from hb) (by simp),hok,.of_eq hg⟩
  refine codeAny_mono ((F _ hKb (nsK hns)).run callerA [] s₁ H ⟨[.ref a],[]⟩ [.ref a] [.ref a] _ _ hr e0 (hbind s₁ (.ref a)) (.cons rfl .nil) (hsp H hO hS)) fun r s' h=>?_
  cases r with
  |error e=>exact(hCX H e s' h).elim
  |ok fl =>
   cases fl with
   |next=>exact False.elim h
   |brk=>exact False.elim h
   |cont=>exact False.elim h
   |ret u =>
    obtain⟨v,H',os,bare,un,hok',r',q⟩:=h
    have q':v = .bl true:=q
    subst q'
    obtain rfl:u=Value.bool true:=r'
    refine⟨rfl,OldK.of_keep fun b o e=>?_,os,bare⟩
    cases q:H b with
    |none=>exact un.keep b o e q (by intro z;exact absurd (show b∈([]:List Addr)from z) (by simp)) (by simp)
    |some u =>
     rcases hO b with z |⟨ob,xs,z⟩
     ·rw[q]at z;cases z
     ·have z2:=un.frzs b ob _ z
      obtain⟨e1,_⟩:=hok b _ z
      obtain⟨e2,_⟩:=hok' b _ z2
      rw[e]at e1;cases e1
      exact e2
 cases hk:K.lookup a with
 |some o =>
  -- the script is one of the module's own objects
  have e:=KX a o hk
  rw[ha]at e
  cases e
  refine core (fun _=>none) (fun _=>.inl rfl) (.inr ⟨_,vs.toArray,_,hk,rfl,rfl,rfl,by rw[zQ,lenV];exact hl,by simpa using rv⟩) (fun b u z=>by have z':(none:Option HO)=some u:=z;cases z') (fun b z=>absurd rfl z) fun z=>absurd rfl z
 |none =>
  refine core (fun b=>if b=a then some (.frz { cls:=.type "list",data:=.seq vs.toArray } (.lst (ns.map V.int)))else none) (fun b=>?_) (.inl (.inr ⟨{ cls:=.type "list",data:=.seq vs.toArray },if_pos rfl⟩)) (fun b u z=>?_) (fun b z=>?_) fun _=>hk
  ·by_cases hb:b=a
   ·exact .inr ⟨_,_,if_pos hb⟩
   ·exact .inl (if_neg hb)
  ·by_cases hb:b=a
   ·have z':=(if_pos hb).symm.trans z
    cases z'
    subst hb
    exact⟨ha,by rw[zB];exact hl,vs,_,rv,ha⟩
   ·have z':=(if_neg hb).symm.trans z
    cases z'
  ·by_cases hb:b=a
   ·exact hb
   ·exact absurd (if_neg hb) z
open PySem PySem.Spec PyProof.Rows
theorem walk_of{l:PySem.W.OpenLaw}{n k:Nat}{q:Program}{loose:List Str}{XP:(Str->Option Value)->Heap->Prop}{YP:World->Heap->Prop}{d:DefRec}{K:Params->PySem.W.Frag}{CX:World->CXT}{sp:World->Sp}{x:Str}
  (hn:l.most=some n) (hn2:n<=sizeLine) (hdf:d.params.defaults=[]) (hr:Room k callerA)
  (hY:∀ (w:World) (h:Heap),YP w h->(K w.params).In h)
  (F:∀ (w:World) (mg:Str->Option Value) (fa:Addr) (h:Heap),(K w.params).In h->h.Ns mainGlobals mg->mg d.name=some (.ref fa) ->
   ∃ fd:FuncData,(∀ (s:Shared) (u:Value),BindsTo s fd ⟨[u],[]⟩ [(x,u)]) /\
    ∀ base:Heap,(K w.params).In base->base.Ns mainGlobals mg->FnOk l.prog w (K w.params) mg base (CX w) k fa fd [x] (sp w))
  (hsp:∀ (w:World) (H:Hp) (a:Addr) (ns:List Int),ns.length<=n->Only H->SqL (K w.params) H a (ns.map V.int)->sp w [.ref a] H (fun v _=>v = .bl true) fun _ _ _=>False)
  (hCX:∀ (w:World) (H:Hp) (s:Shared) (e:Value) (s':Shared),CX w [] H s (fun _ _ _=>False) e s'->False) :
  PySem.W.WalkO q loose XP YP l.row.toRowW d [] (fun f vs=>PySem.call f vs):=by
 refine Att.attach_call hn hdf fun w s₀ s₁ mg mb fa o pm cd doc a vs ns G Y ho hd hcd hmg hobj hints hlen hg=>?_
 have KX:=hY w _ Y
 obtain⟨fd,hb,hF⟩:=F w mg fa _ KX G.T.g hmg
 exact law_call KX G.T.g G.T.b G.T.builtins G.T.nolimit hg hobj hints (zC hlen hn2) hr hF hb (fun H hO hS=>hsp w H a ns hlen hO hS) fun H e s'=>hCX w H s₁ e s'
open PySem PySem.Spec PyProof.Rows
noncomputable def inClass(s:Stmt)(j:Nat):Stmt:=match s with
 | .ClassDef _ _ _ body _ _ _ _ _ _ _=>body.getD j (.Pass ⟨0,0,0,0⟩)
 | _=>.Pass ⟨0,0,0,0⟩
noncomputable def defArgs(s:Stmt):Arguments:=match s with
 | .FunctionDef _ a _ _ _ _ _ _ _ _=>a
 | _=>{ posonlyargs:=[],args:=[],vararg:=none,kwonlyargs:=[],kw_defaults:=[],kwarg:=none,defaults:=[] }
noncomputable def defBody(s:Stmt):List Stmt:=match s with
 | .FunctionDef _ _ b _ _ _ _ _ _ _=>b
 | _=>[]
noncomputable def defScope(s:Stmt):Scope:=match s with
 | .FunctionDef _ _ _ _ _ _ sc _ _ _=>sc
 | _=>{ kind:=.function,names:=[],isGenerator:=false,isCoroutine:=false }
noncomputable abbrev CX0:CXT:=fun _ _ _ _ _ _=>False
noncomputable abbrev E0:XK:=fun _ _ _=>False
theorem pass0{X:Cx}:Passes CX0 X E0:=fun _ _ _ _ _ _ _ h=>h.elim
structure Fun(K:PySem.W.Frag)(x qual:Str)(st:Stmt)(f:Addr)(fd:FuncData):Prop where
 ex:∃ (oc:Value) (od:Option Addr) (kV doc pm:Value) (an:Option Addr) (cdv ct:Value) (osl:Array (Option Value)),
  fd=PySem.W.fnOf x qual (defArgs st) (defBody st) (defScope st) .none kV doc pm an cdv ct/\K.lookup f=some ⟨oc,od,.func fd,osl⟩/\PySem.W.codeIn K cdv qual=true
 kp:PySem.W.keepIn K (.ref f)=true
section
variable{P:Program}{w:World}{K:PySem.W.Frag}{mg:Str->Option Value}{base:Heap}
theorem Fun.ok{x qual:Str}{st:Stmt}{f:Addr}{fd:FuncData}{N ps:List Str}{k:Nat}{sp:Sp}(F:Fun K x qual st f fd)(S:FnScope N ps (defScope st))(len:∀ vs H Q E,sp vs H Q E->vs.length=ps.length)
  (hbody:∀ (cdv:Value) (A:Around) (outer:List Env) (s:Shared) (H:Hp) (vs:List V) (Q:VK) (E:XK),Room k (A.deeper (envOfC qual (defScope st) s.heap.objs.size f cdv))->sp vs H Q E ->
   ∃ t,PSs (cxOf CX0 P w K mg base N qual (defScope st) f cdv A outer s H E).nox (defBody st) t/\t { nx:=fun _ H'=>Q .non H',rt:=Q } (start N vs) H):FnOk P w K mg base CX0 (k+1) f fd ps sp:=by
 obtain⟨oc,od,kV,doc,pm,an,cdv,ct,osl,rfl,lk,hcd⟩:=F.ex
 refine fn_of lk hcd S len fun A outer s H vs Q E hr hsp=>?_
 obtain⟨t,h,q⟩:=hbody cdv A outer s H vs Q E hr hsp
 exact⟨t,h.nox,q⟩
theorem Fun.binds{x qual:Str}{st:Stmt}{f:Addr}{fd:FuncData}{ps:List Str}(F:Fun K x qual st f fd)
  (h:∀ (kV doc pm:Value) (an:Option Addr) (cdv ct:Value) (us:List Value),us.length=ps.length->bindArgs (PySem.W.fnOf x qual (defArgs st) (defBody st) (defScope st) .none kV doc pm an cdv ct) ⟨us,[]⟩=pure (ps.zip us)):Binds K fd ps []:=by
 obtain⟨oc,od,kV,doc,pm,an,cdv,ct,osl,rfl,lk,hcd⟩:=F.ex
 exact .all (h kV doc pm an cdv ct)
theorem fun_mk{x qual:Str}{st:Stmt}{f:Addr}{oc:Value}{od an:Option Addr}{osl:Array (Option Value)}{kV doc pm cdv ct:Value}(l:K.lookup f=some ⟨oc,od,.func (PySem.W.fnOf x qual (defArgs st) (defBody st) (defScope st) .none kV doc pm an cdv ct),osl⟩)
  (c:PySem.W.codeIn K cdv qual=true) (k:PySem.W.keepIn K (.ref f)=true):Fun K x qual st f (PySem.W.fnOf x qual (defArgs st) (defBody st) (defScope st) .none kV doc pm an cdv ct):=⟨⟨oc,od,kV,doc,pm,an,cdv,ct,osl,rfl,l,c⟩,k⟩
end
theorem hu_of{A:Around}{k:Nat}(hr:Room k A):A.units+1<cLine:=zL (zN (by decide:1<=64) _) hr.units
section
variable{X:Cx}
theorem pv(i:Nat){x:Str}{pos:Pos}(hN:X.N[i]?=some x:=by rfl)(hv:Vis X.env.scope x:=by first | exact Or.inl rfl | exact Or.inr (Or.inl rfl) | exact Or.inr (Or.inr rfl))(hd:(x ==("__debug__":Str))=false:=by decide)
  (hcd:(x ==("__classdict__":Str))=false:=by decide):PE X (.Name x pos) (tVar i):=pe_var hN hv hd hcd
end
theorem iteF{A B:Prop}(h:B):if false=true then A else B:=by
 rw[if_neg zJ]
 exact h
theorem iteT{A B:Prop}(h:A):if true=true then A else B:=by
 rw[if_pos rfl]
 exact h
theorem ite2{c A B:Prop}[Decidable c](h1:c->A)(h2:¬ c->B):if c then A else B:=by
 by_cases h:c
 ·rw[if_pos h]
  exact h1 h
 ·rw[if_neg h]
  exact h2 h
theorem iteNS{c A B:Prop}[Decidable c](hc:c)(h:B):if(!decide c)=true then A else B:=by
 rw[decide_eq_true hc]
 exact iteF h
noncomputable def Same(H H':Hp):Prop:=∀ b o,H b=some o->H' b=some o
theorem Same.refl(H:Hp):Same H H:=fun _ _ h=>h
theorem Same.trans{H H1 H2:Hp}(a:Same H H1)(b:Same H1 H2):Same H H2:=fun c o h=>b c o (a c o h)
theorem Same.free{H H':Hp}(e:Same H H'){l:Addr}(h:H' l=Option.none):H l=Option.none:=by
 cases q:H l with
 |none=>rfl
 |some o =>
  rw[e l o q]at h
  cases h
theorem Same.seq{K:PySem.W.Frag}{H H':Hp}{a:Addr}{xs:List V}(e:Same H H')(h:SqL K H a xs):SqL K H' a xs:=by
 rcases h with(h |⟨o,h⟩) | h
 ·exact .inl (.inl (e _ _ h))
 ·exact .inl (.inr ⟨o,e _ _ h⟩)
 ·exact .inr h
open PySem PySem.Spec PyProof.Rows
end L2
set_option maxHeartbeats 4000000
namespace L2
open PySem PySem.Spec PyProof.Rows
noncomputable def closCl(cells:List (Str×Addr)):List (Str×NameKind)->List (Str×Addr)->List (Str×Addr)
 |[],acc=>acc
 |(n,k) :: r,acc=>closCl cells r (if k == .free then(n,(cells.lookup n).getD 0) :: acc else acc)
theorem closureFor_cells{scope:Scope}{env:Env}(h:∀ x∈scope.names,x.2 = .free->∃ c,env.cells.lookup x.1=some c) :
  closureFor scope env=pure (closCl env.cells scope.names []):=by
 have gen:∀ (l:List (Str×NameKind)) (acc:List (Str×Addr)),(∀ x∈l,x.2 = .free->∃ c,env.cells.lookup x.1=some c) ->
   (forIn l acc fun(x:Str×NameKind) (cs:List (Str×Addr))=>(do
    if x.2 == .free then
     let c <- cellOf env x.1
     pure (ForInStep.yield ((x.1,c) :: cs))
    else pure (ForInStep.yield cs):Sem (ForInStep (List (Str×Addr)))))=pure (closCl env.cells l acc):=by
  intro l
  induction l with
  |nil=>intro acc _;rfl
  |cons x r ih =>
   intro acc hx
   obtain⟨n,k⟩:=x
   rw[List.forIn_cons]
   have hr:=fun y hy=>hx y (zP _ hy)
   by_cases hk:k = .free
   ·subst hk
    obtain⟨c,hc⟩:=hx (n,.free) zX rfl
    have e1:cellOf env n=pure c:=by unfold cellOf;rw[hc]
    simp only[e1,beq_self_eq_true,if_true,pure_bind]
    rw[ih _ hr]
    have hc':env.cells.lookup n=some c:=hc
    simp[closCl,hc']
   ·have hb:(k == NameKind.free)=false:=by simpa using hk
    simp only[hb,zBB,if_false,pure_bind]
    rw[ih _ hr]
    simp[closCl,hb]
 have g:=gen scope.names [] h
 unfold closureFor
 simp only[bind_pure]
 exact g
theorem closCl_sound{cells:List (Str×Addr)}:∀ (l:List (Str×NameKind)) (acc:List (Str×Addr)),(∀ x∈l,x.2 = .free->∃ c,cells.lookup x.1=some c) ->
  (∀ y c,acc.lookup y=some c->cells.lookup y=some c)->∀ y c,(closCl cells l acc).lookup y=some c->cells.lookup y=some c
 |[],_,_,ha,y,c,e=>ha y c e
 |(n,k) :: r,acc,h,ha,y,c,e=>by
  refine closCl_sound r _ (fun x hx=>h x (zP _ hx)) ?_ y c e
  intro y c e
  by_cases hk:k = .free
  ·subst hk
   obtain⟨c',hc⟩:=h (n,.free) zX rfl
   have hc:cells.lookup n=some c':=hc
   simp only[beq_self_eq_true,if_true,zBW]at e
   by_cases hy:y == n
   ·have:y=n:=by simpa using hy
    subst this
    simp[hc]at e
    rw[hc,e]
   ·simp only[hy]at e
    exact ha y c e
  ·have hb:(k == NameKind.free)=false:=by simpa using hk
   rw[hb,if_neg (by simp)]at e
   exact ha y c e
theorem closCl_acc{cells:List (Str×Addr)}:∀ (l:List (Str×NameKind)) (acc:List (Str×Addr)) (y:Str),(∃ c,acc.lookup y=some c)->∃ c,(closCl cells l acc).lookup y=some c
 |[],_,_,h=>h
 |(n,k) :: r,acc,y,h=>by
  refine closCl_acc r _ y ?_
  by_cases hk:(k == NameKind.free)=true
  ·rw[if_pos hk,zBW]
   by_cases hy:(y == n)=true
   ·rw[hy];exact⟨_,rfl⟩
   ·rw[zCH.mpr hy];exact h
  ·rw[if_neg hk];exact h
theorem closCl_has{cells:List (Str×Addr)}:∀ (l:List (Str×NameKind)) (acc:List (Str×Addr)) (y:Str),(y,NameKind.free)∈l->∃ c,(closCl cells l acc).lookup y=some c
 |[],_,_,h=>nomatch h
 |(n,k) :: r,acc,y,h=>by
  rcases zW.mp h with e | h
  ·have e1:n=y:=(congrArg Prod.fst e).symm
   have e2:k=NameKind.free:=(congrArg Prod.snd e).symm
   subst e1 e2
   refine closCl_acc r _ n ?_
   rw[if_pos (by rfl),zBW,beq_self_eq_true]
   exact⟨_,rfl⟩
  ·exact closCl_has r _ y h
theorem relabel_mem{scope:Scope}{env:Env}:∀ {l:List (Str×NameKind)}{x:Str}{k':NameKind},
  (l.map fun(n,k)=>if(k == NameKind.free && env.scope.kind == .function && env.kindOf n == some .cell)then(n,NameKind.cell)else(n,k)).lookup x=some k' ->
  ∃ k,(x,k)∈l/\(k=k'\/(k = .free/\k' = .cell))
 |[],_,_,h=>by simp at h
 |(n,k) :: r,x,k',h=>by
  rw[zAS]at h
  dsimp only at h
  by_cases hc:(k == NameKind.free && env.scope.kind == .function && env.kindOf n == some .cell)=true
  ·simp only[hc,if_true,zBW]at h
   by_cases hx:(x == n)=true
   ·rw[hx]at h
    have:x=n:=by simpa using hx
    subst this
    have hk:k = .free:=by
     rw[zBJ,zBJ]at hc
     simpa using hc.1.1
    exact⟨k,zX,.inr ⟨hk,by cases h;rfl⟩⟩
   ·rw[zCH.mpr hx]at h
    obtain⟨k1,h1,h2⟩:=relabel_mem (scope:=scope) h
    exact⟨k1,zP _ h1,h2⟩
  ·rw[if_neg hc,zBW]at h
   by_cases hx:(x == n)=true
   ·rw[hx]at h
    have:x=n:=by simpa using hx
    subst this
    exact⟨k,zX,.inl (by cases h;rfl)⟩
   ·rw[zCH.mpr hx]at h
    obtain⟨k1,h1,h2⟩:=relabel_mem (scope:=scope) h
    exact⟨k1,zP _ h1,h2⟩
theorem relabel_free{env:Env}:∀ {l:List (Str×NameKind)}{x:Str},l.lookup x=some .free ->
  (l.map fun(n,k)=>if(k == NameKind.free && env.scope.kind == .function && env.kindOf n == some .cell)then(n,NameKind.cell)else(n,k)).lookup x=some .cell \/
  (l.map fun(n,k)=>if(k == NameKind.free && env.scope.kind == .function && env.kindOf n == some .cell)then(n,NameKind.cell)else(n,k)).lookup x=some .free
 |[],_,h=>by simp at h
 |(n,k) :: r,x,h=>by
  rw[zAS]
  dsimp only
  rw[zBW]at h
  by_cases hx:(x == n)=true
  ·rw[hx]at h
   have hk:k = .free:=by cases h;rfl
   by_cases hc:(k == NameKind.free && env.scope.kind == .function && env.kindOf n == some .cell)=true
   ·left;rw[if_pos hc,zBW,hx]
   ·right;rw[if_neg hc,zBW,hx,hk]
  ·rw[zCH.mpr hx]at h
   have ih:=relabel_free (env:=env) h
   by_cases hc:(k == NameKind.free && env.scope.kind == .function && env.kindOf n == some .cell)=true
   ·rw[if_pos hc,zBW,zCH.mpr hx];exact ih
   ·rw[if_neg hc,zBW,zCH.mpr hx];exact ih
theorem lookup_mem{α:Type}[BEq α][LawfulBEq α]{β:Type}:∀ {l:List (α×β)}{x:α}{k:β},l.lookup x=some k->(x,k)∈l
 |[],_,_,h=>by simp at h
 |(n,k') :: r,x,k,h=>by
  rw[zBW]at h
  by_cases hx:(x == n)=true
  ·rw[hx]at h
   have:x=n:=by simpa using hx
   subst this
   cases h
   exact zX
  ·rw[zCH.mpr hx]at h
   exact zP _ (lookup_mem h)
noncomputable def cxIn(X:Cx)(N':List Str)(scope:Scope)(C:Addr)(s2:Shared)(H2:Hp)(fp:List Addr):Cx :=
 { X with N:=N',s₀:=s2,H₀:=H2,env:=compEnvC scope (closCl X.env.cells scope.names []) C X.env,outer:=X.stack,ex:=fp,fn:=fun _=>false,xe:=fun _ _=>False }
noncomputable def capt(cap:List (Option Nat))(σ:St):St:=cap.map fun o=>o.bind fun j=>(σ[j]?).join
structure CompScope(N':List Str)(cap:List (Option Nat))(N:List Str)(sc0 scope:Scope):Prop where
 kind:scope.kind = .function
 nocell:∀ x∈scope.names,x.2≠.cell
 loc:∀ x∈scope.names,x.2 = .local->scope.names.lookup x.1=some .local
 fre:∀ x∈scope.names,x.2 = .free->sc0.names.lookup x.1=some .cell\/sc0.names.lookup x.1=some .free
 len:cap.length=N'.length
 cap:∀ j∈List.range cap.length,match cap[j]? with
  |some (some i)=>match N'[j]? with
   |some x=>N[i]?=some x/\scope.names.lookup x=some .free
   |none=>False
  | _=>True
section
variable{X:Cx}{N':List Str}{cap:List (Option Nat)}{scope:Scope}{C:Addr}{s2 s4:Shared}{H2:Hp}{fp:List Addr}{pins:List (Addr×Obj)}{σ:St}
theorem CompScope.clos(S:CompScope N' cap X.N X.env.scope scope)(I:Inv X pins σ H2 s2):∀ x∈scope.names,x.2 = .free->∃ c,X.env.cells.lookup x.1=some c :=
 fun x hx hf=>I.ok.has x.1 (S.fre x hx hf)
theorem cxIn_ok(S:CompScope N' cap X.N X.env.scope scope)(I:Inv X pins σ H2 s2)(hC:s2.heap.objs.size<=C)(hfp:∀ b∈fp,FpOk X pins H2 b)(hfo:∀ b∈fp,∃ o,s2.heap.get? b=some o):(cxIn X N' scope C s2 H2 fp).Ok where
 mod:=I.ok.mod
 kind:=S.kind
 glob:=I.ok.glob
 blt:=I.ok.blt
 above:=hC
 inj:=fun x y c e1 e2=>I.ok.inj x y c (closCl_sound _ _ (S.clos I) (fun y c e=>by simp at e) x c e1) (closCl_sound _ _ (S.clos I) (fun y c e=>by simp at e) y c e2)
 has:=fun x h=>by
  have hm:(x,NameKind.free)∈scope.names:=by
   rcases h with h | h
   ·obtain⟨k,hk,e |⟨e,_⟩⟩:=relabel_mem (scope:=scope) (l:=scope.names) h
    ·subst e;exact absurd rfl (S.nocell _ hk)
    ·subst e;exact hk
   ·obtain⟨k,hk,e |⟨_,e⟩⟩:=relabel_mem (scope:=scope) (l:=scope.names) h
    ·subst e;exact hk
    ·cases e
  exact closCl_has _ _ x hm
 cab:=fun _ _ h _=>nomatch h
 hd:=I.ok.hd
 frames:=I.ok.frames
 stk:=.inl rfl
 exf:=fun b hb=>⟨fun z=>by
   obtain⟨o,ho⟩:=hfo b hb
   have h1:=zG (zK ho) hC
   have z:b=C:=z
   rw[z]at h1
   exact zBH _ h1,fun x c e=>(hfp b hb).2.2.2.2.1 x c (closCl_sound _ _ (S.clos I) (fun y c e=>by simp at e) x c e)⟩
 bs:=I.bs
 bsz:=zC I.ok.bsz I.sz
 noex:=fun b o e hb=>by
  rcases(hfp b hb).2.2.2.1 with z | z
  ·exact I.ok.noex b o e z
  ·exact absurd (zG (zK e) (zC I.ok.bsz z)) (zBH _)
 exfs:=fun b hb z=>by
  rcases zW.mp (I.stkSub b z)with e | e
  ·exact(hfp b hb).2.1 e
  ·exact(hfp b hb).2.2.1 e
 funs:=I.stack
 frf:=I.stkFree
theorem cxIn_inv(S:CompScope N' cap X.N X.env.scope scope)(I:Inv X pins σ H2 s2)(hC:s2.heap.objs.size<=C)(hfp:∀ b∈fp,FpOk X pins H2 b)(hfo:∀ b∈fp,∃ o,s2.heap.get? b=some o)
  (ho:s4.os=s2.os) (hg:s4.gens=s2.gens) (k:∀ b o,s2.heap.get? b=some o->s4.heap.get? b=some o) {m:Str->Option Value} (hn:s4.heap.Ns C m) {D:Addr}{oD:Obj}
  (hD:s4.heap.get? D=some oD) (hDs:s2.heap.objs.size<=D) (hDC:D≠C) (hDc:∀ v,oD.data≠.cell v) :
  Inv (cxIn X N' scope C s2 H2 fp) (pins++[(D,oD)]) (capt cap σ) H2 s4 where
 ok:=cxIn_ok S I hC hfp hfo
 os:=ho
 bare:=by rw[hg];exact I.bare
 base:=Un.kept k
 loc:=by
  refine⟨m,hn,fun j x v e1 e2 _=>?_⟩
  have hj:j<cap.length:=by rw[S.len];exact(zZ.mp e1).1
  have e1:N'[j]?=some x:=e1
  have hc:=S.cap j (zBP.mpr hj)
  unfold capt at e2
  rw[zAJ]at e2
  cases hq:cap[j]? with
  |none=>rw[hq]at e2;cases e2
  |some o =>
   rw[hq]at e2 hc
   cases o with
   |none=>cases e2
   |some i =>
    simp only[e1]at hc
    obtain⟨hN,hfr⟩:=hc
    have e3:σ[i]?=some (some v):=by
     have e2:(σ[i]?).join=some v:=Option.some.inj e2
     cases hs:σ[i]? with
     |none=>rw[hs]at e2;cases e2
     |some w=>rw[hs]at e2;have e2:w=some v:=e2;rw[e2]
    have hm:=lookup_mem hfr
    have hk:=S.fre _ hm rfl
    obtain⟨m0,hn0,hl0⟩:=I.loc
    obtain⟨u,r,l⟩:=hl0 i x v hN e3 (.inr hk)
    refine⟨u,r,?_⟩
    rcases l with⟨l,_⟩ |⟨_,c,e,z⟩
    ·rcases hk with hk | hk
     ·rw[show X.env.kindOf x=some .cell from hk]at l;cases l
     ·rw[show X.env.kindOf x=some .free from hk]at l;cases l
    ·obtain⟨c',hc'⟩:=closCl_has (cells:=X.env.cells) scope.names [] x hm
     have hs:=closCl_sound scope.names [] (S.clos I) (fun y c e=>by simp at e) x c' hc'
     rw[e]at hs
     cases hs
     refine .inr ⟨relabel_free hfr,c,hc',?_⟩
     obtain⟨oc,ho',hd'⟩:=z
     exact⟨oc,k _ _ ho',hd'⟩
 cell:=fun x c e=>by
  obtain⟨v,oc,ho',hd'⟩:=I.cell x c (closCl_sound scope.names [] (S.clos I) (fun y c e=>by simp at e) x c e)
  exact⟨v,oc,k _ _ ho',hd'⟩
 free:=I.hok.fresh hC
 freeC:=fun x c e=>I.freeC x c (closCl_sound scope.names [] (S.clos I) (fun y c e=>by simp at e) x c e)
 pin:=fun p hp=>by
  have hp:p∈X.pn++(pins++[(D,oD)]):=hp
  have cne:∀ b o,s2.heap.get? b=some o->b≠C:=fun b o e z=>by
   have h1:=zG (zK e) hC
   rw[z]at h1
   exact zBH _ h1
  rw[<- zAV]at hp
  rcases zAB.mp hp with hp | hp
  ·obtain⟨e,n,ne,nf,d⟩:=I.pin p hp
   exact⟨k _ _ e,n,cne _ _ e,fun z=>by
    rcases zW.mp (I.stkSub p.1 z)with e | e
    ·exact ne e
    ·exact nf e,d⟩
  ·have e:p=(D,oD):=by simpa using hp
   subst e
   refine⟨hD,I.hok.fresh hDs,hDC,fun z=>?_,hDc⟩
   rcases zW.mp (I.stkSub D z)with e | e
   ·have h1:=zG I.lt hDs
    rw[e]at h1
    exact zBH _ h1
   ·exact I.nofs hDs e
 hok:=I.hok.kept k
 len:=by unfold capt;rw[zB];exact S.len
end
noncomputable def PF(X:Cx)(ifs:List Expr)(t:TT):Prop :=
 ∀ (pins:List (Addr×Obj)) (s:Shared) (σ:St) (H:Hp) (Q:Bool->Hp->Prop),Inv X pins σ H s->t σ H Q ->
  wpAny (model X.prog X.w) X.A (forIn ifs true fun c r=>if r=true then do let ok <- isTrue c X.env (eval c X.env);pure (ForInStep.yield ok)else pure (ForInStep.yield r)) (TP X pins σ Q) X.xe s
noncomputable def tTru:TT:=fun _ H Q=>Q true H
theorem pf_nil{X:Cx}:PF X [] tTru:=fun _ _ _ H _ I h=>wpAny_tests_nil ⟨H,I,h⟩
section
variable{prog:Program}{w:World}{A:Around}{E:Value->Shared->Prop}{R:Result->Shared->Prop}{s:Shared}
theorem codeAny_compLoop_any{elt target iter:Expr}{ifs:List Expr}{scope:Scope}{pos:Pos}{it acc:Value}{env:Env}(I:Nat->Shared->Prop)
  (turn:∀ n s,I n s->wpAny (model prog w) A (pyNext it) (fun r s₁=>match r with
   |none=>R (.ok .next) s₁
   |some v=>wpAny (model prog w) A (letOwnedTupleGo target it v) (fun _ s₁'=>wpAny (model prog w) A (assign target env v) (fun _ s₂ =>
     wpAny (model prog w) A (forIn ifs true fun c r=>if r=true then do let ok <- isTrue c env (eval c env);pure (ForInStep.yield ok)else pure (ForInStep.yield r)) (fun ok s₃ =>
      if ok=true then wpAny (model prog w) A (eval elt env) (fun x s₄ =>
       wpAny (model prog w) A (call (.builtin "list.append") [acc,x]) (fun _ s₅=>∃ m,m<n/\I m s₅) (fun _ _=>False) s₄) (fun _ _=>False) s₃
      else ∃ m,m<n/\I m s₃) (fun _ _=>False) s₂) (fun _ _=>False) s₁') (fun _ _=>False) s₁) (fun _ _=>False) s)
  (n:Nat) (h:I n s) :
  codeAny (model prog w) A (.compLoop (.ListComp elt [⟨target,iter,ifs,0⟩] scope pos) 0 it acc env) R s:=by
 refine codeAny_loop rfl I (fun n s hI=>?_) n h
 show wpAny _ A ((compTurn (.ListComp elt [⟨target,iter,ifs,0⟩] scope pos) 0 it acc env).onRaise (fun x=>do noteFrame x env;theTreesLotGoes x)) _ _ s
 refine wpAny_noted ?_
 rw[compTurn_list]
 refine zA (wpAny_standAt (zA (wpAny_mono (turn n s hI) (fun r s₁ h₁=>?_) fun _ _ h'=>h'.elim)))
 cases r with
 |none=>exact zE h₁
 |some v =>
  refine zA (wpAny_mono h₁ (fun _ s₁' h₁'=>?_) fun _ _ h'=>h'.elim)
  refine zA (wpAny_mono h₁' (fun _ s₂ h₂=>zA (wpAny_mono h₂ (fun ok s₃ h₃=>?_) fun _ _ h'=>h'.elim)) fun _ _ h'=>h'.elim)
  cases ok with
  |false=>exact zE ⟨rfl,h₃⟩
  |true =>
   exact zA (zA (wpAny_mono h₃ (fun x s₄ h₄=>zA (wpAny_mono h₄ (fun _ s₅ h₅=>zE (zE ⟨rfl,h₅⟩)) fun _ _ h'=>h'.elim)) fun _ _ h'=>h'.elim))
end
noncomputable def Kp:St->St->Prop
 |[],[]=>True
 |none :: r,_ :: r'=>Kp r r'
 |some v :: r,o :: r'=>o=some v/\Kp r r'
 | _,_=>False
theorem Kp.length:∀ {a b:St},Kp a b->a.length=b.length
 |[],[],_=>rfl
 |none :: r,_ :: r',h=>congrArg (· + 1) (Kp.length (a:=r) (b:=r') h)
 |some v :: r,o :: r',h=>congrArg (· + 1) (Kp.length (a:=r) (b:=r') h.2)
 |[],_ :: _,h=>h.elim
 |none :: _,[],h=>h.elim
 |some _ :: _,[],h=>h.elim
theorem Kp.get:∀ {a b:St},Kp a b->∀ (i:Nat) (v:V),a[i]?=some (some v)->b[i]?=some (some v)
 |[],[],_,i,v,e=>e
 |none :: r,_ :: r',h,0,v,e=>by simp at e
 |none :: r,_ :: r',h,i+1,v,e=>by simpa using Kp.get (a:=r) (b:=r') h i v (by simpa using e)
 |some w :: r,o :: r',h,0,v,e=>by rw[h.1];simpa using e
 |some w :: r,o :: r',h,i+1,v,e=>by simpa using Kp.get (a:=r) (b:=r') h.2 i v (by simpa using e)
 |[],_ :: _,h,_,_,_=>h.elim
 |none :: _,[],h,_,_,_=>h.elim
 |some _ :: _,[],h,_,_,_=>h.elim
noncomputable def compTurns(J:It)(cap:List (Option Nat))(σ:St)(H1:Hp)(Q:VK)(g:TG)(tc:TT)(te:TE):Prop:=∃ (n:Nat) (P:Nat->List V->Hp->Prop),n<=sizeLine/\P 0 [] H1 /\
 ∀ i ys H,ys.length<=i->i<=n->P i ys H->(J.stop i H/\∀ D,H D=none->Q (.ref D) (upd H D (.lst ys))) \/
  (i<n/\J.go i H/\∀ x H',J.yld i H x H'->g x (capt cap σ) H' fun σ2 H2=>Kp (capt cap σ) σ2/\tc σ2 H2 fun b H3=>if b=true then te σ2 H3 fun y H4=>P (i+1) (ys++[y]) H4 else P (i+1) ys H3)
noncomputable def tComp(cap:List (Option Nat))(wi:TI)(g:TG)(tc:TT)(te:TE):TE:=fun σ H Q=>wi σ H fun J H1=>compTurns J cap σ H1 Q g tc te
noncomputable def CompEnd(X:Cx)(pins:List (Addr×Obj))(σ:St)(Q:VK)(acc:Value)(C:Addr)(r:Result)(s':Shared):Prop :=
 match r with
 | .ok _=>∃ v H',Inv X pins σ H' s'/\RelV v acc/\Q v H'/\(∃ m,s'.heap.Ns C m)/\FpOk X pins H' C
 | .error _=>False
section
variable{X:Cx}{elt tg iter:Expr}{ifs:List Expr}{scope:Scope}{pos:Pos}{N':List Str}{cap:List (Option Nat)}{wi:TI}{g:TG}{tc:TT}{te:TE}
theorem comp_run(hc:X.calm=true)(S:CompScope N' cap X.N X.env.scope scope)(hi:PI X tg iter wi)(hg:∀ C s H fp,PG (cxIn X N' scope C s H fp) tg g)
  (ht:∀ C s H fp,PF (cxIn X N' scope C s H fp) ifs tc) (he:∀ C s H fp,PE (cxIn X N' scope C s H fp) elt te)
  {pins:List (Addr×Obj)}{s:Shared}{σ:St}{H:Hp}{Q:VK} (I:Inv X pins σ H s) (h:tComp cap wi g tc te σ H Q) :
  wpAny (model X.prog X.w) X.A (eval iter X.env) (fun x s₁=>wpAny (model X.prog X.w) X.A (pyIter x) (fun it s₂=>wpAny (model X.prog X.w) X.A (newList []) (fun acc s₃ =>
   wpAny (model X.prog X.w) X.A (newFunctionEnv scope X.env.globals (closCl X.env.cells scope.names []) [] X.env.qual none .none (some X.env)) (fun cenv s₄ =>
    codeAny (model X.prog X.w) X.A (.compStart (.ListComp elt [⟨tg,iter,ifs,0⟩] scope pos) 0 it acc { cenv with scope:=relabel scope X.env }) (CompEnd X pins σ Q acc cenv.locals) s₄) X.xe s₃) X.xe s₂) X.xe s₁) X.xe s:=by
 refine thn (hi pins s σ H _ I h) fun v s1 h1=>thn h1 fun itv s2 h2=>?_
 obtain⟨it,fp,tn,J,H2,e,I2,T,st2,f2,n,P,hn,p0,turn⟩:=h2
 subst e
 refine wpAny_newObj_type (wpAny_newFunctionEnv S.nocell (by intro y hy;simp at hy) (fun h₁ hns₁ hsb₁=>?_) S.kind)
 dsimp only at hns₁ hsb₁ ⊢
 generalize hHp:s2.heap.push { cls:=.type "list",dict:=none,data:=.seq ([]:List Value).toArray } = Hq at hns₁ hsb₁ ⊢
 have hC:Hq.objs.size=s2.heap.objs.size+1:=by rw[<- hHp,Heap.size_push]
 have hDC:s2.heap.objs.size≠Hq.objs.size:=by rw[hC];exact zAC (zAY _)
 have hCle:s2.heap.objs.size<=Hq.objs.size:=by rw[hC];exact zCG _
 have old:∀ b o,s2.heap.get? b=some o->h₁.get? b=some o:=fun b o e =>
  hsb₁.extBut b o (by rw[hC];exact zAC (Nat.lt_succ_of_lt (zK e))) (zD _ (hHp▸zD _ e))
 have hacc:h₁.PlainList s2.heap.objs.size #[]:=⟨_,hsb₁.extBut _ _ hDC (zD _ (hHp▸zU _ rfl))⟩
 have hfo:∀ b∈fp,∃ o,s2.heap.get? b=some o:=fun b hb=>let ⟨o,e,_⟩:=T.obj _ _ st2 b hb;⟨o,e⟩
 have st4:tn 0 h₁:=T.keep _ _ _ st2 fun b _ o e=>old b o e
 let D:Addr:=s2.heap.objs.size
 let C:Addr:=Hq.objs.size
 let Y:Cx:=cxIn X N' scope C s2 H2 fp
 have hDfp:D∉fp:=fun hb=>by
  obtain⟨o,e⟩:=hfo D hb
  exact zBH _ (zK e)
 -- the iterator's objects,seen from within
 have stat:∀ {H':Hp}{oD:Obj},(∀ b∈fp,H' b=none)->∀ b∈fp,FpOk Y (pins++[(D,oD)]) H' b:=fun {H' oD} hn b hb=>by
  obtain⟨f0,f1,fx,f3,f4,f5⟩:=f2 b hb
  obtain⟨o,e⟩:=hfo b hb
  refine⟨hn b hb,fun z=>?_,fun z=>?_,.inl hb,fun x c e=>f4 x c (closCl_sound _ _ (S.clos I2) (fun y c e=>by simp at e) x c e),fun p hp=>?_⟩
  ·have h1:=zG (zK e) hCle
   have z:b=Hq.objs.size:=z
   rw[z]at h1
   exact zBH _ h1
  ·rcases zW.mp (I2.stkSub b z)with e | e
   ·exact f1 e
   ·exact fx e
  ·have hp:p∈X.pn++(pins++[(D,oD)]):=hp
   rw[<- zAV]at hp
   rcases zAB.mp hp with hp | hp
   ·exact f5 p hp
   ·have q:p=(D,oD):=by simpa using hp
    subst q
    exact fun z=>hDfp (by rw[show D=b from z];exact hb)
 have loop:∀ s₃:Shared,s₃ = { s2 with heap:=h₁,toks:=s2.toks+([]:List (Str×Value)).length } ->
   codeAny (model X.prog X.w) X.A (.compLoop (.ListComp elt [⟨tg,iter,ifs,0⟩] scope pos) 0 (.ref it) (.ref s2.heap.objs.size) (compEnvC scope (closCl X.env.cells scope.names []) Hq.objs.size X.env))
    (CompEnd X pins σ Q (.ref s2.heap.objs.size) Hq.objs.size) s₃:=by
  rintro s₃ rfl
  have cellD:∀ x c,Y.env.cells.lookup x=some c->c≠D:=fun x c e z=>by
   obtain⟨v,q⟩:=I2.cell x c (closCl_sound _ _ (S.clos I2) (fun y c e=>by simp at e) x c e)
   have h1:=q.lt
   rw[show c=s2.heap.objs.size from z]at h1
   exact zBH _ h1
  have pinD:∀ p∈X.pn++pins,p.1≠D:=fun p hp z=>by
   have h1:=zK (I2.pin p hp).1
   rw[show p.1=s2.heap.objs.size from z]at h1
   exact zBH _ h1
  have inD:∀ {pl:List (Addr×Obj)}{oD:Obj},(D,oD)∈Y.pn++((pins++[(D,oD)])++pl):=fun {pl oD}=>zAR _ (zAZ _ (zAR _ (by simp)))
  have inF:∀ {pl:List (Addr×Obj)}{oD:Obj}{p:Addr×Obj},p∈pl->p∈Y.pn++((pins++[(D,oD)])++pl):=fun {pl oD p} hp=>zAR _ (zAR _ hp)
  refine codeAny_compLoop_any (fun m s'=>∃ i ys H' its ep,m=n-i/\i<=n/\ys.length<=i/\Vals ys its/\Inv Y (pins++[(D,{ cls:=.type "list",data:=.seq its.toArray ep })]) (capt cap σ) H' s'/\tn i s'.heap/\(∀ b∈fp,H' b=none)/\P i ys H') ?_ n ?_
  ·rintro m s3 ⟨i,ys,H3,its,ep,rfl,hin,hyl,rv,I3,st3,fr3,p3⟩
   rcases turn i ys H3 hyl hin p3 with⟨stop,q⟩ |⟨hlt,go,step⟩
   ·refine thn (T.done Y rfl rfl rfl hc i _ s3 _ H3 (fun _ _=>False) I3 (stat fr3) st3 stop) fun r s4 ⟨hr,I4⟩=>?_
    subst hr
    obtain⟨eD,nD,_⟩:=I4.pin (D,{ cls:=.type "list",data:=.seq its.toArray ep }) (zAR _ (zAR _ (by simp)))
    have nD:H3 D=none:=nD
    have okn:ObjOk X.prog X.w (upd H3 D (.lst ys)) s4.heap D (.lst ys):=⟨zC hyl (zC hin hn),its,ep,rv,eD⟩
    have hok:HOk X.prog X.w (upd H3 D (.lst ys)) s4.heap:=fun b u e=>by
     by_cases hb:b=D
     ·subst hb;rw[upd_same]at e;cases e;exact okn
     ·rw[upd_ne hb]at e
      exact(I4.hok b u e).stay (fun c v _ q=>q) (fun c q=>by rw[upd_ne (ne_of_none q nD)];exact q) fun c xs q=>by rw[upd_ne (ne_of_none q nD)];exact q
    have B:=I4.base
    have u:Un (frs X.stack) fp H2 (upd H3 D (.lst ys)) s2.heap s4.heap :=
     ⟨B.keep,B.slot,fun b o e n hx=>by rw[upd_ne (zAC (zK e))];exact B.free b o e n hx,B.there,fun b xs e=>by rw[upd_ne (ne_of_none (B.tups b xs e) nD)];exact B.tups b xs e,
      fun b o xs e=>by rw[upd_ne (ne_of_none (B.frzs b o xs e) nD)];exact B.frzs b o xs e,fun b ps e=>by
       obtain⟨more,z⟩:=B.tbls b ps e
       exact⟨more,by rw[upd_ne (ne_of_none z nD)];exact z⟩⟩
    have IX:Inv X pins σ (upd H3 D (.lst ys)) s4:=I2.call' (ch:=fp) I4.os u hok I4.bare fun b hb=>by
     obtain⟨f0,f1,fx,f3,f4,f5⟩:=f2 b hb
     exact⟨f3,f1,f4,f5⟩
    have nC:(upd H3 D (.lst ys)) Hq.objs.size=none:=by rw[upd_ne (Ne.symm hDC)];exact I4.free
    obtain⟨m',hm',_⟩:=I4.loc
    exact⟨.ref D,_,IX,rfl,q D nD,⟨m',hm'⟩,I2.fpOk hCle nC⟩
   ·refine thn (T.item Y rfl rfl rfl hc i _ s3 _ H3 (fun _ _=>False) I3 (stat fr3) st3 go) fun r s4 ⟨u,hr,h4⟩=>?_
    subst hr
    refine thn h4 fun _ s5 ⟨x,H5,I5,r5,y5,st5,fr5⟩=>?_
    have I5':=I5.pinned (stat fr5) (T.obj _ _ st5)
    refine thn (hg C s2 H2 fp _ s5 _ H5 x u _ I5' r5 (step x H5 y5)) fun _ s6 ⟨σ6,H6,I6,kp,q6⟩=>?_
    refine thn (ht C s2 H2 fp _ s6 σ6 H6 _ I6 q6) fun b s7 ⟨H7,I7,q7⟩=>?_
    cases b with
    |false =>
     rw[if_neg zJ]at q7 ⊢
     refine⟨n-(i+1),Nat.sub_succ_lt_self n i hlt,i+1,ys,H7,its,ep,rfl,hlt,Nat.le_succ_of_le hyl,rv,I7.unpinned.weak kp.length kp.get,?_,fun b hb=>?_,q7⟩
     ·exact T.keep _ _ _ st5 fun b hb o e=>(I7.pin (b,o) (inF (mem_pinsAt hb e))).1
     ·obtain⟨o,e,d⟩:=T.obj _ _ st5 b hb
      exact(I7.pin (b,o) (inF (mem_pinsAt hb e))).2.1
    |true =>
     rw[if_pos rfl]at q7 ⊢
     refine thn (he C s2 H2 fp _ s7 σ6 H7 _ I7 q7) fun yv s8 ⟨y,H8,I8,r8,q8⟩=>?_
     obtain⟨eD,nD,_⟩:=I8.pin (D,{ cls:=.type "list",data:=.seq its.toArray ep }) inD
     have hsz:its.toArray.size<=sizeLine:=by
      rw[zQ,<- rv.length]
      exact zC hyl (zC hin hn)
     refine wpAny_list_append_plain (items:=its.toArray) ⟨ep,eD⟩ (fun h9 pl9 sb9=>?_) hsz
     obtain⟨ep',e9⟩:=pl9
     have e9:h9.get? D=some { cls:=.type "list",data:=.seq (its++[yv]).toArray ep' }:=by rw[e9];simp
     have Ia:Inv Y pins σ6 H8 s8:=I8.pins_of fun p hp=>I8.pin p (zAR _ (zAZ _ (zAZ _ hp)))
     have Ib:Inv Y pins σ6 H8 { s8 with heap:=h9 }:=Ia.turned (it:=D) (t':=s8.toks) (fun b o hb e=>(sb9.2 b hb).trans e) nD hDC (.inr (zH _)) cellD pinD
     have Ic:Inv Y (pins++[(D,{ cls:=.type "list",data:=.seq (its++[yv]).toArray ep' })]) σ6 H8 { s8 with heap:=h9 }:=Ib.pins_of fun p hp=>by
      rcases zAB.mp hp with hp | hp
      ·exact Ib.pin p (zAR _ hp)
      ·have q:p=(D,{ cls:=.type "list",data:=.seq (its++[yv]).toArray ep' }):=by simpa using hp
       subst q
       obtain⟨_,_,z1,z2,_⟩:=I8.pin (D,{ cls:=.type "list",data:=.seq its.toArray ep }) inD
       exact⟨e9,nD,z1,z2,fun v z=>by cases z⟩
     refine⟨n-(i+1),Nat.sub_succ_lt_self n i hlt,i+1,ys++[y],H8,its++[yv],ep',rfl,hlt,by simp;omega,Vals.append rv (.cons r8 .nil),Ic.weak kp.length kp.get,?_,fun b hb=>?_,q8⟩
     ·exact T.keep _ _ _ st5 fun b hb o e=>sb9.extBut b o (fun z=>hDfp (by rw[show D=b from Eq.symm z];exact hb)) (I8.pin (b,o) (inF (mem_pinsAt hb e))).1
     ·obtain⟨o,e,d⟩:=T.obj _ _ st5 b hb
      exact(I8.pin (b,o) (inF (mem_pinsAt hb e))).2.1
  ·obtain⟨ep,e⟩:=hacc
   refine⟨0,[],H2,[],ep,rfl,zAO _,zH _,.nil,?_,st4,fun b hb=>(f2 b hb).1,p0⟩
   exact cxIn_inv (s4:={ s2 with heap:=h₁,toks:=s2.toks+([]:List (Str×Value)).length }) S I2 hCle f2 hfo rfl rfl old hns₁ e (zH _) hDC fun v z=>by cases z
 exact codeAny_compStart_list (loop _ rfl) (T.self X.A 0 _ _ _ st4 (loop _ rfl))
theorem pe_comp(hc:X.calm=true)(S:CompScope N' cap X.N X.env.scope scope)(hi:PI X tg iter wi)(hg:∀ C s H fp,PG (cxIn X N' scope C s H fp) tg g)
  (ht:∀ C s H fp,PF (cxIn X N' scope C s H fp) ifs tc) (he:∀ C s H fp,PE (cxIn X N' scope C s H fp) elt te)
  (hs:∀ x,foldedSetIterable iter X.env x=pure x:=by intro _;rfl):PE X (.ListComp elt [⟨tg,iter,ifs,0⟩] scope pos) (tComp cap wi g tc te):=by
 intro pins s σ H Q I h
 rw[eval_ListComp]
 refine wpAny_comprehension_free (use:=none) rfl hs (closureFor_cells (S.clos I)) S.kind S.loc (thn (comp_run (pos:=pos) hc S hi hg ht he I h) fun x s1 h1=>thn h1 fun it s2 h2=>thn h2 fun acc s3 h3=>thn h3 fun cenv s4 h4=>?_)
 refine codeAny_mono h4 fun r s' hr=>?_
 cases r with
 |error x=>exact hr.elim
 |ok f =>
  obtain⟨v,H',I',rv,q,⟨m,hn⟩,f0,f1,f2,f3,f4,f5⟩:=hr
  refine⟨m,hn,fun h' sb=>⟨v,H',I'.turned (it:=cenv.locals) (t':=s'.toks) (fun b o hb e=>(sb.2 b hb).trans e) f0 f1 f3 f4 f5,rv,q⟩⟩
theorem ps_comp{i:Nat}{x:Str}{pos' spos:Pos}(hN:X.N.Nodup)(hx:X.N[i]?=some x)(hl:Loc X.env.scope x)(hc:X.calm=true)(S:CompScope N' cap X.N X.env.scope scope)(hi:PI X tg iter wi)(hg:∀ C s H fp,PG (cxIn X N' scope C s H fp) tg g)
  (ht:∀ C s H fp,PF (cxIn X N' scope C s H fp) ifs tc) (he:∀ C s H fp,PE (cxIn X N' scope C s H fp) elt te)
  (hs:∀ x,foldedSetIterable iter X.env x=pure x:=by intro _;rfl) (hsw:swapsWith (.ListComp elt [⟨tg,iter,ifs,0⟩] scope pos) (some (.Name x pos')) spos.line X.env=pure true:=by rfl)
  (hf:X.fn x=true\/X.env.scope.names.lookup x=some .local:=by first | exact .inl rfl | exact .inr rfl | assumption) :
  PS X (.Assign [.Name x pos'] (.ListComp elt [⟨tg,iter,ifs,0⟩] scope pos) spos) (tAsg (tComp cap wi g tc te) (gName i)):=by
 intro pins s σ H D I h
 rw[exec_Assign_Name_used _ _ _ _ hsw]
 refine zA (wpAny_standAt (zA ?_))
 show wpAny _ _ (do let _ <- comprehension (.ListComp elt [⟨tg,iter,ifs,0⟩] scope pos) scope X.env _ (newList []) false (eval iter X.env) (some (assign (.Name x pos') X.env))) _ _ s
 refine zA (wpAny_mono (wpAny_comprehension_free (use:=some (assign (.Name x pos') X.env)) (Q:=fun _ s'=>SP X pins D .next s') rfl hs (closureFor_cells (S.clos I)) S.kind S.loc
  (thn (comp_run (pos:=pos) hc S hi hg ht he I h) fun x s1 h1=>thn h1 fun it s2 h2=>thn h2 fun acc s3 h3=>thn h3 fun cenv s4 h4=>?_)) (fun _ s' hq=>zE (zE hq)) fun _ _ e=>e)
 refine codeAny_mono h4 fun r s' hr=>?_
 cases r with
 |error x=>exact hr.elim
 |ok f =>
  obtain⟨v,H',I',rv,q,⟨m,hn⟩,f0,f1,f2,f3,f4,f5⟩:=hr
  show wpAny _ _ (assign (.Name _ pos') X.env acc) _ _ _
  refine wpAny_assign_Name (store_ok2 I' hN hx hl rv (fun s'' I'' ⟨a,sb,ha⟩=>?_) hf)
  have hac:cenv.locals≠a:=by
   rcases ha with ha | ha
   ·rw[ha];exact f1
   ·exact Ne.symm (f4 _ a ha)
  refine⟨m,hn.sameBut sb hac,fun h' sb'=>⟨_,H',I''.turned (it:=cenv.locals) (t':=s''.toks) (fun b o hb e=>(sb'.2 b hb).trans e) f0 f1 f3 f4 f5,q⟩⟩
end
end L2
namespace Srt
open PySem PyProof.Rows
noncomputable def LtOk(κ:KeyKind)(kd:SortKind)(prog:Program)(w:World)(A:Around)(s:Shared):Prop :=
 ∀ (E:Value->Shared->Prop) (x y:Keyed) (a b:κ.α) (Q:Option Bool->SortSt->Prop) (st:SortSt),kindOf st=kd->κ.keyOf x.1=some a->κ.keyOf y.1=some b ->
  Q (some (κ.blt a b)) st->wpS (model prog w) A E s (lt' x y) Q st
structure SB(kd:SortKind)(a₀ b:Array Keyed)(lo:Nat)(pd:Array (Nat×Nat×Nat))(st:SortSt):Prop where
 perm:(arrOf st).Perm a₀
 kind:kindOf st=kd
 failed:failedOf st=none
 pend:pendingOf st=pd
 low:∀ k,k<lo->(arrOf st)[k]?=b[k]?
noncomputable def SIn(κ:KeyKind)(xs:Array Keyed)(lo n:Nat):Prop:=∀ i j,i<=j->j<n->κ.kle (KK κ xs (lo+i)) (KK κ xs (lo+j))
noncomputable def DIn(κ:KeyKind)(xs:Array Keyed)(lo n:Nat):Prop:=∀ i j,i<=j->j<n->κ.kle (KK κ xs (lo+j)) (KK κ xs (lo+i))
theorem at_key{κ:KeyKind}{a₀ xs:Array Keyed}(hp:xs.Perm a₀)(h0:KeysOf κ a₀){i:Nat}(hi:i<xs.size):∃ p a,xs[i]?=some p/\κ.keyOf p.1=some a/\KK κ xs i=a:=by
 have hm:xs[i]∈a₀.toList:=(Array.perm_iff_toList_perm.mp hp).mem_iff.mp (by simp)
 obtain⟨a,ha⟩:=h0 _ hm
 have e:xs[i]?=some xs[i]:=getElem?_pos _ i hi
 refine⟨xs[i],a,e,ha,?_⟩
 unfold KK;rw[e];simp[ha]
section
variable{prog:Program}{w:World}{A:Around}{E:Value->Shared->Prop}{s:Shared}{a₀ b:Array Keyed}{κ:KeyKind}{kd:SortKind}{lo:Nat}{pd:Array (Nat×Nat×Nat)}
theorem SB.size{st:SortSt}(h:SB kd a₀ b lo pd st):(arrOf st).size=a₀.size:=h.perm.size_eq
theorem SB.arr{st:SortSt}(h:SB kd a₀ b lo pd st){xs:Array Keyed}(hp:xs.Perm (arrOf st))(hl:∀ k,k<lo->xs[k]?=(arrOf st)[k]?):SB kd a₀ b lo pd (setArr st xs) :=
 ⟨hp.trans h.perm,h.kind,h.failed,h.pend,fun k hk=>(hl k hk).trans (h.low k hk)⟩
theorem SB.mirror{st:SortSt}(h:SB kd a₀ b lo pd st){i j:Nat}(hi:lo<=i)(hj:j<=a₀.size):SB kd a₀ b lo pd (setArr st (mirror (arrOf st) i j ((j-i) / 2))) :=
 h.arr (mirror_perm _ _ _ _) fun k hk=>by rw[getElem?_mirror_all (by rw[h.size];exact hj),if_neg (by lia)]
theorem elem_ok{arr:Array Keyed}{i:Nat}{p:Keyed}{Q:Keyed->SortSt->Prop}{st:SortSt}(h:arr[i]?=some p)(hq:Q p st):wpS (model prog w) A E s (elem' arr i) Q st:=by
 rw[elem'_eq,h];exact wpS_pure hq
theorem ltAt_ok{st:SortSt}{i j:Nat}{Q:Option Bool->SortSt->Prop}(hO:LtOk κ kd prog w A s)(hB:SB kd a₀ b lo pd st)(h0:KeysOf κ a₀)(hi:i<a₀.size)(hj:j<a₀.size)
  (h:Q (some (κ.blt (KK κ (arrOf st) i) (KK κ (arrOf st) j))) st):wpS (model prog w) A E s (ltAt' i j) Q st:=by
 obtain⟨x,a,e1,ha,ka⟩:=at_key hB.perm h0 (i:=i) (by rw[hB.size];exact hi)
 obtain⟨y,c,e2,hc,kc⟩:=at_key hB.perm h0 (i:=j) (by rw[hB.size];exact hj)
 rw[ka,kc]at h
 rw[ltAt'_eq]
 refine wpS_bind (wpS_get (wpS_bind (elem_ok e1 (wpS_bind (elem_ok e2 ?_)))))
 exact hO E x y a c Q st hB.kind ha hc h
theorem rev_ok{st:SortSt}{i j:Nat}{Q:Unit->SortSt->Prop}(h:Q () (setArr st (mirror (arrOf st) i j ((j-i) / 2)))):wpS (model prog w) A E s (reverseSlice' i j) Q st:=by
 rw[reverseSlice'_eq];exact wpS_modify h
theorem bcong{σ α β:Type}{m m':StateT σ Sem α}{f f':α->StateT σ Sem β}(h:m=m')(hf:∀ a,f a=f' a):(m >>= f)=(m' >>= f'):=by
 subst h
 rw[show f=f' from funext hf]
noncomputable def asc(lo a nrem:Nat):StateT SortSt Sem AscSt :=
 forIn [a:nrem] ((none,a):AscSt) fun _ c=>do
  let x <- ltAt' (lo+c.2) (lo+c.2-1)
  match x with
  |some sm=>if sm=true then pure (ForInStep.done (none,c.2))else pure (ForInStep.yield (none,c.2+1))
  | _=>pure (ForInStep.done (some none,c.2))
noncomputable def tl3(lo n nrem:Nat):StateT SortSt Sem (Option Nat):=do
 reverseSlice' lo (lo+n)
 let c <- asc lo n nrem
 match c.1 with
 |some r=>pure r
 |none=>pure (some c.2)
noncomputable def dsc(lo n nrem:Nat):StateT SortSt Sem DescSt :=
 forIn [n:nrem] ((none,n,0):DescSt) fun _ c=>do
  let x <- ltAt' (lo+c.2.1) (lo+c.2.1-1)
  match x with
  |some sm =>
   if sm=true then
    if c.2.2 > 0 then do
     reverseSlice' (lo+c.2.1-(c.2.2+1)) (lo+c.2.1)
     pure (ForInStep.yield (none,c.2.1+1,0))
    else pure (ForInStep.yield (none,c.2.1+1,0))
   else do
    let x <- ltAt' (lo+c.2.1-1) (lo+c.2.1)
    match x with
    |some la =>
     if la=true then pure (ForInStep.done (none,c.2.1,c.2.2))
     else pure (ForInStep.yield (none,c.2.1+1,c.2.2+1))
    | _=>pure (ForInStep.done (some none,c.2.1,c.2.2))
  | _=>pure (ForInStep.done (some none,c.2.1,c.2.2))
noncomputable def dpt(lo n nrem:Nat):StateT SortSt Sem (Option Nat):=do
 liftM (rule "list.sort.descending-run")
 let c <- dsc lo (n+1) nrem
 match c.1 with
 |some r=>pure r
 |none =>
  if c.2.2 > 0 then do
   reverseSlice' (lo+c.2.1-(c.2.2+1)) (lo+c.2.1)
   tl3 lo c.2.1 nrem
  else tl3 lo c.2.1 nrem
theorem count_eq(lo nrem:Nat):countRun' lo nrem=(do
  let c <- asc lo 1 nrem
  match c.1 with
  |some r=>pure r
  |none =>
   if(c.2 == nrem)=true then pure (some c.2)
   else if c.2 > 1 then do
    let x <- ltAt' lo (lo+c.2-1)
    match x with
    |some rose=>if rose=true then pure (some c.2)else do
      reverseSlice' lo (lo+c.2)
      dpt lo c.2 nrem
    | _=>pure none
   else dpt lo c.2 nrem):=by
 rw[countRun'_eq]
 unfold dpt tl3 dsc asc
 refine bcong rfl fun c=>?_
 obtain⟨r,n⟩:=c
 cases r with
 |some r=>rfl
 |none =>
  dsimp only
  split
  ·rfl
  ·split
   ·refine bcong rfl fun x=>?_
    cases x with
    |none=>rfl
    |some rose =>
     dsimp only
     split
     ·rfl
     ·refine bcong rfl fun _=>bcong rfl fun _=>bcong rfl fun s2=>?_
      obtain⟨r2,n2,q2⟩:=s2
      cases r2 with
      |some r2=>rfl
      |none =>
       dsimp only
       split
       ·refine bcong rfl fun _=>bcong rfl fun _=>bcong rfl fun s3=>?_
        obtain⟨r3,n3⟩:=s3
        cases r3 <;> rfl
       ·refine bcong rfl fun _=>bcong rfl fun s3=>?_
        obtain⟨r3,n3⟩:=s3
        cases r3 <;> rfl
   ·refine bcong rfl fun _=>bcong rfl fun s2=>?_
    obtain⟨r2,n2,q2⟩:=s2
    cases r2 with
    |some r2=>rfl
    |none =>
     dsimp only
     split
     ·refine bcong rfl fun _=>bcong rfl fun _=>bcong rfl fun s3=>?_
      obtain⟨r3,n3⟩:=s3
      cases r3 <;> rfl
     ·refine bcong rfl fun _=>bcong rfl fun s3=>?_
      obtain⟨r3,n3⟩:=s3
      cases r3 <;> rfl
theorem asc_ok{st:SortSt}{a nrem:Nat}{Q:AscSt->SortSt->Prop}(hO:LtOk κ kd prog w A s)(h0:KeysOf κ a₀)(hn:lo+nrem<=a₀.size)(ha:1<=a)(han:a<=nrem)(hB:SB kd a₀ b lo pd st)(hs:SIn κ (arrOf st) lo a)
  (h:∀ n,a<=n->n<=nrem->SIn κ (arrOf st) lo n->(n=nrem\/κ.klt (KK κ (arrOf st) (lo+n)) (KK κ (arrOf st) (lo+n-1)))->Q (none,n) st):wpS (model prog w) A E s (asc lo a nrem) Q st:=by
 unfold asc
 refine wpS_forRange (I:=fun x c st'=>st'=st/\c=(none,x)/\SIn κ (arrOf st) lo x) ?step ?fin ⟨rfl,rfl,hs⟩
 case fin =>
  rintro c st' ⟨rfl,rfl,g⟩
  rw[show max a nrem=nrem by exact zaa han]at g ⊢
  exact h nrem han (zH _) g (.inl rfl)
 case step =>
  rintro x c st' hax hxn ⟨rfl,rfl,g⟩
  dsimp only
  refine wpS_bind (ltAt_ok hO hB h0 (by exact zai hn hxn) (by exact zfh hn ha hax hxn) ?_)
  cases q:κ.blt (KK κ (arrOf st') (lo+x)) (KK κ (arrOf st') (lo+x-1))with
  |true=>exact wpS_pure (h x hax (by exact zT hxn) g (.inr q))
  |false =>
   refine wpS_pure ⟨rfl,rfl,fun i j hij hj=>?_⟩
   by_cases z:j<x
   ·exact g i j hij z
   ·have z:j=x:=by exact zj7 (zi6 hj) z
    subst z
    by_cases y:i=j
    ·subst y;exact KeyOrd.kle_refl _
    ·have u:=g i (j-1) (by exact zby hij y) (by exact zh4 (zCX (zC ha hax)))
     rw[show lo+(j-1)=lo+j-1 by exact zar ha hax]at u
     exact KeyOrd.kle_trans u q
theorem tl3_ok{st:SortSt}{n nrem:Nat}{Q:Option Nat->SortSt->Prop}(hO:LtOk κ kd prog w A s)(h0:KeysOf κ a₀)(hn:lo+nrem<=a₀.size)(h1:1<=n)(hnn:n<=nrem)(hB:SB kd a₀ b lo pd st)(hs:DIn κ (arrOf st) lo n)
  (h:∀ m st',SB kd a₀ b lo pd st'->1<=m->m<=nrem->SIn κ (arrOf st') lo m->Q (some m) st'):wpS (model prog w) A E s (tl3 lo n nrem) Q st:=by
 unfold tl3
 have hsz:lo+n<=(arrOf st).size:=by rw[hB.size];exact zat hn hnn
 have hB':=hB.mirror (i:=lo) (j:=lo+n) (zH _) (by exact zat hn hnn)
 refine wpS_bind (rev_ok (wpS_bind (asc_ok hO h0 hn h1 hnn hB' ?_ fun m p1 p2 p3 _=>wpS_pure (h m _ hB' (by exact zC h1 p1) p2 p3))))
 intro i j hij hj
 show κ.kle (KK κ (mirror (arrOf st) lo (lo+n) ((lo+n-lo) / 2)) (lo+i)) (KK κ (mirror (arrOf st) lo (lo+n) ((lo+n-lo) / 2)) (lo+j))
 rw[KK_mirror hsz,KK_mirror hsz,if_pos (by exact zgs hij hj),if_pos (by exact zfs hj),show lo+(lo+n)-1-(lo+i)=lo+(n-1-i) by exact zca hij hj,show lo+(lo+n)-1-(lo+j)=lo+(n-1-j) by exact zbw hj]
 exact hs _ _ (by exact zbb hij hj) (by exact zff hij hj)
theorem dsc_ok{st:SortSt}{n nrem:Nat}{Q:DescSt->SortSt->Prop}(hO:LtOk κ kd prog w A s)(h0:KeysOf κ a₀)(hn:lo+nrem<=a₀.size)(h1:1<=n)(hnn:n<=nrem)(hB:SB kd a₀ b lo pd st)(hs:DIn κ (arrOf st) lo n)
  (h:∀ m q st',SB kd a₀ b lo pd st'->n<=m->m<=nrem->DIn κ (arrOf st') lo m->q+1<=m->(∀ i,m-(q+1)<=i->i<m->KK κ (arrOf st') (lo+i)=KK κ (arrOf st') (lo+m-1))->Q (none,m,q) st') :
  wpS (model prog w) A E s (dsc lo n nrem) Q st:=by
 unfold dsc
 refine wpS_forRange (I:=fun x c st'=>∃ q,c=(none,x,q)/\SB kd a₀ b lo pd st'/\DIn κ (arrOf st') lo x/\q+1<=x/\(∀ i,x-(q+1)<=i->i<x->KK κ (arrOf st') (lo+i)=KK κ (arrOf st') (lo+x-1))) ?step ?fin
  ⟨0,rfl,hB,hs,by exact h1,fun i h1 h2=>by rw[show lo+i=lo+n-1 by lia]⟩
 case fin =>
  rintro c st' ⟨q,rfl,g1,g2,g3,g4⟩
  rw[show max n nrem=nrem by exact zaa hnn]at g2 g3 g4 ⊢
  exact h nrem q st' g1 hnn (zH _) g2 g3 g4
 case step =>
  rintro x c st' hax hxn ⟨q,rfl,g1,g2,g3,g4⟩
  dsimp only
  have hsz:lo+x<=(arrOf st').size:=by rw[g1.size];exact zch hn hxn
  refine wpS_bind (ltAt_ok hO g1 h0 (by exact zai hn hxn) (by exact zbf hn hxn g3) ?_)
  cases t:κ.blt (KK κ (arrOf st') (lo+x)) (KK κ (arrOf st') (lo+x-1))with
  |true =>
   have step1:∀ xs:Array Keyed,(∀ k,KK κ xs k=KK κ (arrOf st') k)->DIn κ xs lo (x+1):=by
    intro xs hk i j hij hj
    rw[hk,hk]
    by_cases z:j<x
    ·exact g2 i j hij z
    ·have z:j=x:=by exact zj7 (zi6 hj) z
     subst z
     by_cases y:i=j
     ·subst y;exact KeyOrd.kle_refl _
     ·have u:=g2 i (j-1) (by exact zap hij g3 y) (by exact zh4 (zj9 (zCX g3)))
      rw[show lo+(j-1)=lo+j-1 by exact zab g3]at u
      exact KeyOrd.kle_trans (KeyOrd.kle_of_klt t) u
   dsimp only
   rw[if_pos rfl]
   by_cases y:q > 0
   ·rw[if_pos y]
    have eqs:∀ k,lo+x-(q+1)<=k->k<lo+x->KK κ (arrOf st') k=KK κ (arrOf st') (lo+x-1):=fun k k1 k2=>by
     have u:=g4 (k-lo) (by exact zaf g3 k1) (by exact zct g3 y k2)
     rwa [show lo+(k-lo)=k by exact zah g3 k1]at u
    refine wpS_bind (rev_ok (wpS_pure ⟨0,rfl,g1.mirror (by exact zax g3) (by exact zch hn hxn),step1 _ (KK_mirror_equal hsz eqs),by exact zAW (0+1) x,fun i h1 h2=>by rw[show lo+i=lo+(x+1)-1 by lia]⟩))
   ·rw[if_neg y]
    exact wpS_pure ⟨0,rfl,g1,step1 _ (fun _=>rfl),by exact zAW (0+1) x,fun i h1 h2=>by rw[show lo+i=lo+(x+1)-1 by lia]⟩
  |false =>
   dsimp only
   rw[if_neg zJ]
   refine wpS_bind (ltAt_ok hO g1 h0 (by exact zbf hn hxn g3) (by exact zai hn hxn) ?_)
   cases u:κ.blt (KK κ (arrOf st') (lo+x-1)) (KK κ (arrOf st') (lo+x))with
   |true=>exact wpS_pure (h x q st' g1 hax (by exact zT hxn) g2 g3 g4)
   |false =>
    have ex:KK κ (arrOf st') (lo+x)=KK κ (arrOf st') (lo+x-1):=KeyOrd.kle_antisymm u t
    refine wpS_pure ⟨q+1,rfl,g1,fun i j hij hj=>?_,by exact zfn g3,fun i h1 h2=>?_⟩
    ·by_cases z:j<x
     ·exact g2 i j hij z
     ·have z:j=x:=by exact zj7 (zi6 hj) z
      subst z
      by_cases y:i=j
      ·subst y;exact KeyOrd.kle_refl _
      ·rw[ex]
       have v:=g2 i (j-1) (by exact zap hij g3 y) (by exact zh4 (zj9 (zCX g3)))
       rwa [show lo+(j-1)=lo+j-1 by exact zab g3]at v
    ·rw[show lo+(x+1)-1=lo+x by lia]
     by_cases z:i=x
     ·subst z;rfl
     ·rw[ex];exact g4 i (by exact zbx g3 h1 h2 z) (by exact zj5 z (zi6 h2))
theorem dpt_ok{st:SortSt}{n nrem:Nat}{Q:Option Nat->SortSt->Prop}(hO:LtOk κ kd prog w A s)(h0:KeysOf κ a₀)(hn:lo+nrem<=a₀.size)(hnn:n+1<=nrem)(hB:SB kd a₀ b lo pd st)(hs:DIn κ (arrOf st) lo (n+1))
  (h:∀ m st',SB kd a₀ b lo pd st'->1<=m->m<=nrem->SIn κ (arrOf st') lo m->Q (some m) st'):wpS (model prog w) A E s (dpt lo n nrem) Q st:=by
 unfold dpt
 refine wpS_bind (wpS_lift (wpAny_rule ⟨rfl,wpS_bind (dsc_ok hO h0 hn (by exact zAW 1 n) hnn hB hs fun m q st' g1 m1 m2 g2 g3 g4=>?_)⟩))
 dsimp only
 have hsz:lo+m<=(arrOf st').size:=by rw[g1.size];lia
 by_cases y:q > 0
 ·rw[if_pos y]
  have eqs:∀ k,lo+m-(q+1)<=k->k<lo+m->KK κ (arrOf st') k=KK κ (arrOf st') (lo+m-1):=fun k k1 k2=>by
   have u:=g4 (k-lo) (by exact zaf g3 k1) (by exact zct g3 y k2)
   rwa [show lo+(k-lo)=k by exact zah g3 k1]at u
  refine wpS_bind (rev_ok (tl3_ok hO h0 hn (by exact zC (zAW 1 q) g3) m2 (g1.mirror (by exact zax g3) (by exact zat hn m2)) (fun i j hij hj=>?_) h))
  show κ.kle (KK κ (mirror (arrOf st') _ _ _) (lo+j)) (KK κ (mirror (arrOf st') _ _ _) (lo+i))
  rw[KK_mirror_equal hsz eqs,KK_mirror_equal hsz eqs]
  exact g2 i j hij hj
 ·rw[if_neg y]
  exact tl3_ok hO h0 hn (by exact zC (zAW 1 q) g3) m2 g1 g2 h
theorem count_ok{st:SortSt}{nrem:Nat}{Q:Option Nat->SortSt->Prop}(hO:LtOk κ kd prog w A s)(h0:KeysOf κ a₀)(hn:lo+nrem<=a₀.size)(h1:1<=nrem)(hB:SB kd a₀ b lo pd st)
  (h:∀ m st',SB kd a₀ b lo pd st'->1<=m->m<=nrem->SIn κ (arrOf st') lo m->Q (some m) st'):wpS (model prog w) A E s (countRun' lo nrem) Q st:=by
 rw[count_eq]
 refine wpS_bind (asc_ok hO h0 hn (zH 1) h1 hB (fun i j hij hj=>by rw[show i=j by exact zhv hij hj];exact KeyOrd.kle_refl _) fun n n1 n2 g1 g2=>?_)
 dsimp only
 by_cases z:n=nrem
 ·rw[if_pos (by simpa using z)]
  exact wpS_pure (h n st hB n1 n2 g1)
 ·rw[if_neg (by simpa using z)]
  have t:=g2.resolve_left z
  by_cases y:n > 1
  ·rw[if_pos y]
   refine wpS_bind (ltAt_ok hO hB h0 (by lia) (by exact zim hn n2 y) ?_)
   cases u:κ.blt (KK κ (arrOf st) lo) (KK κ (arrOf st) (lo+n-1))with
   |true=>exact wpS_pure (h n st hB n1 n2 g1)
   |false =>
    have hsz:lo+n<=(arrOf st).size:=by rw[hB.size];lia
    have eqs:∀ k,lo<=k->k<lo+n->KK κ (arrOf st) k=KK κ (arrOf st) (lo+n-1):=fun k k1 k2=>by
     have a1:=g1 0 (k-lo) (by exact zAO (k-lo)) (by exact zdd k1 k2)
     have a2:=g1 (k-lo) (n-1) (by exact zcp y k1 k2) (by exact zh4 (zj1 y))
     rw[show lo+(k-lo)=k by exact zac k1]at a1 a2
     rw[show lo+(n-1)=lo+n-1 by exact zan y k2]at a2
     exact KeyOrd.kle_antisymm a2 (KeyOrd.kle_trans u a1)
    dsimp only
    rw[if_neg zJ]
    refine wpS_bind (rev_ok (dpt_ok hO h0 hn (by exact zn5 (zj5 z n2)) (hB.mirror (zH _) (by exact zat hn n2)) (fun i j hij hj=>?_) h))
    show κ.kle (KK κ (mirror (arrOf st) _ _ _) (lo+j)) (KK κ (mirror (arrOf st) _ _ _) (lo+i))
    rw[KK_mirror_equal hsz eqs,KK_mirror_equal hsz eqs]
    by_cases v:j<n
    ·rw[eqs (lo+i) (by exact zI lo i) (by exact zgp hij v),eqs (lo+j) (by exact zI lo j) (by exact zbk v)];exact KeyOrd.kle_refl _
    ·have v:j=n:=by exact zj7 (zi6 hj) v
     subst v
     by_cases v:i=j
     ·subst v;exact KeyOrd.kle_refl _
     ·rw[eqs (lo+i) (by exact zI lo i) (by exact zfx hij v)];exact KeyOrd.kle_of_klt t
  ·rw[if_neg y]
   have z:n=1:=by exact Eq.symm (zj7 n1 y)
   subst z
   refine dpt_ok hO h0 hn (by exact zn5 (zj5 z h1)) hB (fun i j hij hj=>?_) h
   by_cases v:i=j
   ·subst v;exact KeyOrd.kle_refl _
   ·have e1:i=0:=by lia
    have e2:j=1:=by lia
    subst e1 e2
    exact KeyOrd.kle_of_klt t
theorem bin_ok{st:SortSt}{n ok:Nat}{Q:Bool->SortSt->Prop}(hO:LtOk κ kd prog w A s)(h0:KeysOf κ a₀)(hn:lo+n<=a₀.size)(hok:ok<=n)(hB:SB kd a₀ b lo pd st)(hs:SIn κ (arrOf st) lo ok)
  (h:∀ st',SB kd a₀ b lo pd st'->SIn κ (arrOf st') lo n->Q true st'):wpS (model prog w) A E s (binarySort' lo n ok) Q st:=by
 rw[binarySort'_eq]
 refine wpS_bind (wpS_mono (wpS_forRange (I:=fun k c st'=>c=(none,())/\SB kd a₀ b lo pd st'/\SIn κ (arrOf st') lo (min k n)) (Q:=fun c st'=>c=(none,())/\SB kd a₀ b lo pd st'/\SIn κ (arrOf st') lo n) ?step ?fin ?init) ?post)
 case post =>
  rintro c st' ⟨rfl,g1,g2⟩
  exact wpS_pure (h st' g1 g2)
 case init =>
  refine⟨rfl,hB,fun i j hij hj=>?_⟩
  have j1:=zG hj (Nat.min_le_left _ _)
  by_cases h1:ok=0
  ·rw[h1]at j1
   rw[zCJ hij (zC (zBF j1) (zAO i))];exact KeyOrd.kle_refl _
  ·rw[Nat.max_eq_left (zBT h1)]at j1
   exact hs i j hij j1
 case fin =>
  rintro c st' ⟨g0,g1,g2⟩
  refine⟨g0,g1,?_⟩
  rwa [zCU (Nat.le_max_right _ _)]at g2
 case step =>
  rintro k c st' hak hkn ⟨rfl,g1,g2⟩
  rw[zBZ (zT hkn)]at g2
  have hk:lo+k<a₀.size:=zG (zAL hkn lo) hn
  refine wpS_bind (wpS_mono (wpS_forRange (I:=fun x c st''=>st''=st'/\∃ l r,c=(none,l,r)/\l<=r/\r<=k/\r-l<=k-x/\(∀ i,i<l->κ.kle (KK κ (arrOf st') (lo+i)) (KK κ (arrOf st') (lo+k))) /\
     (∀ i,r<=i->i<k->κ.klt (KK κ (arrOf st') (lo+k)) (KK κ (arrOf st') (lo+i))))
   (Q:=fun c st''=>st''=st'/\∃ l r,c=(none,l,r)/\l<=k/\(∀ i,i<l->κ.kle (KK κ (arrOf st') (lo+i)) (KK κ (arrOf st') (lo+k)))/\(∀ i,l<=i->i<k->κ.klt (KK κ (arrOf st') (lo+k)) (KK κ (arrOf st') (lo+i)))) ?istep ?ifin ?iinit) ?ipost)
  case iinit=>exact⟨rfl,0,k,rfl,zAO k,zH k,zH k,fun i hi=>absurd hi (Nat.not_lt_zero i),fun i h1 h2=>absurd h2 (Nat.not_lt_of_le h1)⟩
  case ifin =>
   rintro c st'' ⟨rfl,l,r,rfl,i1,i2,i3,i4,i5⟩
   have z:l=r:=zCJ i1 (Nat.le_of_sub_eq_zero (Nat.le_zero.mp (by rwa [Nat.zero_max,Nat.sub_self]at i3)))
   subst z
   exact⟨rfl,l,l,rfl,i2,i4,i5⟩
  case istep =>
   rintro x c st'' _ hxk ⟨rfl,l,r,rfl,i1,i2,i3,i4,i5⟩
   dsimp only
   by_cases y:l >= r
   ·rw[if_pos y]
    have z:l=r:=zCJ i1 y
    subst z
    exact wpS_pure ⟨rfl,l,l,rfl,i2,i4,i5⟩
   ·rw[if_neg y]
    have d1:l<=(l+r) / 2:=(Nat.le_div_iff_mul_le Nat.two_pos).mpr (by rw[Nat.mul_two];exact zN i1 l)
    have d2:(l+r) / 2<r:=Nat.div_lt_of_lt_mul (by rw[Nat.two_mul];exact Nat.add_lt_add_right (zCK y) r)
    have d3:=zG d2 i2
    refine wpS_bind (ltAt_ok hO g1 h0 hk (Nat.lt_trans (zAL d3 lo) hk) ?_)
    cases t:κ.blt (KK κ (arrOf st'') (lo+k)) (KK κ (arrOf st'') (lo+(l+r) / 2))with
    |true =>
     refine wpS_pure ⟨rfl,l,(l+r) / 2,rfl,d1,zT d3,zBI (zG (Nat.sub_lt_sub_right d1 d2) i3),i4,fun i h1 h2=>?_⟩
     exact KeyOrd.klt_of_klt_of_kle t (g2 _ _ h1 h2)
    |false =>
     refine wpS_pure ⟨rfl,(l+r) / 2+1,r,rfl,d2,i2,zC (Nat.sub_le_sub_right (Nat.sub_le_sub_left d1 r) 1) (Nat.sub_le_sub_right i3 1),fun i h1=>?_,i5⟩
     exact KeyOrd.kle_trans (g2 i ((l+r) / 2) (zBF h1) d3) (show κ.kle _ _ from t)
  case ipost =>
   rintro c st'' ⟨rfl,l,r,rfl,i2,i4,i5⟩
   show wpS _ _ _ _ (do moveDown' (lo+k) (lo+l);pure (ForInStep.yield (none,()))) _ _
   rw[moveDown'_eq]
   have hks:lo+k <(arrOf st'').size:=by rw[g1.size];exact hk
   refine wpS_bind (wpS_modify (wpS_pure ⟨rfl,g1.arr (bubble_perm _ _ _) fun m hm=>?_,?_⟩))
   ·rw[getElem?_bubble hks _ (zBE _ _),if_neg (by exact zfj i2 hm),if_neg (by exact zft i2 hm)]
   rw[zBZ hkn]
   intro i j hij hj
   show κ.kle (KK κ (bubble (arrOf st'') (lo+k) (lo+k-(lo+l))) (lo+i)) (KK κ (bubble (arrOf st'') (lo+k) (lo+k-(lo+l))) (lo+j))
   rw[KK_bubble hks (zBE _ _),KK_bubble hks (zBE _ _),Nat.sub_sub_self (zN i2 lo)]
   have sh:∀ m,lo+l<lo+m->lo+m-1=lo+(m-1):=fun m hm=>zBK (zBX (Nat.lt_of_add_lt_add_left hm)) lo
   repeat' split
   all_goals first
    |(exfalso;lia)
    |exact KeyOrd.kle_refl _
    |exact i4 _ (by lia)
    |(rw[sh _ (by lia)];exact KeyOrd.kle_of_klt (i5 _ (by lia) (by lia)))
    |exact KeyOrd.kle_of_klt (i5 _ (by omega) (by omega))
    |exact g2 _ _ (by omega) (by lia)
    |(rw[sh _ (by lia),sh _ (by lia)];exact g2 _ _ (by omega) (by lia))
    |(rw[sh _ (by lia)];exact g2 _ _ (by lia) (by omega))
end
open PySem PyProof.Rows
noncomputable def gallopP:Bool->Keyed->Array Keyed->Nat->Nat->Nat->StateT SortSt Sem (Option Nat):=sortPriv% PySem.Builtin.gallop
noncomputable def bey(left:Bool)(key:Keyed)(arr:Array Keyed)(base i:Nat):StateT SortSt Sem (Option Bool):=do
 let x <- elem' arr (base+i)
 if left then lt' x key else return (<- lt' key x).map (!·)
noncomputable def gUp(left:Bool)(key:Keyed)(arr:Array Keyed)(base n hint maxofs:Nat):StateT SortSt Sem (Option (Option Nat)×Nat×Nat) :=
 forIn [0:n] ((none,0,1):Option (Option Nat)×Nat×Nat) fun _ c=>do
  if c.2.2 >= maxofs then pure (.done (none,c.2.1,c.2.2))else do
   let x <- bey left key arr base (hint+c.2.2)
   match x with
   |some more=>if(!more)=true then pure (.done (none,c.2.1,c.2.2))else pure (.yield (none,c.2.2,2 * c.2.2+1))
   | _=>pure (.done (some none,c.2.1,c.2.2))
noncomputable def gDn(left:Bool)(key:Keyed)(arr:Array Keyed)(base n hint maxofs:Nat):StateT SortSt Sem (Option (Option Nat)×Nat×Nat) :=
 forIn [0:n] ((none,0,1):Option (Option Nat)×Nat×Nat) fun _ c=>do
  if c.2.2 >= maxofs then pure (.done (none,c.2.1,c.2.2))else do
   let x <- bey left key arr base (hint-c.2.2)
   match x with
   |some found=>if found=true then pure (.done (none,c.2.1,c.2.2))else pure (.yield (none,c.2.2,2 * c.2.2+1))
   | _=>pure (.done (some none,c.2.1,c.2.2))
noncomputable def gBin(left:Bool)(key:Keyed)(arr:Array Keyed)(base n lo hi:Nat):StateT SortSt Sem (Option Nat):=do
 let c <- forIn [0:n] ((none,lo,hi):Option (Option Nat)×Nat×Nat) fun _ c=>do
  if c.2.1 >= c.2.2 then pure (.done (none,c.2.1,c.2.2))else do
   let x <- bey left key arr base (c.2.1+(c.2.2-c.2.1) / 2)
   match x with
   |some more=>if more=true then pure (.yield (none,c.2.1+(c.2.2-c.2.1) / 2+1,c.2.2))else pure (.yield (none,c.2.1,c.2.1+(c.2.2-c.2.1) / 2))
   | _=>pure (.done (some none,c.2.1,c.2.2))
 match c.1 with
 |some r=>pure r
 |none=>pure (some c.2.2)
theorem gallop_eq(left:Bool)(key:Keyed)(arr:Array Keyed)(base n hint:Nat):gallopP left key arr base n hint=(do
  let x <- bey left key arr base hint
  match x with
  |some right =>
   if right=true then do
    let c <- gUp left key arr base n hint (n-hint)
    match c.1 with
    |some r=>pure r
    |none=>gBin left key arr base n (hint+c.2.1+1) (hint+min c.2.2 (n-hint))
   else do
    let c <- gDn left key arr base n hint (hint+1)
    match c.1 with
    |some r=>pure r
    |none=>gBin left key arr base n (hint+1-min c.2.2 (hint+1)) (hint-c.2.1)
  | _=>pure none):=by
 refine bcong (m:=bey left key arr base hint) rfl fun x=>?_
 cases x with
 |none=>rfl
 |some right =>
  dsimp only
  split
  ·refine bcong rfl fun c=>?_
   obtain⟨r,l,o⟩:=c
   cases r with
   |some r=>rfl
   |none =>
    refine bcong rfl fun c=>?_
    obtain⟨r,l,o⟩:=c
    cases r <;> rfl
  ·refine bcong rfl fun c=>?_
   obtain⟨r,l,o⟩:=c
   cases r with
   |some r=>rfl
   |none =>
    refine bcong rfl fun c=>?_
    obtain⟨r,l,o⟩:=c
    cases r <;> rfl
section
variable{prog:Program}{w:World}{A:Around}{E:Value->Shared->Prop}{s:Shared}{kd:SortKind}{left:Bool}{key:Keyed}{arr:Array Keyed}{base n hint:Nat}{Pr:Nat->Bool}{st:SortSt}
noncomputable def BeyOk(prog:Program)(w:World)(A:Around)(s:Shared)(kd:SortKind)(left:Bool)(key:Keyed)(arr:Array Keyed)(base n:Nat)(Pr:Nat->Bool):Prop :=
 ∀ (i:Nat) (E:Value->Shared->Prop) (Q:Option Bool->SortSt->Prop) (st:SortSt),i<n->kindOf st=kd->Q (some (Pr i)) st->wpS (model prog w) A E s (bey left key arr base i) Q st
theorem gBin_ok{lo hi:Nat}{Q:Option Nat->SortSt->Prop}(hb:BeyOk prog w A s kd left key arr base n Pr)(hk:kindOf st=kd)(mono:∀ i j,i<=j->j<n->Pr j=true->Pr i=true)(h1:lo<=hi)(h2:hi<=n)
  (hl:∀ i,i<lo->Pr i=true) (hh:∀ i,hi<=i->i<n->Pr i=false) (h:∀ r,r<=n->(∀ i,i<r->Pr i=true)->(∀ i,r<=i->i<n->Pr i=false)->Q (some r) st) :
  wpS (model prog w) A E s (gBin left key arr base n lo hi) Q st:=by
 unfold gBin
 refine wpS_bind (wpS_mono (wpS_forRange (I:=fun x c st'=>st'=st/\∃ l r,c=(none,l,r)/\l<=r/\r<=n/\r-l<=n-x/\(∀ i,i<l->Pr i=true)/\(∀ i,r<=i->i<n->Pr i=false))
  (Q:=fun c st'=>st'=st/\∃ l r,c=(none,l,r)/\r<=n/\(∀ i,i<r->Pr i=true)/\(∀ i,r<=i->i<n->Pr i=false)) ?step ?fin ⟨rfl,lo,hi,rfl,h1,h2,by exact zcj h1 h2,hl,hh⟩) ?post)
 case post =>
  rintro c st' ⟨rfl,l,r,rfl,r1,r2,r3⟩
  exact wpS_pure (h r r1 r2 r3)
 case fin =>
  rintro c st' ⟨rfl,l,r,rfl,r1,r2,r3,r4,r5⟩
  have e:l=r:=by exact zcc r1 r3
  subst e
  exact⟨rfl,l,l,rfl,r2,r4,r5⟩
 case step =>
  rintro x c st' _ hx ⟨rfl,l,r,rfl,r1,r2,r3,r4,r5⟩
  dsimp only
  by_cases y:l >= r
  ·rw[if_pos y]
   have e:l=r:=by exact zfi r1 y
   subst e
   exact wpS_pure ⟨rfl,l,l,rfl,r2,r4,r5⟩
  ·rw[if_neg y]
   refine wpS_bind (hb _ _ _ _ (by exact zbq r2 y) hk ?_)
   cases t:Pr (l+(r-l) / 2)with
   |true=>exact wpS_pure ⟨rfl,_,_,rfl,by exact zfc y,by exact r2,by exact zas hx r3 y,fun i hi=>mono i _ (by exact zi6 hi) (by exact zbq r2 y) t,r5⟩
   |false =>
    refine wpS_pure ⟨rfl,_,_,rfl,by exact zI l ((r-l) / 2),by exact zel r2 y,by exact zbv hx r3 y,r4,fun i i1 i2=>?_⟩
    cases u:Pr i with
    |false=>rfl
    |true=>rw[mono _ i i1 i2 u]at t;cases t
theorem gallop_ok{Q:Option Nat->SortSt->Prop}(hb:BeyOk prog w A s kd left key arr base n Pr)(hk:kindOf st=kd)(mono:∀ i j,i<=j->j<n->Pr j=true->Pr i=true)(hh:hint<n)
  (h:∀ r,r<=n->(∀ i,i<r->Pr i=true)->(∀ i,r<=i->i<n->Pr i=false)->Q (some r) st):wpS (model prog w) A E s (gallopP left key arr base n hint) Q st:=by
 have anti:∀ i j,i<=j->j<n->Pr i=false->Pr j=false:=fun i j a b c=>by
  cases u:Pr j with
  |false=>rfl
  |true=>rw[mono i j a b u]at c;cases c
 rw[gallop_eq]
 refine wpS_bind (hb _ _ _ _ hh hk ?_)
 cases t:Pr hint with
 |true =>
  dsimp only
  rw[if_pos rfl]
  unfold gUp
  refine wpS_bind (wpS_mono (wpS_forRange (I:=fun x c st'=>st'=st/\∃ l o,c=(none,l,o)/\l<o/\x<o/\l<n-hint/\Pr (hint+l)=true)
   (Q:=fun c st'=>st'=st/\∃ l o,c=(none,l,o)/\l<o/\l<n-hint/\Pr (hint+l)=true/\(o >= n-hint\/(o<n-hint/\Pr (hint+o)=false))) ?step ?fin ⟨rfl,0,1,rfl,zBY,zBY,zCW hh,t⟩) ?post)
  case post =>
   rintro c st' ⟨rfl,l,o,rfl,c1,c2,c3,c4⟩
   dsimp only
   refine gBin_ok hb hk mono (zN (Nat.le_min.mpr ⟨c1,c2⟩) hint) (zC (zN (Nat.min_le_right _ _) hint) (zAG (zAE (zT hh)))) (fun i hi=>mono i _ (zBF hi) (zBA c2) c3) (fun i i1 i2=>?_) h
   rcases c4 with c4 |⟨c4,c5⟩
   ·omega
   ·exact anti _ i (by rwa [zBZ (zT c4)]at i1) i2 c5
  case fin =>
   rintro c st' ⟨rfl,l,o,rfl,c1,c2,c3,c4⟩
   exact⟨rfl,l,o,rfl,c1,c3,c4,.inl (zC (zBE n hint) (zC (Nat.le_max_right 0 n) (zT c2)))⟩
  case step =>
   rintro x c st' _ hx ⟨rfl,l,o,rfl,c1,c2,c3,c4⟩
   dsimp only
   by_cases y:o >= n-hint
   ·rw[if_pos y]
    exact wpS_pure ⟨rfl,l,o,rfl,c1,c3,c4,.inl y⟩
   ·rw[if_neg y]
    refine wpS_bind (hb _ _ _ _ (zBA (zCK y)) hk ?_)
    cases u:Pr (hint+o)with
    |true=>exact wpS_pure ⟨rfl,o,_,rfl,Nat.lt_succ_of_le (Nat.le_mul_of_pos_left o Nat.two_pos),Nat.succ_lt_succ (zG c2 (Nat.le_mul_of_pos_left o Nat.two_pos)),zCK y,u⟩
    |false=>exact wpS_pure ⟨rfl,l,o,rfl,c1,c3,c4,.inr ⟨zCK y,u⟩⟩
 |false =>
  dsimp only
  rw[if_neg zJ]
  unfold gDn
  refine wpS_bind (wpS_mono (wpS_forRange (I:=fun x c st'=>st'=st/\∃ l o,c=(none,l,o)/\l<o/\x<o/\l<=hint/\Pr (hint-l)=false)
   (Q:=fun c st'=>st'=st/\∃ l o,c=(none,l,o)/\l<o/\l<=hint/\Pr (hint-l)=false/\(o >= hint+1\/(o<hint+1/\Pr (hint-o)=true))) ?dstep ?dfin ⟨rfl,0,1,rfl,zBY,zBY,zAO _,t⟩) ?dpost)
  case dpost =>
   rintro c st' ⟨rfl,l,o,rfl,c1,c2,c3,c4⟩
   dsimp only
   refine gBin_ok hb hk mono (zC (Nat.sub_le_sub_left (Nat.le_min.mpr ⟨c1,Nat.succ_le_succ c2⟩) (hint+1)) (zAG (Nat.add_sub_add_right hint 1 l))) (zC (zBE hint l) (zT hh)) (fun i hi=>?_) (fun i i1 i2=>anti _ i i1 i2 c3) h
   rcases c4 with c4 |⟨c4,c5⟩
   ·omega
   ·exact mono i _ (by rw[zBZ (zT c4),Nat.succ_sub (zBF c4)]at hi;exact zBF hi) (zL (zBE hint o) hh) c5
  case dfin =>
   rintro c st' ⟨rfl,l,o,rfl,c1,c2,c3,c4⟩
   exact⟨rfl,l,o,rfl,c1,c3,c4,.inl (zC hh (zC (Nat.le_max_right 0 n) (zT c2)))⟩
  case dstep =>
   rintro x c st' _ hx ⟨rfl,l,o,rfl,c1,c2,c3,c4⟩
   dsimp only
   by_cases y:o >= hint+1
   ·rw[if_pos y]
    exact wpS_pure ⟨rfl,l,o,rfl,c1,c3,c4,.inl y⟩
   ·rw[if_neg y]
    refine wpS_bind (hb _ _ _ _ (zL (zBE hint o) hh) hk ?_)
    cases u:Pr (hint-o)with
    |false=>exact wpS_pure ⟨rfl,o,_,rfl,Nat.lt_succ_of_le (Nat.le_mul_of_pos_left o Nat.two_pos),Nat.succ_lt_succ (zG c2 (Nat.le_mul_of_pos_left o Nat.two_pos)),zBF (zCK y),u⟩
    |true=>exact wpS_pure ⟨rfl,l,o,rfl,c1,c3,c4,.inr ⟨zCK y,u⟩⟩
end
noncomputable def mergeLoP:Array Keyed->Array Keyed->StateT SortSt Sem (Array Keyed):=sortPriv% PySem.Builtin.mergeLo
noncomputable def mergeHiP:Array Keyed->Array Keyed->StateT SortSt Sem (Array Keyed):=sortPriv% PySem.Builtin.mergeHi
open PySem PyProof.Rows
noncomputable def kk(κ:KeyKind)(p:Keyed):κ.α:=(κ.keyOf p.1).getD κ.dflt
noncomputable def kL(κ:KeyKind)(p q:Keyed):Prop:=κ.kle (kk κ p) (kk κ q)
theorem KK_of{κ:KeyKind}{xs:Array Keyed}{i:Nat}{p:Keyed}(h:xs[i]?=some p):KK κ xs i=kk κ p:=by unfold KK;rw[h];rfl
structure MI(κ:KeyKind)(T o A B:List Keyed):Prop where
 perm:(o++(A++B)).Perm T
 so:o.Pairwise (kL κ)
 cr:∀ x∈o,∀ y∈A++B,kL κ x y
 sA:A.Pairwise (kL κ)
 sB:B.Pairwise (kL κ)
section
variable{κ:KeyKind}{T o A A' B B' blk:List Keyed}
theorem MI.a(h:MI κ T o (blk++A') B)(hx:∀ x∈blk,∀ y∈B,kL κ x y):MI κ T (o++blk) A' B:=by
 obtain⟨s1,s2,s3⟩:=zAU.mp h.sA
 refine⟨?_,zAU.mpr ⟨h.so,s1,fun x hx y hy=>h.cr x hx y (by simp[hy])⟩,fun x hx' y hy=>?_,s2,h.sB⟩
 ·have e:=h.perm
  simp only[zAV]at e ⊢
  exact e
 ·rcases zAB.mp hx' with z | z
  ·exact h.cr x z y (by rcases zAB.mp hy with q | q <;> simp[q])
  ·rcases zAB.mp hy with q | q
   ·exact s3 x z y q
   ·exact hx x z y q
theorem MI.b(h:MI κ T o A (blk++B'))(hx:∀ x∈blk,∀ y∈A,kL κ x y):MI κ T (o++blk) A B':=by
 obtain⟨s1,s2,s3⟩:=zAU.mp h.sB
 refine⟨?_,zAU.mpr ⟨h.so,s1,fun x hx y hy=>h.cr x hx y (by simp[hy])⟩,fun x hx' y hy=>?_,h.sA,s2⟩
 ·refine List.Perm.trans ?_ h.perm
  rw[zAV]
  refine List.Perm.append_left o ?_
  rw[<- zAV,<- zAV]
  exact List.Perm.append_right B' List.perm_append_comm
 ·rcases zAB.mp hx' with z | z
  ·exact h.cr x z y (by rcases zAB.mp hy with q | q <;> simp[q])
  ·rcases zAB.mp hy with q | q
   ·exact hx x z y q
   ·exact s3 x z y q
noncomputable def Good(κ:KeyKind)(T:List Keyed)(R:Array Keyed):Prop:=R.toList.Perm T/\R.toList.Pairwise (kL κ)
theorem MI.endB{R:Array Keyed}(h:MI κ T o A [])(e:R.toList=o++A):Good κ T R:=by
 refine⟨by rw[e];simpa using h.perm,?_⟩
 rw[e]
 exact zAU.mpr ⟨h.so,h.sA,fun x hx y hy=>h.cr x hx y (by simp[hy])⟩
theorem MI.endA{R:Array Keyed}(h:MI κ T o [] B)(e:R.toList=o++B):Good κ T R:=by
 refine⟨by rw[e];simpa using h.perm,?_⟩
 rw[e]
 exact zAU.mpr ⟨h.so,h.sB,fun x hx y hy=>h.cr x hx y (by simp[hy])⟩
theorem MI.last{R:Array Keyed}{l:Keyed}(h:MI κ T o [l] B)(hl:∀ y∈B,kL κ y l)(e:R.toList=o++B++[l]):Good κ T R:=by
 have h2:MI κ T (o++B) [l] []:=MI.b (blk:=B) (B':=[]) (by simpa using h) fun x hx y hy=>by
  rw[zAA.mp hy]
  exact hl x hx
 exact h2.endB e
structure MH(κ:KeyKind)(T o A B:List Keyed):Prop where
 perm:(A++B++o).Perm T
 so:o.Pairwise (kL κ)
 cr:∀ x∈o,∀ y∈A++B,kL κ y x
 sA:A.Pairwise (kL κ)
 sB:B.Pairwise (kL κ)
theorem MH.a(h:MH κ T o (A'++blk) B)(hx:∀ x∈blk,∀ y∈B,kL κ y x):MH κ T (blk++o) A' B:=by
 obtain⟨s1,s2,s3⟩:=zAU.mp h.sA
 refine⟨?_,zAU.mpr ⟨s2,h.so,fun x hx y hy=>h.cr y hy x (by simp[hx])⟩,fun x hx' y hy=>?_,s1,h.sB⟩
 ·refine List.Perm.trans ?_ h.perm
  simp only[zAV]
  refine List.Perm.append_left A' ?_
  rw[<- zAV,<- zAV]
  exact List.Perm.append_right o List.perm_append_comm
 ·rcases zAB.mp hx' with z | z
  ·rcases zAB.mp hy with q | q
   ·exact s3 y q x z
   ·exact hx x z y q
  ·exact h.cr x z y (by rcases zAB.mp hy with q | q <;> simp[q])
theorem MH.b(h:MH κ T o A (B'++blk))(hx:∀ x∈blk,∀ y∈A,kL κ y x):MH κ T (blk++o) A B':=by
 obtain⟨s1,s2,s3⟩:=zAU.mp h.sB
 refine⟨?_,zAU.mpr ⟨s2,h.so,fun x hx y hy=>h.cr y hy x (by simp[hx])⟩,fun x hx' y hy=>?_,h.sA,s1⟩
 ·have e:=h.perm
  simp only[zAV]at e ⊢
  exact e
 ·rcases zAB.mp hx' with z | z
  ·rcases zAB.mp hy with q | q
   ·exact hx x z y q
   ·exact s3 y q x z
  ·exact h.cr x z y (by rcases zAB.mp hy with q | q <;> simp[q])
theorem MH.endA{R:Array Keyed}(h:MH κ T o [] B)(e:R.toList=B++o):Good κ T R:=by
 refine⟨by rw[e];simpa using h.perm,?_⟩
 rw[e]
 exact zAU.mpr ⟨h.sB,h.so,fun x hx y hy=>h.cr y hy x (by simp[hx])⟩
theorem MH.endB{R:Array Keyed}(h:MH κ T o A [])(e:R.toList=A++o):Good κ T R:=by
 refine⟨by rw[e];simpa using h.perm,?_⟩
 rw[e]
 exact zAU.mpr ⟨h.sA,h.so,fun x hx y hy=>h.cr y hy x (by simp[hx])⟩
theorem MH.first{R:Array Keyed}{l:Keyed}(h:MH κ T o A [l])(hl:∀ y∈A,kL κ l y)(e:R.toList=[l]++A++o):Good κ T R:=by
 have h2:MH κ T (A++o) [] [l]:=MH.a (blk:=A) (A':=[]) (by simpa using h) fun x hx y hy=>by
  rw[zAA.mp hy]
  exact hl x hx
 exact h2.endA (by rw[e,zAV])
end
theorem drop_at{xs:Array Keyed}{i:Nat}{p:Keyed}(h:xs[i]?=some p):xs.toList.drop i=[p]++xs.toList.drop (i+1):=by
 have hi:i<xs.toList.length:=by
  have:=(zAI.mp h).1
  simpa using this
 rw[zCD hi]
 have e:xs.toList[i]=p:=by
  have:=(zAI.mp h).2
  simpa using this
 rw[e];rfl
theorem take_at{xs:Array Keyed}{i:Nat}{p:Keyed}(h:xs[i]?=some p):xs.toList.take (i+1)=xs.toList.take i++[p]:=by
 rw[zCN]
 have e:xs.toList[i]?=some p:=by rw[<- h];simp
 rw[e];rfl
theorem mem_drop{xs:Array Keyed}{i:Nat}{y:Keyed}(h:y∈xs.toList.drop i):∃ j,i<=j/\j<xs.size/\xs[j]?=some y:=by
 obtain⟨j,hj,e⟩:=zBO h
 rw[zAN]at hj
 refine⟨i+j,by exact zI i j,?_,?_⟩
 ·have:xs.toList.length=xs.size:=by simp
  omega
 ·rw[List.getElem_drop]at e
  have:xs.toList[i+j]?=some y:=by rw[<- e];exact zF (by exact zde hj)
  rw[<- this];simp
theorem mem_take{xs:Array Keyed}{i:Nat}{y:Keyed}(h:y∈xs.toList.take i):∃ j,j<i/\j<xs.size/\xs[j]?=some y:=by
 obtain⟨j,hj,e⟩:=zBO h
 rw[zAD]at hj
 have hl:xs.toList.length=xs.size:=by simp
 refine⟨j,by exact zdo hj hl,by exact zfw hj hl,?_⟩
 rw[List.getElem_take]at e
 have:xs.toList[j]?=some y:=by rw[<- e];exact zF (by exact zeg hj hl)
 rw[<- this];simp
theorem get_of_lt{xs:Array Keyed}{i:Nat}(h:i<xs.size):∃ p,xs[i]?=some p:=⟨xs[i],getElem?_pos _ i h⟩
structure Sm(st st':SortSt):Prop where
 k:kindOf st'=kindOf st
 a:arrOf st'=arrOf st
 p:pendingOf st'=pendingOf st
 f:failedOf st'=failedOf st
theorem Sm.refl(st:SortSt):Sm st st:=⟨rfl,rfl,rfl,rfl⟩
theorem Sm.min{st st':SortSt}(h:Sm st st')(g:Nat):Sm st (SortSt.mk' (kindOf st') (arrOf st') (pendingOf st') g (failedOf st')):=⟨h.k,h.a,h.p,h.f⟩
section
variable{prog:Program}{w:World}{A:Around}{E:Value->Shared->Prop}{s:Shared}{κ:KeyKind}{kd:SortKind}{st:SortSt}
theorem lt_ok{x y:Keyed}{Q:Option Bool->SortSt->Prop}(hO:LtOk κ kd prog w A s)(hk:kindOf st=kd)(hx:∃ a,κ.keyOf x.1=some a)(hy:∃ a,κ.keyOf y.1=some a)(h:Q (some (κ.blt (kk κ x) (kk κ y))) st) :
  wpS (model prog w) A E s (lt' x y) Q st:=by
 obtain⟨a,ha⟩:=hx
 obtain⟨c,hc⟩:=hy
 refine hO E x y a c Q st hk ha hc ?_
 have e1:kk κ x=a:=by unfold kk;rw[ha];rfl
 have e2:kk κ y=c:=by unfold kk;rw[hc];rfl
 rwa [e1,e2]at h
noncomputable def Keyd(κ:KeyKind)(xs:Array Keyed):Prop:=∀ (i:Nat) (p:Keyed),xs[i]?=some p->∃ a,κ.keyOf p.1=some a
theorem bey_left{key:Keyed}{arr:Array Keyed}{base n:Nat}(hO:LtOk κ kd prog w A s)(hk:∃ a,κ.keyOf key.1=some a)(ha:Keyd κ arr)(hn:base+n<=arr.size) :
  BeyOk prog w A s kd true key arr base n fun i=>κ.blt (KK κ arr (base+i)) (kk κ key):=by
 intro i E Q st hi hs h
 obtain⟨p,hp⟩:=get_of_lt (xs:=arr) (i:=base+i) (by exact zai hn hi)
 unfold bey
 refine wpS_bind (elem_ok hp ?_)
 rw[if_pos rfl]
 refine lt_ok hO hs (ha _ _ hp) hk ?_
 dsimp only at h
 rwa [KK_of hp]at h
theorem bey_right{key:Keyed}{arr:Array Keyed}{base n:Nat}(hO:LtOk κ kd prog w A s)(hk:∃ a,κ.keyOf key.1=some a)(ha:Keyd κ arr)(hn:base+n<=arr.size) :
  BeyOk prog w A s kd false key arr base n fun i=>!(κ.blt (kk κ key) (KK κ arr (base+i))):=by
 intro i E Q st hi hs h
 obtain⟨p,hp⟩:=get_of_lt (xs:=arr) (i:=base+i) (by exact zai hn hi)
 unfold bey
 refine wpS_bind (elem_ok hp ?_)
 rw[if_neg zJ]
 refine wpS_bind (lt_ok hO hs hk (ha _ _ hp) (wpS_pure ?_))
 dsimp only at h
 rwa [KK_of hp]at h
end
open PySem PyProof.Rows
theorem ext_drop(xs:Array Keyed)(i:Nat):(xs.extract i xs.size).toList=xs.toList.drop i:=by
 simp[Array.toList_extract,List.extract_eq_drop_take]
 rw[zBV]
 simp
theorem ext_blk(xs:Array Keyed)(i k:Nat):(xs.extract i (i+k)).toList=(xs.toList.drop i).take k:=by
 simp[Array.toList_extract,List.extract_eq_drop_take]
theorem ext_take(xs:Array Keyed)(k:Nat):(xs.extract 0 k).toList=xs.toList.take k:=by
 simp[Array.toList_extract,List.extract_eq_drop_take]
theorem blk_drop(xs:Array Keyed)(i k:Nat):xs.toList.drop i=(xs.toList.drop i).take k++xs.toList.drop (i+k):=by
 rw[<- List.drop_drop,zBN]
theorem drop_all(xs:Array Keyed):xs.toList.drop xs.size=[]:=by simp
section
variable{κ:KeyKind}{a b out:Array Keyed}{T:List Keyed}{ia ib k:Nat}{p:Keyed}
theorem fin_b(h:MI κ T out.toList (a.toList.drop ia) (b.toList.drop ib))(e:ib=b.size):Good κ T (out++a.extract ia a.size++b.extract ib b.size):=by
 subst e
 rw[drop_all]at h
 exact h.endB (by rw[zBD,zBD,ext_drop,ext_drop,drop_all,List.append_nil])
theorem fin_a(h:MI κ T out.toList (a.toList.drop ia) (b.toList.drop ib))(e:ia=a.size):Good κ T (out++a.extract ia a.size++b.extract ib b.size):=by
 subst e
 rw[drop_all]at h
 exact h.endA (by rw[zBD,zBD,ext_drop,ext_drop,drop_all,List.append_nil])
theorem fin_l(h:MI κ T out.toList (a.toList.drop ia) (b.toList.drop ib))(e:ia+1=a.size)(hl:∀ j,j<b.size->κ.kle (KK κ b j) (KK κ a (a.size-1))):Good κ T (out++b.extract ib b.size++a.extract ia a.size):=by
 obtain⟨l,hl'⟩:=get_of_lt (xs:=a) (i:=ia) (zCX (zAG e))
 have ed:a.toList.drop ia=[l]:=by rw[drop_at hl',e,drop_all];rfl
 rw[ed]at h
 refine h.last (fun y hy=>?_) (by rw[zBD,zBD,ext_drop,ext_drop,ed])
 obtain⟨j,_,j2,j3⟩:=mem_drop hy
 have q:=hl j j2
 rw[show a.size-1=ia by rw[<- e];rfl,KK_of j3,KK_of hl']at q
 exact q
theorem mv_b(h:MI κ T out.toList (a.toList.drop ia) (b.toList.drop ib))(hp:b[ib]?=some p)(hx:∀ i,ia<=i->i<a.size->κ.kle (KK κ b ib) (KK κ a i)):MI κ T (out.push p).toList (a.toList.drop ia) (b.toList.drop (ib+1)):=by
 rw[drop_at hp]at h
 rw[Array.toList_push]
 refine h.b fun x hx' y hy=>?_
 rw[zAA.mp hx']
 obtain⟨j,j1,j2,j3⟩:=mem_drop hy
 have q:=hx j j1 j2
 rw[KK_of hp,KK_of j3]at q
 exact q
theorem mv_a(h:MI κ T out.toList (a.toList.drop ia) (b.toList.drop ib))(hp:a[ia]?=some p)(hx:∀ j,ib<=j->j<b.size->κ.kle (KK κ a ia) (KK κ b j)):MI κ T (out.push p).toList (a.toList.drop (ia+1)) (b.toList.drop ib):=by
 rw[drop_at hp]at h
 rw[Array.toList_push]
 refine h.a fun x hx' y hy=>?_
 rw[zAA.mp hx']
 obtain⟨j,j1,j2,j3⟩:=mem_drop hy
 have q:=hx j j1 j2
 rw[KK_of hp,KK_of j3]at q
 exact q
theorem mem_blk{xs:Array Keyed}{i k:Nat}{y:Keyed}(h:y∈(xs.toList.drop i).take k):∃ j,i<=j/\j<i+k/\j<xs.size/\xs[j]?=some y:=by
 obtain⟨j,hj,e⟩:=zBO h
 rw[zAD,zAN]at hj
 have hl:xs.toList.length=xs.size:=by simp
 refine⟨i+j,by exact zI i j,by exact zee hj,by exact zce hj hl,?_⟩
 rw[List.getElem_take,List.getElem_drop]at e
 have:xs.toList[i+j]?=some y:=by rw[<- e];exact zF (by exact zbs hj hl)
 rw[<- this];simp
theorem blk_a(h:MI κ T out.toList (a.toList.drop ia) (b.toList.drop ib))(hx:∀ i,ia<=i->i<ia+k->i<a.size->∀ j,ib<=j->j<b.size->κ.kle (KK κ a i) (KK κ b j)) :
  MI κ T (out++a.extract ia (ia+k)).toList (a.toList.drop (ia+k)) (b.toList.drop ib):=by
 rw[blk_drop a ia k]at h
 rw[zBD,ext_blk]
 refine h.a fun x hx' y hy=>?_
 obtain⟨i,i1,i2,i3,i4⟩:=mem_blk hx'
 obtain⟨j,j1,j2,j3⟩:=mem_drop hy
 have q:=hx i i1 i2 i3 j j1 j2
 rw[KK_of i4,KK_of j3]at q
 exact q
theorem blk_b(h:MI κ T out.toList (a.toList.drop ia) (b.toList.drop ib))(hx:∀ j,ib<=j->j<ib+k->j<b.size->∀ i,ia<=i->i<a.size->κ.kle (KK κ b j) (KK κ a i)) :
  MI κ T (out++b.extract ib (ib+k)).toList (a.toList.drop ia) (b.toList.drop (ib+k)):=by
 rw[blk_drop b ib k]at h
 rw[zBD,ext_blk]
 refine h.b fun x hx' y hy=>?_
 obtain⟨i,i1,i2,i3,i4⟩:=mem_blk hx'
 obtain⟨j,j1,j2,j3⟩:=mem_drop hy
 have q:=hx i i1 i2 i3 j j1 j2
 rw[KK_of i4,KK_of j3]at q
 exact q
end
theorem wpS_if{M:Model}{A:Around}{E:Value->Shared->Prop}{s:Shared}{σ α:Type}{c:Prop}[Decidable c]{x y:StateT σ Sem α}{Q:α->σ->Prop}{st:σ}(h1:c->wpS M A E s x Q st)(h2:¬ c->wpS M A E s y Q st):wpS M A E s (if c then x else y) Q st:=by
 by_cases h:c
 ·rw[if_pos h];exact h1 h
 ·rw[if_neg h];exact h2 h
theorem pw_of{κ:KeyKind}{xs:Array Keyed}(h:∀ i j,i<=j->j<xs.size->κ.kle (KK κ xs i) (KK κ xs j)):xs.toList.Pairwise (kL κ):=by
 rw[zBS]
 intro i j hi hj hij
 have hl:xs.toList.length=xs.size:=by simp
 have q:=h i j (by exact zT hij) (by omega)
 rw[KK_of (p:=xs.toList[i]) (by rw[<- zF hi];simp),KK_of (p:=xs.toList[j]) (by rw[<- zF hj];simp)]at q
 exact q
section
variable{prog:Program}{w:World}{A:Around}{E:Value->Shared->Prop}{s:Shared}{κ:KeyKind}{kd:SortKind}{st:SortSt}
variable{a b:Array Keyed}
@[elab_as_elim] theorem el4{α0 α1 α2 α3 ε:Type}{P:α0->α1->α2->α3->Prop}{motive:Option ε×α0×α1×α2×α3->Prop}(c:Option ε×α0×α1×α2×α3)(h:∃ x0 x1 x2 x3,c=(none,x0,x1,x2,x3)/\P x0 x1 x2 x3)(k:∀ x0 x1 x2 x3,P x0 x1 x2 x3->motive (none,x0,x1,x2,x3)):motive c:=by
 obtain⟨x0,x1,x2,x3,rfl,p⟩:=h
 exact k x0 x1 x2 x3 p
@[elab_as_elim] theorem el5{α0 α1 α2 α3 α4 ε:Type}{P:α0->α1->α2->α3->α4->Prop}{motive:Option ε×α0×α1×α2×α3×α4->Prop}(c:Option ε×α0×α1×α2×α3×α4)(h:∃ x0 x1 x2 x3 x4,c=(none,x0,x1,x2,x3,x4)/\P x0 x1 x2 x3 x4)(k:∀ x0 x1 x2 x3 x4,P x0 x1 x2 x3 x4->motive (none,x0,x1,x2,x3,x4)):motive c:=by
 obtain⟨x0,x1,x2,x3,x4,rfl,p⟩:=h
 exact k x0 x1 x2 x3 x4 p
@[elab_as_elim] theorem eo5{α0 α1 α2 α3 α4 ε:Type}{P:α0->α1->α2->α3->α4->Prop}{G:ε->Prop}{motive:Option ε×α0×α1×α2×α3×α4->Prop}(c:Option ε×α0×α1×α2×α3×α4)(h:(∃ R r,c=(some R,r)/\G R)\/∃ x0 x1 x2 x3 x4,c=(none,x0,x1,x2,x3,x4)/\P x0 x1 x2 x3 x4)(k1:∀ R r,G R->motive (some R,r))(k:∀ x0 x1 x2 x3 x4,P x0 x1 x2 x3 x4->motive (none,x0,x1,x2,x3,x4)):motive c:=by
 obtain⟨R,r,rfl,g⟩ | h:=h
 ·exact k1 R r g
 ·exact el5 c h k
@[elab_as_elim] theorem el6{α0 α1 α2 α3 α4 α5 ε:Type}{P:α0->α1->α2->α3->α4->α5->Prop}{motive:Option ε×α0×α1×α2×α3×α4×α5->Prop}(c:Option ε×α0×α1×α2×α3×α4×α5)(h:∃ x0 x1 x2 x3 x4 x5,c=(none,x0,x1,x2,x3,x4,x5)/\P x0 x1 x2 x3 x4 x5)(k:∀ x0 x1 x2 x3 x4 x5,P x0 x1 x2 x3 x4 x5->motive (none,x0,x1,x2,x3,x4,x5)):motive c:=by
 obtain⟨x0,x1,x2,x3,x4,x5,rfl,p⟩:=h
 exact k x0 x1 x2 x3 x4 x5 p
@[elab_as_elim] theorem eo6{α0 α1 α2 α3 α4 α5 ε:Type}{P:α0->α1->α2->α3->α4->α5->Prop}{G:ε->Prop}{motive:Option ε×α0×α1×α2×α3×α4×α5->Prop}(c:Option ε×α0×α1×α2×α3×α4×α5)(h:(∃ R r,c=(some R,r)/\G R)\/∃ x0 x1 x2 x3 x4 x5,c=(none,x0,x1,x2,x3,x4,x5)/\P x0 x1 x2 x3 x4 x5)(k1:∀ R r,G R->motive (some R,r))(k:∀ x0 x1 x2 x3 x4 x5,P x0 x1 x2 x3 x4 x5->motive (none,x0,x1,x2,x3,x4,x5)):motive c:=by
 obtain⟨R,r,rfl,g⟩ | h:=h
 ·exact k1 R r g
 ·exact el6 c h k
structure Shd(P:Prop):Prop where
 out:P
theorem wpS_ifS{c:Prop}[Decidable c]{σ α:Type}{M:Model}{x y:StateT σ Sem α}{Q:α->σ->Prop}{t:σ}{P:Prop}(g:P)(h1:c->Shd P->wpS M A E s x Q t)(h2:¬ c->Shd P->wpS M A E s y Q t):wpS M A E s (if c then x else y) Q t:=by
 split
 ·exact h1 (by assumption) ⟨g⟩
 ·exact h2 (by assumption) ⟨g⟩
theorem upC{x m i l:Nat}(h:x+m<i+l):x+1<i+(l+1):=Nat.succ_lt_succ (zL (zI x m) h)
theorem upD{x y m i l:Nat}(h:x+m<i+l):x+min (y+1) 1<i+(l+1):=by rw[zCU (zAW 1 y)];exact upC h
theorem upE{x m i l:Nat}(h:x+m<i+l):x+1<i+1+l:=by rw[zCT];exact upC h
theorem upF{x y m i l:Nat}(h:x+m<i+l):x+min (y+1) 1<i+1+l:=by rw[zCT];exact upD h
theorem mergeLo_ok{Q:Array Keyed->SortSt->Prop}(hO:LtOk κ kd prog w A s)(hk:kindOf st=kd)(ka:Keyd κ a)(kb:Keyd κ b)(hA:∀ i j,i<=j->j<a.size->κ.kle (KK κ a i) (KK κ a j))(hB:∀ i j,i<=j->j<b.size->κ.kle (KK κ b i) (KK κ b j))
  (ha:0<a.size) (hb:0<b.size) (h1:κ.kle (KK κ b 0) (KK κ a 0)) (h2:κ.kle (KK κ b (b.size-1)) (KK κ a (a.size-1)))
  (h:∀ R st',Sm st st'->Good κ (a.toList++b.toList) R->Q R st'):wpS (model prog w) A E s (mergeLoP a b) Q st:=by
 obtain⟨b0,e0⟩:=get_of_lt hb
 generalize hT:a.toList++b.toList=T at h
 have hl:∀ j,j<b.size->κ.kle (KK κ b j) (KK κ a (a.size-1)):=fun j hj=>KeyOrd.kle_trans (hB j (b.size-1) (zBI hj) (zCS hb zBY)) h2
 have m0:MI κ T (#[]:Array Keyed).toList (a.toList.drop 0) (b.toList.drop 0):=⟨by rw[<- hT];simp,.nil,fun x hx=>by simp at hx,by simpa using pw_of hA,by simpa using pw_of hB⟩
 have m1:MI κ T (#[b0]:Array Keyed).toList (a.toList.drop 0) (b.toList.drop 1):=mv_b m0 e0 fun i _ hi=>KeyOrd.kle_trans h1 (hA 0 i (zAO i) hi)
 refine wpS_bind (wpS_lift (wpAny_rule ⟨rfl,wpS_bind (elem_ok e0 ?_)⟩))
 dsimp only
 by_cases y1:1=b.size
 ·rw[if_pos (by simpa using y1)]
  exact wpS_pure (h _ _ (Sm.refl _) (fin_b m1 y1))
 rw[if_neg (by simpa using y1)]
 by_cases y2:0+1=a.size
 ·rw[if_pos (by simpa using y2)]
  exact wpS_pure (h _ _ (Sm.refl _) (fin_l m1 y2 hl))
 rw[if_neg (by simpa using y2)]
 refine wpS_bind (wpS_get ?_)
 refine wpS_bind (wpS_mono (wpS_forRange (I:=fun x c st'=>Sm st st'/\∃ out ia ib mg,c=(none,out,ia,ib,mg)/\MI κ T out.toList (a.toList.drop ia) (b.toList.drop ib)/\ia+1<a.size/\ib<b.size/\x<ia+ib)
  (Q:=fun c st'=>Sm st st'/\∃ R r,c=(some R,r)/\Good κ T R) ?ostep ?ofin ⟨Sm.refl _,_,_,_,_,rfl,m1,zAM ha y2,zAM hb y1,zBY⟩) ?opost)
 case opost =>
  rintro c st' ⟨sm,R,r,rfl,g⟩
  exact wpS_pure (h R st' sm g)
 case ofin =>
  rintro c st' ⟨sm,out,ia,ib,mg,rfl,m,q1,q2,q3⟩
  exact absurd q3 (Nat.not_lt_of_le (zC (zCL (zT (Nat.lt_of_succ_lt q1)) (zT q2)) (Nat.le_max_right 0 _)))
 case ostep =>
  intro x c st1 _ hx hI
  have sm1:=hI.1
  refine el4 c hI.2 fun out ia ib mg hP=>?_
  have m:=hP.1
  have q1:=hP.2.1
  have q2:=hP.2.2.1
  have q3:=hP.2.2.2
  clear hI hP
  dsimp only
  refine wpS_bind (wpS_mono (wpS_forRange (I:=fun y c st'=>Sm st st'/\∃ out ia ib ac bc,c=(none,out,ia,ib,ac,bc)/\MI κ T out.toList (a.toList.drop ia) (b.toList.drop ib)/\ia+1<a.size/\ib<b.size/\x+min y 1<ia+ib)
   (Q:=fun c st'=>Sm st st'/\((∃ R r,c=(some R,r)/\Good κ T R)\/∃ out ia ib ac bc,c=(none,out,ia,ib,ac,bc)/\MI κ T out.toList (a.toList.drop ia) (b.toList.drop ib)/\ia+1<a.size/\ib<b.size/\x+1<ia+ib))
   ?istep ?ifin ⟨sm1,_,_,_,_,_,rfl,m,q1,q2,q3⟩) ?ipost)
  case ifin =>
   rintro c st' ⟨sm,out,ia,ib,ac,bc,rfl,m,q1,q2,q3⟩
   exact⟨sm,.inr ⟨out,ia,ib,ac,bc,rfl,m,q1,q2,by rwa [Nat.zero_max,zCU (Nat.add_pos_left ha _)]at q3⟩⟩
  case istep =>
   intro y c st2 _ hy hI
   have sm:=hI.1
   refine el5 c hI.2 fun out ia ib ac bc hP=>?_
   have m:=hP.1
   have q1:=hP.2.1
   have q2:=hP.2.2.1
   have q3:=hP.2.2.2
   clear hI hP
   dsimp only
   obtain⟨pb,eb⟩:=get_of_lt q2
   obtain⟨pa,ea⟩:=get_of_lt (xs:=a) (i:=ia) (Nat.lt_of_succ_lt q1)
   refine wpS_bind (elem_ok eb (wpS_bind (elem_ok ea (wpS_bind (lt_ok hO (sm.k.trans hk) (kb _ _ eb) (ka _ _ ea) ?_)))))
   cases t:κ.blt (kk κ pb) (kk κ pa)with
   |true =>
    dsimp only
    rw[if_pos rfl]
    have tk:κ.kle (KK κ b ib) (KK κ a ia):=by rw[KK_of eb,KK_of ea];exact KeyOrd.kle_of_klt t
    have m':=mv_b m eb fun i i1 i2=>KeyOrd.kle_trans tk (hA ia i i1 i2)
    refine wpS_bind (elem_ok eb ?_)
    by_cases z:ib+1=b.size
    ·rw[if_pos (by simpa using z)]
     exact wpS_pure ⟨sm,.inl ⟨_,_,rfl,fin_b m' z⟩⟩
    ·rw[if_neg (by simpa using z)]
     split
     ·exact wpS_pure ⟨sm,.inr ⟨_,_,_,_,_,rfl,m',q1,zAM q2 z,upC q3⟩⟩
     ·exact wpS_pure ⟨sm,_,_,_,_,_,rfl,m',q1,zAM q2 z,upD q3⟩
   |false =>
    dsimp only
    rw[if_neg zJ]
    have tk:κ.kle (KK κ a ia) (KK κ b ib):=by rw[KK_of eb,KK_of ea];exact t
    have m':=mv_a m ea fun i i1 i2=>KeyOrd.kle_trans tk (hB ib i i1 i2)
    refine wpS_bind (elem_ok ea ?_)
    by_cases z:ia+1+1=a.size
    ·rw[if_pos (by simpa using z)]
     exact wpS_pure ⟨sm,.inl ⟨_,_,rfl,fin_l m' z hl⟩⟩
    ·rw[if_neg (by simpa using z)]
     split
     ·exact wpS_pure ⟨sm,.inr ⟨_,_,_,_,_,rfl,m',zAM q1 z,q2,upE q3⟩⟩
     ·exact wpS_pure ⟨sm,_,_,_,_,_,rfl,m',zAM q1 z,q2,upF q3⟩
  case ipost =>
   intro c st2 hI
   have sm2:=hI.1
   refine eo5 c hI.2 (fun R r g=>?_) fun out ia ib ac bc hP=>?_
   ·exact wpS_pure ⟨sm2,R,_,rfl,g⟩
   have m:=hP.1
   have q1:=hP.2.1
   have q2:=hP.2.2.1
   have q3:=hP.2.2.2
   clear hI hP
   dsimp only
   refine wpS_bind (wpS_lift (wpAny_rule ⟨rfl,?_⟩))
   refine wpS_bind (wpS_mono (wpS_forRange (I:=fun y c st'=>Sm st st'/\∃ out ia ib mg ac bc,c=(none,out,ia,ib,mg,ac,bc)/\MI κ T out.toList (a.toList.drop ia) (b.toList.drop ib)/\ia+1<a.size/\ib<b.size/\x+1<ia+ib)
    (Q:=fun c st'=>Sm st st'/\((∃ R r,c=(some R,r)/\Good κ T R)\/∃ out ia ib mg ac bc,c=(none,out,ia,ib,mg,ac,bc)/\MI κ T out.toList (a.toList.drop ia) (b.toList.drop ib)/\ia+1<a.size/\ib<b.size/\x+1<ia+ib))
    ?gstep ?gfin ⟨sm2,_,_,_,_,_,_,rfl,m,q1,q2,q3⟩) ?gpost)
   case gfin =>
    exact fun c st' hI=>⟨hI.1,.inr hI.2⟩
   case gpost =>
    intro c st3 hI
    have sm3:=hI.1
    refine eo6 c hI.2 (fun R r g=>?_) fun out ia ib mg ac bc hP=>?_
    ·exact wpS_pure ⟨sm3,R,_,rfl,g⟩
    dsimp only
    exact wpS_bind (wpS_modify (wpS_pure ⟨sm3.min _,_,_,_,_,rfl,hP⟩))
   case gstep =>
    intro y c st3 _ hy hI
    have sm:=hI.1
    refine el6 c hI.2 fun out ia ib mg ac bc hP=>?_
    have m:=hP.1
    have q1:=hP.2.1
    have q2:=hP.2.2.1
    have q3:=hP.2.2.2
    clear hI hP
    dsimp only
    obtain⟨pb,eb⟩:=get_of_lt q2
    have qa:=Nat.lt_of_succ_lt q1
    refine' wpS_ifS (P:=_) ?A0 (fun _ H=>?A1) fun _ H=>?A2
    case A1=>generalize mg-1=z;revert z;exact H.out
    case A2=>exact H.out _
    intro mg
    refine wpS_bind (wpS_modify ?_)
    refine wpS_bind (elem_ok eb (wpS_bind (gallop_ok (bey_right hO (kb _ _ eb) ka (base:=ia) (n:=a.size-ia) (zAG (zAE (zT qa)))) ((sm.min _).k.trans hk) (fun i j hij hj t=>?_) (zCW qa) fun k k1 k2 k3=>?_)))
    ·have t1:κ.kle (KK κ a (ia+j)) (kk κ pb):=by simpa[KeyOrd.kle]using t
     have t2:=KeyOrd.kle_trans (hA (ia+i) (ia+j) (zN hij ia) (zBA hj)) t1
     simpa[KeyOrd.kle]using t2
    dsimp only
    have low:∀ i,ia<=i->i<ia+k->κ.kle (KK κ a i) (KK κ b ib):=fun i i1 i2=>by
     have q:=k2 (i-ia) (zCC i1 i2)
     rw[zAE i1]at q
     rw[KK_of eb]
     simpa[KeyOrd.kle]using q
    have hi0:∀ i,ia+k<=i->i<a.size->κ.kle (KK κ b ib) (KK κ a i):=fun i i1 i2=>by
     have q:=k3 (i-ia) (Nat.le_sub_of_add_le' i1) (Nat.sub_lt_sub_right (Nat.le_of_add_right_le i1) i2)
     rw[zAE (Nat.le_of_add_right_le i1)]at q
     rw[KK_of eb]
     exact KeyOrd.kle_of_klt (show κ.blt _ _=true by simpa using q)
    refine' wpS_ifS (P:=_) ?B0 (fun kz H=>?B1) fun kz H=>?B2
    case B1 =>
     have mk:=blk_a (k:=k) m fun i i1 i2 _ j j1 j2=>KeyOrd.kle_trans (low i i1 i2) (hB ib j j1 j2)
     by_cases w1:ia+k+1=a.size
     ·rw[if_pos (by simpa using w1)]
      exact wpS_pure ⟨sm.min _,.inl ⟨_,_,rfl,fin_l mk w1 hl⟩⟩
     rw[if_neg (by simpa using w1)]
     by_cases w2:ia+k=a.size
     ·rw[if_pos (by simpa using w2)]
      exact wpS_pure ⟨sm.min _,.inl ⟨_,_,rfl,fin_a mk w2⟩⟩
     rw[if_neg (by simpa using w2)]
     have pr:x+1<ia+k+ib:=zG q3 (zBR (zI ia k) ib)
     have p1:ia+k+1<a.size:=zAM (zAM (Nat.add_le_of_le_sub' (zT qa) k1) w2) w1
     have hi1:=hi0
     revert pr p1 hi1 mk
     generalize out++a.extract ia (ia+k)=out1
     generalize ia+k=ia1
     revert out1 ia1
     exact H.out
    case B2 =>
     have k0:k=0:=Nat.eq_zero_of_not_pos kz
     exact H.out _ _ m q3 q1 (fun i i1 i2=>hi0 i (by rw[k0];exact i1) i2)
    clear low hi0 k1 k2 k3 m q3 q1
    intro out1 ia1 m1 pr p1 hi1
    refine wpS_bind (elem_ok eb ?_)
    have m2:=mv_b m1 eb hi1
    by_cases z:ib+1=b.size
    ·rw[if_pos (by simpa using z)]
     exact wpS_pure ⟨sm.min _,.inl ⟨_,_,rfl,fin_b m2 z⟩⟩
    rw[if_neg (by simpa using z)]
    obtain⟨pa,ea⟩:=get_of_lt (xs:=a) (i:=ia1) (Nat.lt_of_succ_lt p1)
    refine wpS_bind (elem_ok ea (wpS_bind (gallop_ok (bey_left hO (ka _ _ ea) kb (base:=ib+1) (n:=b.size-(ib+1)) (zAG (zAE q2))) ((sm.min _).k.trans hk) (fun i j hij hj t=>?_) (zCW (zAM q2 z)) fun k2 l1 l2 l3=>?_)))
    ·exact KeyOrd.klt_of_kle_of_klt (hB (ib+1+i) (ib+1+j) (zN hij _) (zBA hj)) t
    dsimp only
    have low2:∀ j,ib+1<=j->j<ib+1+k2->κ.kle (KK κ b j) (KK κ a ia1):=fun j j1 j2=>by
     have q:=l2 (j-(ib+1)) (zCC j1 j2)
     rw[zAE j1]at q
     rw[KK_of ea]
     exact KeyOrd.kle_of_klt q
    have high2:∀ j,ib+1+k2<=j->j<b.size->κ.kle (KK κ a ia1) (KK κ b j):=fun j j1 j2=>by
     have q:=l3 (j-(ib+1)) (Nat.le_sub_of_add_le' j1) (Nat.sub_lt_sub_right (Nat.le_of_add_right_le j1) j2)
     rw[zAE (Nat.le_of_add_right_le j1)]at q
     rw[KK_of ea]
     exact q
    refine' wpS_ifS (P:=_) ?C0 (fun kz2 H=>?C1) fun kz2 H=>?C2
    case C1 =>
     have m3:=blk_b (k:=k2) m2 fun j j1 j2 _ i i1 i2=>KeyOrd.kle_trans (low2 j j1 j2) (hA ia1 i i1 i2)
     by_cases z2:ib+1+k2=b.size
     ·rw[if_pos (by simpa using z2)]
      exact wpS_pure ⟨sm.min _,.inl ⟨_,_,rfl,fin_b m3 z2⟩⟩
     rw[if_neg (by simpa using z2)]
     have e1:ib+1+k2<b.size:=zAM (Nat.add_le_of_le_sub' q2 l1) z2
     have e2:x+1<ia1+1+(ib+1+k2):=zG pr (zCL (zCG _) (zC (zCG ib) (zI _ _)))
     have hi2:=high2
     revert e1 e2 hi2 m3
     generalize out1.push pb++b.extract (ib+1) (ib+1+k2)=out2
     generalize ib+1+k2=ib2
     generalize k2=bc
     revert out2 ib2 bc
     exact H.out
    case C2 =>
     have k0:k2=0:=Nat.eq_zero_of_not_pos kz2
     exact H.out _ _ _ m2 (zAM q2 z) (zG pr (zCL (zCG _) (zCG _))) (fun j j1 j2=>high2 j (by rw[k0];exact j1) j2)
    clear low2 high2 l1 l2 l3 m2 m1
    intro out2 ib2 bc m3 e1 e2 high2
    refine wpS_bind (elem_ok ea ?_)
    have m4:=mv_a m3 ea high2
    by_cases z3:ia1+1+1=a.size
    ·rw[if_pos (by simpa using z3)]
     exact wpS_pure ⟨sm.min _,.inl ⟨_,_,rfl,fin_l m4 z3 hl⟩⟩
    rw[if_neg (by simpa using z3)]
    have e3:ia1+1+1<a.size:=zAM p1 z3
    refine wpS_if (fun _=>?_) fun _=>?_
    ·exact wpS_pure ⟨sm.min _,.inr ⟨_,_,_,_,_,_,rfl,m4,e3,e1,e2⟩⟩
    ·exact wpS_pure ⟨sm.min _,_,_,_,_,_,_,rfl,m4,e3,e1,e2⟩
end
open PySem PyProof.Rows
section
variable{κ:KeyKind}{a b out:Array Keyed}{T:List Keyed}{na nb k:Nat}{p:Keyed}
theorem rev_out(xs ys out:Array Keyed):(xs++ys++out.reverse).toList=xs.toList++ys.toList++out.toList.reverse:=by simp
theorem hf_a(h:MH κ T out.toList.reverse (a.toList.take na) (b.toList.take nb))(e:na=0):Good κ T (a.extract 0 na++b.extract 0 nb++out.reverse):=by
 subst e
 rw[List.take_zero]at h
 exact h.endA (by rw[rev_out,ext_take,ext_take,List.take_zero,List.nil_append])
theorem hf_b(h:MH κ T out.toList.reverse (a.toList.take na) (b.toList.take nb))(e:nb=0):Good κ T (a.extract 0 na++b.extract 0 nb++out.reverse):=by
 subst e
 rw[List.take_zero]at h
 exact h.endB (by rw[rev_out,ext_take,ext_take,List.take_zero,List.append_nil])
theorem hf_f(h:MH κ T out.toList.reverse (a.toList.take na) (b.toList.take nb))(e:nb=1)(hb:0<b.size)(hl:∀ i,i<a.size->κ.kle (KK κ b 0) (KK κ a i)):Good κ T (b.extract 0 nb++a.extract 0 na++out.reverse):=by
 subst e
 obtain⟨l,hl'⟩:=get_of_lt hb
 have ed:b.toList.take 1=[l]:=by rw[take_at hl'];rfl
 rw[ed]at h
 refine h.first (fun y hy=>?_) (by rw[rev_out,ext_take,ext_take,ed])
 obtain⟨j,_,j2,j3⟩:=mem_take hy
 have q:=hl j j2
 rw[KK_of j3,KK_of hl']at q
 exact q
theorem hm_a(h:MH κ T out.toList.reverse (a.toList.take (na+1)) (b.toList.take nb))(hp:a[na]?=some p)(hx:∀ j,j<nb->j<b.size->κ.kle (KK κ b j) (KK κ a na)):MH κ T (out.push p).toList.reverse (a.toList.take na) (b.toList.take nb):=by
 rw[take_at hp]at h
 have e:(out.push p).toList.reverse=[p]++out.toList.reverse:=by simp
 rw[e]
 refine h.a fun x hx' y hy=>?_
 rw[zAA.mp hx']
 obtain⟨j,j1,j2,j3⟩:=mem_take hy
 have q:=hx j j1 j2
 rw[KK_of hp,KK_of j3]at q
 exact q
theorem hm_b(h:MH κ T out.toList.reverse (a.toList.take na) (b.toList.take (nb+1)))(hp:b[nb]?=some p)(hx:∀ i,i<na->i<a.size->κ.kle (KK κ a i) (KK κ b nb)):MH κ T (out.push p).toList.reverse (a.toList.take na) (b.toList.take nb):=by
 rw[take_at hp]at h
 have e:(out.push p).toList.reverse=[p]++out.toList.reverse:=by simp
 rw[e]
 refine h.b fun x hx' y hy=>?_
 rw[zAA.mp hx']
 obtain⟨j,j1,j2,j3⟩:=mem_take hy
 have q:=hx j j1 j2
 rw[KK_of hp,KK_of j3]at q
 exact q
theorem take_blk(xs:Array Keyed){i n:Nat}(h:i<=n):xs.toList.take n=xs.toList.take i++(xs.toList.drop i).take (n-i):=by
 rw[<- List.take_add,Nat.add_sub_cancel' h]
theorem out_blk(out xs:Array Keyed){i n:Nat}(h:i<=n):(out++(xs.extract i n).reverse).toList.reverse=(xs.toList.drop i).take (n-i)++out.toList.reverse:=by
 have e:=ext_blk xs i (n-i)
 rw[Nat.add_sub_cancel' h]at e
 rw[<- e]
 simp
theorem hb_a{i:Nat}(hi:i<=na)(h:MH κ T out.toList.reverse (a.toList.take na) (b.toList.take nb))(hx:∀ m,i<=m->m<na->m<a.size->∀ j,j<nb->j<b.size->κ.kle (KK κ b j) (KK κ a m)) :
  MH κ T (out++(a.extract i na).reverse).toList.reverse (a.toList.take i) (b.toList.take nb):=by
 rw[take_blk a hi]at h
 rw[out_blk _ _ hi]
 refine h.a fun x hx' y hy=>?_
 obtain⟨m,i1,i2,i3,i4⟩:=mem_blk hx'
 obtain⟨j,j1,j2,j3⟩:=mem_take hy
 have q:=hx m i1 (by exact zbg hi i2) i3 j j1 j2
 rw[KK_of i4,KK_of j3]at q
 exact q
theorem hb_b{i:Nat}(hi:i<=nb)(h:MH κ T out.toList.reverse (a.toList.take na) (b.toList.take nb))(hx:∀ m,i<=m->m<nb->m<b.size->∀ j,j<na->j<a.size->κ.kle (KK κ a j) (KK κ b m)) :
  MH κ T (out++(b.extract i nb).reverse).toList.reverse (a.toList.take na) (b.toList.take i):=by
 rw[take_blk b hi]at h
 rw[out_blk _ _ hi]
 refine h.b fun x hx' y hy=>?_
 obtain⟨m,i1,i2,i3,i4⟩:=mem_blk hx'
 obtain⟨j,j1,j2,j3⟩:=mem_take hy
 have q:=hx m i1 (by exact zbg hi i2) i3 j j1 j2
 rw[KK_of i4,KK_of j3]at q
 exact q
end
section
variable{prog:Program}{w:World}{A:Around}{E:Value->Shared->Prop}{s:Shared}{κ:KeyKind}{kd:SortKind}{st:SortSt}
variable{a b:Array Keyed}
theorem upG{x m n l N:Nat}(h:x+m+(n+1)+l<N):x+1+n+l<N:=zL (zBR (by rw[zCT];exact Nat.succ_le_succ (zBR (zI x m) n)) l) h
theorem upH{x y m n l N:Nat}(h:x+m+(n+1)+l<N):x+min (y+1) 1+n+l<N:=by rw[zCU (zAW 1 y)];exact upG h
theorem upI{x m n l N:Nat}(h:x+m+n+(l+1)<N):x+1+n+l<N:=by rw[zCT (x+1)];exact upG (n:=l) (l:=n) (by rw[zCT (x+m)];exact h)
theorem upJ{x y m n l N:Nat}(h:x+m+n+(l+1)<N):x+min (y+1) 1+n+l<N:=by rw[zCU (zAW 1 y)];exact upI h
theorem mergeHi_ok{Q:Array Keyed->SortSt->Prop}(hO:LtOk κ kd prog w A s)(hk:kindOf st=kd)(ka:Keyd κ a)(kb:Keyd κ b)(hA:∀ i j,i<=j->j<a.size->κ.kle (KK κ a i) (KK κ a j))(hB:∀ i j,i<=j->j<b.size->κ.kle (KK κ b i) (KK κ b j))
  (ha:0<a.size) (hb:0<b.size) (h1:κ.kle (KK κ b 0) (KK κ a 0)) (h2:κ.kle (KK κ b (b.size-1)) (KK κ a (a.size-1)))
  (h:∀ R st',Sm st st'->Good κ (a.toList++b.toList) R->Q R st'):wpS (model prog w) A E s (mergeHiP a b) Q st:=by
 obtain⟨al,el⟩:=get_of_lt (xs:=a) (i:=a.size-1) (zCS ha zBY)
 generalize hT:a.toList++b.toList=T at h
 have hf:∀ i,i<a.size->κ.kle (KK κ b 0) (KK κ a i):=fun i hi=>KeyOrd.kle_trans h1 (hA 0 i (zAO i) hi)
 have m0:MH κ T (#[]:Array Keyed).toList.reverse (a.toList.take (a.size-1+1)) (b.toList.take b.size):=by
  rw[Nat.sub_add_cancel ha]
  rw[zBV (l:=a.toList) (by simp),zBV (l:=b.toList) (by simp)]
  exact⟨by rw[<- hT];simp,by simp,fun x hx=>by simp at hx,pw_of hA,pw_of hB⟩
 have m1:MH κ T (#[al]:Array Keyed).toList.reverse (a.toList.take (a.size-1)) (b.toList.take b.size):=hm_a m0 el fun j _ hj=>KeyOrd.kle_trans (hB j (b.size-1) (zBI hj) (zCS hb zBY)) h2
 refine wpS_bind (wpS_lift (wpAny_rule ⟨rfl,wpS_bind (elem_ok el ?_)⟩))
 dsimp only
 by_cases y1:a.size-1=0
 ·rw[if_pos (by simpa using y1)]
  exact wpS_pure (h _ _ (Sm.refl _) (hf_a m1 y1))
 rw[if_neg (by simpa using y1)]
 by_cases y2:b.size=1
 ·rw[if_pos (by simpa using y2)]
  exact wpS_pure (h _ _ (Sm.refl _) (hf_f m1 y2 hb hf))
 rw[if_neg (by simpa using y2)]
 refine wpS_bind (wpS_get ?_)
 refine wpS_bind (wpS_mono (wpS_forRange (I:=fun x c st'=>Sm st st'/\∃ na nb out mg,c=(none,na,nb,out,mg)/\MH κ T out.toList.reverse (a.toList.take na) (b.toList.take nb)/\0<na/\na<=a.size/\1<nb/\nb<=b.size/\x+na+nb<a.size+b.size)
  (Q:=fun c st'=>Sm st st'/\∃ R r,c=(some R,r)/\Good κ T R) ?ostep ?ofin ⟨Sm.refl _,_,_,_,_,rfl,m1,zBT y1,zBE _ _,zAM hb (Ne.symm y2),zH _,by rw[zBU];exact Nat.add_lt_add_right (zCS ha zBY) _⟩) ?opost)
 case opost =>
  rintro c st' ⟨sm,R,r,rfl,g⟩
  exact wpS_pure (h R st' sm g)
 case ofin =>
  rintro c st' ⟨sm,na,nb,out,mg,rfl,m,q1,q1',q2,q2',q3⟩
  exact absurd q3 (Nat.not_lt_of_le (zC (Nat.le_max_right 0 _) (zC (zI _ na) (zI _ nb))))
 case ostep =>
  intro x c st1 _ hx hI
  have sm1:=hI.1
  refine el4 c hI.2 fun na nb out mg hP=>?_
  have m:=hP.1
  have q1:=hP.2.1
  have q1':=hP.2.2.1
  have q2:=hP.2.2.2.1
  have q2':=hP.2.2.2.2.1
  have q3:=hP.2.2.2.2.2
  clear hI hP
  dsimp only
  refine wpS_bind (wpS_mono (wpS_forRange (I:=fun y c st'=>Sm st st'/\∃ na nb out ac bc,c=(none,na,nb,out,ac,bc)/\MH κ T out.toList.reverse (a.toList.take na) (b.toList.take nb)/\0<na/\na<=a.size/\1<nb/\nb<=b.size/\x+min y 1+na+nb<a.size+b.size)
   (Q:=fun c st'=>Sm st st'/\((∃ R r,c=(some R,r)/\Good κ T R)\/∃ na nb out ac bc,c=(none,na,nb,out,ac,bc)/\MH κ T out.toList.reverse (a.toList.take na) (b.toList.take nb)/\0<na/\na<=a.size/\1<nb/\nb<=b.size/\x+1+na+nb<a.size+b.size))
   ?istep ?ifin ⟨sm1,_,_,_,_,_,rfl,m,q1,q1',q2,q2',q3⟩) ?ipost)
  case ifin =>
   rintro c st' ⟨sm,na,nb,out,ac,bc,rfl,m,q1,q1',q2,q2',q3⟩
   exact⟨sm,.inr ⟨na,nb,out,ac,bc,rfl,m,q1,q1',q2,q2',by rwa [Nat.zero_max,zCU (Nat.add_pos_left ha _)]at q3⟩⟩
  case istep =>
   intro y c st2 _ hy hI
   have sm:=hI.1
   refine el5 c hI.2 fun na nb out ac bc hP=>?_
   have m:=hP.1
   have q1:=hP.2.1
   have q1':=hP.2.2.1
   have q2:=hP.2.2.2.1
   have q2':=hP.2.2.2.2.1
   have q3:=hP.2.2.2.2.2
   clear hI hP
   dsimp only
   obtain⟨n,rfl⟩:∃ n,na=n+1:=⟨_,(Nat.sub_add_cancel q1).symm⟩
   obtain⟨l,rfl⟩:∃ l,nb=l+1:=⟨_,(Nat.sub_add_cancel (zT q2)).symm⟩
   obtain⟨pb,eb⟩:=get_of_lt (xs:=b) (i:=l) q2'
   obtain⟨pa,ea⟩:=get_of_lt (xs:=a) (i:=n) q1'
   refine wpS_bind (elem_ok eb (wpS_bind (elem_ok ea (wpS_bind (lt_ok hO (sm.k.trans hk) (kb _ _ eb) (ka _ _ ea) ?_)))))
   cases t:κ.blt (kk κ pb) (kk κ pa)with
   |true =>
    dsimp only
    rw[if_pos rfl]
    have tk:κ.kle (KK κ b l) (KK κ a n):=by rw[KK_of eb,KK_of ea];exact KeyOrd.kle_of_klt t
    have m':=hm_a m ea fun j j1 j2=>KeyOrd.kle_trans (hB j l (zBF j1) q2') tk
    refine wpS_bind (elem_ok ea ?_)
    by_cases z:n=0
    ·rw[if_pos (by simpa using z)]
     exact wpS_pure ⟨sm,.inl ⟨_,_,rfl,hf_a m' z⟩⟩
    ·rw[if_neg (by simpa using z)]
     refine wpS_if (fun _=>?_) fun _=>?_
     ·exact wpS_pure ⟨sm,.inr ⟨_,_,_,_,_,rfl,m',zBT z,zT q1',q2,q2',upG q3⟩⟩
     ·exact wpS_pure ⟨sm,_,_,_,_,_,rfl,m',zBT z,zT q1',q2,q2',upH q3⟩
   |false =>
    dsimp only
    rw[if_neg zJ]
    have tk:κ.kle (KK κ a n) (KK κ b l):=by rw[KK_of eb,KK_of ea];exact t
    have m':=hm_b m eb fun j j1 j2=>KeyOrd.kle_trans (hA j n (zBF j1) q1') tk
    refine wpS_bind (elem_ok eb ?_)
    by_cases z:l=1
    ·rw[if_pos (by simpa using z)]
     exact wpS_pure ⟨sm,.inl ⟨_,_,rfl,hf_f m' z hb hf⟩⟩
    ·rw[if_neg (by simpa using z)]
     refine wpS_if (fun _=>?_) fun _=>?_
     ·exact wpS_pure ⟨sm,.inr ⟨_,_,_,_,_,rfl,m',q1,q1',zAM (zBM q2) (Ne.symm z),zT q2',upI q3⟩⟩
     ·exact wpS_pure ⟨sm,_,_,_,_,_,rfl,m',q1,q1',zAM (zBM q2) (Ne.symm z),zT q2',upJ q3⟩
  case ipost =>
   intro c st2 hI
   have sm2:=hI.1
   refine eo5 c hI.2 (fun R r g=>?_) fun na nb out ac bc hP=>?_
   ·exact wpS_pure ⟨sm2,R,_,rfl,g⟩
   have m:=hP.1
   have q1:=hP.2.1
   have q1':=hP.2.2.1
   have q2:=hP.2.2.2.1
   have q2':=hP.2.2.2.2.1
   have q3:=hP.2.2.2.2.2
   clear hI hP
   dsimp only
   refine wpS_bind (wpS_lift (wpAny_rule ⟨rfl,?_⟩))
   refine wpS_bind (wpS_mono (wpS_forRange (I:=fun y c st'=>Sm st st'/\∃ na nb out mg ac bc,c=(none,na,nb,out,mg,ac,bc)/\MH κ T out.toList.reverse (a.toList.take na) (b.toList.take nb)/\0<na/\na<=a.size/\1<nb/\nb<=b.size/\x+1+na+nb<a.size+b.size)
    (Q:=fun c st'=>Sm st st'/\((∃ R r,c=(some R,r)/\Good κ T R)\/∃ na nb out mg ac bc,c=(none,na,nb,out,mg,ac,bc)/\MH κ T out.toList.reverse (a.toList.take na) (b.toList.take nb)/\0<na/\na<=a.size/\1<nb/\nb<=b.size/\x+1+na+nb<a.size+b.size))
    ?gstep ?gfin ⟨sm2,_,_,_,_,_,_,rfl,m,q1,q1',q2,q2',q3⟩) ?gpost)
   case gfin =>
    exact fun c st' hI=>⟨hI.1,.inr hI.2⟩
   case gpost =>
    intro c st3 hI
    have sm3:=hI.1
    refine eo6 c hI.2 (fun R r g=>?_) fun na nb out mg ac bc hP=>?_
    ·exact wpS_pure ⟨sm3,R,_,rfl,g⟩
    dsimp only
    have m:=hP.1
    have q1:=hP.2.1
    have q1':=hP.2.2.1
    have q2:=hP.2.2.2.1
    have q2':=hP.2.2.2.2.1
    have q3:=hP.2.2.2.2.2
    clear hI hP
    exact wpS_bind (wpS_modify (wpS_pure ⟨sm3.min _,_,_,_,_,rfl,m,q1,q1',q2,q2',q3⟩))
   case gstep =>
    intro y c st3 _ hy hI
    have sm:=hI.1
    refine el6 c hI.2 fun na nb out mg ac bc hP=>?_
    have m:=hP.1
    have q1:=hP.2.1
    have q1':=hP.2.2.1
    have q2:=hP.2.2.2.1
    have q2':=hP.2.2.2.2.1
    have q3:=hP.2.2.2.2.2
    clear hI hP
    dsimp only
    obtain⟨l,rfl⟩:∃ l,nb=l+1:=⟨_,(Nat.sub_add_cancel (zT q2)).symm⟩
    obtain⟨pb,eb⟩:=get_of_lt (xs:=b) (i:=l) q2'
    refine' wpS_ifS (P:=_) ?A0 (fun _ H=>?A1) fun _ H=>?A2
    case A1=>generalize mg-1=z;revert z;exact H.out
    case A2=>exact H.out _
    intro mg
    refine wpS_bind (wpS_modify ?_)
    refine wpS_bind (elem_ok eb (wpS_bind (gallop_ok (bey_right hO (kb _ _ eb) ka (base:=0) (n:=na) (by rw[zBU];exact q1')) ((sm.min _).k.trans hk) (fun i j hij hj t=>?_) (zCS q1 zBY) fun k k1 k2 k3=>?_)))
    ·have t1:κ.kle (KK κ a (0+j)) (kk κ pb):=by simpa[KeyOrd.kle]using t
     have t2:=KeyOrd.kle_trans (hA (0+i) (0+j) (zN hij 0) (by rw[zBU];exact zG hj q1')) t1
     simpa[KeyOrd.kle]using t2
    dsimp only
    have lowk:∀ i,i<k->κ.kle (KK κ a i) (KK κ b l):=fun i i1=>by
     have q:=k2 i i1
     rw[zBU]at q
     rw[KK_of eb]
     simpa[KeyOrd.kle]using q
    have upk:∀ i,k<=i->i<na->κ.kle (KK κ b l) (KK κ a i):=fun i i1 i2=>by
     have q:=k3 i i1 i2
     rw[zBU]at q
     rw[KK_of eb]
     exact KeyOrd.kle_of_klt (show κ.blt _ _=true by simpa using q)
    refine' wpS_ifS (P:=_) ?B0 (fun kz H=>?B1) fun kz H=>?B2
    case B1 =>
     have mk:=hb_a k1 m fun i i1 i2 _ j j1 j2=>KeyOrd.kle_trans (hB j l (zBF j1) q2') (upk i i1 i2)
     by_cases w1:k=0
     ·rw[if_pos (by simpa using w1)]
      exact wpS_pure ⟨sm.min _,.inl ⟨_,_,rfl,hf_a mk w1⟩⟩
     rw[if_neg (by simpa using w1)]
     have lo1:=lowk
     have p1:0<k:=zBT w1
     have p2:k<=a.size:=zC k1 q1'
     have p3:x+1+k+(l+1)<a.size+b.size:=zL (zBR (zN k1 _) _) q3
     revert mk lo1 p1 p2 p3
     generalize out++(a.extract k na).reverse=out1
     generalize na-k=ac1
     generalize k=na1
     revert out1 ac1 na1
     exact H.out
    case B2 =>
     have k0:k=na:=zCJ k1 (Nat.le_of_sub_eq_zero (Nat.eq_zero_of_not_pos kz))
     exact H.out _ _ _ m (fun i i1=>lowk i (by rw[k0];exact i1)) q1 q1' q3
    clear lowk upk k1 k2 k3 m q1 q1' q3
    intro out1 ac1 na1 m1 lo1 p1 p2 p3
    refine wpS_bind (elem_ok eb ?_)
    have m2:=hm_b m1 eb fun i i1 _=>lo1 i i1
    by_cases z:l=1
    ·rw[if_pos (by simpa using z)]
     exact wpS_pure ⟨sm.min _,.inl ⟨_,_,rfl,hf_f m2 z hb hf⟩⟩
    rw[if_neg (by simpa using z)]
    obtain⟨n,rfl⟩:∃ n,na1=n+1:=⟨_,(Nat.sub_add_cancel p1).symm⟩
    obtain⟨pa,ea⟩:=get_of_lt (xs:=a) (i:=n) p2
    refine wpS_bind (elem_ok ea (wpS_bind (gallop_ok (bey_left hO (ka _ _ ea) kb (base:=0) (n:=l) (by rw[zBU];exact zT q2')) ((sm.min _).k.trans hk) (fun i j hij hj t=>?_) (zCS (zBM q2) zBY) fun k2 l1 l2 l3=>?_)))
    ·exact KeyOrd.klt_of_kle_of_klt (hB (0+i) (0+j) (zN hij 0) (by rw[zBU];exact Nat.lt_trans hj q2')) t
    dsimp only
    have low2:∀ j,j<k2->κ.kle (KK κ b j) (KK κ a n):=fun j j1=>by
     have q:=l2 j j1
     rw[zBU]at q
     rw[KK_of ea]
     exact KeyOrd.kle_of_klt q
    have up2:∀ j,k2<=j->j<l->κ.kle (KK κ a n) (KK κ b j):=fun j j1 j2=>by
     have q:=l3 j j1 j2
     rw[zBU]at q
     rw[KK_of ea]
     exact q
    refine' wpS_ifS (P:=_) ?C0 (fun kz2 H=>?C1) fun kz2 H=>?C2
    case C1 =>
     have m3:=hb_b l1 m2 fun j j1 j2 _ i i1 i2=>KeyOrd.kle_trans (hA i n (zBF i1) p2) (up2 j j1 j2)
     by_cases z2:k2=1
     ·rw[if_pos (by simpa using z2)]
      exact wpS_pure ⟨sm.min _,.inl ⟨_,_,rfl,hf_f m3 z2 hb hf⟩⟩
     rw[if_neg (by simpa using z2)]
     by_cases z4:k2=0
     ·rw[if_pos (by simpa using z4)]
      exact wpS_pure ⟨sm.min _,.inl ⟨_,_,rfl,hf_b m3 z4⟩⟩
     rw[if_neg (by simpa using z4)]
     have lo2:=low2
     have e1:1<k2:=zAM (zBT z4) (Ne.symm z2)
     have e2:k2<=b.size:=zC l1 (zT q2')
     have e3:x+1+n+k2<a.size+b.size:=zL (zCL (zCG _) (Nat.le_succ_of_le l1)) p3
     revert m3 lo2 e1 e2 e3
     generalize out1.push pb++(b.extract k2 (l+1-1)).reverse=out2
     generalize l+1-1-k2=bc2
     generalize k2=nb2
     revert out2 bc2 nb2
     exact H.out
    case C2 =>
     have k0:k2=l:=zCJ l1 (Nat.le_of_sub_eq_zero (Nat.eq_zero_of_not_pos kz2))
     exact H.out _ _ _ m2 (fun j j1=>low2 j (by rw[k0];exact j1)) (zAM (zBM q2) (Ne.symm z)) (zT q2') (zL (zCL (zCG _) (zCG _)) p3)
    clear low2 up2 l1 l2 l3 m2 m1 p1 p3
    intro out2 bc2 nb2 m3 lo2 e1 e2 e3
    refine wpS_bind (elem_ok ea ?_)
    have m4:=hm_a m3 ea fun j j1 _=>lo2 j j1
    by_cases z3:n=0
    ·rw[if_pos (by simpa using z3)]
     exact wpS_pure ⟨sm.min _,.inl ⟨_,_,rfl,hf_a m4 z3⟩⟩
    rw[if_neg (by simpa using z3)]
    have e4:0<n:=zBT z3
    have e5:n<=a.size:=zT p2
    refine wpS_if (fun _=>?_) fun _=>?_
    ·exact wpS_pure ⟨sm.min _,.inr ⟨_,_,_,_,_,_,rfl,m4,e4,e5,e1,e2,e3⟩⟩
    ·exact wpS_pure ⟨sm.min _,_,_,_,_,_,_,rfl,m4,e4,e5,e1,e2,e3⟩
end
open PySem PyProof.Rows
theorem write_blk:∀ (m:List Keyed) (xs:Array Keyed) (sa j0:Nat),sa+j0+m.length<=xs.size ->
  ((m.zipIdx j0).foldl (fun(a:Array Keyed) (q:Keyed×Nat)=>a.setIfInBounds (sa+q.2) q.1) xs).toList=xs.toList.take (sa+j0)++m++xs.toList.drop (sa+j0+m.length)
 |[],xs,sa,j0,h=>by simp
 |p :: r,xs,sa,j0,h=>by
  rw[zV]at h
  rw[List.zipIdx_cons,List.foldl_cons,write_blk r _ sa (j0+1) (by rw[Array.size_setIfInBounds];exact zif h)]
  have hl:xs.toList.length=xs.size:=by simp
  rw[Array.toList_setIfInBounds]
  have e1:(xs.toList.set (sa+j0) p).take (sa+(j0+1))=xs.toList.take (sa+j0)++[p]:=by
   rw[show sa+(j0+1)=sa+j0+1 by exact zem,zCN,List.take_set_of_le (zH _),List.getElem?_set_self (by exact zid h hl)]
   rfl
  have e2:(xs.toList.set (sa+j0) p).drop (sa+(j0+1)+r.length)=xs.toList.drop (sa+j0+(p :: r).length):=by
   rw[List.drop_set_of_lt (by exact zes),zV]
   congr 1
   exact zdy
  rw[e1,e2]
  simp
theorem SIn.pw{κ:KeyKind}{xs:Array Keyed}{lo n:Nat}(h:SIn κ xs lo n):((xs.toList.drop lo).take n).Pairwise (kL κ):=by
 rw[zBS]
 intro i j hi hj hij
 rw[zAD,zAN]at hi hj
 have hl:xs.toList.length=xs.size:=by simp
 have q:=h i j (by exact zT hij) (by exact zdj hj)
 have g:∀ m,(hm:m<min n (xs.toList.length-lo))->xs[lo+m]?=some (((xs.toList.drop lo).take n)[m]'(by rw[zAD,zAN];exact hm)):=fun m hm=>by
  rw[List.getElem_take,List.getElem_drop,<- zF (by exact zbm hl hm)]
  simp
 rw[KK_of (g i hi),KK_of (g j hj)]at q
 exact q
section
variable{prog:Program}{w:World}{A:Around}{E:Value->Shared->Prop}{s:Shared}{κ:KeyKind}{kd:SortKind}{st:SortSt}{a₀:Array Keyed}{n1 n2 pw:Nat}
theorem keyd_of{xs:Array Keyed}(hp:xs.Perm a₀)(h0:KeysOf κ a₀):Keyd κ xs:=fun i p hi=>by
 have hm:p∈a₀.toList:=(Array.perm_iff_toList_perm.mp hp).mem_iff.mp (by
  have:=Array.mem_of_getElem? hi
  simpa using this)
 exact h0 p hm
theorem keyd_ext{xs:Array Keyed}(h:Keyd κ xs)(i j:Nat):Keyd κ (xs.extract i j):=fun m p hm=>by
 rw[Array.getElem?_extract]at hm
 split at hm
 ·exact h _ _ hm
 ·cases hm
theorem KK_ext{xs:Array Keyed}{i j m:Nat}(hm:m<min j xs.size-i):KK κ (xs.extract i j) m=KK κ xs (i+m):=by
 apply KK_congr
 rw[Array.getElem?_extract,if_pos hm]
theorem wpS_set{σ:Type}{M:Model}{x st:σ}{Q:PUnit->σ->Prop}(h:Q ⟨⟩ x):wpS M A E s (set x:StateT σ Sem PUnit) Q st:=by
 unfold wpS
 rw[StateT.run_set]
 exact zE ⟨rfl,h⟩
theorem glue{L P X Y S M:List Keyed}(hL:L=P++X++(Y++S))(hM:M.Perm (X++Y))(sM:M.Pairwise (kL κ))(sa:(P++X).Pairwise (kL κ))(sb:(Y++S).Pairwise (kL κ))(hPY:∀ x∈P,∀ y∈Y++S,kL κ x y)(hXS:∀ x∈X,∀ y∈S,kL κ x y) :
  (P++M++S).Perm L/\(P++M++S).Pairwise (kL κ):=by
 obtain⟨p1,p2,p3⟩:=zAU.mp sa
 obtain⟨r1,r2,r3⟩:=zAU.mp sb
 constructor
 ·rw[hL]
  simp only[zAV]
  refine List.Perm.append_left P ?_
  rw[<- zAV X]
  exact List.Perm.append_right S hM
 ·refine zAU.mpr ⟨zAU.mpr ⟨p1,sM,fun x hx y hy=>?_⟩,r2,fun x hx y hy=>?_⟩
  ·rcases zAB.mp (hM.mem_iff.mp hy)with q | q
   ·exact p3 x hx y q
   ·exact hPY x hx y (zAZ _ q)
  ·rcases zAB.mp hx with q | q
   ·exact hPY x q y (zAR _ hy)
   ·rcases zAB.mp (hM.mem_iff.mp q)with q | q
    ·exact hXS x q y hy
    ·exact r3 x q y hy
theorem SIn.of_seg{κ:KeyKind}{xs:Array Keyed}{P B S:List Keyed}(e:xs.toList=P++B++S)(h:B.Pairwise (kL κ)):SIn κ xs P.length B.length:=by
 intro i j hij hj
 by_cases ij:i=j
 ·subst ij;exact KeyOrd.kle_refl _
 have g:∀ m (hm:m<B.length),xs[P.length+m]?=some B[m]:=fun m hm=>by
  rw[<- zAH,e,zAV,List.getElem?_append_right (by exact zI P.length m),Nat.add_sub_cancel_left,List.getElem?_append_left hm,zF hm]
 rw[KK_of (g i (by exact zL hij hj)),KK_of (g j hj)]
 exact(zBS.mp h) i j (by exact zL hij hj) hj (by exact zj5 ij hij)
theorem mergeAt_ok{Q:Bool->SortSt->Prop}{i b pw pw2:Nat}(hO:LtOk κ kd prog w A s)(h0:KeysOf κ a₀)(hk:kindOf st=kd)(hp:(arrOf st).Perm a₀)(hf:failedOf st=none)(hpa:(pendingOf st)[i]?=some (b,n1,pw))(hpb:(pendingOf st)[i+1]?=some (b+n1,n2,pw2))(hsz:b+n1+n2<=a₀.size)(h1:0<n1)(h2:0<n2)
  (s1:SIn κ (arrOf st) b n1) (s2:SIn κ (arrOf st) (b+n1) n2)
  (h:∀ st',(arrOf st').Perm a₀->failedOf st'=none->pendingOf st'=((pendingOf st).setIfInBounds i (b,n1+n2,pw)).eraseIdxIfInBounds (i+1)->SIn κ (arrOf st') b (n1+n2)->kindOf st'=kd->(∀ k,k<b\/b+n1+n2<=k->(arrOf st')[k]?=(arrOf st)[k]?)->Q true st'):wpS (model prog w) A E s (mergeAt' i) Q st:=by
 obtain⟨kd',xs,pend,mg,fl⟩:=st
 change kd'=kd at hk
 change xs.Perm a₀ at hp
 change fl=none at hf
 change pend[i]?=_ at hpa
 change pend[i+1]?=_ at hpb
 change SIn κ xs b n1 at s1
 change SIn κ xs (b+n1) n2 at s2
 subst hk hf
 have hs:b+n1+n2<=xs.size:=by rw[hp.size_eq];exact hsz
 have hl:xs.toList.length=xs.size:=by simp
 have kd0:=keyd_of hp h0
 have hn:b+n1<=xs.size:=zC (zI _ _) hs
 obtain⟨pb,eb⟩:=get_of_lt (xs:=xs) (i:=b+n1) (zG (zCY h2) hs)
 refine wpS_bind (wpS_get ?_)
 dsimp only
 rw[hpa,hpb]
 dsimp only
 refine wpS_bind (wpS_set ?_)
 change ∀ st':SortSt,(arrOf st').Perm a₀->failedOf st'=none->pendingOf st'=(pend.setIfInBounds i (b,n1+n2,pw)).eraseIdxIfInBounds (i+1)->SIn κ (arrOf st') b (n1+n2)->kindOf st'=kd'->(∀ k,k<b\/b+n1+n2<=k->(arrOf st')[k]?=xs[k]?)->Q true st' at h
 generalize (pend.setIfInBounds i (b,n1+n2,pw)).eraseIdxIfInBounds (i+1)=pend' at h ⊢
 refine wpS_bind (elem_ok eb (wpS_bind (gallop_ok (kd:=kd') (bey_right (arr:=xs) hO (kd0 _ _ eb) kd0 (base:=b) (n:=n1) hn) rfl (fun i j hij hj t=>?_) h1 fun k k1 k2 k3=>?_)))
 ·have t1:κ.kle (KK κ xs (b+j)) (kk κ pb):=by simpa[KeyOrd.kle]using t
  have t2:=KeyOrd.kle_trans (s1 i j hij hj) t1
  simpa[KeyOrd.kle]using t2
 dsimp only
 have lowk:∀ i,i<k->κ.kle (KK κ xs (b+i)) (KK κ xs (b+n1)):=fun i hi=>by
  have q:=k2 i hi
  rw[KK_of eb]
  simpa[KeyOrd.kle]using q
 have upk:∀ i,k<=i->i<n1->κ.kle (KK κ xs (b+n1)) (KK κ xs (b+i)):=fun i i1 i2=>by
  have q:=k3 i i1 i2
  rw[KK_of eb]
  exact KeyOrd.kle_of_klt (show κ.blt _ _=true by simpa using q)
 have hA:∀ i j,i<=j->j<n1->κ.kle (KK κ xs (b+i)) (KK κ xs (b+j)):=s1
 have hB:∀ i j,i<=j->j<n2->κ.kle (KK κ xs (b+n1+i)) (KK κ xs (b+n1+j)):=s2
 have calm:(∀ i j,i<n1->j<n2->κ.kle (KK κ xs (b+i)) (KK κ xs (b+n1+j)))->SIn κ xs b (n1+n2):=fun hc i j hij hj=>by
  by_cases j1:j<n1
  ·exact hA i j hij j1
  ·obtain⟨j',rfl⟩:∃ j',j=n1+j':=⟨_,(zAE (Nat.le_of_not_lt j1)).symm⟩
   rw[<- zAK]
   by_cases i1:i<n1
   ·exact hc i j' i1 (Nat.lt_of_add_lt_add_left hj)
   ·obtain⟨i',rfl⟩:∃ i',i=n1+i':=⟨_,(zAE (Nat.le_of_not_lt i1)).symm⟩
    rw[<- zAK]
    exact hB i' j' (Nat.le_of_add_le_add_left hij) (Nat.lt_of_add_lt_add_left hj)
 by_cases z1:n1-k=0
 ·rw[if_pos (by simpa using z1)]
  refine wpS_pure (h _ hp rfl rfl (calm fun i j i1 j1=>KeyOrd.kle_trans (lowk i (zG i1 (Nat.le_of_sub_eq_zero z1))) ?_) rfl fun _ _=>rfl)
  have:=hB 0 j (zAO _) j1
  rwa [Nat.add_zero]at this
 rw[if_neg (by simpa using z1)]
 have pk:0<n1-k:=zBT z1
 have eL:b+k+(n1-k)-1=b+(n1-1):=by rw[zAK,zAE k1,zBK h1]
 have l1:=zCS h1 zBY
 obtain⟨pa,ea'⟩:=get_of_lt (xs:=xs) (i:=b+(n1-1)) (zG (zAL l1 b) hn)
 have ea:xs[b+k+(n1-k)-1]?=some pa:=by rw[eL];exact ea'
 refine wpS_bind (elem_ok ea (wpS_bind (gallop_ok (kd:=kd') (bey_left (arr:=xs) hO (kd0 _ _ ea) kd0 (base:=b+n1) (n:=n2) hs) rfl (fun i j hij hj t=>?_) (zCS h2 zBY) fun m m1 m2 m3=>?_)))
 ·exact KeyOrd.klt_of_kle_of_klt (s2 i j hij hj) t
 dsimp only
 have lowm:∀ j,j<m->κ.kle (KK κ xs (b+n1+j)) (KK κ xs (b+(n1-1))):=fun j j2=>by
  have q:=m2 j j2
  rw[KK_of ea']
  exact KeyOrd.kle_of_klt q
 have upm:∀ j,m<=j->j<n2->κ.kle (KK κ xs (b+(n1-1))) (KK κ xs (b+n1+j)):=fun j j1 j2=>by
  have q:=m3 j j1 j2
  rw[KK_of ea']
  exact q
 by_cases z2:m=0
 ·rw[if_pos (by simpa using z2)]
  exact wpS_pure (h _ hp rfl rfl (calm fun i j i1 j2=>KeyOrd.kle_trans (hA i (n1-1) (zBI i1) l1) (upm j (z2▸zAO j) j2)) rfl fun _ _=>rfl)
 rw[if_neg (by simpa using z2)]
 have pm:0<m:=zBT z2
 have hm:b+n1+m<=xs.size:=zC (zN m1 _) hs
 have l2:=zCS pm zBY
 have e9:b+k+(n1-k)=b+n1:=by rw[zAK,zAE k1]
 have e8:b+n1+m+(n2-m)=b+n1+n2:=by rw[zAK,zAE m1]
 have zx:(xs.extract (b+k) (b+n1)).size=n1-k:=by rw[Array.size_extract,zBZ hn,Nat.add_sub_add_left]
 have zy:(xs.extract (b+n1) (b+n1+m)).size=m:=by rw[Array.size_extract,zBZ hm,Nat.add_sub_cancel_left]
 have kx:=keyd_ext kd0 (b+k) (b+n1)
 have ky:=keyd_ext kd0 (b+n1) (b+n1+m)
 have KX:∀ i,i<n1-k->KK κ (xs.extract (b+k) (b+n1)) i=KK κ xs (b+(k+i)):=fun i hi=>by rw[KK_ext (by rw[<- Array.size_extract,zx];exact hi),zAK]
 have KY:∀ i,i<m->KK κ (xs.extract (b+n1) (b+n1+m)) i=KK κ xs (b+n1+i):=fun i hi=>by rw[KK_ext (by rw[<- Array.size_extract,zy];exact hi)]
 have sX:∀ i j,i<=j->j <(xs.extract (b+k) (b+n1)).size->κ.kle (KK κ (xs.extract (b+k) (b+n1)) i) (KK κ (xs.extract (b+k) (b+n1)) j):=fun i j hij hj=>by
  rw[zx]at hj
  rw[KX i (zL hij hj),KX j hj]
  exact hA _ _ (zN hij k) (zBA hj)
 have sY:∀ i j,i<=j->j <(xs.extract (b+n1) (b+n1+m)).size->κ.kle (KK κ (xs.extract (b+n1) (b+n1+m)) i) (KK κ (xs.extract (b+n1) (b+n1+m)) j):=fun i j hij hj=>by
  rw[zy]at hj
  rw[KY i (zL hij hj),KY j hj]
  exact hB _ _ hij (zG hj m1)
 have f1:κ.kle (KK κ (xs.extract (b+n1) (b+n1+m)) 0) (KK κ (xs.extract (b+k) (b+n1)) 0):=by
  rw[KX 0 pk,KY 0 pm]
  exact upk (k+0) (zH k) (Nat.lt_of_sub_pos pk)
 have f2:κ.kle (KK κ (xs.extract (b+n1) (b+n1+m)) ((xs.extract (b+n1) (b+n1+m)).size-1)) (KK κ (xs.extract (b+k) (b+n1)) ((xs.extract (b+k) (b+n1)).size-1)):=by
  rw[zx,zy,KX _ (zCS pk zBY),KY _ l2,<- zBK pk,zAE k1]
  exact lowm _ l2
 have eX:(xs.extract (b+k) (b+n1)).toList=(xs.toList.drop (b+k)).take (n1-k):=by
  have e:=ext_blk xs (b+k) (n1-k)
  rwa [e9]at e
 have eY:(xs.extract (b+n1) (b+n1+m)).toList=(xs.toList.drop (b+n1)).take m:=ext_blk xs (b+n1) m
 have eA:(xs.toList.drop b).take n1=(xs.toList.drop b).take k++(xs.toList.drop (b+k)).take (n1-k):=by
  rw[<- List.drop_drop,<- List.take_add,zAE k1]
 have eB:(xs.toList.drop (b+n1)).take n2=(xs.toList.drop (b+n1)).take m++(xs.toList.drop (b+n1+m)).take (n2-m):=by
  rw[<- List.drop_drop (i:=m),<- List.take_add,zAE m1]
 have gat:∀ (c d:Nat) (x:Keyed),x∈(xs.toList.drop c).take d->c+d<=xs.size->∃ j,j<d/\xs[c+j]?=some x:=fun c d x hx hc=>by
  obtain⟨j,j1,j2,j3,j4⟩:=mem_blk hx
  exact⟨j-c,zCC j1 j2,by rw[zAE j1];exact j4⟩
 have behind:∀ (R:Array Keyed) (st':SortSt),Sm (SortSt.mk' kd' xs pend' mg none) st'->Good κ ((xs.extract (b+k) (b+n1)).toList++(xs.extract (b+n1) (b+n1+m)).toList) R ->
   Q true (setArr st' ((R.toList.zipIdx).foldl (fun(a:Array Keyed) (q:Keyed×Nat)=>a.setIfInBounds (b+k+q.2) q.1) (arrOf st')))/\failedOf st'=none:=by
  intro R st' sm g
  have ea1:arrOf st'=xs:=sm.a
  have zR:R.toList.length=n1-k+m:=by
   rw[g.1.length_eq,zY,zO,zO,zx,zy]
  have e7:b+k+(n1-k+m)=b+n1+m:=by rw[<- zAK,e9]
  have W:=write_blk R.toList xs (b+k) 0 (by rw[zR,Nat.add_zero,e7];exact hm)
  have gl:=glue (κ:=κ) (L:=(xs.toList.drop b).take k++(xs.toList.drop (b+k)).take (n1-k)++((xs.toList.drop (b+n1)).take m++(xs.toList.drop (b+n1+m)).take (n2-m))) (M:=R.toList)
   rfl (by rw[<- eX,<- eY];exact g.1) g.2 (by rw[<- eA];exact SIn.pw s1) (by rw[<- eB];exact SIn.pw s2)
   (fun x hx y hy=>by
    rw[<- eB]at hy
    obtain⟨i,i1,i2⟩:=gat _ _ _ hx (zC (zN k1 b) hn)
    obtain⟨j,j1,j2⟩:=gat _ _ _ hy hs
    have q0:=hB 0 j (zAO _) j1
    rw[Nat.add_zero]at q0
    have q:=KeyOrd.kle_trans (lowk i i1) q0
    rw[KK_of i2,KK_of j2]at q
    exact q)
   (fun x hx y hy=>by
    obtain⟨i,i1,i2⟩:=gat _ _ _ hx (zC (zAG e9) hn)
    obtain⟨j,j1,j2⟩:=gat _ _ _ hy (zC (zAG e8) hs)
    have q:=KeyOrd.kle_trans (hA (k+i) (n1-1) (zBI (zBA i1)) l1) (upm (m+j) (zI m j) (zBA j1))
    rw[<- zAK,<- zAK,KK_of i2,KK_of j2]at q
    exact q)
  have eP:xs.toList.take (b+k)=xs.toList.take b++(xs.toList.drop b).take k:=List.take_add
  have eS:xs.toList.drop (b+n1+m)=(xs.toList.drop (b+n1+m)).take (n2-m)++xs.toList.drop (b+n1+n2):=by
   have:=zBN (n2-m) (xs.toList.drop (b+n1+m))
   rw[List.drop_drop,e8]at this
   exact this.symm
  have eW:((R.toList.zipIdx).foldl (fun(a:Array Keyed) (q:Keyed×Nat)=>a.setIfInBounds (b+k+q.2) q.1) xs).toList=xs.toList.take b++((xs.toList.drop b).take k++R.toList++(xs.toList.drop (b+n1+m)).take (n2-m))++xs.toList.drop (b+n1+n2):=by
   rw[W,zR,Nat.add_zero,e7,eP]
   conv=>lhs;rw[eS]
   simp only[zAV]
  have eO:xs.toList=xs.toList.take b++((xs.toList.drop b).take k++(xs.toList.drop (b+k)).take (n1-k)++((xs.toList.drop (b+n1)).take m++(xs.toList.drop (b+n1+m)).take (n2-m)))++xs.toList.drop (b+n1+n2):=by
   rw[<- eA,<- eB]
   conv=>lhs;rw[<- zBN b xs.toList,<- zBN n1 (xs.toList.drop b),List.drop_drop,<- zBN n2 (xs.toList.drop (b+n1)),List.drop_drop]
   simp only[zAV]
  have tb:(xs.toList.take b).length=b:=by rw[zAD,hl,zBZ (zC (zI b n1) hn)]
  have zM:((xs.toList.drop b).take k++R.toList++(xs.toList.drop (b+n1+m)).take (n2-m)).length=n1+n2:=by
   rw[zY,zY,zAD,zAD,zAN,zAN,zR,hl,zBZ (Nat.le_sub_of_add_le' (zC (zN k1 b) hn)),zBZ (Nat.le_sub_of_add_le' (zC (zAG e8) hs)),<- zAK,zAE k1,zAK,zAE m1]
  refine⟨?_,sm.f⟩
  rw[ea1]
  generalize hW:(R.toList.zipIdx).foldl (fun(a:Array Keyed) (q:Keyed×Nat)=>a.setIfInBounds (b+k+q.2) q.1) xs=ys at eW
  have pp:ys.Perm a₀:=by
   refine Array.Perm.trans ?_ hp
   rw[Array.perm_iff_toList_perm,eW]
   refine List.Perm.trans ?_ (List.Perm.of_eq eO.symm)
   exact(gl.1.append_left _).append_right _
  refine h _ pp sm.f sm.p ?_ sm.k fun c hc=>?_
  ·have q:=SIn.of_seg (κ:=κ) eW gl.2
   rw[tb,zM]at q
   exact q
  ·show ys[c]?=xs[c]?
   rw[<- zAH,<- zAH,eW]
   rcases hc with hc | hc
   ·rw[zAV,List.getElem?_append_left (by rw[tb];exact hc),List.getElem?_take_of_lt hc]
   ·rw[List.getElem?_append_right (by rw[zY,tb,zM,<- zAK];exact hc),List.getElem?_drop,zY,tb,zM,<- zAK,zAE hc]
 refine wpS_if (fun _=>?_) fun _=>?_
 ·refine wpS_bind (mergeLo_ok (kd:=kd') hO rfl kx ky sX sY (zAX pk zx.symm) (zAX pm zy.symm) f1 f2 fun R st' sm g=>?_)
  obtain⟨q1,q2⟩:=behind R st' sm g
  refine wpS_bind (wpS_modify (wpS_bind (wpS_get (wpS_pure ?_))))
  show Q (failedOf st').isNone _
  rw[q2]
  exact q1
 ·refine wpS_bind (mergeHi_ok (kd:=kd') hO rfl kx ky sX sY (zAX pk zx.symm) (zAX pm zy.symm) f1 f2 fun R st' sm g=>?_)
  obtain⟨q1,q2⟩:=behind R st' sm g
  refine wpS_bind (wpS_modify (wpS_bind (wpS_get (wpS_pure ?_))))
  show Q (failedOf st').isNone _
  rw[q2]
  exact q1
end
open PySem PyProof.Rows
section
variable{prog:Program}{w:World}{A:Around}{E:Value->Shared->Prop}{s:Shared}{κ:KeyKind}{kd:SortKind}{st:SortSt}{a₀:Array Keyed}
theorem SIn.congr{xs ys:Array Keyed}{lo n:Nat}(h:SIn κ xs lo n)(e:∀ k,lo<=k->k<lo+n->ys[k]?=xs[k]?):SIn κ ys lo n:=fun i j hij hj=>by
 rw[KK_congr (ys:=xs) (e (lo+i) (by lia) (by lia)),KK_congr (ys:=xs) (e (lo+j) (by lia) (by lia))]
 exact h i j hij hj
noncomputable def Runs(κ:KeyKind)(xs:Array Keyed):List (Nat×Nat)->Nat->Nat->Prop
 |[],s,e=>s=e
 |z :: r,s,e=>z.1=s/\0<z.2/\SIn κ xs s z.2/\Runs κ xs r (s+z.2) e
theorem Runs.len{xs:Array Keyed}:∀ {l:List (Nat×Nat)}{s e:Nat},Runs κ xs l s e->l.length+s<=e
 |[],s,e,h=>by have h:s=e:=h;simp;exact zAG h
 |z :: r,s,e,h=>by
  obtain⟨_,h2,_,h4⟩:=h
  have:=Runs.len h4
  rw[zV]
  lia
theorem Runs.congr{xs ys:Array Keyed}:∀ {l:List (Nat×Nat)}{s e:Nat},Runs κ xs l s e->(∀ k,s<=k->k<e->ys[k]?=xs[k]?)->Runs κ ys l s e
 |[],_,_,h,_=>h
 |z :: r,s,e,h,c=>by
  obtain⟨h1,h2,h3,h4⟩:=h
  have:=h4.len
  exact⟨h1,h2,h3.congr fun k a b=>c k a (by exact zhe this b),Runs.congr h4 fun k a b=>c k (by exact zC (zI s z.snd) a) b⟩
theorem Runs.app{xs:Array Keyed}{l2:List (Nat×Nat)}{e:Nat}:∀ {l1:List (Nat×Nat)}{s:Nat},Runs κ xs (l1++l2) s e↔∃ m,Runs κ xs l1 s m/\Runs κ xs l2 m e
 |[],s=>by
  constructor
  ·exact fun h=>⟨s,rfl,h⟩
  ·rintro⟨m,h,h'⟩
   cases(show s=m from h)
   exact h'
 |z :: l1,s=>by
  constructor
  ·rintro⟨h1,h2,h3,h4⟩
   obtain⟨m,a,b⟩:=Runs.app.mp h4
   exact⟨m,⟨h1,h2,h3,a⟩,b⟩
  ·rintro⟨m,⟨h1,h2,h3,h4⟩,b⟩
   exact⟨h1,h2,h3,Runs.app.mpr ⟨m,h4,b⟩⟩
noncomputable def pr2(z:Nat×Nat×Nat):Nat×Nat:=(z.1,z.2.1)
noncomputable def prs(p:Array (Nat×Nat×Nat)):List (Nat×Nat):=p.toList.map pr2
theorem prs_len(p:Array (Nat×Nat×Nat)):(prs p).length=p.size:=by unfold prs;simp
theorem prs_push(p:Array (Nat×Nat×Nat))(z:Nat×Nat×Nat):prs (p.push z)=prs p++[pr2 z]:=by unfold prs;simp
theorem mod_map{f:Nat×Nat×Nat->Nat×Nat×Nat}(hf:∀ z,pr2 (f z)=pr2 z):∀ (l:List (Nat×Nat×Nat)) (j:Nat),(l.modify j f).map pr2=l.map pr2
 |[],j=>by simp
 |z :: l,0=>by simp[hf]
 |z :: l,j+1=>by simp[mod_map hf l j]
theorem prs_mod(p:Array (Nat×Nat×Nat))(j pw:Nat):prs (p.modify j fun x=>(x.1,x.2.1,pw))=prs p:=by
 unfold prs
 rw[Array.toList_modify]
 exact mod_map (f:=fun x=>(x.1,x.2.1,pw)) (fun _=>rfl) _ _
structure Core(κ:KeyKind)(kd:SortKind)(a₀:Array Keyed)(lo:Nat)(st:SortSt):Prop where
 perm:(arrOf st).Perm a₀
 kind:kindOf st=kd
 failed:failedOf st=none
 runs:Runs κ (arrOf st) (prs (pendingOf st)) 0 lo
 le:lo<=a₀.size
theorem erase_set{l1 l2:List (Nat×Nat×Nat)}{x y v:Nat×Nat×Nat}:((l1++x :: y :: l2).set l1.length v).eraseIdx (l1.length+1)=l1++v :: l2:=by
 induction l1 with
 |nil=>rfl
 |cons a l ih=>rw[List.cons_append,zV,List.set_cons_succ,List.eraseIdx_cons_succ,ih];rfl
theorem merge_step{Q:Bool->SortSt->Prop}{lo i:Nat}(hO:LtOk κ kd prog w A s)(h0:KeysOf κ a₀)(C:Core κ kd a₀ lo st)(hi:i+1 <(pendingOf st).size)
  (h:∀ st',Core κ kd a₀ lo st'->(pendingOf st').size+1=(pendingOf st).size->(∀ k,lo<=k->(arrOf st')[k]?=(arrOf st)[k]?)->Q true st'):wpS (model prog w) A E s (mergeAt' i) Q st:=by
 obtain⟨c1,c2,c3,c4,c5⟩:=C
 generalize hp:pendingOf st=p at *
 have el:p.toList=p.toList.take i++p[i] :: p[i+1] :: p.toList.drop (i+2):=by
  have h1:i<p.toList.length:=by simp;exact zj1 hi
  have h2:i+1<p.toList.length:=by simp;exact hi
  conv=>lhs;rw[<- zBN i p.toList,zCD h1,zCD h2]
  simp
 have ll:(p.toList.take i).length=i:=by rw[zAD];simp;exact zck hi
 have r0:=c4
 unfold prs at r0
 rw[el,zAQ,zAS,zAS]at r0
 obtain⟨m,ra,b1,b2,b3,d1,d2,d3,rb⟩:=Runs.app.mp r0
 generalize hx:p[i]=x at *
 generalize hy:p[i+1]=y at *
 obtain⟨xb,xn,xp⟩:=x
 obtain⟨yb,yn,yp⟩:=y
 have b1:xb=m:=b1
 have d1:yb=m+xn:=d1
 subst b1
 subst d1
 have ex:p[i]?=some (xb,xn,xp):=by rw[zS (by exact zj1 hi),hx]
 have ey:p[i+1]?=some (xb+xn,yn,yp):=by rw[zS hi,hy]
 have lb:=rb.len
 have le2:xb+xn+yn<=lo:=by
  have:xb+(pr2 (xb,xn,xp)).2+(pr2 (xb+xn,yn,yp)).2=xb+xn+yn:=rfl
  lia
 refine mergeAt_ok (i:=i) (b:=xb) (n1:=xn) (n2:=yn) (pw:=xp) (pw2:=yp) hO h0 c2 c1 c3 (by rw[hp];exact ex) (by rw[hp];exact ey) (by exact zC le2 c5) b2 d2 b3 d3 fun st' a1 a2 a3 a4 a5 a6=>?_
 rw[hp]at a3
 have e3:(pendingOf st').toList=p.toList.take i++(xb,xn+yn,xp) :: p.toList.drop (i+2):=by
  have e:=erase_set (l1:=p.toList.take i) (l2:=p.toList.drop (i+2)) (x:=(xb,xn,xp)) (y:=(xb+xn,yn,yp)) (v:=(xb,xn+yn,xp))
  rw[ll,<- el]at e
  rw[a3]
  unfold Array.eraseIdxIfInBounds
  rw[dif_pos (by rw[Array.size_setIfInBounds];exact hi),Array.toList_eraseIdx,Array.toList_setIfInBounds]
  exact e
 refine h st' ⟨a1,a5,a2,?_,c5⟩ ?_ fun k hk=>a6 k (.inr (by exact zC le2 hk))
 ·unfold prs
  rw[e3,zAQ,zAS]
  refine Runs.app.mpr ⟨xb,ra.congr fun k _ hk=>a6 k (.inl hk),rfl,by show 0<xn+yn;have:0<xn:=b2;exact zi9 this (zI xn yn),a4,?_⟩
  show Runs κ (arrOf st') _ (xb+(xn+yn)) lo
  rw[<- zAK]
  exact rb.congr fun k hk _=>a6 k (.inr hk)
 ·have e4:=congrArg List.length e3
  have e5:=congrArg List.length el
  rw[zY,zV]at e4
  rw[zY,zV,zV]at e5
  simp only[zO]at e4 e5
  lia
theorem minRun_pos:∀ (f n r:Nat),1<=n->1<=minRun' f n r
 | 0,n,r,h=>by show 1<=n+r;exact zC h (zI n r)
 |f+1,n,r,h=>by
  rw[minRun'_succ]
  split
  ·exact zC h (zI n r)
  ·exact minRun_pos f _ _ (by lia)
theorem Core.push{lo n z:Nat}(C:Core κ kd a₀ lo st)(h:SIn κ (arrOf st) lo n)(n0:0<n)(hn:lo+n<=a₀.size)(p:Array (Nat×Nat×Nat))(ep:prs p=prs (pendingOf st)):Core κ kd a₀ (lo+n) (setPending st (p.push (lo,n,z))):=by
 refine⟨C.perm,C.kind,C.failed,?_,hn⟩
 show Runs κ (arrOf st) (prs (p.push (lo,n,z))) 0 (lo+n)
 rw[prs_push,ep]
 exact Runs.app.mpr ⟨lo,C.runs,rfl,n0,h,rfl⟩
theorem runs_ok{Q:Unit->SortSt->Prop}(hO:LtOk κ kd prog w A s)(h0:KeysOf κ a₀)(hB:SB kd a₀ a₀ 0 #[] st)(h2:2<=a₀.size)
  (h:∀ st',(arrOf st').Perm a₀->failedOf st'=none->SIn κ (arrOf st') 0 a₀.size->Q () st'):wpS (model prog w) A E s sortRuns' Q st:=by
 rw[sortRuns'_eq]
 refine wpS_bind (wpS_get ?_)
 dsimp only
 simp only[hB.size]
 have r1:1<=minRun' a₀.size a₀.size 0:=minRun_pos _ _ _ (by exact zj2 h2)
 generalize hmr:minRun' a₀.size a₀.size 0=mr at r1 ⊢
 refine wpS_bind (wpS_mono (wpS_forRange
  (I:=fun x c st'=>∃ lo,c=(none,lo)/\x<=lo/\Core κ kd a₀ lo st')
  (Q:=fun c st'=>c=(none,a₀.size)/\Core κ kd a₀ a₀.size st') ?step ?fin ⟨0,rfl,zH _,hB.perm,hB.kind,hB.failed,by rw[hB.pend];rfl,zAO _⟩) ?post)
 case fin =>
  rintro c st' ⟨lo,rfl,hx,C⟩
  have e:lo=a₀.size:=by have:=C.le;lia
  subst e
  exact⟨rfl,C⟩
 case step =>
  rintro x c st1 _ hx ⟨lo,rfl,xlo,C⟩
  dsimp only
  by_cases hlo:lo >= a₀.size
  ·rw[if_pos hlo]
   have e:lo=a₀.size:=by have:=C.le;lia
   subst e
   exact wpS_pure ⟨rfl,C⟩
  rw[if_neg hlo]
  refine wpS_bind (count_ok hO h0 (b:=arrOf st1) (pd:=pendingOf st1) (by exact zfu hlo) (by exact zdn hlo) ⟨C.perm,C.kind,C.failed,rfl,fun _ _=>rfl⟩ fun m st2 B2 m1 m2 S2=>?_)
  dsimp only
  have core:∀ st',SB kd a₀ (arrOf st1) lo (pendingOf st1) st'->Core κ kd a₀ lo st':=fun st' B=>⟨B.perm,B.kind,B.failed,by
   rw[B.pend]
   exact C.runs.congr fun k _ hk=>B.low k hk,C.le⟩
  by_cases hlt:m<mr
  ·rw[if_pos hlt]
   refine wpS_bind (wpS_lift (wpAny_rule ⟨rfl,wpS_bind (bin_ok hO h0 (by exact zbh hlo) (by exact zek m2 hlt) B2 S2 fun st3 B3 S3=>?_)⟩))
   refine wpS_if (fun z=>absurd z (by simp)) fun _=>?_
   have C3:=core st3 B3
   have g0:0<min (a₀.size-lo) mr:=by omega
   have g1:lo+min (a₀.size-lo) mr<=a₀.size:=by exact zbh hlo
   generalize min (a₀.size-lo) mr=n at S3 g0 g1 ⊢
   refine wpS_bind (wpS_get ?_)
   cases hb:(pendingOf st3).back? with
   |none =>
    dsimp only
    refine wpS_bind (wpS_modify (wpS_pure ?_))
    exact⟨lo+n,rfl,by exact zbi xlo g0,C3.push S3 g0 g1 _ rfl⟩
   |some z =>
    obtain⟨s1,n1,z3⟩:=z
    dsimp only
    generalize power' a₀.size (2 * s1+n1) (2 * s1+n1+n1+n) a₀.size=pw
    refine wpS_bind (wpS_mono (wpS_forRange (I:=fun x c st'=>c=(none,())/\Core κ kd a₀ lo st'/\SIn κ (arrOf st') lo n) (Q:=fun c st'=>c=(none,())/\Core κ kd a₀ lo st'/\SIn κ (arrOf st') lo n) ?a ?b ⟨rfl,C3,S3⟩) ?c)
    case b=>exact fun c st' h=>h
    case a =>
     rintro x' c st4 _ _ ⟨rfl,C4,S4⟩
     refine wpS_bind (wpS_get ?_)
     by_cases hs:(pendingOf st4).size > 1
     ·rw[if_pos hs]
      have hl:(pendingOf st4).size-2 <(pendingOf st4).size:=by exact zba hs
      rw[zS hl]
      generalize (pendingOf st4)[(pendingOf st4).size-2]=y
      obtain⟨y1,y2,older⟩:=y
      dsimp only
      by_cases ho:older<=pw
      ·rw[if_pos ho]
       exact wpS_pure ⟨rfl,C4,S4⟩
      ·rw[if_neg ho]
       refine wpS_bind (merge_step hO h0 C4 (by exact zbd hs hl) fun st5 C5 _ k5=>?_)
       refine wpS_if (fun z=>absurd z (by simp)) fun _=>?_
       exact wpS_pure ⟨rfl,C5,S4.congr fun k hk _=>k5 k hk⟩
     ·rw[if_neg hs]
      exact wpS_pure ⟨rfl,C4,S4⟩
    case c =>
     rintro c st4 ⟨rfl,C4,S4⟩
     refine wpS_bind (wpS_modify (wpS_bind (wpS_modify (wpS_pure ?_))))
     exact⟨lo+n,rfl,by exact zbi xlo g0,C4.push S4 g0 g1 _ (prs_mod _ _ _)⟩
  ·rw[if_neg hlt]
   have C3:=core st2 B2
   have S3:=S2
   have g0:0<m:=m1
   have g1:lo+m<=a₀.size:=by lia
   refine wpS_bind (wpS_get ?_)
   cases hb:(pendingOf st2).back? with
   |none =>
    dsimp only
    refine wpS_bind (wpS_modify (wpS_pure ?_))
    exact⟨lo+m,rfl,by exact zbo xlo m1,C3.push S3 g0 g1 _ rfl⟩
   |some z =>
    obtain⟨s1,n1,z3⟩:=z
    dsimp only
    generalize power' a₀.size (2 * s1+n1) (2 * s1+n1+n1+m) a₀.size=pw
    refine wpS_bind (wpS_mono (wpS_forRange (I:=fun x c st'=>c=(none,())/\Core κ kd a₀ lo st'/\SIn κ (arrOf st') lo m) (Q:=fun c st'=>c=(none,())/\Core κ kd a₀ lo st'/\SIn κ (arrOf st') lo m) ?a ?b ⟨rfl,C3,S3⟩) ?c)
    case b=>exact fun c st' h=>h
    case a =>
     rintro x' c st4 _ _ ⟨rfl,C4,S4⟩
     refine wpS_bind (wpS_get ?_)
     by_cases hs:(pendingOf st4).size > 1
     ·rw[if_pos hs]
      have hl:(pendingOf st4).size-2 <(pendingOf st4).size:=by exact zba hs
      rw[zS hl]
      generalize (pendingOf st4)[(pendingOf st4).size-2]=y
      obtain⟨y1,y2,older⟩:=y
      dsimp only
      by_cases ho:older<=pw
      ·rw[if_pos ho]
       exact wpS_pure ⟨rfl,C4,S4⟩
      ·rw[if_neg ho]
       refine wpS_bind (merge_step hO h0 C4 (by exact zbd hs hl) fun st5 C5 _ k5=>?_)
       refine wpS_if (fun z=>absurd z (by simp)) fun _=>?_
       exact wpS_pure ⟨rfl,C5,S4.congr fun k hk _=>k5 k hk⟩
     ·rw[if_neg hs]
      exact wpS_pure ⟨rfl,C4,S4⟩
    case c =>
     rintro c st4 ⟨rfl,C4,S4⟩
     refine wpS_bind (wpS_modify (wpS_bind (wpS_modify (wpS_pure ?_))))
     exact⟨lo+m,rfl,by exact zbo xlo m1,C4.push S4 g0 g1 _ (prs_mod _ _ _)⟩
 case post =>
  rintro c st1 ⟨rfl,C⟩
  dsimp only
  have l0:=C.runs.len
  rw[prs_len]at l0
  refine wpS_bind (wpS_mono (wpS_forRange (I:=fun x c st'=>c=(none,())/\Core κ kd a₀ a₀.size st'/\((pendingOf st').size+x<=a₀.size\/(pendingOf st').size<=1)) (Q:=fun c st'=>c=(none,())/\Core κ kd a₀ a₀.size st'/\(pendingOf st').size<=1) ?lstep ?lfin ⟨rfl,C,.inl (by exact l0)⟩) ?lpost)
  case lfin =>
   rintro c st' ⟨hc,C',z⟩
   refine⟨hc,C',?_⟩
   rcases z with z | z
   ·exact ziu h2 z
   ·exact z
  case lpost =>
   rintro c st' ⟨rfl,C',z⟩
   refine wpS_pure (h _ C'.perm C'.failed ?_)
   have r:=C'.runs
   have e:=prs_len (pendingOf st')
   generalize prs (pendingOf st')=l at r e
   match l,r,e with
   |[],r,_=>have r:0=a₀.size:=r;lia
   |[y],r,_ =>
    obtain⟨r1,r2,r3,r4⟩:=r
    have r4:0+y.2=a₀.size:=r4
    rw[zBU]at r4
    rw[r4]at r3
    exact r3
   | _ :: _ :: _,_,e=>simp at e;lia
  case lstep =>
   rintro x c st2 _ hx ⟨rfl,C2,z⟩
   refine wpS_bind (wpS_get ?_)
   by_cases hs:(pendingOf st2).size<=1
   ·rw[if_pos hs]
    exact wpS_pure ⟨rfl,C2,hs⟩
   ·rw[if_neg hs]
    have stp:∀ i,i+1 <(pendingOf st2).size->wpS (model prog w) A E s (mergeAt' i) (fun r st'=>r=true/\Core κ kd a₀ a₀.size st'/\(pendingOf st').size+1=(pendingOf st2).size) st2:=fun i hi=>merge_step hO h0 C2 hi fun st' C' e _=>⟨rfl,C',e⟩
    refine wpS_bind (wpS_mono (stp _ ?_) fun r st3 hr=>?_)
    ·have:∀ (c:Prop) [Decidable c],(if c then(pendingOf st2).size-2-1 else(pendingOf st2).size-2)+1 <(pendingOf st2).size:=fun c _=>by split <;> omega
     exact this _
    ·obtain⟨rfl,C3,e⟩:=hr
     refine wpS_if (fun z=>absurd z (by simp)) fun _=>?_
     refine wpS_pure ⟨rfl,C3,?_⟩
     rcases z with z | z
     ·exact .inl (by exact zfz e z)
     ·exact absurd z hs
end
open PySem PySem.W PyProof.Rows
noncomputable def RawD(d:Addr)(ks:List Value)(ep:Nat)(g:Heap):Prop:=∃ ob en,g.get? d=some ob/\ob.ExactDict/\ob.data = .dict en ep/\en.toList.map (fun r=>r.key)=ks
section
variable{d it:Addr}{ks:List Value}{ep i:Nat}{g g':Heap}{prog:Program}{w:World}{A:Around}{E:Value->Shared->Prop}{s:Shared}
theorem RawD.to(x:RawD d ks ep g)(k:∀ u,g.get? d=some u->g'.get? d=some u):RawD d ks ep g':=by
 obtain⟨ob,en,a,r⟩:=x
 exact⟨ob,en,k _ a,r⟩
theorem RawD.ty(x:RawD d ks ep s.heap):s.TypeIs (.ref d) "dict":=by
 obtain⟨ob,en,a,c,r⟩:=x
 exact⟨ob,a,c.1⟩
theorem RawD.lt(x:RawD d ks ep g):d<g.objs.size:=by
 obtain⟨ob,en,a,c,r⟩:=x
 exact zK a
theorem rawIter{Q:Value->Shared->Prop}(nd:(d == sysModules)=false)(x:RawD d ks ep s.heap)
  (q:Q (.ref s.heap.objs.size) { s with heap:=s.heap.push { cls:=.type "dict_keyiterator",data:=.fields #[.ref d,.int 0 0,.int ks.length 0,.int ep 0] } }) :
  wpAny (model prog w) A (pyIter (.ref d)) Q E s:=by
 have ty:=x.ty
 obtain⟨ob,en,a,c,dt,ke⟩:=x
 have len:en.size=ks.length:=by rw[<- ke];simp
 refine wpAny_pyIter_slot ty F.slot_dict_iter (wpAny_call_entry F.slot_dict_iter ty F.entry_dict_iter ?_ (F.args_dict_iter_1 _))
 unfold Builtin.«dict.__iter__»;refine zA ?_
 unfold Builtin.Dict.dictSlotNone;refine zA (wpAny_notOrdered_dict ty ?_)
 show wpAny _ _ (pure (Value.ref d)) _ _ s;refine zE ?_
 show wpAny _ _ (Builtin.Dict.showsAll d >>= _) _ _ s;unfold Builtin.Dict.showsAll
 rw[if_neg (fun e=>zJ (nd.symm.trans e))];refine zA (zE (zA (wpAny_dictEntries a dt (zA (wpAny_dictEpoch a dt ?_)))))
 refine zA (wpAny_newObj_type (zE ⟨_,rfl,"dict_keyiterator",_,⟨_,zU _ rfl,rfl⟩,F.slot_dict_keyiterator_next.lookup,?_⟩));simpa[rawInt,len]using q
theorem rawItem{v:Value}{Q:Option Value->Shared->Prop}(hI:s.heap.IsKeyIter it d i ks.length ep)(x:RawD d ks ep s.heap)(hv:ks[i]?=some v)
  (q:∀ g',g'.IsKeyIter it d (i+1) ks.length ep->Heap.SameBut it s.heap g'->Q (some v) { s with heap:=g' }):wpAny (model prog w) A (pyNext (.ref it)) Q E s:=by
 obtain⟨io,a0,c0,d0⟩:=id hI
 obtain⟨ob,en,a,c,dt,ke⟩:=x
 have len:en.size=ks.length:=by rw[<- ke];simp
 unfold pyNext;refine zA (wpAny_attempt (wpAny_callSpecial?_slot (name:=Str.ofString "__next__") hI.typeIs F.slot_dict_keyiterator_next (wpAny_call_entry F.slot_dict_keyiterator_next hI.typeIs F.entry_dict_keyiterator_next ?_ (F.args_dict_keyiterator_next_1 _))))
 refine zA (zE (zA (zA ?_)))
 first | refine zA (wpAny_typeNameOfWhole_keyiter hI.typeIs (zE ?_)) | refine zA (wpAny_typeNameOf_keyiter hI.typeIs (zE ?_))
 refine zA (wpAny_fieldsOf a0 d0 ?_);have own:Builtin.Dict_items.ownsTuple "dict_keyiterator" = false:=by decide
 simp only[own,zBB,if_false];show wpAny _ _ (if(Value.ref d == Value.none)=true then _ else _) _ _ s
 rw[if_neg (show ¬((Value.ref d == Value.none)=true)from zJ)];refine zA (zE (zA (wpAny_dictEntries a dt ?_)))
 rw[if_neg (by rw[len];simp)];refine zA (zE (zA (wpAny_dictEpoch a dt ?_)))
 rw[if_neg (by simp)];refine zE ?_
 have il:i<en.size:=by rw[len];exact(zZ.mp hv).1
 have iv:en[i].key=v:=by
  have z:(en.toList.map (fun r=>r.key))[i]?=some en[i].key:=by rw[zAJ,zAH,zS il];rfl
  rw[ke,hv]at z
  exact(Option.some.inj z).symm
 simp only[show ¬((i:Int)<0)from by exact zdr,if_false,zCF,zS il];refine zA ?_
 first | refine zA (wpAny_typeNameOfWhole_keyiter hI.typeIs (zE ?_)) | refine zA (wpAny_typeNameOf_keyiter hI.typeIs (zE ?_))
 refine zA (wpAny_isOneOf_keyiter hI.typeIs ?_);show wpAny _ _ (setField (.ref it) 1 (rawInt ((i:Int)+1)) >>= _) _ _ s
 refine zA (wpAny_setField a0 d0 (by simp) ?_)
 have hI':(s.heap.update it (Obj.mapFields (·.setIfInBounds 1 (rawInt ((i:Int)+1))))).IsKeyIter it d (i+1) ks.length ep:=⟨_,Heap.get?_update_self _ a0 (Obj.isFreed_of_fields (Obj.data_mapFields d0 _)),(Obj.cls_mapFields ..).trans c0,by rw[Obj.data_mapFields d0];simp[rawInt]⟩
 refine zA (wpAny_holding (zA (wpAny_isOneOf_keyiter (s:={ s with heap:=s.heap.update it (Obj.mapFields (·.setIfInBounds 1 (rawInt ((i:Int)+1)))) }) hI'.typeIs ?_)))
 show wpAny _ _ (pure en[i].key) _ _ _;rw[iv]
 exact zE (zE ⟨_,rfl,zE (q _ hI' (Heap.SameBut.update ..))⟩)
theorem rawEnd{Q:Option Value->Shared->Prop}(hh:A.handled=none)(hI:s.heap.IsKeyIter it d i ks.length ep)(x:RawD d ks ep s.heap)(hv:ks.length<=i)
  (q:∀ g',Heap.ExtBut it s.heap g'->Q none { s with heap:=g' }):wpAny (model prog w) A (pyNext (.ref it)) Q E s:=by
 obtain⟨io,a0,c0,d0⟩:=id hI
 obtain⟨ob,en,a,c,dt,ke⟩:=x
 have len:en.size=ks.length:=by rw[<- ke];simp
 unfold pyNext;refine zA (wpAny_attempt (wpAny_callSpecial?_slot (name:=Str.ofString "__next__") hI.typeIs F.slot_dict_keyiterator_next (wpAny_call_entry F.slot_dict_keyiterator_next hI.typeIs F.entry_dict_keyiterator_next ?_ (F.args_dict_keyiterator_next_1 _))))
 refine zA (zE (zA (zA ?_)))
 first | refine zA (wpAny_typeNameOfWhole_keyiter hI.typeIs (zE ?_)) | refine zA (wpAny_typeNameOf_keyiter hI.typeIs (zE ?_))
 refine zA (wpAny_fieldsOf a0 d0 ?_);have own:Builtin.Dict_items.ownsTuple "dict_keyiterator" = false:=by decide
 simp only[own,zBB,if_false];show wpAny _ _ (if(Value.ref d == Value.none)=true then _ else _) _ _ s
 rw[if_neg (show ¬((Value.ref d == Value.none)=true)from zJ)];refine zA (zE (zA (wpAny_dictEntries a dt ?_)))
 rw[if_neg (by rw[len];simp)];refine zA (zE (zA (wpAny_dictEpoch a dt ?_)))
 rw[if_neg (by simp)];refine zE ?_
 have il:en.size<=i:=by rw[len];exact hv
 simp only[show ¬((i:Int)<0)from by exact zdr,if_false,zCF,zCB il];refine zA ?_
 first | refine zA (wpAny_typeNameOfWhole_keyiter hI.typeIs (zE ?_)) | refine zA (wpAny_typeNameOf_keyiter hI.typeIs (zE ?_))
 show wpAny _ _ (setField (.ref it) 0 .none >>= _) _ _ s;refine zA (wpAny_setField a0 d0 (by simp) ?_)
 show wpAny _ _ (newExc (.type "StopIteration") [] >>= _) _ _ _;refine zA ?_
 simp only[newExc,newTuple];refine zA (wpAny_newObj_type ?_ (by size_fits))
 refine zA (m:=firstArgMember _ _) (wpAny_of_eq (a:=Value.none) (by first | rfl |(simp only[firstArgMember];rfl)) (wpAny_newObj_type ?_ (by size_fits)))
 simp only[raiseNew];refine zA (wpAny_handled ?_)
 rw[show A.in1.handled=none from hh];refine zA (zE (wpAny_throw ?_))
 refine zA (wpAny_isInstance (T:="StopIteration") (b:=true) ⟨_,zU _ rfl,rfl⟩ isSubtype_stop ?_)
 exact zE (q _ (((Heap.SameBut.update ..).extBut.push _).push _))
theorem rawWalks(hh:A.handled=none)(I d:Addr)(ne:d≠I)(ks:List Value)(ep:Nat) :
  Walks prog w A I [I,d] [I] ks.length (fun i v=>ks[i]?=some v) (fun i g=>g.IsKeyIter I d i ks.length ep/\RawD d ks ep g)where
 sub:=fun b z=>by simp at z;simp[z]
 frame:=fun _ _ _ st k=>⟨st.1.at fun o e=>k I (by simp) o e,st.2.to fun o e=>k d (by simp) o e⟩
 item:=fun i s Q E hi st hQ=>by
  obtain⟨v,hx⟩:∃ p,ks[i]?=some p:=⟨ks[i],by simp[hi]⟩
  refine rawItem st.1 st.2 hx fun g' it' sb=>?_
  exact hQ v g' s.toks hx ⟨it',st.2.to fun o e=>sb.extBut d o ne e⟩ fun b o z e=>sb.extBut b o (fun h=>z (by simp[h])) e
 done:=fun s Q E st hQ=>rawEnd hh st.1 st.2 (zH _) fun g' e'=>hQ g' s.toks fun b o z e=>e' b o (fun h=>z (by simp[h])) e
 self:=fun _ _ _ _ st hQ=>wpAny_pyIter_keyiter st.1 hQ
theorem rawSrc(nd:(d == sysModules)=false):KdlSrc prog w "dict" d d ks.length (fun i v=>ks[i]?=some v) (RawD d ks ep)where
 type:=fun _ x=>x.ty
 there:=fun _ x=>⟨x.lt,x.lt⟩
 keep:=fun _ _ x k=>x.to fun o e=>k d (.inl rfl) o e
 notList:=by decide
 notTuple:=by decide
 hint:=fun _ _ _ _ x q=>kdl_hint_dict x.ty q
 iter:=fun _ _ hh x=>⟨_,_,(fun _ _ q=>rawIter nd x q),rawWalks hh _ d (zAC x.lt) ks ep,⟨⟨_,zU _ rfl,rfl,rfl⟩,x.to fun o e=>zD _ e⟩⟩
end
open PySem PySem.W PyProof.Rows
noncomputable def lexlt:List Int->List Int->Bool
 | _,[]=>false
 |[],_ :: _=>true
 |a :: x,b :: y=>decide (a<b) ||(decide (a=b) && lexlt x y)
theorem lexlt_irrefl:∀ x,lexlt x x=false
 |[]=>rfl
 |a :: x=>by simp[lexlt,lexlt_irrefl x]
theorem lexlt_trans:∀ x y z,lexlt x y=true->lexlt y z=true->lexlt x z=true
 | _,_,[],_,h=>by simp[lexlt]at h
 | _,[],_ :: _,h,_=>by simp[lexlt]at h
 |[],_ :: _,_ :: _,_,_=>rfl
 |a :: x,b :: y,c :: z,h,k=>by
  simp only[lexlt,Bool.or_eq_true,zBJ,decide_eq_true_eq]at h k ⊢
  rcases h with h |⟨h,h'⟩ <;> rcases k with k |⟨k,k'⟩
  ·left;exact zcf h k
  ·left;exact zje h k
  ·left;exact zjd h k
  ·right;exact⟨by exact zdl h k,lexlt_trans x y z h' k'⟩
theorem lexlt_neg:∀ x y z,lexlt x z=true->lexlt x y=true\/lexlt y z=true
 | _,_,[],h=>by simp[lexlt]at h
 | _,[],_ :: _,_=>.inr rfl
 |[],_ :: _,_ :: _,_=>.inl rfl
 |a :: x,b :: y,c :: z,h=>by
  simp only[lexlt,Bool.or_eq_true,zBJ,decide_eq_true_eq]at h ⊢
  rcases h with h |⟨h,h'⟩
  ·by_cases e:a<b
   ·exact .inl (.inl e)
   ·exact .inr (.inl (by lia))
  ·rcases lexlt_neg x y z h' with q | q
   ·by_cases e:a<b
    ·exact .inl (.inl e)
    ·by_cases e':a=b
     ·exact .inl (.inr ⟨e',q⟩)
     ·exact .inr (.inl (by lia))
   ·by_cases e:a<b
    ·exact .inl (.inl e)
    ·by_cases e':b=c
     ·exact .inr (.inr ⟨e',q⟩)
     ·exact .inr (.inl (by exact ziy h e e'))
theorem lexlt_total:∀ x y,lexlt x y=false->lexlt y x=false->x=y
 |[],[],_,_=>rfl
 |[],_ :: _,h,_=>by simp[lexlt]at h
 | _ :: _,[],_,h=>by simp[lexlt]at h
 |a :: x,b :: y,h,k=>by
  simp only[lexlt,Bool.or_eq_false_iff,Bool.and_eq_false_iff,decide_eq_false_iff_not]at h k
  have e:a=b:=by lia
  subst e
  rw[lexlt_total x y (by simpa using h.2) (by simpa using k.2)]
noncomputable abbrev IntsV(ns:List Int)(us:List Value):Prop:=Paired (fun(i:Int) (u:Value)=>∃ t,u=Value.int i t) ns us
theorem IntsV.inj:∀ {ns ms:List Int}{us:List Value},IntsV ns us->IntsV ms us->ns=ms:=by
 intro ns ms us h
 induction h generalizing ms with
 |nil=>intro h';cases h';rfl
 |cons h r ih =>
  intro h'
  cases h' with
  |cons h2 r' =>
   obtain⟨t,e⟩:=h
   obtain⟨t',e'⟩:=h2
   rw[e]at e'
   cases e'
   rw[ih r']
noncomputable def TupI(g:Heap)(v:Value)(ns:List Int):Prop:=∃ a ob its n,v=Value.ref a/\g.get? a=some ob/\ob.cls = .type "tuple"/\ob.data = .seq its n/\IntsV ns its.toList
theorem TupI.inj{g:Heap}{v:Value}{ns ms:List Int}(x:TupI g v ns)(y:TupI g v ms):ns=ms:=by
 obtain⟨a,ob,its,n,rfl,e,_,d,p⟩:=x
 obtain⟨a',ob',its',n',e',q,_,d',p'⟩:=y
 cases e'
 rw[e]at q
 cases q
 rw[d]at d'
 cases d'
 exact p.inj p'
theorem TupI.to{g g':Heap}{v:Value}{ns:List Int}(x:TupI g v ns)(k:∀ b u,v = .ref b->g.get? b=some u->g'.get? b=some u):TupI g' v ns:=by
 obtain⟨a,ob,its,n,rfl,e,r⟩:=x
 exact⟨a,ob,its,n,rfl,k a ob rfl e,r⟩
open Classical in
noncomputable def κT(g:Heap):KeyKind where
 α:=List Int
 blt:=lexlt
 irrefl:=lexlt_irrefl
 trans:=lexlt_trans
 negTrans:=lexlt_neg
 total:=lexlt_total
 keyOf v:=if h:∃ ns,TupI g v ns then some h.choose else none
 dflt:=[]
open Classical in
theorem κT_key{g:Heap}{v:Value}{ns:List Int}(x:TupI g v ns):(κT g).keyOf v=some ns:=by
 have h:∃ ns,TupI g v ns:=⟨ns,x⟩
 show(if h:∃ ns,TupI g v ns then some h.choose else none)=some ns
 rw[dif_pos h,h.choose_spec.inj x]
open Classical in
theorem κT_of{g:Heap}{v:Value}{ns:List Int}(e:(κT g).keyOf v=some ns):TupI g v ns:=by
 have e':(if h:∃ ns,TupI g v ns then some h.choose else none)=some ns:=e
 by_cases h:∃ ns,TupI g v ns
 ·rw[dif_pos h]at e'
  rw[<- Option.some.inj e']
  exact h.choose_spec
 ·rw[dif_neg h]at e'
  cases e'
section
variable{prog:Program}{w:World}{A:Around}{E:Value->Shared->Prop}{s:Shared}
theorem lex_ok{b fin:Bool}{Q:Bool->Shared->Prop}:∀ {ns ms:List Int}{us vs:List Value} (i:Nat),IntsV ns us->IntsV ms vs->fin=decide (ns.length<ms.length)->Q (lexlt ns ms) s->KatLex prog w A b fin Q (us.zip vs) i s:=by
 intro ns ms us vs i h
 induction h generalizing ms vs i with
 |nil =>
  intro h' e q
  rw[e]
  cases h' with
  |nil=>exact kat_nil q
  |cons _ _=>exact kat_nil (show Q (decide (0<_+1)) s by simpa[lexlt]using q)
 | @cons n u ns us h r ih =>
  intro h' e q
  cases h' with
  |nil=>rw[e];exact kat_nil (by simpa[lexlt]using q)
  | @cons m v ms vs h2 r' =>
   obtain⟨t,e1⟩:=h
   obtain⟨t',e2⟩:=h2
   subst e1 e2
   refine kat_cons (wpAny_eqBool_int (kat_go (fun z=>kat_yes ?_) fun z=>kat_no ?_))
   ·have z':n=m:=by simpa using z
    refine ih (i+1) r' (by rw[e];simp) ?_
    have l:lexlt (n :: ns) (m :: ms)=lexlt ns ms:=by simp[lexlt,z']
    rw[<- l]
    exact q
   ·have z':n≠m:=by simpa using z
    have l:lexlt (n :: ns) (m :: ms)=decide (n<m):=by simp[lexlt,z']
    rw[l]at q
    cases hb:(b && i == 0)with
    |true=>exact oneLt_int q
    |false=>exact kat_one _ _ (lt_int q)
theorem ltT_ok{h₁:Heap}{b:Bool}(kp:∀ v ns,TupI h₁ v ns->TupI s.heap v ns):LtOk (κT h₁) (tuples' b) prog w A s:=by
 intro E x y ka kb Q st hk ha hb q
 obtain⟨a,ob,its,n,e1,g1,_,d1,p1⟩:=kp _ _ (κT_of ha)
 obtain⟨a',ob',its',n',e2,g2,_,d2,p2⟩:=kp _ _ (κT_of hb)
 rw[lt'_eq]
 refine wpS_bind (wpS_get ?_)
 rw[hk,e1,e2]
 have l1:ka.length=its.size:=by rw[p1.length];simp
 have l2:kb.length=its'.size:=by rw[p2.length];simp
 refine wpS_bind (wpS_lift (wpAny_attempt (kat_lt g1 d1 g2 d2 (lex_ok (ns:=ka) (ms:=kb) 0 p1 p2 (by rw[l1,l2]) ⟨rfl,?_⟩))))
 exact wpS_pure q
theorem map2_pairs:∀ {l:List Keyed},(∀ p∈l,p.1=p.2)->(l.map (·.2)).zip (l.map (·.2))=l
 |[],_=>rfl
 |p :: l,h=>by
  have e:p.1=p.2:=h p (zX ..)
  show(p.2,p.2) :: (l.map (·.2)).zip (l.map (·.2))=_
  rw[map2_pairs fun q hq=>h q (zP _ hq)]
  congr 1
  exact Prod.ext e.symm rfl
theorem mem_zip_self:∀ {l:List Value}{p:Keyed},p∈l.zip l->p.1=p.2/\p.2∈l
 |[],p,h=>by simp at h
 |v :: l,p,h=>by
  rcases zW.mp (show p∈(v,v) :: l.zip l from h)with e | e
  ·rw[e];exact⟨rfl,zX ..⟩
  ·exact⟨(mem_zip_self e).1,zP _ (mem_zip_self e).2⟩
theorem map2_zip:∀ {l:List Value},(l.zip l).map (·.2)=l
 |[]=>rfl
 |v :: l=>by show v :: (l.zip l).map (·.2)=_;rw[map2_zip]
theorem back_pairs{xs:Array Keyed}{vs:List Value}(hp:xs.Perm (pairsOf vs)):xs=pairsOf (xs.toList.map (·.2))/\(xs.toList.map (·.2)).Perm vs:=by
 have hp':xs.toList.Perm (vs.zip vs):=by
  have:=Array.perm_iff_toList_perm.mp hp
  rw[pairsOf_toList]at this
  exact this
 refine⟨?_,?_⟩
 ·apply Array.ext'
  rw[pairsOf_toList,map2_pairs fun p hq=>(mem_zip_self (hp'.mem_iff.mp hq)).1]
 ·have:=hp'.map (·.2)
  rw[map2_zip]at this
  exact this
theorem sort_gen{κ:KeyKind}{kd:SortKind}{a:Addr}{vs:List Value}{n:Nat}{P:Fin->Shared->Prop}(ho:s.heap.get? a=some (seqObj "list" vs.toArray n))(h0:KeysOf κ (pairsOf vs))(hl:vs.length<5000)
  (hk:2<=vs.length->∀ g:Heap,(∀ b u,b≠a->s.heap.get? b=some u->g.get? b=some u)->LtOk κ kd prog w A { s with heap:=g }/\∀ R:SortKind->Shared->Prop,R kd { s with heap:=g }->wpAny (model prog w) A (keyKind' vs.toArray) R E { s with heap:=g })
  (h:∀ (ws:List Value) (g:Heap) (c:Nat),ws.Perm vs->SortedToK κ (pairsOf ws) ws.length->(∀ b u,b≠a->s.heap.get? b=some u->g.get? b=some u)->g.get? a=some (seqObj "list" ws.toArray c)->P (.done (.ret .none)) { s with heap:=g }) :
  wpAny (model prog w) A (Builtin.«list.sort» ⟨[.ref a],[]⟩) P E s:=by
 have lt0:a<s.heap.objs.size:=zK ho
 have k1:∀ b u,b≠a->s.heap.get? b=some u->(s.heap.update a (Obj.mapSeq fun _=>#[])).get? b=some u:=fun b u ne e=>by rw[Heap.get?_update_ne _ _ _ _ ne];exact e
 obtain⟨c1,g1⟩:∃ c1,(s.heap.update a (Obj.mapSeq fun _=>#[])).get? a=some (seqObj "list" #[] c1):=⟨_,get?_update_seq ho _⟩
 generalize hg1:s.heap.update a (Obj.mapSeq fun _=>#[])=G1 at k1 g1
 have k2:∀ b u,b≠a->s.heap.get? b=some u->((G1.push (seqObj "tuple" vs.toArray 0)).push (seqObj "list" #[] 0)).get? b=some u:=fun b u ne e=>zD _ (zD _ (k1 b u ne e))
 have g2:((G1.push (seqObj "tuple" vs.toArray 0)).push (seqObj "list" #[] 0)).get? a=some (seqObj "list" #[] c1):=zD _ (zD _ g1)
 rw[list_sort_plain]
 refine zA (listItems_at ho rfl (zA (listUpdate_at ho rfl ?_ (hsz:=by rw[zQ,sizeLine_eq];exact zl4 hl rfl))))
 rw[hg1]
 refine zA (seqEpoch_at g1 rfl (zA (wpAny_newTuple ?_ (by show vs.length<=_;rw[sizeLine_eq];exact zl4 hl rfl))))
 refine zA (wpAny_newList (wpAny_holding ?_))
 show wpAny (model prog w) A _ P E { s with heap:=(G1.push (seqObj "tuple" vs.toArray 0)).push (seqObj "list" #[] 0) }
 generalize (G1.push (seqObj "tuple" vs.toArray 0)).push (seqObj "list" #[] 0)=G2 at k2 g2
 dsimp only
 have fin:∀ st':SortSt,(arrOf st').Perm (pairsOf vs)->SortedToK κ (arrOf st') (pairsOf vs).size->P (.done (.ret .none)) { s with heap:=G2.update a (Obj.mapSeq fun _=>(arrOf st').map (·.2)) }:=fun st' hp hs=>by
  obtain⟨e,p⟩:=back_pairs hp
  obtain⟨c3,g3⟩:∃ c3,(G2.update a (Obj.mapSeq fun _=>(arrOf st').map (·.2))).get? a=some (seqObj "list" ((arrOf st').map (·.2)) c3):=⟨_,get?_update_seq g2 _⟩
  refine h ((arrOf st').toList.map (·.2)) _ c3 p ?_ (fun b u ne z=>by rw[Heap.get?_update_ne _ _ _ _ ne];exact k2 b u ne z) ?_
  ·rw[<- e]
   have l2:(pairsOf vs).size=((arrOf st').toList.map (·.2)).length:=by rw[pairsOf_size,p.length_eq]
   rw[<- l2]
   exact hs
  ·rw[g3]
   congr 2
   apply Array.ext'
   simp
 by_cases h2:vs.toArray.size<2
 ·rw[if_pos h2,if_pos h2]
  refine zA (zE ?_)
  rw[StateT.run_pure]
  refine zA (zE ?_)
  dsimp only
  refine zA (seqEpoch_at g2 rfl (zA (listUpdate_at g2 rfl ?_ (hsz2:=by rw[Array.size_map];show(pairsOf vs).size<=_;rw[pairsOf_size,sizeLine_eq];exact zl4 hl rfl))))
  simp only[bne_self_eq_false,zBB,if_false]
  refine zE (fin (SortSt.mk' general' (vs.toArray.zip vs.toArray) #[] 7 none) (Array.Perm.refl _) fun i j ij jl=>?_)
  have e:i=j:=by
   rw[pairsOf_size]at jl
   simp only[zQ]at h2
   lia
  rw[e]
  exact KeyOrd.kle_refl _
 ·have h2':2<=vs.length:=by simpa using h2
  obtain⟨lo,kk⟩:=hk h2' G2 k2
  rw[if_neg h2,if_neg h2]
  refine zA (kk _ ?_)
  refine zA (wpAny_mono (runs_ok (κ:=κ) (kd:=kd) (a₀:=pairsOf vs) (st:=SortSt.mk' kd (vs.toArray.zip vs.toArray) #[] 7 none) (Q:=fun _ st'=>(arrOf st').Perm (pairsOf vs)/\failedOf st'=none/\SortedToK κ (arrOf st') (pairsOf vs).size)
   lo h0 ⟨Array.Perm.refl _,rfl,rfl,rfl,fun k z=>absurd z (Nat.not_lt_zero _)⟩ (by rw[pairsOf_size];exact h2') fun st' a1 a2 a3=>⟨a1,a2,fun i j ij jl=>by
    have:=a3 i j ij jl
    rw[zBU,zBU]at this
    exact this⟩) ?_ fun _ _ e=>e)
  rintro⟨⟨⟩,st'⟩ s' ⟨rfl,hp,hf,hs⟩
  dsimp only
  refine zA (seqEpoch_at g2 rfl (zA (listUpdate_at g2 rfl ?_ (hsz2:=by refine zC (zAG ((Array.size_map ..).trans (hp.size_eq.trans (pairsOf_size _)))) ?_;rw[sizeLine_eq];exact zl4 hl rfl))))
  rw[hf]
  simp only[bne_self_eq_false,zBB,if_false]
  exact zE (fin st' hp hs)
theorem sort_at{κ:KeyKind}{kd:SortKind}{a:Addr}{vs:List Value}{n:Nat}{P:Fin->Shared->Prop}(ho:s.heap.get? a=some (seqObj "list" vs.toArray n))(h0:KeysOf κ (pairsOf vs))(hl:vs.length<128)
  (hk:2<=vs.length->∀ g:Heap,(∀ b u,b≠a->s.heap.get? b=some u->g.get? b=some u)->LtOk κ kd prog w A { s with heap:=g }/\∀ R:SortKind->Shared->Prop,R kd { s with heap:=g }->wpAny (model prog w) A (keyKind' vs.toArray) R E { s with heap:=g })
  (h:∀ (ws:List Value) (g:Heap) (c:Nat),ws.Perm vs->SortedToK κ (pairsOf ws) ws.length->(∀ b u,b≠a->s.heap.get? b=some u->g.get? b=some u)->g.get? a=some (seqObj "list" ws.toArray c)->P (.done (.ret .none)) { s with heap:=g }) :
  wpAny (model prog w) A (Builtin.«list.sort» ⟨[.ref a],[]⟩) P E s:=sort_gen ho h0 (zG hl (by decide)) hk h
end
end Srt
namespace L2
open PySem PySem.W PyProof.Rows Srt
theorem intsV_of:∀ {ns:List Int}{us:List Value},Vals (ns.map V.int) us->IntsV ns us
 |[],_,.nil=>.nil
 |n :: ns,_,.cons r t=>.cons r (intsV_of t)
noncomputable def keyA(g:Heap)(a:Addr):List Int:=(show Option (List Int)from(κT g).keyOf (.ref a)).getD []
theorem keyA_eq{g:Heap}{a:Addr}{k:List Int}(x:TupI g (.ref a) k):keyA g a=k:=by
 unfold keyA
 rw[κT_key x]
 rfl
noncomputable def unref:Value->Addr
 | .ref a=>a
 | _=>(0:Nat)
section
variable{X:Cx}{pins:List (Addr×Obj)}{σ:St}{H:Hp}{s:Shared}
theorem tupI_of(I:Inv X pins σ H s){a:Addr}{ns:List Int}(h:H a=some (.tup (ns.map V.int))):TupI s.heap (.ref a) ns:=by
 obtain⟨its,r,⟨o,e,c,n,d⟩,_⟩:=I.tuple (SqT.of h)
 exact⟨a,o,_,n,rfl,e,c,d,intsV_of r⟩
theorem looks_int{M:Model}{h:Heap}{i:Int}{t:Tok}:Looks M h (typeOf (.int i t)) (Value.type "int"):=Looks.now
theorem tups_of{g:Heap}:∀ {as:List Addr}{ks:List (List Int)},Paired (fun a k=>TupI g (.ref a) k/\k≠[]) as ks->∃ fs:List Value,KatTups g (as.map .ref) fs/\fs.length=as.length/\∀ v∈fs,∃ i t,v=Value.int i t:=by
 intro as ks h
 induction h with
 |nil=>exact⟨[],trivial,rfl,fun _ h=>nomatch h⟩
 | @cons a k as ks h r ih =>
  obtain⟨⟨a',o,its,n,e,g1,c,d,p⟩,ne⟩:=h
  cases e
  obtain⟨fs,t,l,z⟩:=ih
  cases k with
  |nil=>exact absurd rfl ne
  |cons i k =>
   obtain⟨il⟩:=its
   cases p with
   |cons r1 r2 =>
    obtain⟨tk,rfl⟩:=r1
    refine⟨_ :: fs,KatTups.cons g1 c d rfl t,by simp[l],fun v hv=>?_⟩
    rcases zW.mp hv with e | e
    ·exact⟨i,tk,e⟩
    ·exact z v e
theorem sort_new{L:Addr}{A:Around}{E:Value->Shared->Prop}{as:List Addr}{ks:List (List Int)}{P:Fin->Shared->Prop}(ho:s.heap.get? L=some (seqObj "list" (as.map Value.ref).toArray 0))(hT:Paired (fun a k=>TupI s.heap (.ref a) k/\k≠[]) as ks)(hl:as.length<128)
  (h:∀ (bs:List Addr) (ns:List (List Int)) (g:Heap) (c:Nat),bs.Perm as->ns.Perm ks->ns.Pairwise (fun x y=>lexlt y x=false)->Paired (fun a k=>TupI s.heap (.ref a) k) bs ns->(∀ b u,b≠L->s.heap.get? b=some u->g.get? b=some u)->g.get? L=some (seqObj "list" (bs.map Value.ref).toArray c) ->
   P (.done (.ret .none)) { s with heap:=g }):wpAny (model X.prog X.w) A (Builtin.«list.sort» ⟨[.ref L],[]⟩) P E s:=by
 have neL:∀ v ns,TupI s.heap v ns->v≠.ref L:=fun v ns x e=>by
  obtain⟨a,o,its,n,rfl,g1,c,_⟩:=x
  cases e
  rw[ho]at g1
  cases g1
  exact absurd (show Value.type "list" = Value.type "tuple" from c) (by decide)
 have lenk:as.length=ks.length:=hT.length
 have kp:∀ g:Heap,(∀ b u,b≠L->s.heap.get? b=some u->g.get? b=some u)->∀ v ns,TupI s.heap v ns->TupI g v ns:=fun g k v ns x=>x.to fun b u e z=>k b u (fun q=>neL v ns x (by rw[e,q])) z
 have memk:∀ v∈as.map Value.ref,∃ k,TupI s.heap v k:=fun v hv=>by
  obtain⟨a,ha,rfl⟩:=zAP.mp hv
  clear h ho neL kp hl lenk hv
  induction hT with
  |nil=>cases ha
  |cons r _ ih =>
   rcases zW.mp ha with e | e
   ·rw[e];exact⟨_,r.1⟩
   ·exact ih e
 refine sort_at (κ:=κT s.heap) (kd:=tuples' true) ho (fun p hp=>?_) (by rw[zB];exact hl) (fun l2 g k=>⟨ltT_ok (kp g k),fun R hR=>?_⟩) fun ws g c pw sw k gL=>?_
 ·rw[pairsOf_toList]at hp
  obtain⟨e1,e2⟩:=Srt.mem_zip_self hp
  obtain⟨kk,x⟩:=memk p.2 e2
  rw[e1]
  exact⟨kk,κT_key x⟩
 ·have hT':Paired (fun a k=>TupI g (.ref a) k/\k≠[]) as ks:=Paired.mapP hT fun a b z=>⟨kp g k _ _ z.1,z.2⟩
  obtain⟨fs,t,l,z⟩:=tups_of hT'
  by_cases e0:fs=[]
  ·rw[e0]at l
   rw[zB]at l2
   simp at l
   lia
  ·refine kat_kind (T:=Value.type "int") t (List.length_pos_iff.mpr e0) (fun v hv=>?_) (by decide) ?_
   ·obtain⟨i,tk,rfl⟩:=z v hv
    exact looks_int
   ·have e:(Value.type "int" != Value.type "tuple")=true:=by decide
    rw[e]
    exact hR
 ·-- the values are refs again,the keys a permutation
  have unr:∀ l:List Value,(∀ v∈l,∃ a,v=Value.ref a)->(l.map unref).map Value.ref=l:=fun l hl=>by
   induction l with
   |nil=>rfl
   |cons v l ih =>
    obtain⟨a,rfl⟩:=hl v (zX ..)
    rw[zAS,zAS,ih fun v hv=>hl v (zP _ hv)]
    rfl
  have eb:(ws.map unref).map Value.ref=ws:=unr ws fun v hv=>by
   obtain⟨a,_,rfl⟩:=zAP.mp (pw.mem_iff.mp hv)
   exact⟨a,rfl⟩
  have pb:(ws.map unref).Perm as:=by
   have:=pw.map unref
   rw[zCO]at this
   have e:(as.map (unref ∘ Value.ref))=as:=by
    rw[show(unref ∘ Value.ref)=id from rfl,List.map_id]
   rw[e]at this
   exact this
  generalize ws.map unref=bs at eb pb
  subst eb
  have ek:ks=as.map (keyA s.heap):=by
   clear h ho neL kp hl lenk memk pw sw pb
   induction hT with
   |nil=>rfl
   |cons r _ ih=>rw[zAS,keyA_eq r.1,<- ih]
  have kb:∀ b∈bs,TupI s.heap (.ref b) (keyA s.heap b):=fun b hb=>by
   obtain⟨k,x⟩:=memk (.ref b) (zAP.mpr ⟨b,pb.mem_iff.mp hb,rfl⟩)
   rw[keyA_eq x]
   exact x
  refine h bs (bs.map (keyA s.heap)) g c pb (by rw[ek];exact pb.map _) ?_ ?_ k gL
  ·rw[zBS]
   intro i j hi hj ij
   rw[zB]at hi hj
   have z:=sw i j (zT ij) (by rw[zB];exact hj)
   have kk:∀ m (hm:m<bs.length),KK (κT s.heap) (pairsOf (bs.map Value.ref)) m=keyA s.heap bs[m]:=fun m hm=>by
    have e:(pairsOf (bs.map Value.ref))[m]?=some (Value.ref bs[m],Value.ref bs[m]):=by simp[pairsOf,hm]
    unfold KK
    rw[e]
    rfl
   rw[kk i hi,kk j hj]at z
   rw[zBC,zBC]
   exact z
  ·clear h ho neL kp hl lenk memk pw sw pb gL
   induction bs with
   |nil=>exact .nil
   |cons b bs ih=>exact .cons (kb b (zX ..)) (ih fun b hb=>kb b (zP _ hb))
theorem call_sortedD(hc:X.calm=true):CallR X (.builtin "sorted") (fun xs H Q=>∃ d kvs ks,xs=[V.ref d]/\H d=some (.dT kvs)/\kvs.map (·.1)=List.map (List.map Sum.inl) ks/\(∀ k∈ks,k≠[])/\kvs.length<128 /\
  ∀ (l:Addr) (as:List Addr) (ns:List (List Int)),H l=none->ns.Perm ks->ns.Pairwise (fun x y=>lexlt y x=false)->Paired (fun a n=>H a=some (.tup (n.map V.int))) as ns->Q (.ref l) (upd H l (.lst (as.map V.ref)))):=by
 intro pins s σ H xs us Q I r h
 obtain⟨d,kvs,ks,rfl,hd,hks,hne,hlen,q⟩:=h
 obtain⟨u,rfl,rx⟩:=vals1 r
 cases rx
 obtain⟨z,nsys,xs,pr,o,es,ep,go,ex,dt,ee,nd⟩:=I.hok d _ hd
 have hpl:xs.length=kvs.length:=pr.length.symm
 have hT:Paired (fun a k=>(H a=some (.tup (k.map V.int))/\k≠[])) (xs.map fun q=>q.2.1) ks:=by
  clear q hd hlen z nd go ex dt ee hpl
  induction pr generalizing ks with
  |nil =>
   cases ks with
   |nil=>exact .nil
   |cons _ _=>simp at hks
  | @cons p x l1 l2 r1 r2 ih =>
   cases ks with
   |nil=>simp at hks
   |cons k ks =>
    simp only[zAS,List.cons.injEq]at hks
    refine .cons ⟨?_,hne k (zX ..)⟩ (ih ks hks.2 fun k hk=>hne k (zP _ hk))
    rw[r1.2.1,hks.1,zCO]
    rfl
 have raw:RawD d (xs.map fun q=>Value.ref q.2.1) ep s.heap:=⟨o,es,go,ex,dt,by rw[ee,zCO];rfl⟩
 refine Calls.call_function_entry kind_sorted plain_sorted entry_sorted (args_sorted1 _) ?_
 unfold Builtin.«sorted»
 refine zA (m:=checkCount "sorted" 1 1 _) (zE (zA (kdu_collect (A:=X.A.in1) (rawSrc nsys) (show X.A.handled=none from I.ok.hd hc) raw (by rw[zB,hpl,sizeLine_eq];exact zl4 hlen rfl) fun h' tk acc kp hacc=>?_)))
 have eacc:acc.toList=(xs.map fun q=>q.2.1).map Value.ref:=by
  apply List.ext_getElem?
  intro i
  by_cases hi:i<acc.size
  ·have e1:acc.toList[i]?=some acc[i]:=by rw[zAH,zS hi]
   have e2:=hacc.2 i acc[i] (zS hi)
   rw[e1,zCO]
   exact e2.symm
  ·have l0:=hacc.1
   rw[zB]at l0
   rw[zCR (by rw[zO];exact zj3 hi),zCR (by rw[zB,zB];exact zh9 (zj3 hi) (Eq.symm l0))]
 rw[eacc]
 generalize exs:(xs.map fun q=>q.2.1)=as0 at hT
 have las:as0.length<128:=by rw[<- exs,zB];exact zL (zAG hpl) hlen
 refine zA (wpAny_newList ?_ (by rw[zB,sizeLine_eq];exact zl4 las rfl))
 have gL:(h'.push (seqObj "list" (as0.map Value.ref).toArray 0)).get? h'.objs.size=some (seqObj "list" (as0.map Value.ref).toArray 0):=zU _ rfl
 have I1:Inv X pins σ H { s with heap:=h',toks:=tk }:=I.kept kp
 have kp2:∀ b u,h'.get? b=some u->(h'.push (seqObj "list" (as0.map Value.ref).toArray 0)).get? b=some u:=fun b u e=>zD _ e
 have tT:Paired (fun a k=>TupI (h'.push (seqObj "list" (as0.map Value.ref).toArray 0)) (.ref a) k/\k≠[]) as0 ks:=Paired.mapP hT fun a k z=>⟨(tupI_of I1 z.1).to fun b u _ e=>kp2 b u e,z.2⟩
 have memH:∀ a∈as0,∃ k:List Int,H a=some (.tup (k.map V.int)):=fun a ha=>by
  clear q exs eacc raw gL tT kp2 las hks hne hlen
  induction hT with
  |nil=>cases ha
  |cons r _ ih =>
   rcases zW.mp ha with e | e
   ·rw[e];exact⟨_,r.1⟩
   ·exact ih e
 refine zA (wpAny_holding (wpAny_call_entry slot_list_sort ⟨_,gL,rfl⟩ entry_list_sort (sort_new (X:=X) (s:={ s with heap:=h'.push (seqObj "list" (as0.map Value.ref).toArray 0),toks:=tk }) gL tT las fun bs ns g c pb pn pw pt kp3 gg=>⟨_,rfl,?_⟩) (args_list_sort _)))
 refine zE ⟨_,rfl,.ref h'.objs.size,_,I1.laid (t':=tk) (a:=h'.objs.size) (o:=.lst (bs.map V.ref)) (fun b u e=>kp3 b u (zAC (zK e)) (kp2 b u e)) (zH _) (show ObjOk X.prog X.w _ g _ (.lst (bs.map V.ref))from⟨?_,bs.map Value.ref,c,?_,gg⟩),rfl,q _ bs ns (I1.hok.fresh (zH _)) pn pw ?_⟩
 ·rw[zB,pb.length_eq,sizeLine_eq];exact zl4 las rfl
 ·clear pb pt gg
  induction bs with
  |nil=>exact .nil
  |cons b bs ih=>exact .cons rfl ih
 ·have memB:∀ a∈bs,∃ k:List Int,H a=some (.tup (k.map V.int)):=fun a ha=>memH a (pb.mem_iff.mp ha)
  clear pb gg pn pw
  induction pt with
  |nil=>exact .nil
  | @cons a k l1 l2 r1 _ ih =>
   refine .cons ?_ (ih fun a ha=>memB a (zP _ ha))
   obtain⟨k',e⟩:=memB a (zX ..)
   rw[e,r1.inj ((tupI_of I1 e).to fun b u _ z=>kp2 b u z)]
end
open PySem PySem.W PyProof.Rows
section
variable{X:Cx}
theorem call_range(X:Cx):CallR X (.type "range") (fun xs H Q=>∃ j:Int,xs=[V.int j]/\∀ p,H p=none->Q (.ref p) (upd H p (.rng 0 j))):=by
 intro pins s σ H xs us Q I r h
 obtain⟨j,rfl,q⟩:=h
 obtain⟨u,rfl,t,rfl⟩:=vals1 r
 refine call_range_1 ⟨.ref s.heap.objs.size,_,I.laid (t':=s.toks+1+1) (a:=s.heap.objs.size) (o:=.rng 0 j) (fun b o e=>zD _ e) (zH _) ⟨_,_,_,zU _ rfl⟩,rfl,q _ (I.hok.fresh (zH _))⟩
noncomputable def upto(n:Nat):List Int:=(List.range n).map fun(i:Nat)=>(i:Int)
theorem upto_length(n:Nat):(upto n).length=n:=by simp[upto]
theorem call_list_rng(hc:X.calm=true):CallR X (.type "list") (fun xs H Q=>∃ p j,xs=[V.ref p]/\H p=some (.rng 0 j)/\-(2 ^ 62)<=j/\j<=1000000/\∀ l,H l=none->Q (.ref l) (upd H l (.lst ((upto j.toNat).map V.int)))):=by
 intro pins s σ H xs us Q I r h
 obtain⟨p,j,rfl,hp,h1,h2,q⟩:=h
 obtain⟨u,rfl,rx⟩:=vals1 r
 cases rx
 obtain⟨t,u,v,e⟩:=I.hok p _ hp
 have rs:Builtin.Range.rangeSize 0 j 1=((j.toNat:Nat):Int):=by rw[rangeSize_one];split <;> lia
 refine call_list_range (I.ok.hd hc) (show IsRange s.heap p 0 j 1 t u v from e) (small_one (by lia) (by lia) h1 (by lia)) rs (by lia) fun h' tk acc c kp hD hI=>?_
 refine⟨.ref s.heap.objs.size,_,I.laid (t':=tk) (a:=s.heap.objs.size) (o:=.lst ((upto j.toNat).map V.int)) kp (zH _) (show ObjOk X.prog X.w _ h' _ (.lst ((upto j.toNat).map V.int))from⟨?_,acc.toList,c,?_,by rw[Array.toArray_toList];exact hD⟩),rfl,q _ (I.hok.fresh (zH _))⟩
 ·rw[zB,upto_length,sizeLine_eq];lia
 ·have len:acc.toList.length=j.toNat:=by rw[zO];exact hI.1
  have key:∀ (n:Nat) (a:List Value) (b:Nat),a.length=n->(∀ i u,a[i]?=some u->∃ t,u=Value.int ((b+i:Nat):Int) t)->Vals (((List.range' b n).map fun(i:Nat)=>(i:Int)).map V.int) a:=by
   intro n
   induction n with
   |zero=>intro a b e _;rw[List.eq_nil_of_length_eq_zero e];exact .nil
   |succ n ih =>
    intro a b e f
    cases a with
    |nil=>simp at e
    |cons u a =>
     rw[List.range'_succ,zAS,zAS]
     refine .cons (f 0 u rfl) (ih a (b+1) (by simpa using e) fun i u hu=>?_)
     obtain⟨t,z⟩:=f (i+1) u (by simpa using hu)
     exact⟨t,by rw[z];congr 1;lia⟩
  have:=key j.toNat acc.toList 0 len fun i u hu=>by
   obtain⟨t,z⟩:=hI.2 i u (by rw[<- zAH];exact hu)
   exact⟨t,by rw[z];congr 1;lia⟩
  rw[<- List.range_eq_range']at this
  exact this
theorem eqAt_ints{A:Around}{s:Shared}{ns ms:List Int}{us vs:List Value}(r:Vals (ns.map V.int) us)(r':Vals (ms.map V.int) vs)(j:Nat)(h1:j<us.toArray.size)(h2:j<vs.toArray.size):SeqAt.EqAt A s us.toArray[j] vs.toArray[j] (decide (ns[j]?=ms[j]?)):=by
 have l1:=r.length
 have l2:=r'.length
 simp only[zB,zQ]at l1 l2 h1 h2
 obtain⟨u,e1,t1,q1⟩:=r.get (i:=j) (x:=V.int (ns[j]'(by exact zh8 h1 l1))) (by rw[zAJ,zF (by exact zh8 h1 l1)];rfl)
 obtain⟨u',e2,t2,q2⟩:=r'.get (i:=j) (x:=V.int (ms[j]'(by exact zh8 h2 l2))) (by rw[zAJ,zF (by exact zh8 h2 l2)];rfl)
 have g1:us.toArray[j]=u:=by
  have:us[j]?=some us.toArray[j]:=by simp[h1]
  rw[this]at e1
  exact Option.some.inj e1
 have g2:vs.toArray[j]=u':=by
  have:vs[j]?=some vs.toArray[j]:=by simp[h2]
  rw[this]at e2
  exact Option.some.inj e2
 rw[g1,g2,q1,q2]
 have e:decide (ns[j]?=ms[j]?)=(ns[j]'(by exact zh8 h1 l1) == ms[j]'(by exact zh8 h2 l2)):=by
  rw[zF (by exact zh8 h1 l1),zF (by exact zh8 h2 l2),Bool.beq_eq_decide_eq]
  simp
 rw[e]
 exact SeqAt.EqAt.int_int _ _ _ _
theorem call_isinst:CallR X (.builtin "isinstance") (fun xs H Q=>∃ x t c b,xs=[x,V.ty c]/\TyOf X.K H x t/\PySem.W.kitOne X.K t (.type c)=some b/\Q (.bl b) H):=by
 intro pins s σ H xs us Q I r h
 obtain⟨x,t,c,b,rfl,ty,e,q⟩:=h
 obtain⟨u,u',rfl,rx,rc⟩:=vals2 r
 cases rc
 exact isinst_ok I rx ty e fun tk=>⟨.bl b,H,I.tok _,rfl,q⟩
end
theorem star_sub{a b:Expr}{pos:Pos}{rest:List Expr}{env:Env}:starEach (.Subscript a b pos :: rest) env=(false,eval (.Subscript a b pos) env) :: starEach rest env:=rfl
theorem star_call{f:Expr}{args:List Expr}{ks:List Keyword}{pos:Pos}{rest:List Expr}{env:Env}:starEach (.Call f args ks pos :: rest) env=(false,eval (.Call f args ks pos) env) :: starEach rest env:=rfl
theorem star_bin{a b:Expr}{op:Operator}{pos:Pos}{rest:List Expr}{env:Env}:starEach (.BinOp a op b pos :: rest) env=(false,eval (.BinOp a op b pos) env) :: starEach rest env:=rfl
theorem star_comp{e:Expr}{gs:List Comprehension}{sc:Scope}{pos:Pos}{rest:List Expr}{env:Env}:starEach (.ListComp e gs sc pos :: rest) env=(false,eval (.ListComp e gs sc pos) env) :: starEach rest env:=rfl
theorem star_tup{es:List Expr}{k:Nat}{pos:Pos}{rest:List Expr}{env:Env}:starEach (.Tuple es k pos :: rest) env=(false,eval (.Tuple es k pos) env) :: starEach rest env:=rfl
section
variable{X:Cx}{es:List Expr}{te:TE}{t:TA}{pos:Pos}
theorem pa_sub{a b:Expr}(ha:PE X (.Subscript a b pos) te)(hr:PA X es t):PA X (.Subscript a b pos :: es) (tCons te t):=pa_cons ha hr (hs:=star_sub)
theorem pa_call{f:Expr}{args:List Expr}{ks:List Keyword}(ha:PE X (.Call f args ks pos) te)(hr:PA X es t):PA X (.Call f args ks pos :: es) (tCons te t):=pa_cons ha hr (hs:=star_call)
theorem pa_bin{a b:Expr}{op:Operator}(ha:PE X (.BinOp a op b pos) te)(hr:PA X es t):PA X (.BinOp a op b pos :: es) (tCons te t):=pa_cons ha hr (hs:=star_bin)
theorem pa_comp{e:Expr}{gs:List Comprehension}{sc:Scope}(ha:PE X (.ListComp e gs sc pos) te)(hr:PA X es t):PA X (.ListComp e gs sc pos :: es) (tCons te t):=pa_cons ha hr (hs:=star_comp)
theorem pa_tup{xs:List Expr}{k:Nat}(ha:PE X (.Tuple xs k pos) te)(hr:PA X es t):PA X (.Tuple xs k pos :: es) (tCons te t):=pa_cons ha hr (hs:=star_tup)
theorem star_cst{c:Const}{k:Nat}{pos:Pos}{rest:List Expr}{env:Env}:starEach (.Constant c k pos :: rest) env=(false,eval (.Constant c k pos) env) :: starEach rest env:=rfl
theorem star_nam{x:Str}{pos:Pos}{rest:List Expr}{env:Env}:starEach (.Name x pos :: rest) env=(false,eval (.Name x pos) env) :: starEach rest env:=rfl
theorem pa_cst{c:Const}{k:Nat}(ha:PE X (.Constant c k pos) te)(hr:PA X es t):PA X (.Constant c k pos :: es) (tCons te t):=pa_cons ha hr (hs:=star_cst)
theorem pa_nam{x:Str}(ha:PE X (.Name x pos) te)(hr:PA X es t):PA X (.Name x pos :: es) (tCons te t):=pa_cons ha hr (hs:=star_nam)
end
end L2
namespace Srt
open PySem PySem.W PyProof.Rows
noncomputable def SeqK(b:Bool)(g:Heap)(l:Addr)(xs:Array Value):Prop:=match b with
 |true=>g.IsTuple l xs
 |false=>g.IsList l xs
noncomputable def ItK(b:Bool)(g:Heap)(it l:Addr)(i:Nat):Prop:=match b with
 |true=>g.IsTupleIter it l i
 |false=>g.IsListIter it l i
noncomputable def itO(b:Bool)(l:Addr):Obj:=match b with
 |true=>{ cls:=.type "tuple_iterator",data:=.fields #[.ref l,.int 0 0] }
 |false=>{ cls:=.type "list_iterator",data:=.fields #[.ref l,.int 0 0] }
theorem SeqK.to{b:Bool}{g g':Heap}{l:Addr}{xs:Array Value}(x:SeqK b g l xs)(k:∀ o,g.get? l=some o->g'.get? l=some o):SeqK b g' l xs:=by
 cases b
 ·exact Heap.IsList.at x k
 ·exact Heap.IsTuple.at x k
theorem ItK.to{b:Bool}{g g':Heap}{it l:Addr}{i:Nat}(x:ItK b g it l i)(k:∀ o,g.get? it=some o->g'.get? it=some o):ItK b g' it l i:=by
 cases b
 ·exact Heap.IsListIter.at x k
 ·obtain⟨o,e,r⟩:=(show g.IsTupleIter it l i from x)
  exact⟨o,k o e,r⟩
theorem ItK.lt{b:Bool}{g:Heap}{it l:Addr}{i:Nat}(x:ItK b g it l i):∃ o,g.get? it=some o/\∀ v,o.data≠.cell v:=by
 cases b
 ·obtain⟨o,e,c,d⟩:=(show g.IsListIter it l i from x)
  exact⟨o,e,fun v z=>by rw[d]at z;cases z⟩
 ·obtain⟨o,e,c,d⟩:=(show g.IsTupleIter it l i from x)
  exact⟨o,e,fun v z=>by rw[d]at z;cases z⟩
section
variable{prog:Program}{w:World}{A:Around}{E:Value->Shared->Prop}{s:Shared}
theorem nextK_item{b:Bool}{it l:Addr}{i:Nat}{xs:Array Value}{x:Value}{Q:Value->Shared->Prop}(hit:ItK b s.heap it l i)(hl:SeqK b s.heap l xs)(hx:xs[i]?=some x)
  (q:∀ g,ItK b g it l (i+1)->Heap.SameBut it s.heap g->Q x { s with heap:=g }):wpAny (model prog w) A (Builtin.SmallTypes.nextOf (.ref it)) Q E s:=by
 cases b
 ·exact wpAny_nextOf_list_item hit hl hx q
 ·have ty:s.TypeIs (.ref it) "tuple_iterator":=by
   obtain⟨o,e,c,_⟩:=(show s.heap.IsTupleIter it l i from hit)
   exact⟨o,e,c⟩
  obtain⟨o,e,c,d⟩:=(show s.heap.IsTupleIter it l i from hit)
  obtain⟨o2,e2,_,n2,d2⟩:=(show s.heap.IsTuple l xs from hl)
  unfold Builtin.SmallTypes.nextOf;refine zA (wpAny_callSpecial?_slot (name:=Str.ofString "__next__") ty F.slot_tuple_iterator_next (wpAny_call_entry F.slot_tuple_iterator_next ty F.entry_tuple_iterator_next ?_ (F.args_tuple_iterator_next_1 _)))
  show wpAny _ _ (field (.ref it) 0 >>= _) _ _ s;refine zA (wpAny_field e d (x:=.ref l) rfl ?_)
  show wpAny _ _ (if(Value.ref l == Value.none)=true then _ else _) _ _ s;rw[if_neg (show ¬((Value.ref l == Value.none)=true)from zJ)]
  show wpAny _ _ (field (.ref it) 1 >>= _) _ _ s;refine zA (wpAny_field e d (x:=.int i 0) rfl ?_)
  show wpAny _ _ (seqItems? (.ref l) >>= _) _ _ s;refine zA (wpAny_seqItems e2 d2 ?_)
  simp only[zCF,hx]
  refine zA (wpAny_setField e d (by simp) (zE ⟨x,rfl,zE (q _ ?_ (Heap.SameBut.update ..))⟩))
  exact(show Heap.IsTupleIter _ it l (i+1)from⟨_,Heap.get?_update_self _ e (Obj.isFreed_of_fields (Obj.data_mapFields d _)),(Obj.cls_mapFields ..).trans c,by rw[Obj.data_mapFields d];simp[rawInt]⟩)
theorem nextK_end{b:Bool}{it l:Addr}{i:Nat}{xs:Array Value}{Q:Value->Shared->Prop}(hh:A.handled=none)(hit:ItK b s.heap it l i)(hl:SeqK b s.heap l xs)(hx:xs[i]?=none)
  (q:∀ g e,Heap.ExtBut it s.heap g->(∃ o,g.get? e=some o/\o.cls = .type "StopIteration")->E (.ref e) { s with heap:=g }):wpAny (model prog w) A (Builtin.SmallTypes.nextOf (.ref it)) Q E s:=by
 cases b
 ·exact wpAny_nextOf_list_end hh hit hl hx q
 ·have ty:s.TypeIs (.ref it) "tuple_iterator":=by
   obtain⟨o,e,c,_⟩:=(show s.heap.IsTupleIter it l i from hit)
   exact⟨o,e,c⟩
  obtain⟨o,e,c,d⟩:=(show s.heap.IsTupleIter it l i from hit)
  obtain⟨o2,e2,_,n2,d2⟩:=(show s.heap.IsTuple l xs from hl)
  unfold Builtin.SmallTypes.nextOf;refine zA (wpAny_callSpecial?_slot (name:=Str.ofString "__next__") ty F.slot_tuple_iterator_next (wpAny_call_entry F.slot_tuple_iterator_next ty F.entry_tuple_iterator_next ?_ (F.args_tuple_iterator_next_1 _)))
  show wpAny _ _ (field (.ref it) 0 >>= _) _ _ s;refine zA (wpAny_field e d (x:=.ref l) rfl ?_)
  show wpAny _ _ (if(Value.ref l == Value.none)=true then _ else _) _ _ s;rw[if_neg (show ¬((Value.ref l == Value.none)=true)from zJ)]
  show wpAny _ _ (field (.ref it) 1 >>= _) _ _ s;refine zA (wpAny_field e d (x:=.int i 0) rfl ?_)
  show wpAny _ _ (seqItems? (.ref l) >>= _) _ _ s;refine zA (wpAny_seqItems e2 d2 ?_)
  simp only[zCF,hx];refine zA (wpAny_rule (zA (wpAny_setField e d (by simp) ?_)))
  show wpAny _ _ (newExc (.type "StopIteration") [] >>= _) _ _ _;refine zA ?_
  simp only[newExc,newTuple];refine zA (wpAny_newObj_type ?_ (by size_fits))
  refine zA (m:=firstArgMember _ _) (wpAny_of_eq (a:=Value.none) (by first | rfl |(simp only[firstArgMember];rfl)) (wpAny_newObj_type ?_ (by size_fits)))
  simp only[raiseNew];refine zA (wpAny_handled ?_)
  rw[show A.in1.handled=none from hh];refine zA (zE (wpAny_throw ?_))
  exact q _ _ (((Heap.SameBut.update ..).extBut.push _).push _) ⟨_,zU _ rfl,rfl⟩
structure ZA(z ti to i1 i2:Addr):Prop where
 a1:ti≠z
 a2:to≠z
 a3:i1≠z
 a4:i2≠z
 a5:ti≠to
 a6:ti≠i1
 a7:ti≠i2
 a8:to≠i1
 a9:to≠i2
 a10:i1≠i2
noncomputable def Off(z to i1 i2 l:Addr):Prop:=l≠z/\l≠to/\l≠i1/\l≠i2
theorem zipK_item{b1 b2:Bool}{z ti to i1 i2 l1 l2:Addr}{k:Nat}{xs ys:Array Value}{x y a b:Value}{Q:Value->Shared->Prop}(D:ZA z ti to i1 i2)(o1:Off z to i1 i2 l1)(o2:Off z to i1 i2 l2)
  (hz:IsZip s.heap z ti to .none) (hTI:IsPair s.heap ti (.ref i1) (.ref i2)) (hTO:IsPair s.heap to a b) (h1:ItK b1 s.heap i1 l1 k) (h2:ItK b2 s.heap i2 l2 k) (hl1:SeqK b1 s.heap l1 xs) (hl2:SeqK b2 s.heap l2 ys) (hx:xs[k]?=some x) (hy:ys[k]?=some y)
  (q:∀ g,IsZip g z ti to (rawInt s.heap.objs.size)->IsPair g to x y->ItK b1 g i1 l1 (k+1)->ItK b2 g i2 l2 (k+1)->IsPair g s.heap.objs.size x y->(∀ c o,c≠z->c≠to->c≠i1->c≠i2->s.heap.get? c=some o->g.get? c=some o)->Q (.ref s.heap.objs.size) { s with heap:=g }) :
  wpAny (model prog w) A (Builtin.«zip.__next__» ⟨[.ref z],[]⟩) (fun fin s'=>∃ v,fin = .done (.ret v)/\Q v s') E s:=by
 show wpAny _ _ (field (.ref z) 2 >>= _) _ _ _;refine zA (wpAny_field hz rfl (x:=.bool false) rfl ?_)
 show wpAny _ _ (field (.ref z) 3 >>= _) _ _ _;refine zA (wpAny_field hz rfl (x:=.ref ti) rfl (zA (wpAny_seqItems hTI rfl ?_)))
 show wpAny _ _ (Builtin.SmallTypes.ownedTupleIsFree (.ref z) >>= _) _ _ _;refine zA ?_
 unfold Builtin.SmallTypes.ownedTupleIsFree;refine zA (wpAny_field hz rfl (x:=.none) rfl (zE ?_))
 simp only[if_true];refine zA (wpAny_rule (zA (wpAny_field hz rfl (x:=.ref to) rfl (zA (wpAny_setField_rec hz (by simp) fun g1 z1 e1=>?_)))))
 replace z1:IsZip g1 z ti to .ellipsis:=z1
 refine zA ?_;simp only[List.zipIdx_cons,List.zipIdx_nil,List.forIn_cons,List.forIn_nil]
 refine zA (zA (wpAny_onRaise ?_));show wpAny _ _ (Builtin.SmallTypes.nextOf (.ref i1) >>= _) _ _ _
 refine zA (nextK_item (h1.to fun o e=>e1.extBut _ _ D.a3 e) (hl1.to fun o e=>e1.extBut _ _ o1.1 e) hx fun g2 n2 e2=>zE ?_)
 have t2:IsPair g2 to a b:=e2.extBut _ _ D.a8 (e1.extBut _ _ D.a2 hTO)
 refine zA (wpAny_seqItems t2 rfl (zA (wpAny_updateSeq_pair t2 fun g3 t3 e3=>?_)))
 replace t3:IsPair g3 to x b:=t3
 refine zA (wpAny_letGo (zE (zA (zA (wpAny_onRaise ?_)))));show wpAny _ _ (Builtin.SmallTypes.nextOf (.ref i2) >>= _) _ _ _
 refine zA (nextK_item (((h2.to fun o e=>e1.extBut _ _ D.a4 e).to fun o e=>e2.extBut _ _ (Ne.symm D.a10) e).to fun o e=>e3.extBut _ _ (Ne.symm D.a9) e) (((hl2.to fun o e=>e1.extBut _ _ o2.1 e).to fun o e=>e2.extBut _ _ o2.2.2.1 e).to fun o e=>e3.extBut _ _ o2.2.1 e) hy fun g4 n4 e4=>zE ?_)
 have t4:IsPair g4 to x b:=e4.extBut _ _ D.a9 t3
 refine zA (wpAny_seqItems t4 rfl (zA (wpAny_updateSeq_pair t4 fun g5 t5 e5=>?_)))
 replace t5:IsPair g5 to x y:=t5
 refine zA (wpAny_letGo (zE (zE (zA (wpAny_seqItems t5 rfl (zA (wpAny_newTuple ?_)))))))
 have sz:g5.objs.size=s.heap.objs.size:=by rw[e5.1,e4.1,e3.1,e2.1,e1.1]
 have z5:IsZip g5 z ti to .ellipsis:=e5.extBut _ _ (Ne.symm D.a2) (e4.extBut _ _ (Ne.symm D.a4) (e3.extBut _ _ (Ne.symm D.a2) (e2.extBut _ _ (Ne.symm D.a3) z1)))
 have k5:∀ c o,c≠z->c≠to->c≠i1->c≠i2->s.heap.get? c=some o->g5.get? c=some o:=fun c o c1 c2 c3 c4 e=>e5.extBut _ _ c2 (e4.extBut _ _ c4 (e3.extBut _ _ c2 (e2.extBut _ _ c3 (e1.extBut _ _ c1 e))))
 have n15:ItK b1 g5 i1 l1 (k+1):=((n2.to fun o e=>e3.extBut _ _ (Ne.symm D.a8) e).to fun o e=>e4.extBut _ _ D.a10 e).to fun o e=>e5.extBut _ _ (Ne.symm D.a8) e
 have n25:ItK b2 g5 i2 l2 (k+1):=n4.to fun o e=>e5.extBut _ _ (Ne.symm D.a9) e
 show wpAny _ _ (Builtin.SmallTypes.ownedTupleHandOut (.ref z) (.ref g5.objs.size) >>= _) _ _ _;refine zA ?_
 unfold Builtin.SmallTypes.ownedTupleHandOut
 have z6:IsZip (g5.push { cls:=.type "tuple",data:=.seq #[x,y] }) z ti to .ellipsis:=zD _ z5
 refine zA (wpAny_setField_rec z6 (by simp) fun g7 z7 e7=>?_)
 replace z7:IsZip g7 z ti to (rawInt g5.objs.size):=z7
 refine wpAny_setField_rec z7 (by simp) fun g8 z8 e8=>?_
 replace z8:IsZip g8 z ti to (rawInt g5.objs.size):=z8
 have up:∀ c o,c≠z->g5.get? c=some o->g8.get? c=some o:=fun c o c1 e=>e8.extBut _ _ c1 (e7.extBut _ _ c1 (zD _ e))
 have zlt:z<g5.objs.size:=zK z5
 have p8:IsPair g8 g5.objs.size x y:=e8.extBut _ _ (zCA zlt) (e7.extBut _ _ (zCA zlt) (zU _ rfl))
 rw[sz]at z8 p8
 refine zE ⟨_,rfl,?_⟩
 show Q (.ref g5.objs.size) _;rw[sz]
 exact q g8 z8 (up _ _ D.a2 t5) (n15.to fun o e=>up _ o D.a3 e) (n25.to fun o e=>up _ o D.a4 e) p8 fun c o c1 c2 c3 c4 e=>up c o c1 (k5 c o c1 c2 c3 c4 e)
theorem zipK_end{b1 b2:Bool}{z ti to i1 i2 l1 l2:Addr}{k:Nat}{xs ys:Array Value}{a b:Value}{Q:Fin->Shared->Prop}(hh:A.handled=none)(D:ZA z ti to i1 i2)(o1:Off z to i1 i2 l1)(o2:Off z to i1 i2 l2)
  (hz:IsZip s.heap z ti to .none) (hTI:IsPair s.heap ti (.ref i1) (.ref i2)) (hTO:IsPair s.heap to a b) (h1:ItK b1 s.heap i1 l1 k) (h2:ItK b2 s.heap i2 l2 k) (hl1:SeqK b1 s.heap l1 xs) (hl2:SeqK b2 s.heap l2 ys) (he:xs[k]?=none\/ys[k]?=none)
  (q:∀ g e,(∀ c o,c≠z->c≠to->c≠i1->c≠i2->s.heap.get? c=some o->g.get? c=some o)->(∃ o,g.get? e=some o/\o.cls = .type "StopIteration")->E (.ref e) { s with heap:=g }) :
  wpAny (model prog w) A (Builtin.«zip.__next__» ⟨[.ref z],[]⟩) Q E s:=by
 show wpAny _ _ (field (.ref z) 2 >>= _) _ _ _;refine zA (wpAny_field hz rfl (x:=.bool false) rfl ?_)
 show wpAny _ _ (field (.ref z) 3 >>= _) _ _ _;refine zA (wpAny_field hz rfl (x:=.ref ti) rfl (zA (wpAny_seqItems hTI rfl ?_)))
 show wpAny _ _ (Builtin.SmallTypes.ownedTupleIsFree (.ref z) >>= _) _ _ _;refine zA ?_
 unfold Builtin.SmallTypes.ownedTupleIsFree;refine zA (wpAny_field hz rfl (x:=.none) rfl (zE ?_))
 simp only[if_true];refine zA (wpAny_rule (zA (wpAny_field hz rfl (x:=.ref to) rfl (zA (wpAny_setField_rec hz (by simp) fun g1 z1 e1=>?_)))))
 replace z1:IsZip g1 z ti to .ellipsis:=z1
 refine zA ?_;simp only[List.zipIdx_cons,List.zipIdx_nil,List.forIn_cons,List.forIn_nil]
 refine zA (zA (wpAny_onRaise ?_));show wpAny _ _ (Builtin.SmallTypes.nextOf (.ref i1) >>= _) _ _ _
 cases hx:xs[k]? with
 |none =>
  refine zA (nextK_end hh (h1.to fun o e=>e1.extBut _ _ D.a3 e) (hl1.to fun o e=>e1.extBut _ _ o1.1 e) hx fun g2 e e2 he=>?_)
  obtain⟨oe,hoe,hce⟩:=he
  have z2:IsZip g2 z ti to .ellipsis:=e2 _ _ (Ne.symm D.a3) z1
  have ez:e≠z:=fun x=>by subst x;rw[z2]at hoe;cases hoe;simp at hce
  refine wpAny_setField_rec z2 (by simp) fun g3 _ e3=>q g3 e (fun c o c1 _ c3 _ x=>e3.extBut _ _ c1 (e2 _ _ c3 (e1.extBut _ _ c1 x))) ⟨oe,e3.extBut _ _ ez hoe,hce⟩
 |some x =>
  have hy:ys[k]?=none:=by
   rcases he with h | h
   ·rw[hx]at h;cases h
   ·exact h
  refine zA (nextK_item (h1.to fun o e=>e1.extBut _ _ D.a3 e) (hl1.to fun o e=>e1.extBut _ _ o1.1 e) hx fun g2 n2 e2=>zE ?_)
  have t2:IsPair g2 to a b:=e2.extBut _ _ D.a8 (e1.extBut _ _ D.a2 hTO)
  refine zA (wpAny_seqItems t2 rfl (zA (wpAny_updateSeq_pair t2 fun g3 t3 e3=>zA (wpAny_letGo (zE (zA (zA (wpAny_onRaise ?_))))))))
  show wpAny _ _ (Builtin.SmallTypes.nextOf (.ref i2) >>= _) _ _ _
  refine zA (nextK_end hh (((h2.to fun o e=>e1.extBut _ _ D.a4 e).to fun o e=>e2.extBut _ _ (Ne.symm D.a10) e).to fun o e=>e3.extBut _ _ (Ne.symm D.a9) e) (((hl2.to fun o e=>e1.extBut _ _ o2.1 e).to fun o e=>e2.extBut _ _ o2.2.2.1 e).to fun o e=>e3.extBut _ _ o2.2.1 e) hy fun g4 e e4 he=>?_)
  obtain⟨oe,hoe,hce⟩:=he
  have z4:IsZip g4 z ti to .ellipsis:=e4 _ _ (Ne.symm D.a4) (e3.extBut _ _ (Ne.symm D.a2) (e2.extBut _ _ (Ne.symm D.a3) z1))
  have ez:e≠z:=fun x=>by subst x;rw[z4]at hoe;cases hoe;simp at hce
  refine wpAny_setField_rec z4 (by simp) fun g5 _ e5=>q g5 e (fun c o c1 c2 c3 c4 x=>e5.extBut _ _ c1 (e4 _ _ c4 (e3.extBut _ _ c2 (e2.extBut _ _ c3 (e1.extBut _ _ c1 x))))) ⟨oe,e5.extBut _ _ ez hoe,hce⟩
theorem pyIterK{b:Bool}{l:Addr}{xs:Array Value}{Q:Value->Shared->Prop}(h:SeqK b s.heap l xs)(q:Q (.ref s.heap.objs.size) { s with heap:=s.heap.push (itO b l) }):wpAny (model prog w) A (pyIter (.ref l)) Q E s:=by
 cases b
 ·exact wpAny_pyIter_list h q
 ·exact wpAny_pyIter_tuple h q
theorem ItK.new{b:Bool}{l:Addr}(g:Heap):ItK b (g.push (itO b l)) g.objs.size l 0:=by
 cases b
 ·exact(show Heap.IsListIter _ _ _ _ from⟨_,zU _ rfl,rfl,rfl⟩)
 ·exact(show Heap.IsTupleIter _ _ _ _ from⟨_,zU _ rfl,rfl,rfl⟩)
noncomputable abbrev zK2(g:Heap)(b1 b2:Bool)(l1 l2:Addr):Heap:=(g.push (itO b1 l1)).push (itO b2 l2)
noncomputable abbrev zK3(g:Heap)(b1 b2:Bool)(l1 l2:Addr):Heap:=(zK2 g b1 b2 l1 l2).push { cls:=.type "tuple",data:=.seq #[.ref g.objs.size,.ref (g.push (itO b1 l1)).objs.size] }
noncomputable abbrev zK4(g:Heap)(b1 b2:Bool)(l1 l2:Addr):Heap:=(zK3 g b1 b2 l1 l2).push { cls:=.type "tuple",data:=.seq #[.none,.none] }
noncomputable abbrev zK5(g:Heap)(b1 b2:Bool)(l1 l2:Addr):Heap:=(zK4 g b1 b2 l1 l2).push { cls:=.type "zip",data:=.fields #[.none,.bool false,.bool false,.ref (zK2 g b1 b2 l1 l2).objs.size,.ref (zK3 g b1 b2 l1 l2).objs.size] }
theorem zipK_new(b1 b2:Bool)(l1 l2:Addr)(xs ys:Array Value):Meets (Builtin.«zip.__new__» ⟨[.type "zip",.ref l1,.ref l2],[]⟩) (fun _ R s=>SeqK b1 s.heap l1 xs/\SeqK b2 s.heap l2 ys/\R (.ok (.ret (.ref (zK4 s.heap b1 b2 l1 l2).objs.size))) { s with heap:=zK5 s.heap b1 b2 l1 l2 }) :=
 .of_wp fun prog w A R s h=>by
  obtain⟨hp,g,d,tk,os⟩:=s
  obtain⟨hl1,hl2,h⟩:=h
  have hsub:=sub_zip
  have hL1:SeqK b1 (Shared.heap ⟨hp,g,d,tk,os⟩) l1 xs:=hl1
  have hL2:SeqK b2 (Shared.heap ⟨hp.push (itO b1 l1),g,d,tk,os⟩) l2 ys:=hl2.to fun o e=>zD _ e
  wp_walk using pyIterK hL1,pyIterK hL2
  exact⟨_,rfl,h⟩
end
end Srt
namespace L2
open PySem PySem.W PyProof.Rows Srt
noncomputable def SqB(b:Bool)(K:PySem.W.Frag)(H:Hp)(l:Addr)(xs:List V):Prop:=match b with
 |true=>SqT K H l xs
 |false=>SqL K H l xs
section
variable{X:Cx}{pins:List (Addr×Obj)}{σ:St}{H:Hp}{s:Shared}{h':Heap}
theorem Inv.seqB(I:Inv X pins σ H s){b:Bool}{l:Addr}{xs:List V}(h:SqB b X.K H l xs):∃ its:List Value,Vals xs its/\SeqK b s.heap l its.toArray/\xs.length<=sizeLine:=by
 cases b
 ·obtain⟨its,r,p,z⟩:=I.list h
  exact⟨its,r,p.isList,z⟩
 ·obtain⟨its,r,p,z⟩:=I.tuple h
  exact⟨its,r,p,z⟩
theorem Inv.seqB_inj(I:Inv X pins σ H s){b:Bool}{l:Addr}{xs ys:List V}(h:SqB b X.K H l xs)(h':SqB b X.K H l ys):xs=ys:=by
 cases b
 ·exact I.list_inj h h'
 ·exact I.tuple_inj h h'
theorem Inv.offB(I:Inv X pins σ H s){b:Bool}{l c:Addr}{xs:List V}(h:SqB b X.K H l xs)(f:FpOk X pins H c):l≠c:=by
 intro e
 subst e
 obtain⟨f0,_,_,f3,_,_⟩:=f
 have base:∀ o,X.K.lookup l=some o->False:=fun o hk=>by
  have eb:=I.ok.mod.kin l o hk
  rcases f3 with f3 | f3
  ·exact I.ok.noex l o eb f3
  ·exact absurd (zG (zK eb) (zC I.ok.bsz f3)) (zBH _)
 cases b
 ·rcases(show SqL X.K H l xs from h)with(z |⟨o,z⟩) |⟨o,_,_,hk,_⟩
  ·rw[f0]at z;cases z
  ·rw[f0]at z;cases z
  ·exact base o hk
 ·rcases(show SqT X.K H l xs from h)with(z |⟨o,z⟩) |⟨o,_,_,hk,_⟩
  ·rw[f0]at z;cases z
  ·rw[f0]at z;cases z
  ·exact base o hk
theorem Inv.turnedL{t':Nat}{ch:List Addr}(I:Inv X pins σ H s)(hf:∀ b∈ch,FpOk X pins H b)(k:∀ b o,b∉ch->s.heap.get? b=some o->h'.get? b=some o):Inv X pins σ H { s with heap:=h',toks:=t' }:=by
 have nit:∀ b u,H b=some u->b∉ch:=fun b u e z=>by rw[(hf b z).1]at e;cases e
 have loc:X.env.locals∉ch:=fun z=>(hf _ z).2.1 rfl
 refine I.step (g':=s.gens) (d':=s.drawn) (ch:=ch) (fun b hb=>?_) (fun b o _ _ hc e _=>k b o hc e) (fun b o _ _ hc e _=>⟨o.slots,k b o hc e⟩) (fun _ _ _ _ n=>n) (fun b o hc e=>⟨o,k b o hc e⟩) (fun _ _ e=>e) (fun _ _ _ e=>e) (fun b ps e=>⟨#[],by rw[e];simp⟩) (fun m hm=>?_) (fun b u e=>?_) I.bare
 ·obtain⟨_,f1,_,f3,f4,f5⟩:=hf b hb
  exact⟨f3,f1,f4,f5⟩
 ·obtain⟨o,es,ep,ho,r⟩:=hm
  exact⟨o,es,ep,k _ o loc ho,r⟩
 ·refine(I.hok b u e).stay (fun c v hc q=>k c v ?_ q) (fun _ q=>q) fun _ _ q=>q
  rcases hc with z | z
  ·rw[z];exact nit b u e
  ·exact nit c _ z
theorem Inv.turnedN{t':Nat}{ch:List Addr}{a:Addr}{ob:HO}(I:Inv X pins σ H s)(hf:∀ b∈ch,FpOk X pins H b)(k:∀ b o,b∉ch->s.heap.get? b=some o->h'.get? b=some o)(ha:s.heap.objs.size<=a)(new:ObjOk X.prog X.w (upd H a ob) h' a ob) :
  Inv X pins σ (upd H a ob) { s with heap:=h',toks:=t' }:=by
 have hn:H a=none:=I.hok.fresh ha
 have nit:∀ b u,H b=some u->b∉ch:=fun b u e z=>by rw[(hf b z).1]at e;cases e
 have loc:X.env.locals∉ch:=fun z=>(hf _ z).2.1 rfl
 have old:∀ b o,s.heap.get? b=some o->b≠a:=fun b o e=>zAC (zG (zK e) ha)
 refine I.step (g':=s.gens) (d':=s.drawn) (ch:=ch) (fun b hb=>?_) (fun b o _ _ hc e _=>k b o hc e) (fun b o _ _ hc e _=>⟨o.slots,k b o hc e⟩) (fun b o _ e n=>by rw[upd_ne (old b o e)];exact n) (fun b o hc e=>⟨o,k b o hc e⟩)
  (fun b xs e=>by rw[upd_ne (ne_of_none e hn)];exact e) (fun b o u e=>by rw[upd_ne (ne_of_none e hn)];exact e) (fun b ps e=>⟨#[],by rw[upd_ne (ne_of_none e hn),e];simp⟩) (fun m hm=>?_) (fun b u e=>?_) I.bare
 ·obtain⟨_,f1,_,f3,f4,f5⟩:=hf b hb
  exact⟨f3,f1,f4,f5⟩
 ·obtain⟨o,es,ep,ho,r⟩:=hm
  exact⟨o,es,ep,k _ o loc ho,r⟩
 ·by_cases hb:b=a
  ·subst hb
   rw[upd_same]at e
   cases e
   exact new
  ·rw[upd_ne hb]at e
   refine(I.hok b u e).stay (fun c v hc q=>k c v ?_ q) (fun c q=>by rw[upd_ne (ne_of_none q hn)];exact q) fun c xs q=>by rw[upd_ne (ne_of_none q hn)];exact q
   rcases hc with z | z
   ·rw[z];exact nit b u e
   ·exact nit c _ z
end
noncomputable def Itz(K:PySem.W.Frag)(b1 b2:Bool)(l1 l2:Addr):It :=
  ⟨fun i H=>∃ xs ys x y,SqB b1 K H l1 xs/\SqB b2 K H l2 ys/\xs[i]?=some x/\ys[i]?=some y,
   fun i H v H'=>∃ T x y,v = .ref T/\H T=none/\H'=upd H T (.tup [x,y])/\(∀ xs,SqB b1 K H l1 xs->xs[i]?=some x)/\∀ ys,SqB b2 K H l2 ys->ys[i]?=some y,
   fun i H=>∃ xs ys,SqB b1 K H l1 xs/\SqB b2 K H l2 ys/\(xs.length<=i\/ys.length<=i)⟩
theorem turn_zip{P:Program}{w:World}{K:PySem.W.Frag}{es:List Expr}{kk:Nat}{pos:Pos}(b1 b2:Bool)(z ti to i1 i2 l1 l2:Addr)(D:ZA z ti to i1 i2):Turn P w K (.Tuple es kk pos) (Itz K b1 b2 l1 l2) [z,ti,to,i1,i2] z
  (fun i h=>IsZip h z ti to .none/\IsPair h ti (.ref i1) (.ref i2)/\(∃ a b,IsPair h to a b)/\ItK b1 h i1 l1 i/\ItK b2 h i2 l2 i)where
 mem:=by simp
 obj:=fun i h st b hb=>by
  obtain⟨hz,hti,⟨a,c,hto⟩,h1,h2⟩:=st
  simp only[zW,zAT,or_false]at hb
  rcases hb with e | e | e | e | e
  ·rw[e];exact⟨_,hz,fun v z=>by cases z⟩
  ·rw[e];exact⟨_,hti,fun v z=>by cases z⟩
  ·rw[e];exact⟨_,hto,fun v z=>by cases z⟩
  ·rw[e];exact h1.lt
  ·rw[e];exact h2.lt
 keep:=fun i h h' st k=>by
  obtain⟨hz,hti,⟨a,c,hto⟩,h1,h2⟩:=st
  exact⟨k z (by simp) _ hz,k ti (by simp) _ hti,⟨a,c,k to (by simp) _ hto⟩,h1.to fun o e=>k i1 (by simp) o e,h2.to fun o e=>k i2 (by simp) o e⟩
 item:=by
  intro X hP hw hK hc i pins s σ H E I hf st hg
  subst hP hw hK
  obtain⟨hz,hti,⟨a,c,hto⟩,h1,h2⟩:=st
  obtain⟨xs,ys,x,y,q1,q2,hx,hy⟩:=hg
  obtain⟨us,r1,p1,_⟩:=I.seqB q1
  obtain⟨ws,r2,p2,_⟩:=I.seqB q2
  obtain⟨u,hu,ru⟩:=r1.get hx
  obtain⟨v,hv,rv⟩:=r2.get hy
  have off1:Off z to i1 i2 l1:=⟨I.offB q1 (hf z (by simp)),I.offB q1 (hf to (by simp)),I.offB q1 (hf i1 (by simp)),I.offB q1 (hf i2 (by simp))⟩
  have off2:Off z to i1 i2 l2:=⟨I.offB q2 (hf z (by simp)),I.offB q2 (hf to (by simp)),I.offB q2 (hf i1 (by simp)),I.offB q2 (hf i2 (by simp))⟩
  have hT:s.TypeIs (.ref z) "zip":=⟨_,hz,rfl⟩
  have hn:H s.heap.objs.size=none:=I.hok.fresh (zH _)
  unfold pyNext
  refine zA (wpAny_attempt (wpAny_callSpecial?_slot (name:=Str.ofString "__next__") hT F.slot_zip_next (wpAny_call_entry F.slot_zip_next hT F.entry_zip_next
   (zipK_item D off1 off2 hz hti hto h1 h2 p1 p2 (x:=u) (y:=v) (by simpa using hu) (by simpa using hv) fun g z1 t1 n1 n2 pp kp=>zE ⟨_,rfl,?_⟩) (F.args_zip_next_1 _))))
  refine wpAny_letOwnedTupleGo_zip z1 fun g' z2 sb=>?_
  have zlt:z≠s.heap.objs.size:=zAC (zK hz)
  have kp2:∀ b o,b∉[z,ti,to,i1,i2]->s.heap.get? b=some o->g'.get? b=some o:=fun b o nb e=>by
   simp only[zW,zAT,or_false,not_or]at nb
   exact sb.extBut _ _ nb.1 (kp b o nb.1 nb.2.2.1 nb.2.2.2.1 nb.2.2.2.2 e)
  have I2:Inv X pins σ (upd H s.heap.objs.size (.tup [x,y])) { s with heap:=g' }:=I.turnedN (t':=s.toks) (ch:=[z,ti,to,i1,i2]) (a:=s.heap.objs.size) (ob:=.tup [x,y]) hf kp2 (zH _) (show ObjOk X.prog X.w _ g' _ (.tup [x,y])from⟨by show 2<=sizeLine;decide,[u,v],.cons ru (.cons rv .nil),⟨_,sb.extBut _ _ (Ne.symm zlt) pp,rfl,0,rfl⟩⟩)
  refine⟨.ref s.heap.objs.size,_,I2,rfl,⟨_,x,y,rfl,hn,rfl,fun xs' h=>by rw[I.seqB_inj h q1];exact hx,fun ys' h=>by rw[I.seqB_inj h q2];exact hy⟩,⟨z2,sb.extBut _ _ D.a1 (kp _ _ D.a1 D.a5 D.a6 D.a7 hti),⟨_,_,sb.extBut _ _ D.a2 t1⟩,n1.to fun o e=>sb.extBut _ _ D.a3 e,n2.to fun o e=>sb.extBut _ _ D.a4 e⟩,fun b hb=>?_⟩
  have bo:∃ o,s.heap.get? b=some o:=by
   simp only[zW,zAT,or_false]at hb
   rcases hb with e | e | e | e | e
   ·rw[e];exact⟨_,hz⟩
   ·rw[e];exact⟨_,hti⟩
   ·rw[e];exact⟨_,hto⟩
   ·rw[e];obtain⟨o,e,_⟩:=h1.lt;exact⟨o,e⟩
   ·rw[e];obtain⟨o,e,_⟩:=h2.lt;exact⟨o,e⟩
  obtain⟨o,e⟩:=bo
  rw[upd_ne (zAC (zK e))]
  exact(hf b hb).1
 done:=by
  intro X hP hw hK hc i pins s σ H E I hf st hg
  subst hP hw hK
  obtain⟨hz,hti,⟨a,c,hto⟩,h1,h2⟩:=st
  obtain⟨xs,ys,q1,q2,he⟩:=hg
  obtain⟨us,r1,p1,_⟩:=I.seqB q1
  obtain⟨ws,r2,p2,_⟩:=I.seqB q2
  have e1:=r1.length
  have e2:=r2.length
  have off1:Off z to i1 i2 l1:=⟨I.offB q1 (hf z (by simp)),I.offB q1 (hf to (by simp)),I.offB q1 (hf i1 (by simp)),I.offB q1 (hf i2 (by simp))⟩
  have off2:Off z to i1 i2 l2:=⟨I.offB q2 (hf z (by simp)),I.offB q2 (hf to (by simp)),I.offB q2 (hf i1 (by simp)),I.offB q2 (hf i2 (by simp))⟩
  have hT:s.TypeIs (.ref z) "zip":=⟨_,hz,rfl⟩
  unfold pyNext
  refine zA (wpAny_attempt (wpAny_callSpecial?_slot (name:=Str.ofString "__next__") hT F.slot_zip_next (wpAny_call_entry F.slot_zip_next hT F.entry_zip_next (zipK_end (I.ok.hd hc) D off1 off2 hz hti hto h1 h2 p1 p2 ?_ fun g e kp he=>?_) (F.args_zip_next_1 _))))
  ·rcases he with h | h
   ·exact .inl (by simp;exact zh9 h (Eq.symm e1))
   ·exact .inr (by simp;exact zh9 h (Eq.symm e2))
  ·obtain⟨o,ho,hcl⟩:=he
   refine zA (wpAny_isInstance (T:="StopIteration") (b:=true) ⟨o,ho,hcl⟩ isSubtype_stop (zE ⟨rfl,?_⟩))
   refine I.turnedL (t':=s.toks) (ch:=[z,ti,to,i1,i2]) hf fun b o nb e=>?_
   simp only[zW,zAT,or_false,not_or]at nb
   exact kp b o nb.1 nb.2.2.1 nb.2.2.2.1 nb.2.2.2.2 e
 self:=fun _ _ _ _ _ st h=>wpAny_pyIter_zip st.1 h
theorem za_new(n:Addr):ZA (n+4) (n+2) (n+3) n (n+1)where
 a1:=zAC (zAL (by decide) n)
 a2:=zAC (zAL (by decide) n)
 a3:=zAC (zCY (by decide))
 a4:=zAC (zAL (by decide) n)
 a5:=zAC (zAL (by decide) n)
 a6:=zCA (zCY (by decide))
 a7:=zCA (zAL (by decide) n)
 a8:=zCA (zCY (by decide))
 a9:=zCA (zAL (by decide) n)
 a10:=zAC (zCY (by decide))
noncomputable def iZip(b1 b2:Bool)(K:PySem.W.Frag)(ta:TA):TI:=fun σ H R=>ta σ H fun vs H1=>∃ l1 l2,vs=[.ref l1,.ref l2]/\(∃ xs,SqB b1 K H1 l1 xs)/\(∃ ys,SqB b2 K H1 l2 ys)/\R (Itz K b1 b2 l1 l2) H1
theorem pi_zip{X:Cx}{es:List Expr}{kk:Nat}{tpos:Pos}(b1 b2:Bool){a b:Expr}{ta:TA}{p pos:Pos}(hg:Gl X "zip")(hm:X.mg "zip" = none)(ha:PA X [a,b] ta)(hs:starEach [a,b] X.env=[(false,eval a X.env),(false,eval b X.env)]:=by rfl)(hs2:starEach [b] X.env=[(false,eval b X.env)]:=by rfl) :
  PI X (.Tuple es kk tpos) (.Call (.Name "zip" p) [a,b] [] pos) (iZip b1 b2 X.K ta):=by
 intro pins s σ H R I h
 refine Call_ (ld_blt I hg hm boot_zip (PyProof.Rows.callWith_type1 (thn (ha pos pins s σ H _ I h) fun us s1 ⟨vs,H1,I1,r1,q1⟩=>?_) (by rw[hs,hs2]) (by rw[hs2];rfl)))
 obtain⟨l1,l2,e,⟨xs,q1⟩,⟨ys,q2⟩,q⟩:=q1
 subst e
 obtain⟨u,u',rfl,rx,ry⟩:=vals2 r1
 cases rx
 cases ry
 obtain⟨us,_,p1,_⟩:=I1.seqB q1
 obtain⟨ws,_,p2,_⟩:=I1.seqB q2
 have z1:(s1.heap.push (itO b1 l1)).objs.size=s1.heap.objs.size+1:=Heap.size_push ..
 have z2:(zK2 s1.heap b1 b2 l1 l2).objs.size=s1.heap.objs.size+2:=by rw[Heap.size_push,z1]
 have z3:(zK3 s1.heap b1 b2 l1 l2).objs.size=s1.heap.objs.size+3:=by rw[Heap.size_push,z2]
 have z4:(zK4 s1.heap b1 b2 l1 l2).objs.size=s1.heap.objs.size+4:=by rw[Heap.size_push,z3]
 have g5:(zK5 s1.heap b1 b2 l1 l2).get? (zK4 s1.heap b1 b2 l1 l2).objs.size=some _:=zU _ rfl
 have g4:(zK5 s1.heap b1 b2 l1 l2).get? (zK3 s1.heap b1 b2 l1 l2).objs.size=some _:=zD _ (zU _ rfl)
 have g3:(zK5 s1.heap b1 b2 l1 l2).get? (zK2 s1.heap b1 b2 l1 l2).objs.size=some _:=zD _ (zD _ (zU _ rfl))
 have g2:ItK b2 (zK5 s1.heap b1 b2 l1 l2) (s1.heap.push (itO b1 l1)).objs.size l2 0:=(ItK.new (b:=b2) (l:=l2) (s1.heap.push (itO b1 l1))).to fun o e=>zD _ (zD _ (zD _ e))
 have g1:ItK b1 (zK5 s1.heap b1 b2 l1 l2) s1.heap.objs.size l1 0:=(ItK.new (b:=b1) (l:=l1) s1.heap).to fun o e=>zD _ (zD _ (zD _ (zD _ e)))
 rw[z2,z3,z4]at g5
 rw[z1,z2]at g3
 rw[z3]at g4
 rw[z1]at g2
 refine callType_new F.called_zip (by decide) (F.typeCall_zip_2 _ _) (F.newCall_zip_2 _ _) (fun obj=>F.args_object_init_3 obj _ _) F.entry_zip_new (zipK_new b1 b2 l1 l2 us.toArray ws.toArray) ⟨p1,p2,?_⟩
 show _/\_
 rw[z4]
 have kp:∀ c o,s1.heap.get? c=some o->(zK5 s1.heap b1 b2 l1 l2).get? c=some o:=fun c o x=>zD _ (zD _ (zD _ (zD _ (zD _ x))))
 refine⟨⟨_,g5,rfl⟩,wpAny_pyIter_zip g5 ⟨s1.heap.objs.size+4,_,_,_,H1,rfl,I1.kept (t':=s1.toks) kp,turn_zip b1 b2 _ (s1.heap.objs.size+2) (s1.heap.objs.size+3) s1.heap.objs.size (s1.heap.objs.size+1) l1 l2 (za_new _),⟨g5,g3,⟨_,_,g4⟩,g1,g2⟩,fun b hb=>?_,q⟩⟩
 have le:s1.heap.objs.size<=b:=by
  simp only[zW,zAT,or_false]at hb
  rcases hb with e | e | e | e | e
  ·rw[e];exact zI _ 4
  ·rw[e];exact zI _ 2
  ·rw[e];exact zI _ 3
  ·rw[e];exact zH _
  ·rw[e];exact zI _ 1
 exact I1.fpOk le (I1.hok.fresh le)
open PySem PySem.W PyProof.Rows Srt
open PySem PySem.W PyProof.Rows Srt
section
variable{X:Cx}
theorem bools_at:∀ {bs:List Bool}{us:List Value},Vals (bs.map V.bl) us->∀ (i:Nat) (v:Value),us[i]?=some v->∃ b,bs[i]?=some b/\v = .bool b
 |[],_,.nil,i,v,h=>by simp at h
 |b :: bs,_,.cons r t,0,v,h=>by
  simp at h
  subst h
  exact⟨b,rfl,r⟩
 |b :: bs,_,.cons r t,i+1,v,h=>by
  obtain⟨c,e,q⟩:=bools_at t i v (by simpa using h)
  exact⟨c,by simpa using e,q⟩
theorem call_all(hc:X.calm=true):CallR X (.builtin "all") (fun xs H Q=>∃ (l:Addr) (bs:List Bool),xs=[V.ref l]/\SqL X.K H l (bs.map V.bl)/\Q (.bl (bs.all id)) H):=by
 intro pins s σ H xs us Q I r h
 obtain⟨l,bs,rfl,hq,q⟩:=h
 obtain⟨u,rfl,rx⟩:=vals1 r
 cases rx
 obtain⟨its,r',pl,hz⟩:=I.list hq
 have len:its.length=bs.length:=by rw[<- r'.length,zB]
 have hl:=pl.isList
 have hlt:l<s.heap.objs.size:=by obtain⟨_,e,_⟩:=hl;exact zK e
 refine call_all_walk (wpAny_pyIter_list hl ⟨s.heap.objs.size,[s.heap.objs.size,l],[s.heap.objs.size],its.toArray.size,_,_,fun i=>(bs[i]?).getD true,rfl,Walks.list (A:=X.A.in1) (show X.A.handled=none from I.ok.hd hc) _ l (zAC hlt) its.toArray,⟨⟨_,zU _ rfl,rfl,rfl⟩,hl.push _⟩,fun i v s' Q' E' hP hQ=>?_,fun h' tk hk=>?_⟩)
 ·obtain⟨b,e,rfl⟩:=bools_at r' i v (by simpa using hP)
  simp only[e,Option.getD_some]at hQ
  exact wpAny_truthy_bool hQ
 ·have e:((List.range its.toArray.size).all fun i=>(bs[i]?).getD true)=bs.all id:=by rw[zQ,len];exact LSm.range_all bs
  rw[e]
  exact⟨.bl _,H,I.kept (t':=tk) (LSm.kept_iter hk),rfl,q⟩
variable{a b c d:Expr}{ta tb tc td:TE}{pos:Pos}
noncomputable def tChain3(r r' r'':R2)(ta tb tc td:TE):TE:=fun σ H Q=>ta σ H fun x H1=>tb σ H1 fun y H2=>r x y H2 fun z H3=>ExB z fun k =>
 (if k=true then tc σ H3 fun w' H4=>r' y w' H4 fun z' H5=>ExB z' fun k'=>(if k'=true then td σ H5 fun w'' H6=>r'' w' w'' H6 Q else Q (.bl false) H5)else Q (.bl false) H3)
theorem pe_chain3{op op' op'':CmpOp}{r r' r'':R2}(ho:OpR X (compareOp op) r)(ho':OpR X (compareOp op') r')(ho'':OpR X (compareOp op'') r'')(ha:PE X a ta)(hb:PE X b tb)(hc:PE X c tc)(hd:PE X d td)
  (hm:lastMarks [op,op',op''] [b,c,d]=false:=by with_unfolding_all rfl):PE X (.Compare a [op,op',op''] [b,c,d] pos) (tChain3 r r' r'' ta tb tc td):=by
 intro pins s σ H Q I h
 refine Compare_chain (thn (ha pins s σ H _ I h) fun v s1 ⟨x,H1,I1,r1,q1⟩=>chain_link (thn (hb pins s1 σ H1 _ I1 q1) fun u s2 ⟨y,H2,I2,r2,q2⟩=>thn (ho pins s2 σ H2 x y v u _ I2 r1 r2 q2) fun d' s3 ⟨z,H3,I3,r3,k,e,q3⟩=>?_)) hm
 subst e
 cases r3
 refine wpAny_truthy_bool ?_
 cases k with
 |false=>exact ite_ff ⟨.bl false,H3,I3,rfl,q3⟩
 |true =>
  refine ite_tt (chain_link (thn (hc pins s3 σ H3 _ I3 q3) fun w' s4 ⟨z',H4,I4,r4,q4⟩=>thn (ho' pins s4 σ H4 y z' u w' _ I4 r2 r4 q4) fun d'' s5 ⟨z2,H5,I5,r5,k2,e2,q5⟩=>?_))
  subst e2
  cases r5
  refine wpAny_truthy_bool ?_
  cases k2 with
  |false=>exact ite_ff ⟨.bl false,H5,I5,rfl,q5⟩
  |true=>exact ite_tt (chain_last (thn (hd pins s5 σ H5 _ I5 q5) fun w'' s6 ⟨z3,H6,I6,r6,q6⟩=>ho'' pins s6 σ H6 z' z3 w' w'' Q I6 r4 r6 q6))
end
open PySem PySem.W PyProof.Rows Srt
section
variable{X:Cx}
inductive TyF(H:Hp):V->Value->Prop where
 |non:TyF H .non (.type "NoneType")
 |bl (x:Bool):TyF H (.bl x) (.type "bool")
 |int (i:Int):TyF H (.int i) (.type "int")
 |str (x:Str):TyF H (.str x) (.type "str")
 |lst {a:Addr}{xs:List V} (e:H a=some (.lst xs)):TyF H (.ref a) (.type "list")
 |tup {a:Addr}{xs:List V} (e:H a=some (.tup xs)):TyF H (.ref a) (.type "tuple")
theorem TyF.of{K:PySem.W.Frag}{H:Hp}{x:V}{t:Value}(h:TyF H x t):TyOf K H x t:=by
 cases h with
 |non=>exact .non
 |bl x=>exact .bl x
 |int i=>exact .int i
 |str x=>exact .str x
 |lst e=>exact .lst e
 |tup e=>exact .tup e
theorem call_isinst2:CallR X (.builtin "isinstance") (fun xs H Q=>∃ x t p b,xs=[x,V.ref p]/\TyF H x t/\H p=some (.tup [.ty "list",.ty "tuple"])/\PySem.W.kitAny X.K t [.type "list",.type "tuple"]=some b/\Q (.bl b) H):=by
 intro pins s σ H xs us Q I r h
 obtain⟨x,t,p,b,rfl,ty,hp,e,q⟩:=h
 obtain⟨u,u',rfl,rx,rc⟩:=vals2 r
 cases rc
 obtain⟨z,its,rv,o,e0,c,n,d⟩:=I.hok p _ hp
 obtain⟨cls,dd,dat,sl⟩:=o
 cases c
 cases d
 cases rv with
 |cons r1 r2 =>
  cases r2 with
  |cons r2 r3 =>
   cases r3
   cases r1
   cases r2
   have fin:∀ tk,EP X pins σ Q (.bool b) { s with toks:=tk }:=fun tk=>⟨.bl b,H,I.tok _,rfl,q⟩
   cases ty with
   |non=>cases(show u=Value.none from rx);exact PySem.W.kia_tup PySem.W.kitx_none I.kIn True.intro e0 e (fun z=>nomatch z) fin
   |bl y=>cases(show u=Value.bool y from rx);exact PySem.W.kia_tup PySem.W.kitx_bool I.kIn True.intro e0 e (fun z=>nomatch z) fin
   |int i=>obtain⟨t,q⟩:=(show ∃ t,u=Value.int i t from rx);cases q;exact PySem.W.kia_tup PySem.W.kitx_int I.kIn True.intro e0 e (fun z=>nomatch z) fin
   |str y=>obtain⟨t,q⟩:=(show ∃ t,u=Value.str y t from rx);cases q;exact PySem.W.kia_tup PySem.W.kitx_str I.kIn True.intro e0 e (fun z=>nomatch z) fin
   | @lst a xs ea =>
    cases(show u=Value.ref a from rx)
    obtain⟨_,_,n,_,h1⟩:=(show ObjOk X.prog X.w H s.heap a (.lst xs)from I.hok a _ ea)
    exact PySem.W.kia_tup PySem.W.kitx_list I.kIn ⟨_,h1,rfl⟩ e0 e (fun z=>nomatch z) fin
   | @tup a xs ea =>
    cases(show u=Value.ref a from rx)
    obtain⟨_,_,_,pp⟩:=(show ObjOk X.prog X.w H s.heap a (.tup xs)from I.hok a _ ea)
    obtain⟨o,h1,h2,_⟩:=pp
    exact PySem.W.kia_tup PySem.W.kitx_tuple I.kIn ⟨o,h1,h2⟩ e0 e (fun z=>nomatch z) fin
end
inductive Dt where
 |non | bl (b:Bool) | int (i:Int) | str (x:Str) | lst (ds:List Dt) | tup (ds:List Dt)
noncomputable def Dat(H:Hp):Nat->V->Dt->Prop
 | _,v,.non=>v = .non
 | _,v,.bl b=>v = .bl b
 | _,v,.int i=>v = .int i
 | _,v,.str x=>v = .str x
 | 0,_,.lst _=>False
 | 0,_,.tup _=>False
 |n+1,v,.lst ds=>∃ a xs,v = .ref a/\xs.length<=1000/\H a=some (.lst xs)/\Paired (Dat H n) xs ds
 |n+1,v,.tup ds=>∃ a xs,v = .ref a/\xs.length<=1000/\H a=some (.tup xs)/\Paired (Dat H n) xs ds
theorem Dat.same{H H':Hp}(s:Same H H'):∀ {n:Nat}{v:V}{d:Dt},Dat H n v d->Dat H' n v d
 | 0,v,.non,h=>h
 | 0,v,.bl _,h=>h
 | 0,v,.int _,h=>h
 | 0,v,.str _,h=>h
 |n+1,v,.non,h=>h
 |n+1,v,.bl _,h=>h
 |n+1,v,.int _,h=>h
 |n+1,v,.str _,h=>h
 |n+1,v,.lst ds,h=>by
  obtain⟨a,xs,e,l,ha,p⟩:=h
  exact⟨a,xs,e,l,s _ _ ha,Paired.mapP p fun x d z=>Dat.same s (n:=n) z⟩
 |n+1,v,.tup ds,h=>by
  obtain⟨a,xs,e,l,ha,p⟩:=h
  exact⟨a,xs,e,l,s _ _ ha,Paired.mapP p fun x d z=>Dat.same s (n:=n) z⟩
open PySem PyProof.Rows
section
variable{K:PySem.W.Frag}{a:Addr}{xs:List V}{g:TG}{tc:TT}{te:TE}{cap:List (Option Nat)}{σ:St}{H1:Hp}{Q:VK}
theorem comp_tup(P:Nat->List V->Hp->Prop)(hz:xs.length<=sizeLine)(p0:P 0 [] H1)(hl:∀ i ys H,i<=xs.length->P i ys H->SqT K H a xs)
  (hs:∀ i x ys H,xs[i]?=some x->P i ys H->g x (capt cap σ) H fun σ2 H2=>Kp (capt cap σ) σ2/\tc σ2 H2 fun b H3=>if b=true then te σ2 H3 fun y H4=>P (i+1) (ys++[y]) H4 else P (i+1) ys H3)
  (hd:∀ ys H,ys.length<=xs.length->P xs.length ys H->∀ D,H D=none->Q (.ref D) (upd H D (.lst ys))):compTurns (Itt K a) cap σ H1 Q g tc te:=by
 refine⟨xs.length,P,hz,p0,fun i ys H yl il p=>?_⟩
 have q:=hl i ys H il p
 by_cases hlt:i<xs.length
 ·refine .inr ⟨hlt,⟨xs,xs[i],q,by simp[hlt]⟩,fun x H' y=>?_⟩
  obtain⟨e,y⟩:=y
  subst e
  exact hs i x ys _ (y xs q) p
 ·have e:i=xs.length:=by exact zj7 il hlt
  subst e
  exact .inl ⟨⟨xs,q,zH _⟩,hd ys H yl p⟩
theorem comp_list(P:Nat->List V->Hp->Prop)(hz:xs.length<=sizeLine)(p0:P 0 [] H1)(hl:∀ i ys H,i<=xs.length->P i ys H->SqL K H a xs)
  (hs:∀ i x ys H,xs[i]?=some x->P i ys H->g x (capt cap σ) H fun σ2 H2=>Kp (capt cap σ) σ2/\tc σ2 H2 fun b H3=>if b=true then te σ2 H3 fun y H4=>P (i+1) (ys++[y]) H4 else P (i+1) ys H3)
  (hd:∀ ys H,ys.length<=xs.length->P xs.length ys H->∀ D,H D=none->Q (.ref D) (upd H D (.lst ys))):compTurns (Itl K a) cap σ H1 Q g tc te:=by
 refine⟨xs.length,P,hz,p0,fun i ys H yl il p=>?_⟩
 have q:=hl i ys H il p
 by_cases hlt:i<xs.length
 ·refine .inr ⟨hlt,⟨xs,xs[i],q,by simp[hlt]⟩,fun x H' y=>?_⟩
  obtain⟨e,y⟩:=y
  subst e
  exact hs i x ys _ (y xs q) p
 ·have e:i=xs.length:=by exact zj7 il hlt
  subst e
  exact .inl ⟨⟨xs,q,zH _⟩,hd ys H yl p⟩
theorem comp_range{lo:Int}{n:Nat}(P:Nat->List V->Hp->Prop)(hz:n<=sizeLine)(p0:P 0 [] H1)
  (hs:∀ i ys H,i<n->P i ys H->g (.int (lo+i)) (capt cap σ) H fun σ2 H2=>Kp (capt cap σ) σ2/\tc σ2 H2 fun b H3=>if b=true then te σ2 H3 fun y H4=>P (i+1) (ys++[y]) H4 else P (i+1) ys H3)
  (hd:∀ ys H,ys.length<=n->P n ys H->∀ D,H D=none->Q (.ref D) (upd H D (.lst ys))):compTurns (Itr lo n) cap σ H1 Q g tc te:=by
 refine⟨n,P,hz,p0,fun i ys H yl il p=>?_⟩
 by_cases hlt:i<n
 ·refine .inr ⟨hlt,hlt,fun x H' y=>?_⟩
  obtain⟨e,y⟩:=y
  subst e y
  exact hs i ys _ hlt p
 ·have e:i=n:=by exact zj7 il hlt
  subst e
  exact .inl ⟨zH _,hd ys H yl p⟩
end
noncomputable def capB(cap:List (Option Nat))(N' N:List Str)(names:List (Str×NameKind)):Bool:=(List.range cap.length).all fun j=>match cap[j]? with
 |some (some i)=>(match N'[j]? with
  |some x=>decide (N[i]?=some x/\names.lookup x=some .free)
  |none=>false)
 | _=>true
theorem capB_ok{cap:List (Option Nat)}{N' N:List Str}{names:List (Str×NameKind)}(h:capB cap N' N names=true):∀ j∈List.range cap.length,match cap[j]? with
  |some (some i)=>match N'[j]? with
   |some x=>N[i]?=some x/\names.lookup x=some .free
   |none=>False
  | _=>True:=by
 intro j hj
 have z:=List.all_eq_true.mp h j hj
 revert z
 cases e1:cap[j]? with
 |none=>intro _;trivial
 |some o =>
  cases o with
  |none=>intro _;trivial
  |some i =>
   cases e2:N'[j]? with
   |none =>
    intro z
    dsimp only at z
    exact absurd z zJ
   |some x =>
    intro z
    dsimp only at z
    exact of_decide_eq_true z
theorem op_catTK{X:Cx}(K:PySem.W.Frag)(e:X.K=K):OpR X (binaryOp .Add) (rCatT K):=e▸op_catT
theorem pg_tupK{X:Cx}{pos:Pos}(K:PySem.W.Frag)(e:X.K=K){es:List Expr}{k:Nat}{t:TGs}{n:Nat}(hc:X.calm=true)(h:PGs X es t)
  (hn:(assignEach es X.env).length=n) (hst:(assignEach es X.env).findIdx? (·.1)=none):PG X (.Tuple es k pos) (gTup K n t):=e▸pg_tup hc h hn hst
theorem Paired.at{α β:Type}{F:α->β->Prop}:∀ {l₁:List α}{l₂:List β},Paired F l₁ l₂->∀ (i:Nat) (h1:i<l₁.length) (h2:i<l₂.length),F l₁[i] l₂[i]:=by
 intro l ks h
 induction h with
 |nil=>intro i h1;exact absurd h1 (Nat.not_lt_zero _)
 |cons h t ih =>
  intro i h1 h2
  cases i with
  |zero=>exact h
  |succ i=>exact ih i (zBM h1) (zBM h2)
theorem Same.tupq{K:PySem.W.Frag}{H H':Hp}{a:Addr}{xs:List V}(e:Same H H')(h:SqT K H a xs):SqT K H' a xs:=by
 rcases h with(h |⟨o,h⟩) | h
 ·exact .inl (.inl (e _ _ h))
 ·exact .inl (.inr ⟨o,e _ _ h⟩)
 ·exact .inr h
theorem Same.new{q:Addr}{H:Hp}{o:HO}(h:H q=none):Same H (upd H q o):=fun b u e=>by rw[upd_ne (ne_of_none e h)];exact e
section
variable{K:PySem.W.Frag}{l1 l2:Addr}{xs ys:List V}{b1 b2:Bool}{g:TG}{tc:TT}{te:TE}{cap:List (Option Nat)}{σ:St}{H1:Hp}{Q:VK}
theorem comp_zip(P:Nat->List V->Hp->Prop)(hz:min xs.length ys.length<=sizeLine)(p0:P 0 [] H1)(hl:∀ i zs H,i<=min xs.length ys.length->P i zs H->SqB b1 K H l1 xs/\SqB b2 K H l2 ys)
  (hs:∀ i x y zs H T,xs[i]?=some x->ys[i]?=some y->P i zs H->H T=none->g (.ref T) (capt cap σ) (upd H T (.tup [x,y])) fun σ2 H2=>Kp (capt cap σ) σ2/\tc σ2 H2 fun b H3=>if b=true then te σ2 H3 fun y H4=>P (i+1) (zs++[y]) H4 else P (i+1) zs H3)
  (hd:∀ zs H,zs.length<=min xs.length ys.length->P (min xs.length ys.length) zs H->∀ D,H D=none->Q (.ref D) (upd H D (.lst zs))):compTurns (Itz K b1 b2 l1 l2) cap σ H1 Q g tc te:=by
 refine⟨min xs.length ys.length,P,hz,p0,fun i zs H yl il p=>?_⟩
 obtain⟨q1,q2⟩:=hl i zs H il p
 by_cases hlt:i<min xs.length ys.length
 ·have h1:i<xs.length:=by lia
  have h2:i<ys.length:=by omega
  refine .inr ⟨hlt,⟨xs,ys,xs[i],ys[i],q1,q2,by simp[h1],by simp[h2]⟩,fun v H' y=>?_⟩
  obtain⟨T,x,y,rfl,hT,rfl,f1,f2⟩:=y
  exact hs i x y zs _ T (f1 xs q1) (f2 ys q2) p hT
 ·have e:i=min xs.length ys.length:=by exact zj7 il hlt
  subst e
  exact .inl ⟨⟨xs,ys,q1,q2,by lia⟩,hd zs H yl p⟩
end
theorem cutV_tail(xs:List V):cutV xs (some 1) none=xs.drop 1:=by
 unfold cutV
 cases xs with
 |nil=>rfl
 |cons x xs =>
  have e1:HT.sIx (x :: xs).length 0 (some 1)=1:=by simp[HT.sIx]
  have e2:HT.sIx (x :: xs).length (x :: xs).length none=(x :: xs).length:=by simp[HT.sIx]
  rw[e1,e2]
  simp
open PySem PySem.W PyProof.Rows
noncomputable def tVq(i:Nat):TE:=fun σ H Q=>match σ[i]? with
 |some (some v)=>Q v H
 | _=>False
theorem tVar_of{i:Nat}{σ:St}{H:Hp}{Q:VK}(h:tVq i σ H Q):tVar i σ H Q:=by
 unfold tVq at h
 split at h
 ·exact⟨_,by assumption,h⟩
 ·exact h.elim
section
variable{X:Cx}
theorem pvQ(i:Nat){x:Str}{pos:Pos}(hN:X.N[i]?=some x:=by rfl)(hv:Vis X.env.scope x:=by first | exact Or.inl rfl | exact Or.inr (Or.inl rfl) | exact Or.inr (Or.inr rfl))(hd:(x ==("__debug__":Str))=false:=by decide)
  (hcd:(x ==("__classdict__":Str))=false:=by decide):PE X (.Name x pos) (tVq i):=fun pins s σ H Q I h=>pv i hN hv hd hcd pins s σ H Q I (tVar_of h)
end
end L2
namespace K75
open PySem L2 PyProof.Rows
noncomputable def top(i:Nat):Stmt:=PySem.Challenge.pw_partedweb_k75_texts_of_no_web.main.body.getD i (.Pass ⟨0,0,0,0⟩)
noncomputable abbrev sBadrow:Stmt:=top 5
noncomputable abbrev sIsNumber:Stmt:=top 7
noncomputable abbrev sAreNumbers:Stmt:=top 8
noncomputable abbrev sIsTupleOf:Stmt:=top 9
noncomputable abbrev sRises:Stmt:=top 10
noncomputable abbrev sIsTie:Stmt:=top 12
noncomputable abbrev sWebFrom:Stmt:=top 15
noncomputable abbrev sWebAhead:Stmt:=top 16
noncomputable abbrev sArePosts:Stmt:=top 17
noncomputable abbrev sNumbersBehind:Stmt:=top 18
noncomputable abbrev sIsFigures:Stmt:=top 19
noncomputable abbrev sCell:Stmt:=top 21
noncomputable abbrev sBox:Stmt:=top 22
noncomputable abbrev sTake:Stmt:=top 23
noncomputable abbrev sMany:Stmt:=top 24
noncomputable abbrev sWeight:Stmt:=top 25
noncomputable abbrev sWeb:Stmt:=top 26
noncomputable abbrev sPosts:Stmt:=top 27
noncomputable abbrev sWithPosts:Stmt:=top 28
noncomputable abbrev sText:Stmt:=top 29
noncomputable abbrev sSame:Stmt:=top 30
noncomputable abbrev sNumbers:Stmt:=top 31
noncomputable abbrev sRead:Stmt:=top 32
noncomputable abbrev sTold:Stmt:=top 33
noncomputable abbrev sBentRow:Stmt:=top 34
noncomputable abbrev sBent:Stmt:=top 35
noncomputable abbrev sLaw:Stmt:=top 36
noncomputable def Kept(p:Addr)(H H':Hp):Prop:=∀ b o,b≠p->H b=some o->H' b=some o
theorem Kept.refl{p:Addr}{H:Hp}:Kept p H H:=fun _ _ _ e=>e
theorem Kept.trans{p:Addr}{H H' H'':Hp}(a:Kept p H H')(b:Kept p H' H''):Kept p H H'':=fun c o n e=>b c o n (a c o n e)
theorem Kept.new{p q:Addr}{H:Hp}{o:HO}(h:H q=none):Kept p H (upd H q o):=fun b u _ e=>by rw[upd_ne (ne_of_none e h)];exact e
theorem Kept.at{p:Addr}{H:Hp}{o:HO}:Kept p H (upd H p o):=fun b u n e=>by rw[upd_ne n];exact e
noncomputable def BoxAt(H:Hp)(p:Addr)(N:Nat):Prop:=∃ a b c:Int,H p=some (.lst [.int a,.int b,.int c])/\0<=a/\0<=c/\c<=(N:Int)
theorem BoxAt.mono{H:Hp}{p:Addr}{N M:Nat}(x:BoxAt H p N)(h:N<=M):BoxAt H p M:=by
 obtain⟨a,b,c,e,h1,h2,h3⟩:=x
 exact⟨a,b,c,e,h1,h2,by lia⟩
theorem BoxAt.new{H:Hp}{p q:Addr}{N:Nat}{o:HO}(x:BoxAt H p N)(h:H q=none):BoxAt (upd H q o) p N:=by
 obtain⟨a,b,c,e,r⟩:=x
 exact⟨a,b,c,by rw[upd_ne (ne_of_none e h)];exact e,r⟩
theorem b01(b:Bool):-(2 ^ 64) <(if b=true then 1 else 0:Int)/\(if b=true then 1 else 0:Int)<2 ^ 64:=by cases b <;> decide
theorem b0(b:Bool):(0:Int)<=(if b=true then 1 else 0:Int):=by cases b <;> decide
inductive spCellI(K:PySem.W.Frag)(vs:List V)(H:Hp)(Q:VK):Prop where
 |mk (a:Addr) (ns:List Int) (k:Nat) (h1:vs=[.ref a,.int k]) (h2:SqL K H a (ns.map V.int)) (h3:∀ z,Q (.int z) H)
noncomputable def spCell(K:PySem.W.Frag):Sp:=fun vs H Q _=>spCellI K vs H Q
inductive spBoxI(K:PySem.W.Frag)(vs:List V)(H:Hp)(Q:VK):Prop where
 |mk (a:Addr) (ns:List Int) (k:Nat) (h1:vs=[.ref a,.int k]) (h2:SqL K H a (ns.map V.int)) (h3:∀ p H',H p=none->BoxAt H' p 0->Kept p H H'->Q (.ref p) H')
noncomputable def spBox(K:PySem.W.Frag):Sp:=fun vs H Q _=>spBoxI K vs H Q
inductive spTakeI(vs:List V)(H:Hp)(Q:VK):Prop where
 |mk (p:Addr) (m:Int) (N:Nat) (h1:vs=[.ref p,.int m]) (h2:BoxAt H p N) (h3:N<2 ^ 40) (h4:0<m) (h5:m<1073741824) (h6:∀ z H',0<=z->z<m->BoxAt H' p (N+1)->Kept p H H'->Q (.int z) H')
noncomputable def spTake:Sp:=fun vs H Q _=>spTakeI vs H Q
inductive spManyI(vs:List V)(H:Hp)(Q:VK):Prop where
 |mk (p:Addr) (l f m:Int) (N:Nat) (h1:vs=[.ref p,.int l,.int f,.int m]) (h2:BoxAt H p N) (h3:N+2<2 ^ 40) (h4:l<=f) (h5:7<=m) (h6:f-l<1000) (h7:m<1000) (h8:∀ z H',(l<=z/\z<=f)\/(7<=z/\z<=m)->BoxAt H' p (N+2)->Kept p H H'->Q (.int z) H')
noncomputable def spMany:Sp:=fun vs H Q _=>spManyI vs H Q
inductive spWeightI(vs:List V)(H:Hp)(Q:VK):Prop where
 |mk (p:Addr) (h:Nat) (N:Nat) (h1:vs=[.ref p,.int h]) (h2:h<4) (h3:BoxAt H p N) (h4:N+2<2 ^ 40) (h5:∀ z H',(1<=z/\z<=1073741824)->BoxAt H' p (N+2)->Kept p H H'->Q (.int z) H')
noncomputable def spWeight:Sp:=fun vs H Q _=>spWeightI vs H Q
structure Txt(mg:Str->Option Value):Prop where
 abs:mg "abs" = none
 int:mg "int" = none
 len:mg "len" = none
 range:mg "range" = none
 min:mg "min" = none
 max:mg "max" = none
 tuple:mg "tuple" = none
 sorted:mg "sorted" = none
 isinst:mg "isinstance" = none
 list:mg "list" = none
 str:mg "str" = none
 bool:mg "bool" = none
 sum:mg "sum" = none
section
variable{P:Program}{w:World}{K:PySem.W.Frag}{mg:Str->Option Value}{base:Heap}
theorem scCell:FnScope ["_law_script","_law_k"] ["_law_script","_law_k"] (defScope sCell):=⟨rfl,rfl,rfl,by decide +kernel,rfl,by decide +kernel,by decide +kernel⟩
theorem ok_cell{f:Addr}{fd:FuncData}(F:Fun K "_law_cell_at" "_law_cell_at" sCell f fd)(T:Txt mg):FnOk P w K mg base CX0 1 f fd ["_law_script","_law_k"] (spCell K):=by
 refine F.ok scCell (fun vs H Q E h=>?_) (fun cdv A outer s H vs Q E hr h=>?_)
 ·obtain⟨a,ns,k,rfl,_⟩:=h
  rfl
 ·obtain⟨a,ns,k,rfl,hS,q⟩:=h
  refine⟨_,pss_cons (ps_if (pt_cmpR op_lt (pvQ 1) (pe_callB call_len_seq (by rfl) T.len PySem.boot_len (pa_cons (pvQ 0) pa_nil)) (nomark _)) (pss_one (ps_ret (pe_ix ix_list (pvQ 0) (pvQ 1) (fun _ _=>rfl)))) pss_nil) (pss_one (ps_ret pe_int)),?_⟩
  refine⟨a,_,rfl,.inl hS,_,_,rfl,rfl,_,rfl,?_⟩
  refine ite2 (fun hk=>?_) (fun _=>?_)
  ·have hk':k<ns.length:=by
    have:=of_decide_eq_true hk
    rw[zB]at this
    exact zi3 this
   exact⟨a,_,_,_,rfl,rfl,hS,atI_nat (v:=V.int ns[k]) (by rw[zAJ,zF hk'];rfl),q _⟩
  ·exact q _
theorem scBox:FnScope ["_law_script","_law_k","_law_cell"] ["_law_script","_law_k"] (defScope sBox):=⟨rfl,rfl,rfl,by decide +kernel,rfl,by decide +kernel,by decide +kernel⟩
theorem ok_box{f g:Addr}{fd gd:FuncData}(F:Fun K "_law_box" "_law_box" sBox f fd)(T:Txt mg)(G:Fun K "_law_cell_at" "_law_cell_at" sCell g gd)(mG:mg "_law_cell_at" = some (.ref g))(bG:Binds K gd ["_law_script","_law_k"] []):FnOk P w K mg base CX0 2 f fd ["_law_script","_law_k"] (spBox K):=by
 refine F.ok scBox (fun vs H Q E h=>?_) (fun cdv A outer s H vs Q E hr h=>?_)
 ·obtain⟨a,ns,k,rfl,_⟩:=h
  rfl
 ·obtain⟨a,ns,k,rfl,hS,q⟩:=h
  have GG:FnOk P w K mg base CX0 1 g gd ["_law_script","_law_k"] (spCell K):=ok_cell G T
  refine⟨_,pss_cons (ps_set (i:=2) scBox.nd rfl (Or.inl rfl) (pe_call GG hr rfl mG G.kp bG .nil pass0 (pa_cons (pv 0) (pa_cons (pv 1) pa_nil))))
   (pss_one (ps_ret (pe_lst (pa_cons (pe_op op_mul (pe_callB call_abs (by rfl) T.abs boot_abs (pa_cons (pv 2) pa_nil)) (pe_callTy call_int1 (by rfl) T.int boot_int (pa_cons (pe_cmpR op_ge (pe_callB call_abs (by rfl) T.abs boot_abs (pa_cons (pv 2) pa_nil)) (pe_op op_pow pe_int pe_int) (nomark _)) pa_nil)))
    (pa_cons (pe_op op_add (pe_op op_add (pe_op op_mod (pv 2) pe_int) (pe_op op_mul pe_int (pv 1))) pe_int) (pa_cons pe_int pa_nil)))))),?_⟩
  refine⟨_,rfl,_,rfl,a,ns,k,rfl,hS,fun z=>?_⟩
  refine⟨_,rfl,_,rfl,_,rfl,_,rfl,_,_,rfl,rfl,⟨by decide,by decide,by decide⟩,_,_,rfl,rfl,.inr ⟨_,rfl,_,_,rfl,rfl,.inr ?_,_,rfl,_,_,rfl,rfl,(by show(0:Int)<2305843009213693951;decide),_,rfl,_,_,rfl,rfl,.inl ⟨by decide,by decide⟩,_,_,rfl,rfl,_,_,rfl,rfl,(by show 3<=sizeLine;decide),fun p hp=>?_⟩⟩
  ·exact b01 _
  ·refine q p _ hp ⟨_,_,_,upd_same,?_,by decide,by decide⟩ (Kept.new hp)
   refine Int.mul_nonneg ?_ ?_
   ·split <;> lia
   ·exact b0 _
theorem scTake:FnScope ["_law_box_here","_law_many_here","_law_found","_law_once","_law_twice"] ["_law_box_here","_law_many_here"] (defScope sTake):=⟨rfl,rfl,rfl,by decide +kernel,rfl,by decide +kernel,by decide +kernel⟩
theorem ok_take{f:Addr}{fd:FuncData}(F:Fun K "_law_take" "_law_take" sTake f fd):FnOk P w K mg base CX0 1 f fd ["_law_box_here","_law_many_here"] spTake:=by
 refine F.ok scTake (fun vs H Q E h=>?_) (fun cdv A outer s H vs Q E hr h=>?_)
 ·obtain⟨p,m,N,rfl,_⟩:=h
  rfl
 ·obtain⟨p,m,N,rfl,⟨a,b,c,hp,a0,c0,cN⟩,hN,m0,m1,q⟩:=h
  have hS:∀ {x y z:Int}{G:Hp},G p=some (.lst [.int x,.int y,.int z])->SqL K G p [.int x,.int y,.int z]:=fun e=>SqL.of e
  refine⟨_,pss_cons (ps_if (pt_cmpR op_gt (pe_ix ix_list (pvQ 0) pe_int (fun _ _=>rfl)) pe_int (nomark _))
    (pss_cons (ps_set (i:=2) scTake.nd rfl (Or.inl rfl) (pe_op op_mod (pe_ix ix_list (pvQ 0) pe_int (fun _ _=>rfl)) (pvQ 1)))
     (pss_cons (ps_asg (pe_op op_fdiv (pe_ix ix_list (pvQ 0) pe_int (fun _ _=>rfl)) (pvQ 1)) (pg_sub (pvQ 0) pe_int set_list))
     (pss_one (ps_ret (pvQ 2))))) pss_nil)
   (pss_cons (ps_asg (pe_op op_add (pe_ix ix_list (pvQ 0) pe_int (fun _ _=>rfl)) pe_int) (pg_sub (pvQ 0) pe_int set_list))
   (pss_cons (ps_set (i:=3) scTake.nd rfl (Or.inl rfl) (pe_op op_mod (pe_op op_mul (pe_op op_add (pe_ix ix_list (pvQ 0) pe_int (fun _ _=>rfl)) (pe_op op_mul pe_int (pe_ix ix_list (pvQ 0) pe_int (fun _ _=>rfl)))) (pe_op op_add pe_int (pe_ix ix_list (pvQ 0) pe_int (fun _ _=>rfl)))) pe_int))
   (pss_cons (ps_set (i:=4) scTake.nd rfl (Or.inl rfl) (pe_op op_mod (pe_op op_mul (pe_op op_add (pvQ 3) (pe_ix ix_list (pvQ 0) pe_int (fun _ _=>rfl))) (pe_op op_add (pe_op op_mod (pvQ 3) pe_int) pe_int)) pe_int))
   (pss_one (ps_ret (pe_op op_mod (pe_op op_fdiv (pe_op op_mod (pe_op op_add (pe_op op_mul (pvQ 4) pe_int) (pvQ 3)) pe_int) pe_int) (pvQ 1))))))),?_⟩
  refine⟨p,_,_,_,rfl,rfl,hS hp,rfl,_,_,rfl,rfl,_,rfl,?_⟩
  refine ite2 (fun hk=>?_) (fun _=>?_)
  ·have pos:0<a:=of_decide_eq_true hk
   refine⟨p,_,_,_,rfl,rfl,hS hp,rfl,_,_,rfl,rfl,m0,?_⟩
   refine⟨p,_,_,_,rfl,rfl,hS hp,rfl,_,_,rfl,rfl,⟨m0,m1⟩,p,_,_,_,rfl,rfl,hp,rfl,?_⟩
   refine q _ _ (Int.emod_nonneg _ (by exact zdf m0 m1)) (Int.emod_lt_of_pos _ m0) ⟨_,_,_,upd_same,Int.ediv_nonneg a0 (by exact zin m0 m1),c0,by lia⟩ Kept.at
  ·refine⟨p,_,_,_,rfl,rfl,hS hp,rfl,_,_,rfl,rfl,p,_,_,_,rfl,rfl,hp,rfl,?_⟩
   have g1:(upd H p (.lst [.int a,.int b,.int (c+1)])) p=some (.lst [.int a,.int b,.int (c+1)]):=upd_same
   refine⟨p,_,_,_,rfl,rfl,hS g1,rfl,p,_,_,_,rfl,rfl,hS g1,rfl,_,_,rfl,rfl,.inl ⟨by decide,by decide⟩,_,_,rfl,rfl,p,_,_,_,rfl,rfl,hS g1,rfl,_,_,rfl,rfl,_,_,rfl,rfl,.inr ⟨by lia,by lia⟩,_,_,rfl,rfl,(by show(0:Int)<2147483647;decide),?_⟩
   generalize ho:(b+48271 * (c+1)) * (39373+(c+1)) % 2147483647=once
   have o0:0<=once:=by rw[<- ho];exact Int.emod_nonneg _ (by decide)
   have o1:once<2147483647:=by rw[<- ho];exact Int.emod_lt_of_pos _ (by decide)
   refine⟨p,_,_,_,rfl,rfl,hS g1,rfl,_,_,rfl,rfl,_,_,rfl,rfl,(by show(0:Int)<40009;decide),_,_,rfl,rfl,_,_,rfl,rfl,.inl ⟨by lia,by exact zhy hN c0 cN ho⟩,_,_,rfl,rfl,(by show(0:Int)<2147483629;decide),?_⟩
   generalize ht:(once+(c+1)) * (once % 40009+7) % 2147483629=twice
   have t0:0<=twice:=by rw[<- ht];exact Int.emod_nonneg _ (by decide)
   have t1:twice<2147483629:=by rw[<- ht];exact Int.emod_lt_of_pos _ (by decide)
   refine⟨_,_,rfl,rfl,.inl ⟨by exact zhz ht,by exact zgr ht⟩,_,_,rfl,rfl,_,_,rfl,rfl,(by show(0:Int)<2147483587;decide),_,_,rfl,rfl,⟨by decide,by decide⟩,_,_,rfl,rfl,m0,?_⟩
   exact q _ _ (Int.emod_nonneg _ (by exact zdf m0 m1)) (Int.emod_lt_of_pos _ m0) ⟨_,_,_,g1,a0,by exact zgm c0,by lia⟩ Kept.at
theorem scMany:FnScope ["_law_box_here","_law_least","_law_few","_law_most"] ["_law_box_here","_law_least","_law_few","_law_most"] (defScope sMany):=⟨rfl,rfl,rfl,by decide +kernel,rfl,by decide +kernel,by decide +kernel⟩
structure TakeF(P:Program)(w:World)(K:PySem.W.Frag)(mg:Str->Option Value)(base:Heap)(g:Addr)(gd:FuncData):Prop where
 ok:FnOk P w K mg base CX0 1 g gd ["_law_box_here","_law_many_here"] spTake
 mg:mg "_law_take" = some (.ref g)
 kp:PySem.W.keepIn K (.ref g)=true
 bd:Binds K gd ["_law_box_here","_law_many_here"] []
theorem ok_many{f g:Addr}{fd gd:FuncData}(F:Fun K "_law_many" "_law_many" sMany f fd)(G:TakeF P w K mg base g gd):FnOk P w K mg base CX0 2 f fd ["_law_box_here","_law_least","_law_few","_law_most"] spMany:=by
 refine F.ok scMany (fun vs H Q E h=>?_) (fun cdv A outer s H vs Q E hr h=>?_)
 ·obtain⟨p,l,f,m,N,rfl,_⟩:=h
  rfl
 ·obtain⟨p,l,f,m,N,rfl,B,hN,lf,m7,fl,mm,q⟩:=h
  refine⟨_,pss_cons (ps_if (pt_cmpR op_eq (pe_call G.ok hr rfl G.mg G.kp G.bd .nil pass0 (pa_cons (pvQ 0) (pa_cons pe_int pa_nil))) pe_int (nomark _))
   (pss_one (ps_ret (pe_op op_add pe_int (pe_call G.ok hr rfl G.mg G.kp G.bd .nil pass0 (pa_cons (pvQ 0) (pa_cons (pe_op op_sub (pvQ 3) pe_int) pa_nil)))))) pss_nil)
   (pss_one (ps_ret (pe_op op_add (pvQ 1) (pe_call G.ok hr rfl G.mg G.kp G.bd .nil pass0 (pa_cons (pvQ 0) (pa_cons (pe_op op_add (pe_op op_sub (pvQ 2) (pvQ 1)) pe_int) pa_nil)))))),?_⟩
  refine⟨p,_,N,rfl,B,by exact zj1 (zj1 hN),by decide,by decide,fun z H1 z0 z1 B1 k1=>⟨rfl,_,rfl,?_⟩⟩
  refine ite2 (fun _=>?_) (fun _=>?_)
  ·refine⟨_,_,rfl,rfl,p,_,N+1,rfl,B1,by exact zj1 hN,by exact zgy m7 mm,by lia,fun y H2 y0 y1 B2 k2=>⟨_,_,rfl,rfl,?_⟩⟩
   exact q _ _ (.inr ⟨by lia,by exact zia y1⟩) B2 (k1.trans k2)
  ·refine⟨_,_,rfl,rfl,_,_,rfl,rfl,p,_,N+1,rfl,B1,by exact zj1 hN,by lia,by lia,fun y H2 y0 y1 B2 k2=>⟨_,_,rfl,rfl,?_⟩⟩
   exact q _ _ (.inl ⟨by lia,by lia⟩) B2 (k1.trans k2)
theorem scWeight:FnScope ["_law_box_here","_law_heavy"] ["_law_box_here","_law_heavy"] (defScope sWeight):=⟨rfl,rfl,rfl,by decide +kernel,rfl,by decide +kernel,by decide +kernel⟩
theorem ok_weight{f g:Addr}{fd gd:FuncData}(F:Fun K "_law_weight" "_law_weight" sWeight f fd)(G:TakeF P w K mg base g gd):FnOk P w K mg base CX0 2 f fd ["_law_box_here","_law_heavy"] spWeight:=by
 refine F.ok scWeight (fun vs H Q E h=>?_) (fun cdv A outer s H vs Q E hr h=>?_)
 ·obtain⟨p,h,N,rfl,_⟩:=h
  rfl
 ·obtain⟨p,h,N,rfl,h4,B,hN,q⟩:=h
  refine⟨_,pss_one (ps_ret (pe_op op_add pe_int (pe_call G.ok hr rfl G.mg G.kp G.bd .nil pass0 (pa_cons (pvQ 0) (@pa_sub _ _ _ _ _ _ _
   (@pe_ix _ _ _ _ _ _ _ ix_list (@pe_lst _ _ _ _ (@pa_cst _ _ _ _ _ _ _ pe_int (@pa_cst _ _ _ _ _ _ _ pe_int (@pa_cst _ _ _ _ _ _ _ pe_int (@pa_sub _ _ _ _ _ _ _ (@pe_ix _ _ _ _ _ _ _ ix_list (@pe_lst _ _ _ _ (@pa_cst _ _ _ _ _ _ _ pe_int (@pa_cst _ _ _ _ _ _ _ pe_int (@pa_bin _ _ _ _ _ _ _ _ (pe_op op_pow pe_int pe_int) pa_nil)))) (pe_call G.ok hr rfl G.mg G.kp G.bd .nil pass0 (pa_cons (pvQ 0) (pa_cons pe_int pa_nil))) (fun _ _=>rfl)) pa_nil))))) (pvQ 1) (fun _ _=>rfl)) pa_nil))))),?_⟩
  refine⟨10,9,rfl,rfl,⟨by decide,by decide,by decide⟩,?_⟩
  refine⟨(by show 3<=sizeLine;decide),fun l hl=>?_⟩
  refine⟨p,_,N,rfl,B.new hl,by exact zj1 (zj1 hN),by decide,by decide,fun z H1 z0 z1 B1 k1=>?_⟩
  have lp:l≠p:=fun e=>by
   obtain⟨a,b,c,e1,_⟩:=B
   rw[e,e1]at hl
   cases hl
  have el:=k1 l _ lp upd_same
  obtain⟨zn,rfl⟩:∃ zn:Nat,z=(zn:Int):=⟨z.toNat,by exact zh3 z0⟩
  have e9:((10:Int) ^ (Int.toNat 9))=1000000000:=by decide +kernel
  try dsimp only at el
  rw[e9]at el
  have h3:zn<3:=by lia
  obtain⟨v,hv,v0,v1⟩:∃ v:Int,[V.int 10,V.int 100,V.int 1000000000][zn]?=some (V.int v)/\0<v/\v<1073741824:=by
   match zn,h3 with
   | 0,_=>exact⟨_,rfl,by decide,by decide⟩
   | 1,_=>exact⟨_,rfl,by decide,by decide⟩
   | 2,_=>exact⟨_,rfl,by decide,by decide⟩
  refine⟨l,_,_,_,rfl,rfl,SqL.of el,atI_nat hv,(by show 4<=sizeLine;decide),fun l2 hl2=>?_⟩
  obtain⟨v',hv',v0',v1'⟩:∃ v':Int,[V.int 1,V.int 3,V.int 9,V.int v][h]?=some (V.int v')/\0<v'/\v'<1073741824:=by
   match h,h4 with
   | 0,_=>exact⟨_,rfl,by decide,by decide⟩
   | 1,_=>exact⟨_,rfl,by decide,by decide⟩
   | 2,_=>exact⟨_,rfl,by decide,by decide⟩
   | 3,_=>exact⟨_,rfl,v0,v1⟩
  refine⟨l2,_,_,_,rfl,rfl,SqL.of upd_same,atI_nat hv',p,_,N+1,rfl,B1.new hl2,by exact zj1 hN,v0',v1',fun y H2 y0 y1 B2 k2=>⟨_,_,rfl,rfl,?_⟩⟩
  exact q _ _ (by exact ziz v0' v1' y0 y1) B2 ((Kept.new hl).trans (k1.trans ((Kept.new hl2).trans k2)))
end
noncomputable abbrev Tie:=Int×Int×Int
noncomputable def tieV(x:Tie):List V:=[.int x.1,.int x.2.1,.int x.2.2]
structure WebAt(H:Hp)(t:Addr)(n:Nat)(ties:List Tie):Prop where
 ex:∃ (ts:Addr) (as:List Addr),H t=some (.tup [.int n,.ref ts])/\H ts=some (.tup (as.map V.ref))/\Paired (fun a x=>H a=some (.tup (tieV x))) as ties
 len:ties.length<=120
theorem WebAt.same{H H':Hp}{t:Addr}{n:Nat}{ties:List Tie}(W:WebAt H t n ties)(s:Same H H'):WebAt H' t n ties:=by
 obtain⟨⟨ts,as,h1,h2,h3⟩,l⟩:=W
 exact⟨⟨ts,as,s _ _ h1,s _ _ h2,Paired.mapP h3 fun a x e=>s _ _ e⟩,l⟩
theorem Kept.free{p l:Addr}{H H':Hp}{M:Nat}(k:Kept p H H')(B:BoxAt H' p M)(h:H' l=none):H l=none:=by
 cases e:H l with
 |none=>rfl
 |some o =>
  by_cases lp:l=p
  ·obtain⟨a,b,c,e1,_⟩:=B
   rw[lp,e1]at h
   cases h
  ·rw[k l o lp e]at h
   cases h
theorem BoxAt.ne{H:Hp}{p l:Addr}{N:Nat}(B:BoxAt H p N)(h:H l=none):l≠p:=fun e=>by
 obtain⟨a,b,c,e1,_⟩:=B
 rw[e,e1]at h
 cases h
theorem Kept.put{p d:Addr}{H H':Hp}{o:HO}(k:Kept p H H')(h:H d=none):Kept p H (upd H' d o):=fun b u n e=>by
 rw[upd_ne (ne_of_none e h)]
 exact k b u n e
theorem BoxAt.put{H:Hp}{p d:Addr}{N:Nat}{o:HO}(B:BoxAt H p N)(h:d≠p):BoxAt (upd H d o) p N:=by
 obtain⟨a,b,c,e,r⟩:=B
 exact⟨a,b,c,by rw[upd_ne (Ne.symm h)];exact e,r⟩
theorem tTru_if{σ:L2.St}{H:Hp}{A B:Hp->Prop}(h:A H):tTru σ H (fun b H3=>if b=true then A H3 else B H3):=by
 show if true=true then A H else B H
 exact iteT h
theorem Paired.snoc{α β:Type}{F:α->β->Prop}:∀ {l₁:List α}{l₂:List β}{a:α}{b:β},Paired F l₁ l₂->F a b->Paired F (l₁++[a]) (l₂++[b]):=by
 intro l ks a b h r
 induction h with
 |nil=>exact .cons r .nil
 |cons q t ih=>exact .cons q ih
noncomputable def TieOk(n:Nat)(x:Tie):Prop:=0<=x.1/\x.1<x.2.1/\x.2.1<n/\1<=x.2.2/\x.2.2<=1073741824
noncomputable def tieLt(x y:Tie):Prop:=Srt.lexlt [x.1,x.2.1] [y.1,y.2.1]=true
noncomputable def KeyOk(n:Nat)(kv:List Key×V):Prop:=∃ a b c:Int,kv=([Sum.inl a,Sum.inl b],V.int c)/\TieOk n (a,b,c)
noncomputable def DInv(n:Nat)(kvs:List (List Key×V)):Prop:=(∀ kv∈kvs,KeyOk n kv)/\(kvs.map (·.1)).Nodup
theorem DInv.put{n:Nat}{kvs:List (List Key×V)}(h:DInv n kvs){a b c:Int}(ok:TieOk n (a,b,c)):DInv n (putK kvs [Sum.inl a,Sum.inl b] (V.int c))/\(putK kvs [Sum.inl a,Sum.inl b] (V.int c)).length<=kvs.length+1:=by
 unfold putK
 by_cases ex:(kvs.any fun kv=>decide (kv.1=[Sum.inl a,Sum.inl b]))=true
 ·rw[if_pos ex]
  refine⟨⟨fun kv hk=>?_,?_⟩,by rw[zB];exact zI kvs.length 1⟩
  ·obtain⟨q,hq,e⟩:=zAP.mp hk
   by_cases z:q.1=[Sum.inl a,Sum.inl b]
   ·rw[if_pos z,z]at e
    exact⟨a,b,c,e.symm,ok⟩
   ·rw[if_neg z]at e
    rw[<- e]
    exact h.1 q hq
  ·have e:(kvs.map fun kv=>if kv.1=[Sum.inl a,Sum.inl b]then(kv.1,V.int c)else kv).map (·.1)=kvs.map (·.1):=by
    rw[zCO]
    refine List.map_congr_left fun q _=>?_
    show(if q.1=[Sum.inl a,Sum.inl b]then(q.1,V.int c)else q).1=q.1
    split <;> rfl
   rw[e]
   exact h.2
 ·rw[if_neg ex]
  refine⟨⟨fun kv hk=>?_,?_⟩,by rw[zY];exact zH _⟩
  ·rcases zAB.mp hk with z | z
   ·exact h.1 kv z
   ·exact⟨a,b,c,zAA.mp z,ok⟩
  ·rw[zAQ,List.nodup_append]
   refine⟨h.2,by simp,fun x hx y hy=>?_⟩
   have ey:y=[Sum.inl a,Sum.inl b]:=by simpa using hy
   subst ey
   intro z
   subst z
   obtain⟨q,hq,e⟩:=zAP.mp hx
   exact ex (List.any_eq_true.mpr ⟨q,hq,decide_eq_true e⟩)
noncomputable def unkey(k:List Key):List Int:=k.map fun x=>match x with
 | .inl i=>i
 | .inr _=>0
theorem keys_of{n:Nat}:∀ {kvs:List (List Key×V)},(∀ kv∈kvs,KeyOk n kv)->kvs.map (·.1)=List.map (List.map Sum.inl) (kvs.map fun kv=>unkey kv.1)
 |[],_=>rfl
 |kv :: kvs,h=>by
  obtain⟨a,b,c,e,_⟩:=h kv (zX ..)
  rw[zAS,zAS,zAS,keys_of fun q hq=>h q (zP _ hq),e]
  rfl
theorem DInv.keys{n:Nat}{kvs:List (List Key×V)}(h:DInv n kvs):kvs.map (·.1)=List.map (List.map Sum.inl) (kvs.map fun kv=>unkey kv.1):=keys_of h.1
theorem DInv.nodup{n:Nat}{kvs:List (List Key×V)}(h:DInv n kvs):(kvs.map fun kv=>unkey kv.1).Nodup:=by
 have:=h.2
 rw[h.keys]at this
 unfold List.Nodup at this ⊢
 rw[List.pairwise_map]at this
 exact this.imp fun {x y} z e=>z (by rw[e])
theorem valV_mem{kvs:List (List Key×V)}{k:List Key}(h:k∈kvs.map (·.1)):∃ v,valV kvs k=some v/\(k,v)∈kvs:=by
 induction kvs with
 |nil=>cases h
 |cons q r ih =>
  by_cases e:q.1=k
  ·exact⟨q.2,valV_pos e,by rw[<- e];exact zX ..⟩
  ·rw[zAS]at h
   rcases zW.mp h with z | z
   ·exact absurd z.symm e
   ·obtain⟨v,h1,h2⟩:=ih z
    exact⟨v,(valV_neg e).trans h1,zP _ h2⟩
inductive spWebI(vs:List V)(H:Hp)(Q:VK):Prop where
 |mk (p:Addr) (n N:Nat) (h1:vs=[.ref p,.int n]) (h2:BoxAt H p N) (h3:N+1000<2 ^ 40) (h4:1<=n) (h5:n<=30) (h6:∀ (t:Addr) (ties:List Tie) (H':Hp),H t=none->WebAt H' t n ties->(∀ x∈ties,TieOk n x)->ties.Pairwise tieLt->BoxAt H' p (N+1000)->Kept p H H'->Q (.ref t) H')
noncomputable def spWeb:Sp:=fun vs H Q _=>spWebI vs H Q
structure WeightF(P:Program)(w:World)(K:PySem.W.Frag)(mg:Str->Option Value)(base:Heap)(g:Addr)(gd:FuncData):Prop where
 ok:FnOk P w K mg base CX0 2 g gd ["_law_box_here","_law_heavy"] spWeight
 mg:mg "_law_weight" = some (.ref g)
 kp:PySem.W.keepIn K (.ref g)=true
 bd:Binds K gd ["_law_box_here","_law_heavy"] []
structure WI(H:Hp)(p d:Addr)(n M c:Nat)(kvs:List (List Key×V))(H':Hp):Prop where
 box:BoxAt H' p M
 dic:H' d=some (.dT kvs)
 inv:DInv n kvs
 len:kvs.length<=c
 kep:Kept p H H'
theorem WI.keep{H H' H'':Hp}{p d:Addr}{n M M' c:Nat}{kvs:List (List Key×V)}(W:WI H p d n M c kvs H')(dp:d≠p)(k:Kept p H' H'')(B:BoxAt H'' p M'):WI H p d n M' c kvs H'' :=
 ⟨B,k d _ dp W.dic,W.inv,W.len,W.kep.trans k⟩
theorem WI.mono{H H':Hp}{p d:Addr}{n M M' c c':Nat}{kvs:List (List Key×V)}(W:WI H p d n M c kvs H')(h:M<=M')(h2:c<=c'):WI H p d n M' c' kvs H' :=
 ⟨W.box.mono h,W.dic,W.inv,zC W.len h2,W.kep⟩
theorem WI.new{H H':Hp}{p d q:Addr}{n M c:Nat}{kvs:List (List Key×V)}{o:HO}(W:WI H p d n M c kvs H')(h:H' q=none):WI H p d n M c kvs (upd H' q o) :=
 ⟨W.box.new h,by rw[upd_ne (ne_of_none W.dic h)];exact W.dic,W.inv,W.len,W.kep.trans (Kept.new h)⟩
theorem WI.put{H H':Hp}{p d:Addr}{n M c:Nat}{kvs:List (List Key×V)}(W:WI H p d n M c kvs H')(dp:d≠p)(hd:H d=none){a b x:Int}(ok:TieOk n (a,b,x)):WI H p d n M (c+1) (putK kvs [Sum.inl a,Sum.inl b] (V.int x)) (upd H' d (.dT (putK kvs [Sum.inl a,Sum.inl b] (V.int x)))) :=
 ⟨W.box.put dp,upd_same,(W.inv.put ok).1,zC (W.inv.put ok).2 (Nat.succ_le_succ W.len),W.kep.put hd⟩
section
variable{P:Program}{w:World}{K:PySem.W.Frag}{mg:Str->Option Value}{base:Heap}
noncomputable abbrev nWeb:List Str:=["_law_box_here","_law_many_here","_law_heavy","_law_ties","_law_place","_law_turn","_law_one","_law_other"]
theorem scWeb:FnScope nWeb ["_law_box_here","_law_many_here"] (defScope sWeb):=⟨rfl,rfl,rfl,by decide +kernel,rfl,by decide +kernel,by decide +kernel⟩
theorem csWeb:CompScope ["_law_pair","_law_ties"] [none,some 3] nWeb (defScope sWeb) { kind:=.function,names:=[(".0",.local),("_law_pair",.local),("_law_ties",.free)],isGenerator:=false,isCoroutine:=false } :=
 ⟨rfl,by decide +kernel,by decide +kernel,by decide +kernel,rfl,capB_ok (by decide +kernel)⟩
theorem ndWeb:(["_law_pair","_law_ties"]:List Str).Nodup:=by decide +kernel
theorem exT{α:Type}{P:α->Prop}{G:Prop}(h:∀ a,P a->G)(t:∃ a,P a):G:=t.elim h
theorem ok_web{f g g2:Addr}{fd gd gd2:FuncData}(F:Fun K "_law_web" "_law_web" sWeb f fd)(T:Txt mg)(G:TakeF P w K mg base g gd)(G2:WeightF P w K mg base g2 gd2):FnOk P w K mg base CX0 3 f fd ["_law_box_here","_law_many_here"] spWeb:=by
 refine F.ok scWeb (fun vs H Q E h=>?_) (fun cdv A outer s H vs Q E hr h=>?_)
 ·obtain⟨p,n,N,rfl,_⟩:=h
  rfl
 ·obtain⟨p,n,N,rfl,B,hN,n1,n30,q⟩:=h
  have hu:=hu_of hr
  have hr1:Room 1 _:=hr.mono (by decide)
  refine exT (P:=fun tT:TS=>PSs _ _ tT/\∀ (hh:Nat) (d:Addr) (kvs:List (List Key×V)) (v:Option V) (H':Hp),hh<4->H d=none->d≠p->WI H p d n (N+1+4 * ((n:Int)-1).toNat) ((n:Int)-1).toNat kvs H'->tT { nx:=fun _ H'=>Q .non H',rt:=Q } [some (.ref p),some (.int n),some (.int hh),some (.ref d),v,none,none,none] H') (fun tA hA=>⟨_,pss_cons (ps_set (i:=2) scWeb.nd rfl (Or.inl rfl) (pe_call G.ok hr1 rfl G.mg G.kp G.bd .nil pass0 (@pa_nam _ _ _ _ _ _ (pv 0) (@pa_cst _ _ _ _ _ _ _ pe_int pa_nil))))
   (pss_cons (ps_set (i:=3) scWeb.nd rfl (Or.inr rfl) pe_dnewT)
   (pss_cons (ps_for PassesOwn.never rfl (pi_range2 rfl T.range (@pa_cst _ _ _ _ _ _ _ pe_int (@pa_nam _ _ _ _ _ _ (pv 1) pa_nil))) (pg_name (i:=4) scWeb.nd rfl (Or.inl rfl))
    (pss_one (ps_if (pt_cmpR op_gt (pe_call G.ok hr1 rfl G.mg G.kp G.bd .nil pass0 (@pa_nam _ _ _ _ _ _ (pv 0) (@pa_cst _ _ _ _ _ _ _ pe_int pa_nil))) pe_int (nomark _))
     (pss_one (ps_dput hu (pv 3) (@pe_tup _ _ _ _ _ (@pa_call _ _ _ _ _ _ _ _ (pe_call G.ok hr1 rfl G.mg G.kp G.bd .nil pass0 (@pa_nam _ _ _ _ _ _ (pv 0) (@pa_nam _ _ _ _ _ _ (pv 4) pa_nil))) (@pa_nam _ _ _ _ _ _ (pv 4) pa_nil))) (pe_call G2.ok hr rfl G2.mg G2.kp G2.bd .nil pass0 (@pa_nam _ _ _ _ _ _ (pv 0) (@pa_nam _ _ _ _ _ _ (pv 2) pa_nil))) rfl)) pss_nil)))
   hA.1)),?_⟩) ?_
  ·refine⟨_,rfl,p,_,N,rfl,B,by exact zL (zI N 1000) hN,by decide,by decide,fun z H1 z0 z1 B1 k1=>?_⟩
   obtain⟨hh,rfl⟩:∃ hh:Nat,z=(hh:Int):=⟨z.toNat,by exact zh3 z0⟩
   have h4:hh<4:=by exact zjm z0 z1
   intro d hd
   have dp:d≠p:=B1.ne hd
   have hd0:H d=none:=k1.free B1 hd
   have W0:WI H p d n (N+1) 0 [] (upd H1 d (.dT [])):=⟨B1.new hd,upd_same,⟨fun _ h=>(nomatch h),List.nodup_nil⟩,zH _,k1.trans (Kept.new hd)⟩
   refine⟨_,rfl,1,(n:Int),rfl,⟨by decide,by decide,by exact zh1,by exact zm2 n30 rfl⟩,?_⟩
   refine for_range (lo:=1) (n:=((n:Int)-1).toNat) (fun i σ H'=>∃ kvs v,σ=[some (.ref p),some (.int n),some (.int hh),some (.ref d),v,none,none,none]/\WI H p d n (N+1+4 * i) i kvs H') ⟨[],none,rfl,W0⟩ ?_ ?_
   ·rintro i σ H' hi ⟨kvs,v,rfl,W⟩
    have len:=W.len
    refine⟨_,rfl,p,_,_,rfl,W.box,by exact ziq hN n1 n30 hi,by decide,by decide,fun z H3 y0 y1 B3 k3=>⟨_,_,rfl,rfl,_,rfl,?_⟩⟩
    have W3:=W.keep dp k3 B3
    refine ite2 (fun _=>?_) (fun _=>?_)
    ·refine⟨_,rfl,_,rfl,p,hh,_,rfl,h4,B3,by exact zcz hN n1 n30 hi,fun x H4 x1 B4 k4=>⟨_,rfl,_,rfl,_,rfl,p,_,_,rfl,B4,by exact zcz hN n1 n30 hi,by exact zho,by omega,fun a H5 a0 a1 B5 k5=>⟨_,rfl,(by show 2<=sizeLine;decide),fun tp htp=>?_⟩⟩⟩
     have W5:=((W3.keep dp k4 B4).keep dp k5 B5).new (o:=.tup [.int a,.int (1+(i:Int))]) htp
     refine⟨d,_,rfl,DPut.t (k:=[Sum.inl a,Sum.inl (1+(i:Int))]) W5.dic upd_same (by rw[sizeLine_eq];exact zhj n1 n30 hi len),?_⟩
     exact⟨_,_,rfl,(W5.put dp hd0 ⟨a0,by show a<1+(i:Int);exact a1,by show 1+(i:Int) <(n:Int);exact zhb n1 n30 hi,x1⟩).mono (by exact zcr) (by exact zH (i+1))⟩
    ·exact⟨_,_,rfl,W3.mono (by exact zeh) (by exact zI i 1)⟩
   ·rintro σ H' ⟨kvs,v,rfl,W⟩
    exact hA.2 hh d kvs v H' h4 hd0 dp W
  ·refine exT (P:=fun tT:TS=>PSs _ _ tT/\∀ (hh cnt:Nat) (d:Addr) (kvs:List (List Key×V)) (v4 v5 v6 v7:Option V) (H':Hp),cnt<=91-n->H d=none->d≠p->WI H p d n (N+200+4 * cnt) (n-1+cnt) kvs H'->tT { nx:=fun _ H'=>Q .non H',rt:=Q } [some (.ref p),some (.int n),some (.int hh),some (.ref d),v4,v5,v6,v7] H') (fun tB hB=>⟨_,(pss_cons (ps_for PassesOwn.never rfl (pi_range1 rfl T.range (@pa_call _ _ _ _ _ _ _ _ (pe_callB (call_min2 rfl) (by rfl) T.min boot_min (@pa_call _ _ _ _ _ _ _ _ (pe_call G.ok hr1 rfl G.mg G.kp G.bd .nil pass0 (@pa_nam _ _ _ _ _ _ (pv 0) (@pa_bin _ _ _ _ _ _ _ _ (pe_op op_add (pe_op op_mul pe_int (pv 1)) pe_int) pa_nil))) (@pa_bin _ _ _ _ _ _ _ _ (pe_op op_sub pe_int (pv 1)) pa_nil))) pa_nil)) (pg_name (i:=5) scWeb.nd rfl (Or.inl rfl))
    (pss_cons (ps_par rfl scWeb.nd (i:=6) (j:=7) rfl rfl (by decide) rfl rfl (@pa_call _ _ _ _ _ _ _ _ (pe_call G.ok hr1 rfl G.mg G.kp G.bd .nil pass0 (@pa_nam _ _ _ _ _ _ (pv 0) (@pa_nam _ _ _ _ _ _ (pv 1) pa_nil))) (@pa_call _ _ _ _ _ _ _ _ (pe_call G.ok hr1 rfl G.mg G.kp G.bd .nil pass0 (@pa_nam _ _ _ _ _ _ (pv 0) (@pa_nam _ _ _ _ _ _ (pv 1) pa_nil))) pa_nil)) rfl)
    (pss_one (ps_if (pt_cmpR op_ne (pv 6) (pv 7) (nomark _)) (pss_one (ps_dput hu (pv 3) (@pe_tup _ _ _ _ _ (@pa_call _ _ _ _ _ _ _ _ (pe_callB (call_min2 rfl) (by rfl) T.min boot_min (@pa_nam _ _ _ _ _ _ (pv 6) (@pa_nam _ _ _ _ _ _ (pv 7) pa_nil))) (@pa_call _ _ _ _ _ _ _ _ (pe_callB (call_max2 rfl) (by rfl) T.max boot_max (@pa_nam _ _ _ _ _ _ (pv 6) (@pa_nam _ _ _ _ _ _ (pv 7) pa_nil))) pa_nil))) (pe_call G2.ok hr rfl G2.mg G2.kp G2.bd .nil pass0 (@pa_nam _ _ _ _ _ _ (pv 0) (@pa_nam _ _ _ _ _ _ (pv 2) pa_nil))) rfl)) pss_nil))))
   hB.1),?_⟩) ?_
   ·rintro hh d kvs v H' h4 hd0 dp W
    have len0:=W.len
    refine⟨_,rfl,_,rfl,_,_,rfl,rfl,.inl ⟨by decide,by decide⟩,_,_,rfl,rfl,p,_,_,rfl,W.box,by exact zir hN n1 n30,by exact zgi n1 n30,by exact zil n1 n30,fun z H3 y0 y1 B3 k3=>⟨_,rfl,_,_,rfl,rfl,_,_,rfl,_,rfl,?_,?_,?_⟩⟩
    ·split <;> lia
    ·split <;> lia
    have W3:=W.keep dp k3 B3
    have cb:(if 91-(n:Int)<z then 91-(n:Int)else z).toNat<=91-n:=by split <;> lia
    generalize (if 91-(n:Int)<z then 91-(n:Int)else z).toNat=cnt at cb
    refine for_range (lo:=0) (n:=cnt) (fun i σ H'=>∃ kvs v4 v5 v6 v7,σ=[some (.ref p),some (.int n),some (.int hh),some (.ref d),v4,v5,v6,v7]/\WI H p d n (N+200+4 * i) (n-1+i) kvs H') ⟨kvs,v,none,none,none,rfl,W3.mono (by exact zgc n1 n30) (by exact zbc n1 n30)⟩ ?_ ?_
    ·clear W W3 B3 k3 len0
     rintro i σ H' hi ⟨kvs,v4,v5,v6,v7,rfl,W⟩
     have len:=W.len
     refine⟨_,rfl,_,rfl,p,_,_,rfl,W.box,by exact zeq hN n1 n30 cb hi,by exact zcl n1 n30,by exact zef n1 n30,fun x H4 x0 x1 B4 k4=>⟨_,rfl,_,rfl,p,_,_,rfl,B4,by exact zfd hN n1 n30 cb hi,by exact zcl n1 n30,by exact zef n1 n30,fun y H5 w0 w1 B5 k5=>⟨_,_,rfl,?_⟩⟩⟩
     have W5:=(W.keep dp k4 B4).keep dp k5 B5
     refine⟨_,rfl,_,rfl,rfl,_,rfl,?_⟩
     refine ite2 (fun hxy=>?_) (fun _=>?_)
     ·have xy:x≠y:=fun z=>by rw[z]at hxy;simp at hxy
      refine⟨_,rfl,_,rfl,p,hh,_,rfl,h4,B5,by exact zfm hN n1 n30 cb hi xy,fun c H6 c1 B6 k6=>⟨_,rfl,_,rfl,_,rfl,_,_,rfl,_,rfl,_,rfl,_,_,rfl,(by show 2<=sizeLine;decide),fun tp htp=>?_⟩⟩
      have W6:=(W5.keep dp k6 B6).new (o:=.tup [.int (if y<x then y else x),.int (if y > x then y else x)]) htp
      refine⟨d,_,rfl,DPut.t (k:=[Sum.inl (if y<x then y else x),Sum.inl (if y > x then y else x)]) W6.dic upd_same (by rw[sizeLine_eq];exact zey n1 n30 cb hi len xy),?_⟩
      refine⟨_,_,_,_,_,rfl,(W6.put dp hd0 ⟨?_,?_,?_,c1⟩).mono (by exact zcm) (by exact zn4)⟩
      ·show(0:Int)<=if y<x then y else x
       split <;> omega
      ·show(if y<x then y else x) <(if y > x then y else x)
       split <;> split <;> omega
      ·show(if y > x then y else x) <(n:Int)
       split <;> omega
     ·exact⟨_,_,_,_,_,rfl,W5.mono (by exact zdx) (by exact zj2 zn4)⟩
    ·rintro σ H' ⟨kvs,v4,v5,v6,v7,rfl,W⟩
     exact hB.2 hh cnt d kvs v4 v5 v6 v7 H' cb hd0 dp W
   ·refine⟨_,(pss_one (ps_ret (@pe_tup _ _ _ _ _ (@pa_nam _ _ _ _ _ _ (pv 1) (@pa_call _ _ _ _ _ _ _ _ (pe_callTy call_tuple_of (by rfl) T.tuple boot_tuple (@pa_comp _ _ _ _ _ _ _ _ (pe_comp rfl csWeb
     (pi_list (pe_callB (call_sortedD rfl) (by rfl) T.sorted boot_sorted (@pa_nam _ _ _ _ _ _ (pv 3) pa_nil)))
     (fun C s H fp=>pg_name (i:=0) ndWeb rfl (Or.inl rfl)) (fun C s H fp=>pf_nil)
     (fun C s H fp=>pe_op (op_catTK K rfl) (pv 0) (@pe_tup _ _ _ _ _ (@pa_sub _ _ _ _ _ _ _ (pe_dget hu (pv 1) (pv 0) (fun _ _=>rfl)) pa_nil)))) pa_nil)) pa_nil))))),?_⟩
    rintro hh cnt d kvs v4 v5 v6 v7 H' cb hd0 dp W
    have len:=W.len
    refine⟨_,rfl,_,rfl,d,kvs,kvs.map (fun kv=>unkey kv.1),rfl,W.dic,W.inv.keys,fun k hk=>?_,by exact zec n1 n30 cb len,fun l as ns hl perm pw pt=>⟨l,rfl,⟨_,SqL.of upd_same⟩,?_⟩⟩
    ·obtain⟨kv,hkv,rfl⟩:=zAP.mp hk
     obtain⟨a,b,c,e,_⟩:=W.inv.1 kv hkv
     rw[e]
     exact fun z=>nomatch z
    have W1:=W.new (o:=.lst (as.map V.ref)) hl
    have lenA:as.length=ns.length:=pt.length
    have lenN:ns.length=kvs.length:=by rw[perm.length_eq,zB]
    -- each key is there
    have keyAt:∀ i (h1:i<as.length),∃ a b c:Int,H' as[i]=some (.tup [.int a,.int b])/\valV kvs [Sum.inl a,Sum.inl b]=some (V.int c)/\TieOk n (a,b,c)/\ns[i]?=some [a,b]:=fun i h1=>by
     have h2:i<ns.length:=by exact zh7 h1 lenA
     have e1:=Paired.at pt i h1 h2
     have m1:ns[i]∈kvs.map (fun kv=>unkey kv.1):=perm.mem_iff.mp (zBG h2)
     obtain⟨kv,hkv,e2⟩:=zAP.mp m1
     obtain⟨a,b,c,e3,ok⟩:=W.inv.1 kv hkv
     rw[e3]at e2
     have e4:ns[i]=[a,b]:=e2.symm
     rw[e4]at e1
     have m2:[Sum.inl a,Sum.inl b]∈kvs.map (·.1):=zAP.mpr ⟨kv,hkv,by rw[e3]⟩
     obtain⟨v,v1,v2⟩:=valV_mem m2
     obtain⟨a',b',c',e5,ok'⟩:=W.inv.1 _ v2
     cases e5
     exact⟨a,b,c',e1,v1,ok',by rw[zF h2,e4]⟩
    refine comp_list (K:=K) (a:=l) (xs:=as.map V.ref) (fun i ys G=>Same (upd H' l (.lst (as.map V.ref))) G/\∃ (bs:List Addr) (tl:List Tie),ys=bs.map V.ref/\Paired (fun b x=>G b=some (.tup (tieV x))) bs tl/\(∀ x∈tl,TieOk n x)/\tl.map (fun x=>[x.1,x.2.1])=ns.take i) (by rw[zB,sizeLine_eq];exact zew n1 n30 cb len lenA lenN) ⟨Same.refl _,[],[],rfl,.nil,(fun _ h=>nomatch h),rfl⟩ (fun i ys G _ pp=>pp.1.seq (SqL.of upd_same)) ?_ ?_
    ·rintro i x ys G hi ⟨sm,bs,tl,rfl,pr,oks,eks⟩
     obtain⟨il,e⟩:=zZ.mp hi
     rw[zB]at il
     rw[zBC]at e
     subst e
     obtain⟨a,b,c,ha,hv,ok,nsi⟩:=keyAt i il
     have ha2:G as[i]=some (.tup [.int a,.int b]):=sm _ _ (by rw[upd_ne (ne_of_none ha hl)];exact ha)
     have hd2:G d=some (.dT kvs):=sm _ _ W1.dic
     have g0:DGet G d (V.ref as[i]) (valV kvs [Sum.inl a,Sum.inl b]):=DGet.t hd2 ha2
     rw[hv]at g0
     refine⟨⟨rfl,trivial⟩,tTru_if ?_⟩
     refine⟨_,rfl,_,rfl,_,rfl,d,_,rfl,g0,(by show 1<=sizeLine;decide),fun t1 ht1=>⟨as[i],t1,[.int a,.int b],[.int c],rfl,rfl,SqT.of (by rw[upd_ne (ne_of_none ha2 ht1)];exact ha2),SqT.of upd_same,(fun z=>nomatch z),(by show 3<=sizeLine;decide),(fun z=>nomatch z),fun _ t2 ht2=>?_⟩⟩
     have sm2:Same G (upd (upd G t1 (.tup [.int c])) t2 (.tup ([.int a,.int b]++[.int c]))):=(Same.new ht1).trans (Same.new ht2)
     refine⟨sm.trans sm2,bs++[t2],tl++[(a,b,c)],by rw[zAQ];rfl,?_,fun x hx=>?_,?_⟩
     ·refine Paired.snoc (Paired.mapP pr fun b x e=>sm2 _ _ e) upd_same
     ·rcases zAB.mp hx with z | z
      ·exact oks x z
      ·rw[zAA.mp z];exact ok
     ·obtain⟨ni,ne⟩:=zZ.mp nsi
      rw[zAQ,eks,List.take_succ_eq_append_getElem ni,ne]
      rfl
    ·rintro ys G yl ⟨sm,bs,tl,rfl,pr,oks,eks⟩ D hD
     rw[zB]at yl
     refine⟨D,_,rfl,.inl ⟨SqL.of upd_same,fun ts hts=>⟨(by show 2<=sizeLine;decide),fun t ht=>?_⟩⟩⟩
     have s1:Same G (upd G D (.lst (bs.map V.ref))):=Same.new hD
     have s2:Same (upd G D (.lst (bs.map V.ref))) (upd (upd G D (.lst (bs.map V.ref))) ts (.tup (bs.map V.ref))):=Same.new hts
     have s3:=Same.new (o:=.tup [.int n,.ref ts]) ht
     have sA:=sm.trans (s1.trans (s2.trans s3))
     have kA:Kept p H (upd (upd (upd G D (.lst (bs.map V.ref))) ts (.tup (bs.map V.ref))) t (.tup [.int n,.ref ts])):=W1.kep.trans fun b o _ e=>sA b o e
     have bA:BoxAt (upd (upd (upd G D (.lst (bs.map V.ref))) ts (.tup (bs.map V.ref))) t (.tup [.int n,.ref ts])) p (N+1000):=by
      obtain⟨a,b,c,e,r1,r2,r3⟩:=W1.box
      exact⟨a,b,c,sA _ _ e,r1,r2,by exact zez n1 n30 cb r3⟩
     refine q t tl _ ?_ ⟨⟨ts,bs,upd_same,s3 _ _ upd_same,Paired.mapP pr fun b x e=>s3 _ _ (s2 _ _ (s1 _ _ e))⟩,?_⟩ oks ?_ bA kA
     ·have f1:H' t=none:=(Same.new hl).free (sm.free (s1.free (s2.free ht)))
      exact W.kep.free W.box f1
     ·have:=pr.length
      rw[zB]at yl
      lia
     ·rw[zBV (by rw[zB];exact zAG (Eq.symm lenA))]at eks
      have nd:ns.Nodup:=perm.nodup_iff.mpr W.inv.nodup
      have st:ns.Pairwise (fun x y=>Srt.lexlt x y=true):=(pw.and nd).imp fun {x y} z=>by
       cases e:Srt.lexlt x y with
       |true=>rfl
       |false=>exact absurd (Srt.lexlt_total x y e z.1) z.2
      rw[<- eks,List.pairwise_map]at st
      exact st
end
end K75
namespace L2
open PySem PySem.W PyProof.Rows Srt
noncomputable def Ite(K:PySem.W.Frag)(l:Addr):It :=
  ⟨fun i H=>∃ xs x,SqL K H l xs/\xs[i]?=some x,
   fun i H v H'=>∃ T x,v = .ref T/\H T=none/\H'=upd H T (.tup [.int i,x])/\∀ xs,SqL K H l xs->xs[i]?=some x,
   fun i H=>∃ xs,SqL K H l xs/\xs.length<=i⟩
theorem for_enum{K:PySem.W.Frag}{l:Addr}{xs:List V}{g:TG}{tb:TS}{D:Ends}{σ:St}{H:Hp}(Pv:Nat->St->Hp->Prop)(h0:Pv 0 σ H)(hl:∀ i σ H,i<=xs.length->Pv i σ H->SqL K H l xs)
  (hs:∀ i x σ H T,xs[i]?=some x->Pv i σ H->H T=none->g (.ref T) σ (upd H T (.tup [.int i,x])) fun σ2 H2=>tb { D with nx:=Pv (i+1),ct:=Pv (i+1),bk:=D.nx } σ2 H2) (hd:∀ σ H,Pv xs.length σ H->D.nx σ H) :
  ∃ W:Nat->Nat->St->Hp->Prop,(∃ m,W 0 m σ H)/\∀ i m σ H,W i m σ H ->
   ((Ite K l).stop i H/\D.nx σ H)\/((Ite K l).go i H/\∃ N:St->Hp->Prop,(∀ σ' H',N σ' H'->∃ m',m'<m/\W (i+1) m' σ' H')/\∀ x H',(Ite K l).yld i H x H'->g x σ H' fun σ2 H2=>tb { D with nx:=N,ct:=N,bk:=D.nx } σ2 H2):=by
 refine⟨fun i m σ H=>m=xs.length-i/\i<=xs.length/\Pv i σ H,⟨xs.length,by simp,zAO _,h0⟩,?_⟩
 rintro i m σ H ⟨rfl,hi,p⟩
 have q:=hl i σ H hi p
 by_cases hlt:i<xs.length
 ·refine .inr ⟨⟨xs,xs[i],q,by simp[hlt]⟩,Pv (i+1),fun σ' H' p'=>⟨xs.length-(i+1),by exact zaj hlt,rfl,hlt,p'⟩,fun x H' y=>?_⟩
  obtain⟨T,x',e1,hT,e2,y⟩:=y
  subst e1
  subst e2
  exact hs i x' σ H T (y xs q) p hT
 ·have e:i=xs.length:=by exact zj7 hi hlt
  subst e
  exact .inl ⟨⟨xs,q,zH _⟩,hd σ H p⟩
open PySem PySem.Spec PySem.W PyProof.Rows
open PySem PySem.Spec PySem.W PyProof.Rows
open PySem PySem.Spec PySem.W PyProof.Rows
open PySem PySem.W PyProof.Rows
open PySem PyProof.Rows
section
variable{K:PySem.W.Frag}{a D:Addr}{xs:List V}{b:Bool}{g:TG}{tc:TT}{tk tv:TE}{cap:List (Option Nat)}{σ:St}{H1:Hp}{Q:VK}
noncomputable def ItB(b:Bool)(K:PySem.W.Frag)(a:Addr):It:=match b with
 |true=>Itt K a
 |false=>Itl K a
noncomputable def iSeq(b:Bool)(K:PySem.W.Frag)(tl:TE):TI:=fun σ H R=>tl σ H fun x H1=>ExS x (fun a=>∃ xs,SqB b K H1 a xs) fun a=>R (ItB b K a) H1
theorem pi_seq{X:Cx}{tg l:Expr}{tl:TE}(b:Bool)(hl:PE X l tl):PI X tg l (iSeq b X.K tl):=by
 cases b
 ·exact pi_list hl
 ·exact pi_tup hl
theorem comp_seq{te:TE}{a:Addr}{xs:List V}(P:Nat->List V->Hp->Prop)(hz:xs.length<=sizeLine)(p0:P 0 [] H1)(hl:∀ i ys H,i<=xs.length->P i ys H->SqB b K H a xs)
  (hs:∀ i x ys H,xs[i]?=some x->P i ys H->g x (capt cap σ) H fun σ2 H2=>Kp (capt cap σ) σ2/\tc σ2 H2 fun b H3=>if b=true then te σ2 H3 fun y H4=>P (i+1) (ys++[y]) H4 else P (i+1) ys H3)
  (hd:∀ ys H,ys.length<=xs.length->P xs.length ys H->∀ D,H D=none->Q (.ref D) (upd H D (.lst ys))):compTurns (ItB b K a) cap σ H1 Q g tc te:=by
 cases b
 ·exact comp_list P hz p0 hl hs hd
 ·exact comp_tup P hz p0 hl hs hd
theorem Same.seqB{H H':Hp}(s:Same H H')(h:SqB b K H a xs):SqB b K H' a xs:=by
 cases b
 ·exact s.seq h
 ·exact s.tupq h
end
open PySem PySem.Spec PySem.W PyProof.Rows
open PySem PySem.W PyProof.Rows Srt
theorem drawsK{prog:Program}{w:World}{A:Around}(hh:A.handled=none)(b:Bool)(it l:Addr)(hne:l≠it)(items:Array Value):Draws prog w A it [it,l] items.size (fun i v=>items[i]?=some v) (fun i h=>ItK b h it l i/\SeqK b h l items)where
 live:=fun _ _ st=>let ⟨o,ho,_⟩:=st.1.lt;⟨o,ho⟩
 frame:=fun _ _ _ st hk=>⟨st.1.to fun o e=>hk it (by simp) o e,st.2.to fun o e=>hk l (by simp) o e⟩
 item:=fun i s Q E hi st hQ=>nextK_item st.1 st.2 (x:=items[i]) (by simp[hi]) fun h' hit' hs'=>hQ _ h' s.toks (by simp[hi]) ⟨hit',st.2.to fun o e=>hs'.extBut _ _ hne e⟩ hs'
 done:=fun s Q E st hE=>nextK_end hh st.1 st.2 (by simp) hE
noncomputable abbrev enO(it:Addr):Obj:={ cls:=.type "enumerate",data:=.fields #[.none,.bool false,.ref it,rawInt 0,.none,.none] }
theorem enumK_new(b:Bool)(l:Addr)(xs:Array Value):Meets (Builtin.«enumerate.__new__» ⟨[.type "enumerate",.ref l],[]⟩) (fun _ R s=>SeqK b s.heap l xs/\R (.ok (.ret (.ref (s.heap.push (itO b l)).objs.size))) { s with heap:=(s.heap.push (itO b l)).push (enO s.heap.objs.size) }) :=
 .of_wp fun prog w A R s h=>by
  obtain⟨hp,g,d,tk,os⟩:=s
  obtain⟨hl,h⟩:=h
  have hsub:=sub_enumerate
  have hL:SeqK b (Shared.heap ⟨hp,g,d,tk,os⟩) l xs:=hl
  wp_walk using pyIterK hL
  refine wpAny_stack_any fun st=>zE ?_
  split
  ·rename_i c _ _ _ _ _
   cases(c == Value.type "enumerate") <;> (wp_walk using pyIterK hL;exact⟨_,rfl,h⟩)
  ·wp_walk using pyIterK hL
   exact⟨_,rfl,h⟩
theorem call_enumK{prog:Program}{w:World}{A:Around}{E:Value->Shared->Prop}{s:Shared}{b:Bool}{l:Addr}{items:Array Value}{Q:Value->Shared->Prop}(hL:SeqK b s.heap l items)
  (h:∀ h',IsEnum h' (s.heap.objs.size+1) s.heap.objs.size 0 .none->ItK b h' s.heap.objs.size l 0->(∀ b o,s.heap.get? b=some o->h'.get? b=some o)->Q (.ref (s.heap.objs.size+1)) { s with heap:=h' }):wpAny (model prog w) A (call (.type "enumerate") [.ref l]) Q E s:=by
 refine callType_new F.called_enumerate (by decide) (F.typeCall_enumerate_1 _) (F.newCall_enumerate_1 _) (fun obj=>F.args_object_init_2 obj _) F.entry_enumerate_new (enumK_new b l items) ⟨hL,?_⟩
 have hz:(s.heap.push (itO b l)).objs.size=s.heap.objs.size+1:=Heap.size_push ..
 show _/\_
 rw[hz]
 have he:IsEnum ((s.heap.push (itO b l)).push (enO s.heap.objs.size)) (s.heap.objs.size+1) s.heap.objs.size 0 .none:=by
  have:=zU (s.heap.push (itO b l)) (o:=enO s.heap.objs.size) rfl
  rw[hz]at this
  exact this
 exact⟨⟨_,he,rfl⟩,h _ he ((ItK.new s.heap).to fun o e=>zD _ e) fun b o x=>zD _ (zD _ x)⟩
theorem enumK_end{prog:Program}{w:World}{A:Around}{E:Value->Shared->Prop}{s:Shared}{b:Bool}{e it l:Addr}{i:Nat}{items:Array Value}{old:Value}{Q:Option Value->Shared->Prop}(hh:A.handled=none)(he:IsEnum s.heap e it i old)(hit:ItK b s.heap it l i)(hl:SeqK b s.heap l items)(hx:items[i]?=none)
  (q:∀ g,Heap.ExtBut it s.heap g->Q none { s with heap:=g }):wpAny (model prog w) A (pyNext (.ref e)) Q E s:=by
 have ty:s.TypeIs (.ref e) "enumerate":=⟨_,he,rfl⟩
 unfold pyNext;refine zA (wpAny_attempt (wpAny_callSpecial?_slot (name:=Str.ofString "__next__") ty F.slot_enumerate_next (wpAny_call_entry F.slot_enumerate_next ty F.entry_enumerate_next ?_ (F.args_enumerate_next_1 _))))
 show wpAny _ _ (field (.ref e) 2 >>= _) _ _ _;refine zA (wpAny_field he rfl (x:=.ref it) rfl (zA (nextK_end hh hit hl hx fun g y hg hy=>?_)))
 obtain⟨o,ho,hc⟩:=hy
 refine zA (wpAny_isInstance (T:="StopIteration") (b:=true) ⟨o,ho,hc⟩ isSubtype_stop (zE (q _ hg)))
noncomputable def IteB(b:Bool)(K:PySem.W.Frag)(l:Addr):It :=
  ⟨fun i H=>∃ xs x,SqB b K H l xs/\xs[i]?=some x,
   fun i H v H'=>∃ T x,v = .ref T/\H T=none/\H'=upd H T (.tup [.int i,x])/\∀ xs,SqB b K H l xs->xs[i]?=some x,
   fun i H=>∃ xs,SqB b K H l xs/\xs.length<=i⟩
theorem turn_enumB(b:Bool){P:Program}{w:World}{K:PySem.W.Frag}{es:List Expr}{kk:Nat}{pos:Pos}(e it l:Addr)(ne:e≠it):Turn P w K (.Tuple es kk pos) (IteB b K l) [e,it] e
  (fun i h=>(∃ old,IsEnum h e it i old)/\ItK b h it l i)where
 mem:=by simp
 obj:=fun i h st b hb=>by
  obtain⟨⟨old,he⟩,h1⟩:=st
  simp only[zW,or_false,zAT]at hb
  rcases hb with z | z
  ·rw[z];exact⟨_,he,fun v z=>by cases z⟩
  ·rw[z]
   exact h1.lt
 keep:=fun i h h' st k=>by
  obtain⟨⟨old,he⟩,h1⟩:=st
  exact⟨⟨old,k e (by simp) _ he⟩,h1.to fun o e=>k it (by simp) o e⟩
 item:=by
  intro X hP hw hK hc i pins s σ H E I hf st hg
  subst hP hw hK
  obtain⟨⟨old,he⟩,h1⟩:=st
  obtain⟨xs,x,q1,hx⟩:=hg
  obtain⟨us,r1,p1,_⟩:=I.seqB q1
  obtain⟨u,hu,ru⟩:=r1.get hx
  have hn:H s.heap.objs.size=none:=I.hok.fresh (zH _)
  have lit:l≠it:=I.offB q1 (hf it (by simp))
  have lee:l≠e:=I.offB q1 (hf e (by simp))
  have hlt:i<us.toArray.size:=by rw[zQ];exact(zZ.mp hu).1
  refine wpAny_pyNext_enum_itemD (drawsK (A:=X.A.in1) (I.ok.hd hc) b it l lit us.toArray) he ⟨h1,p1⟩ hlt ne (by simp[ne,Ne.symm lee]) fun u' g tk hP e1 st1 t1 sz kp=>⟨_,rfl,?_⟩
  have eu:u'=u:=by
   have hP:us.toArray[i]?=some u':=hP
   rw[List.getElem?_toArray,hu]at hP
   exact(Option.some.inj hP).symm
  subst eu
  have n1:=st1.1
  refine wpAny_letOwnedTupleGo_enum e1 fun g' e2 sb=>?_
  have zlt:e≠s.heap.objs.size:=zAC (zK he)
  have kp2:∀ b o,b∉[e,it]->s.heap.get? b=some o->g'.get? b=some o:=fun b o nb z=>by
   simp only[zW,zAT,or_false,not_or]at nb
   exact sb.extBut _ _ nb.1 (kp b o nb.1 nb.2 z)
  have I2:Inv X pins σ (upd H s.heap.objs.size (.tup [.int i,x])) { s with heap:=g',toks:=tk+1 }:=I.turnedN (t':=tk+1) (ch:=[e,it]) (a:=s.heap.objs.size) (ob:=.tup [.int i,x]) hf kp2 (zH _) (show ObjOk X.prog X.w _ g' _ (.tup [.int i,x])from⟨by show 2<=sizeLine;decide,[.int i tk,u'],.cons ⟨_,rfl⟩ (.cons ru .nil),⟨_,sb.extBut _ _ (Ne.symm zlt) t1,rfl,0,rfl⟩⟩)
  refine⟨.ref s.heap.objs.size,_,I2,rfl,⟨_,x,rfl,hn,rfl,fun xs' h=>by rw[I.seqB_inj h q1];exact hx⟩,⟨⟨_,by have e3:=e2;exact_mod_cast e3⟩,n1.to fun o z=>sb.extBut _ _ (Ne.symm ne) z⟩,fun b hb=>?_⟩
  have bo:∃ o,s.heap.get? b=some o:=by
   simp only[zW,or_false,zAT]at hb
   rcases hb with z | z
   ·rw[z];exact⟨_,he⟩
   ·rw[z];obtain⟨o,e,_⟩:=h1.lt;exact⟨o,e⟩
  obtain⟨o,z⟩:=bo
  rw[upd_ne (zAC (zK z))]
  exact(hf b hb).1
 done:=by
  intro X hP hw hK hc i pins s σ H E I hf st hg
  subst hP hw hK
  obtain⟨⟨old,he⟩,h1⟩:=st
  obtain⟨xs,q1,le⟩:=hg
  obtain⟨us,r1,p1,_⟩:=I.seqB q1
  have e1:=r1.length
  refine enumK_end (I.ok.hd hc) he h1 p1 (by simp;exact zh9 le (Eq.symm e1)) fun g kp=>⟨rfl,?_⟩
  refine I.turnedL (t':=s.toks) (ch:=[e,it]) hf fun b o nb z=>?_
  simp only[zW,zAT,or_false,not_or]at nb
  exact kp b o nb.2 z
 self:=fun _ _ _ _ _ st h=>by
  obtain⟨⟨old,he⟩,h1⟩:=st
  exact wpAny_pyIter_enum he h
noncomputable def iEnumB(b:Bool)(K:PySem.W.Frag)(ta:TA):TI:=fun σ H R=>ta σ H fun vs H1=>∃ l,vs=[.ref l]/\(∃ xs,SqB b K H1 l xs)/\R (IteB b K l) H1
theorem pi_enumB(b:Bool){X:Cx}{es:List Expr}{kk:Nat}{tpos:Pos}{a:Expr}{ta:TA}{p pos:Pos}(hg:Gl X "enumerate")(hm:X.mg "enumerate" = none)(ha:PA X [a] ta)(hs:starEach [a] X.env=[(false,eval a X.env)]:=by rfl) :
  PI X (.Tuple es kk tpos) (.Call (.Name "enumerate" p) [a] [] pos) (iEnumB b X.K ta):=by
 intro pins s σ H R I h
 refine Call_ (ld_blt I hg hm boot_enumerate (PyProof.Rows.callWith_type1 (thn (ha pos pins s σ H _ I h) fun us s1 ⟨vs,H1,I1,r1,q1⟩=>?_) (by rw[hs];rfl) (by rfl)))
 obtain⟨l,e,⟨xs,q1⟩,q⟩:=q1
 subst e
 obtain⟨u,rfl,rx⟩:=Vals.one r1
 cases rx
 obtain⟨us,_,p1,_⟩:=I1.seqB q1
 refine call_enumK p1 fun g' e1 h1 kp=>?_
 refine wpAny_pyIter_enum e1 ⟨s1.heap.objs.size+1,_,_,_,H1,rfl,I1.kept (t':=s1.toks) kp,turn_enumB b _ s1.heap.objs.size l (zCA (zAY _)),⟨⟨_,e1⟩,h1⟩,fun b hb=>?_,q⟩
 have le:s1.heap.objs.size<=b:=by
  simp only[zW,or_false,zAT]at hb
  rcases hb with e | e
  ·rw[e];exact zI _ 1
  ·rw[e];exact zH _
 exact I1.fpOk le (I1.hok.fresh le)
end L2
namespace Srt
open PySem PySem.W PyProof.Rows
@[reducible] noncomputable def κI:KeyKind where
 α:=Int
 blt a b:=decide (a<b)
 irrefl a:=by simp
 trans a b c h k:=by simp at h k ⊢;exact zcf h k
 negTrans a b c h:=by simp at h ⊢;lia
 total a b h k:=by simp at h k;exact zhl h k
 keyOf v:=match v with
  | .int i _=>some i
  | _=>none
 dflt:=(0:Int)
theorem κI_of{v:Value}{i:Int}(h:κI.keyOf v=some i):∃ t,v = .int i t:=by
 cases v with
 |int j t =>
  have e:j=i:=Option.some.inj h
  subst e
  exact⟨t,rfl⟩
 | _=>cases h
theorem ltI_ok{prog:Program}{w:World}{A:Around}{s:Shared}:LtOk κI oneType' prog w A s:=by
 intro E x y a b Q st hk ha hb q
 obtain⟨t,e1⟩:=κI_of ha
 obtain⟨u,e2⟩:=κI_of hb
 rw[lt'_eq]
 refine wpS_bind (wpS_get ?_)
 rw[hk,keyLt'_oneType,e1,e2]
 refine wpS_bind (wpS_lift (wpAny_attempt (oneLt_int ⟨rfl,?_⟩)))
 exact wpS_pure q
end Srt
namespace L2
open PySem PySem.W PyProof.Rows Srt
section
variable{X:Cx}{pins:List (Addr×Obj)}{σ:St}{H:Hp}{s:Shared}
theorem collect_kept{g:Heap}{vs:List Value}:∀ b u,g.get? b=some u->((g.push (seqObj "list" #[] 0)).update g.objs.size (Obj.mapSeq (·++vs.toArray))).get? b=some u:=fun b u e=>by
 rw[Heap.get?_update_ne _ _ _ _ (zAC (zK e))]
 exact zD _ e
theorem ints_perm:∀ {ws vs:List Value}{ns:List Int},ws.Perm vs->Vals (ns.map V.int) vs->∃ ms:List Int,Vals (ms.map V.int) ws/\ms.Perm ns:=by
 intro ws vs ns hp r
 have hI:=intsAre_of r
 have all:∀ v∈vs,∃ i t,v=Value.int i t:=by
  intro v hv
  obtain⟨j,hj,e⟩:=zBO hv
  have l:=r.length
  rw[zB]at l
  obtain⟨u,e2,t,e3⟩:=r.get (i:=j) (x:=V.int (ns[j]'(by exact zh8 hj l))) (by rw[zAJ,zF (by exact zh8 hj l)];rfl)
  rw[zF hj,e]at e2
  cases e2
  exact⟨_,t,e3⟩
 let f:Value->Int:=fun v=>match v with
  | .int i _=>i
  | _=>0
 have key:∀ {us:List Value}{ks:List Int},Vals (ks.map V.int) us->us.map f=ks:=by
  intro us
  induction us with
  |nil=>intro ks r;cases ks with
   |nil=>rfl
   |cons _ _=>cases r
  |cons u us ih=>intro ks r;cases ks with
   |nil=>cases r
   |cons k ks =>
    cases r with
    |cons r1 r2 =>
     obtain⟨t,e⟩:=r1
     rw[zAS,ih r2,e]
 refine⟨ws.map f,?_,?_⟩
 ·have all':∀ v∈ws,∃ i t,v=Value.int i t:=fun v hv=>all v (hp.mem_iff.mp hv)
  clear hp
  induction ws with
  |nil=>exact .nil
  |cons w ws ih =>
   obtain⟨i,t,e⟩:=all' w (zX ..)
   refine .cons ⟨t,by rw[e]⟩ (ih fun v hv=>all' v (zP _ hv))
 ·rw[<- key r]
  exact hp.map f
theorem call_sortedI:CallR X (.builtin "sorted") (fun xs H Q=>∃ (l:Addr) (ns:List Int),xs=[V.ref l]/\SqL X.K H l (ns.map V.int)/\ns.length<128 /\
  ∀ (l':Addr) (ms:List Int),H l'=none->ms.Perm ns->ms.Pairwise (·<=·)->Q (.ref l') (upd H l' (.lst (ms.map V.int)))):=by
 intro pins s σ H xs us Q I r h
 obtain⟨l,ns,rfl,hq,hlen,q⟩:=h
 obtain⟨u,rfl,rx⟩:=vals1 r
 cases rx
 obtain⟨its,r',pl,hz⟩:=I.list hq
 have li:=r'.length
 rw[zB]at li
 refine Calls.call_function_entry kind_sorted plain_sorted entry_sorted (args_sorted1 _) ?_
 unfold Builtin.«sorted»
 refine zA (m:=checkCount "sorted" 1 1 _) (zE (zA (collect_list pl.isList ?_ (by rw[sizeLine_eq];exact zh9 (zl4 hlen rfl) (Eq.symm li)))))
 generalize hh':(s.heap.push (seqObj "list" #[] 0)).update s.heap.objs.size (Obj.mapSeq (·++its.toArray))=h'
 have kp:∀ b u,s.heap.get? b=some u->h'.get? b=some u:=hh'▸collect_kept
 refine zA (wpAny_newList ?_ (by rw[sizeLine_eq];exact zh9 (zl4 hlen rfl) (Eq.symm li)))
 have gL:(h'.push (seqObj "list" its.toArray 0)).get? h'.objs.size=some (seqObj "list" its.toArray 0):=zU _ rfl
 have I1:Inv X pins σ H { s with heap:=h' }:=I.kept (t':=s.toks) kp
 have kp2:∀ b u,h'.get? b=some u->(h'.push (seqObj "list" its.toArray 0)).get? b=some u:=fun b u e=>zD _ e
 have hI:=intsAre_of r'
 have keys:KeysOf κI (pairsOf its):=fun p hp=>by
  rw[pairsOf_toList]at hp
  obtain⟨e1,e2⟩:=Srt.mem_zip_self hp
  obtain⟨j,hj,e⟩:=zBO e2
  obtain⟨u,g1,t,g2⟩:=r'.get (i:=j) (x:=V.int (ns[j]'(by exact zh8 hj li))) (by rw[zAJ,zF (by exact zh8 hj li)];rfl)
  rw[zF hj,e]at g1
  cases g1
  rw[e1,g2]
  exact⟨_,rfl⟩
 refine zA (wpAny_holding (wpAny_call_entry slot_list_sort ⟨_,gL,rfl⟩ entry_list_sort (sort_at (κ:=κI) (kd:=oneType') gL keys (by exact zit hlen li) (fun l2 g k=>⟨ltI_ok,fun R hR=>?_⟩) fun ws g c pw sw kp3 gg=>⟨_,rfl,?_⟩) (args_list_sort _)))
 ·match its,hI,l2 with
  |v1 :: v2 :: rest,hI,_ =>
   rw[keyKind_ints hI]
   exact zE hR
  |[],_,l2=>simp at l2
  |[_],_,l2=>simp at l2
 ·obtain⟨ms,rm,pm⟩:=ints_perm pw r'
  have lw:=rm.length
  rw[zB]at lw
  refine zE ⟨_,rfl,.ref h'.objs.size,_,I1.laid (t':=s.toks) (a:=h'.objs.size) (o:=.lst (ms.map V.int)) (fun b u e=>kp3 b u (zAC (zK e)) (kp2 b u e)) (zH _) (show ObjOk X.prog X.w _ g _ (.lst (ms.map V.int))from⟨?_,ws,c,rm,gg⟩),rfl,q _ ms (I1.hok.fresh (zH _)) pm ?_⟩
  ·rw[zB,pm.length_eq,sizeLine_eq];exact zl4 hlen rfl
  ·rw[zBS]
   intro i j hi hj ij
   have z:=sw i j (zT ij) (by exact zh7 hj lw)
   have kk:∀ m (hm:m<ms.length),KK κI (pairsOf ws) m=ms[m]:=fun m hm=>by
    obtain⟨u,g1,t,g2⟩:=rm.get (i:=m) (x:=V.int ms[m]) (by rw[zAJ,zF hm];rfl)
    have e:(pairsOf ws)[m]?=some (u,u):=by
     have hm':m<ws.length:=by exact zh7 hm lw
     have:ws[m]=u:=by rw[zF hm']at g1;exact Option.some.inj g1
     simp[pairsOf,hm',this]
    unfold KK
    rw[e,g2]
    rfl
   rw[kk i hi,kk j hj]at z
   have z':decide (ms[j]<ms[i])=false:=z
   have:=of_decide_eq_false z'
   lia
end
open PySem PySem.W PyProof.Rows
open PySem PySem.W PyProof.Rows Srt
open PySem PySem.W PyProof.Rows HT
end L2
namespace SetA
open PySem
noncomputable def Rs(xs:Array Nat):Prop:=∀ i j,i<j->j<xs.size->xs.getD i 0<xs.getD j 0
theorem getD_any{xs:Array Nat}{i d e:Nat}(h:i<xs.size):xs.getD i d=xs.getD i e:=by
 rw[zAF,zAF,zS h]
 rfl
theorem go_spec{xs:Array Nat}{j:Nat}(r:Rs xs):∀ (fuel lo hi:Nat),hi-lo<=fuel->lo<=hi->hi<=xs.size->(∀ i,i<lo->xs.getD i 0<j)->(∀ i,hi<=i->i<xs.size->j<=xs.getD i 0) ->
  SetTable.below.go xs j fuel lo hi<=xs.size/\(∀ i,i<SetTable.below.go xs j fuel lo hi->xs.getD i 0<j)/\∀ i,SetTable.below.go xs j fuel lo hi<=i->i<xs.size->j<=xs.getD i 0
 | 0,lo,hi,f,l,h,a,b=>by
  have e:lo=hi:=by exact zhk f l
  subst e
  exact⟨h,a,b⟩
 |fuel+1,lo,hi,f,l,h,a,b=>by
  unfold SetTable.below.go
  by_cases c:lo<hi
  ·rw[if_pos c]
   dsimp only
   have m1:(lo+hi) / 2<hi:=by exact zfq c
   have m0:lo<=(lo+hi) / 2:=by exact zex c
   have ms:(lo+hi) / 2<xs.size:=by exact zi9 m1 h
   rw[getD_any (e:=0) ms]
   by_cases d:xs.getD ((lo+hi) / 2) 0<j
   ·rw[if_pos d]
    refine go_spec r fuel _ hi (by omega) (by exact zn5 m1) h (fun i hi'=>?_) b
    by_cases e:i=(lo+hi) / 2
    ·rw[e];exact d
    ·have:=r i ((lo+hi) / 2) (by exact zj5 e (zi6 hi')) ms
     exact zi9 this (zT d)
   ·rw[if_neg d]
    refine go_spec r fuel lo _ (by omega) m0 (by exact zT ms) a fun i hi' his=>?_
    by_cases e:i=(lo+hi) / 2
    ·rw[e];exact zj3 d
    ·have:=r ((lo+hi) / 2) i (by exact zjc hi' e) his
     exact zC (zj3 d) (zT this)
  ·rw[if_neg c]
   have e:lo=hi:=by exact zj7 l c
   subst e
   exact⟨h,a,b⟩
theorem below_spec{xs:Array Nat}(r:Rs xs)(j:Nat):SetTable.below xs j<=xs.size/\(∀ i,i<SetTable.below xs j->xs.getD i 0<j)/\∀ i,SetTable.below xs j<=i->i<xs.size->j<=xs.getD i 0 :=
 go_spec r xs.size 0 xs.size (by lia) (by lia) (zH _) (fun i h=>absurd h (by lia)) fun i h h'=>absurd h' (by lia)
theorem below_at{xs:Array Nat}(r:Rs xs){i j:Nat}(h:xs[i]?=some j):SetTable.below xs j=i:=by
 obtain⟨p1,p2,p3⟩:=below_spec r j
 obtain⟨hi,e⟩:=zAI.mp h
 have eg:xs.getD i 0=j:=by rw[zAF,h];rfl
 by_cases a:i<SetTable.below xs j
 ·have:=p2 i a
  lia
 ·by_cases b:SetTable.below xs j=i
  ·exact b
  ·have lt:SetTable.below xs j<i:=by exact zj5 b (zj3 a)
   have:=r _ i lt hi
   have:=p3 (SetTable.below xs j) (zH _) (by exact zi9 lt (zT hi))
   omega
theorem slot_live{t:SetTable}(r:Rs t.place){i j:Nat}(h:t.place[i]?=some j):t.slot j = .live i:=by
 unfold SetTable.slot
 dsimp only
 rw[below_at r h,h]
 simp
theorem slot_empty{t:SetTable}(hd:t.dummies = #[]){j:Nat}(h:∀ i:Nat,t.place[i]?≠some j):t.slot j = .empty:=by
 unfold SetTable.slot
 dsimp only
 have e:(t.place[SetTable.below t.place j]? == some j)=false:=zCH.mpr fun z=>h _ (by simpa using z)
 rw[e,hd]
 rfl
theorem insertAt_get{α:Type}(xs:Array α)(p:Nat)(x:α)(hp:p<=xs.size)(i:Nat):(SetTable.insertAt xs p x)[i]?=if i<p then xs[i]? else if i=p then some x else xs[i-1]?:=by
 have e:(SetTable.insertAt xs p x).toList=xs.toList.take p++x :: xs.toList.drop p:=by
  rw[SetTable.toList_insertAt]
 rw[<- zAH,e]
 have ht:(xs.toList.take p).length=p:=by rw[zAD,zO];lia
 by_cases a:i<p
 ·rw[if_pos a,List.getElem?_append_left (by lia),List.getElem?_take_of_lt a,zAH]
 ·rw[if_neg a,List.getElem?_append_right (by lia),ht]
  by_cases b:i=p
  ·rw[if_pos b,b,Nat.sub_self]
   rfl
  ·rw[if_neg b]
   obtain⟨k,hk⟩:∃ k,i-p=k+1:=⟨i-p-1,by lia⟩
   rw[hk,List.getElem?_cons_succ,List.getElem?_drop,<- zAH]
   congr 1
   lia
noncomputable def adv(mask:Nat)(p:SetTable.Probe):SetTable.Probe:=SetTable.advance { (default:SetTable)with mask } p
noncomputable def st0(mask:Nat)(h:Int):SetTable.Probe:=SetTable.probeStart { (default:SetTable)with mask } h
noncomputable def pth(mask:Nat)(h:Int):Nat->SetTable.Probe
 | 0=>st0 mask h
 |k+1=>adv mask (pth mask h k)
theorem adv_dummy{mask:Nat}{p:SetTable.Probe}(h:p.dummy=none):(adv mask p).dummy=none:=by
 unfold adv SetTable.advance
 split
 ·exact h
 ·exact h
theorem pth_dummy{mask:Nat}{h:Int}:∀ k,(pth mask h k).dummy=none
 | 0=>rfl
 |k+1=>adv_dummy (pth_dummy k)
section
variable{t:SetTable}{hashAt:Nat->Int}{h:Int}
theorem go_empty{fuel:Nat}{k:Nat}(e:t.slot (pth t.mask h k).j = .empty):SetTable.probe.go t hashAt h (fuel+1) (pth t.mask h k)=some (.empty (pth t.mask h k).j none):=by
 unfold SetTable.probe.go
 rw[e,pth_dummy]
theorem go_skip{fuel:Nat}{k i:Nat}(e:t.slot (pth t.mask h k).j = .live i)(eh:hashAt i≠h):SetTable.probe.go t hashAt h (fuel+1) (pth t.mask h k)=SetTable.probe.go t hashAt h fuel (pth t.mask h (k+1)):=by
 conv=>lhs;unfold SetTable.probe.go
 rw[e]
 dsimp only
 rw[if_neg (by simp[eh])]
 rfl
theorem go_on{n:Nat}:∀ {fuel k:Nat},k<=n->n<k+fuel->(∀ m,k<=m->m<n->∃ i,t.slot (pth t.mask h m).j = .live i/\hashAt i≠h)->∃ fuel',SetTable.probe.go t hashAt h fuel (pth t.mask h k)=SetTable.probe.go t hashAt h (fuel' + 1) (pth t.mask h n)
 | 0,k,a,b,_=>absurd b (by exact zdv a b)
 |fuel+1,k,a,b,sk=>by
  by_cases e:k=n
  ·subst e;exact⟨fuel,rfl⟩
  ·obtain⟨i,e1,e2⟩:=sk k (zH _) (by exact zj5 e a)
   obtain⟨f',ef⟩:=go_on (n:=n) (fuel:=fuel) (k:=k+1) (by exact zn5 (zj5 e a)) (by exact zbj b) fun m hm1 hm2=>sk m (by exact zj2 hm1) hm2
   exact⟨f',by rw[go_skip e1 e2,ef]⟩
end
theorem run_on{mask:Nat}{h:Int}:∀ (r k:Nat),(pth mask h k).more=r->(pth mask h (k+r)).i=(pth mask h k).i/\(pth mask h (k+r)).perturb=(pth mask h k).perturb/\(pth mask h (k+r)).more=0
 | 0,k,e=>⟨rfl,rfl,e⟩
 |r+1,k,e=>by
  have st:pth mask h (k+1) = { pth mask h k with j:=(pth mask h k).j+1,more:=(pth mask h k).more-1 }:=by
   show adv mask (pth mask h k)=_
   unfold adv SetTable.advance
   rw[if_pos (by lia)]
  have e1:(pth mask h (k+1)).more=r:=by rw[st];show(pth mask h k).more-1=r;lia
  obtain⟨a,b,c⟩:=run_on (mask:=mask) (h:=h) r (k+1) e1
  have ek:k+(r+1)=k+1+r:=by lia
  rw[ek,a,b,c,st]
  exact⟨rfl,rfl,rfl⟩
noncomputable def rn(mask:Nat)(h:Int):Nat->Nat×Nat
 | 0=>(SetTable.bits h % (mask+1),SetTable.bits h)
 |m+1=>SetTable.leap mask (rn mask h m).1 (rn mask h m).2
theorem runEnd_le{mask i:Nat}:SetTable.runEnd mask i-i<=9:=by
 unfold SetTable.runEnd
 split <;> lia
theorem rn_at{mask:Nat}{h:Int}:∀ m,∃ k,k<=10 * m/\(pth mask h k).j=(rn mask h m).1/\(pth mask h k).i=(rn mask h m).1/\(pth mask h k).perturb=(rn mask h m).2/\(pth mask h k).more<=9
 | 0=>⟨0,zH _,rfl,rfl,rfl,runEnd_le⟩
 |m+1=>by
  obtain⟨k,hk,e1,e2,e3,e4⟩:=rn_at (mask:=mask) (h:=h) m
  obtain⟨a,b,c⟩:=run_on (mask:=mask) (h:=h) _ k rfl
  refine⟨k+(pth mask h k).more+1,by exact zfk hk e4,?_⟩
  have st:pth mask h (k+(pth mask h k).more+1) = { pth mask h (k+(pth mask h k).more)with j:=(rn mask h (m+1)).1,more:=SetTable.runEnd mask (rn mask h (m+1)).1-(rn mask h (m+1)).1,i:=(rn mask h (m+1)).1,perturb:=(rn mask h (m+1)).2 }:=by
   show adv mask (pth mask h (k+(pth mask h k).more))=_
   unfold adv SetTable.advance
   rw[if_neg (by exact zbl c),a,b,e2,e3]
   rfl
  rw[st]
  exact⟨rfl,rfl,rfl,runEnd_le⟩
theorem bits_lt(h:Int):SetTable.bits h<2 ^ 64:=by
 unfold SetTable.bits
 have h1:=Int.emod_nonneg h (show(2 ^ 64:Int)≠0 by decide)
 have h2:=Int.emod_lt_of_pos h (show(0:Int)<2 ^ 64 by decide)
 lia
theorem rn_pert{mask:Nat}{h:Int}:∀ m,(rn mask h m).2=SetTable.bits h / 32 ^ m
 | 0=>by show SetTable.bits h=_;rw[Nat.pow_zero,Nat.div_one]
 |m+1=>by
  show(rn mask h m).2 / 32=_
  rw[rn_pert m,Nat.div_div_eq_div_mul,Nat.pow_succ]
theorem rn_still{mask:Nat}{h:Int}{m:Nat}(hm:13<=m):(rn mask h m).2=0:=by
 rw[rn_pert]
 refine Nat.div_eq_of_lt (zG (bits_lt h) ?_)
 exact zC (show 2 ^ 64<=32 ^ 13 by decide) (Nat.pow_le_pow_right (by decide) hm)
noncomputable def ff(mask x:Nat):Nat:=(x * 5+1) % (mask+1)
noncomputable def it(mask:Nat):Nat->Nat->Nat
 | 0,x=>x
 |n+1,x=>it mask n (ff mask x)
theorem it_add{mask:Nat}:∀ (a b x:Nat),it mask (a+b) x=it mask b (it mask a x)
 | 0,b,x=>by rw[zBU];rfl
 |a+1,b,x=>by
  rw[show a+1+b=(a+b)+1 by exact zcx]
  exact it_add a b (ff mask x)
theorem rn_it{mask:Nat}{h:Int}:∀ n,(rn mask h (13+n)).1=it mask n (rn mask h 13).1
 | 0=>rfl
 |n+1=>by
  have e:it mask (n+1) (rn mask h 13).1=ff mask (it mask n (rn mask h 13).1):=it_add n 1 _
  rw[e,<- rn_it n]
  show((rn mask h (13+n)).1 * 5+1+(rn mask h (13+n)).2 / 32) % (mask+1)=_
  rw[rn_still (by lia),Nat.zero_div,Nat.add_zero]
  rfl
noncomputable def trail(mask:Nat):Nat->Nat->List Nat
 | 0,_=>[]
 |n+1,x=>x :: trail mask n (ff mask x)
noncomputable def roundB(mask:Nat):Bool:=((List.range (mask+1)).all fun j=>(trail mask (mask+1) 0).contains j) && it mask (mask+1) 0 == 0
theorem round7:roundB 7=true:=by decide +kernel
theorem round31:roundB 31=true:=by decide +kernel
theorem round127:roundB 127=true:=by decide +kernel
theorem round511:roundB 511=true:=by decide +kernel
theorem trail_it{mask:Nat}:∀ {n x j:Nat},j∈trail mask n x->∃ k,k<n/\it mask k x=j
 | 0,x,j,h=>nomatch h
 |n+1,x,j,h=>by
  rcases zW.mp h with e | h
  ·exact⟨0,by exact Nat.succ_pos n,e.symm⟩
  ·obtain⟨k,hk,e⟩:=trail_it h
   exact⟨k+1,by exact zL (zn5 hk) (zAY n),e⟩
theorem round_ok{mask:Nat}(r:roundB mask=true){a j:Nat}(ha:a<=mask)(hj:j<=mask):∃ n,n<=mask/\it mask n a=j:=by
 unfold roundB at r
 rw[zBJ,List.all_eq_true]at r
 obtain⟨r1,r2⟩:=r
 have r2:it mask (mask+1) 0=0:=by simpa using r2
 obtain⟨x,hx,ex⟩:=trail_it (by simpa using r1 a (zBP.mpr (by exact zL ha (zAY mask))))
 obtain⟨y,hy,ey⟩:=trail_it (by simpa using r1 j (zBP.mpr (by exact zL hj (zAY mask))))
 by_cases c:x<=y
 ·refine⟨y-x,by lia,?_⟩
  rw[<- ex,<- it_add,show x+(y-x)=y by exact zac c]
  exact ey
 ·refine⟨mask+1+y-x,by omega,?_⟩
  rw[<- ex,<- it_add,show x+(mask+1+y-x)=(mask+1)+y by lia,it_add,r2]
  exact ey
noncomputable def Mk(mask:Nat):Prop:=mask=7\/mask=31\/mask=127\/mask=511
theorem Mk.round{mask:Nat}(m:Mk mask):roundB mask=true:=by
 rcases m with rfl | rfl | rfl | rfl
 ·exact round7
 ·exact round31
 ·exact round127
 ·exact round511
theorem rn_le{mask:Nat}{h:Int}:∀ m,(rn mask h m).1<=mask
 | 0=>zBF (Nat.mod_lt _ (Nat.succ_pos _))
 |m+1=>zBF (Nat.mod_lt _ (Nat.succ_pos _))
theorem reach{mask:Nat}(m:Mk mask)(h:Int){j:Nat}(hj:j<=mask):∃ k,k<10 * SetTable.turns mask/\(pth mask h k).j=j:=by
 obtain⟨n,hn,e⟩:=round_ok m.round (rn_le (mask:=mask) (h:=h) 13) hj
 obtain⟨k,hk,e1,_⟩:=rn_at (mask:=mask) (h:=h) (13+n)
 refine⟨k,?_,by rw[e1,rn_it,e]⟩
 unfold SetTable.turns
 exact zjf hn hk
open PySem
noncomputable def Occ(t:SetTable)(j:Nat):Prop:=∃ i:Nat,t.place[i]?=some j
theorem some_free{t:SetTable}(r:Rs t.place)(fl:t.place.size<=t.mask):∃ j,j<=t.mask/\¬ Occ t j:=by
 by_cases c:∃ j,j<=t.mask/\¬ Occ t j
 ·exact c
 ·have all:∀ j,j<=t.mask->Occ t j:=fun j hj=>Classical.byContradiction fun z=>c ⟨j,hj,z⟩
  have up:∀ j,j<=t.mask->∃ i:Nat,j<=i/\t.place[i]?=some j:=by
   intro j
   induction j with
   |zero =>
    intro h
    obtain⟨i,e⟩:=all 0 h
    exact⟨i,zAO _,e⟩
   |succ j ih =>
    intro h
    obtain⟨i,hi,e⟩:=ih (by lia)
    obtain⟨i',e'⟩:=all (j+1) h
    refine⟨i',?_,e'⟩
    obtain⟨l1,_⟩:=zAI.mp e
    obtain⟨l2,_⟩:=zAI.mp e'
    have g1:t.place.getD i 0=j:=by rw[zAF,e];rfl
    have g2:t.place.getD i' 0=j+1:=by rw[zAF,e'];rfl
    by_cases x:i<i'
    ·lia
    ·by_cases y:i=i'
     ·subst y;lia
     ·have:=r i' i (by lia) l1
      lia
  obtain⟨i,hi,e⟩:=up t.mask (zH _)
  obtain⟨l,_⟩:=zAI.mp e
  lia
structure First(t:SetTable)(h:Int)(n:Nat):Prop where
 lt:n<10 * SetTable.turns t.mask
 free:¬ Occ t (pth t.mask h n).j
 occ:∀ m,m<n->Occ t (pth t.mask h m).j
theorem first_ex{t:SetTable}(r:Rs t.place)(fl:t.place.size<=t.mask)(mk:Mk t.mask)(h:Int):∃ n,First t h n:=by
 obtain⟨j,hj,nf⟩:=some_free r fl
 obtain⟨k,hk,e⟩:=reach mk h hj
 have gen:∀ b,(∃ n,n<=b/\¬ Occ t (pth t.mask h n).j)->∃ n,n<=b/\¬ Occ t (pth t.mask h n).j/\∀ m,m<n->Occ t (pth t.mask h m).j:=by
  intro b
  induction b with
  |zero =>
   rintro⟨n,hn,z⟩
   exact⟨n,hn,z,fun m hm=>absurd hm (by exact zcb hn hm)⟩
  |succ b ih =>
   rintro⟨n,hn,z⟩
   by_cases c:∃ n,n<=b/\¬ Occ t (pth t.mask h n).j
   ·obtain⟨n,h1,h2,h3⟩:=ih c
    exact⟨n,by exact zC h1 (zI b 1),h2,h3⟩
   ·refine⟨n,hn,z,fun m hm=>Classical.byContradiction fun y=>c ⟨m,by exact zi6 (zi9 hm hn),y⟩⟩
 obtain⟨n,h1,h2,h3⟩:=gen k ⟨k,zH _,by rw[e];exact nf⟩
 exact⟨n,by exact zL h1 hk,h2,h3⟩
structure Tb(es:Array (Int×Value))(t:SetTable):Prop where
 rs:Rs t.place
 dm:t.dummies = #[]
 sz:t.place.size=es.size
 msk:Mk t.mask
 fl:t.place.size<=t.mask
 inv:∀ (i j:Nat) (e:Int×Value),t.place[i]?=some j->es[i]?=some e->∃ n,(pth t.mask e.1 n).j=j/\∀ m,m<n->Occ t (pth t.mask e.1 m).j
theorem Tb.slot{es:Array (Int×Value)}{t:SetTable}(T:Tb es t)(j:Nat):(¬ Occ t j->t.slot j = .empty)/\∀ i:Nat,t.place[i]?=some j->t.slot j = .live i :=
 ⟨fun h=>slot_empty T.dm fun i e=>h ⟨i,e⟩,fun i e=>slot_live T.rs e⟩
theorem fits{es:Array (Int×Value)}{t:SetTable}(T:Tb es t):t.fill<=t.mask:=by
 unfold SetTable.fill
 rw[T.dm]
 have:=T.fl
 simpa using this
theorem Tb.put{es:Array (Int×Value)}{t:SetTable}(T:Tb es t){n0:Nat}{h:Int}{x:Value}(F:First t h n0)(room:t.place.size<t.mask) :
  Tb (SetTable.insertAt es (t.put (pth t.mask h n0).j).2 (h,x)) (t.put (pth t.mask h n0).j).1:=by
 generalize hj:(pth t.mask h n0).j=j
 have nf:¬ Occ t j:=by rw[<- hj];exact F.free
 obtain⟨p1,p2,p3⟩:=below_spec T.rs j
 have ep:(t.put j).2=SetTable.below t.place j:=rfl
 have epl:(t.put j).1.place=SetTable.insertAt t.place (SetTable.below t.place j) j:=rfl
 have edm:(t.put j).1.dummies = #[]:=by
  show(if SetTable.has t.dummies j then _ else t.dummies) = #[]
  rw[T.dm]
  rfl
 have emk:(t.put j).1.mask=t.mask:=rfl
 rw[ep]
 generalize SetTable.below t.place j=p at p1 p2 p3 epl
 have ne:∀ i:Nat,i<t.place.size->t.place.getD i 0≠j:=fun i hi z=>nf ⟨i,by
  rw[<- z,zAF,zS hi]
  rfl⟩
 have sizes:(SetTable.insertAt t.place p j).size=t.place.size+1:=by
  have:=(SetTable.insertAt_perm t.place p j).length_eq
  simpa using this
 have sizes2:(SetTable.insertAt es p (h,x)).size=es.size+1:=by
  have:=(SetTable.insertAt_perm es p (h,x)).length_eq
  simpa using this
 have getD':∀ i,(SetTable.insertAt t.place p j).getD i 0=if i<p then t.place.getD i 0 else if i=p then j else t.place.getD (i-1) 0:=fun i=>by
  rw[zAF,insertAt_get _ _ _ p1]
  by_cases a:i<p
  ·rw[if_pos a,if_pos a,zAF]
  ·rw[if_neg a,if_neg a]
   by_cases b:i=p
   ·rw[if_pos b,if_pos b];rfl
   ·rw[if_neg b,if_neg b,zAF]
 have occ':∀ k,Occ t k->Occ (t.put j).1 k:=fun k ⟨i,e⟩=>by
  by_cases a:i<p
  ·exact⟨i,by rw[epl,insertAt_get _ _ _ p1,if_pos a];exact e⟩
  ·exact⟨i+1,by rw[epl,insertAt_get _ _ _ p1,if_neg (by exact zhn a),if_neg (by exact zhh a)];exact e⟩
 refine⟨?_,edm,by rw[epl,sizes,sizes2,T.sz],by rw[emk];exact T.msk,by rw[epl,sizes,emk];exact zn5 room,?_⟩
 ·rw[epl]
  intro a b ab hb
  rw[sizes]at hb
  rw[getD' a,getD' b]
  by_cases a1:a<p
  ·rw[if_pos a1]
   by_cases b1:b<p
   ·rw[if_pos b1];exact T.rs a b ab (by exact zi9 b1 p1)
   ·rw[if_neg b1]
    by_cases b2:b=p
    ·rw[if_pos b2];exact p2 a a1
    ·rw[if_neg b2]
     by_cases c:a=b-1
     ·exact zgn ab a1 b1 b2 c
     ·exact T.rs a (b-1) (by exact zeb ab c) (by exact zav sizes ab hb)
  ·rw[if_neg a1]
   have b1:¬ b<p:=by exact zgt ab a1
   have b2:¬ b=p:=by exact zhr ab a1
   rw[if_neg b1,if_neg b2]
   by_cases a2:a=p
   ·rw[if_pos a2]
    have h1:=p3 (b-1) (by exact zig ab a2) (by exact zay sizes ab hb a2)
    have h2:=ne (b-1) (by exact zay sizes ab hb a2)
    lia
   ·rw[if_neg a2]
    exact T.rs (a-1) (b-1) (by exact zdb ab a1 a2) (by exact zav sizes ab hb)
 ·intro i k e hk he
  rw[epl,insertAt_get _ _ _ p1]at hk
  rw[insertAt_get _ _ _ (by rw[<- T.sz];exact p1)]at he
  rw[emk]
  by_cases a:i<p
  ·rw[if_pos a]at hk he
   obtain⟨n,e1,e2⟩:=T.inv i k e hk he
   exact⟨n,e1,fun m hm=>occ' _ (e2 m hm)⟩
  ·rw[if_neg a]at hk he
   by_cases b:i=p
   ·rw[if_pos b]at hk he
    cases hk
    cases he
    exact⟨n0,hj,fun m hm=>occ' _ (F.occ m hm)⟩
   ·rw[if_neg b]at hk he
    obtain⟨n,e1,e2⟩:=T.inv (i-1) k e hk he
    exact⟨n,e1,fun m hm=>occ' _ (e2 m hm)⟩
open PySem
section
variable{mask:Nat}{h:Int}
noncomputable def sm(mask:Nat)(h:Int):Nat->Nat
 | 0=>0
 |m+1=>sm mask h m+(SetTable.runEnd mask (rn mask h m).1-(rn mask h m).1)+1
theorem run_j:∀ (r k:Nat),r<=(pth mask h k).more->(pth mask h (k+r)).j=(pth mask h k).j+r/\(pth mask h (k+r)).more=(pth mask h k).more-r
 | 0,k,e=>⟨rfl,rfl⟩
 |r+1,k,e=>by
  obtain⟨a,b⟩:=run_j r k (by exact zj2 e)
  have st:pth mask h (k+r+1) = { pth mask h (k+r)with j:=(pth mask h (k+r)).j+1,more:=(pth mask h (k+r)).more-1 }:=by
   show adv mask (pth mask h (k+r))=_
   unfold adv SetTable.advance
   rw[if_pos (by exact zgu e a b)]
  show(pth mask h (k+r+1)).j=_/\(pth mask h (k+r+1)).more=_
  rw[st]
  refine⟨?_,?_⟩
  ·show(pth mask h (k+r)).j+1=_
   exact zcq a
  ·show(pth mask h (k+r)).more-1=_
   exact zgw e a b
theorem sm_at:∀ m,(pth mask h (sm mask h m)).j=(rn mask h m).1/\(pth mask h (sm mask h m)).i=(rn mask h m).1/\(pth mask h (sm mask h m)).perturb=(rn mask h m).2/\(pth mask h (sm mask h m)).more=SetTable.runEnd mask (rn mask h m).1-(rn mask h m).1
 | 0=>⟨rfl,rfl,rfl,rfl⟩
 |m+1=>by
  obtain⟨e1,e2,e3,e4⟩:=sm_at m
  obtain⟨a,b,c⟩:=run_on (mask:=mask) (h:=h) _ (sm mask h m) rfl
  have es:sm mask h (m+1)=sm mask h m+(pth mask h (sm mask h m)).more+1:=by
   show sm mask h m+_+1=_
   rw[e4]
  have st:pth mask h (sm mask h (m+1)) = { pth mask h (sm mask h m+(pth mask h (sm mask h m)).more)with j:=(rn mask h (m+1)).1,more:=SetTable.runEnd mask (rn mask h (m+1)).1-(rn mask h (m+1)).1,i:=(rn mask h (m+1)).1,perturb:=(rn mask h (m+1)).2 }:=by
   rw[es]
   show adv mask (pth mask h (sm mask h m+(pth mask h (sm mask h m)).more))=_
   unfold adv SetTable.advance
   rw[if_neg (by exact zbl c),a,b,e2,e3]
   rfl
  rw[st]
  exact⟨rfl,rfl,rfl,rfl⟩
theorem sm_j{m k:Nat}(hk:k<=SetTable.runEnd mask (rn mask h m).1-(rn mask h m).1):(pth mask h (sm mask h m+k)).j=(rn mask h m).1+k:=by
 obtain⟨e1,_,_,e4⟩:=sm_at (mask:=mask) (h:=h) m
 rw[(run_j k _ (by rw[e4];exact hk)).1,e1]
theorem sm_run(n:Nat):∀ M,n<sm mask h M->∃ m,m<M/\sm mask h m<=n/\n<sm mask h (m+1)
 | 0,l=>absurd l (Nat.not_lt_zero _)
 | M+1,l=>by
  by_cases c:n<sm mask h M
  ·obtain⟨m,a,b⟩:=sm_run n M c
   exact⟨m,by exact zi9 a (zI M 1),b⟩
  ·exact⟨M,by exact zAY M,by exact zj3 c,l⟩
theorem sm_le{a b:Nat}(l:a<=b):sm mask h a<=sm mask h b:=by
 induction l with
 |refl=>exact zH _
 |step _ ih =>
  refine zC ih ?_
  show _<=sm mask h _+_+1
  exact zet
theorem runEnd_mask{i:Nat}(hi:i<=mask):SetTable.runEnd mask i<=mask:=by
 unfold SetTable.runEnd
 split <;> omega
theorem runEnd_ge{i:Nat}:i<=SetTable.runEnd mask i:=by
 unfold SetTable.runEnd
 split <;> lia
theorem pth_le(n:Nat):(pth mask h n).j<=mask:=by
 have big:n<sm mask h (n+1):=by
  have:∀ m,m<=sm mask h m:=by
   intro m
   induction m with
   |zero=>exact zAO _
   |succ m ih =>
    show m+1<=sm mask h m+_+1
    lia
  have:=this (n+1)
  lia
 obtain⟨m,_,a,b⟩:=sm_run n (n+1) big
 obtain⟨k,rfl⟩:∃ k,n=sm mask h m+k:=⟨n-sm mask h m,by lia⟩
 have b:sm mask h m+k<sm mask h m+(SetTable.runEnd mask (rn mask h m).1-(rn mask h m).1)+1:=b
 rw[sm_j (by lia)]
 have:=runEnd_mask (rn_le (mask:=mask) (h:=h) m)
 have:=runEnd_ge (mask:=mask) (i:=(rn mask h m).1)
 omega
theorem free_spec{owner:Array (Option Nat)}{n0 m0:Nat}(h1:sm mask h m0<=n0)(h2:n0<sm mask h (m0+1))(hf:(owner.getD (pth mask h n0).j (some 0)).isNone=true)(ho:∀ n,n<n0->(owner.getD (pth mask h n).j (some 0)).isNone=false) :
  ∀ fuel m,m<=m0->m0<m+fuel->SetTable.layClean.free mask owner fuel (rn mask h m).1 (rn mask h m).2=some (pth mask h n0).j
 | 0,m,a,b=>absurd b (by exact zdv a b)
 |fuel+1,m,a,b=>by
  unfold SetTable.layClean.free
  have ge:=runEnd_ge (mask:=mask) (i:=(rn mask h m).1)
  have pos:∀ k,k<SetTable.runEnd mask (rn mask h m).1+1-(rn mask h m).1->(pth mask h (sm mask h m+k)).j=(rn mask h m).1+k:=fun k hk=>sm_j (by exact zjk ge hk)
  by_cases e:m=m0
  ·subst e
   obtain⟨k0,rfl⟩:∃ k,n0=sm mask h m+k:=⟨n0-sm mask h m,by lia⟩
   have h2:sm mask h m+k0<sm mask h m+(SetTable.runEnd mask (rn mask h m).1-(rn mask h m).1)+1:=h2
   have hk0:k0<SetTable.runEnd mask (rn mask h m).1+1-(rn mask h m).1:=by exact zik ge h2
   have fd:((List.range (SetTable.runEnd mask (rn mask h m).1+1-(rn mask h m).1)).find? fun k=>(owner.getD ((rn mask h m).1+k) (some 0)).isNone)=some k0:=by
    rw[List.find?_range_eq_some]
    refine⟨by rw[<- pos k0 hk0];exact hf,zBP.mpr hk0,fun j hj=>?_⟩
    rw[<- pos j (by exact zi9 hj (zT hk0)),ho _ (by exact zbk hj)]
    rfl
   rw[fd,pos k0 hk0]
  ·have fd:((List.range (SetTable.runEnd mask (rn mask h m).1+1-(rn mask h m).1)).find? fun k=>(owner.getD ((rn mask h m).1+k) (some 0)).isNone)=none:=by
    rw[List.find?_eq_none]
    intro k hk
    have hk:=zBP.mp hk
    have le:=sm_le (mask:=mask) (h:=h) (show m+1<=m0 by exact zn5 (zj5 e a))
    have le:sm mask h m+(SetTable.runEnd mask (rn mask h m).1-(rn mask h m).1)+1<=sm mask h m0:=le
    rw[<- pos k hk,ho _ (by lia)]
    decide
   rw[fd]
   exact free_spec h1 h2 hf ho fuel (m+1) (by exact zn5 (zj5 e a)) (by exact zbj b)
end
open PySem
structure OwnI(mask:Nat)(hs:List Int)(k:Nat)(owner:Array (Option Nat))(pos:Nat->Nat):Prop where
 size:owner.size=mask+1
 cnt:owner.toList.countP Option.isSome=k
 at_:∀ i,i<k->owner[pos i]?=some (some i)
 of_:∀ (j i:Nat),owner[j]?=some (some i)->i<k/\pos i=j
 way:∀ i h,i<k->hs[i]?=some h->∃ n,(pth mask h n).j=pos i/\∀ m,m<n->∃ i':Nat,owner[(pth mask h m).j]?=some (some i')
theorem own_nil{mask:Nat}{hs:List Int}:OwnI mask hs 0 (Array.replicate (mask+1) none) (fun _=>0):=by
 refine⟨by simp,?_,fun i h=>absurd h (by lia),fun j i e=>?_,fun i h l=>absurd l (by lia)⟩
 ·rw[Array.toList_replicate,List.countP_replicate]
  rfl
 ·rw[Array.getElem?_replicate]at e
  split at e <;> simp at e
theorem own_free{mask:Nat}{hs:List Int}{k:Nat}{owner:Array (Option Nat)}{pos:Nat->Nat}(O:OwnI mask hs k owner pos)(mk:Mk mask)(hk:k<=mask)(h:Int) :
  ∃ n,SetTable.layClean.free mask owner (SetTable.turns mask) (SetTable.bits h % (mask+1)) (SetTable.bits h)=some (pth mask h n).j/\owner[(pth mask h n).j]?=some none/\∀ m,m<n->∃ i':Nat,owner[(pth mask h m).j]?=some (some i'):=by
 have gd:∀ j,j<=mask->∃ o,owner[j]?=some o/\owner.getD j (some 0)=o:=fun j hj=>by
  have hl:j<owner.size:=by rw[O.size];exact zL hj (zAY mask)
  refine⟨owner[j],zS hl,?_⟩
  rw[zAF,zS hl]
  rfl
 obtain⟨j,hj,ej⟩:∃ j,j<=mask/\owner[j]?=some none:=by
  refine Classical.byContradiction fun z=>?_
  have all:∀ o∈owner.toList,Option.isSome o=true:=fun o ho=>by
   obtain⟨i,hi,e⟩:=zBO ho
   rw[zO,O.size]at hi
   cases o with
   |some x=>rfl
   |none=>exact absurd ⟨i,by exact zi6 hi,by rw[<- zAH,zF (by rw[zO,O.size];exact hi),e]⟩ z
  have:=List.countP_eq_length.mpr all
  rw[O.cnt,zO,O.size]at this
  lia
 obtain⟨nn,hn,en⟩:=round_ok mk.round (rn_le (mask:=mask) (h:=h) 13) hj
 have e0:(pth mask h (sm mask h (13+nn))).j=j:=by rw[(sm_at _).1,rn_it,en]
 have gen:∀ b,(∃ n,n<=b/\owner[(pth mask h n).j]?=some none)->∃ n,n<=b/\owner[(pth mask h n).j]?=some none/\∀ m,m<n->¬ owner[(pth mask h m).j]?=some none:=by
  intro b
  induction b with
  |zero =>
   rintro⟨n,hn,z⟩
   exact⟨n,hn,z,fun m hm=>absurd hm (by exact zcb hn hm)⟩
  |succ b ih =>
   rintro⟨n,hn,z⟩
   by_cases c:∃ n,n<=b/\owner[(pth mask h n).j]?=some none
   ·obtain⟨n,h1,h2,h3⟩:=ih c
    exact⟨n,by exact zC h1 (zI b 1),h2,h3⟩
   ·exact⟨n,hn,z,fun m hm y=>c ⟨m,by exact zi6 (zi9 hm hn),y⟩⟩
 obtain⟨n0,h1,h2,h3⟩:=gen (sm mask h (13+nn)) ⟨_,zH _,by rw[e0];exact ej⟩
 have lt:n0<sm mask h (13+nn+1):=by
  show n0<sm mask h (13+nn)+_+1
  exact zge h1
 obtain⟨m0,a,b,c⟩:=sm_run n0 _ lt
 have occ:∀ m,m<n0->∃ i':Nat,owner[(pth mask h m).j]?=some (some i'):=fun m hm=>by
  obtain⟨o,eo,_⟩:=gd _ (pth_le (mask:=mask) (h:=h) m)
  cases o with
  |none=>exact absurd eo (h3 m hm)
  |some i=>exact⟨i,eo⟩
 refine⟨n0,?_,h2,occ⟩
 refine free_spec (m0:=m0) b c ?_ (fun n hn=>?_) (SetTable.turns mask) 0 (zAO _) (by unfold SetTable.turns;exact zhq hn a)
 ·obtain⟨o,eo,eg⟩:=gd _ (pth_le (mask:=mask) (h:=h) n0)
  rw[h2]at eo
  cases eo
  rw[eg]
  rfl
 ·obtain⟨o,eo,eg⟩:=gd _ (pth_le (mask:=mask) (h:=h) n)
  obtain⟨i,ei⟩:=occ n hn
  rw[ei]at eo
  cases eo
  rw[eg]
  rfl
theorem own_set{mask:Nat}{hs:List Int}{k:Nat}{owner:Array (Option Nat)}{pos:Nat->Nat}(O:OwnI mask hs k owner pos){h:Int}(hh:hs[k]?=some h){n:Nat}(e:owner[(pth mask h n).j]?=some none)(occ:∀ m,m<n->∃ i':Nat,owner[(pth mask h m).j]?=some (some i')) :
  OwnI mask hs (k+1) (owner.setIfInBounds (pth mask h n).j (some k)) (fun i=>if i=k then(pth mask h n).j else pos i):=by
 generalize hj:(pth mask h n).j=j at e
 obtain⟨hl,eg⟩:=zAI.mp e
 have get:∀ i:Nat,(owner.setIfInBounds j (some k))[i]?=if i=j then some (some k)else owner[i]?:=fun i=>by
  rw[Array.getElem?_setIfInBounds]
  by_cases c:i=j
  ·subst c
   rw[if_pos rfl,if_pos rfl,if_pos hl]
  ·rw[if_neg (Ne.symm c),if_neg c]
 have keep:∀ q:Nat,(∃ i':Nat,owner[q]?=some (some i'))->∃ i':Nat,(owner.setIfInBounds j (some k))[q]?=some (some i'):=fun q ⟨i',ei⟩=>by
  by_cases c:q=j
  ·exact⟨k,by rw[get,if_pos c]⟩
  ·exact⟨i',by rw[get,if_neg c];exact ei⟩
 refine⟨by rw[Array.size_setIfInBounds];exact O.size,?_,fun i hi=>?_,fun q i ei=>?_,fun i h' hi eh=>?_⟩
 ·rw[Array.toList_setIfInBounds,List.countP_set (by rw[zO];exact hl)]
  have e0:owner.toList[j]'(by rw[zO];exact hl)=none:=by rw[Array.getElem_toList];exact eg
  rw[e0,O.cnt]
  rfl
 ·show(owner.setIfInBounds j (some k))[if i=k then j else pos i]?=_
  by_cases c:i=k
  ·rw[if_pos c,get,if_pos rfl,c]
  ·rw[if_neg c,get]
   have ep:=O.at_ i (by exact zj5 c (zi6 hi))
   rw[if_neg (fun z=>by rw[z,e]at ep;cases ep)]
   exact ep
 ·rw[get]at ei
  show i<k+1/\(if i=k then j else pos i)=q
  by_cases c:q=j
  ·rw[if_pos c]at ei
   cases ei
   exact⟨zAY _,by rw[if_pos rfl,c]⟩
  ·rw[if_neg c]at ei
   obtain⟨a,b⟩:=O.of_ q i ei
   exact⟨by exact zi9 a (zI k 1),by rw[if_neg (by exact zjl a)];exact b⟩
 ·show ∃ n,(pth mask h' n).j=(if i=k then j else pos i)/\_
  by_cases c:i=k
  ·subst c
   rw[hh]at eh
   cases eh
   exact⟨n,by rw[if_pos rfl];exact hj,fun m hm=>keep _ (occ m hm)⟩
  ·obtain⟨n',e1,e2⟩:=O.way i h' (by exact zj5 c (zi6 hi)) eh
   exact⟨n',by rw[if_neg c];exact e1,fun m hm=>keep _ (e2 m hm)⟩
theorem lay_ok{mask:Nat}(mk:Mk mask){hs:List Int}(len:hs.length<=mask){f:Option (Array (Option Nat)×Nat)->Int->Option (Array (Option Nat)×Nat)}(hf:∀ owner k h j,SetTable.layClean.free mask owner (SetTable.turns mask) (SetTable.bits h % (mask+1)) (SetTable.bits h)=some j->f (some (owner,k)) h=some (owner.setIfInBounds j (some k),k+1)) :
  ∀ (r:List Int) (k:Nat) (owner:Array (Option Nat)) (pos:Nat->Nat),k<=hs.length->hs.drop k=r->OwnI mask hs k owner pos->∃ owner' pos',r.foldl f (some (owner,k))=some (owner',hs.length)/\OwnI mask hs hs.length owner' pos'
 |[],k,owner,pos,kl,e,O=>by
  have hk:hs.length<=k:=by
   have:=congrArg List.length e
   rw[zAN]at this
   simp at this
   lia
  have kk:k=hs.length:=by exact zfv kl hk
  subst kk
  exact⟨owner,pos,rfl,O⟩
 |h :: r,k,owner,pos,kl,e,O=>by
  have hk:k<hs.length:=by
   have:=congrArg List.length e
   rw[zAN]at this
   simp at this
   omega
  have hh:hs[k]?=some h:=by
   have:=congrArg (·[0]?) e
   simpa using this
  have er:hs.drop (k+1)=r:=by
   have:=congrArg (List.drop 1) e
   rw[List.drop_drop]at this
   simpa using this
  obtain⟨n,ef,en,occ⟩:=own_free O mk (by exact zT (zi9 hk len)) h
  obtain⟨o',p',e1,e2⟩:=lay_ok mk len hf r (k+1) _ _ (by exact zn5 hk) er (own_set O hh en occ)
  refine⟨o',p',?_,e2⟩
  rw[<- e1,List.foldl_cons,hf _ _ _ _ ef]
theorem fm_get{α β:Type}{f:α->Option β}:∀ {l:List α},(∀ x∈l,(f x).isSome=true)->∀ q:Nat,(l.filterMap f)[q]?=(l[q]?).bind f
 |[],_,q=>by simp
 |x :: l,h,q=>by
  obtain⟨y,ey⟩:=Option.isSome_iff_exists.mp (h x (zX ..))
  rw[List.filterMap_cons,ey]
  cases q with
  |zero=>simp[ey]
  |succ q =>
   rw[List.getElem?_cons_succ,List.getElem?_cons_succ]
   exact fm_get (fun z hz=>h z (zP _ hz)) q
theorem laid_ok{mask finger moves:Nat}{led plain:Bool}{es:Array (Int×Value)}(mk:Mk mask)(len:es.size<=mask) :
  ∃ t' order,SetTable.laid mask finger moves led plain (es.map (·.1))=some (t',order)/\Tb (order.filterMap (es[·]?)) t'/\(order.filterMap (es[·]?)).toList.Perm es.toList/\t'.mask=mask/\t'.led=led/\t'.plain=plain/\t'.moves=moves:=by
 have hl:((es.map (·.1)).toList).length<=mask:=by simpa using len
 obtain⟨owner,pos,lc,O⟩:∃ owner pos,SetTable.layClean mask (es.map (·.1))=some owner/\OwnI mask (es.map (·.1)).toList (es.map (·.1)).toList.length owner pos:=by
  have fin:∀ f:Option (Array (Option Nat)×Nat)->Int->Option (Array (Option Nat)×Nat),(∀ owner k h j,SetTable.layClean.free mask owner (SetTable.turns mask) (SetTable.bits h % (mask+1)) (SetTable.bits h)=some j->f (some (owner,k)) h=some (owner.setIfInBounds j (some k),k+1)) ->
    ∃ owner pos,((es.map (·.1)).toList.foldl f (some (Array.replicate (mask+1) none,0))).map (·.1)=some owner/\OwnI mask (es.map (·.1)).toList (es.map (·.1)).toList.length owner pos:=fun f hf=>by
   obtain⟨owner,pos,e1,O⟩:=lay_ok mk hl hf (es.map (·.1)).toList 0 _ _ (zAO _) rfl own_nil
   exact⟨owner,pos,by rw[e1];rfl,O⟩
  unfold SetTable.layClean
  rw[<- Array.foldl_toList]
  exact fin _ (fun owner k h j e=>by show(SetTable.layClean.free mask owner _ _ _).bind _=_;rw[e];rfl)
 have n:(es.map (·.1)).toList.length=es.size:=by simp
 rw[n]at O
 have hs:∀ i:Nat,(es.map (·.1)).toList[i]?=(es[i]?).map (·.1):=fun i=>by
  rw[zAH,Array.getElem?_map]
 generalize hL:((List.range (mask+1)).filterMap fun j=>(owner.getD j none).map (j,·))=live
 have mem:∀ j i,(j,i)∈live↔owner[j]?=some (some i):=fun j i=>by
  rw[<- hL,List.mem_filterMap]
  constructor
  ·rintro⟨a,ha,e⟩
   have ha:=zBP.mp ha
   have hs':a<owner.size:=by rw[O.size];exact ha
   rw[zAF,zS hs']at e
   have e:(owner[a]).map (a,·)=some (j,i):=e
   cases ho:owner[a]with
   |none=>rw[ho]at e;cases e
   |some x =>
    rw[ho]at e
    cases e
    rw[zS hs',ho]
  ·intro e
   obtain⟨hj,_⟩:=zAI.mp e
   refine⟨j,zBP.mpr (by rw[<- O.size];exact hj),?_⟩
   rw[zAF,e]
   rfl
 have up:live.Pairwise fun a b=>a.1<b.1:=by
  rw[<- hL]
  refine List.Pairwise.filterMap _ (fun a a' l b hb b' hb'=>?_) List.pairwise_lt_range
  obtain⟨x,_,ex⟩:=zCM.mp hb
  obtain⟨y,_,ey⟩:=zCM.mp hb'
  rw[<- ex,<- ey]
  exact l
 have some_:∀ p∈live.map (·.2),(es[p]?).isSome=true:=fun p hp=>by
  obtain⟨⟨j,i⟩,hm,rfl⟩:=zAP.mp hp
  obtain⟨a,_⟩:=O.of_ j i ((mem j i).mp hm)
  rw[zS a]
  rfl
 have tl:(((live.map (·.2)).toArray).filterMap (es[·]?)).toList=(live.map (·.2)).filterMap (es[·]?):=by simp
 have get':∀ q:Nat,(((live.map (·.2)).toArray).filterMap (es[·]?))[q]?=(live[q]?).bind fun p=>es[p.2]?:=fun q=>by
  rw[<- zAH,tl,fm_get some_,zAJ]
  cases live[q]? <;> rfl
 have nd:(live.map (·.2)).Nodup:=by
  rw[List.Nodup,List.pairwise_map]
  refine up.imp_of_mem fun {a b} ha hb l z=>?_
  obtain⟨_,p1⟩:=O.of_ a.1 a.2 ((mem _ _).mp ha)
  obtain⟨_,p2⟩:=O.of_ b.1 b.2 ((mem _ _).mp hb)
  rw[z,p2]at p1
  exact(zdm l p1).elim
 have pm:(live.map (·.2)).Perm (List.range es.size):=by
  rw[List.perm_ext_iff_of_nodup nd List.nodup_range]
  intro i
  rw[zBP]
  constructor
  ·intro hi
   obtain⟨⟨j,i'⟩,hm,rfl⟩:=zAP.mp hi
   exact(O.of_ _ _ ((mem _ _).mp hm)).1
  ·intro hi
   exact zAP.mpr ⟨(pos i,i),(mem _ _).mpr (O.at_ i hi),rfl⟩
 have ll:live.length=es.size:=by
  have:=pm.length_eq
  rw[zB,List.length_range]at this
  exact this
 have pm2:(((live.map (·.2)).toArray).filterMap (es[·]?)).toList.Perm es.toList:=by
  rw[tl,<- filterMap_getElem?_range es]
  exact pm.filterMap _
 refine⟨{ mask,place:=(live.map (·.1)).toArray,dummies:=#[],finger,led,moves,plain },(live.map (·.2)).toArray,?_,?_,pm2,rfl,rfl,rfl,rfl⟩
 ·unfold SetTable.laid
  rw[lc]
  show some _=_
  rw[<- hL]
 ·have pl:∀ q:Nat,((live.map (·.1)).toArray)[q]?=(live[q]?).map (·.1):=fun q=>by
   rw[List.getElem?_toArray,zAJ]
  have occ:∀ j i,(j,i)∈live->Occ { mask,place:=(live.map (·.1)).toArray,dummies:=#[],finger,led,moves,plain } j:=fun j i hm=>by
   obtain⟨q,hq,e⟩:=zBO hm
   exact⟨q,by rw[pl,zF hq,e];rfl⟩
  have sz:(((live.map (·.2)).toArray).filterMap (es[·]?)).size=es.size:=by
   have:=pm2.length_eq
   simpa using this
  refine⟨fun a b ab hb=>?_,rfl,?_,mk,?_,fun q j e hp he=>?_⟩
  ·have hb:b<live.length:=by simpa using hb
   have:=(zBS.mp up) a b (by exact zi9 ab (zT hb)) hb ab
   rw[zAF,zAF,pl,pl,zF (by exact zi9 ab (zT hb)),zF hb]
   exact this
  ·rw[sz,<- ll]
   simp
  ·show((live.map (·.1)).toArray).size<=mask
   have:((live.map (·.1)).toArray).size=live.length:=by simp
   lia
  ·have hp:((live.map (·.1)).toArray)[q]?=some j:=hp
   rw[pl]at hp
   rw[get']at he
   cases hq:live[q]? with
   |none=>rw[hq]at hp;cases hp
   |some p =>
    rw[hq]at hp he
    obtain⟨j',i⟩:=p
    cases hp
    have he:es[i]?=some e:=he
    have hm:(j',i)∈live:=zCV hq
    obtain⟨a,b⟩:=O.of_ _ _ ((mem _ _).mp hm)
    obtain⟨n,e1,e2⟩:=O.way i e.1 a (by rw[hs,he];rfl)
    refine⟨n,by rw[e1];exact b,fun m hm'=>?_⟩
    obtain⟨i',ei⟩:=e2 m hm'
    exact occ _ i' ((mem _ _).mpr ei)
open PySem
open PySem
section
variable{prog:Program}{w:World}{A:Around}{E:Value->Shared->Prop}{s:Shared}{a:Addr}{o:Obj}{es:Array (Int×Value)}{ep:Nat}{t:SetTable}{x:Value}{h:Int}
theorem Tb.fits(T:Tb es t):t.fits es.size=true:=by
 have:=SetA.fits T
 unfold SetTable.fits
 rw[T.sz]
 simp[this]
end
open PySem
open PySem
open PySem
section
variable{prog:Program}{w:World}{A:Around}{E:Value->Shared->Prop}{s:Shared}
variable{a:Addr}{o:Obj}{es:Array (Int×Value)}{ep:Nat}{t:SetTable}{q:Addr}{h:Int}
noncomputable def Lean_(t:SetTable):Prop:=t.place.size * 5<t.mask * 3
theorem stored{h:Heap}(ho:h.get? a=some o)(hd:o.data = .set es ep t)(es':Array (Int×Value))(t':SetTable):(h.update a (Obj.putSet es' t')).get? a=some { o with data:=.set es' (ep+1) t' }:=by
 have:=Heap.get?_update_self (Obj.putSet es' t') ho (by rw[putSet_of es' t' hd];rfl)
 rw[putSet_of es' t' hd]at this
 exact this
end
open PySem L2
section
variable{prog:Program}{w:World}{A:Around}{E:Value->Shared->Prop}{s:Shared}{a:Addr}{T:List Addr}
theorem paired_perm{α β:Type}{F:α->β->Prop}{l l':List α}(p:l'.Perm l):∀ {ks:List β},Paired F l ks->∃ ms,Paired F l' ms/\ms.Perm ks:=by
 induction p with
 |nil=>intro ks h;exact⟨ks,h,.refl _⟩
 |cons x _ ih =>
  intro ks h
  cases h with
  |cons hx t =>
   obtain⟨ms,m1,m2⟩:=ih t
   exact⟨_,.cons hx m1,m2.cons _⟩
 |swap x y l =>
  intro ks h
  cases h with
  |cons hx t =>
   cases t with
   |cons hy t=>exact⟨_,.cons hy (.cons hx t),.swap _ _ _⟩
 |trans _ _ ih1 ih2 =>
  intro ks h
  obtain⟨ms,m1,m2⟩:=ih2 h
  obtain⟨ns,n1,n2⟩:=ih1 m1
  exact⟨ns,n1,n2.trans m2⟩
theorem paired_getL{α β:Type}{F:α->β->Prop}:∀ {l:List α}{ks:List β},Paired F l ks->∀ (i:Nat) (x:α),l[i]?=some x->∃ k,ks[i]?=some k/\F x k:=by
 intro l ks h
 induction h with
 |nil=>intro i x e;simp at e
 |cons h t ih =>
  intro i x e
  cases i with
  |zero=>cases e;exact⟨_,rfl,h⟩
  |succ i=>exact ih i x e
theorem paired_getR{α β:Type}{F:α->β->Prop}:∀ {l:List α}{ks:List β},Paired F l ks->∀ (i:Nat) (k:β),ks[i]?=some k->∃ x,l[i]?=some x/\F x k:=by
 intro l ks h
 induction h with
 |nil=>intro i x e;simp at e
 |cons h t ih =>
  intro i x e
  cases i with
  |zero=>cases e;exact⟨_,rfl,h⟩
  |succ i=>exact ih i x e
end
open PySem L2
open PySem L2
section
variable{prog:Program}{w:World}{A:Around}{E:Value->Shared->Prop}{s:Shared}{T:List Addr}
noncomputable abbrev newO(led:Bool):Obj:={ cls:=.type "set",dict:=none,data:=.set #[] 0 (.fresh 0 0 led) }
theorem new1(x:Value){Q₁:Value->Shared->Prop}(h:Q₁ (.ref s.heap.objs.size) { s with heap:=s.heap.push (newO (!w.params.followText "set-order")) }):codeAny (model prog w) A (.call (.builtin "set.__new__") ⟨[.type "set",x],[]⟩) (wants Q₁ E) s:=by
 refine codeAny_of_tree ?_;show wpAny _ A.in1 (checkBuiltinCall "set.__new__" ⟨[.type "set",x],[]⟩ >>= fun _=>again (.builtin "set.__new__" ⟨[.type "set",x],[]⟩)) _ _ s
 refine zA (wpAny_of_eq (F.newCall_set_1 x) (zE ⟨plainId_quiet F.plain_set_new _,codeAny_builtin F.entry_set_new ?_⟩));rw[Around.under_plainId F.plain_set_new _]
 unfold Builtin.«set.__new__» Builtin.Frozenset.newClass;have y:=sub_set_self;obtain⟨hp,g,d,tk,os⟩:=s
 dsimp only;wp_walk;refine wpAny_askSetting (zE ?_)
 dsimp only;simp only[newObj];refine zA (wpAny_alloc (zE (zE h)))
end
open PySem PySem.W PyProof.Rows
noncomputable abbrev byT(w:World):Bool:=w.params.followText "set-order"
noncomputable def ord(w:World)(a:Addr)(es:Array (Int×Value))(ep:Nat):Array (Int×Value):=if byT w=true then pickOrder (w.params.setOrder a ep) es else es
theorem cut_perm{α:Type}:∀ (i:Nat) (l:List α) (h:i<l.length),(l[i] :: l.eraseIdx i).Perm l
 | 0,_ :: _,_=>.refl _
 |i+1,x :: l,h=>by
  show(l[i]'(zBM h) :: x :: l.eraseIdx i).Perm _
  exact(List.Perm.swap _ _ _).trans ((cut_perm i l (zBM h)).cons x)
theorem pick_go{α:Type}(f:Nat->Nat):∀ (n k:Nat) (l:List α) (out:Array α),l.length=n->(pickOrder.go f n k l out).toList.Perm (out.toList++l)
 | 0,k,l,out,h=>by
  have:l=[]:=List.length_eq_zero_iff.mp h
  subst this
  rw[List.append_nil]
  exact .refl _
 |n+1,k,l,out,h=>by
  have lt:f k % l.length<l.length:=Nat.mod_lt _ (by exact zh7 (Nat.succ_pos n) (Eq.symm h))
  unfold pickOrder.go
  rw[zF lt]
  dsimp only
  refine(pick_go f n (k+1) _ _ (by rw[List.length_eraseIdx_of_lt lt];lia)).trans ?_
  rw[Array.toList_push,zAV]
  exact List.Perm.append_left _ (cut_perm _ l lt)
theorem ord_perm{w:World}{a:Addr}{es:Array (Int×Value)}{ep:Nat}:(ord w a es ep).toList.Perm es.toList:=by
 unfold ord
 split
 ·have:=pick_go (w.params.setOrder a ep) es.size 0 es.toList #[] (by simp)
  simpa[pickOrder]using this
 ·exact .refl _
structure Raw(w:World)(a:Addr)(es:Array (Int×Value))(ep:Nat)(t:SetTable)(g:Heap):Prop where
 get:∃ o,g.get? a=some o/\o.ExactSet/\o.data = .set es ep t
 rs:Rs t.place
 ft:t.fits es.size=true
 pl:t.plain=true
 ld:t.led = !byT w
theorem Raw.to{w:World}{a:Addr}{es:Array (Int×Value)}{ep:Nat}{t:SetTable}{g g':Heap}(x:Raw w a es ep t g)(k:∀ o,g.get? a=some o->g'.get? a=some o):Raw w a es ep t g':=by
 obtain⟨o,h,r⟩:=x.get
 exact⟨⟨o,k o h,r⟩,x.rs,x.ft,x.pl,x.ld⟩
theorem Raw.lt{w:World}{a:Addr}{es:Array (Int×Value)}{ep:Nat}{t:SetTable}{g:Heap}(x:Raw w a es ep t g):a<g.objs.size:=by
 obtain⟨o,h,r⟩:=x.get
 exact zK h
theorem Raw.sz{w:World}{a:Addr}{es:Array (Int×Value)}{ep:Nat}{t:SetTable}{g:Heap}(x:Raw w a es ep t g):t.place.size=es.size:=by
 have:=x.ft
 unfold SetTable.fits at this
 simp only[zBJ,beq_iff_eq]at this
 exact this.1
noncomputable def stAt(w:World)(t:SetTable)(i:Nat):Nat:=if byT w=true then 0 else if i=0 then 0 else t.place.getD (i-1) 0+1
theorem below_st{w:World}{t:SetTable}(r:Rs t.place)(hb:byT w=false){i:Nat}(hi:i<=t.place.size):SetTable.below t.place (stAt w t i)=i:=by
 have e:stAt w t i=if i=0 then 0 else t.place.getD (i-1) 0+1:=by
  unfold stAt
  rw[hb]
  rfl
 rw[e]
 obtain⟨b1,b2,b3⟩:=below_spec r (if i=0 then 0 else t.place.getD (i-1) 0+1)
 by_cases z:i=0
 ·rw[if_pos z]at b1 b2 b3 ⊢
  by_cases c:SetTable.below t.place 0=0
  ·lia
  ·exact absurd (b2 0 (by exact zj8 c)) (by exact zbn)
 ·rw[if_neg z]at b1 b2 b3 ⊢
  generalize SetTable.below t.place (t.place.getD (i-1) 0+1)=b at b1 b2 b3
  have up:i<=b:=by
   refine Nat.le_of_not_lt fun c=>?_
   have:=b3 (i-1) (by lia) (by lia)
   exact(zhw this).elim
  refine zCJ (Nat.le_of_not_lt fun c=>?_) up
  have h1:=b2 i c
  have h2:=r (i-1) i (by exact zh4 (zj8 z)) (by exact zi9 c b1)
  exact(zjh h1 h2).elim
section
variable{prog:Program}{w:World}{A:Around}{E:Value->Shared->Prop}{s:Shared}{a it:Addr}{es:Array (Int×Value)}{ep i:Nat}{t:SetTable}
theorem setsByText_w{Q:Bool->Shared->Prop}(q:Q (byT w) s):wpAny (model prog w) A setsByText Q E s:=by
 unfold setsByText
 exact zA (wpAny_askSetting (zE q))
theorem drawn_no{Q:Bool->Shared->Prop}(x:Raw w a es ep t s.heap)(q:Q false s):wpAny (model prog w) A (setDrawn a) Q E s:=by
 obtain⟨o,h,ex,d⟩:=x.get
 unfold setDrawn
 refine zA (wpAny_setState_of h d x.ft ?_)
 dsimp only
 refine zA (setsByText_w (zE ?_))
 have e:∀ z:Bool,z=false->Q z s:=fun z hz=>by rw[hz];exact q
 refine e _ ?_
 show(_ && (!t.plain && _))=false
 rw[x.pl]
 simp
theorem next_ok{n:Nat}{Q:Option (Value×Nat)->Shared->Prop}(x:Raw w a es ep t s.heap)(hi:i<=es.size)(q:Q (((ord w a es ep)[i]?).map fun e=>(e.2,stAt w t (i+1))) s):wpAny (model prog w) A (setNext a (stAt w t i) i ep) Q E s:=by
 obtain⟨o,h,ex,d⟩:=x.get
 unfold setNext
 refine zA (wpAny_setState_of h d x.ft ?_)
 dsimp only
 refine zA (setsByText_w ?_)
 by_cases hb:byT w=true
 ·rw[if_pos hb]
  simp only[bne_self_eq_false,zBB,if_false]
  refine zA ?_
  unfold setWalk
  refine zA (wpAny_setState_of h d x.ft ?_)
  dsimp only
  refine zA (setsByText_w ?_)
  rw[if_pos hb]
  refine zA (wpAny_askSetting (zE (zE ?_)))
  have e1:ord w a es ep=pickOrder (w.params.setOrder a ep) es:=by unfold ord;rw[if_pos hb]
  have e2:∀ i,stAt w t i=0:=fun i=>by unfold stAt;rw[if_pos hb]
  rw[e1,e2]at q
  rw[e2]
  exact q
 ·have hb':byT w=false:=by simpa using hb
  rw[if_neg hb]
  refine wpAny_ite_split (fun y=>absurd (show(!t.plain && _)=true from y) (by rw[x.pl];simp)) (fun _=>?_)
  refine zA ?_
  show wpAny _ _ (if(!t.led && !es.isEmpty)=true then unsupported _ else pure ()) _ _ _
  rw[x.ld,hb']
  simp only[Bool.not_false,Bool.not_true,Bool.false_and,zBB,if_false]
  refine zE (zE ?_)
  have e1:ord w a es ep=es:=by unfold ord;rw[if_neg hb]
  rw[below_st x.rs hb' (by rw[x.sz];exact hi)]
  rw[e1]at q
  by_cases l:i<es.size
  ·have l2:i<t.place.size:=by rw[x.sz];exact l
   rw[zS l,zS l2]
   rw[zS l]at q
   have e2:stAt w t (i+1)=t.place[i]+1:=by
    unfold stAt
    rw[if_neg hb,if_neg (by exact zgh),Nat.add_sub_cancel]
    simp[Array.getD,l2]
   rw[e2]at q
   exact q
  ·rw[zCB (by exact zj3 l)]at q ⊢
   exact q
noncomputable def ItAt(w:World)(it a:Addr)(t:SetTable)(i n ep:Nat)(g:Heap):Prop:=∃ o,g.get? it=some o/\o.cls = .type "set_iterator"/\o.data = .fields #[.int (stAt w t i:Nat) 0,.int i 0,.ref a,.int n 0,.int ep 0]
theorem it_slot:Slot "set_iterator" "__next__" "set_iterator.__next__":=.of (owner:="set_iterator") (n:="__next__") (by rw[typeLookup_type,builtinLookup_eq_fast];kernel_rfl) (by decide +kernel) (by decide +kernel) (by decide +kernel) (by first | exact .inl (by decide +kernel) | exact .inr (by decide +kernel)) (by rw[isSubtype_type];kernel_rfl)
theorem it_entry:entryFor table "set_iterator.__next__" = some Builtin.«set_iterator.__next__»:=entryFor_of_tree (by kernel_rfl)
theorem it_own:Manifest.owners.lookup (String.ofList ['r','o','t','a','r','e','t','i','_','t','e','s'].reverse)=some Manifest.sig_set_iterator:=by kernel_rfl
theorem it_args(v:Value):argsOk "set_iterator.__next__" ⟨[v],[]⟩:=by
 unfold argsOk;rw[signature?_of (id:="set_iterator.__next__") (n:=['_','_','t','x','e','n','_','_']) (o:=['r','o','t','a','r','e','t','i','_','t','e','s']) (by kernel_rfl) it_own];kernel_rfl
theorem iter_entry:entryFor table "set.__iter__" = some Builtin.«frozenset.__iter__»:=entryFor_alias (id':="frozenset.__iter__") (by kernel_rfl) rfl (by decide +kernel) (by kernel_rfl)
theorem Raw.ty(x:Raw w a es ep t s.heap):s.TypeIs (.ref a) "set":=by
 obtain⟨o,h,ex,d⟩:=x.get
 exact⟨o,h,ex.1⟩
theorem iterOf{Q:Value->Shared->Prop}(x:Raw w a es ep t s.heap)(q:Q (.ref s.heap.objs.size) { s with heap:=s.heap.push { cls:=.type "set_iterator",data:=.fields #[.int (stAt w t 0:Nat) 0,.int (0:Nat) 0,.ref a,.int es.size 0,.int ep 0] } }) :
  wpAny (model prog w) A (pyIter (.ref a)) Q E s:=by
 have ty:=x.ty
 obtain⟨o,h,ex,d⟩:=x.get
 refine wpAny_pyIter_slot ty F.slot_set_iter (wpAny_call_entry F.slot_set_iter ty iter_entry ?_ (F.args_set_iter_1 _))
 unfold Builtin.«frozenset.__iter__» Builtin.Frozenset.slot0 slotArgs
 simp only[List.isEmpty_nil,Bool.not_true,zBB,↓reduceIte,bind_assoc,zBL,bne_self_eq_false]
 unfold Builtin.Frozenset.addrOf Builtin.Frozenset.sizeOf
 refine zA (zE ?_)
 dsimp only
 refine zA (zE (zA (zA (wpAny_setEntries_of h d x.ft (zE ?_)))))
 refine zA (drawn_no x ?_)
 simp only[zBB,if_false]
 refine zA (zE ?_)
 refine zA (wpAny_setEpoch_of h d x.ft ?_)
 refine zA (wpAny_newObj_type (zE ⟨_,rfl,"set_iterator",_,⟨_,zU _ rfl,rfl⟩,it_slot.lookup,?_⟩))
 have e0:stAt w t 0=0:=by unfold stAt;split <;> rfl
 rw[e0]at q
 simpa[rawInt]using q
theorem itemOf{v:Value}{Q:Option Value->Shared->Prop}(hI:ItAt w it a t i es.size ep s.heap)(x:Raw w a es ep t s.heap)(hv:((ord w a es ep)[i]?).map (·.2)=some v)
  (q:∀ g',ItAt w it a t (i+1) es.size ep g'->Heap.SameBut it s.heap g'->Q (some v) { s with heap:=g' }):wpAny (model prog w) A (pyNext (.ref it)) Q E s:=by
 obtain⟨io,a0,c0,d0⟩:=hI
 obtain⟨o,h,ex,d⟩:=x.get
 have ty:s.TypeIs (.ref it) "set_iterator":=⟨_,a0,c0⟩
 unfold pyNext;refine zA (wpAny_attempt (wpAny_callSpecial?_slot (name:=Str.ofString "__next__") ty it_slot (wpAny_call_entry it_slot ty it_entry ?_ (it_args _))))
 unfold Builtin.«set_iterator.__next__» slotArgs
 simp only[List.isEmpty_nil,Bool.not_true,zBB,↓reduceIte,bind_assoc,zBL,bne_self_eq_false]
 refine zA (zE (zA (wpAny_fieldsOf a0 d0 ?_)))
 dsimp only
 refine zA (wpAny_setEntries_of h d x.ft ?_)
 simp only[bne_self_eq_false,zBB,if_false,zCF]
 have il:i<es.size:=by
  have hl:=ord_perm (w:=w) (a:=a) (es:=es) (ep:=ep)
  have:=hl.length_eq
  rw[zO,zO]at this
  refine zCK fun c=>?_
  rw[zCB (by exact zh9 c this)]at hv
  cases hv
 refine zA (next_ok (n:=0) x (zT il) ?_)
 obtain⟨e,he,ev⟩:=zCM.mp hv
 rw[he]
 dsimp only[Option.map]
 refine zA (wpAny_setField a0 d0 (by simp) ?_)
 have a1:=Heap.get?_update_self (Obj.mapFields (·.setIfInBounds 0 (rawInt (stAt w t (i+1):Nat)))) a0 (Obj.isFreed_of_fields (Obj.data_mapFields d0 _))
 have d1:=Obj.data_mapFields d0 (·.setIfInBounds 0 (rawInt (stAt w t (i+1):Nat)))
 have c1:=Obj.cls_mapFields io (·.setIfInBounds 0 (rawInt (stAt w t (i+1):Nat)))
 refine zA (wpAny_setField a1 d1 (by simp) ?_)
 refine zE ⟨_,rfl,?_⟩
 have a2:=Heap.get?_update_self (Obj.mapFields (·.setIfInBounds 1 (rawInt ((i:Int)+1)))) a1 (Obj.isFreed_of_fields (Obj.data_mapFields d1 _))
 rw[ev]
 refine zE (q _ ⟨_,a2,(Obj.cls_mapFields ..).trans (c1.trans c0),?_⟩ ((Heap.SameBut.update ..).trans (Heap.SameBut.update ..)))
 rw[Obj.data_mapFields d1]
 simp[rawInt]
theorem endOf{Q:Option Value->Shared->Prop}(hh:A.handled=none)(hI:ItAt w it a t es.size es.size ep s.heap)(x:Raw w a es ep t s.heap)(q:∀ g',Heap.ExtBut it s.heap g'->Q none { s with heap:=g' }):wpAny (model prog w) A (pyNext (.ref it)) Q E s:=by
 obtain⟨io,a0,c0,d0⟩:=hI
 obtain⟨o,h,ex,d⟩:=x.get
 have ty:s.TypeIs (.ref it) "set_iterator":=⟨_,a0,c0⟩
 unfold pyNext;refine zA (wpAny_attempt (wpAny_callSpecial?_slot (name:=Str.ofString "__next__") ty it_slot (wpAny_call_entry it_slot ty it_entry ?_ (it_args _))))
 unfold Builtin.«set_iterator.__next__» slotArgs
 simp only[List.isEmpty_nil,Bool.not_true,zBB,↓reduceIte,bind_assoc,zBL,bne_self_eq_false]
 refine zA (zE (zA (wpAny_fieldsOf a0 d0 ?_)))
 dsimp only
 refine zA (wpAny_setEntries_of h d x.ft ?_)
 simp only[bne_self_eq_false,zBB,if_false,zCF]
 refine zA (next_ok (n:=0) x (zH _) ?_)
 have hl:=(ord_perm (w:=w) (a:=a) (es:=es) (ep:=ep)).length_eq
 rw[zO,zO]at hl
 rw[zCB (by exact zAG hl)]
 dsimp only[Option.map]
 refine zA (wpAny_setField a0 d0 (by simp) ?_)
 refine zA ?_;simp only[newExc,newTuple];refine zA (wpAny_newObj_type ?_ (by size_fits))
 refine zA (m:=firstArgMember _ _) (wpAny_of_eq (a:=Value.none) (by first | rfl |(simp only[firstArgMember];rfl)) (wpAny_newObj_type ?_ (by size_fits)));simp only[raiseNew];refine zA (wpAny_handled ?_)
 rw[show A.in1.handled=none from hh];refine zA (zE (wpAny_throw ?_));refine zA (wpAny_isInstance (T:="StopIteration") (b:=true) ⟨_,zU _ rfl,rfl⟩ isSubtype_stop ?_)
 refine zE (q _ ?_)
 exact((Heap.SameBut.update ..).extBut.push _).push _
theorem self_slot:Slot "set_iterator" "__iter__" "set_iterator.__iter__":=.of (owner:="set_iterator") (n:="__iter__") (by rw[typeLookup_type,builtinLookup_eq_fast];kernel_rfl) (by decide +kernel) (by decide +kernel) (by decide +kernel) (by first | exact .inl (by decide +kernel) | exact .inr (by decide +kernel)) (by rw[isSubtype_type];kernel_rfl)
theorem self_entry:entryFor table "set_iterator.__iter__" = some Builtin.«dict_keyiterator.__iter__»:=entryFor_alias (id':="dict_keyiterator.__iter__") (by kernel_rfl) rfl (by decide +kernel) (by kernel_rfl)
theorem self_args(v:Value):argsOk "set_iterator.__iter__" ⟨[v],[]⟩:=by
 unfold argsOk;rw[signature?_of (id:="set_iterator.__iter__") (n:=['_','_','r','e','t','i','_','_']) (o:=['r','o','t','a','r','e','t','i','_','t','e','s']) (by kernel_rfl) it_own];kernel_rfl
theorem itSelf{n:Nat}{Q:Value->Shared->Prop}(hI:ItAt w it a t i n ep s.heap)(q:Q (.ref it) s):wpAny (model prog w) A (pyIter (.ref it)) Q E s:=by
 obtain⟨io,a0,c0,d0⟩:=hI
 have ty:s.TypeIs (.ref it) "set_iterator":=⟨_,a0,c0⟩
 refine wpAny_pyIter_slot ty self_slot (wpAny_call_entry self_slot ty self_entry ?_ (self_args _));show wpAny _ _ (ret (.ref it)) _ _ s
 exact zE ⟨_,rfl,"set_iterator",_,ty,it_slot.lookup,q⟩
theorem setWalks(hh:A.handled=none)(I a:Addr)(ne:a≠I)(es:Array (Int×Value))(ep:Nat)(t:SetTable):Walks prog w A I [I,a] [I] es.size (fun i v=>((ord w a es ep)[i]?).map (·.2)=some v) (fun i g=>ItAt w I a t i es.size ep g/\Raw w a es ep t g)where
 sub:=fun b z=>by simp at z;simp[z]
 frame:=fun _ _ _ st k=>by
  obtain⟨⟨o,e,r⟩,x⟩:=st
  exact⟨⟨o,k I (by simp) o e,r⟩,x.to fun o e=>k a (by simp) o e⟩
 item:=fun i s Q E hi st hQ=>by
  have hl:=(ord_perm (w:=w) (a:=a) (es:=es) (ep:=ep)).length_eq
  rw[zO,zO]at hl
  have hx:((ord w a es ep)[i]?).map (·.2)=some ((ord w a es ep)[i]'(by exact zh8 hi hl)).2:=by rw[zS (by exact zh8 hi hl)];rfl
  exact itemOf st.1 st.2 hx fun g' it' sb=>hQ _ g' s.toks hx ⟨it',st.2.to fun o e=>sb.extBut a o ne e⟩ fun b o z e=>sb.extBut b o (fun h=>z (by simp[h])) e
 done:=fun s Q E st hQ=>endOf hh st.1 st.2 fun g' e'=>hQ g' s.toks fun b o z e=>e' b o (fun h=>z (by simp[h])) e
 self:=fun i s Q E st hQ=>itSelf st.1 hQ
theorem hintOf{Q:Bool->Shared->Prop}(ty:s.TypeIs (.ref a) "set")(q:Q false s):wpAny (model prog w) A (Builtin.List.listLengthHint (.ref a)) Q E s:=by
 unfold Builtin.List.listLengthHint;refine zA (wpAny_specialOf ty F.slot_set_len.lookup ?_)
 generalize hi:("set.__len__":String)=id0;wp_delta
 rw[show splitId id0=some ("set","__len__")from by subst hi;decide +kernel];subst hi
 refine zA (wpAny_isInstance (T:="set") (b:=true) ty (by rw[isSubtype_type];kernel_rfl) (wpAny_ite_split (fun z=>absurd z (by decide)) (fun _=>wpAny_ite_split (fun _=>?_) (fun z=>absurd (by decide +kernel) z))))
 exact zA (wpAny_typeOf ty (zE q))
theorem setSrc(a:Addr)(es:Array (Int×Value))(ep:Nat)(t:SetTable):KdlSrc prog w "set" a a es.size (fun i v=>((ord w a es ep)[i]?).map (·.2)=some v) (Raw w a es ep t)where
 type:=fun _ x=>x.ty
 there:=fun _ x=>⟨x.lt,x.lt⟩
 keep:=fun _ _ x k=>x.to fun o e=>k a (.inl rfl) o e
 notList:=by decide
 notTuple:=by decide
 hint:=fun _ _ _ _ x q=>hintOf x.ty q
 iter:=fun _ _ hh x=>⟨_,_,(fun _ _ q=>iterOf x q),setWalks hh _ a (zAC x.lt) es ep t,⟨⟨_,zU _ rfl,rfl,rfl⟩,x.to fun o e=>zD _ e⟩⟩
end
end SetA
namespace L2
open PySem PySem.W PyProof.Rows Srt SetA
open PySem PySem.W PyProof.Rows Srt
open PySem PySem.W PyProof.Rows Srt
open PySem PySem.W PyProof.Rows
noncomputable def sqO:Bool->List V->HO
 |true,xs=>.tup xs
 |false,xs=>.lst xs
theorem sq_or{b:Bool}{K:PySem.W.Frag}{H:Hp}{a:Addr}{xs:List V}(h:H a=some (sqO b xs)):SqL K H a xs\/SqT K H a xs:=by
 cases b
 ·exact .inl (SqL.of h)
 ·exact .inr (SqT.of h)
section
variable{X:Cx}
inductive rIxLhI(x:V)(y:V)(H:Hp)(Q:VK):Prop where
 |mk (p:_) (xs:_) (i:_) (v:_) (h1:x = .ref p) (h2:y = .int i) (h3:H p=some (.lst xs)) (h4:atI xs i=some v) (h5:Q v H)
noncomputable def rIxLh:R2:=fun x y H Q=>rIxLhI x y H Q
inductive rIxThI(x:V)(y:V)(H:Hp)(Q:VK):Prop where
 |mk (p:_) (xs:_) (i:_) (v:_) (h1:x = .ref p) (h2:y = .int i) (h3:H p=some (.tup xs)) (h4:atI xs i=some v) (h5:Q v H)
noncomputable def rIxTh:R2:=fun x y H Q=>rIxThI x y H Q
theorem ix_listH:IxR X rIxLh:=by
 intro value slice pins s σ H x y v u Q I rx ry h hs
 obtain⟨p,xs,i,z,rfl,rfl,hp,he,q⟩:=h
 exact ix_list value slice pins s σ H _ _ v u Q I rx ry ⟨p,xs,i,z,rfl,rfl,SqL.of hp,he,q⟩ hs
theorem ix_tupH:IxR X rIxTh:=by
 intro value slice pins s σ H x y v u Q I rx ry h hs
 obtain⟨p,xs,i,z,rfl,rfl,hp,he,q⟩:=h
 exact ix_tup value slice pins s σ H _ _ v u Q I rx ry ⟨p,xs,i,z,rfl,rfl,SqT.of hp,he,q⟩ hs
theorem call_lenH:CallR X (.builtin "len") (fun xs H Q=>∃ p ys,xs=[.ref p]/\H p=some (.lst ys)/\Q (.int ys.length) H):=by
 intro pins s σ H xs us Q I r h
 obtain⟨p,ys,rfl,hp,q⟩:=h
 exact call_len_seq pins s σ H _ us Q I r ⟨p,ys,rfl,.inl (SqL.of hp),q⟩
theorem call_lenTH:CallR X (.builtin "len") (fun xs H Q=>∃ p ys,xs=[.ref p]/\H p=some (.tup ys)/\Q (.int ys.length) H):=by
 intro pins s σ H xs us Q I r h
 obtain⟨p,ys,rfl,hp,q⟩:=h
 exact call_len_seq pins s σ H _ us Q I r ⟨p,ys,rfl,.inr (SqT.of hp),q⟩
theorem call_tupleH:CallR X (.type "tuple") (fun xs H Q=>∃ p ys,xs=[.ref p]/\H p=some (.lst ys)/\∀ l,H l=none->Q (.ref l) (upd H l (.tup ys))):=by
 intro pins s σ H xs us Q I r h
 obtain⟨p,ys,rfl,hp,q⟩:=h
 exact call_tuple_of pins s σ H _ us Q I r ⟨p,ys,rfl,.inl ⟨SqL.of hp,q⟩⟩
theorem call_allH(hc:X.calm=true):CallR X (.builtin "all") (fun xs H Q=>∃ (l:Addr) (bs:List Bool),xs=[V.ref l]/\H l=some (.lst (bs.map V.bl))/\Q (.bl (bs.all id)) H):=by
 intro pins s σ H xs us Q I r h
 obtain⟨p,ys,rfl,hp,q⟩:=h
 exact call_all hc pins s σ H _ us Q I r ⟨p,ys,rfl,SqL.of hp,q⟩
inductive rInQI(b n:Bool)(x:V)(y:V)(H:Hp)(Q:VK):Prop where
 |mk (p:_) (xs:_) (h1:y = .ref p) (h2:H p=some (sqO b xs)) (h3:flatV x=true) (h4:xs.all flatV=true) (h5:Q (.bl (if n=true then !inV x xs else inV x xs)) H)
noncomputable def rInQ(b n:Bool):R2:=fun x y H Q=>rInQI b n x y H Q
theorem op_notInQ(b:Bool):OpR X (compareOp .NotIn) (rInQ b true):=by
 intro pins s σ H x y v u Q I rx ry h
 obtain⟨p,xs,rfl,hp,fx,fs,q⟩:=h
 exact op_notIn_seq pins s σ H x _ v u Q I rx ry ⟨p,xs,rfl,sq_or hp,fx,fs,q⟩
noncomputable def tBMh(r:V->List V->Hp->VK->Prop)(to:TE)(t:TA):TE:=fun σ H Q=>to σ H fun x H1=>(∃ p xs,x = .ref p/\H1 p=some (.lst xs))/\t σ H1 fun xs H2=>r x xs H2 Q
theorem pe_bmH{id:String}{name:Str}{r:V->List V->Hp->VK->Prop}{o e:Expr}{es:List Expr}{to:TE}{t:TA}{apos cpos:Pos}(slot:Slot "list" name id)(hty:typeOf (.builtin id)=pure (.type "method_descriptor"))(hm:MtR X id r)(ho:PE X o to)(ha:PA X (e :: es) t)(hbase:attributeBase o name X.env (eval o X.env)=eval o X.env:=by rfl)
  (hfew:((backTo cpos (starEach (e :: es) X.env)).all (fun x=>!x.1) && (backToKw cpos (keywordEach [] X.env)).all (fun x=>x.1.isSome) && decide ((e :: es).length+([]:List Keyword).length+(if([]:List Keyword).isEmpty then 0 else 1)<30))=true:=by rfl) (hline:(apos.endLine == cpos.line)=true:=by rfl)
  (hs:starEach (e :: es) X.env=(false,eval e X.env) :: starEach es X.env:=by rfl) (hplain:(backTo cpos (starEach es X.env)).any (·.1)=false:=by rfl):PE X (.Call (.Attribute o name apos) (e :: es) [] cpos) (tBMh r to t):=by
 intro pins s σ H Q I h
 refine wpAny_Call_method_late hbase hfew hline rfl (thn (ho pins s σ H _ I h) fun v s1 ⟨x,H1,I1,r1,⟨p,xs,ex,hx⟩,q1⟩=>?_)
 subst ex
 obtain⟨h1,h2⟩:=tyV_is (T:="list") I1 r1 (.inl ⟨rfl,xs,SqL.of hx⟩)
 refine⟨"list",id,PySem.F.plainAttrs_list,slot,hty,h1,h2,?_⟩;have hA:=ha cpos pins s1 σ H1 _ I1 q1
 rw[hs]at hA ⊢;refine Calls.callWith_builtin (by show(false ||(backTo cpos (starEach es X.env)).any (·.1))=false;rw[hplain] <;> rfl) (Calls.evalArgs_plain (thn hA fun us s2 ⟨vs,H2,I2,r2,q2⟩=>?_))
 exact hm pins s2 σ H2 _ vs v us Q I2 r1 r2 q2
end
open PySem PySem.W PyProof.Rows
open PySem PySem.W PyProof.Rows
open PySem PySem.W PyProof.Rows
theorem dat_ints{H:Hp}{a:Addr}{ns:List Int}(n:Nat)(h:H a=some (.lst (ns.map V.int)))(l:ns.length<=1000):Dat H (n+1) (.ref a) (.lst (ns.map Dt.int)):=by
 refine⟨a,_,rfl,by rw[zB];exact l,h,?_⟩
 clear h l
 induction ns with
 |nil=>exact .nil
 |cons x r ih=>refine .cons ?_ ih;cases n <;> rfl
open PySem PySem.Spec PyProof.Rows
open PySem PySem.W PyProof.Rows
end L2
namespace K75
open PySem L2 PyProof.Rows
structure CalF(P:Program)(w:World)(K:PySem.W.Frag)(mg:Str->Option Value)(base:Heap)(k:Nat)(x:Str)(ps:List Str)(sp:Sp)(g:Addr)(gd:FuncData):Prop where
 ok:FnOk P w K mg base CX0 k g gd ps sp
 mg:mg x=some (.ref g)
 kp:PySem.W.keepIn K (.ref g)=true
 bd:Binds K gd ps []
structure Txt2(mg:Str->Option Value):Prop where
 all:mg "all" = none
 zip:mg "zip" = none
 enum:mg "enumerate" = none
 dict:mg "dict" = none
noncomputable abbrev scO(l:List (Str×NameKind)):Scope:={ kind:=.function,names:=l,isGenerator:=false,isCoroutine:=false }
end K75
namespace HT
open PySem PySem.Spec PyProof.Rows
section
variable{prog:Program}{w:World}{A:Around}{E:Value->Shared->Prop}{s:Shared}
theorem getItem_tuple_whole{t sl:Addr}{items:Array Value}{vl vu:Value}{lo hi:Option Int}{Q:Value->Shared->Prop}(ht:IsTup s.heap t items)(hs:s.heap.IsSliceOf sl vl vu .none)(pl:IsPart vl lo)(pu:IsPart vu hi)
  (hw:sIx items.size 0 lo=0/\sIx items.size items.size hi=items.size)
  (h:Q (.ref t) s):wpAny (model prog w) A (getItem (.ref t) (.ref sl)) Q E s:=by
 obtain⟨os,hos,hcs,hds⟩:=id hs
 have hTs:s.TypeIs (.ref sl) "slice":=⟨os,hos,hcs⟩
 unfold getItem
 try with_reducible refine wpAny_holding ?_
 first | refine zA (zE ?_) | skip
 refine zA (wpAny_sequenceKey ht.typeIs (by decide) ?_)
 refine zA (wpAny_callSpecial?_slot (name:=Str.ofString "__getitem__") ht.typeIs PyProof.Rows.slot_tuple_getitem
  (wpAny_call_entry PyProof.Rows.slot_tuple_getitem ht.typeIs entry_tuple_getitem ?_ (args_tuple_getitem _ _)))
 show wpAny _ _ (Builtin.Tuple.tupleItemsOf (.ref t) >>= _) _ _ s
 refine zA (tupleItemsOf_ ht ?_)
 refine zA (wpAny_typeOf hTs ?_)
 rw[if_pos (by decide)]
 refine zA (sliceApplied_gen hs pl pu ?_)
 have hyes:(((sIx items.size 0 lo:Nat):Int) == 0 && (1:Int) == 1 && (sIx items.size items.size hi-sIx items.size 0 lo) == items.size)=true:=by
  rw[hw.1,hw.2]
  simp
 show wpAny _ _ (if(((sIx items.size 0 lo:Nat):Int) == 0 && (1:Int) == 1 && (sIx items.size items.size hi-sIx items.size 0 lo) == items.size)=true then _ else _) _ _ s
 rw[if_pos hyes]
 refine zA (m:=Builtin.Tuple.tupleIsExact (.ref t)) ?_
 unfold Builtin.Tuple.tupleIsExact
 refine zA (wpAny_typeOf ht.typeIs (zE ?_))
 rw[if_pos (by decide)]
 refine zA (wpAny_rule ?_)
 first
  |exact zE ⟨_,rfl,zE h⟩
  |exact zA (zE (zE ⟨_,rfl,zE h⟩))
  |exact zA (zE ⟨_,rfl,zE h⟩)
end
end HT
namespace L2
open PySem PySem.W PyProof.Rows
variable{X:Cx}
inductive rSlAI(x:V)(lo:Option Int)(hi:Option Int)(H:Hp)(Q:VK):Prop where
 |mk (a:_) (xs:_) (h1:x = .ref a) (h2:H a=some (.tup xs)) (h3:∀ p H',Same H H'->H' p=some (.tup (cutV xs lo hi))->Q (.ref p) H')
noncomputable def rSlA:V->Option Int->Option Int->Hp->VK->Prop:=fun x lo hi H Q=>rSlAI x lo hi H Q
theorem sl_tupA:SlR X rSlA:=by
 intro pins s σ H x v vl vu lo hi sl Q I rx hs pl pu h
 obtain⟨a,xs,rfl,hx,q⟩:=h
 by_cases hw:HT.sIx xs.length 0 lo=0/\HT.sIx xs.length xs.length hi=xs.length
 ·cases rx
  obtain⟨its,r,ht,hz⟩:=I.tuple (SqT.of (K:=X.K) hx)
  have hlen:its.toArray.size=xs.length:=by rw[zQ];exact r.length.symm
  refine⟨"tuple",_,PyProof.Rows.slot_tuple_getitem.lookup,ht.typeIs,?_⟩
  refine HT.getItem_tuple_whole ht hs pl pu (by rw[hlen];exact hw) ⟨.ref a,H,I,rfl,q a H (Same.refl _) ?_⟩
  unfold cutV
  rw[hw.1,hw.2,List.drop_zero,Nat.sub_zero,List.take_length]
  exact hx
 ·exact sl_tup pins s σ H _ v vl vu lo hi sl Q I rx hs pl pu ⟨a,xs,rfl,SqT.of hx,hw,fun p hp=>q p _ (Same.new hp) upd_same⟩
open PySem PySem.W PyProof.Rows Srt HT
section
variable{X:Cx}
theorem Vals.rev:∀ {xs:List V}{us:List Value},Vals xs us->Vals xs.reverse us.reverse
 | _,_,.nil=>.nil
 | _,_,.cons h t=>by
  rw[List.reverse_cons,List.reverse_cons]
  exact(Vals.rev t).append (.cons h .nil)
end
end L2
namespace SetA
open PySem L2
theorem Tb.freeSlot{es:Array (Int×Value)}{t:SetTable}(T:Tb es t){h:Int}{n0:Nat}(F:First t h n0):t.freeSlot h=some ((pth t.mask h n0).j,false):=by
 have sk:∀ m,0<=m->m<n0->∃ i,t.slot (pth t.mask h m).j = .live i/\(fun _:Nat=>h+1) i≠h:=fun m _ hm=>by
  obtain⟨i,ei⟩:=F.occ m hm
  exact⟨i,(T.slot _).2 i ei,by show h+1≠h;exact zjn⟩
 have e:t.probe (fun _=>h+1) h (t.probeStart h)=some (.empty (pth t.mask h n0).j none):=by
  show SetTable.probe.go t (fun _=>h+1) h (10 * SetTable.turns t.mask) (pth t.mask h 0)=_
  have lt:=F.lt
  obtain⟨f',ef⟩:=go_on (t:=t) (hashAt:=fun _=>h+1) (h:=h) (n:=n0) (fuel:=10 * SetTable.turns t.mask) (k:=0) (zAO _) (by exact zi9 lt (zAW (10 * SetTable.turns t.mask) 0)) sk
  rw[ef,go_empty ((T.slot _).1 F.free)]
 unfold SetTable.freeSlot
 rw[e]
 rfl
theorem Tb.layNew{es:Array (Int×Value)}{t:SetTable}(T:Tb es t){h:Int}{n0:Nat}(x:Value)(F:First t h n0)(room:t.place.size<t.mask) :
  PySem.layNew t es h x=(SetTable.insertAt es (t.put (pth t.mask h n0).j).2 (h,x),(t.put (pth t.mask h n0).j).1,false,false):=by
 have T1:=T.put (x:=x) F room
 unfold PySem.layNew
 rw[T.freeSlot F]
 have f:=T1.fits
 show(SetTable.insertAt es (t.put (pth t.mask h n0).j).2 (h,x),(t.put (pth t.mask h n0).j).1.orStandIn (SetTable.insertAt es (t.put (pth t.mask h n0).j).2 (h,x)).size,false,!(t.put (pth t.mask h n0).j).1.fits (SetTable.insertAt es (t.put (pth t.mask h n0).j).2 (h,x)).size)=_
 unfold SetTable.orStandIn
 rw[f]
 rfl
theorem laid_perm{mask finger moves:Nat}{led plain:Bool}{es:Array (Int×Value)}(mk:Mk mask)(len:es.size<=mask){t':SetTable}{order:Array Nat}(he:SetTable.laid mask finger moves led plain (es.map (·.1))=some (t',order)):order.toList.Perm (List.range es.size):=by
 have hl:((es.map (·.1)).toList).length<=mask:=by simpa using len
 obtain⟨owner,pos,lc,O⟩:∃ owner pos,SetTable.layClean mask (es.map (·.1))=some owner/\OwnI mask (es.map (·.1)).toList (es.map (·.1)).toList.length owner pos:=by
  have fin:∀ f:Option (Array (Option Nat)×Nat)->Int->Option (Array (Option Nat)×Nat),(∀ owner k h j,SetTable.layClean.free mask owner (SetTable.turns mask) (SetTable.bits h % (mask+1)) (SetTable.bits h)=some j->f (some (owner,k)) h=some (owner.setIfInBounds j (some k),k+1)) ->
    ∃ owner pos,((es.map (·.1)).toList.foldl f (some (Array.replicate (mask+1) none,0))).map (·.1)=some owner/\OwnI mask (es.map (·.1)).toList (es.map (·.1)).toList.length owner pos:=fun f hf=>by
   obtain⟨owner,pos,e1,O⟩:=lay_ok mk hl hf (es.map (·.1)).toList 0 _ _ (zAO _) rfl own_nil
   exact⟨owner,pos,by rw[e1];rfl,O⟩
  unfold SetTable.layClean
  rw[<- Array.foldl_toList]
  exact fin _ (fun owner k h j e=>by show(SetTable.layClean.free mask owner _ _ _).bind _=_;rw[e];rfl)
 have n:(es.map (·.1)).toList.length=es.size:=by simp
 rw[n]at O
 unfold SetTable.laid at he
 rw[lc]at he
 have he:some ((⟨mask,(((List.range (mask+1)).filterMap fun j=>(owner.getD j none).map (j,·)).map (·.1)).toArray,#[],finger,led,moves,plain⟩:SetTable),(((List.range (mask+1)).filterMap fun j=>(owner.getD j none).map (j,·)).map (·.2)).toArray)=some (t',order):=he
 have eo:=(Prod.mk.inj (Option.some.inj he)).2
 rw[<- eo]
 show((((List.range (mask+1)).filterMap fun j=>(owner.getD j none).map (j,·)).map (·.2)).toArray).toList.Perm _
 generalize hL:((List.range (mask+1)).filterMap fun j=>(owner.getD j none).map (j,·))=live
 have mem:∀ j i,(j,i)∈live↔owner[j]?=some (some i):=fun j i=>by
  rw[<- hL,List.mem_filterMap]
  constructor
  ·rintro⟨a,ha,e⟩
   have ha:=zBP.mp ha
   have hs':a<owner.size:=by rw[O.size];exact ha
   rw[zAF,zS hs']at e
   have e:(owner[a]).map (a,·)=some (j,i):=e
   cases ho:owner[a]with
   |none=>rw[ho]at e;cases e
   |some x =>
    rw[ho]at e
    cases e
    rw[zS hs',ho]
  ·intro e
   obtain⟨hj,_⟩:=zAI.mp e
   refine⟨j,zBP.mpr (by rw[<- O.size];exact hj),?_⟩
   rw[zAF,e]
   rfl
 have up:live.Pairwise fun a b=>a.1<b.1:=by
  rw[<- hL]
  refine List.Pairwise.filterMap _ (fun a a' l b hb b' hb'=>?_) List.pairwise_lt_range
  obtain⟨x,_,ex⟩:=zCM.mp hb
  obtain⟨y,_,ey⟩:=zCM.mp hb'
  rw[<- ex,<- ey]
  exact l
 have nd:(live.map (·.2)).Nodup:=by
  rw[List.Nodup,List.pairwise_map]
  refine up.imp_of_mem fun {a b} ha hb l z=>?_
  obtain⟨_,p1⟩:=O.of_ a.1 a.2 ((mem _ _).mp ha)
  obtain⟨_,p2⟩:=O.of_ b.1 b.2 ((mem _ _).mp hb)
  rw[z,p2]at p1
  exact(zdm l p1).elim
 show(live.map (·.2)).Perm (List.range es.size)
 rw[List.perm_ext_iff_of_nodup nd List.nodup_range]
 intro i
 rw[zBP]
 constructor
 ·intro hi
  obtain⟨⟨j,i'⟩,hm,rfl⟩:=zAP.mp hi
  exact(O.of_ _ _ ((mem _ _).mp hm)).1
 ·intro hi
  exact zAP.mpr ⟨(pos i,i),(mem _ _).mpr (O.at_ i hi),rfl⟩
theorem relayAll_ok{t:SetTable}{es:Array (Int×Value)}{wanted:Nat}(mk:Mk (SetTable.sizeAbove wanted-1))(len:es.size<=SetTable.sizeAbove wanted-1) :
  ∃ es' t',relayAll t es wanted=(es',t',false)/\Tb es' t'/\es'.toList.Perm es.toList/\t'.mask=SetTable.sizeAbove wanted-1/\t'.led=t.led/\t'.plain=t.plain:=by
 obtain⟨t',order,e1,T',pm,m1,m2,m3,m4⟩:=laid_ok (finger:=t.finger) (moves:=t.movedTo (SetTable.sizeAbove wanted-1)) (led:=t.led) (plain:=t.plain) mk len
 have po:=laid_perm mk len e1
 have er:t.relaid (es.map (·.1)) wanted=some (t',order):=e1
 refine⟨_,t',?_,T',pm,m1,m2,m3⟩
 unfold relayAll
 rw[er]
 show(if(coversAll order es.size && t'.fits (order.filterMap (es[·]?)).size)=true then _ else _)=_
 rw[if_pos]
 rw[T'.fits,Bool.and_true]
 unfold coversAll
 exact List.isPerm_iff.mpr po
noncomputable def ElI(prog:Program)(w:World)(e:Int×Value)(k:Int):Prop:=(∃ tg,e.2 = .int k tg)/\e.1=(intKind prog w).hash k
structure CellI(prog:Program)(w:World)(g:Heap)(a:Addr)(o:Obj)(es:Array (Int×Value))(ep:Nat)(t:SetTable)(ks:List Int):Prop where
 get:g.get? a=some o
 ex:o.ExactSet
 dat:o.data = .set es ep t
 tb:Tb es t
 ln:Lean_ t
 pl:t.plain=true
 el:Paired (ElI prog w) es.toList ks
 nd:ks.Nodup
 ld:t.led = !w.params.followText "set-order"
section
variable{prog:Program}{w:World}{A:Around}{E:Value->Shared->Prop}{s:Shared}{a:Addr}
theorem isInt_k(k:Int)(tg):(intKind prog w).is k (.int k tg)=true:=by
 show Value.isInt k (.int k tg)=true
 simp[Value.isInt]
theorem elems_I{es:Array (Int×Value)}{ks:List Int}(h:Paired (ElI prog w) es.toList ks):ElemsOf (intKind prog w) es.toList:=by
 generalize es.toList=l at h
 induction h with
 |nil=>intro e he;exact nomatch he
 | @cons e k l1 l2 r _ ih =>
  intro x hx
  rcases zW.mp hx with z | z
  ·obtain⟨⟨tg,e1⟩,e2⟩:=r
   rw[z]
   refine⟨⟨k,by rw[e1];exact isInt_k k tg,e2⟩,?_⟩
   rw[e1]
   rfl
  ·exact ih x z
theorem addI{o:Obj}{es:Array (Int×Value)}{ep:Nat}{t:SetTable}{ks:List Int}(C:CellI prog w s.heap a o es ep t ks)(few:ks.length<=300){k:Int}{tg}{Q:Bool->Shared->Prop}
  (q1:k∈ks->Q false s) (q2:k∉ks->∀ (h':Heap) (o':Obj) (es':Array (Int×Value)) (ep':Nat) (t':SetTable) (ms:List Int),CellI prog w h' a o' es' ep' t' ms->ms.Perm (k :: ks)->Heap.SameBut a s.heap h'->Q true { s with heap:=h' }) :
  wpAny (model prog w) A (setAddHashed a (.int k tg) ((intKind prog w).hash k)) Q E s:=by
 have T:=C.tb
 have hel:=elems_I C.el
 have len:es.size=ks.length:=by
  have:=Paired.length C.el
  rw[zO]at this
  exact this
 have hb:es.size<scanBound:=by unfold scanBound;exact zL (zAG len) (zl2 few rfl)
 have hkey:=isInt_k (prog:=prog) (w:=w) k tg
 unfold setAddHashed setAddHashedIn
 refine wpAny_holding (zA (wpAny_setState_of C.get C.dat T.fits ?_))
 dsimp only
 rw[byScan_of (knd:=intKind prog w) rfl hb hel]
 simp only[↓reduceIte]
 unfold setAddByScan
 refine zA ?_
 refine zA (wpAny_rule ?_)
 refine zA (wpAny_setScan_of hkey C.get C.dat T.fits hel ?_)
 cases hr:List.findIdx? (fun e=>(intKind prog w).is k e.2) es.toList with
 |some j =>
  dsimp only
  obtain⟨hj,hpj,_⟩:=List.findIdx?_eq_some_iff_getElem.mp hr
  refine zE (zE (q1 ?_))
  obtain⟨m,em,⟨tm,e1⟩,_⟩:=paired_getL C.el j es.toList[j] (zF hj)
  rw[e1]at hpj
  have:=(intKind prog w).inj _ _ _ hpj (isInt_k m tm)
  rw[this]
  exact zCV em
 |none =>
  dsimp only
  have nk:k∉ks:=fun hm=>by
   obtain⟨i,hi,ei⟩:=zBO hm
   obtain⟨e,ee,⟨tm,e1⟩,_⟩:=paired_getR C.el i k (by rw[zF hi,ei])
   have:=List.findIdx?_eq_none_iff.mp hr e (zCV ee)
   rw[e1,isInt_k]at this
   exact Bool.noConfusion this
  obtain⟨n0,F⟩:=first_ex T.rs T.fl T.msk ((intKind prog w).hash k)
  have room:t.place.size<t.mask:=by
   have ln:t.place.size * 5<t.mask * 3:=C.ln
   lia
  rw[T.layNew (.int k tg) F room]
  dsimp only
  have T1:=T.put (x:=.int k tg) F room
  generalize hh:(intKind prog w).hash k=h at *
  have p1:(SetTable.insertAt es (t.put (pth t.mask h n0).j).2 (h,.int k tg)).toList.Perm ((h,.int k tg) :: es.toList):=by
   refine(SetTable.insertAt_perm es _ _).trans ?_
   rw[Array.toList_push]
   exact List.perm_append_singleton _ _
  have ppl:(t.put (pth t.mask h n0).j).1.plain=true:=C.pl
  have pld:(t.put (pth t.mask h n0).j).1.led=t.led:=rfl
  have pmk:(t.put (pth t.mask h n0).j).1.mask=t.mask:=rfl
  generalize (t.put (pth t.mask h n0).j).2=pp at T1 p1 ⊢
  generalize (t.put (pth t.mask h n0).j).1=t1 at T1 ppl pld pmk ⊢
  generalize SetTable.insertAt es pp (h,.int k tg)=es1 at T1 p1 ⊢
  have sz1:es1.size=es.size+1:=by
   have:=p1.length_eq
   simpa using this
  have sl1:t1.place.size=t.place.size+1:=by rw[T1.sz,sz1,T.sz]
  have fin:∀ (es':Array (Int×Value)) (t':SetTable) (ep':Nat),Tb es' t'->Lean_ t'->t'.plain=true->t'.led=t.led->es'.toList.Perm ((h,.int k tg) :: es.toList)->∀ h':Heap,h'.get? a=some { o with data:=.set es' ep' t' }->Heap.SameBut a s.heap h'->Q true { s with heap:=h' }:=fun es' t' ep' T' l' p' ld pm h' g' sb=>by
   have el1:Paired (ElI prog w) ((h,Value.int k tg) :: es.toList) (k :: ks):=.cons ⟨⟨tg,rfl⟩,hh.symm⟩ C.el
   obtain⟨ms,m1,m2⟩:=paired_perm pm el1
   exact q2 nk h' _ es' ep' t' ms ⟨g',C.ex,rfl,T',l',p',m1,m2.nodup_iff.mpr (List.nodup_cons.mpr ⟨nk,C.nd⟩),ld.trans C.ld⟩ m2 sb
  refine zA (zE ?_)
  rw[if_pos ppl]
  refine zA ?_
  rw[hashByValue_scannable 8 (x:=.int k tg) rfl]
  refine zE ?_
  have pk:plainKind (.int k tg)=true:=rfl
  rw[pk]
  simp only[↓reduceIte]
  refine zA (wpAny_storeSet_of C.get C.dat ?_ (by rw[sizeLine_eq];exact zhg few len sz1))
  have g1:=stored C.get C.dat es1 t1
  have sb1:=Heap.SameBut.update s.heap a (Obj.putSet es1 t1)
  generalize s.heap.update a (Obj.putSet es1 t1)=h1 at g1 sb1 ⊢
  have tf:t1.tooFull=decide (t1.place.size * 5 >= t1.mask * 3):=by
   unfold SetTable.tooFull SetTable.fill
   rw[T1.dm]
   rfl
  cases htf:t1.tooFull
  ·simp only[Bool.not_false,Bool.and_false,zBB,↓reduceIte]
   rw[tf]at htf
   have lt:=of_decide_eq_false htf
   exact zE (zE (fin es1 t1 (ep+1) T1 (show t1.place.size * 5<t1.mask * 3 by exact zj4 lt) ppl pld p1 h1 g1 sb1))
  ·simp only[Bool.not_false,Bool.and_self,↓reduceIte]
   rw[tf]at htf
   have ge:=of_decide_eq_true htf
   have ln:t.place.size * 5<t.mask * 3:=C.ln
   rw[sl1,pmk]at ge
   have esz:es.size=t.place.size:=T.sz.symm
   obtain⟨mk',big,len',small⟩:Mk (SetTable.sizeAbove (SetTable.grown (es.size+1))-1)/\(es.size+1) * 5 <(SetTable.sizeAbove (SetTable.grown (es.size+1))-1) * 3/\es1.size<=SetTable.sizeAbove (SetTable.grown (es.size+1))-1/\SetTable.sizeAbove (SetTable.grown (es.size+1))<=sizeLine:=by
    rw[sz1,sizeLine_eq]
    rcases T.msk with e | e | e | e <;> rw[e]at ge ln
    ·have n4:es.size=4:=by exact zcw sz1 sl1 ge ln esz
     rw[n4]
     exact⟨.inr (.inl (by decide)),by decide,by decide,by decide⟩
    ·have n18:es.size=18:=by exact zcy sz1 sl1 ge ln esz
     rw[n18]
     exact⟨.inr (.inr (.inl (by decide))),by decide,by decide,by decide⟩
    ·have n76:es.size=76:=by exact zda sz1 sl1 ge ln esz
     rw[n76]
     exact⟨.inr (.inr (.inr (by decide))),by decide,by decide,by decide⟩
    ·lia
   rw[sz1]
   obtain⟨es2,t2,er,T2,p2,m2,l2,pl2⟩:=relayAll_ok (t:=t1) mk' len'
   rw[er]
   dsimp only
   have sz2:es2.size=es1.size:=by
    have:=p2.length_eq
    rw[zO,zO]at this
    exact this
   refine zA (zE ?_)
   refine zA (wpAny_storeSet_of g1 rfl ?_ (by rw[sizeLine_eq];exact zer few len sz1 sl1 esz sz2))
   refine zE (zE (fin es2 t2 (ep+1+1) T2 ?_ (pl2.trans ppl) (l2.trans pld) (p2.trans p1) _ (stored g1 rfl es2 t2) (sb1.trans (Heap.SameBut.update _ a _))))
   show t2.place.size * 5<t2.mask * 3
   rw[T2.sz,sz2,m2,sz1]
   exact big
end
end SetA
namespace L2
open PySem PySem.W PyProof.Rows
theorem pe_bmK{X:Cx}(K:PySem.W.Frag)(eK:X.K=K){T id:String}{name:Str}{r:V->List V->Hp->VK->Prop}{o e:Expr}{es:List Expr}{to:TE}{t:TA}{apos cpos:Pos}(pa:PlainAttrs T)(slot:Slot T name id)(hty:typeOf (.builtin id)=pure (.type "method_descriptor"))(hm:MtR X id r)(ho:PE X o to)(ha:PA X (e :: es) t)
  (hbase:attributeBase o name X.env (eval o X.env)=eval o X.env:=by rfl)
  (hfew:((backTo cpos (starEach (e :: es) X.env)).all (fun x=>!x.1) && (backToKw cpos (keywordEach [] X.env)).all (fun x=>x.1.isSome) && decide ((e :: es).length+([]:List Keyword).length+(if([]:List Keyword).isEmpty then 0 else 1)<30))=true:=by rfl)
  (hline:(apos.endLine == cpos.line)=true:=by rfl) (hs:starEach (e :: es) X.env=(false,eval e X.env) :: starEach es X.env:=by rfl) (hplain:(backTo cpos (starEach es X.env)).any (·.1)=false:=by rfl):PE X (.Call (.Attribute o name apos) (e :: es) [] cpos) (tBM K T r to t):=by
 subst eK
 exact pe_bm pa slot hty hm ho ha hbase hfew hline hs hplain
theorem call_len_seqK{X:Cx}(K:PySem.W.Frag)(e:X.K=K):CallR X (.builtin "len") (fun xs H Q=>∃ p ys,xs=[.ref p]/\(SqL K H p ys\/SqT K H p ys)/\Q (.int ys.length) H):=e▸call_len_seq
theorem map_eraseI:∀ (l:List Int) (k:Nat),(l.map V.int).eraseIdx k=(l.eraseIdx k).map V.int
 |[],k=>by cases k <;> rfl
 |x :: r,0=>rfl
 |x :: r,k+1=>by
  show V.int x :: (r.map V.int).eraseIdx k=V.int x :: (r.eraseIdx k).map V.int
  rw[map_eraseI r k]
end L2
namespace K75
open PySem L2 PyProof.Rows
theorem upto_nodup(n:Nat):(upto n).Nodup:=by
 unfold upto List.Nodup
 rw[List.pairwise_map]
 exact(List.nodup_range (n:=n)).imp fun {a b} ne e=>ne (by exact zii e)
theorem Kept.same{p:Addr}{H H':Hp}(h:H p=none)(k:Kept p H H'):Same H H':=fun b o e=>k b o (ne_of_none e h) e
theorem WebAt.kept{H H':Hp}{p t:Addr}{n:Nat}{ties:List Tie}{N:Nat}(W:WebAt H t n ties)(B:BoxAt H p N)(k:Kept p H H'):WebAt H' t n ties:=by
 obtain⟨⟨ts,as,h1,h2,h3⟩,l⟩:=W
 obtain⟨a,b,c,e,_⟩:=B
 have ne:∀ {q xs},H q=some (.tup xs)->q≠p:=fun hq=>ne_of hq e (by intro z;cases z)
 exact⟨⟨ts,as,k _ _ (ne h1) h1,k _ _ (ne h2) h2,Paired.mapP h3 fun a x e=>k _ _ (ne e) e⟩,l⟩
theorem BoxAt.same{H H':Hp}{p:Addr}{N:Nat}(B:BoxAt H p N)(s:Same H H'):BoxAt H' p N:=by
 obtain⟨a,b,c,e,r⟩:=B
 exact⟨a,b,c,s _ _ e,r⟩
open PySem L2 PyProof.Rows
structure PostOk(n:Nat)(ps:List Int):Prop where
 nd:ps.Nodup
 rg:∀ x∈ps,0<=x/\x<n
 lo:1<=ps.length
 hi:ps.length<=6
 ri:ps.Pairwise (·<=·)
inductive spPoI(vs:List V)(H:Hp)(Q:VK):Prop where
 |mk (p:Addr) (n N:Nat) (mo:Int) (h1:vs=[.ref p,.int n,.int mo]) (h2:BoxAt H p N) (h3:N+100<2 ^ 40) (h4:2<=n) (h5:n<=30) (h6:2<=mo) (h7:mo<=6) (h8:∀ (l:Addr) (ps:List Int) (H':Hp),H l=none->H' l=some (.lst (ps.map V.int))->l≠p->PostOk n ps->2<=ps.length->(ps.length:Int)<=mo->BoxAt H' p (N+20)->Kept p H H'->Q (.ref l) H')
noncomputable def spPo:Sp:=fun vs H Q _=>spPoI vs H Q
section
variable{P:Program}{w:World}{K:PySem.W.Frag}{mg:Str->Option Value}{base:Heap}
noncomputable abbrev nPo:List Str:=["_law_box_here","_law_many_here","_law_most","_law_some","_law_found"]
theorem scPo:FnScope nPo ["_law_box_here","_law_many_here","_law_most"] (defScope sPosts):=⟨rfl,rfl,rfl,by decide +kernel,rfl,by decide +kernel,by decide +kernel⟩
theorem csPo:CompScope ["_law_turn","_law_box_here","_law_some"] [none,some 0,some 3] nPo (defScope sPosts) (scO [(".0",.local),("_law_turn",.local),("_law_take",.globalImplicit),("len",.globalImplicit),("_law_box_here",.free),("_law_some",.free)]):=⟨rfl,by decide +kernel,by decide +kernel,by decide +kernel,rfl,capB_ok (by decide +kernel)⟩
theorem ndPo:(["_law_turn","_law_box_here","_law_some"]:List Str).Nodup:=by decide +kernel
theorem ok_po{f g:Addr}{fd gd:FuncData}(F:Fun K "_law_posts" "_law_posts" sPosts f fd)(T:Txt mg)(G:TakeF P w K mg base g gd):FnOk P w K mg base CX0 2 f fd ["_law_box_here","_law_many_here","_law_most"] spPo:=by
 refine F.ok scPo (fun vs H Q E h=>?_) (fun cdv A outer s H vs Q E hr h=>?_)
 ·obtain⟨p,n,N,mo,rfl,_⟩:=h
  rfl
 ·obtain⟨p,n,N,mo,rfl,B,hN,n1,n30,mo0,mo6,q⟩:=h
  refine⟨_,pss_cons (ps_set (i:=3) scPo.nd rfl (Or.inr rfl) (pe_callTy (call_list_rng rfl) (by rfl) T.list boot_list (@pa_call _ _ _ _ _ _ _ _ (pe_callTy (call_range _) (by rfl) T.range boot_range (@pa_nam _ _ _ _ _ _ (pv 1) pa_nil)) pa_nil)))
   (pss_cons (ps_comp (i:=4) scPo.nd rfl (Or.inl rfl) rfl csPo (pi_range1 rfl T.range (@pa_call _ _ _ _ _ _ _ _ (pe_callB (call_min2 rfl) (by rfl) T.min boot_min (@pa_nam _ _ _ _ _ _ (pv 1) (@pa_bin _ _ _ _ _ _ _ _ (pe_op op_add pe_int (pe_call G.ok hr rfl G.mg G.kp G.bd .nil pass0 (@pa_nam _ _ _ _ _ _ (pv 0) (@pa_bin _ _ _ _ _ _ _ _ (pe_op op_sub (pv 2) pe_int) pa_nil)))) pa_nil))) pa_nil))
    (fun C s H fp=>pg_name (i:=0) ndPo rfl (Or.inl rfl)) (fun C s H fp=>pf_nil)
    (fun C s H fp=>pe_bmK K rfl PySem.F.plainAttrs_list PySem.F.slot_list_pop PySem.F.type_list_pop mt_popAt (pv 2) (@pa_call _ _ _ _ _ _ _ _ (pe_call G.ok hr rfl G.mg G.kp G.bd .nil pass0 (@pa_nam _ _ _ _ _ _ (pv 1) (@pa_call _ _ _ _ _ _ _ _ (pe_callB (call_len_seqK K rfl) (by rfl) T.len PySem.boot_len (@pa_nam _ _ _ _ _ _ (pv 2) pa_nil)) pa_nil))) pa_nil)))
   (pss_one (ps_ret (pe_callB call_sortedI (by rfl) T.sorted boot_sorted (@pa_nam _ _ _ _ _ _ (pv 4) pa_nil))))),?_⟩
  refine⟨_,rfl,_,rfl,fun r hr=>⟨r,_,rfl,upd_same,by exact zh1,by exact zm3 n30 rfl,fun so hso=>?_⟩⟩
  rw[show((n:Int)).toNat=n by exact zCF n]
  have so0:H so=none:=(Same.new (o:=.rng 0 (n:Int)) hr).free hso
  have sop:so≠p:=B.ne so0
  have s1:=(Same.new (o:=.rng 0 (n:Int)) hr).trans (Same.new (o:=.lst ((upto n).map V.int)) hso)
  have gs:(upd (upd H r (.rng 0 (n:Int))) so (.lst ((upto n).map V.int))) so=some (.lst ((upto n).map V.int)):=upd_same
  generalize (upd (upd H r (.rng 0 (n:Int))) so (.lst ((upto n).map V.int)))=H1 at s1 gs
  have B1:=B.same s1
  refine⟨_,rfl,_,rfl,_,rfl,_,_,rfl,rfl,p,_,N,rfl,B1,by exact zL (zI N 100) hN,by lia,by lia,fun z H2 z0 z1 B2 k2=>?_⟩
  refine⟨_,_,rfl,rfl,_,_,rfl,_,rfl,by split <;> lia,by split <;> lia,?_⟩
  obtain⟨ct,ec,c1,c2,c3⟩:∃ ct:Nat,(if 2+z <(n:Int)then 2+z else(n:Int)).toNat=ct/\ct<=n/\(ct:Int)<=mo/\2<=ct:=⟨_,rfl,by split <;> lia,by split <;> lia,by split <;> lia⟩
  rw[ec]
  have k1:Kept p H H1:=fun b o _ e=>s1 b o e
  refine comp_range (lo:=0) (n:=ct) (fun j ys G2=>BoxAt G2 p (N+1+j)/\Kept p H G2/\∃ (rs qs:List Int),G2 so=some (.lst (rs.map V.int))/\ys=qs.map V.int/\(qs++rs).Perm (upto n)/\qs.length=j) (by rw[sizeLine_eq];exact zC c1 (zl1 n30 rfl))
   ⟨B2,k1.trans k2,upto n,[],k2 _ _ sop gs,rfl,.refl _,rfl⟩ ?_ ?_
  ·rintro j ys G2 hj ⟨B3,k3,rs,qs,gs3,rfl,pm,ql⟩
   have rl:qs.length+rs.length=n:=by
    have:=pm.length_eq
    rw[zY,upto_length]at this
    exact this
   refine⟨⟨rfl,rfl,trivial⟩,tTru_if ⟨_,rfl,.inl ⟨rfl,_,SqL.of gs3⟩,_,rfl,_,rfl,so,_,rfl,.inl (SqL.of gs3),p,_,_,rfl,B3,by lia,by rw[zB];lia,by rw[zB];lia,fun y G3 y0 y1 B4 k4=>?_⟩⟩
   rw[zB]at y1
   obtain⟨k,rfl⟩:∃ k:Nat,y=(k:Int):=⟨y.toNat,by exact zh3 y0⟩
   have kl:k<rs.length:=by exact zi3 y1
   have gs4:=k4 _ _ sop gs3
   refine⟨so,rs.map V.int,(k:Int),k,V.int rs[k],rfl,rfl,gs4,by exact zh2,by lia,?_,by rw[zAJ,zF kl];rfl,?_⟩
   ·unfold seqIndex?
    rw[zB]
    simp
    exact zi1 y1
   rw[map_eraseI]
   refine⟨(B4.put sop).mono (by exact zn4),(k3.trans k4).put so0,rs.eraseIdx k,qs++[rs[k]],upd_same,by rw[zAQ];rfl,?_,by rw[zY,ql];rfl⟩
   rw[zAV]
   exact(List.Perm.append_left _ (SetA.cut_perm k rs kl)).trans pm
  ·rintro ys G2 yl ⟨B3,k3,rs,qs,gs3,rfl,pm,ql⟩ D hD
   have sD:=Same.new (o:=.lst (qs.map V.int)) hD
   refine⟨_,rfl,D,qs,rfl,SqL.of upd_same,by exact zL (zh9 c1 ql) (zl2 n30 rfl),fun l ms hl pq pw=>?_⟩
   have hl2:=sD.free hl
   have sL:=Same.new (o:=.lst (ms.map V.int)) hl
   refine q l ms _ (k3.free B3 hl2) upd_same (B3.ne hl2) ?_ (by rw[pq.length_eq];exact zm1 c3 (Eq.symm ql)) (by rw[pq.length_eq];omega) (((B3.same sD).same sL).mono (by exact zhc n1 n30 mo0 mo6 c1 c2 ql)) (k3.trans (fun b o _ e=>sL b o (sD b o e)))
   have nd:=upto_nodup n
   have ndq:(qs++rs).Nodup:=pm.nodup_iff.mpr nd
   refine⟨pq.nodup_iff.mpr (List.nodup_append.mp ndq).1,fun x hx=>?_,by rw[pq.length_eq];exact zm1 (zj2 c3) (Eq.symm ql),by rw[pq.length_eq];lia,pw⟩
   have hx:x∈upto n:=pm.mem_iff.mp (zAZ _ (pq.mem_iff.mp hx))
   unfold upto at hx
   obtain⟨i,hi,e⟩:=zAP.mp hx
   have:=zBP.mp hi
   exact zi4 this e
end
end K75
namespace L2
open PySem PySem.W PyProof.Rows
section
variable{X:Cx}
theorem vals_strs:∀ (ps:List Str) {us:List Value},Vals (ps.map V.str) us->PyProof.Rows.StrsAre us ps
 |[],_,.nil=>.nil
 |p :: ps,_,.cons ⟨t,e⟩ r=>by
  subst e
  exact .cons p t (vals_strs ps r)
theorem vals_from:∀ (ps:List Str) (t:Nat),Vals (ps.map V.str) (strsFrom t ps)
 |[],_=>.nil
 |p :: ps,t=>.cons ⟨t,rfl⟩ (vals_from ps (t+1))
theorem call_int_str:CallR X (.type "int") (fun xs H Q=>∃ x n,xs=[.str x]/\PySem.intText? x=some n/\x.length<=640/\Q (.int n) H):=by
 intro pins s σ H xs us Q I r h
 obtain⟨x,n,rfl,h1,h2,q⟩:=h
 obtain⟨u,rfl,t,rfl⟩:=vals1 r
 exact PySem.W.KIN.call_text h1 h2 ⟨.int _,H,I.tok _,⟨_,rfl⟩,q⟩
inductive rJoinI(K:PySem.W.Frag)(x:V)(vs:List V)(H:Hp)(Q:VK):Prop where
 |mk (sep:Str) (l:Addr) (ps:List Str) (h1:x = .str sep) (h2:vs=[.ref l]) (h3:SqL K H l (ps.map V.str)) (h4:(ps.map fun p=>p.length).sum+ps.length * sep.length<=16777216) (h5:Q (.str (Txt.join sep ps)) H)
noncomputable def rJoin(K:PySem.W.Frag):V->List V->Hp->VK->Prop:=fun x vs H Q=>rJoinI K x vs H Q
theorem mt_join:MtM X "str.join" (rJoin X.K):=by
 intro pins s σ H x vs v us Q I rx rv h
 obtain⟨sep,l,ps,rfl,rfl,hl,hz,q⟩:=h
 obtain⟨t,rfl⟩:=rx
 obtain⟨u,rfl,ru⟩:=rv.one
 cases ru
 obtain⟨its,r,pl,_⟩:=I.list hl
 refine PyProof.Rows.join_list pl.isList (vals_strs ps r) hz fun t' k=>⟨.str _,H,I.tok _,⟨t',rfl⟩,q⟩
inductive rSplitI(x:V)(vs:List V)(H:Hp)(Q:VK):Prop where
 |mk (z y:Str) (h1:x = .str z) (h2:vs=[.str y]) (h3:0<y.length) (h4:z.length+2<=sizeLine) (h5:∀ p,H p=none->Q (.ref p) (upd H p (.lst ((Txt.split z y).map V.str))))
noncomputable def rSplit:V->List V->Hp->VK->Prop:=fun x vs H Q=>rSplitI x vs H Q
theorem mt_split:MtM X "str.split" rSplit:=by
 intro pins s σ H x vs v us Q I rx rv h
 obtain⟨z,y,rfl,rfl,hy,hz,q⟩:=h
 obtain⟨t,rfl⟩:=rx
 obtain⟨u,rfl,ru⟩:=rv.one
 obtain⟨u,rfl⟩:=ru
 have y0:(y.length == 0)=false:=by
  rw[beq_eq_false_iff_ne]
  lia
 have fin:∀ (ps:List Str) (its:List Value) (k:Nat),Vals (ps.map V.str) its->ps.length<=sizeLine->Txt.split z y=ps->EP X pins σ Q (.ref s.heap.objs.size) { s with heap:=s.heap.push { cls:=.type "list",data:=.seq its.toArray },toks:=k }:=fun ps its k hv hl e=>by
  have I1:Inv X pins σ (upd H s.heap.objs.size (.lst (ps.map V.str))) { s with heap:=s.heap.push { cls:=.type "list",data:=.seq its.toArray },toks:=k }:=I.laid (t':=k) (o:=.lst (ps.map V.str)) (fun b ob q=>zD _ q) (zH _) ⟨by rw[zB];exact hl,_,0,hv,zU _ rfl⟩
  exact⟨.ref _,_,I1,rfl,by rw[<- e];exact q _ (I.hok.fresh (zH _))⟩
 by_cases c1:(decide (z.length<y.length) || decide (Builtin.Str.strKind z<Builtin.Str.strKind y))=true
 ·refine call_meets PySem.F.slot_str_split (PySem.typeIs_str s z t) F.entry_str_split (F.args_str_split_2 _ _) (meets_str_split_cannot_occur z y t u c1) (fin [z] [.str z t] s.toks (.cons ⟨t,rfl⟩ .nil) (by show 1<=sizeLine;decide) ?_)
  unfold Txt.split
  rw[if_pos c1]
 ·by_cases c2:(Builtin.Str.occurrences z y 0 z.length (z.length+1)).isEmpty=true
  ·refine call_meets PySem.F.slot_str_split (PySem.typeIs_str s z t) F.entry_str_split (F.args_str_split_2 _ _) (meets_str_split_not_found z y t u (by simpa using c1) y0 c2) (fin [z] [.str z t] s.toks (.cons ⟨t,rfl⟩ .nil) (by show 1<=sizeLine;decide) ?_)
   unfold Txt.split
   rw[if_neg c1,if_pos c2]
  ·have hl:(Builtin.Str.partsBetween z (Builtin.Str.occurrences z y 0 z.length (z.length+1)) y.length).length<=sizeLine:=by
    rw[length_partsBetween]
    have:=StrLaws.occ_length_le_len z y 0 z.length (z.length+1)
    lia
   refine call_meets PySem.F.slot_str_split (PySem.typeIs_str s z t) F.entry_str_split (F.args_str_split_2 _ _) (meets_str_split_sep z y t u (by simpa using c1) y0 (by simpa using c2) (by lia) hl) (fin _ _ _ (vals_from _ _) hl ?_)
   unfold Txt.split
   rw[if_neg c1,if_neg c2]
inductive rSlSI(x:V)(lo:Option Int)(hi:Option Int)(H:Hp)(Q:VK):Prop where
 |mk (z:_) (h1:x = .str z) (h2:(Txt.slice z lo hi).length<=sizeLine) (h3:Q (.str (Txt.slice z lo hi)) H)
noncomputable def rSlS:V->Option Int->Option Int->Hp->VK->Prop:=fun x lo hi H Q=>rSlSI x lo hi H Q
theorem sl_str:SlR X rSlS:=by
 intro pins s σ H x v vl vu lo hi sl Q I rx hs pl pu h
 obtain⟨z,rfl,hz,q⟩:=h
 obtain⟨t,rfl⟩:=rx
 refine⟨"str",_,PyProof.Rows.slot_str_getitem.lookup,typeIs_str s z t,?_⟩
 obtain⟨o,e,c,d⟩:=hs
 have fin:∀ (l u:Option (Int×Tok)),partValue l=vl->partValue u=vu->l.map (·.1)=lo->u.map (·.1)=hi->wpAny (model X.prog X.w) X.A (getItem (.str z t) (.ref sl)) (EP X pins σ Q) X.xe s:=fun l u e1 e2 e3 e4=>by
  refine wpAny_getItem_str_slice (l:=l) (u:=u) (st:=none) ⟨o,e,c,by rw[d,e1,e2];rfl⟩ rfl ?_
  unfold sliceMade slicePicked
  unfold Txt.slice at q hz
  rw[<- e3,<- e4]at q hz
  cases hw:((Builtin.Str.strSliceIndices (l.map (·.1)) (u.map (·.1)) 1 z.length).length == z.length)with
  |true =>
   rw[hw]at q
   show Made.post (if((1:Int) == 1 && ((Builtin.Str.strSliceIndices (l.map (·.1)) (u.map (·.1)) 1 z.length).length == z.length))=true then Made.val (.str z t)else _) _ _
   rw[hw]
   exact⟨.str z,H,I,⟨t,rfl⟩,q⟩
  |false =>
   rw[hw]at q hz
   show Made.post (if((1:Int) == 1 && ((Builtin.Str.strSliceIndices (l.map (·.1)) (u.map (·.1)) 1 z.length).length == z.length))=true then Made.val (.str z t)else _) _ _
   rw[hw]
   exact⟨hz,.str _,H,I.tok _,⟨_,rfl⟩,q⟩
 cases pl with
 |none=>cases pu with
  |none=>exact fin none none rfl rfl rfl rfl
  |int j u=>exact fin none (some (j,u)) rfl rfl rfl rfl
 |int i k=>cases pu with
  |none=>exact fin (some (i,k)) none rfl rfl rfl rfl
  |int j u=>exact fin (some (i,k)) (some (j,u)) rfl rfl rfl rfl
end
open PySem PySem.W PyProof.Rows
noncomputable def Its(z:Str):It :=
 ⟨fun i H=>i<z.cps.size,fun i H x H'=>H'=H/\∃ c,z.cps[i]?=some c/\x = .str ⟨#[c]⟩,fun i H=>z.cps.size<=i⟩
theorem turn_str{P:Program}{w:World}{K:PySem.W.Frag}{tg:Expr}{it:Addr}{z:Str}{t:Tok}:Turn P w K tg (Its z) [it] it (fun i h=>h.IsStrIter it "str_ascii_iterator" z t i)where
 mem:=by simp
 obj:=fun i h st b hb=>by
  have e:b=it:=by simpa using hb
  subst e
  obtain⟨o,e,c,d⟩:=st
  exact⟨o,e,fun v z=>by rw[d]at z;cases z⟩
 keep:=fun i h h' st k=>by
  obtain⟨o,e,r⟩:=st
  exact⟨o,k it (by simp) o e,r⟩
 item:=by
  intro X hP hw hK hc i pins s σ H E I hf st hg
  subst hP hw hK
  have hx:z.cps[i]?=some (z.cps[i]'hg):=zS hg
  obtain⟨f0,f1,f2,f3,f4,f5⟩:=hf it (by simp)
  refine wpAny_pyNext_ascii_item st hx fun h' st' sb=>?_
  have I1:Inv X pins σ H { s with heap:=h',toks:=s.toks+1 }:=I.turned (t':=s.toks+1) (fun b o hb e=>(sb.2 b hb).trans e) f0 f1 f3 f4 f5
  obtain⟨o,e1,c,d⟩:=id st'
  exact⟨_,rfl,go_of (s:={ s with heap:=h',toks:=s.toks+1 }) e1 c d (by decide) ⟨.str ⟨#[z.cps[i]'hg]⟩,H,I1,⟨_,rfl⟩,⟨rfl,_,hx,rfl⟩,st',fun b hb=>(hf b hb).1⟩⟩
 done:=by
  intro X hP hw hK hc i pins s σ H E I hf st hg
  subst hP hw hK
  obtain⟨f0,f1,f2,f3,f4,f5⟩:=hf it (by simp)
  exact wpAny_pyNext_ascii_end (I.ok.hd hc) st (zCB hg) fun h' eb=>⟨rfl,I.turned (t':=s.toks) (fun b o hb e=>eb b o hb e) f0 f1 f3 f4 f5⟩
 self:=fun _ _ _ _ _ st h=>wpAny_pyIter_striter_ascii st h
noncomputable def iStr(tl:TE):TI:=fun σ H R=>tl σ H fun x H1=>∃ z,x = .str z/\(∀ c∈z.cps.toList,c<128)/\R (Its z) H1
section
variable{X:Cx}
theorem pi_str{tg l:Expr}{tl:TE}(hl:PE X l tl):PI X tg l (iStr tl):=by
 intro pins s σ H R I h
 refine thn (hl pins s σ H _ I h) fun v s1 ⟨x,H1,I1,r1,z,ex,hz,q⟩=>?_
 subst ex
 obtain⟨t,rfl⟩:=r1
 have ty:strIterType z = "str_ascii_iterator":=by
  unfold strIterType
  rw[if_pos (by rw[Array.all_eq_true'];intro c hc;exact decide_eq_true (hz c (by simpa using hc)))]
 refine wpAny_pyIter_strU ?_
 rw[ty]
 have I2:=I1.kept (t':=s1.toks) (h':=s1.heap.push { cls:=.type "str_ascii_iterator",data:=.fields #[.str z t,.int 0 0] }) fun c o e=>zD _ e
 refine⟨s1.heap.objs.size,[s1.heap.objs.size],_,_,H1,rfl,I2,turn_str (t:=t),⟨_,zU _ rfl,rfl,rfl⟩,fun c hc=>?_,q⟩
 have e:c=s1.heap.objs.size:=by simpa using hc
 subst e
 exact I1.fpOk (zH _) (I1.hok.fresh (zH _))
end
section
variable{g:TG}{tc:TT}{te:TE}{cap:List (Option Nat)}{σ:St}{H1:Hp}{Q:VK}{z:Str}
theorem comp_str(P:Nat->List V->Hp->Prop)(hz:z.cps.size<=sizeLine)(p0:P 0 [] H1)
  (hs:∀ i ys H (hi:i<z.cps.size),P i ys H->g (.str ⟨#[z.cps[i]]⟩) (capt cap σ) H fun σ2 H2=>Kp (capt cap σ) σ2/\tc σ2 H2 fun b H3=>if b=true then te σ2 H3 fun y H4=>P (i+1) (ys++[y]) H4 else P (i+1) ys H3)
  (hd:∀ ys H,ys.length<=z.cps.size->P z.cps.size ys H->∀ D,H D=none->Q (.ref D) (upd H D (.lst ys))):compTurns (Its z) cap σ H1 Q g tc te:=by
 refine⟨z.cps.size,P,hz,p0,fun i ys H yl il p=>?_⟩
 by_cases hlt:i<z.cps.size
 ·refine .inr ⟨hlt,hlt,fun x H' y=>?_⟩
  obtain⟨e,c,hc,y⟩:=y
  subst e y
  rw[zS hlt]at hc
  cases hc
  exact hs i ys _ hlt p
 ·have e:i=z.cps.size:=by exact zj7 il hlt
  subst e
  exact .inl ⟨zH _,hd ys H yl p⟩
end
open PySem PySem.W PyProof.Rows
theorem wpAny_iteB{α:Type}{M:Model}{A:Around}{E:Value->Shared->Prop}{s:Shared}{Q:α->Shared->Prop}{b:Bool}{t e:Sem α}(h1:wpAny M A t Q E s)(h2:wpAny M A e Q E s):wpAny M A (if b=true then t else e) Q E s:=by
 cases b
 ·rw[if_neg zJ];exact h2
 ·rw[if_pos rfl];exact h1
noncomputable abbrev kwStart(v:Value):List (Str×Value):=[(Str.ofString "start",v)]
theorem enum_newS(l:Addr)(items:Array Value)(i:Int)(t:Tok)(hi:Builtin.SmallTypes.fitsIndex i=true):Meets (Builtin.«enumerate.__new__» { pos:=[.type "enumerate",.ref l],kw:=kwStart (.int i t) }) fun x R s =>
  s.heap.IsList l items /\
   R (.ok (.ret (.ref (s.heap.push { cls:=.type "list_iterator",data:=.fields #[.ref l,.int 0 0] }).objs.size)))
    { s with heap:=(s.heap.push { cls:=.type "list_iterator",data:=.fields #[.ref l,.int 0 0] }).push { cls:=.type "enumerate",data:=.fields #[.none,.bool false,.ref s.heap.objs.size,rawInt i,.none,.none] } }:=by
 refine Meets.of_wp fun prog w A R s h=>?_
 obtain⟨hp,g,d,tk,os⟩:=s
 obtain⟨hL,h⟩:=h
 unfold Builtin.«enumerate.__new__» Builtin.SmallTypes.newClass
 refine zA (zA (wpAny_of_eq (show isType (.type "enumerate")=pure true from rfl) ?_))
 refine wpAny_ite_false (by rfl) (zA (wpAny_of_eq sub_enumerate (wpAny_ite_false (by rfl) (zE ?_))))
 refine wpAny_ite_true (by rfl) (zA ?_)
 unfold Builtin.SmallTypes.calledThroughType
 refine zA (wpAny_stack_any fun st=>zE ?_)
 have fin:wpAny (model prog w) A.in1 (do
   let __do_lift <- pyIter (.ref l)
   let __do_lift <- Builtin.SmallTypes.newRecord (.type "enumerate") (Builtin.SmallTypes.ownedTupleFields++[__do_lift,rawInt i,.none,.none])
   ret __do_lift) (fun fin s'=>∃ v,fin=Fin.done (Flow.ret v)/\R (.ok (.ret v)) s') (fun e s'=>R (.error e) s') { heap:=hp,gens:=g,drawn:=d,toks:=tk,os:=os }:=by
  refine zA (wpAny_pyIter_list hL (zA ?_))
  unfold Builtin.SmallTypes.newRecord newObj
  refine wpAny_ite_false (by rfl) ?_
  refine zA (wpAny_alloc' (zE ?_))
  exact zE ⟨_,rfl,h⟩
 refine wpAny_iteB (zA (wpAny_of_eq (a:=(Value.ref l,some (Value.int i t))) (by rfl) ?_)) (zA (wpAny_of_eq (a:=(Value.ref l,some (Value.int i t))) (by rfl) ?_))
 all_goals
  refine zA ?_
  unfold Builtin.SmallTypes.indexObject
  refine zA (wpAny_of_eq (a:=some i) (by rfl) (wpAny_ite_true rfl (zE ?_)))
  refine zA (wpAny_of_eq (a:=some i) (by rfl) ?_)
  refine wpAny_ite_false (by rw[hi];rfl) fin
theorem object_init_meetsK{T newId:String}{self a:Value}{rest:List Value}{kw:List (Str×Value)}(hl:typeLookup (.type T) (Str.ofString "__init__")=pure (some (.builtin "object.__init__")))(hm:Bind.madeBy (.type T)=pure (some newId))(hne:(some newId != some "object.__new__")=true) :
  Meets (Builtin.«object.__init__» { pos:=self :: a :: rest,kw:=kw }) fun x R s=>s.TypeIs self T/\R (.ok (.ret .none)) s:=by
 refine Meets.of_wp fun prog w A R s hs=>?_
 obtain⟨hT,hq⟩:=hs
 unfold Builtin.«object.__init__»
 refine wpAny_ite_true (by rfl) (zA (wpAny_typeOf hT (zA (wpAny_of_eq hl (zA (wpAny_of_eq hm (wpAny_ite_false (by rfl) (wpAny_ite_false ?_ (zE ⟨.none,rfl,hq⟩)))))))))
 rw[hne,Bool.or_true]
 rfl
theorem callType_newK{prog:Program}{w:World}{A:Around}{E:Value->Shared->Prop}{s:Shared}{T newId:String}{Bn:Builtin}{a:Value}{args:List Value}{kw:List (Str×Value)}{S:PySem.Spec}{Q:Value->Shared->Prop}(ft:TypeCalled T newId "object.__init__")(hne:(some newId != some "object.__new__")=true)
  (hct:checkTypeCall T { pos:=a :: args,kw:=kw } = pure ()) (hcn:checkBuiltinCall newId { pos:=.type T :: a :: args,kw:=kw } = pure ()) (hok:∀ obj,argsOk "object.__init__" { pos:=obj :: a :: args,kw:=kw }) (entryN:entryFor table newId=some Bn)
  (g:Meets (Bn { pos:=.type T :: a :: args,kw:=kw }) S) (h:S A.in1 (wants (fun obj s₁=>s₁.TypeIs obj T/\Q obj s₁) E) s):wpAny (model prog w) A (call (.type T) (a :: args) kw) Q E s:=by
 obtain⟨c,tl,hmro⟩:=ft.mro
 have hmade:=ft.made
 have hsub:=ft.sub
 refine wpAny_call (codeAny_of_tree ?_)
 refine zE ⟨Code.quiet_builtin _ (by decide +kernel),codeAny_builtin F.entry_type_call ?_⟩
 rw[Around.under_plain (weight_type_call_type T (a :: args) kw) (units_type_call_type T (a :: args) kw)]
 unfold Builtin.«type.__call__»
 refine wpAny_ite_false (by rw[ft.notType];rfl) ?_
 refine wpAny_ite_false (by have:=ft.canCreate;simp only[this];rfl) ?_
 refine zA (wpAny_of_eq hct (zA (wpAny_of_eq hmro (wpAny_ite_false (by rfl) (zA (wpAny_of_eq hmade (zA (zE (zA (wpAny_holding (wpAny_call ?_))))))))))) 
 refine codeAny_mono (codeAny_call_builtin ft.plain entryN (wpAny_of_eq hcn (g prog w A.in1 (wants (fun obj s₁=>s₁.TypeIs obj T/\Q obj s₁) E) s h))) fun r s₁ hr=>?_
 cases r with
 |error e=>exact hr
 |ok f =>
  cases f with
  |ret v =>
   obtain⟨hv,q⟩:=hr
   refine zA (wpAny_isInstance hv hsub (wpAny_ite_false (by rfl) (zA (wpAny_holding ?_))))
   refine wpAny_callSpecial?_slot hv ft.init (wpAny_call (codeAny_mono (codeAny_call_builtin ft.init.plain F.entry_object_init (ft.init.check _ _ _ _ _ _ _ _ hv (hok v) (object_init_meetsK ft.init.lookup ft.made hne prog w A.in1 (wants (fun r s₂=>r=Value.none/\Q v s₂) E) s₁ ⟨hv,rfl,q⟩))) fun r s₂ hr=>?_))
   cases r with
   |error e=>exact hr
   |ok f =>
    cases f with
    |ret r =>
     obtain⟨rfl,q2⟩:=hr
     exact wpAny_ite_false (by rfl) (zE q2)
    | _=>exact False.elim hr
  | _=>exact False.elim hr
theorem enum_type(a:Value)(t:Tok)(i:Int):checkTypeCall "enumerate" { pos:=[a],kw:=kwStart (.int i t) } = pure ():=by rfl
theorem enum_new(a:Value)(t:Tok)(i:Int):checkBuiltinCall "enumerate.__new__" { pos:=[.type "enumerate",a],kw:=kwStart (.int i t) } = pure ():=by with_unfolding_all rfl
theorem enum_init(o a:Value)(t:Tok)(i:Int):argsOk "object.__init__" { pos:=[o,a],kw:=kwStart (.int i t) }:=by rfl
theorem call_enum_start{prog:Program}{w:World}{A:Around}{E:Value->Shared->Prop}{s:Shared}{l:Addr}{items:Array Value}{i:Int}{t:Tok}{Q:Value->Shared->Prop}(hi:Builtin.SmallTypes.fitsIndex i=true)(hl:s.heap.IsList l items)
  (h:∀ h':Heap,IsEnum h' (s.heap.objs.size+1) s.heap.objs.size i .none->h'.IsListIter s.heap.objs.size l 0->(∀ b o,s.heap.get? b=some o->h'.get? b=some o)->Q (.ref (s.heap.objs.size+1)) { s with heap:=h' }) :
  wpAny (model prog w) A (call (.type "enumerate") [.ref l] (kwStart (.int i t))) Q E s:=by
 have hz:(s.heap.push { cls:=.type "list_iterator",data:=.fields #[.ref l,.int 0 0] }).objs.size=s.heap.objs.size+1:=Heap.size_push _ _
 have he:((s.heap.push { cls:=.type "list_iterator",data:=.fields #[.ref l,.int 0 0] }).push { cls:=.type "enumerate",data:=.fields #[.none,.bool false,.ref s.heap.objs.size,rawInt i,.none,.none] }).get? (s.heap.objs.size+1)=some { cls:=.type "enumerate",data:=.fields #[.none,.bool false,.ref s.heap.objs.size,rawInt i,.none,.none] }:=by
  rw[<- hz]
  exact zU _ rfl
 refine callType_newK F.called_enumerate (by decide) (enum_type _ _ _) (enum_new _ _ _) (fun o=>enum_init _ _ _ _) F.entry_enumerate_new (enum_newS l items i t hi) ⟨hl,?_⟩
 show(_:Shared).TypeIs (.ref _) _/\Q (.ref _) _
 rw[hz]
 exact⟨⟨_,he,rfl⟩,h _ he ⟨_,zD _ (zU _ rfl),rfl,rfl⟩ fun b o e=>zD _ (zD _ e)⟩
open PySem PySem.W PyProof.Rows
theorem callWith_type_kw{M:Model}{A:Around}{E:Value->Shared->Prop}{s:Shared}{pos:Pos}{T:String}{first:List Value}{args:List (Bool×Sem Value)}{keywords:List (Option Str×Sem Value)}{Q:Value->Shared->Prop}(hplain:(args.any fun x=>x.fst)=false)(hkw:(keywords.any fun x=>x.fst.isNone)=false)
  (h:wpAny M A (evalArgs (.type T) true args keywords) (fun a s₁=>wpAny M A (call (.type T) (first++a.pos) a.kw) Q E s₁) E s):wpAny M A (callWith pos (.type T) first args keywords) Q E s:=by
 unfold callWith
 refine zA (wpAny_holding (wpAny_mono h (fun a s₁ h₁=>zA (wpAny_standAt ?_)) fun _ _ e=>e))
 simp only[hplain,hkw,Bool.or_false]
 refine zA (zE ?_)
 exact zA (wpAny_mono h₁ (fun r s₂ hr=>zA (wpAny_holding (wpAny_point (zE hr)))) fun _ _ e=>e)
theorem draws_shift{prog:Program}{w:World}{A:Around}{it:Addr}{fp:List Addr}{n:Nat}{P:Nat->Value->Prop}{St:Nat->Heap->Prop}(D:Draws prog w A it fp n P St):Draws prog w A it fp (n+1) (fun i x=>∃ j,i=j+1/\P j x) (fun i h=>∃ j,i=j+1/\St j h)where
 live:=fun i h ⟨j,_,st⟩=>D.live j h st
 frame:=fun i h h' ⟨j,e,st⟩ k=>⟨j,e,D.frame j h h' st k⟩
 item:=fun i s Q E hi ⟨j,e,st⟩ k=>by
  subst e
  exact D.item j s Q E (zBM hi) st fun x h' tk p st' sb=>k x h' tk ⟨j,rfl,p⟩ ⟨j+1,rfl,st'⟩ sb
 done:=fun s Q E ⟨j,e,st⟩ k=>by
  cases e
  exact D.done s Q E st k
noncomputable def Ite1(K:PySem.W.Frag)(l:Addr):It :=
  ⟨fun i H=>∃ xs x,SqL K H l xs/\xs[i]?=some x,
   fun i H v H'=>∃ T x,v = .ref T/\H T=none/\H'=upd H T (.tup [.int ((i+1:Nat):Int),x])/\∀ xs,SqL K H l xs->xs[i]?=some x,
   fun i H=>∃ xs,SqL K H l xs/\i=xs.length⟩
theorem turn_enum1{P:Program}{w:World}{K:PySem.W.Frag}{es:List Expr}{kk:Nat}{pos:Pos}(e it l:Addr)(ne:e≠it)(nl:e≠l)(ni:l≠it):Turn P w K (.Tuple es kk pos) (Ite1 K l) [e,it] e
  (fun i h=>(∃ old,IsEnum h e it ((i+1:Nat):Int) old)/\h.IsListIter it l i)where
 mem:=by simp
 obj:=fun i h st b hb=>by
  obtain⟨⟨old,he⟩,h1⟩:=st
  simp only[zW,or_false,zAT]at hb
  rcases hb with z | z
  ·rw[z];exact⟨_,he,fun v z=>by cases z⟩
  ·rw[z]
   obtain⟨o,e,c,d⟩:=h1
   exact⟨o,e,fun v z=>by rw[d]at z;cases z⟩
 keep:=fun i h h' st k=>by
  obtain⟨⟨old,he⟩,h1⟩:=st
  exact⟨⟨old,k e (by simp) _ he⟩,Heap.IsListIter.at h1 fun o e=>k it (by simp) o e⟩
 item:=by
  intro X hP hw hK hc i pins s σ H E I hf st hg
  subst hP hw hK
  obtain⟨⟨old,he⟩,h1⟩:=st
  obtain⟨xs,x,q1,hx⟩:=hg
  obtain⟨us,r1,p1,_⟩:=I.list q1
  obtain⟨u,hu,ru⟩:=r1.get hx
  have hn:H s.heap.objs.size=none:=I.hok.fresh (zH _)
  refine wpAny_pyNext_enum_itemD (draws_shift (Draws.list (show X.A.in1.handled=none from I.ok.hd hc) it l ni us.toArray)) he ⟨i,rfl,h1,p1.isList⟩ (Nat.succ_lt_succ (by simpa using(zZ.mp hu).1)) ne ?_ fun v g tk hv e1 st' t1 sz kp=>⟨_,rfl,?_⟩
  ·simp only[zW,or_false,zAT,not_or]
   exact⟨ne,nl⟩
  obtain⟨j,ej,n1,_⟩:=st'
  cases ej
  obtain⟨j,ej,hv⟩:=hv
  cases ej
  have ev:v=u:=by
   have:us[i]?=some v:=by simpa using hv
   rw[hu]at this
   exact(Option.some.inj this).symm
  subst ev
  refine wpAny_letOwnedTupleGo_enum e1 fun g' e2 sb=>?_
  have zlt:e≠s.heap.objs.size:=zAC (zK he)
  have kp2:∀ b o,b∉[e,it]->s.heap.get? b=some o->g'.get? b=some o:=fun b o nb z=>by
   simp only[zW,zAT,or_false,not_or]at nb
   exact sb.extBut _ _ nb.1 (kp b o nb.1 nb.2 z)
  have I2:Inv X pins σ (upd H s.heap.objs.size (.tup [.int ((i+1:Nat):Int),x])) { s with heap:=g',toks:=tk+1 }:=I.turnedN (t':=tk+1) (ch:=[e,it]) (a:=s.heap.objs.size) (ob:=.tup [.int ((i+1:Nat):Int),x]) hf kp2 (zH _) (show ObjOk X.prog X.w _ g' _ (.tup [.int ((i+1:Nat):Int),x])from⟨by show 2<=sizeLine;decide,[.int ((i+1:Nat):Int) tk,v],.cons ⟨_,rfl⟩ (.cons ru .nil),⟨_,sb.extBut _ _ (Ne.symm zlt) t1,rfl,0,rfl⟩⟩)
  refine⟨.ref s.heap.objs.size,_,I2,rfl,⟨_,x,rfl,hn,rfl,fun xs' h=>by rw[I.list_inj h q1];exact hx⟩,⟨⟨_,by have e3:=e2;exact_mod_cast e3⟩,Heap.IsListIter.at n1 fun o z=>sb.extBut _ _ (Ne.symm ne) z⟩,fun b hb=>?_⟩
  have bo:∃ o,s.heap.get? b=some o:=by
   simp only[zW,or_false,zAT]at hb
   rcases hb with z | z
   ·rw[z];exact⟨_,he⟩
   ·rw[z];obtain⟨o,e,_⟩:=h1;exact⟨o,e⟩
  obtain⟨o,z⟩:=bo
  rw[upd_ne (zAC (zK z))]
  exact(hf b hb).1
 done:=by
  intro X hP hw hK hc i pins s σ H E I hf st hg
  subst hP hw hK
  obtain⟨⟨old,he⟩,h1⟩:=st
  obtain⟨xs,q1,le⟩:=hg
  obtain⟨us,r1,p1,_⟩:=I.list q1
  have e1:=r1.length
  refine wpAny_pyNext_enum_endD (draws_shift (Draws.list (show X.A.in1.handled=none from I.ok.hd hc) it l ni us.toArray)) he ⟨i,by rw[zQ,<- e1,le],h1,p1.isList⟩ fun g kp=>⟨rfl,?_⟩
  refine I.turnedL (t':=s.toks) (ch:=[e,it]) hf fun b o nb z=>?_
  simp only[zW,zAT,or_false,not_or]at nb
  exact kp b o nb.2 z
 self:=fun _ _ _ _ _ st h=>by
  obtain⟨⟨old,he⟩,h1⟩:=st
  exact wpAny_pyIter_enum he h
noncomputable def iEnum1(K:PySem.W.Frag)(ta:TA):TI:=fun σ H R=>ta σ H fun vs H1=>∃ l,vs=[.ref l]/\(∃ xs,SqL K H1 l xs)/\R (Ite1 K l) H1
theorem pi_enum1{X:Cx}{es:List Expr}{kk j:Nat}{tpos:Pos}{a:Expr}{ta:TA}{p p2 p3 pos:Pos}(hg:Gl X "enumerate")(hm:X.mg "enumerate" = none)(ha:PA X [a] ta)(hs:starEach [a] X.env=[(false,eval a X.env)]:=by rfl) :
  PI X (.Tuple es kk tpos) (.Call (.Name "enumerate" p) [a] [⟨some (Str.ofString "start"),.Constant (.int 1) j p2,p3⟩] pos) (iEnum1 X.K ta):=by
 intro pins s σ H R I h
 have e:backTo pos (starEach [a] X.env)=[(false,eval a X.env)]:=by rw[hs];rfl
 have hA:=ha pos pins s σ H _ I h
 rw[e]at hA
 refine wpAny_Call_Name_kw (ld_blt I hg hm boot_enumerate ?_)
 rw[e]
 refine callWith_type_kw (by rfl) (by rfl) (PyProof.Rows.evalArgs_kwB (by rfl) (thn hA fun us s1 ⟨vs,H1,I1,r1,l,ev,⟨xs,q1⟩,q⟩=>?_))
 subst ev
 obtain⟨u,rfl,rx⟩:=Vals.one r1
 cases rx
 have hk:PK X [⟨some (Str.ofString "start"),.Constant (.int 1) j p2,p3⟩] (tCons (tC (.int 1)) tNil):=pk_cons pe_int pk_nil
 refine thn (hk pos pins s1 σ H1 (fun ks H2=>H2=H1/\ks=[V.int 1]) I1 ⟨rfl,rfl⟩) fun kvs s2 ⟨ks,H2,I2,r2,eH,ek⟩=>?_
 subst eH ek
 obtain⟨u,rfl,t,rfl⟩:=Vals.one r2
 obtain⟨us,_,p1,_⟩:=I2.list q1
 have ll:l<s2.heap.objs.size:=by obtain⟨o,n,e,_⟩:=p1;exact zK e
 refine call_enum_start (by decide) p1.isList fun g' e1 h1 kp=>?_
 refine wpAny_pyIter_enum e1 ⟨s2.heap.objs.size+1,_,_,_,H2,rfl,I2.kept (t':=s2.toks) kp,turn_enum1 _ s2.heap.objs.size l (zCA (zAY _)) (zCA (Nat.lt_succ_of_lt ll)) (zAC ll),⟨⟨_,e1⟩,h1⟩,fun b hb=>?_,q⟩
 have le:s2.heap.objs.size<=b:=by
  simp only[zW,or_false,zAT]at hb
  rcases hb with e | e
  ·rw[e];exact zI _ 1
  ·rw[e];exact zH _
 exact I2.fpOk le (I2.hok.fresh le)
theorem for_enum1{K:PySem.W.Frag}{l:Addr}{xs:List V}{g:TG}{tb:TS}{D:Ends}{σ:St}{H:Hp}(Pv:Nat->St->Hp->Prop)(h0:Pv 0 σ H)(hl:∀ i σ H,i<=xs.length->Pv i σ H->SqL K H l xs)
  (hs:∀ i x σ H T,xs[i]?=some x->Pv i σ H->H T=none->g (.ref T) σ (upd H T (.tup [.int ((i+1:Nat):Int),x])) fun σ2 H2=>tb { D with nx:=Pv (i+1),ct:=Pv (i+1),bk:=D.nx } σ2 H2) (hd:∀ σ H,Pv xs.length σ H->D.nx σ H) :
  ∃ W:Nat->Nat->St->Hp->Prop,(∃ m,W 0 m σ H)/\∀ i m σ H,W i m σ H ->
   ((Ite1 K l).stop i H/\D.nx σ H)\/((Ite1 K l).go i H/\∃ N:St->Hp->Prop,(∀ σ' H',N σ' H'->∃ m',m'<m/\W (i+1) m' σ' H')/\∀ x H',(Ite1 K l).yld i H x H'->g x σ H' fun σ2 H2=>tb { D with nx:=N,ct:=N,bk:=D.nx } σ2 H2):=by
 refine⟨fun i m σ H=>m=xs.length-i/\i<=xs.length/\Pv i σ H,⟨xs.length,by simp,zAO _,h0⟩,?_⟩
 rintro i m σ H ⟨rfl,hi,p⟩
 have q:=hl i σ H hi p
 by_cases hlt:i<xs.length
 ·refine .inr ⟨⟨xs,xs[i],q,by simp[hlt]⟩,Pv (i+1),fun σ' H' p'=>⟨xs.length-(i+1),by exact zaj hlt,rfl,hlt,p'⟩,fun x H' y=>?_⟩
  obtain⟨T,x',e1,hT,e2,y⟩:=y
  subst e1
  subst e2
  exact hs i x' σ H T (y xs q) p hT
 ·have e:i=xs.length:=by exact zj7 hi hlt
  subst e
  exact .inl ⟨⟨xs,q,rfl⟩,hd σ H p⟩
open PySem PySem.W PyProof.Rows
noncomputable abbrev sg(c:Nat):Str:=⟨#[c]⟩
noncomputable def jn(c:Nat):List (List Nat)->List Nat
 |[]=>[]
 |[a]=>a
 |a :: b :: r=>a++c :: jn c (b :: r)
theorem join_two(s a b:Str)(r:List Str):s.join (a :: b :: r)=⟨a.cps++s.cps++(s.join (b :: r)).cps⟩:=rfl
theorem join_jn(c:Nat):∀ ps:List Str,((sg c).join ps).cps.toList=jn c (ps.map fun p=>p.cps.toList)
 |[]=>rfl
 |[a]=>rfl
 |a :: b :: r=>by
  rw[join_two]
  show(a.cps++(#[c]:Array Nat)++((sg c).join (b :: r)).cps).toList=_
  rw[zBD,zBD,join_jn c (b :: r)]
  simp[jn]
theorem cut_at{c:Nat}:∀ {a b:List Nat}{x y:List Nat},c∉a->c∉b->a++c :: x=b++c :: y->a=b/\x=y
 |[],[],x,y,_,_,e=>⟨rfl,(List.cons.inj e).2⟩
 |[],b :: bs,x,y,_,hb,e=>absurd (zW.mpr (.inl (List.cons.inj e).1)) hb
 |a :: as,[],x,y,ha,_,e=>absurd (zW.mpr (.inl (List.cons.inj e).1.symm)) ha
 |a :: as,b :: bs,x,y,ha,hb,e=>by
  obtain⟨e1,e2⟩:=List.cons.inj e
  obtain⟨e3,e4⟩:=cut_at (fun h=>ha (zP _ h)) (fun h=>hb (zP _ h)) e2
  exact⟨by rw[e1,e3],e4⟩
theorem jn_inj{c:Nat}:∀ {ps qs:List (List Nat)},ps≠[]->qs≠[]->(∀ p∈ps,c∉p)->(∀ q∈qs,c∉q)->jn c ps=jn c qs->ps=qs
 |[],_,h,_,_,_,_=>absurd rfl h
 | _,[],_,h,_,_,_=>absurd rfl h
 |[a],[b],_,_,_,_,e=>by rw[show a=b from e]
 |[a],b :: d :: r,_,_,ha,_,e=>by
  have e:a=b++c :: jn c (d :: r):=e
  exact absurd (by rw[e];simp) (ha a zX)
 |a :: d :: r,[b],_,_,_,hb,e=>by
  have e:a++c :: jn c (d :: r)=b:=e
  exact absurd (by rw[<- e];simp) (hb b zX)
 |a :: d :: r,b :: f :: t,_,_,ha,hb,e=>by
  have e:a++c :: jn c (d :: r)=b++c :: jn c (f :: t):=e
  obtain⟨e1,e2⟩:=cut_at (ha a zX) (hb b zX) e
  rw[e1,jn_inj (by simp) (by simp) (fun p h=>ha p (zP _ h)) (fun p h=>hb p (zP _ h)) e2]
theorem split_ne(x y:Str):Txt.split x y≠[]:=by
 unfold Txt.split
 split
 ·simp
 ·split
  ·simp
  ·intro h
   have:=congrArg List.length h
   rw[length_partsBetween]at this
   simp at this
theorem str_ext{a b:Str}(h:a.cps.toList=b.cps.toList):a=b:=by
 obtain⟨a⟩:=a
 obtain⟨b⟩:=b
 rw[show a=b from Array.toList_inj.mp h]
theorem split_join{c:Nat}{ps:List Str}(ne:ps≠[])(hp:∀ p∈ps,c∉p.cps.toList):Txt.split ((sg c).join ps) (sg c)=ps:=by
 have e:=StrLaws.join_split ((sg c).join ps) (sg c)
 have e2:=congrArg (fun z:Str=>z.cps.toList) e
 simp only[join_jn]at e2
 have h:=jn_inj (c:=c) (by intro h;exact split_ne _ _ (List.map_eq_nil_iff.mp h)) (by intro h;exact ne (List.map_eq_nil_iff.mp h)) (fun p h=>by
  obtain⟨q,hq,rfl⟩:=zAP.mp h
  exact StrLaws.split_free _ c q hq) (fun p h=>by
  obtain⟨q,hq,rfl⟩:=zAP.mp h
  exact hp q hq) e2
 have inj:∀ {xs ys:List Str},xs.map (fun p=>p.cps.toList)=ys.map (fun p=>p.cps.toList)->xs=ys:=fun {xs}=>by
  induction xs with
  |nil=>intro ys h;cases ys with | nil=>rfl | cons a b=>cases h
  |cons x xs ih =>
   intro ys h
   cases ys with
   |nil=>cases h
   |cons y ys =>
    obtain⟨h1,h2⟩:=List.cons.inj h
    rw[str_ext h1,ih h2]
 exact inj h
open PySem PySem.W PyProof.Rows
noncomputable abbrev num(i:Int):Str:=Str.ofString (toString i)
theorem num_list(m:Nat):(num (m:Int)).cps.toList=(Nat.toDigits 10 m).map Char.toNat:=by
 show(Str.ofString (toString m)).cps.toList=_
 rw[PyProof.Rows.signs_ofString,Nat.toString_eq_ofList_toDigits,String.toList_ofList]
theorem num_digits(m:Nat):NumText.AllDigits (num (m:Int)).cps.toList:=by
 intro c hc
 rw[num_list]at hc
 obtain⟨x,hx,rfl⟩:=zAP.mp hc
 have h:=Nat.isDigit_of_mem_toDigits (by decide) (by decide) hx
 have h:(x.val >= '0'.val && x.val<='9'.val)=true:=h
 rw[zBJ,decide_eq_true_eq,decide_eq_true_eq]at h
 exact⟨h.1,h.2⟩
theorem num_len{m:Nat}(h:m<10 ^ 18):(num (m:Int)).length<=18:=by
 have e:(num (m:Int)).length=(num (m:Int)).cps.toList.length:=by
  show _=_
  rw[zO]
  rfl
 rw[e,num_list,zB]
 exact(Nat.length_toDigits_le_iff (by decide) (by decide)).mpr h
theorem slice_one{z:Str}{c:Nat}{r:List Nat}(e:z.cps.toList=c :: r):Txt.slice z none (some 1)=sg c:=by
 have hl:z.length=r.length+1:=by
  have:=congrArg List.length e
  rw[zO,zV]at this
  exact this
 have hi:Builtin.Str.strSliceIndices none (some 1) 1 z.length=[0]:=by
  rw[hl]
  unfold Builtin.Str.strSliceIndices
  have e1:max 0 (min (if(1:Int)<0 then 1+((r.length+1:Nat):Int)else 1) ((r.length+1:Nat):Int))=1:=by
   rw[if_neg (by decide)]
   exact zcs
  simp only[e1]
  simp
  rfl
 unfold Txt.slice
 rw[hi]
 have h0:z.cps[0]?=some c:=by
  rw[<- zAH,e]
  rfl
 cases r with
 |nil =>
  rw[hl]
  have:z=sg c:=str_ext (by rw[e])
  rw[this]
  rfl
 |cons a b =>
  rw[hl]
  simp[h0]
end L2
namespace K75
open PySem L2 PyProof.Rows
inductive spSameI(n:Nat)(vs:List V)(H:Hp)(Q:VK):Prop where
 |mk (f u:V) (d:Dt) (h1:vs=[f,u]) (h2:Dat H n f d) (h3:Dat H n u d) (h4:∀ H',Same H H'->Q (.bl true) H')
noncomputable def spSame(n:Nat):Sp:=fun vs H Q _=>spSameI n vs H Q
section
variable{P:Program}{w:World}{K:PySem.W.Frag}{mg:Str->Option Value}{base:Heap}
theorem scSame:FnScope ["_law_found","_law_due"] ["_law_found","_law_due"] (defScope sSame):=⟨rfl,rfl,rfl,by decide +kernel,rfl,by decide +kernel,by decide +kernel⟩
theorem csSame:CompScope ["_law_one","_law_other"] [none,none] ["_law_found","_law_due"] (defScope sSame) (scO [(".0",.local),("_law_one",.local),("_law_other",.local),("_law_same",.globalImplicit)]):=⟨rfl,by decide +kernel,by decide +kernel,by decide +kernel,rfl,capB_ok (by decide +kernel)⟩
theorem ndSame:(["_law_one","_law_other"]:List Str).Nodup:=by decide +kernel
theorem same_flat{f:Addr}{cdv:Value}{A:Around}{outer:List Env}{s:Shared}{H:Hp}{Q:VK}{E:XK}(T:Txt mg){x:V}{d:Dt}(hx:Dat H 0 x d)(q:∀ H',Same H H'->Q (.bl true) H') :
  ∃ t,PSs (cxOf CX0 P w K mg base ["_law_found","_law_due"] "_law_same" (defScope sSame) f cdv A outer s H E).nox (defBody sSame) t/\t { nx:=fun _ H'=>Q .non H',rt:=Q } (start ["_law_found","_law_due"] [x,x]) H:=by
 cases d with
 |int i =>
  have ex:x = .int i:=hx
  subst ex
  refine⟨_,pss_cons (ps_if (pt_val (pe_callB call_isinst2 (by rfl) T.isinst boot_isinstance (@pa_nam _ _ _ _ _ _ (pv 1) (@pa_tup _ _ _ _ _ _ _ (pe_tup (@pa_nam _ _ _ _ _ _ (pe_bltn (v:=.ty "list") (by rfl) T.list boot_list rfl) (@pa_nam _ _ _ _ _ _ (pe_bltn (v:=.ty "tuple") (by rfl) T.tuple boot_tuple rfl) pa_nil))) pa_nil)))) pss_never pss_nil)
   (pss_cons (ps_if (PW.pt (pw_or (pt_cmpR op_isN (pv 1) pe_non (nomark _)) (pw_or1 (pt_val (pe_callB call_isinst (by rfl) T.isinst boot_isinstance (@pa_nam _ _ _ _ _ _ (pv 1) (@pa_nam _ _ _ _ _ _ (pe_bltn (v:=.ty "str") (by rfl) T.str boot_str rfl) pa_nil))))))) pss_never pss_nil)
   (pss_cons (ps_if (pt_val (pe_callB call_isinst (by rfl) T.isinst boot_isinstance (@pa_nam _ _ _ _ _ _ (pv 1) (@pa_nam _ _ _ _ _ _ (pe_bltn (v:=.ty "bool") (by rfl) T.bool boot_bool rfl) pa_nil)))) pss_never pss_nil)
   (pss_one (ps_ret (pe_and (pe_callB call_isinst (by rfl) T.isinst boot_isinstance (@pa_nam _ _ _ _ _ _ (pv 0) (@pa_nam _ _ _ _ _ _ (pe_bltn (v:=.ty "int") (by rfl) T.int boot_int rfl) pa_nil)))
    (pe_and (pe_not (pe_callB call_isinst (by rfl) T.isinst boot_isinstance (@pa_nam _ _ _ _ _ _ (pv 0) (@pa_nam _ _ _ _ _ _ (pe_bltn (v:=.ty "bool") (by rfl) T.bool boot_bool rfl) pa_nil))))
    (pe_one (pe_cmpR op_eq (pv 0) (pv 1) (nomark _))))))))),?_⟩
  refine⟨_,rfl,(by show 2<=sizeLine;decide),fun tp htp=>⟨_,_,tp,false,rfl,TyF.int i,upd_same,rfl,_,rfl,iteF ?_⟩⟩
  refine⟨_,rfl,rfl,_,rfl,?_⟩
  refine ite2 (fun h=>absurd (of_decide_eq_true h) (by intro z;cases z)) (fun _=>?_)
  refine⟨_,rfl,_,_,"str",false,rfl,TyOf.int i,rfl,_,rfl,iteF ?_⟩
  refine⟨_,rfl,_,_,"bool",false,rfl,TyOf.int i,rfl,_,rfl,iteF ?_⟩
  refine⟨_,rfl,_,_,"int",true,rfl,TyOf.int i,rfl,_,rfl,iteT ?_⟩
  refine⟨_,rfl,_,_,"bool",false,rfl,TyOf.int i,rfl,_,rfl,_,rfl,iteT ?_⟩
  refine⟨_,rfl,_,rfl,rfl,?_⟩
  rw[decide_eq_true rfl]
  exact q _ (Same.new htp)
 |bl i =>
  have ex:x = .bl i:=hx
  subst ex
  refine⟨_,pss_cons (ps_if (pt_val (pe_callB call_isinst2 (by rfl) T.isinst boot_isinstance (@pa_nam _ _ _ _ _ _ (pv 1) (@pa_tup _ _ _ _ _ _ _ (pe_tup (@pa_nam _ _ _ _ _ _ (pe_bltn (v:=.ty "list") (by rfl) T.list boot_list rfl) (@pa_nam _ _ _ _ _ _ (pe_bltn (v:=.ty "tuple") (by rfl) T.tuple boot_tuple rfl) pa_nil))) pa_nil)))) pss_never pss_nil)
   (pss_cons (ps_if (PW.pt (pw_or (pt_cmpR op_isN (pv 1) pe_non (nomark _)) (pw_or1 (pt_val (pe_callB call_isinst (by rfl) T.isinst boot_isinstance (@pa_nam _ _ _ _ _ _ (pv 1) (@pa_nam _ _ _ _ _ _ (pe_bltn (v:=.ty "str") (by rfl) T.str boot_str rfl) pa_nil))))))) pss_never pss_nil)
   (pss_cons (ps_if (pt_val (pe_callB call_isinst (by rfl) T.isinst boot_isinstance (@pa_nam _ _ _ _ _ _ (pv 1) (@pa_nam _ _ _ _ _ _ (pe_bltn (v:=.ty "bool") (by rfl) T.bool boot_bool rfl) pa_nil))))
    (pss_one (ps_ret (pe_and (pe_callB call_isinst (by rfl) T.isinst boot_isinstance (@pa_nam _ _ _ _ _ _ (pv 0) (@pa_nam _ _ _ _ _ _ (pe_bltn (v:=.ty "bool") (by rfl) T.bool boot_bool rfl) pa_nil))) (pe_one (pe_cmpR op_eq (pv 0) (pv 1) (nomark _)))))) pss_nil)
   (pss_one ps_never))),?_⟩
  refine⟨_,rfl,(by show 2<=sizeLine;decide),fun tp htp=>⟨_,_,tp,false,rfl,TyF.bl i,upd_same,rfl,_,rfl,iteF ?_⟩⟩
  refine⟨_,rfl,rfl,_,rfl,?_⟩
  refine ite2 (fun h=>absurd (of_decide_eq_true h) (by intro z;cases z)) (fun _=>?_)
  refine⟨_,rfl,_,_,"str",false,rfl,TyOf.bl i,rfl,_,rfl,iteF ?_⟩
  refine⟨_,rfl,_,_,"bool",true,rfl,TyOf.bl i,rfl,_,rfl,iteT ?_⟩
  refine⟨_,rfl,_,_,"bool",true,rfl,TyOf.bl i,rfl,_,rfl,iteT ?_⟩
  refine⟨_,rfl,_,rfl,rfl,?_⟩
  rw[decide_eq_true rfl]
  exact q _ (Same.new htp)
 |non =>
  have ex:x = .non:=hx
  subst ex
  refine⟨_,pss_cons (ps_if (pt_val (pe_callB call_isinst2 (by rfl) T.isinst boot_isinstance (@pa_nam _ _ _ _ _ _ (pv 1) (@pa_tup _ _ _ _ _ _ _ (pe_tup (@pa_nam _ _ _ _ _ _ (pe_bltn (v:=.ty "list") (by rfl) T.list boot_list rfl) (@pa_nam _ _ _ _ _ _ (pe_bltn (v:=.ty "tuple") (by rfl) T.tuple boot_tuple rfl) pa_nil))) pa_nil)))) pss_never pss_nil)
   (pss_cons (ps_if (PW.pt (pw_or (pt_cmpR op_isN (pv 1) pe_non (nomark _)) (pw_or1 (pt_val (pe_callB call_isinst (by rfl) T.isinst boot_isinstance (@pa_nam _ _ _ _ _ _ (pv 1) (@pa_nam _ _ _ _ _ _ (pe_bltn (v:=.ty "str") (by rfl) T.str boot_str rfl) pa_nil)))))))
    (pss_one (ps_ret (pe_and (pe_cmpR op_eq (pv 0) (pv 1) (nomark _)) (pe_one (pe_cmpR op_eq (pe_callB call_isinst (by rfl) T.isinst boot_isinstance (@pa_nam _ _ _ _ _ _ (pv 0) (@pa_nam _ _ _ _ _ _ (pe_bltn (v:=.ty "str") (by rfl) T.str boot_str rfl) pa_nil))) (pe_callB call_isinst (by rfl) T.isinst boot_isinstance (@pa_nam _ _ _ _ _ _ (pv 1) (@pa_nam _ _ _ _ _ _ (pe_bltn (v:=.ty "str") (by rfl) T.str boot_str rfl) pa_nil))) (nomark _)))))) pss_nil)
   (pss_cons ps_never (pss_one ps_never))),?_⟩
  refine⟨_,rfl,(by show 2<=sizeLine;decide),fun tp htp=>⟨_,_,tp,false,rfl,TyF.non,upd_same,rfl,_,rfl,iteF ?_⟩⟩
  refine⟨_,rfl,rfl,_,rfl,?_⟩
  refine ite2 (fun _=>?_) (fun h=>absurd (decide_eq_true rfl) h)
  refine iteT ?_
  refine⟨_,rfl,_,rfl,rfl,_,rfl,?_⟩
  refine ite2 (fun _=>?_) (fun h=>absurd (decide_eq_true rfl) h)
  refine⟨_,rfl,_,_,"str",false,rfl,TyOf.non,rfl,_,rfl,_,_,"str",false,rfl,TyOf.non,rfl,rfl,?_⟩
  rw[decide_eq_true rfl]
  exact q _ (Same.new htp)
 |str i =>
  have ex:x = .str i:=hx
  subst ex
  refine⟨_,pss_cons (ps_if (pt_val (pe_callB call_isinst2 (by rfl) T.isinst boot_isinstance (@pa_nam _ _ _ _ _ _ (pv 1) (@pa_tup _ _ _ _ _ _ _ (pe_tup (@pa_nam _ _ _ _ _ _ (pe_bltn (v:=.ty "list") (by rfl) T.list boot_list rfl) (@pa_nam _ _ _ _ _ _ (pe_bltn (v:=.ty "tuple") (by rfl) T.tuple boot_tuple rfl) pa_nil))) pa_nil)))) pss_never pss_nil)
   (pss_cons (ps_if (PW.pt (pw_or (pt_cmpR op_isN (pv 1) pe_non (nomark _)) (pw_or1 (pt_val (pe_callB call_isinst (by rfl) T.isinst boot_isinstance (@pa_nam _ _ _ _ _ _ (pv 1) (@pa_nam _ _ _ _ _ _ (pe_bltn (v:=.ty "str") (by rfl) T.str boot_str rfl) pa_nil)))))))
    (pss_one (ps_ret (pe_and (pe_cmpR op_eq (pv 0) (pv 1) (nomark _)) (pe_one (pe_cmpR op_eq (pe_callB call_isinst (by rfl) T.isinst boot_isinstance (@pa_nam _ _ _ _ _ _ (pv 0) (@pa_nam _ _ _ _ _ _ (pe_bltn (v:=.ty "str") (by rfl) T.str boot_str rfl) pa_nil))) (pe_callB call_isinst (by rfl) T.isinst boot_isinstance (@pa_nam _ _ _ _ _ _ (pv 1) (@pa_nam _ _ _ _ _ _ (pe_bltn (v:=.ty "str") (by rfl) T.str boot_str rfl) pa_nil))) (nomark _)))))) pss_nil)
   (pss_cons ps_never (pss_one ps_never))),?_⟩
  refine⟨_,rfl,(by show 2<=sizeLine;decide),fun tp htp=>⟨_,_,tp,false,rfl,TyF.str i,upd_same,rfl,_,rfl,iteF ?_⟩⟩
  refine⟨_,rfl,rfl,_,rfl,?_⟩
  refine ite2 (fun h=>absurd (of_decide_eq_true h) (by intro z;cases z)) (fun _=>?_)
  refine⟨_,rfl,_,_,"str",true,rfl,TyOf.str i,rfl,_,rfl,iteT ?_⟩
  refine⟨_,rfl,_,rfl,rfl,_,rfl,?_⟩
  refine ite2 (fun _=>?_) (fun h=>absurd (decide_eq_true rfl) h)
  refine⟨_,rfl,_,_,"str",true,rfl,TyOf.str i,rfl,_,rfl,_,_,"str",true,rfl,TyOf.str i,rfl,rfl,?_⟩
  rw[decide_eq_true rfl]
  exact q _ (Same.new htp)
 |lst ds=>exact(show False from hx).elim
 |tup ds=>exact(show False from hx).elim
end
open PySem L2 PyProof.Rows
theorem rep_snoc(i:Nat):(List.replicate i true).map V.bl++[V.bl true]=(List.replicate (i+1) true).map V.bl:=by rw[List.replicate_succ',zAQ];rfl
theorem rep_all(i:Nat):(List.replicate i true).all id=true:=by simp
section
variable{P:Program}{w:World}{K:PySem.W.Frag}{mg:Str->Option Value}{base:Heap}
theorem paired_len{H:Hp}{n:Nat}{xs:List V}{ds:List Dt}(h:Paired (Dat H n) xs ds):xs.length=ds.length:=Paired.length h
theorem same_seq{n:Nat}{f:Addr}{fd:FuncData}{cdv:Value}{A:Around}{outer:List Env}{s:Shared}{H:Hp}{Q:VK}{E:XK}(T:Txt mg)(T2:Txt2 mg)(G:CalF P w K mg base (n+1) "_law_same" ["_law_found","_law_due"] (spSame n) f fd)
  (hr:Room (n+1) (A.deeper (envOfC "_law_same" (defScope sSame) s.heap.objs.size f cdv))) (b:Bool) {p1 p2:Addr}{xs ys:List V}{ds:List Dt}{t:Value} (ty1:TyF H (.ref p1) t) (ty2:TyF H (.ref p2) t) (kt:t=if b then .type "tuple" else .type "list")
  (q1:SqB b K H p1 xs) (q2:SqB b K H p2 ys) (l1:xs.length<=sizeLine) (r1:Paired (Dat H n) xs ds) (r2:Paired (Dat H n) ys ds) (q:∀ H',Same H H'->Q (.bl true) H') :
  ∃ t,PSs (cxOf CX0 P w K mg base ["_law_found","_law_due"] "_law_same" (defScope sSame) f cdv A outer s H E).nox (defBody sSame) t/\t { nx:=fun _ H'=>Q .non H',rt:=Q } (start ["_law_found","_law_due"] [.ref p1,.ref p2]) H:=by
 have e1:=paired_len r1
 have e2:=paired_len r2
 refine⟨_,pss_cons (ps_if (pt_val (pe_callB call_isinst2 (by rfl) T.isinst boot_isinstance (@pa_nam _ _ _ _ _ _ (pv 1) (@pa_tup _ _ _ _ _ _ _ (pe_tup (@pa_nam _ _ _ _ _ _ (pe_bltn (v:=.ty "list") (by rfl) T.list boot_list rfl) (@pa_nam _ _ _ _ _ _ (pe_bltn (v:=.ty "tuple") (by rfl) T.tuple boot_tuple rfl) pa_nil))) pa_nil))))
   (pss_cons (ps_if (PW.pt (pw_or (pt_cmpR op_ne (pe_callB call_isinst (by rfl) T.isinst boot_isinstance (@pa_nam _ _ _ _ _ _ (pv 0) (@pa_nam _ _ _ _ _ _ (pe_bltn (v:=.ty "list") (by rfl) T.list boot_list rfl) pa_nil))) (pe_callB call_isinst (by rfl) T.isinst boot_isinstance (@pa_nam _ _ _ _ _ _ (pv 1) (@pa_nam _ _ _ _ _ _ (pe_bltn (v:=.ty "list") (by rfl) T.list boot_list rfl) pa_nil))) (nomark _))
    (pw_or1 (pt_cmpR op_ne (pe_callB call_isinst (by rfl) T.isinst boot_isinstance (@pa_nam _ _ _ _ _ _ (pv 0) (@pa_nam _ _ _ _ _ _ (pe_bltn (v:=.ty "tuple") (by rfl) T.tuple boot_tuple rfl) pa_nil))) (pe_callB call_isinst (by rfl) T.isinst boot_isinstance (@pa_nam _ _ _ _ _ _ (pv 1) (@pa_nam _ _ _ _ _ _ (pe_bltn (v:=.ty "tuple") (by rfl) T.tuple boot_tuple rfl) pa_nil))) (nomark _))))) pss_never pss_nil)
   (pss_one (ps_ret (pe_and (pe_cmpR op_eq (pe_callB call_len_seq (by rfl) T.len PySem.boot_len (@pa_nam _ _ _ _ _ _ (pv 0) pa_nil)) (pe_callB call_len_seq (by rfl) T.len PySem.boot_len (@pa_nam _ _ _ _ _ _ (pv 1) pa_nil)) (nomark _))
    (pe_one (pe_callB (call_all rfl) (by rfl) T2.all boot_all (@pa_comp _ _ _ _ _ _ _ _ (pe_comp rfl csSame (pi_zip b b (by rfl) T2.zip (@pa_nam _ _ _ _ _ _ (pv 0) (@pa_nam _ _ _ _ _ _ (pv 1) pa_nil)))
     (fun C s H fp=>pg_tupK K rfl (n:=2) rfl (pgs_cons (pg_name (i:=0) ndSame rfl (Or.inl rfl)) (pgs_cons (pg_name (i:=1) ndSame rfl (Or.inl rfl)) pgs_nil)) rfl rfl) (fun C s H fp=>pf_nil)
     (fun C s H fp=>pe_call G.ok hr rfl G.mg G.kp G.bd .nil pass0 (@pa_nam _ _ _ _ _ _ (pv 0) (@pa_nam _ _ _ _ _ _ (pv 1) pa_nil)))) pa_nil))))))) pss_nil)
  (pss_cons ps_never (pss_cons ps_never (pss_one ps_never))),?_⟩
 refine⟨_,rfl,(by show 2<=sizeLine;decide),fun tp htp=>?_⟩
 have s0:Same H (upd H tp (.tup [.ty "list",.ty "tuple"])):=Same.new htp
 have up:∀ {x:V}{t:Value},TyF H x t->TyF (upd H tp (.tup [.ty "list",.ty "tuple"])) x t:=fun h=>by
  cases h with
  |non=>exact .non
  |bl x=>exact .bl x
  |int i=>exact .int i
  |str x=>exact .str x
  |lst e=>exact .lst (s0 _ _ e)
  |tup e=>exact .tup (s0 _ _ e)
 have y1:=up ty1
 have y2:=up ty2
 have k1:∃ c,PySem.W.kitOne K t (.type "list")=some c:=by rw[kt];cases b <;> exact⟨_,rfl⟩
 have k2:∃ c,PySem.W.kitOne K t (.type "tuple")=some c:=by rw[kt];cases b <;> exact⟨_,rfl⟩
 have k3:PySem.W.kitAny K t [.type "list",.type "tuple"]=some true:=by rw[kt];cases b <;> rfl
 obtain⟨c1,k1⟩:=k1
 obtain⟨c2,k2⟩:=k2
 refine⟨_,t,tp,true,rfl,y2,upd_same,k3,_,rfl,iteT ?_⟩
 refine⟨_,rfl,_,t,"list",c1,rfl,y1.of,k1,_,rfl,_,t,"list",c1,rfl,y2.of,k1,rfl,_,rfl,?_⟩
 refine iteNS rfl ?_
 refine⟨_,rfl,_,t,"tuple",c2,rfl,y1.of,k2,_,rfl,_,t,"tuple",c2,rfl,y2.of,k2,rfl,_,rfl,?_⟩
 refine iteNS rfl ?_
 have seqOr:∀ {a:Addr}{zs:List V},SqB b K H a zs->SqL K (upd H tp (.tup [.ty "list",.ty "tuple"])) a zs\/SqT K (upd H tp (.tup [.ty "list",.ty "tuple"])) a zs:=fun h=>by
  have h':=s0.seqB h
  cases b
  ·exact .inl h'
  ·exact .inr h'
 refine⟨_,rfl,p1,xs,rfl,seqOr q1,_,rfl,p2,ys,rfl,seqOr q2,rfl,_,rfl,?_⟩
 refine ite2 (fun _=>?_) (fun h=>absurd (decide_eq_true (by rw[e1,e2])) h)
 refine⟨_,rfl,_,rfl,p1,p2,rfl,⟨_,s0.seqB q1⟩,⟨_,s0.seqB q2⟩,?_⟩
 refine comp_zip (K:=K) (b1:=b) (b2:=b) (l1:=p1) (l2:=p2) (xs:=xs) (ys:=ys) (fun i zs G=>Same H G/\zs=(List.replicate i true).map V.bl) (by exact zfl l1 e1 e2) ⟨s0,rfl⟩ (fun i zs G _ z=>⟨z.1.seqB q1,z.1.seqB q2⟩) ?_ ?_
 ·rintro i x y zs G U hx hy ⟨sm,rfl⟩ hU
  obtain⟨il,ex⟩:=zZ.mp hx
  obtain⟨jl,ey⟩:=zZ.mp hy
  subst ex ey
  have di:i<ds.length:=by exact zh7 il e1
  have sU:=sm.trans (Same.new (o:=.tup [xs[i],ys[i]]) hU)
  refine⟨U,_,rfl,SqT.of upd_same,rfl,_,_,rfl,_,_,rfl,rfl,trivial,tTru_if ⟨_,rfl,_,rfl,xs[i],ys[i],ds[i],rfl,Dat.same sU (Paired.at r1 i il di),Dat.same sU (Paired.at r2 i jl di),fun G2 sm2=>⟨sU.trans sm2,rep_snoc i⟩⟩⟩
 ·rintro zs G _ ⟨sm,rfl⟩ D hD
  refine⟨D,_,rfl,SqL.of upd_same,?_⟩
  rw[rep_all]
  exact q _ (sm.trans (Same.new hD))
theorem ok_same{f:Addr}{fd:FuncData}(F:Fun K "_law_same" "_law_same" sSame f fd)(T:Txt mg)(T2:Txt2 mg)(mf:mg "_law_same" = some (.ref f))(bd:Binds K fd ["_law_found","_law_due"] []):∀ n:Nat,FnOk P w K mg base CX0 (n+1) f fd ["_law_found","_law_due"] (spSame n)
 | 0=>by
  refine F.ok scSame (fun vs H Q E h=>?_) (fun cdv A outer s H vs Q E hr h=>?_)
  ·obtain⟨x,u,d,rfl,_⟩:=h
   rfl
  ·obtain⟨x,u,d,rfl,h1,h2,q⟩:=h
   cases d with
   |lst ds=>exact(show False from h1).elim
   |tup ds=>exact(show False from h1).elim
   |non=>cases(show x = .non from h1);cases(show u = .non from h2);exact same_flat (d:=.non) T rfl q
   |bl i=>cases(show x = .bl i from h1);cases(show u = .bl i from h2);exact same_flat (d:=.bl i) T rfl q
   |int i=>cases(show x = .int i from h1);cases(show u = .int i from h2);exact same_flat (d:=.int i) T rfl q
   |str i=>cases(show x = .str i from h1);cases(show u = .str i from h2);exact same_flat (d:=.str i) T rfl q
 |n+1=>by
  have IH:=ok_same F T T2 mf bd n
  refine F.ok scSame (fun vs H Q E h=>?_) (fun cdv A outer s H vs Q E hr h=>?_)
  ·obtain⟨x,u,d,rfl,_⟩:=h
   rfl
  ·obtain⟨x,u,d,rfl,h1,h2,q⟩:=h
   cases d with
   |lst ds =>
    obtain⟨p1,xs,rfl,l1,a1,r1⟩:=h1
    obtain⟨p2,ys,rfl,_,a2,r2⟩:=h2
    exact same_seq T T2 ⟨IH,mf,F.kp,bd⟩ hr false (.lst a1) (.lst a2) rfl (SqL.of a1) (SqL.of a2) (by rw[sizeLine_eq];exact zl1 l1 rfl) r1 r2 q
   |tup ds =>
    obtain⟨p1,xs,rfl,l1,a1,r1⟩:=h1
    obtain⟨p2,ys,rfl,_,a2,r2⟩:=h2
    exact same_seq T T2 ⟨IH,mf,F.kp,bd⟩ hr true (.tup a1) (.tup a2) rfl (SqT.of a1) (SqT.of a2) (by rw[sizeLine_eq];exact zl1 l1 rfl) r1 r2 q
   |non=>cases(show x = .non from h1);cases(show u = .non from h2);exact same_flat (d:=.non) T rfl q
   |bl i=>cases(show x = .bl i from h1);cases(show u = .bl i from h2);exact same_flat (d:=.bl i) T rfl q
   |int i=>cases(show x = .int i from h1);cases(show u = .int i from h2);exact same_flat (d:=.int i) T rfl q
   |str i=>cases(show x = .str i from h1);cases(show u = .str i from h2);exact same_flat (d:=.str i) T rfl q
end
open PySem L2 PyProof.Rows
theorem rep_t(i:Nat):(List.replicate i true).map V.bl++[V.bl true]=(List.replicate (i+1) true).map V.bl:=by rw[List.replicate_succ',zAQ];rfl
theorem all_rep(i:Nat):(List.replicate i true).all id=true:=by simp
inductive spNuI(vs:List V)(H:Hp)(Q:VK):Prop where
 |mk (z:Int) (h1:vs=[.int z]) (h2:Q (.bl true) H)
noncomputable def spNu:Sp:=fun vs H Q _=>spNuI vs H Q
inductive spAnI(K:PySem.W.Frag)(vs:List V)(H:Hp)(Q:VK):Prop where
 |mk (b:Bool) (a:Addr) (ns:List Int) (h1:vs=[.ref a]) (h2:SqB b K H a (ns.map V.int)) (h3:ns.length<=1000) (h4:∀ H',Same H H'->Q (.bl true) H')
noncomputable def spAn(K:PySem.W.Frag):Sp:=fun vs H Q _=>spAnI K vs H Q
inductive spItI(vs:List V)(H:Hp)(Q:VK):Prop where
 |mk (a:Addr) (xs:List V) (m:Int) (h1:vs=[.ref a,.int m]) (h2:H a=some (.tup xs)) (h3:Q (.bl (decide ((xs.length:Int)=m))) H)
noncomputable def spIt:Sp:=fun vs H Q _=>spItI vs H Q
section
variable{P:Program}{w:World}{K:PySem.W.Frag}{mg:Str->Option Value}{base:Heap}
noncomputable abbrev nNu:List Str:=["thing"]
theorem scNu:FnScope nNu ["thing"] (defScope sIsNumber):=⟨rfl,rfl,rfl,by decide +kernel,rfl,by decide +kernel,by decide +kernel⟩
theorem ok_nu{f:Addr}{fd:FuncData}(F:Fun K "is_number" "is_number" sIsNumber f fd)(T:Txt mg):FnOk P w K mg base CX0 1 f fd ["thing"] spNu:=by
 refine F.ok scNu (fun vs H Q E h=>?_) (fun cdv A outer s H vs Q E hr h=>?_)
 ·obtain⟨z,rfl,_⟩:=h
  rfl
 ·obtain⟨z,rfl,fin⟩:=h
  refine⟨_,(pss_one (ps_ret (pe_and (pe_callB call_isinst (by rfl) T.isinst boot_isinstance (@pa_nam _ _ _ _ _ _ (pv 0) (@pa_nam _ _ _ _ _ _ (pe_bltn (v:=.ty "int") (by rfl) T.int boot_int rfl) pa_nil))) (pe_one (pe_not (pe_callB call_isinst (by rfl) T.isinst boot_isinstance (@pa_nam _ _ _ _ _ _ (pv 0) (@pa_nam _ _ _ _ _ _ (pe_bltn (v:=.ty "bool") (by rfl) T.bool boot_bool rfl) pa_nil)))))))),?_⟩
  refine⟨_,rfl,_,_,"int",true,rfl,TyOf.int _,rfl,_,rfl,iteT ?_⟩
  exact⟨_,rfl,_,_,"bool",false,rfl,TyOf.int _,rfl,_,rfl,fin⟩
noncomputable abbrev nAn:List Str:=["things"]
theorem scAn:FnScope nAn ["things"] (defScope sAreNumbers):=⟨rfl,rfl,rfl,by decide +kernel,rfl,by decide +kernel,by decide +kernel⟩
theorem csAn1:CompScope ["thing"] [none] nAn (defScope sAreNumbers) (scO [(".0",.local),("thing",.local),("is_number",.globalImplicit)]):=⟨rfl,by decide +kernel,by decide +kernel,by decide +kernel,rfl,capB_ok (by decide +kernel)⟩
theorem ndAn1:(["thing"]:List Str).Nodup:=by decide +kernel
theorem ok_an{f g:Addr}{fd gd:FuncData}(F:Fun K "are_numbers" "are_numbers" sAreNumbers f fd)(T2:Txt2 mg)(GN:CalF P w K mg base 1 "is_number" ["thing"] spNu g gd):FnOk P w K mg base CX0 2 f fd ["things"] (spAn K):=by
 refine F.ok scAn (fun vs H Q E h=>?_) (fun cdv A outer s H vs Q E hr h=>?_)
 ·obtain⟨b,a,ns,rfl,_⟩:=h
  rfl
 ·obtain⟨b,a,ns,rfl,ga,l,fin⟩:=h
  refine⟨_,(pss_one (ps_ret (pe_callB (call_allH rfl) (by rfl) T2.all boot_all (@pa_comp _ _ _ _ _ _ _ _ (pe_comp rfl csAn1 (pi_seq b (pv 0)) (fun C s H fp=>(pg_name (i:=0) ndAn1 rfl (Or.inl rfl))) (fun C s H fp=>pf_nil) (fun C s H fp=>(pe_call GN.ok hr rfl GN.mg GN.kp GN.bd .nil pass0 (@pa_nam _ _ _ _ _ _ (pv 0) pa_nil)))) pa_nil)))),?_⟩
  refine⟨_,rfl,a,rfl,⟨_,ga⟩,?_⟩
  refine comp_seq (K:=K) (b:=b) (a:=a) (xs:=ns.map V.int) (fun i ys G=>G=H/\ys=(List.replicate i true).map V.bl) (by rw[zB,sizeLine_eq];exact zl1 l rfl) ⟨rfl,rfl⟩ (fun i ys G _ z=>by rw[z.1];exact ga) ?_ ?_
  ·rintro i x ys G hx ⟨rfl,rfl⟩
   obtain⟨il,e⟩:=zZ.mp hx
   rw[zBC]at e
   subst e
   exact⟨trivial,tTru_if ⟨_,rfl,_,rfl,rfl,rep_t i⟩⟩
  ·rintro ys G _ ⟨rfl,rfl⟩ D hD
   refine⟨D,_,rfl,upd_same,?_⟩
   rw[all_rep]
   exact fin _ (Same.new hD)
noncomputable abbrev nIt:List Str:=["thing","many"]
theorem scIt:FnScope nIt ["thing","many"] (defScope sIsTupleOf):=⟨rfl,rfl,rfl,by decide +kernel,rfl,by decide +kernel,by decide +kernel⟩
theorem ok_it{f:Addr}{fd:FuncData}(F:Fun K "is_tuple_of" "is_tuple_of" sIsTupleOf f fd)(T:Txt mg):FnOk P w K mg base CX0 1 f fd ["thing","many"] spIt:=by
 refine F.ok scIt (fun vs H Q E h=>?_) (fun cdv A outer s H vs Q E hr h=>?_)
 ·obtain⟨a,xs,m,rfl,_⟩:=h
  rfl
 ·obtain⟨a,xs,m,rfl,ga,fin⟩:=h
  refine⟨_,(pss_one (ps_ret (pe_and (pe_callB call_isinst (by rfl) T.isinst boot_isinstance (@pa_nam _ _ _ _ _ _ (pv 0) (@pa_nam _ _ _ _ _ _ (pe_bltn (v:=.ty "tuple") (by rfl) T.tuple boot_tuple rfl) pa_nil))) (pe_one (pe_cmpR op_eq (pe_callB call_lenTH (by rfl) T.len PySem.boot_len (@pa_nam _ _ _ _ _ _ (pv 0) pa_nil)) (pv 1) (nomark _)))))),?_⟩
  refine⟨_,rfl,_,_,"tuple",true,rfl,TyOf.tup ga,rfl,_,rfl,iteT ?_⟩
  refine⟨_,rfl,a,_,rfl,ga,_,rfl,rfl,?_⟩
  rw[show decide (V.int (xs.length:Int)=V.int m)=decide ((xs.length:Int)=m)from decide_eq_decide.mpr ⟨fun z=>by injection z,fun z=>by rw[z]⟩]
  exact fin
noncomputable abbrev nRs:List Str:=["things"]
theorem scRs:FnScope nRs ["things"] (defScope sRises):=⟨rfl,rfl,rfl,by decide +kernel,rfl,by decide +kernel,by decide +kernel⟩
theorem csRs1:CompScope ["one","other"] [none,none] nRs (defScope sRises) (scO [(".0",.local),("one",.local),("other",.local)]):=⟨rfl,by decide +kernel,by decide +kernel,by decide +kernel,rfl,capB_ok (by decide +kernel)⟩
theorem ndRs1:(["one","other"]:List Str).Nodup:=by decide +kernel
noncomputable abbrev nTi:List Str:=["thing","many","a","b","weight"]
theorem scTi:FnScope nTi ["thing","many"] (defScope sIsTie):=⟨rfl,rfl,rfl,by decide +kernel,rfl,by decide +kernel,by decide +kernel⟩
end
open PySem L2 PyProof.Rows
theorem pe_gstr{X:Cx}{x:Str}{z:Str}{pos:Pos}(hg:Gl X x)(hm:∃ t,X.mg x=some (.str z t))(hdb:(x ==("__debug__":Str))=false:=by decide):PE X (.Name x pos) (tC (.str z)):=fun pins s σ H Q I h=>by
 obtain⟨t,hm⟩:=hm
 exact ld_glob I hg hm ⟨.str z,H,I,⟨t,rfl⟩,h⟩ hdb
noncomputable abbrev Glb(mg:Str->Option Value):Prop:=∃ t,mg "FIGURES" = some (.str "0123456789" t)
noncomputable def rowOf(w:Str)(ms:List Nat):Str:=(sg 32).join (w :: ms.map fun m:Nat=>num (m:Int))
theorem not_zero{c:Nat}(h:c≠48):inV (.str (sg c)) [.str (Str.ofString ""),.str (Str.ofString "0")]=false:=by
 have h1:(Str.ofString "" == sg c)=false:=by
  rw[beq_eq_false_iff_ne]
  intro z
  have:=congrArg Str.length z
  cases this
 have h2:(Str.ofString "0" == sg c)=false:=by
  rw[beq_eq_false_iff_ne]
  intro z
  have e:=congrArg (fun a:Str=>a.cps.toList) z
  have e:[48]=[c]:=e
  cases e
  exact h rfl
 unfold inV
 simp only[List.any_cons,List.any_nil,eqV,h1,h2]
 rfl
section
variable{P:Program}{w:World}{K:PySem.W.Frag}{mg:Str->Option Value}{base:Heap}
noncomputable abbrev nIf:List Str:=["word"]
theorem scIf:FnScope nIf ["word"] (defScope sIsFigures):=⟨rfl,rfl,rfl,by decide +kernel,rfl,by decide +kernel,by decide +kernel⟩
theorem csIf1:CompScope ["sign"] [none] nIf (defScope sIsFigures) (scO [(".0",.local),("sign",.local),("FIGURES",.globalImplicit)]):=⟨rfl,by decide +kernel,by decide +kernel,by decide +kernel,rfl,capB_ok (by decide +kernel)⟩
theorem ndIf1:(["sign"]:List Str).Nodup:=by decide +kernel
theorem iteTd{c:Bool}{p q:Prop}(hc:c=true)(h:p):if c=true then p else q:=by rw[if_pos hc];exact h
theorem iteFd{c:Bool}{p q:Prop}(hc:c=false)(h:q):if c=true then p else q:=by rw[if_neg (by rw[hc];exact zJ)];exact h
theorem at0{x:V}{r:List V}:atI (x :: r) 0=some x:=atI_nat (j:=0) rfl
theorem at1{x y:V}{r:List V}:atI (x :: y :: r) 1=some y:=atI_nat (j:=1) rfl
theorem at_last{xs:List V}(h:0<xs.length):atI xs (-1)=some (xs[xs.length-1]'(by exact zh4 h)):=by
 unfold atI ixN
 rw[if_neg (by decide),if_pos (by lia)]
 show xs[((-1:Int)+xs.length).toNat]?=_
 rw[show((-1:Int)+xs.length).toNat=xs.length-1 by exact zn7]
 exact zF _
theorem sum_le{B:Nat}:∀ {l:List Nat},(∀ x∈l,x<=B)->l.sum<=l.length * B
 |[],_=>by simp
 |a :: l,h=>by
  have h1:=h a zX
  have h2:=sum_le fun x hx=>h x (zP _ hx)
  rw[List.sum_cons,zV,Nat.add_mul]
  lia
theorem row_len{w:Str}{ms:List Nat}(hw:w.length<=100)(hl:ms.length<=1000)(hm:∀ m∈ms,m<10 ^ 18):(rowOf w ms).length<=20000:=by
 unfold rowOf
 rw[PyProof.Rows.len_join_cons]
 have h:((w :: ms.map fun m:Nat=>num (m:Int)).map fun x=>x.length).sum=w.length+((ms.map fun m:Nat=>num (m:Int)).map fun x=>x.length).sum:=by rw[zAS,List.sum_cons]
 rw[h]
 have h2:((ms.map fun m:Nat=>num (m:Int)).map fun x=>x.length).sum<=((ms.map fun m:Nat=>num (m:Int)).map fun x=>x.length).length * 18:=sum_le fun x hx=>by
  obtain⟨y,hy,rfl⟩:=zAP.mp hx
  obtain⟨m,hm',rfl⟩:=zAP.mp hy
  exact num_len (hm m hm')
 rw[zB,zB]at h2
 rw[zB]
 have:(sg 32).length=1:=rfl
 rw[this]
 lia
noncomputable abbrev nNb:List Str:=["word","row","words"]
theorem scNb:FnScope nNb ["word","row"] (defScope sNumbersBehind):=⟨rfl,rfl,rfl,by decide +kernel,rfl,by decide +kernel,by decide +kernel⟩
theorem csNb1:CompScope ["figures"] [none] nNb (defScope sNumbersBehind) (scO [(".0",.local),("figures",.local),("is_figures",.globalImplicit)]):=⟨rfl,by decide +kernel,by decide +kernel,by decide +kernel,rfl,capB_ok (by decide +kernel)⟩
theorem ndNb1:(["figures"]:List Str).Nodup:=by decide +kernel
theorem csNb2:CompScope ["figures"] [none] nNb (defScope sNumbersBehind) (scO [(".0",.local),("figures",.local),("int",.globalImplicit)]):=⟨rfl,by decide +kernel,by decide +kernel,by decide +kernel,rfl,capB_ok (by decide +kernel)⟩
theorem ndNb2:(["figures"]:List Str).Nodup:=by decide +kernel
noncomputable abbrev nAp:List Str:=["many","numbers"]
theorem scAp:FnScope nAp ["many","numbers"] (defScope sArePosts):=⟨rfl,rfl,rfl,by decide +kernel,rfl,by decide +kernel,by decide +kernel⟩
end
open PySem L2 PyProof.Rows
noncomputable def dg(c:Nat):Bool:=decide (48<=c/\c<=57)
theorem in_dg:∀ c,c<128->(!(Builtin.Str.occurrences (Str.ofString "0123456789") (sg c) 0 (Str.ofString "0123456789").length 1).isEmpty)=dg c:=by decide +kernel
noncomputable def Figs(z:Str):Bool:=z == Str.ofString "0" ||(!(inV (.str (Txt.slice z none (some 1))) [.str (Str.ofString ""),.str (Str.ofString "0")]) && z.cps.toList.all dg)
inductive spFgI(vs:List V)(H:Hp)(Q:VK):Prop where
 |mk (z:Str) (h1:vs=[.str z]) (h2:(∀ c∈z.cps.toList,c<128)) (h3:z.length<=1000) (h4:∀ H',Same H H'->Q (.bl (Figs z)) H')
noncomputable def spFg:Sp:=fun vs H Q _=>spFgI vs H Q
section
variable{P:Program}{w:World}{K:PySem.W.Frag}{mg:Str->Option Value}{base:Heap}
theorem ok_fg{f:Addr}{fd:FuncData}(F:Fun K "is_figures" "is_figures" sIsFigures f fd)(T:Txt mg)(T2:Txt2 mg)(GL:Glb mg):FnOk P w K mg base CX0 1 f fd ["word"] spFg:=by
 refine F.ok scIf (fun vs H Q E h=>?_) (fun cdv A outer s H vs Q E hr h=>?_)
 ·obtain⟨z,rfl,_⟩:=h
  rfl
 ·obtain⟨z,rfl,ha,hl,fin⟩:=h
  refine⟨_,(pss_one (ps_ret (pe_or (pe_cmpR op_eq (pv 0) pe_str (nomark _)) (pe_one (pe_and (pe_cmpR (op_notInQ true) (pe_slice sl_str (pv 0) po_none (po_some pe_int)) (@pe_tup _ _ _ _ _ (@pa_cst _ _ _ _ _ _ _ pe_str (@pa_cst _ _ _ _ _ _ _ pe_str pa_nil))) rfl) (pe_one (pe_callB (call_allH rfl) (by rfl) T2.all boot_all (@pa_comp _ _ _ _ _ _ _ _ (pe_comp rfl csIf1 (pi_str (pv 0)) (fun C s H fp=>(pg_name (i:=0) ndIf1 rfl (Or.inl rfl))) (fun C s H fp=>pf_nil) (fun C s H fp=>(pe_cmpR op_in_str (pv 0) (pe_gstr (by rfl) GL rfl) rfl))) pa_nil)))))))),?_⟩
  refine⟨_,rfl,rfl,_,rfl,ite2 (fun h0=>?_) (fun h0=>?_)⟩
  ·have ez:z=Str.ofString "0":=V.str.inj (of_decide_eq_true h0)
   have e:Figs z=true:=by unfold Figs;rw[ez,beq_self_eq_true];rfl
   rw[e]at fin
   exact fin _ (Same.refl _)
  have e0:(z == Str.ofString "0")=false:=beq_eq_false_iff_ne.mpr fun hz=>h0 (by rw[hz];exact decide_eq_true rfl)
  refine⟨_,rfl,1,rfl,z,rfl,?_,?_⟩
  ·cases hz:z.cps.toList with
   |nil =>
    obtain⟨⟨a⟩⟩:=z
    cases hz
    decide
   |cons c r=>rw[slice_one hz];show 1<=sizeLine;decide
  refine⟨(by show 2<=sizeLine;decide),fun p hp=>⟨p,_,rfl,upd_same,rfl,rfl,?_⟩⟩
  have sp:=Same.new (o:=.tup [V.str (Str.ofString ""),.str (Str.ofString "0")]) hp
  refine⟨_,rfl,?_⟩
  rw[if_pos rfl]
  cases hv:inV (.str (Txt.slice z none (some 1))) [.str (Str.ofString ""),.str (Str.ofString "0")]with
  |true =>
   have e:Figs z=false:=by unfold Figs;rw[e0,hv];rfl
   rw[e]at fin
   exact iteF (fin _ sp)
  |false =>
   have e:Figs z=z.cps.toList.all dg:=by unfold Figs;rw[e0,hv];rfl
   rw[e]at fin
   refine iteT ?_
   refine⟨_,rfl,_,rfl,fun c hc=>ha c hc,?_⟩
   have sz:z.cps.size=z.length:=rfl
   refine comp_str (fun i ys G=>Same H G/\ys=((z.cps.toList.take i).map dg).map V.bl) (by rw[sz,sizeLine_eq];exact zl1 hl rfl) ⟨sp,rfl⟩ ?_ ?_
   ·rintro i ys G hi ⟨sm,rfl⟩
    refine⟨trivial,tTru_if ⟨_,rfl,_,_,rfl,rfl,?_⟩⟩
    rw[in_dg _ (ha _ (by simp))]
    refine⟨sm,?_⟩
    rw[zCN,zAQ,zAQ,zAH,zS hi]
    rfl
   ·rintro ys G _ ⟨sm,rfl⟩ D hD
    refine⟨D,_,rfl,upd_same,?_⟩
    rw[zBV (zAG zO),List.all_map]
    exact fin _ (sm.trans (Same.new hD))
end
open PySem PySem.W L2 PyProof.Rows
theorem figs_ok{z:Str}(h:Figs z=true):NumText.AllDigits z.cps.toList/\z.cps.toList≠[]:=by
 unfold Figs at h
 rcases Bool.or_eq_true_iff.mp h with q | q
 ·have e:z=Str.ofString "0":=eq_of_beq q
  subst e
  have hz:NumText.AllDigits (Str.ofString "0").cps.toList:=fun c hc=>by
   have:c=48:=zAA.mp (show c∈[48]from hc)
   subst this
   decide
  exact⟨hz,by decide⟩
 ·obtain⟨q1,q2⟩:=Bool.and_eq_true_iff.mp q
  refine⟨fun c hc=>of_decide_eq_true (List.all_eq_true.mp q2 c hc),fun e=>?_⟩
  obtain⟨⟨a⟩⟩:=z
  cases e
  revert q1
  decide
noncomputable def vW(z:Str):Int:=(NumText.digitsVal z.cps.toList:Nat)
theorem vW_eq{z:Str}(h:Figs z=true)(hl:z.length<=1000):PySem.intText? z=some (vW z):=intText_digits (figs_ok h).1 (figs_ok h).2 (by exact zl1 hl rfl)
inductive spNgI(vs:List V)(H:Hp)(Q:VK):Prop where
 |mk (u r v:Str) (ms:List Str) (h1:vs=[.str u,.str r]) (h2:r.length+2<=sizeLine) (h3:Txt.split r (Str.ofString " ")=v :: ms) (h4:ms.length<=1000) (h5:(∀ m∈ms,(∀ c∈m.cps.toList,c<128)/\m.length<=600)) (h6:((u≠v\/ms.all Figs=false)->∀ H',Same H H'->Q .non H')) (h7:(u=v->ms.all Figs=true->∀ (l:Addr) (H':Hp),H l=none->Same H H'->H' l=some (.lst ((ms.map vW).map V.int))->Q (.ref l) H'))
noncomputable def spNg:Sp:=fun vs H Q _=>spNgI vs H Q
section
variable{P:Program}{w:World}{K:PySem.W.Frag}{mg:Str->Option Value}{base:Heap}
theorem ok_ng{f g1:Addr}{fd d1:FuncData}(F:Fun K "numbers_behind" "numbers_behind" sNumbersBehind f fd)(T:Txt mg)(T2:Txt2 mg)(GF:CalF P w K mg base 1 "is_figures" ["word"] spFg g1 d1):FnOk P w K mg base CX0 2 f fd ["word","row"] spNg:=by
 refine F.ok scNb (fun vs H Q E h=>?_) (fun cdv A outer s H vs Q E hr h=>?_)
 ·obtain⟨u,r,v,ms,rfl,_⟩:=h
  rfl
 ·obtain⟨u,r,v,ms,rfl,rl,hsp,ml,hm,qn,qy⟩:=h
  have hr1:Room 1 _:=hr
  refine⟨_,(pss_cons (ps_set (i:=2) scNb.nd rfl (Or.inl rfl) (pe_bm PySem.F.plainAttrs_str PySem.F.slot_str_split PySem.F.type_str_split mt_split (pv 1) (@pa_cst _ _ _ _ _ _ _ pe_str pa_nil)))
   (pss_cons (ps_if (PW.pt (pw_or (pt_cmpR op_ne (@pe_ix _ _ _ _ _ _ _ ix_listH (pv 2) pe_int (fun _ _=>rfl)) (pv 0) (nomark _)) (pw_or1 (pt_not (pt_val (pe_callB (call_allH rfl) (by rfl) T2.all boot_all (@pa_comp _ _ _ _ _ _ _ _ (pe_comp rfl csNb1 (pi_list (pe_slice sl_list (pv 2) (po_some pe_int) po_none)) (fun C s H fp=>(pg_name (i:=0) ndNb1 rfl (Or.inl rfl))) (fun C s H fp=>pf_nil) (fun C s H fp=>(pe_call GF.ok hr1 rfl GF.mg GF.kp GF.bd .nil pass0 (@pa_nam _ _ _ _ _ _ (pv 0) pa_nil)))) pa_nil))))))) (pss_one (ps_ret pe_non)) pss_nil)
   (pss_one (ps_ret (pe_comp rfl csNb2 (pi_list (pe_slice sl_list (pv 2) (po_some pe_int) po_none)) (fun C s H fp=>(pg_name (i:=0) ndNb2 rfl (Or.inl rfl))) (fun C s H fp=>pf_nil) (fun C s H fp=>(pe_callTy call_int_str (by rfl) T.int boot_int (@pa_nam _ _ _ _ _ _ (pv 0) pa_nil)))))))),?_⟩
  refine⟨_,rfl,rfl,_,_,rfl,rfl,(by decide),rl,fun p hp=>?_⟩
  rw[hsp]
  have s1:=Same.new (o:=.lst ((v :: ms).map V.str)) hp
  have gp:(upd H p (.lst ((v :: ms).map V.str))) p=some (.lst ((v :: ms).map V.str)):=upd_same
  generalize (upd H p (.lst ((v :: ms).map V.str)))=H1 at s1 gp
  refine⟨_,rfl,p,_,_,_,rfl,rfl,gp,at0,_,rfl,rfl,?_⟩
  have cut:cutV ((v :: ms).map V.str) (some 1) none=ms.map V.str:=by rw[cutV_tail];rfl
  refine⟨_,rfl,?_⟩
  by_cases e:v=u
  ·subst e
   refine iteFd (by simp) ?_
   refine⟨_,rfl,1,rfl,p,_,rfl,SqL.of gp,fun p2 hp2=>?_⟩
   rw[cut]
   have s2:=s1.trans (Same.new (o:=.lst (ms.map V.str)) hp2)
   have gp2:(upd H1 p2 (.lst (ms.map V.str))) p2=some (.lst (ms.map V.str)):=upd_same
   have gp':=Same.new (o:=.lst (ms.map V.str)) hp2 _ _ gp
   generalize (upd H1 p2 (.lst (ms.map V.str)))=H2 at s2 gp2 gp'
   clear gp hp2 s1
   have len:(ms.map V.str).length=ms.length:=zB _
   have item:∀ {i:Nat}{x:V},(ms.map V.str)[i]?=some x->∃ m∈ms,ms[i]?=some m/\x = .str m:=fun {i x} hx=>by
    rw[zAJ]at hx
    cases hm':ms[i]? with
    |none=>rw[hm']at hx;cases hx
    |some m=>rw[hm']at hx;exact⟨m,zCV hm',rfl,(Option.some.inj hx).symm⟩
   refine⟨p2,rfl,⟨_,SqL.of gp2⟩,?_⟩
   refine comp_list (K:=K) (a:=p2) (xs:=ms.map V.str) (fun i ys G=>Same H2 G/\ys=((ms.take i).map Figs).map V.bl) (by rw[len,sizeLine_eq];exact zl1 ml rfl) ⟨Same.refl _,rfl⟩ (fun i ys G _ z=>SqL.of (z.1 _ _ gp2)) ?_ ?_
   ·rintro i x ys G hx ⟨sm,rfl⟩
    obtain⟨m,hm1,hm2,rfl⟩:=item hx
    exact⟨trivial,tTru_if ⟨_,rfl,m,rfl,(hm m hm1).1,(by have:=(hm m hm1).2;exact zl1 this rfl),fun G2 s3=>⟨sm.trans s3,by rw[zCN,hm2,zAQ,zAQ];rfl⟩⟩⟩
   rintro ys G _ ⟨sm,rfl⟩ D hD
   rw[len,List.take_length]
   have s3:=s2.trans (sm.trans (Same.new (o:=.lst ((ms.map Figs).map V.bl)) hD))
   have gp3:=(sm.trans (Same.new (o:=.lst ((ms.map Figs).map V.bl)) hD)) _ _ gp'
   refine⟨D,_,rfl,upd_same,?_⟩
   have al:(ms.map Figs).all id=ms.all Figs:=by rw[List.all_map];rfl
   rw[al]
   generalize (upd G D (.lst ((ms.map Figs).map V.bl)))=H3 at s3 gp3
   cases ea:ms.all Figs with
   |false =>
    refine⟨false,rfl,iteT ?_⟩
    exact qn (.inr ea) _ s3
   |true =>
   refine⟨true,rfl,iteF ?_⟩
   refine⟨_,rfl,1,rfl,p,_,rfl,SqL.of gp3,fun p4 hp4=>?_⟩
   rw[cut]
   have s4:=s3.trans (Same.new (o:=.lst (ms.map V.str)) hp4)
   have gp4:(upd H3 p4 (.lst (ms.map V.str))) p4=some (.lst (ms.map V.str)):=upd_same
   generalize (upd H3 p4 (.lst (ms.map V.str)))=H4 at s4 gp4
   refine⟨p4,rfl,⟨_,SqL.of gp4⟩,?_⟩
   refine comp_list (K:=K) (a:=p4) (xs:=ms.map V.str) (fun i ys G=>Same H4 G/\ys=((ms.take i).map vW).map V.int) (by rw[len,sizeLine_eq];exact zl1 ml rfl) ⟨Same.refl _,rfl⟩ (fun i ys G _ z=>SqL.of (z.1 _ _ gp4)) ?_ ?_
   ·rintro i x ys G hx ⟨sm,rfl⟩
    obtain⟨m,hm1,hm2,rfl⟩:=item hx
    refine⟨trivial,tTru_if ⟨_,rfl,_,_,rfl,vW_eq (List.all_eq_true.mp ea m hm1) (by have:=(hm m hm1).2;exact zl1 this rfl),(by have:=(hm m hm1).2;exact zl1 this rfl),sm,?_⟩⟩
    rw[zCN,hm2,zAQ,zAQ]
    rfl
   rintro ys G _ ⟨sm,rfl⟩ L hL
   rw[len,List.take_length]
   have s5:=s4.trans sm
   exact qy rfl ea L _ (s5.free hL) (s5.trans (Same.new hL)) upd_same
  ·refine iteTd (by simp[e]) ?_
   exact qn (.inl fun z=>e z.symm) _ s1
end
open PySem PySem.W L2 PyProof.Rows
noncomputable def rz(p:Int×Int):Bool:=decide (p.1<p.2)
noncomputable def Rises(ns:List Int):Bool:=(ns.zip (ns.drop 1)).all rz
inductive spRgI(vs:List V)(H:Hp)(Q:VK):Prop where
 |mk (l:Addr) (ns:List Int) (h1:vs=[.ref l]) (h2:H l=some (.lst (ns.map V.int))) (h3:ns.length<=1000) (h4:∀ H',Same H H'->Q (.bl (Rises ns)) H')
noncomputable def spRg:Sp:=fun vs H Q _=>spRgI vs H Q
noncomputable def IsTie(xs:List Int)(m:Int):Bool:=match xs with
 |[x,y,z]=>decide (0<=x/\x<y/\y<m/\1<=z)
 | _=>false
inductive spTgI(vs:List V)(H:Hp)(Q:VK):Prop where
 |mk (a:Addr) (xs:List Int) (m:Int) (h1:vs=[.ref a,.int m]) (h2:H a=some (.tup (xs.map V.int))) (h3:xs.length<=1000) (h4:∀ H',Same H H'->Q (.bl (IsTie xs m)) H')
noncomputable def spTg:Sp:=fun vs H Q _=>spTgI vs H Q
noncomputable def ArePosts(ns:List Int)(n:Int):Bool:=decide (2<=ns.length) && (Rises ns && decide ((ns.getLastD 0)<n))
inductive spPgI(vs:List V)(H:Hp)(Q:VK):Prop where
 |mk (l:Addr) (ns:List Int) (n:Int) (h1:vs=[.int n,.ref l]) (h2:H l=some (.lst (ns.map V.int))) (h3:ns.length<=1000) (h4:∀ H',Same H H'->Q (.bl (ArePosts ns n)) H')
noncomputable def spPg:Sp:=fun vs H Q _=>spPgI vs H Q
section
variable{P:Program}{w:World}{K:PySem.W.Frag}{mg:Str->Option Value}{base:Heap}
theorem ok_rg{f:Addr}{fd:FuncData}(F:Fun K "rises" "rises" sRises f fd)(T2:Txt2 mg):FnOk P w K mg base CX0 1 f fd ["things"] spRg:=by
 refine F.ok scRs (fun vs H Q E h=>?_) (fun cdv A outer s H vs Q E hr h=>?_)
 ·obtain⟨l,ns,rfl,_⟩:=h
  rfl
 ·obtain⟨l,ns,rfl,gl,len,fin⟩:=h
  have hu0:_<cLine:=hr.units0
  refine⟨_,(pss_one (ps_ret (pe_callB (call_allH rfl) (by rfl) T2.all boot_all (@pa_comp _ _ _ _ _ _ _ _ (pe_comp rfl csRs1 (pi_zip false false (by rfl) T2.zip (@pa_nam _ _ _ _ _ _ (pv 0) (@pa_sub _ _ _ _ _ _ _ (pe_slice sl_list (pv 0) (po_some pe_int) po_none) pa_nil))) (fun C s H fp=>(pg_tupK K rfl (n:=2) rfl (pgs_cons (pg_name (i:=0) ndRs1 rfl (Or.inl rfl)) (pgs_cons (pg_name (i:=1) ndRs1 rfl (Or.inl rfl)) pgs_nil)) rfl rfl)) (fun C s H fp=>pf_nil) (fun C s H fp=>(pe_cmpR op_lt (pv 0) (pv 1) (nomark _)))) pa_nil)))),?_⟩
  refine⟨_,rfl,_,rfl,_,rfl,l,_,rfl,SqL.of gl,fun l2 hl2=>?_⟩
  refine⟨l,l2,rfl,⟨_,(Same.new hl2).seq (SqL.of gl)⟩,⟨_,SqL.of upd_same⟩,?_⟩
  have s2:Same H (upd H l2 (.lst (cutV (ns.map V.int) (some 1) none))):=Same.new hl2
  have hl2':(upd H l2 (.lst (cutV (ns.map V.int) (some 1) none))) l2=some (.lst ((ns.drop 1).map V.int)):=by rw[upd_same,cutV_tail,<- List.map_drop]
  generalize (upd H l2 (.lst (cutV (ns.map V.int) (some 1) none)))=H2 at s2 hl2'
  refine comp_zip (K:=K) (b1:=false) (b2:=false) (l1:=l) (l2:=l2) (xs:=ns.map V.int) (ys:=(ns.drop 1).map V.int) (fun i ys G=>Same H2 G/\ys=(((ns.zip (ns.drop 1)).take i).map rz).map V.bl) (by rw[zB,sizeLine_eq];exact zfo len) ⟨Same.refl _,rfl⟩ (fun i ys G _ z=>⟨(s2.trans z.1).seq (SqL.of gl),z.1.seq (SqL.of hl2')⟩) ?_ ?_
  ·rintro i x y zs G U hx hy ⟨sm,rfl⟩ hU
   obtain⟨il,e⟩:=zZ.mp hx
   obtain⟨jl,e'⟩:=zZ.mp hy
   rw[zB]at il jl
   rw[zAN]at jl
   rw[zBC]at e
   rw[zBC,List.getElem_drop]at e'
   subst e e'
   refine⟨U,_,rfl,SqT.of upd_same,rfl,_,_,rfl,_,_,rfl,rfl,trivial,tTru_if ⟨_,rfl,_,rfl,_,_,rfl,rfl,sm.trans (Same.new hU),?_⟩⟩
   have ez:(ns.zip (ns.drop 1))[i]?=some (ns[i],ns[1+i]):=by
    rw[List.getElem?_zip_eq_some]
    exact⟨zF il,by rw[List.getElem?_drop];exact zF _⟩
   rw[zCN,ez,zAQ,zAQ]
   rfl
  ·rintro ys G yl ⟨sm,rfl⟩ D hD
   refine⟨D,_,rfl,upd_same,?_⟩
   rw[zBV (by rw[List.length_zip];simp[Nat.min_def]),List.all_map]
   exact fin _ (s2.trans (sm.trans (Same.new hD)))
theorem ok_tg{f g1 g2:Addr}{fd d1 d2:FuncData}(F:Fun K "is_tie" "is_tie" sIsTie f fd)(GT:CalF P w K mg base 1 "is_tuple_of" ["thing","many"] spIt g1 d1)(GA:CalF P w K mg base 2 "are_numbers" ["things"] (spAn K) g2 d2):FnOk P w K mg base CX0 3 f fd ["thing","many"] spTg:=by
 refine F.ok scTi (fun vs H Q E h=>?_) (fun cdv A outer s H vs Q E hr h=>?_)
 ·obtain⟨a,xs,m,rfl,_⟩:=h
  rfl
 ·obtain⟨a,xs,m,rfl,ga,xl,fin⟩:=h
  have hr1:Room 1 _:=hr.mono (by decide)
  have hr2:Room 2 _:=hr.mono (by decide)
  refine⟨_,(pss_cons (ps_if (PW.pt (pw_or (pt_not (pt_val (pe_call GT.ok hr1 rfl GT.mg GT.kp GT.bd .nil pass0 (@pa_nam _ _ _ _ _ _ (pv 0) (@pa_cst _ _ _ _ _ _ _ pe_int pa_nil))))) (pw_or1 (pt_not (pt_val (pe_call GA.ok hr2 rfl GA.mg GA.kp GA.bd .nil pass0 (@pa_nam _ _ _ _ _ _ (pv 0) pa_nil))))))) (pss_one (ps_ret pe_bl)) pss_nil)
   (pss_cons (ps_asg (pv 0) (pg_tup (n:=3) rfl (pgs_cons (pg_name (i:=2) scTi.nd rfl (Or.inl rfl)) (pgs_cons (pg_name (i:=3) scTi.nd rfl (Or.inl rfl)) (pgs_cons (pg_name (i:=4) scTi.nd rfl (Or.inl rfl)) pgs_nil)))))
   (pss_one (ps_ret (pe_and (pe_chain3 op_le op_lt op_lt pe_int (pv 2) (pv 3) (pv 1)) (pe_one (pe_cmpR op_ge (pv 4) pe_int (nomark _)))))))),?_⟩
  refine⟨_,rfl,a,_,_,rfl,ga,?_⟩
  by_cases l3:xs.length=3
  ·obtain⟨x,y,z,rfl⟩:∃ x y z,xs=[x,y,z]:=by
    match xs,l3 with
    |[x,y,z],_=>exact⟨x,y,z,rfl⟩
   refine⟨true,rfl,iteF ?_⟩
   refine⟨_,rfl,true,a,[x,y,z],rfl,SqT.of ga,(by show 3<=1000;decide),fun H1 s1=>⟨_,rfl,iteF ?_⟩⟩
   refine⟨_,rfl,_,_,rfl,SqT.of (s1 _ _ ga),rfl,_,_,rfl,_,_,rfl,_,_,rfl,rfl,?_⟩
   refine⟨_,rfl,_,_,rfl,rfl,_,rfl,ite2 (fun x0=>?_) (fun h=>?_)⟩
   ·refine⟨_,rfl,_,_,rfl,rfl,_,rfl,ite2 (fun xy=>?_) (fun h=>?_)⟩
    ·refine⟨_,rfl,_,_,rfl,rfl,decide (y<m),rfl,ite2 (fun ym=>?_) (fun h=>?_)⟩
     ·refine⟨_,rfl,_,_,rfl,rfl,?_⟩
      show Q (V.bl (decide (1<=z))) H1
      have e:IsTie [x,y,z] m=decide (1<=z):=by
       show decide _=decide _
       congr 1
       exact propext ⟨fun q=>q.2.2.2,fun q=>⟨of_decide_eq_true x0,of_decide_eq_true xy,of_decide_eq_true ym,q⟩⟩
      rw[e]at fin
      exact fin _ s1
     ·have e:IsTie [x,y,z] m=false:=decide_eq_false fun q=>h (decide_eq_true q.2.2.1)
      rw[e]at fin
      exact fin _ s1
    ·have e:IsTie [x,y,z] m=false:=decide_eq_false fun q=>h (decide_eq_true q.2.1)
     rw[e]at fin
     exact⟨false,rfl,iteF (fin _ s1)⟩
   ·have e:IsTie [x,y,z] m=false:=decide_eq_false fun q=>h (decide_eq_true q.1)
    rw[e]at fin
    exact⟨false,rfl,iteF (fin _ s1)⟩
  ·have e:IsTie xs m=false:=by
    unfold IsTie
    split
    ·exact absurd rfl l3
    ·rfl
   rw[e]at fin
   refine⟨false,?_,?_⟩
   ·exact congrArg V.bl (decide_eq_false (by rw[zB];exact zgz l3))
   ·refine iteT ?_
    exact fin _ (Same.refl _)
theorem ok_pg{f g1:Addr}{fd d1:FuncData}(F:Fun K "are_posts" "are_posts" sArePosts f fd)(T:Txt mg)(GR:CalF P w K mg base 1 "rises" ["things"] spRg g1 d1):FnOk P w K mg base CX0 2 f fd ["many","numbers"] spPg:=by
 refine F.ok scAp (fun vs H Q E h=>?_) (fun cdv A outer s H vs Q E hr h=>?_)
 ·obtain⟨l,ns,n,rfl,_⟩:=h
  rfl
 ·obtain⟨l,ns,n,rfl,gl,l1,fin⟩:=h
  have hr1:Room 1 _:=hr
  refine⟨_,(pss_one (ps_ret (pe_and (pe_cmpR op_ge (pe_callB call_lenH (by rfl) T.len PySem.boot_len (@pa_nam _ _ _ _ _ _ (pv 1) pa_nil)) pe_int (nomark _)) (pe_and (pe_call GR.ok hr1 rfl GR.mg GR.kp GR.bd .nil pass0 (@pa_nam _ _ _ _ _ _ (pv 1) pa_nil)) (pe_one (pe_cmpR op_lt (@pe_ix _ _ _ _ _ _ _ ix_listH (pv 1) (pe_un un_neg pe_int) (fun _ _=>rfl)) (pv 0) (nomark _))))))),?_⟩
  refine⟨_,rfl,l,_,rfl,gl,_,_,rfl,rfl,_,rfl,?_⟩
  have nl:(ns.map V.int).length=ns.length:=zB _
  refine ite2 (fun h2=>?_) (fun h=>?_)
  ·have n2:2<=ns.length:=by have:=of_decide_eq_true h2;rw[nl]at this;lia
   refine⟨_,rfl,l,ns,rfl,gl,l1,fun H1 s1=>⟨Rises ns,rfl,?_⟩⟩
   cases er:Rises ns with
   |false =>
    have e:ArePosts ns n=false:=by unfold ArePosts;rw[er,Bool.false_and,Bool.and_false]
    rw[e]at fin
    exact iteF (fin _ s1)
   |true =>
    refine iteT ?_
    refine⟨_,rfl,_,rfl,l,_,_,_,rfl,rfl,s1 _ _ gl,at_last (by exact zh7 (zl6 n2 rfl) (Eq.symm nl)),_,rfl,_,_,by rw[zBC],rfl,?_⟩
    have e:ArePosts ns n=decide (ns[(ns.map V.int).length-1]'(by omega)<n):=by
     unfold ArePosts
     rw[er,decide_eq_true n2,Bool.true_and,Bool.true_and,List.getLastD_eq_getLast?,zCQ,zF (by exact zh4 (zl6 n2 rfl))]
     simp only[nl,Option.getD_some]
    rw[e]at fin
    exact fin _ s1
  ·have e:ArePosts ns n=false:=by
    unfold ArePosts
    rw[decide_eq_false (by rw[nl]at h;intro q;exact h (decide_eq_true (by exact zic l1 nl q))),Bool.false_and]
   rw[e]at fin
   exact fin _ (Same.refl _)
end
end K75
namespace L2
open PySem PySem.W PyProof.Rows
section
variable{X:Cx}
inductive rUpperI(x:V)(vs:List V)(H:Hp)(Q:VK):Prop where
 |mk (z:Str) (h1:x = .str z) (h2:vs=[]) (h3:Builtin.Str.tooLong (Txt.upper z).length=false) (h4:Q (.str (Txt.upper z)) H)
noncomputable def rUpper:V->List V->Hp->VK->Prop:=fun x vs H Q=>rUpperI x vs H Q
theorem mt_upper:MtM X "str.upper" rUpper:=by
 intro pins s σ H x vs v us Q I rx rv h
 obtain⟨z,rfl,rfl,hz,q⟩:=h
 obtain⟨t,rfl⟩:=rx
 cases rv
 exact SC.upper hz ⟨.str _,H,I.tok _,⟨_,rfl⟩,q⟩
inductive rStripCI(x:V)(vs:List V)(H:Hp)(Q:VK):Prop where
 |mk (z y:Str) (h1:x = .str z) (h2:vs=[.str y]) (h3:z.length<=sizeLine) (h4:Q (.str (Txt.stripChars z y)) H)
noncomputable def rStripC:V->List V->Hp->VK->Prop:=fun x vs H Q=>rStripCI x vs H Q
theorem mt_stripC:MtM X "str.strip" rStripC:=by
 intro pins s σ H x vs v us Q I rx rv h
 obtain⟨z,y,rfl,rfl,hz,q⟩:=h
 obtain⟨t,rfl⟩:=rx
 obtain⟨u,rfl,ru⟩:=rv.one
 obtain⟨u,rfl⟩:=ru
 exact SC.stripChars (fun t' k=>⟨.str _,H,I.tok _,⟨t',rfl⟩,q⟩) hz
theorem call_lenTx:CallR X (.builtin "len") (fun xs H Q=>∃ z:Str,xs=[.str z]/\z.length<=sizeLine/\Q (.int z.length) H):=by
 intro pins s σ H xs us Q I r h
 obtain⟨z,rfl,hz,q⟩:=h
 obtain⟨u,rfl,rx⟩:=vals1 r
 obtain⟨t,rfl⟩:=rx
 have hn:=line63
 exact PySem.P.len_str (by lia) ⟨.int z.length,H,I.tok _,⟨_,rfl⟩,q⟩
end
theorem tw_all{g:Nat->Bool}:∀ {l:List Nat},(∀ c∈l,g c=true)->l.takeWhile g=l
 |[],_=>rfl
 |a :: r,h=>by rw[List.takeWhile_cons,if_pos (h a (.head _)),tw_all fun c hc=>h c (.tail _ hc)]
theorem tw_some{g:Nat->Bool}{c:Nat}:∀ {l:List Nat},c∈l->g c=false->∃ d r,g d=false/\l=l.takeWhile g++d :: r
 |a :: r,hc,h=>by
  by_cases e:g a=true
  ·rcases zW.mp hc with rfl | hc
   ·rw[h]at e;cases e
   obtain⟨d,r',hd,er⟩:=tw_some hc h
   refine⟨d,r',hd,?_⟩
   rw[List.takeWhile_cons,if_pos e,List.cons_append,<- er]
  ·exact⟨a,r,by simpa using e,by rw[List.takeWhile_cons,if_neg e];rfl⟩
theorem tw_le{g:Nat->Bool}{d:Nat}(h:g d=false):∀ l:List Nat,((l++[d]).takeWhile g).length<=l.length
 |[]=>by rw[List.nil_append,List.takeWhile_cons,if_neg (by rw[h];exact zJ)];exact zH _
 |a :: r=>by
  rw[List.cons_append,List.takeWhile_cons]
  split
  ·exact Nat.succ_le_succ (tw_le h r)
  ·exact zAO _
theorem strip_all{g:Nat->Bool}{x:Str}(h:∀ c∈x.cps.toList,g c=true):Txt.stripBy g true true x=Str.empty:=by
 have lo:stripLo g true x=x.length:=by
  simp only[stripLo,if_true,tw_all h]
  rfl
 unfold Txt.stripBy
 split
 ·rename_i hs
  simp only[stripSame,zBJ,beq_iff_eq,lo]at hs
  obtain⟨a⟩:=x
  exact congrArg Str.mk (Array.size_eq_zero_iff.mp hs.1)
 ·show Builtin.Str.strSub x _ _=_
  rw[lo]
  exact congrArg Str.mk (Array.extract_empty_of_size_le_start (zH _))
theorem strip_some{g:Nat->Bool}{x:Str}{c:Nat}(hc:c∈x.cps.toList)(h:g c=false):Txt.stripBy g true true x≠Str.empty:=by
 obtain⟨d,r,gd,e1⟩:=tw_some hc h
 have lo:stripLo g true x=(x.cps.toList.takeWhile g).length:=by simp only[stripLo,if_true]
 have e2:x.cps.toList.drop (x.cps.toList.takeWhile g).length=d :: r:=by
  generalize x.cps.toList.takeWhile g=p at e1
  rw[e1,List.drop_left]
 have hl:x.length=(x.cps.toList.takeWhile g).length+(r.length+1):=by
  have:=congrArg List.length e1
  simp only[zY,zV]at this
  exact this
 have tw:((d :: r).reverse.takeWhile g).length<=r.length:=by
  rw[List.reverse_cons]
  exact zC (tw_le gd _) (zAG List.length_reverse)
 have hi:(x.cps.toList.takeWhile g).length<stripHi g true x (stripLo g true x):=by
  rw[lo]
  simp only[stripHi,if_true,e2]
  lia
 have hh:stripHi g true x (stripLo g true x)<=x.length:=by
  simp only[stripHi,if_true]
  exact zib
 intro z
 unfold Txt.stripBy at z
 split at z
 ·rw[z]at hc;cases hc
 ·have:=congrArg (fun a:Str=>a.cps.size) z
  simp only[PySem.stripped,Builtin.Str.strSub,Array.size_extract]at this
  have e0:Str.empty.cps.size=0:=rfl
  have el:x.length=x.cps.size:=rfl
  rw[e0]at this
  exact(zfr lo hl hi hh this el).elim
end L2
namespace K75
open PySem PySem.W L2 PyProof.Rows
inductive spLnI(vs:List V)(H:Hp)(Q:VK):Prop where
 |mk (l:Addr) (ms:List Str) (h1:vs=[.ref l]) (h2:H l=some (.lst (ms.map V.str))) (h3:ms.length<=1000) (h4:(∀ m∈ms,m.length<=600)) (h5:(ms.all Figs=false->∀ H',Same H H'->Q .non H')) (h6:(ms.all Figs=true->∀ (r:Addr) (H':Hp),H r=none->Same H H'->H' r=some (.lst ((ms.map vW).map V.int))->Q (.ref r) H'))
noncomputable def spLn:Sp:=fun vs H Q _=>spLnI vs H Q
theorem cont_dg:∀ c,(Str.ofString "0123456789").cps.contains c=dg c:=fun c=>by
 unfold dg
 have e:(Str.ofString "0123456789").cps = #[48,49,50,51,52,53,54,55,56,57]:=by decide +kernel
 rw[e,zCP]
 simp
 omega
theorem strip_fig{m:Str}:Txt.stripChars m (Str.ofString "0123456789")=Str.ofString ""↔∀ c∈m.cps.toList,dg c=true:=by
 have e0:Str.ofString "" = Str.empty:=by decide
 have e:Txt.stripChars m (Str.ofString "0123456789")=Txt.stripBy dg true true m:=by
  unfold Txt.stripChars
  rw[show(Str.ofString "0123456789").cps.contains=dg from funext cont_dg]
 rw[e0,e]
 constructor
 ·intro h c hc
  cases hd:dg c with
  |true=>rfl
  |false=>exact absurd h (strip_some hc hd)
 ·exact strip_all
theorem figs_at{m:Str}{c:Nat}{r:List Nat}(e:m.cps.toList=c :: r)(h:∀ c∈m.cps.toList,dg c=true):Figs m = !(decide (c=48) && decide (1<m.length)):=by
 have hl:m.length=r.length+1:=by
  have:=congrArg List.length e
  rw[zO,zV]at this
  exact this
 unfold Figs
 rw[List.all_eq_true.mpr h,slice_one e,Bool.and_true]
 by_cases z:c=48
 ·subst z
  cases r with
  |nil =>
   have:m=Str.ofString "0":=by
    obtain⟨⟨a⟩⟩:=m
    cases e
    decide
   rw[this]
   decide
  |cons d r =>
   have ne:(m == Str.ofString "0")=false:=beq_eq_false_iff_ne.mpr fun q=>by
    rw[q]at e
    revert e
    exact fun e=>by cases(show [48]=48 :: d :: r from e)
   rw[ne,hl,decide_eq_true (show 1 <(d :: r).length+1 by rw[zV];exact zCX (zAW (Nat.succ 1) r.length))]
   decide
 ·rw[not_zero z,decide_eq_false z,Bool.false_and]
  simp
section
variable{P:Program}{w:World}{K:PySem.W.Frag}{mg:Str->Option Value}{base:Heap}
noncomputable abbrev nLn:List Str:=["_law_words","_law_found","_law_word"]
theorem scLn:FnScope nLn ["_law_words"] (defScope sNumbers):=⟨rfl,rfl,rfl,by decide +kernel,rfl,by decide +kernel,by decide +kernel⟩
theorem ok_ln{f:Addr}{fd:FuncData}(F:Fun K "_law_numbers" "_law_numbers" sNumbers f fd)(T:Txt mg):FnOk P w K mg base CX0 1 f fd ["_law_words"] spLn:=by
 refine F.ok scLn (fun vs H Q E h=>?_) (fun cdv A outer s H vs Q E hr h=>?_)
 ·obtain⟨l,ms,rfl,_⟩:=h
  rfl
 ·obtain⟨l,ms,rfl,gl,ml,hm,qn,qy⟩:=h
  refine⟨_,(pss_cons (ps_set (i:=1) scLn.nd rfl (Or.inl rfl) (@pe_lst _ _ _ _ pa_nil))
   (pss_cons (ps_for PassesOwn.never rfl (pi_list (pv 0)) (pg_name (i:=2) scLn.nd rfl (Or.inl rfl))
   (pss_cons (ps_if (PW.pt (pw_or (pt_cmpR op_eq (pv 2) pe_str (nomark _)) (pw_or (pt_cmpR op_ne (pe_bm PySem.F.plainAttrs_str PySem.F.slot_str_strip PySem.F.type_str_strip mt_stripC (pv 2) (@pa_cst _ _ _ _ _ _ _ pe_str pa_nil)) pe_str (nomark _)) (pw_or1 (PW.pt (pw_and (pt_cmpR op_eq (pe_ix ix_str (pv 2) pe_int (fun _ _=>rfl)) pe_str (nomark _)) (pw_and1 (pt_cmpR op_gt (pe_callB call_lenTx (by rfl) T.len PySem.boot_len (@pa_nam _ _ _ _ _ _ (pv 2) pa_nil)) pe_int (nomark _))))))))) (pss_one (ps_ret pe_non)) pss_nil)
   (pss_one (ps_expr (pe_bmH PySem.F.slot_list_append PySem.F.type_list_append mt_append (pv 1) (@pa_call _ _ _ _ _ _ _ _ (pe_callTy call_int_str (by rfl) T.int boot_int (@pa_nam _ _ _ _ _ _ (pv 2) pa_nil)) pa_nil))))))
   (pss_one (ps_ret (pv 1))))),?_⟩
  refine⟨by show 0<=sizeLine;decide,fun p hp=>?_⟩
  have s1:=Same.new (o:=.lst ([]:List V)) hp
  have gp:(upd H p (.lst ([]:List V))) p=some (.lst ((([]:List Str).map vW).map V.int)):=upd_same
  have len:(ms.map V.str).length=ms.length:=zB _
  generalize (upd H p (.lst ([]:List V)))=H1 at s1 gp
  refine⟨_,rfl,l,rfl,⟨_,SqL.of (s1 _ _ gl)⟩,?_⟩
  refine for_list (K:=K) (a:=l) (xs:=ms.map V.str) (fun i (σ:L2.St) (G:Hp)=>∃ v2:Option V,σ=[some (.ref l),some (.ref p),v2]/\Same H G/\G p=some (.lst (((ms.take i).map vW).map V.int))/\(∀ m∈ms.take i,Figs m=true)) ⟨_,rfl,s1,gp,fun m hm=>by cases hm⟩ (fun i σ G _ ⟨_,_,z,_⟩=>SqL.of (z _ _ gl)) ?_ ?_
  ·rintro i x σ G hx ⟨v2,rfl,sm,gG,fg⟩
   rw[zAJ]at hx
   cases hm':ms[i]? with
   |none=>rw[hm']at hx;cases hx
   |some m =>
   rw[hm']at hx
   cases hx
   have hmm:=zCV hm'
   have hl:=hm m hmm
   have bad:Figs m=false->ms.all Figs=false:=fun e=>by rw[List.all_eq_false];exact⟨m,hmm,by rw[e];exact zJ⟩
   refine⟨_,rfl,rfl,_,rfl,ite2 (fun h0=>?_) (fun h0=>?_)⟩
   ·refine iteT (qn (bad ?_) _ sm)
    rw[V.str.inj (of_decide_eq_true h0)];decide
   refine⟨_,rfl,rfl,_,_,rfl,rfl,(by rw[sizeLine_eq];exact zl1 hl rfl),?_⟩
   refine⟨rfl,_,rfl,ite2 (fun h1=>?_) (fun h1=>?_)⟩
   ·refine iteT (qn (bad ?_) _ sm)
    cases hf:Figs m with
    |false=>rfl
    |true =>
     have q:=strip_fig.mpr fun c hc=>decide_eq_true ((figs_ok hf).1 c hc)
     rw[q]at h1
     exact absurd h1 (by simp)
   have hd:=strip_fig.mp (V.str.inj (by simpa using h1))
   cases em:m.cps.toList with
   |nil =>
    exfalso
    obtain⟨⟨a⟩⟩:=m
    cases em
    exact h0 (decide_eq_true rfl)
   |cons c r =>
   have fe:=figs_at em hd
   have app:Figs m=true->Same H (upd G p (.lst (((ms.take i).map vW).map V.int++[V.int (vW m)])))/\(upd G p (.lst (((ms.take i).map vW).map V.int++[V.int (vW m)]))) p=some (.lst (((ms.take (i+1)).map vW).map V.int))/\(∀ m∈ms.take (i+1),Figs m=true):=fun ft=>by
    refine⟨fun a o e=>?_,?_,fun m' h'=>?_⟩
    ·rw[upd_ne (fun z=>by rw[z,hp]at e;cases e)]
     exact sm _ _ e
    ·rw[upd_same,zCN,hm',zAQ,zAQ]
     rfl
    ·rw[zCN,hm']at h'
     rcases zAB.mp h' with z | z
     ·exact fg m' z
     ·rw[zAA.mp (show m'∈[m]from z)];exact ft
   have at0':atI m.cps.toList 0=some c:=by rw[em];exact atI_nat (j:=0) rfl
   refine⟨_,rfl,m,0,c,rfl,rfl,(by rw[sizeLine_eq];exact zl1 hl rfl),at0',rfl,_,rfl,ite2 (fun h2=>?_) (fun h2=>?_)⟩
   ·have c48:c=48:=by
     have q:=V.str.inj (of_decide_eq_true h2)
     have:=congrArg (fun a:Str=>a.cps.toList) q
     cases(show [c]=[48]from this)
     rfl
    refine⟨_,rfl,m,rfl,(by rw[sizeLine_eq];exact zl1 hl rfl),_,_,rfl,rfl,_,rfl,ite2 (fun h3=>?_) (fun h3=>?_)⟩
    ·have q:1<m.length:=by have:=of_decide_eq_true h3;lia
     refine qn (bad ?_) _ sm
     rw[fe,c48,decide_eq_true q];rfl
    have ft:Figs m=true:=by
     have q:¬ 1<m.length:=fun z=>h3 (decide_eq_true (by lia))
     rw[fe,decide_eq_false q,Bool.and_false];rfl
    refine⟨_,rfl,⟨p,_,rfl,gG⟩,_,rfl,m,_,rfl,vW_eq ft (by exact zl1 hl rfl),(by exact zl1 hl rfl),p,_,_,rfl,rfl,gG,?_,?_⟩
    ·simp only[zB,zAD,sizeLine_eq];exact zbe ml len
    ·obtain⟨a1,a2,a3⟩:=app ft
     exact⟨_,rfl,a1,a2,a3⟩
   ·have c48:c≠48:=fun q=>h2 (by rw[q];decide)
    have ft:Figs m=true:=by rw[fe,decide_eq_false c48,Bool.false_and];rfl
    refine iteF ?_
    refine⟨_,rfl,⟨p,_,rfl,gG⟩,_,rfl,m,_,rfl,vW_eq ft (by exact zl1 hl rfl),(by exact zl1 hl rfl),p,_,_,rfl,rfl,gG,?_,?_⟩
    ·simp only[zB,zAD,sizeLine_eq];exact zbe ml len
    ·obtain⟨a1,a2,a3⟩:=app ft
     exact⟨_,rfl,a1,a2,a3⟩
  ·rintro σ G ⟨v2,rfl,sm,gG,fg⟩
   rw[len,List.take_length]at gG fg
   refine⟨_,rfl,?_⟩
   exact qy (List.all_eq_true.mpr fg) p G hp sm gG
end
end K75
namespace HT
open PySem PyProof.Rows
noncomputable def lexLe:List Int->List Int->Bool
 |[],[]=>true
 |[],_ :: _=>true
 | _ :: _,[]=>false
 |x :: xs,y :: ys=>if x=y then lexLe xs ys else decide (x<=y)
theorem lexLe_cons(x y:Int)(xs ys:List Int):lexLe (x :: xs) (y :: ys)=if x=y then lexLe xs ys else decide (x<=y):=rfl
theorem lexLe_nil_nil:lexLe [] []=true:=rfl
theorem lexLe_nil_cons(y:Int)(ys:List Int):lexLe [] (y :: ys)=true:=rfl
theorem lexLe_cons_nil(x:Int)(xs:List Int):lexLe (x :: xs) []=false:=rfl
theorem eqAt_int2(A:Around)(s:Shared)(a:Int)(t:Tok)(c:Int)(u:Tok):∃ e,SeqAt.EqAt A s (.int a t) (.int c u) e/\(e=true↔a=c) :=
 ⟨(a == c),SeqAt.EqAt.int_int a t c u,by simp⟩
theorem rcLe_int(A:Around)(s:Shared)(a:Int)(t:Tok)(c:Int)(u:Tok)(prog:Program)(w:World)(E:Value->Shared->Prop)(Q:Value->Shared->Prop)(h:Q (.bool (decide (a<=c))) s) :
  wpAny (model prog w) A (richCompare .LtE (.int a t) (.int c u)) Q E s :=
 (PyProof.Rows.le_int h:wpAny (model prog w) A (compareOp .LtE (.int a t) (.int c u)) Q E s)
section
open PySem.SeqAt
open PySem.AutoSeq1 (wpAny_loadPart')
open PySem.MeetsSeq PySem.MeetsSeq2 PySem.MeetsSeq3
theorem tuple_le_ints(l b:Addr)(items items2:Array Value)(n n2:Nat)(dd dd2:Option Addr)(sl sl2:Array (Option Value))(ns ms:List Int)(hi:IntsAre items.toList ns)(hj:IntsAre items2.toList ms) :
  Meets (Builtin.«tuple.__le__» ⟨[.ref l,.ref b],[]⟩)
   (fun _ R s=>s.heap.get? l=some { cls:=.type "tuple",dict:=dd,data:=.seq items n,slots:=sl }/\s.heap.get? b=some { cls:=.type "tuple",dict:=dd2,data:=.seq items2 n2,slots:=sl2 } /\
    R (.ok (.ret (.bool (lexLe ns ms)))) s) :=
 .of_wp fun prog w A R s h=>by
  obtain⟨hp,g,d,tk,os⟩:=s;obtain⟨hl,hb,h⟩:=h
  have f2:=AutoSeq1.sub_tuple_tuple
  have z1:items.size=ns.length:=by rw[<- hi.length];simp
  have z2:items2.size=ms.length:=by rw[<- hj.length];simp
  wp_walk using wpAny_loadPart' hl,wpAny_loadPart' hb,wpAny_forIn_list _ (fun rest b s'=>b.1=none/\s'=⟨hp,g,d,tk,os⟩/\∃ (vs ws:List Value) (ns' ms':List Int),rest=vs.zip ws /\
   IntsAre vs ns'/\IntsAre ws ms'/\ns'.length+items2.size=ms'.length+items.size/\R (.ok (.ret (.bool (lexLe ns' ms')))) ⟨hp,g,d,tk,os⟩) _
  case turn =>
   rintro⟨y,x⟩ rest b s' ⟨hb',rfl,vs,ws,ns',ms',hz,hvi,hwi,hlen,hR⟩
   cases hvi with
   |nil=>rw[List.zip_nil_left]at hz;cases hz
   |cons a t hvi' =>
    cases hwi with
    |nil=>rw[List.zip_nil_right]at hz;cases hz
    |cons c u hwi' =>
     rw[List.zip_cons_cons]at hz
     injection hz with hyx hrest
     injection hyx with hy hx
     subst hy hx
     rw[lexLe_cons]at hR
     simp only[zV]at hlen
     obtain⟨e,he,hiff⟩:=eqAt_int2 A.in1 ⟨hp,g,d,tk,os⟩ a t c u
     refine zA (he prog w _ _ ?_)
     cases e with
     |true =>
      rw[if_pos (hiff.mp rfl)]at hR
      wp_walk
      exact⟨rfl,rfl,_,_,_,_,hrest,hvi',hwi',by exact zga z1 z2 hlen,hR⟩
     |false =>
      rw[if_neg (fun q=>absurd (hiff.mpr q) zJ)]at hR
      have hri:=rcLe_int A.in1 ⟨hp,g,d,tk,os⟩ a t c u prog w
      wp_walk using hri
      exact⟨_,rfl,by simpa using hR⟩
  case fin =>
   rintro⟨b1,b2⟩ s' ⟨hb',rfl,vs,ws,ns',ms',hz,hvi,hwi,hlen,hR⟩
   simp only at hb'
   subst hb'
   have hv:lexLe ns' ms'=decide (items.size<=items2.size):=by
    cases hvi with
    |nil =>
     cases hwi with
     |nil =>
      simp only[zBL]at hlen
      rw[lexLe_nil_nil]
      exact(decide_eq_true (by exact zhd z1 z2 hlen)).symm
     |cons c u hw =>
      simp only[zBL,zV]at hlen
      rw[lexLe_nil_cons]
      exact(decide_eq_true (by exact zgf z1 z2 hlen)).symm
    |cons a t hv =>
     cases hwi with
     |nil =>
      simp only[zBL,zV]at hlen
      rw[lexLe_cons_nil]
      exact(decide_eq_false (by exact zhf z1 z2 hlen)).symm
     |cons c u hw =>
      rw[List.zip_cons_cons]at hz
      cases hz
   rw[hv]at hR
   wp_walk
   exact⟨_,rfl,by simpa[Builtin.Tuple.tupleCompareSizes]using hR⟩
  case h =>
   exact⟨rfl,rfl,items.toList,items2.toList,ns,ms,rfl,hi,hj,by exact zej z1 z2,h⟩
end
section
variable{prog:Program}{w:World}{A:Around}{E:Value->Shared->Prop}{s:Shared}
theorem le_tupInts{l b:Addr}{items items2:Array Value}{ns ms:List Int}{Q:Value->Shared->Prop}(hl:IsTup s.heap l items)(hb:IsTup s.heap b items2)(hi:IntsAre items.toList ns)(hj:IntsAre items2.toList ms)
  (hu:A.units<cLine) (h:Q (.bool (lexLe ns ms)) s):wpAny (model prog w) A (compareOp .LtE (.ref l) (.ref b)) Q E s:=by
 obtain⟨⟨cls,dd,data,sl⟩,ho,hc,n,hd⟩:=id hl
 obtain⟨⟨cls2,dd2,data2,sl2⟩,ho2,hc2,n2,hd2⟩:=id hb
 simp only at hc hd hc2 hd2
 subst hc hd hc2 hd2
 exact richCompare_meets_room (op:=.LtE) ⟨_,ho,rfl⟩ ⟨_,ho2,rfl⟩ PySem.F.slot_tuple_le PySem.F.entry_tuple_le (PySem.F.args_tuple_le_2 _ _) (tuple_le_ints l b items items2 n n2 dd dd2 sl sl2 ns ms hi hj)
  ⟨ho,ho2,show Value.bool (lexLe ns ms)≠Value.notImplemented/\Q (.bool (lexLe ns ms)) s from⟨(fun x=>nomatch x),h⟩⟩ hu
end
end HT
namespace L2
open PySem PySem.W PyProof.Rows HT
inductive rLeTI(K:PySem.W.Frag)(x:V)(y:V)(H:Hp)(Q:VK):Prop where
 |mk (a:_) (b:_) (ns:_) (ms:_) (h1:x = .ref a) (h2:y = .ref b) (h3:SqT K H a (ns.map V.int)) (h4:SqT K H b (ms.map V.int)) (h5:Q (.bl (HT.lexLe ns ms)) H)
noncomputable def rLeT(K:PySem.W.Frag):R2:=fun x y H Q=>rLeTI K x y H Q
theorem op_leT{X:Cx}(hu:X.A.units<cLine):OpR X (compareOp .LtE) (rLeT X.K):=by
 intro pins s σ H x y v u Q I rx ry h
 obtain⟨a,b,ns,ms,rfl,rfl,ha,hb,q⟩:=h
 cases rx
 cases ry
 obtain⟨its,r1,p1,_⟩:=I.tuple ha
 obtain⟨its2,r2,p2,_⟩:=I.tuple hb
 have i1:IntsAre its.toArray.toList ns:=intsAre_of r1
 have i2:IntsAre its2.toArray.toList ms:=intsAre_of r2
 exact HT.le_tupInts p1 p2 i1 i2 hu ⟨.bl (HT.lexLe ns ms),H,I,rfl,q⟩
noncomputable def tOrN(K:PySem.W.Frag)(ta tb:TE):TE:=fun σ H Q=>ta σ H fun x H1=>∃ k,TruV K x H1 k/\if k=true then Q x H1 else tb σ H1 Q
theorem pe_orN{X:Cx}{a b:Expr}{rest:List Expr}{ta tb:TE}{pos:Pos}(ha:PE X a ta)(hb:PE X (.BoolOp .Or (b :: rest) pos) tb):PE X (.BoolOp .Or (a :: b :: rest) pos) (tOrN X.K ta tb):=by
 intro pins s σ H Q I h
 refine BoolOp_or (thn (ha pins s σ H _ I h) fun v s1 ⟨x,H1,I1,r1,k,tk,q1⟩=>?_)
 refine thn (tru_ok pins s1 σ H1 x v (fun c H2=>c=k/\H2=H1) I1 r1 ⟨k,tk,rfl,rfl⟩) fun c s2 ⟨H2,I2,ec,eH⟩=>?_
 subst ec eH
 cases c with
 |false=>exact hb pins s2 σ H2 Q I2 (by simpa using q1)
 |true=>exact⟨x,H2,I2,r1,by simpa using q1⟩
end L2
namespace K75
open PySem PySem.W L2 PyProof.Rows
structure RowB(B:Nat)(r:Str):Prop where
 asc:∀ c∈r.cps.toList,c<128/\c≠10
 len:r.length<=B
theorem RowB.mono{B B':Nat}{r:Str}(h:RowB B r)(l:B<=B'):RowB B' r:=⟨h.asc,zC h.len l⟩
theorem jn_in{c:Nat}:∀ {ps:List (List Nat)}{p:List Nat},p∈ps->(∀ x∈p,x∈jn c ps)/\p.length<=(jn c ps).length
 |[],p,h=>nomatch h
 |[a],p,h=>by rw[zAA.mp h];exact⟨fun x z=>z,zH _⟩
 |a :: b :: r,p,h=>by
  show(∀ x∈p,x∈a++c :: jn c (b :: r))/\p.length<=(a++c :: jn c (b :: r)).length
  rw[zY,zV]
  rcases zW.mp h with z | z
  ·rw[z];exact⟨fun x y=>zAZ _ y,zI _ _⟩
  ·obtain⟨h1,h2⟩:=jn_in z
   exact⟨fun x y=>zAR _ (zP _ (h1 x y)),by exact zio h2⟩
theorem jn_many{c:Nat}:∀ (ps:List (List Nat)),ps.length<=(jn c ps).length+1
 |[]=>zAO _
 |[a]=>zAW _ _
 |a :: b :: r=>by
  have:=jn_many (c:=c) (b :: r)
  show _<=(a++c :: jn c (b :: r)).length+1
  simp only[zY,zV]at this ⊢
  lia
noncomputable def wds(r:Str):List Str:=Txt.split r (Str.ofString " ")
theorem wds_join(r:Str):jn 32 ((wds r).map fun p=>p.cps.toList)=r.cps.toList:=by
 have h:=PySem.StrLaws.join_split r (Str.ofString " ")
 unfold wds
 rw[<- join_jn]
 exact congrArg (fun z:Str=>z.cps.toList) h
theorem RowB.word{B:Nat}{r:Str}(h:RowB B r):∃ v ms,wds r=v :: ms/\ms.length<=B/\∀ m∈v :: ms,(∀ c∈m.cps.toList,c<128/\c≠10)/\m.length<=B:=by
 have j:=wds_join r
 cases e:wds r with
 |nil=>exact absurd e (split_ne _ _)
 |cons v ms =>
  rw[e]at j
  have hl:(jn 32 ((v :: ms).map fun p=>p.cps.toList)).length<=B:=by rw[j,zO];exact h.len
  refine⟨v,ms,rfl,?_,fun m hm=>?_⟩
  ·have:=jn_many (c:=32) ((v :: ms).map fun p=>p.cps.toList)
   rw[zB,zV]at this
   lia
  ·obtain⟨h1,h2⟩:=jn_in (c:=32) (List.mem_map_of_mem (f:=fun p:Str=>p.cps.toList) hm)
   rw[j]at h1
   refine⟨fun c hc=>h.asc c (h1 c hc),?_⟩
   have:m.cps.toList.length=m.length:=zO
   lia
noncomputable def rowN(r:Str):Option (Str×List Int):=match wds r with
 |[]=>none
 |v :: ms=>if ms.all Figs=true then some (v,ms.map vW)else none
inductive Res where
 |bad (k:Nat)
 |pair (n:Int) (ties:List Tie) (ps:List Int) (u:Nat)
noncomputable def tieOf(ns:List Int):Tie:=(ns.getD 0 0,ns.getD 1 0,ns.getD 2 0)
noncomputable def nextOk(ties:List Tie)(ns:List Int):Bool:=match ties.getLast? with
 |none=>true
 |some x=>!HT.lexLe [ns.getD 0 0,ns.getD 1 0] [x.1,x.2.1]
noncomputable def goA(m:Int):Nat->List Tie->List Str->Res
 |k,_,[]=>.bad k
 |k,ties,r :: rs=>match rowN r with
  |none=>.bad k
  |some (v,ns)=>if v=Str.ofString "posts" then(if ArePosts ns m=true then .pair m ties ns (k+1)else .bad k)
   else if v=Str.ofString "tie"/\IsTie ns m=true/\nextOk ties ns=true then goA m (k+1) (ties++[tieOf ns]) rs else .bad k
noncomputable def headN(r:Str):Option Int:=match rowN r with
 |some (v,[x])=>if v=Str.ofString "web"/\1<=x then some x else none
 | _=>none
noncomputable def ahead:List Str->Res
 |[]=>.bad 0
 |r :: rs=>match headN r with
  |none=>.bad 0
  |some m=>goA m 1 [] rs
noncomputable def whole(rows:List Str):Res:=match ahead rows with
 | .bad k=>.bad k
 | .pair n ties ps u=>if u<rows.length then .bad u else .pair n ties ps u
theorem goA_used{m:Int}:∀ {rs:List Str}{k:Nat}{ties:List Tie}{n:Int}{ts:List Tie}{ps:List Int}{u:Nat},goA m k ties rs = .pair n ts ps u->u<=k+rs.length/\ts.length+1<=ties.length+rs.length
 |[],k,ties,n,ts,ps,u,h=>nomatch h
 |r :: rs,k,ties,n,ts,ps,u,h=>by
  unfold goA at h
  split at h
  ·cases h
  ·split at h
   ·split at h
    ·cases h
     rw[zV]
     exact zei
    ·cases h
   ·split at h
    ·have q:=goA_used h
     rw[zY,List.length_singleton]at q
     rw[zV]
     lia
    ·cases h
end K75
namespace L2
open PySem PySem.Spec PyProof.Rows
structure Noted(fr:List Addr)(e:Addr)(oe:Obj)(x fl:Value)(h h':Heap)(T:Addr):Prop where
 keep:∀ b o,h.get? b=some o->b≠e->x≠.ref b->b∉fr->h'.get? b=some o
 slot:∀ b o,h.get? b=some o->b≠e->x≠.ref b->∃ sl,h'.get? b=some { o with slots:=sl }
 size:h.objs.size<=h'.objs.size
 big:h.objs.size<=T
 exc:h'.get? e=some (oe.mapFields (·.setIfInBounds 1 (.ref T)))
 ent:∃ oT ts,h'.get? T=some oT/\oT.data = .fields ts/\ts[3]?=some fl
theorem Noted.new{fr:List Addr}{e:Addr}{oe:Obj}{x fl:Value}{h h':Heap}{T:Addr}(N:Noted fr e oe x fl h h' T):h.get? T=none:=Heap.get?_none_of_le N.big
section
variable{M:Model}{A:Around}{E:Value->Shared->Prop}{s:Shared}{base:Heap}{env:Env}{outer:List Env}{L e:Addr}{oe:Obj}{vs:Array Value}{x:Value}
theorem entry_fly{head:Value}{hadNext:Bool}{Q:Unit->Shared->Prop}(hfr:A.frames=some (env :: outer))(hl:s.heap.FunFrames base (env :: outer))(hf:env.frame=some L)
  (he:s.heap.get? e=some oe) (hd:oe.data = .fields vs) (hsz:1<vs.size)
  (h:∀ h' T,Noted (frs (env :: outer)) e oe .none (rawInt L) s.heap h' T->Q () { s with heap:=h' }) :
  wpAny M A (do let a <- frameOf env;let pl <- entryPlaceOf L hadNext;let b <- EntryCells.newEntry head a .none (rawInt L) .none pl;setField (.ref e) 1 b) Q E s:=by
 have out:e∉(env :: outer).filterMap (·.frame):=fun hm=>by
  obtain⟨_,o,ho,hnf⟩:=hl.mem hm
  rw[he]at ho
  cases ho
  exact hnf vs hd
 refine zA (wpAny_frameOf_fun hfr hl hf fun g1 ss=>?_)
 refine zA (wpAny_entryPlaceOf fun pl hpl=>?_)
 unfold EntryCells.newEntry newFields
 refine zA (wpAny_newObj_type ?_ (hpl.sizeOk5 _ _ _ _ _))
 have e1:g1.get? e=some oe:=(ss.2.1 e out).trans he
 have e2:=zD (h:=g1) { cls:=.type "traceback",dict:=none,data:=.fields ([head,.ref L,.none,rawInt L,.none]++(if pl.isEmpty then List.replicate 6 Value.none else pl)).toArray } e1
 refine wpAny_setField e2 hd hsz (h _ g1.objs.size ?_)
 have ne:g1.objs.size≠e:=zCA (zK e1)
 have dd:=Obj.data_mapFields hd (·.setIfInBounds 1 (Value.ref g1.objs.size))
 have kp:∀ b o,b≠e->g1.get? b=some o->((g1.push { cls:=.type "traceback",dict:=none,data:=.fields ([head,.ref L,.none,rawInt L,.none]++(if pl.isEmpty then List.replicate 6 Value.none else pl)).toArray }).update e (Obj.mapFields (·.setIfInBounds 1 (Value.ref g1.objs.size)))).get? b=some o:=fun b o hb q=>by
  rw[Heap.get?_update_other _ _ (Ne.symm hb)]
  exact zD _ q
 refine⟨fun b o q hb _ hn=>kp b o hb ((ss.2.1 b hn).trans q),fun b o q hb _=>?_,?_,by rw[ss.1];exact zH _,Heap.get?_update_self _ e2 (Obj.isFreed_of_fields dd),?_⟩
 ·obtain⟨sl,q2⟩:=ss.2.2 b o q
  exact⟨sl,kp b _ hb q2⟩
 ·rw[Heap.size_after_update,Heap.size_push,ss.1]
  exact zCG _
 ·exact⟨_,_,(Heap.get?_update_other _ _ (Ne.symm ne)).trans (zU g1 rfl),rfl,by first |(simp;done) |(rcases hpl with rfl |⟨_,_,_,_,_,_,_,rfl⟩ <;> simp)⟩
noncomputable def Trd(h:Heap)(e:Addr)(x:Value):Prop:=x = .none\/∃ T oT ts,x = .ref T/\T≠e/\h.get? T=some oT/\oT.data = .fields ts/\ts[3]?=some .none
theorem note_fly{Q:Unit->Shared->Prop}(hfr:A.frames=some (env :: outer))(hl:s.heap.FunFrames base (env :: outer))(hf:env.frame=some L)
  (he:s.heap.get? e=some oe) (hd:oe.data = .fields vs) (h1:vs[1]?=some x) (hx:Trd s.heap e x)
  (h:∀ h' T,Noted (frs (env :: outer)) e oe x (rawInt L) s.heap h' T->Q () { s with heap:=h' }):wpAny M A (noteFrame (.ref e) env) Q E s:=by
 unfold noteFrame
 simp only[hf]
 refine zA (wpAny_field he hd h1 ?_)
 have hsz:1<vs.size:=(zAI.mp h1).1
 rcases hx with rfl |⟨T,oT,ts,rfl,hT,aT,dT,t3⟩
 ·rw[if_neg (by decide)]
  exact entry_fly hfr hl hf he hd hsz h
 ·rw[if_pos (show(Value.ref T != Value.none)=true from by simp)]
  refine zA (wpAny_field aT dT t3 ?_)
  rw[if_neg (show ¬((Value.none == rawInt L)=true)from by simp[rawInt])]
  refine zA (wpAny_setField aT dT (zAI.mp t3).1 ?_)
  have oth:∀ b,b≠T->(s.heap.update T (Obj.mapFields (·.setIfInBounds 3 Value.none))).get? b=s.heap.get? b:=fun b hb=>Heap.get?_update_other _ _ (Ne.symm hb)
  refine entry_fly hfr (hl.of_keeps fun b o hb hnf=>⟨o,(oth b fun q=>?_).trans hb,rfl⟩) hf ((oth e (Ne.symm hT)).trans he) hd hsz fun h' T' N=>h h' T' ?_
  ·rw[q,aT]at hb
   cases hb
   exact hnf ts dT
  ·refine⟨fun b o q hb hx hn=>N.keep b o ((oth b fun z=>hx (by rw[z])).trans q) hb (fun z=>by cases z) hn,fun b o q hb hx=>N.slot b o ((oth b fun z=>hx (by rw[z])).trans q) hb (fun z=>by cases z),?_,?_,N.exc,N.ent⟩
   ·have:=N.size
    rw[Heap.size_after_update]at this
    exact this
   ·have:=N.big
    rw[Heap.size_after_update]at this
    exact this
theorem land_fly{T:Addr}{oT:Obj}{ts:Array Value}{y:Value}{Q:Unit->Shared->Prop}(he:s.heap.get? e=some oe)(hd:oe.data = .fields vs)(h1:vs[1]?=some (.ref T))(aT:s.heap.get? T=some oT)(dT:oT.data = .fields ts)
  (t3:ts[3]?=some y) (h:∀ h',(∀ b,b≠T->h'.get? b=s.heap.get? b)->h'.objs.size=s.heap.objs.size->(∃ oT ts,h'.get? T=some oT/\oT.data = .fields ts/\ts[3]?=some .none)->Q () { s with heap:=h' }) :
  wpAny M A (setFlight (.ref e) none) Q E s:=by
 unfold setFlight
 refine zA (wpAny_field he hd h1 ?_)
 rw[if_pos (show(Value.ref T != Value.none)=true from by simp)]
 have hsz:3<ts.size:=(zAI.mp t3).1
 refine wpAny_setField aT dT hsz (h _ (fun b hb=>Heap.get?_update_other _ _ (Ne.symm hb)) (Heap.size_after_update ..) ?_)
 exact⟨_,_,Heap.get?_update_self _ aT (Obj.isFreed_of_fields (Obj.data_mapFields dT _)),Obj.data_mapFields dT _,by simp[hsz]⟩
theorem pass_fly{Q:Unit->Shared->Prop}(hfr:A.frames=some (env :: outer))(hl:s.heap.FunFrames base (env :: outer))(hf:env.frame=some L)
  (he:s.heap.get? e=some oe) (hd:oe.data = .fields vs) (h1:vs[1]?=some x) (hx:Trd s.heap e x)
  (h:∀ h' T,Noted (frs (env :: outer)) e oe x .none s.heap h' T->Q () { s with heap:=h' }) :
  wpAny M A (noteFrame (.ref e) env) (fun _ s2=>wpAny M A (setFlight (.ref e) none) Q E s2) E s:=by
 refine note_fly hfr hl hf he hd h1 hx fun g T N=>?_
 obtain⟨oT,ts,aT,dT,t3⟩:=N.ent
 have hsz:1<vs.size:=(zAI.mp h1).1
 have ne:T≠e:=fun z=>by
  have q:=N.new
  rw[z,he]at q
  cases q
 refine land_fly (s:={ s with heap:=g }) N.exc (Obj.data_mapFields hd _) (by simp[hsz]) aT dT t3 fun g2 oth sz ent=>h g2 T ?_
 refine⟨fun b o q hb hx hn=>(oth b fun z=>?_).trans (N.keep b o q hb hx hn),fun b o q hb hx=>?_,zC N.size (zAG sz.symm),N.big,(oth e (Ne.symm ne)).trans N.exc,ent⟩
 ·rw[z,N.new]at q;cases q
 ·obtain⟨sl,q2⟩:=N.slot b o q hb hx
  exact⟨sl,(oth b fun z=>by rw[z,N.new]at q;cases q).trans q2⟩
theorem leave_fly{Q:Unit->Shared->Prop}(hfr:A.frames=some (env :: outer))(hl:s.heap.FunFrames base (env :: outer))(hf:env.frame=some L)
  (he:s.heap.get? e=some oe) (hd:oe.data = .fields vs) (h1:vs[1]?=some x) (hx:Trd s.heap e x)
  (h:∀ h' T,Noted (frs (env :: outer)) e oe x .none s.heap h' T->Q () { s with heap:=h' }):wpAny M A (leaving env (.ref e)) Q E s:=by
 unfold leaving
 exact zA (pass_fly hfr hl hf he hd h1 hx h)
end
open PySem PySem.Spec PySem.W PyProof.Rows Builtin Builtin.ObjectAttr
noncomputable abbrev bV:List Value:=[.type "ValueError",.type "Exception",.type "BaseException",.type "object"]
structure BadK(K:Frag)(C P fI:Addr):Prop where
 obj:∃ (nm q:Str) (N:Addr) (bs:List Value) (sn:List Str) (sub:List Value) (ab:Bool) (col:Option Bool) (dd:Option Addr) (k0 k1 k2 k3 k5:Option Value),
  K.lookup C=some (excClassObj nm q C N bs (.ref P :: bV) true sn sub ab col dd k0 k1 k2 k3 k5 "ValueError.__new__")
 tail:tailIn K bV (.ref P :: bV)=true
 init:findIn K (.ref C) "__init__" = some (some (.ref fI))
 fn:isFn K (.ref fI)=true
 kp:keepIn K (.ref C)=true
 sa:findIn K (.ref C) "__setattr__" = some (some (.builtin "object.__setattr__"))
 row:findIn K (.ref C) "row" = some none
 ga:findIn K (.ref C) "__getattribute__" = some (some (.builtin "BaseException.__getattribute__"))
 hook:findIn K (.ref C) "__getattr__" = some none
 ca:findIn K (.ref C) "__class__" = some (some (.builtin "object.__class__"))
 cg:specialIn K (.builtin "object.__class__") "__get__" = some (some (.builtin "getset_descriptor.__get__"))
 ct:takesIn K (.builtin "object.__class__")=some true
 mb:mroIn K C (.type "BaseException")=some true
 mo:mroIn K C (.type "object")=some true
section
variable{prog:Program}{w:World}{A:Around}{E:Value->Shared->Prop}{h:Heap}{g:Array GenState}{d:Drawn}{t:Nat}{os:OsState}
variable{nm q:Str}{C N:Addr}{bs bm bmB:List Value}{hdct:Bool}{sn:List Str}{sub:List Value}{ab:Bool}{col:Option Bool}{dd:Option Addr}{k0 k1 k2 k3 k5:Option Value}{B newId initId:String}
theorem new_own(F:ExcBaseFacts B newId initId bmB)(T:OwnTail h bmB bm){us:List Value}{fI:Addr}{Q:Fin->Shared->Prop}
  (hC:h.get? C=some (excClassObj nm q C N bs bm hdct sn sub ab col dd k0 k1 k2 k3 k5 newId)) (hi:Looks (model prog w) h (typeLookup (.ref C) "__init__") (some (.ref fI)))
  (hb:∀ self,Looks (model prog w) h (bindSpecial (.ref fI) self) (.ref fI,[self])) (hz:us.length<=sizeLine)
  (k:∀ h' e,Heap.MadeExcOf h h' e (.ref C) us->h.objs.size<=h'.objs.size/\h.objs.size<=e->wpAny (model prog w) A (call (.ref fI) (.ref e :: us)) (fun r s'=>r = .none/\Q (.done (.ret (.ref e))) s') E ⟨h',g,d,t,os⟩) :
  wpAny (model prog w) A (Builtin.«type.__call__» ⟨.ref C :: us,[]⟩) Q E ⟨h,g,d,t,os⟩:=by
 repeat (first | with_reducible refine wpAny_loadPart_at hC ?_ | with_reducible refine wpAny_madeBy_exc hC ?_ | wp_step)
 refine codeAny_call_builtin_code (Code.quiet_builtin _ F.quiet) (wpAny_check_new_subT F T hC ?_)
 refine codeAny_exc_new_subT F T hC ?_ hz
 show wpAny _ _ _ _ _ _
 have kp:∀ b o,h.get? b=some o->((h.push { cls:=.type "tuple",data:=.seq us.toArray }).push { cls:=.ref C,data:=.fields #[.ref h.objs.size,.none,.none,.none,.bool false,.none] }).get? b=some o :=
  fun b o z=>zD _ (zD _ z)
 have c1:=kp _ _ hC
 have at1:((h.push { cls:=.type "tuple",data:=.seq us.toArray }).push { cls:=.ref C,data:=.fields #[.ref h.objs.size,.none,.none,.none,.bool false,.none] }).get? (h.objs.size+1)=some
   { cls:=.ref C,data:=.fields #[.ref h.objs.size,.none,.none,.none,.bool false,.none] }:=by heap_get
 have self:(Value.ref C :: bm).contains (.ref C)=true:=by simp
 unfold isInstance
 repeat (first | with_reducible refine wpAny_loadPart_at at1 ?_ |(with_reducible refine wpAny_isSubtype_exc c1 ?_;rw[self]) | wp_step)
 show wpAny _ _ (typeLookup (.ref C) _) _ _ _
 refine hi _ _ _ _ kp ?_
 refine wpAny_holding (zA (hb _ _ _ _ _ kp (zA (wpAny_mono (k _ (h.objs.size+1) ⟨kp,Heap.get?_none_of_le (zCG _),h.objs.size,at1,Heap.get?_none_of_le (zH _),zD _ (Heap.get?_push_at rfl rfl)⟩ ⟨by rw[Heap.size_push,Heap.size_push];exact zI _ 2,zCG _⟩) (fun r s' z=>?_) fun _ _ z=>z))))
 obtain⟨rfl,z⟩:=z
 wp_walk
 exact z
theorem call_own(F:ExcBaseFacts B newId initId bmB)(T:OwnTail h bmB bm){us:List Value}{fI:Addr}{Q:Value->Shared->Prop}
  (hC:h.get? C=some (excClassObj nm q C N bs bm hdct sn sub ab col dd k0 k1 k2 k3 k5 newId)) (hi:Looks (model prog w) h (typeLookup (.ref C) "__init__") (some (.ref fI)))
  (hb:∀ self,Looks (model prog w) h (bindSpecial (.ref fI) self) (.ref fI,[self])) (hz:us.length<=sizeLine)
  (k:∀ h' e,Heap.MadeExcOf h h' e (.ref C) us->h.objs.size<=h'.objs.size/\h.objs.size<=e->wpAny (model prog w) (A.under (.builtin "type.__call__" ⟨.ref C :: us,[]⟩)) (call (.ref fI) (.ref e :: us)) (fun r s'=>r = .none/\Q (.ref e) s') E ⟨h',g,d,t,os⟩) :
  wpAny (model prog w) A (call (.ref C) us) Q E ⟨h,g,d,t,os⟩:=by
 have f1:=tc_lookup
 have f2:=tc_bind (.ref C)
 have ty:(⟨h,g,d,t,os⟩:Shared).TypeIs (.ref C) "type":=⟨_,hC,rfl⟩
 refine wpAny_call (codeAny_of_tree ?_)
 show wpAny _ _ (callAny (.ref C) _) _ _ _
 repeat (any_goals (first | assumption | with_reducible refine wpAny_loadPart_at hC ?_ | wp_step))
 refine⟨rfl,?_⟩
 exact codeAny_call_builtin_at (Code.quiet_builtin _ (by decide +kernel)) entry_typeCall (wpAny_check_type_call_sub hC (new_own F T hC hi hb hz fun h' e m l=>k h' e m l))
end
section
variable{prog:Program}{w:World}{A:Around}{E:Value->Shared->Prop}{s:Shared}{K:Frag}{C P fI x:Addr}{oe:Obj}{vs:Array Value}
theorem inst_none(hx:s.heap.get? x=some oe)(hc:oe.cls = .ref C)(hd:oe.dict=none)(hf:oe.data = .fields vs):InstAt s.heap x oe C none :=
 ⟨hx,hc,by unfold notCls;rw[hf],by rw[hd];trivial⟩
theorem inst_some{dx:Addr}{od:Obj}(hx:s.heap.get? x=some oe)(hc:oe.cls = .ref C)(hd:oe.dict=some dx)(hf:oe.data = .fields vs)(hdx:s.heap.get? dx=some od):InstAt s.heap x oe C (some od) :=
 ⟨hx,hc,by unfold notCls;rw[hf],by rw[hd];exact hdx⟩
theorem set_row{v:Value}{Q:Unit->Shared->Prop}(B:BadK K C P fI)(X:K.In s.heap)(hx:s.heap.get? x=some oe)(hc:oe.cls = .ref C)(hd:oe.dict=none)(hf:oe.data = .fields vs)
  (k:∀ h' dx t',s.heap.objs.size<=dx->(∀ b o,b≠x->s.heap.get? b=some o->h'.get? b=some o)->h'.get? x=some { oe with dict:=some dx }->h'.Ns1 dx (fun y=>if y = "row" then some v else none)->Q () { s with heap:=h',toks:=t' }) :
  wpAny (model prog w) A (setAttr (.ref x) "row" v) Q E s:=by
 obtain⟨nm,q,N,bs,sn,sub,ab,col,dd,k0,k1,k2,k3,k5,lk⟩:=B.obj
 have I:=inst_none hx hc hd hf
 have hC:=X _ _ lk
 have cl:clsIn K C=some { name:=nm,bases:=bs,mro:=.ref C :: .ref P :: bV,ns:=N,qualname:=q,hasDict:=true,slotNames:=sn,subclasses:=sub,abstract:=ab,collection:=col,hasDel:=false }:=by
  unfold clsIn;rw[lk]
 have SF:=PySem.F.store_object
 refine set_plain X I B.sa ?_
 have sub1:Looks (model prog w) s.heap (isInstance (.ref x) (.type "object")) true:=I.type.andThen (looks_mroIn X B.mo)
 refine codeAny_call_builtin SF.slot.plain SF.entry (@check_slot (model prog w) _ _ { s with toks:=s.toks+1 } "object.__setattr__" "object" "__setattr__" (.ref x) [.str "row" s.toks,v] [] _ SF.kind SF.split sub1 (SF.args (.ref x) (.str "row" s.toks) v) ?_)
 have hm:Looks (model prog w) s.heap (mroOf (.ref C)) (.ref C :: .ref P :: bV):=(looks_clsIn X cl).andThen .now
 rw[osa_eq,refuse_eq]
 refine zA (zA (I.type _ _ _ _ (fun _ _ e=>e) (zA (hm _ _ _ _ (fun _ _ e=>e) ?_))))
 rw[refuseLoop_ref,refuseLoop_ref,PySem.F.store_ValueError.passes]
 refine zE (zA (I.type _ _ _ _ (fun _ _ e=>e) (zA (looks_findIn X B.row _ _ _ _ (fun _ _ e=>e) (zA (zE ?_))))))
 obtain⟨oc,od,da,sl⟩:=oe
 dsimp only at hc hd hf
 subst hc hd hf
 have x1:(s.heap.push { cls:=.type "dict",data:=.dict #[] }).get? x=some { cls:=.ref C,dict:=none,data:=.fields vs,slots:=sl }:=zD _ hx
 have ne:x≠s.heap.objs.size:=zAC (zK hx)
 refine zA (zE (zA (zA (wpAny_loadPart hx (zA (looks_clsIn X cl _ _ _ _ (fun _ _ e=>e) ?_))))))
 refine zA (wpAny_alloc' (zA (wpAny_update' x1 ?_)))
 have gd:((s.heap.push { cls:=.type "dict",data:=.dict #[] }).update x fun o=>{ cls:=o.cls,dict:=some s.heap.objs.size,data:=o.data,slots:=o.slots }).get? s.heap.objs.size=some { cls:=.type "dict",data:=.dict #[] } :=
  (Heap.get?_update_ne _ _ _ _ ne.symm).trans (Heap.get?_push_at rfl rfl)
 have nd:((s.heap.push { cls:=.type "dict",data:=.dict #[] }).update x fun o=>{ cls:=o.cls,dict:=some s.heap.objs.size,data:=o.data,slots:=o.slots }).Ns s.heap.objs.size (fun _=>none) :=
  ⟨_,#[],_,gd,rfl,fun e he=>absurd he (by simp),fun _=>rfl⟩
 refine zE (a:=some s.heap.objs.size) ?_
 show wpAny _ _ (storeInDict s.heap.objs.size (.str "row" s.toks) "row" v) _ _ _
 unfold storeInDict newKeyGuard
 refine zA (zE (zA (wpAny_nsSet1 (Heap.Ns1.of_empty nd) fun h' hn' hs=>?_)))
 obtain⟨oD,esD,epD,hoD,hdD,hcD⟩:=hn'.count (Within.cons "row" v Within.nil)
 refine zA (wpAny_lookBehind hoD (by rw[hdD];exact pastItsLine_dict (zC hcD (by rw[zV,zBL,sizeLine_eq];lia))) ?_)
 have x2:h'.get? x=some { cls:=.ref C,dict:=some s.heap.objs.size,data:=.fields vs,slots:=sl }:=(hs.2 x ne).trans (Heap.get?_update_self _ x1 rfl)
 refine zE (k h' s.heap.objs.size _ (zH _) (fun b o hb z=>?_) x2 hn')
 exact(hs.2 b (zAC (zK z))).trans ((Heap.get?_update_ne _ _ _ _ hb).trans (zD _ z))
theorem ga_by{od:Obj}{name:Str}{tk:Tok}{fill expr:Bool}{r:Found}{Q:Value->Shared->Prop}(B:BadK K C P fI)(X:K.In s.heap)(I:InstAt s.heap x oe C (some od))(hf:findObj K C (some od) name=some r)
  (k:match r with | .value v=>handedIn v=true/\Q v s | .bind g a=>∀ A',wpAny (model prog w) A' (call g [a,.ref x,.ref C]) (fun v s'=>handedIn v=true/\Q v s') (fun _ _=>False) s | .missing=>False) :
  wpAny (model prog w) A (getAttrBy (.ref x) (.str name tk) fill expr) Q E s:=by
 obtain⟨hh,g,d,t,os⟩:=s
 have L0:=I.type (M:=model prog w)
 have L1:=looks_findIn (M:=model prog w) X B.ga
 have L2:=looks_findIn (M:=model prog w) X B.hook
 have L3:=looks_find (M:=model prog w) X I hf
 have L4:Looks (model prog w) hh (isInstance (.ref x) (.type "BaseException")) true:=L0.andThen (looks_mroIn X B.mb)
 unfold getAttrBy
 refine wpAny_holding (zA (L0.at (zA (L1.at ?_))))
 have n2:(Value.builtin "BaseException.__getattribute__" == Value.builtin "object.__getattribute__")=false:=by decide +kernel
 show wpAny _ _ (if(onTheHeap (Value.ref C) && Value.builtin "BaseException.__getattribute__" == Value.builtin "object.__getattribute__")=true then _ else _) _ _ _
 rw[n2,Bool.and_false,if_neg zJ]
 unfold getAttrByItsOwn hookBefore
 rw[if_pos (show onTheHeap (Value.ref C)=true from rfl)]
 refine zA (L2.at (zA (wpAny_attempt (wpAny_holding ?_))))
 unfold callGetattribute
 rw[show(expr && onTheHeap (Value.builtin "BaseException.__getattribute__"))=false from Bool.and_false _,if_neg zJ]
 unfold boundAndCalled
 rw[PySem.F.excAttr_ValueError.ga.bind]
 have hk:builtinKind "BaseException.__getattribute__" = some .slot:=by decide +kernel
 have hs:splitId "BaseException.__getattribute__" = some ("BaseException","__getattribute__"):=by decide +kernel
 refine zA (zE (wpAny_call (codeAny_call_builtin PySem.F.excAttr_ValueError.ga.plain PySem.F.entry_bexc_ga
  (@check_slot (model prog w) _ _ ⟨hh,g,d,t,os⟩ "BaseException.__getattribute__" "BaseException" "__getattribute__" (.ref x) [.str name tk] [] _ hk hs L4 (PySem.F.args_bexc_ga (.ref x) (.str name tk)) ?_))))
 unfold Builtin.«object.__getattribute__»
 refine zA (zE (zA (zE (zA (L0.at (zA (L3.at ?_)))))))
 cases r with
 |value v=>exact zE (handed_on k.1 k.2)
 |bind gt a =>
  show wpAny _ _ (holding [a] (call gt [a,.ref x,.ref C]) >>= ret) _ _ _
  exact zA (wpAny_holding (wpAny_mono (k _) (fun v s' z=>zE (handed_on z.1 z.2)) fun _ _ z=>z.elim))
 |missing=>exact k.elim
theorem get_row{od:Obj}{v:Value}{expr:Bool}{Q:Value->Shared->Prop}(B:BadK K C P fI)(X:K.In s.heap)(I:InstAt s.heap x oe C (some od))(hl:lookIn "row" od=some (some v))(hv:handedIn v=true)
  (k:Q v { s with toks:=s.toks+1 }):wpAny (model prog w) A (getAttr (.ref x) "row" expr) Q E s:=by
 obtain⟨nm,q,N,bs,sn,sub,ab,col,dd,k0,k1,k2,k3,k5,lk⟩:=B.obj
 have hh:hasDictIn K C=true:=by
  unfold hasDictIn clsIn
  rw[lk]
  rfl
 exact zA (wpAny_mkText (ga_by (s:={ s with toks:=s.toks+1 }) B X I (findObj_own hh B.row rfl hl) ⟨hv,k⟩))
theorem get_cls{od:Obj}{Q:Option Value->Shared->Prop}(B:BadK K C P fI)(X:K.In s.heap)(I:InstAt s.heap x oe C (some od))(k:Q (some (.ref C)) { s with toks:=s.toks+1 }) :
  wpAny (model prog w) A (getAttr? (.ref x) "__class__") Q E s:=by
 obtain⟨nm,q,N,bs,sn,sub,ab,col,dd,k0,k1,k2,k3,k5,lk⟩:=B.obj
 have cl:(clsIn K C).isSome=true:=by
  unfold clsIn
  rw[lk]
  rfl
 have hf:findObj K C (some od) "__class__" = some (.bind (.builtin "getset_descriptor.__get__") (.builtin "object.__class__")):=findObj_data cl B.ca B.cg B.ct
 unfold getAttr? getAttrBy?
 exact zA (wpAny_mkText (zA (wpAny_attempt (ga_by (s:={ s with toks:=s.toks+1 }) B X I hf fun A'=>wpAny_call (class_get (s:={ s with toks:=s.toks+1 }) (ox:=oe) (od:=some od) X I B.mo ⟨rfl,zE k⟩)))))
theorem kitx_bad{od:Obj}(B:BadK K C P fI):KitX K (.ref x) (.ref C) (fun h=>InstAt h x oe C (some od))where
 ty:=fun _ _ _ I=>I.type
 it:=fun _ _ X _=>by
  obtain⟨nm,q,N,bs,sn,sub,ab,col,dd,k0,k1,k2,k3,k5,lk⟩:=B.obj
  intro A' Q' E' s' k z
  unfold isType loadHead
  exact zA (wpAny_loadPart (k _ _ (X _ _ lk)) (zE z))
 ne:=fun h tp dd its n sl X htp=>by
  obtain⟨nm,q,N,bs,sn,sub,ab,col,dd,k0,k1,k2,k3,k5,lk⟩:=B.obj
  refine zCH.mpr fun z=>?_
  have e:C=tp:=Value.ref.inj (beq_iff_eq.mp z)
  subst e
  have z:=congrArg (fun o:Option Obj=>o.map (·.data)) ((X _ _ lk).symm.trans htp)
  simp at z
 ca:=fun X I k=>get_cls B X I k
end
open PySem PySem.Spec PySem.W PyProof.Rows
structure Fly(C e dx:Addr)(s0:Heap)(L:List (Addr×Obj))(h:Heap)(H:Hp):Prop where
 big:s0.objs.size<=e
 un:H e=none
 apart:∀ p∈L,p.1≠e
 obj:∃ oe vs x,h.get? e=some oe/\oe.cls = .ref C/\oe.dict=some dx/\oe.data = .fields vs/\vs[1]?=some x/\Trd h e x/\∀ T,x = .ref T->(s0.objs.size<=T/\H T=none)/\∀ p∈L,p.1≠T
theorem dict_mapFields(o:Obj)(f:Array Value->Array Value):(o.mapFields f).dict=o.dict:=by
 obtain⟨c,d,da,sl⟩:=o
 cases da <;> rfl
section
variable{P:Program}{w:World}{fr:List Addr}{C e dx T:Addr}{oe:Obj}{x:Value}{s0 h h':Heap}{H:Hp}
theorem Noted.hok{fl:Value}(N:Noted fr e oe x fl h h' T)(ok:HOk P w H h)(ue:H e=none)(ux:∀ T0,x = .ref T0->H T0=none)(uf:∀ b∈fr,H b=none):HOk P w H h':=fun a o q =>
 (ok a o q).stay (fun b u hb z=>by
  have hs:∃ o',H b=some o':=by
   rcases hb with r | r
   ·exact⟨o,r▸q⟩
   ·exact⟨_,r⟩
  obtain⟨o',r⟩:=hs
  refine N.keep b u z (fun y=>?_) (fun y=>?_) fun y=>?_
  ·rw[y,ue]at r;cases r
  ·rw[ux b y]at r;cases r
  ·rw[uf b y]at r;cases r) (fun _ z=>z) fun _ _ z=>z
theorem Noted.fly{vs:Array Value}(N:Noted fr e oe x .none h h' T)(hs:s0.objs.size<=h.objs.size)(ok:HOk P w H h){L:List (Addr×Obj)}(n:s0.objs.size<=e)(np:∀ p∈L,p.1≠e/\∃ o,h.get? p.1=some o)(ue:H e=none)(hc:oe.cls = .ref C)(hd:oe.dict=some dx)(hf:oe.data = .fields vs)(h1:1<vs.size)(he:h.get? e=some oe) :
  Fly C e dx s0 L h' H:=by
 obtain⟨oT,ts,aT,dT,t3⟩:=N.ent
 refine⟨n,ue,fun p hp=>(np p hp).1,_,_,_,N.exc,(Obj.cls_mapFields _ _).trans hc,(dict_mapFields _ _).trans hd,Obj.data_mapFields hf _,(by simp[h1]),.inr ⟨T,oT,ts,rfl,fun z=>?_,aT,dT,t3⟩,fun T0 z=>?_⟩
 ·have q:=N.new
  rw[z,he]at q
  cases q
 ·cases z
  refine⟨⟨zC hs N.big,ok.fresh N.big⟩,fun p hp z=>?_⟩
  obtain⟨_,o,q⟩:=np p hp
  rw[z,N.new]at q
  cases q
end
noncomputable def CXB(P:Program)(w:World)(C:Addr):CXT:=fun outer H s E ev s'=>∃ (e dx:Addr) (k:Int) (H':Hp),ev = .ref e/\s'.os=s.os/\AllBare s'.gens/\Un (frs outer) [] H H' s.heap s'.heap/\HOk P w H' s'.heap /\
 Fly C e dx s.heap [] s'.heap H'/\H' dx=some (.xd [("row",.int k)])/\E (.int k 0) none H'
section
variable{X:Cx}{pins:List (Addr×Obj)}{σ:St}{H:Hp}{s:Shared}{C e dx:Addr}
noncomputable def ToX(X:Cx)(C:Addr)(R:Int->Hp->Prop):Prop:=∀ (pins:List (Addr×Obj)) (σ:St) (H:Hp) (s:Shared) (e dx:Addr) (k:Int),Inv X pins σ H s->Fly C e dx X.s₀.heap (X.pn++pins) s.heap H->H dx=some (.xd [("row",.int k)])->R k H->X.xe (.ref e) s
theorem pass_to{P:Program}{w:World}{E:XK}{R:Int->Hp->Prop}(hP:X.prog=P)(hw:X.w=w)(t:ToX X C R)(hE:∀ k H',E (.int k 0) none H'->R k H'):Passes (CXB P w C) X E:=by
 subst hP hw
 rintro pins σ H s ev s' I ⟨e,dx,k,H',rfl,os,bare,un,hok,fl,hd,q⟩
 have I':=I.call' os un hok bare (ch:=[]) (fun b z=>absurd z (by simp))
 have np:∀ b,s.heap.objs.size<=b->∀ p∈X.pn++pins,p.1≠b:=fun b hb p hp z=>by
  have:=zK (I.pin p hp).1
  rw[z]at this
  exact absurd (zG this hb) (zBH _)
 refine t pins σ H' s' e dx k I' ⟨zC I.sz fl.big,fl.un,np e fl.big,?_⟩ hd (hE k H' q)
 obtain⟨oe,vs,x,a1,a2,a3,a4,a5,a6,a7⟩:=fl.obj
 exact⟨oe,vs,x,a1,a2,a3,a4,a5,a6,fun T z=>⟨⟨zC I.sz (a7 T z).1.1,(a7 T z).1.2⟩,np T (a7 T z).1.1⟩⟩
end
section
variable{P:Program}{w:World}{K:Frag}{mg:Str->Option Value}{base:Heap}{N:List Str}{qual:Str}{scope:Scope}{f:Addr}{cd:Value}{A:Around}{outer:List Env}{s:Shared}{H:Hp}{E:XK}{C:Addr}
theorem to_leave:ToX (cxOf (CXB P w C) P w K mg base N qual scope f cd A outer s H E) C (fun k H'=>E (.int k 0) none H'):=by
 intro pins σ H1 s1 e dx k I fl hd q
 obtain⟨oe,vs,x,a1,a2,a3,a4,a5,a6,a7⟩:=fl.obj
 have hfs:∀ b∈frs (envOfC qual scope s.heap.objs.size f cd :: outer),H1 b=none:=I.stkFree
 refine leave_fly (s:=s1) I.ok.frames I.stack rfl a1 a4 a5 a6 fun h' T Nt=>?_
 have hsz:1<vs.size:=(zAI.mp a5).1
 have fn:s.heap.get? e=none:=Heap.get?_none_of_le fl.big
 have a8:∀ T,x = .ref T->s.heap.get? T=none:=fun T z=>Heap.get?_none_of_le (a7 T z).1.1
 have nin:∀ b o,s.heap.get? b=some o->b≠e/\x≠.ref b:=fun b o z=>⟨fun y=>(by rw[y,fn]at z;cases z),fun y=>(by rw[a8 b y]at z;cases z)⟩
 have nfr:∀ b o,s.heap.get? b=some o->b∉frs outer->b∉frs (envOfC qual scope s.heap.objs.size f cd :: outer):=fun b o z hb y=>by
  rcases zW.mp (I.stkSub b y)with r | r
  ·exact absurd (zK z) (by rw[r];exact zBH _)
  ·exact hb r
 refine⟨e,dx,k,H1,rfl,I.os,I.bare,⟨fun b o z n hb hx=>?_,fun b o z n hb hx=>?_,I.base.free,fun b o z hx=>?_,I.base.tups,I.base.frzs,I.base.tbls⟩,Nt.hok I.hok fl.un (fun T0 y=>(a7 T0 y).1.2) hfs,Nt.fly (L:=[]) I.sz I.hok fl.big (fun p hp=>nomatch hp) fl.un a2 a3 a4 hsz a1,hd,q⟩
 ·exact Nt.keep b o (I.base.keep b o z n hb hx) (nin b o z).1 (nin b o z).2 (nfr b o z hb)
 ·obtain⟨sl,r⟩:=I.base.slot b o z n hb hx
  obtain⟨sl',r'⟩:=Nt.slot b _ r (nin b o z).1 (nin b o z).2
  exact⟨sl',r'⟩
 ·obtain⟨o',r⟩:=I.base.there b o z hx
  obtain⟨sl',r'⟩:=Nt.slot b _ r (nin b o z).1 (nin b o z).2
  exact⟨_,r'⟩
theorem passes_leave:PassesOwn (model P w) (A.deeper (envOfC qual scope s.heap.objs.size f cd)) (envOfC qual scope s.heap.objs.size f cd) (cxOf (CXB P w C) P w K mg base N qual scope f cd A outer s H E).xe:=PassesOwn.leaving
end
open PySem PySem.Spec PySem.W PyProof.Rows
noncomputable abbrev nIni:List Str:=["self","row"]
noncomputable def rowD(k:Int):HO:=.xd [("row",.int k)]
theorem row_ok{P:Program}{w:World}{H:Hp}{h:Heap}{dx:Addr}{k:Int}{u:Value}(ru:RelV (.int k) u)(n:h.Ns1 dx (fun y=>if y = "row" then some u else none)):ObjOk P w H h dx (rowD k):=by
 refine⟨_,n,fun f=>?_⟩
 by_cases e:f = "row"
 ·subst e
  have e2:List.lookup ("row":Str) [(("row":Str),V.int k)]=some (.int k):=by simp[List.lookup]
  show RelO (List.lookup ("row":Str) [(("row":Str),V.int k)]) (if("row":Str) = "row" then some u else none)
  rw[if_pos rfl,e2]
  exact ru
 ·have b:(f ==("row":Str))=false:=beq_eq_false_iff_ne.mpr e
  have e2:List.lookup f [(("row":Str),V.int k)]=none:=by simp only[List.lookup,b]
  show RelO (List.lookup f [(("row":Str),V.int k)]) (if f = "row" then some u else none)
  rw[if_neg e,e2]
  trivial
section
variable{P:Program}{w:World}{K:Frag}{mg:Str->Option Value}{base:Heap}{A:Around}{outer:List Env}{s:Shared}{H:Hp}{C Pa fI e:Addr}{fd:FuncData}{st:Stmt}{oe:Obj}{vs:Array Value}{u:Value}{k:Int}
theorem init_run{p1 p2 p3 p4:Pos}{R:Result->Shared->Prop}(FI:Fun K "__init__" "BadRow.__init__" st fI fd)(S:FnScope nIni nIni (defScope st))
  (hbody:defBody st=[.Assign [.Attribute (.Name "self" p1) "row" p2] (.Name "row" p3) p4]) (hbind:BindsTo s fd ⟨[.ref e,u],[]⟩ (nIni.zip [.ref e,u]))
  (hsw:∀ env:Env,swapsWith (.Name "row" p3) (some (.Attribute (.Name "self" p1) "row" p2)) p4.line env=pure false)
  (B:BadK K C Pa fI) (hr:Room 1 A) (e0:Env0 P w K mg base A outer s H) (he:s.heap.get? e=some oe) (hc:oe.cls = .ref C) (hd:oe.dict=none) (hf:oe.data = .fields vs) (ue:H e=none) (hfr:e∉frs outer) (ru:RelV (.int k) u)
  (q:∀ s' dx,s'.os=s.os->AllBare s'.gens->s.heap.objs.size<=dx->Un (frs outer) [e] H (upd H dx (rowD k)) s.heap s'.heap->HOk P w (upd H dx (rowD k)) s'.heap->s'.heap.get? e=some { oe with dict:=some dx }->R (.ok (.ret .none)) s') :
  codeAny (model P w) A (.call (.ref fI) ⟨[.ref e,u],[]⟩) R s:=by
 obtain⟨oc,od,kV,doc,pm,an,cdv,ct,osl,rfl,lk,hcd⟩:=FI.ex
 have KX:K.In s.heap:=e0.mod.kin.keeps fun b o z=>(e0.bs b o z).1
 have lim:s.heap.NoLimit:=e0.mod.nolimit.keeps fun b o z=>(e0.bs b o z).1
 have r:Vals [V.ref e,V.int k] [Value.ref e,u]:=.cons rfl (.cons ru .nil)
 have hkind:∀ y∈nIni.zip [Value.ref e,u],(defScope st).names.lookup y.1=some .local\/((defScope st).names.lookup y.1=some .cell/\((cellsFrom (s.heap.objs.size+1) (defScope st).names []).lookup y.1).isSome=true):=fun⟨n,v⟩ hy=>by
  rcases S.par n (List.of_mem_zip hy).1 with z | z
  ·exact .inl z
  ·exact .inr ⟨z,PySem.W.cellsFrom_some _ _ _ (.inl z)⟩
 refine codeAny_call_function hr.depth (KX _ _ lk) rfl S.co S.gen rfl (PySem.W.codeRec_of KX hcd) (hbind _ _ _ _ ?_)
 refine wpAny_newFunctionEnv_cells S.kind hkind fun env hE s1 x=>?_
 subst hE
 refine⟨lim.keeps x.toInCall.keep,codeAny_func ?_⟩
 have I:Inv (cxOf CX0 P w K mg base nIni "BadRow.__init__" (defScope st) fI cdv A outer s H E0).nox [(e,oe)] (start nIni [V.ref e,V.int k]) H s1:=by
  have I0:Inv (cxOf CX0 P w K mg base nIni "BadRow.__init__" (defScope st) fI cdv A outer s H E0) [] (start nIni [V.ref e,V.int k]) H s1:=inv_start S hr.hd e0 rfl r x
  refine Inv.wish ?_ _
  refine I0.pins_of fun p hp=>?_
  obtain rfl:=zAA.mp hp
  refine⟨I0.base.keep e oe he ue hfr (fun z=>absurd (show e∈([]:List Addr)from z) (by simp)),ue,zAC (zK he),hfr,fun v z=>?_⟩
  have z:oe.data = .cell v:=z
  rw[hf]at z
  cases z
 have b1:PE (cxOf CX0 P w K mg base nIni "BadRow.__init__" (defScope st) fI cdv A outer s H E0).nox (.Name "row" p3) (tVar 1):=pv 1 rfl (S.par _ (by simp) |>.elim Or.inl (fun z=>Or.inr (Or.inl z)))
 have b0:PE (cxOf CX0 P w K mg base nIni "BadRow.__init__" (defScope st) fI cdv A outer s H E0).nox (.Name "self" p1) (tVar 0):=pv 0 rfl (S.par _ (by simp) |>.elim Or.inl (fun z=>Or.inr (Or.inl z)))
 show wpAny (model P w) (A.deeper (envOfC "BadRow.__init__" (defScope st) s.heap.objs.size fI cdv)) (execs (defBody st) (envOfC "BadRow.__init__" (defScope st) s.heap.objs.size fI cdv)) _ _ s1
 rw[hbody]
 refine wpAny_mono (Q:=fun f s'=>f = .next/\R (.ok (.ret .none)) s') (E:=fun _ _=>False) ?_ (fun f s' z=>?_) (fun _ _ z=>z.elim)
 ·refine wpAny_execs_cons (plainObj_wpAny_Assign_Attribute (thn (b1 _ _ _ _ (fun v H'=>v = .int k/\H'=H) I ⟨_,rfl,rfl,rfl⟩) fun v s2 z1=>?_) (hsw _))
  obtain⟨x2,H2,I2,r2,rfl,rfl⟩:=z1
  refine thn (b0 _ _ _ _ (fun v H'=>v = .ref e/\H'=H2) I2 ⟨_,rfl,rfl,rfl⟩) fun ov s3 z2=>?_
  obtain⟨x3,H3,I3,r3,rfl,rfl⟩:=z2
  obtain rfl:ov=Value.ref e:=r3
  obtain⟨he3,_,_,_,_⟩:=I3.pin (e,oe) (zAR _ (zAA.mpr rfl))
  have he3:s3.heap.get? e=some oe:=he3
  refine set_row B I3.kIn he3 hc hd hf fun h' dx t' l1 l2 l3 l4=>?_
  have sz:s.heap.objs.size<=s3.heap.objs.size:=I3.sz
  have ndx:∀ b o,H3 b=some o->b≠dx:=fun b o z y=>by
   rw[y,I3.hok.fresh l1]at z
   cases z
  have nde:∀ b o,H3 b=some o->b≠e:=fun b o z y=>by
   rw[y,ue]at z
   cases z
  have ndb:∀ b o,s.heap.get? b=some o->b≠dx:=fun b o z=>zAC (zG (zK z) (zC sz l1))
  have noex:∀ b:Addr,¬ b∈([]:List Addr):=fun b z=>absurd z (by simp)
  refine wpAny_execs_nil ⟨rfl,q _ dx I3.os I3.bare (zC sz l1) ⟨fun b o z n hb hx=>?_,fun b o z n hb hx=>?_,fun b o z n hx=>?_,fun b o z hx=>?_,fun b xs z=>?_,fun b o u z=>?_,fun b ps z=>?_⟩ (fun a o z=>?_) l3⟩
  ·exact l2 b o (fun y=>hx (by rw[y];exact zAA.mpr rfl)) (I3.base.keep b o z n hb (noex b))
  ·obtain⟨sl,y⟩:=I3.base.slot b o z n hb (noex b)
   exact⟨sl,l2 b _ (fun y=>hx (by rw[y];exact zAA.mpr rfl)) y⟩
  ·rw[upd_ne (ndb b o z)]
   exact I3.base.free b o z n (noex b)
  ·obtain⟨o',y⟩:=I3.base.there b o z (noex b)
   exact⟨o',l2 b _ (fun y=>hx (by rw[y];exact zAA.mpr rfl)) y⟩
  ·rw[upd_ne (ndx b _ z)]
   exact z
  ·rw[upd_ne (ndx b _ z)]
   exact z
  ·exact⟨#[],by rw[upd_ne (ndx b _ z),z];simp⟩
  ·by_cases ha:a=dx
   ·subst ha
    rw[upd_same]at z
    cases z
    exact row_ok r2 l4
   ·rw[upd_ne ha]at z
    refine(I3.hok a o z).stay (fun b u hb y=>l2 b u ?_ y) (fun b y=>by rw[upd_ne (ndx b _ y)];exact y) fun b xs y=>by rw[upd_ne (ndx b _ y)];exact y
    rcases hb with hb | hb
    ·rw[hb];exact nde a o z
    ·exact nde b _ hb
 ·obtain⟨rfl,z⟩:=z
  exact z
end
open PySem PySem.Spec PySem.W PyProof.Rows
theorem ObjOk.at{P:Program}{w:World}{H:Hp}{h:Heap}{a:Addr}{o:HO}(x:ObjOk P w H h a o):∃ ob,h.get? a=some ob:=by
 cases o with
 |lst xs=>obtain⟨_,_,_,_,e⟩:=x;exact⟨_,e⟩
 |tup xs=>obtain⟨_,_,_,o,e,_⟩:=x;exact⟨_,e⟩
 |dK kvs=>obtain⟨_,_,_,_,o,_,_,e,_⟩:=x;exact⟨_,e⟩
 |dT kvs=>obtain⟨_,_,_,_,o,_,_,e,_⟩:=x;exact⟨_,e⟩
 |set S n=>obtain⟨o,_,_,_,e,_⟩:=x;exact⟨_,e⟩
 |ins C dx fs=>obtain⟨_,_,_,e,_⟩:=x;exact⟨_,e⟩
 |own y=>obtain⟨_,e⟩:=x;exact⟨_,e⟩
 |xd fs=>obtain⟨_,⟨_,_,_,e,_⟩,_⟩:=x;exact⟨_,e⟩
 |rng lo hi=>obtain⟨_,_,_,e⟩:=x;exact⟨_,e⟩
 |frz ob u=>obtain⟨e,_⟩:=x;exact⟨_,e⟩
 |tbl ps=>exact⟨_,show h.get? a=some _ from x⟩
 |met f y=>exact⟨_,show h.get? a=some _ from x⟩
 |ext φ=>obtain⟨_,⟨o,e⟩,_⟩:=x;exact⟨_,e⟩
theorem HOk.none_at{P:Program}{w:World}{H:Hp}{h:Heap}{a:Addr}(x:HOk P w H h)(e:h.get? a=none):H a=none:=by
 cases q:H a with
 |none=>rfl
 |some u =>
  obtain⟨ob,z⟩:=(x a u q).at
  rw[e]at z
  cases z
section
variable{M:Model}{A:Around}{E:Value->Shared->Prop}{env:Env}
variable{nm q:Str}{C N:Addr}{bs bm:List Value}{hdct:Bool}{sn:List Str}{sub:List Value}{ab:Bool}{col:Option Bool}{dd:Option Addr}{k0 k1 k2 k3 k5:Option Value}{newId:String}
theorem raise_own{s:Shared}{x:Sem Value}{Q:Flow->Shared->Prop}(hb:bm.contains (.type "BaseException")=true)(hh:A.handled=none)
  (k:wpAny M A x (fun v s₁=>∃ e dx t,v = .ref e/\s₁.heap.get? C=some (excClassObj nm q C N bs bm hdct sn sub ab col dd k0 k1 k2 k3 k5 newId) /\
   s₁.heap.get? e=some { cls:=.ref C,dict:=some dx,data:=.fields #[.ref t,.none,.none,.none,.bool false,.none] }/\E (.ref e) s₁) E s) :
  wpAny M A (raiseStmt env (some x) none) Q E s:=by
 have cB:(Value.ref C :: bm).contains (.type "BaseException")=true:=by rw[List.contains_cons,hb,Bool.or_true]
 unfold raiseStmt
 refine zA (wpAny_mono k (fun v s₁ z=>?_) fun _ _ z=>z)
 obtain⟨e,dx,t,rfl,hC,he,hE⟩:=z
 obtain⟨hp,g,d,tk,os⟩:=s₁
 repeat (first | with_reducible refine wpAny_loadPart_at he ?_ | with_reducible refine wpAny_loadPart_at hC ?_ |(with_reducible refine wpAny_isSubtype_exc hC ?_;rw[cB]) | wp_step)
 exact wpAny_raiseNew_none hh hE
end
noncomputable def tRaise(ta:TA)(R:Int->Hp->Prop):TS:=fun _ σ H=>ta σ H fun vs H1=>∃ k,vs=[.int k]/\∀ dx,H1 dx=none->R k (upd H1 dx (rowD k))
section
variable{X:Cx}{C Pa fI:Addr}{fd:FuncData}{st:Stmt}{arg:Expr}{ta:TA}{R:Int->Hp->Prop}
theorem ps_raise{np cpos pos p1 p2 p3 p4:Pos}(FI:Fun X.K "__init__" "BadRow.__init__" st fI fd)(S:FnScope nIni nIni (defScope st))
  (hbody:defBody st=[.Assign [.Attribute (.Name "self" p1) "row" p2] (.Name "row" p3) p4]) (hbind:Binds X.K fd nIni [])
  (hsw:∀ env:Env,swapsWith (.Name "row" p3) (some (.Attribute (.Name "self" p1) "row" p2)) p4.line env=pure false)
  (B:BadK X.K C Pa fI) (hg:Gl X "BadRow") (hm:X.mg "BadRow" = some (.ref C)) (hr:Room 2 X.A) (ha:PA X [arg] ta) (t:ToX X C R)
  (hse:starEach [arg] X.env=(false,eval arg X.env) :: starEach [] X.env:=by rfl) :
  PS X (.Raise (some (.Call (.Name "BadRow" np) [arg] [] cpos)) none pos) (tRaise ta R):=by
 intro pins s σ H D I h
 obtain⟨nm,q,N,bs,sn,sub,ab,col,dd,k0,k1,k2,k3,k5,lk⟩:=B.obj
 rw[arm_exec_Raise]
 refine zA (wpAny_standAt (raise_own (C:=C) (nm:=nm) (q:=q) (N:=N) (bs:=bs) (bm:=.ref Pa :: bV) (hdct:=true) (sn:=sn) (sub:=sub) (ab:=ab) (col:=col) (dd:=dd) (k0:=k0) (k1:=k1) (k2:=k2) (k3:=k3) (k5:=k5) (newId:="ValueError.__new__") (by rfl) hr.hd ?_))
 refine zA (wpAny_mono (wpAny_Call_Name_kw (ld_glob I hg hm ?_ (by decide))) (fun v s₃ z=>zA (wpAny_standAt (zE z))) fun _ _ z=>z)
 refine PySem.W.callWith_K (h₀:=X.base) I.ok.mod.kin B.kp (thn (ha cpos pins s σ H _ I h) fun us s1 z=>⟨?_,?_⟩) hse rfl
 ·obtain⟨vs,H1,I1,r,z⟩:=z
  exact I1.kIn
 ·obtain⟨vs,H1,I1,r,k,rfl,z⟩:=z
  obtain⟨u,rfl,ru⟩:=vals1 r
  obtain⟨h1,g1,d1,t1,o1⟩:=s1
  have KX:=I1.kIn
  refine call_own PySem.F.excBase_ValueError (tail_of_in KX B.tail) (KX _ _ lk) (looks_findIn KX B.init) (fun self=>bind_fn KX self (beq_iff_eq.mp B.fn)) (by show 1<=sizeLine;decide) fun h2 e m lsz=>?_
  obtain⟨tt,at2,tn,at3⟩:=m.there
  have ue:H1 e=none:=I1.hok.none_at m.new
  have hfr:e∉frs X.stack:=fun y=>by
   obtain⟨_,o,ho,_⟩:=I1.stack.mem y
   have n:=m.new
   rw[show h1.get? e=some o from ho]at n
   cases n
  have e1:=I1.env0.make C [u] []
  have e2:Env0 X.prog X.w X.K X.mg X.base (X.A.under (.builtin "type.__call__" ⟨.ref C :: [u],[]⟩)) X.stack ⟨h2,g1,d1,t1,o1⟩ H1 :=
   ⟨e1.frames,e1.mod,fun b o y=>⟨m.keeps b o (e1.bs b o y).1,(e1.bs b o y).2⟩,zC e1.bsz lsz.1,e1.funs.of_keeps fun b o y _=>⟨o,m.keeps b o y,rfl⟩,e1.frf,I1.hok.kept m.keeps,I1.bare⟩
  have hb1:BindsTo (⟨h2,g1,d1,t1,o1⟩:Shared) fd ⟨[.ref e,u],[]⟩ (nIni.zip [.ref e,u]):=hbind _ [.ref e,u] (fun a o y=>m.keeps a o (KX a o y)) rfl
  refine wpAny_call (codeAny_mono (init_run (R:=fun r s'=>r = .ok (.ret .none)/\∃ dx,s'.heap.get? C=some (excClassObj nm q C N bs (.ref Pa :: bV) true sn sub ab col dd k0 k1 k2 k3 k5 "ValueError.__new__") /\
    s'.heap.get? e=some { cls:=.ref C,dict:=some dx,data:=.fields #[.ref tt,.none,.none,.none,.bool false,.none] }/\X.xe (.ref e) s') FI S hbody hb1 hsw B (hr.make C [u] []) e2 at2 rfl rfl rfl ue hfr ru fun s' dx os bare ldx un hok he'=>?_) fun r s' y=>?_)
  ·have ne:∀ b o,h1.get? b=some o->b∉[e]:=fun b o y w=>by
    rw[zAA.mp w,m.new]at y
    cases y
   have U:Un (frs X.stack) [] H1 (upd H1 dx (rowD k)) h1 s'.heap :=
    ⟨fun b o y n hb _=>un.keep b o (m.keeps b o y) n hb (ne b o y),fun b o y n hb _=>un.slot b o (m.keeps b o y) n hb (ne b o y),fun b o y n _=>un.free b o (m.keeps b o y) n (ne b o y),fun b o y _=>un.there b o (m.keeps b o y) (ne b o y),un.tups,un.frzs,un.tbls⟩
   have I2:Inv X pins σ (upd H1 dx (rowD k)) s':=I1.call' os U hok bare (ch:=[]) (fun b y=>absurd y (by simp))
   have hdx:H1 dx=none:=I1.hok.fresh (zC lsz.1 ldx)
   have nedx:e≠dx:=zAC (zG (zK at2) ldx)
   refine⟨rfl,dx,I2.kIn _ _ lk,he',t pins σ _ s' e dx k I2 ⟨zC I1.sz lsz.2,by rw[upd_ne nedx];exact ue,fun p hp y=>?_,_,_,.none,he',rfl,rfl,rfl,rfl,.inl rfl,fun T y=>nomatch y⟩ upd_same (z dx hdx)⟩
   have q:=zK (I1.pin p hp).1
   rw[y]at q
   exact absurd (zG q lsz.2) (zBH _)
  ·obtain⟨rfl,dx,y1,y2,y3⟩:=y
   exact⟨rfl,e,dx,tt,rfl,y1,y2,y3⟩
end
open PySem PySem.Spec PySem.W PyProof.Rows
noncomputable abbrev Cx.held(X:Cx)(e:Addr)(oe:Obj):Cx:={ X with A:=X.A.mark (some (.ref e)),calm:=false,pn:=(e,oe) :: X.pn,xe:=fun _ _=>False }
noncomputable abbrev Cx.pinA(X:Cx)(pl:List (Addr×Obj)):Cx:={ X with pn:=pl }
noncomputable def TryE(X:Cx)(C:Addr)(W:Int->Hp->Prop):Value->Shared->Prop:=fun ev s'=>∃ (e dx:Addr) (k:Int) (σ:St) (H:Hp),ev = .ref e/\Inv X [] σ H s'/\Fly C e dx X.s₀.heap X.pn s'.heap H/\H dx=some (rowD k)/\W k H
noncomputable abbrev Cx.tried(X:Cx)(pl:List (Addr×Obj))(C:Addr)(W:Int->Hp->Prop):Cx:=(X.pinA pl).wish (TryE (X.pinA pl) C W)
section
variable{X:Cx}{pins:List (Addr×Obj)}{σ:St}{H:Hp}{s:Shared}
theorem Cx.Ok.held(ok:X.Ok)(e:Addr)(oe:Obj):(X.held e oe).Ok :=
 ⟨ok.mod,ok.kind,ok.glob,ok.blt,ok.above,ok.inj,ok.has,ok.cab,(fun z=>nomatch z),ok.frames,ok.stk,ok.exf,ok.bs,ok.bsz,ok.noex,ok.exfs,ok.funs,ok.frf⟩
theorem Cx.Ok.pinA(ok:X.Ok)(pl:List (Addr×Obj)):(X.pinA pl).Ok :=
 ⟨ok.mod,ok.kind,ok.glob,ok.blt,ok.above,ok.inj,ok.has,ok.cab,ok.hd,ok.frames,ok.stk,ok.exf,ok.bs,ok.bsz,ok.noex,ok.exfs,ok.funs,ok.frf⟩
theorem Inv.held{e:Addr}{oe:Obj}(I:Inv X pins σ H s)(h:s.heap.get? e=some oe/\H e=none/\e≠X.env.locals/\e∉X.fs/\∀ v,oe.data≠.cell v):Inv (X.held e oe) pins σ H s :=
 ⟨I.ok.held e oe,I.os,I.bare,I.base,I.loc,I.cell,I.free,I.freeC,fun p hp=>by
  rcases zW.mp (show p∈(e,oe) :: (X.pn++pins)from hp)with z | z
  ·subst z;exact h
  ·exact I.pin p z,I.hok,I.len⟩
theorem Inv.unheld{e:Addr}{oe:Obj}(ok:X.Ok)(I:Inv (X.held e oe) pins σ H s):Inv X pins σ H s :=
 ⟨ok,I.os,I.bare,I.base,I.loc,I.cell,I.free,I.freeC,fun p hp=>I.pin p (zP _ hp),I.hok,I.len⟩
theorem Inv.pinA(I:Inv X pins σ H s):Inv (X.pinA (X.pn++pins)) [] σ H s :=
 ⟨I.ok.pinA _,I.os,I.bare,I.base,I.loc,I.cell,I.free,I.freeC,fun p hp=>I.pin p (by simpa using hp),I.hok,I.len⟩
theorem Inv.unpinA(ok:X.Ok)(I:Inv (X.pinA (X.pn++pins)) [] σ H s):Inv X pins σ H s :=
 ⟨ok,I.os,I.bare,I.base,I.loc,I.cell,I.free,I.freeC,fun p hp=>I.pin p (by simpa using hp),I.hok,I.len⟩
theorem to_try{pl:List (Addr×Obj)}{C:Addr}{W:Int->Hp->Prop}:ToX (X.tried pl C W) C W:=fun pins σ H s e dx k I fl hd q =>
 ⟨e,dx,k,σ,H,rfl,Inv.unwish (E:=TryE (X.pinA pl) C W) (I.pins_of fun p hp=>nomatch hp),⟨fl.big,fl.un,fun p hp=>fl.apart p (zAZ _ hp),let ⟨oe,vs,x,a1,a2,a3,a4,a5,a6,a7⟩:=fl.obj;⟨oe,vs,x,a1,a2,a3,a4,a5,a6,fun T z=>⟨(a7 T z).1,fun p hp=>(a7 T z).2 p (zAZ _ hp)⟩⟩⟩,hd,q⟩
theorem Inv.noted{e dx:Addr}{oe:Obj}{vs:Array Value}{x fl:Value}{h':Heap}{T C:Addr}(I:Inv X pins σ H s)(N:Noted (frs X.stack) e oe x fl s.heap h' T)
  (he:s.heap.get? e=some oe) (hf:oe.data = .fields vs) (hx:Trd s.heap e x) (big:X.s₀.heap.objs.size<=e) (un:H e=none) (ap:∀ p∈X.pn++pins,p.1≠e) (a7:∀ T0,x = .ref T0->(X.s₀.heap.objs.size<=T0/\H T0=none)/\∀ p∈X.pn++pins,p.1≠T0) :
  Inv X pins σ H { s with heap:=h' }:=by
 obtain⟨ch,hch⟩:∃ ch:List Addr,∀ b,b∈ch↔(b=e\/x = .ref b):=by
  rcases hx with rfl |⟨T0,_,_,rfl,_⟩
  ·exact⟨[e],fun b=>by simp⟩
  ·exact⟨[e,T0],fun b=>by simp[eq_comm]⟩
 have flds:∀ b,b∈ch->∃ o ws,s.heap.get? b=some o/\o.data = .fields ws:=fun b hb=>by
  rcases(hch b).mp hb with rfl | z
  ·exact⟨_,_,he,hf⟩
  ·rcases hx with rfl |⟨T0,oT,ts,rfl,_,a,d,_⟩
   ·cases z
   ·cases z
    exact⟨_,_,a,d⟩
 have nok:∀ b,b∉ch->b≠e/\x≠.ref b:=fun b hb=>⟨fun z=>hb ((hch b).mpr (.inl z)),fun z=>hb ((hch b).mpr (.inr z))⟩
 have hok':HOk X.prog X.w H h':=N.hok I.hok un (fun T0 z=>(a7 T0 z).1.2) I.stkFree
 refine I.call' (s':={ s with heap:=h' }) (ch:=ch) rfl ⟨fun b o z n hb hx=>N.keep b o z (nok b hx).1 (nok b hx).2 hb,fun b o z n hb hx=>N.slot b o z (nok b hx).1 (nok b hx).2,fun b o z n hx=>n,fun b o z hx=>?_,fun b xs z=>z,fun b o u z=>z,fun b ps z=>⟨#[],by rw[z];simp⟩⟩ hok' I.bare fun b hb=>?_
 ·obtain⟨sl,y⟩:=N.slot b o z (nok b hx).1 (nok b hx).2
  exact⟨_,y⟩
 ·obtain⟨o,ws,ho,hd⟩:=flds b hb
  refine⟨.inr ?_,fun z=>?_,fun y c z w=>?_,fun p hp=>?_⟩
  ·rcases(hch b).mp hb with z | z
   ·rw[z];exact big
   ·exact(a7 b z).1.1
  ·obtain⟨m,⟨o',es,ep,ho',hd',_⟩,_⟩:=I.loc
   rw[z,ho']at ho
   cases ho
   rw[hd']at hd
   cases hd
  ·obtain⟨v,o',ho',hd'⟩:=I.cell y c z
   rw[w,ho]at ho'
   cases ho'
   rw[hd]at hd'
   cases hd'
  ·rcases(hch b).mp hb with z | z
   ·rw[z];exact ap p hp
   ·exact(a7 b z).2 p hp
theorem Inv.landed{h':Heap}{T:Addr}{oT:Obj}{ts:Array Value}(I:Inv X pins σ H s)(hT:s.heap.get? T=some oT)(dT:oT.data = .fields ts)(oth:∀ b,b≠T->h'.get? b=s.heap.get? b)(there:∃ o,h'.get? T=some o)(big:X.s₀.heap.objs.size<=T)(un:H T=none)
  (ap:∀ p∈X.pn++pins,p.1≠T):Inv X pins σ H { s with heap:=h' }:=by
 have uT:∀ b u,H b=some u->b≠T:=fun b u z y=>by rw[y,un]at z;cases z
 have hok':HOk X.prog X.w H h':=fun a o q=>(I.hok a o q).stay (fun b u hb z=>by
  refine(oth b ?_).trans z
  rcases hb with r | r
  ·rw[r];exact uT a o q
  ·exact uT b _ r) (fun _ z=>z) fun _ _ z=>z
 refine I.call' (s':={ s with heap:=h' }) (ch:=[T]) rfl ⟨fun b o z n hb hx=>(oth b fun y=>hx (by rw[y];exact zAA.mpr rfl)).trans z,fun b o z n hb hx=>⟨o.slots,(oth b fun y=>hx (by rw[y];exact zAA.mpr rfl)).trans z⟩,fun b o z n hx=>n,fun b o z hx=>⟨o,(oth b fun y=>hx (by rw[y];exact zAA.mpr rfl)).trans z⟩,fun b xs z=>z,fun b o u z=>z,fun b ps z=>⟨#[],by rw[z];simp⟩⟩ hok' I.bare fun b hb=>?_
 obtain rfl:=zAA.mp hb
 refine⟨.inr big,fun z=>?_,fun y c z w=>?_,ap⟩
 ·obtain⟨m,⟨o',es,ep,ho',hd',_⟩,_⟩:=I.loc
  rw[z,ho']at hT
  cases hT
  rw[hd']at dT
  cases dT
 ·obtain⟨v,o',ho',hd'⟩:=I.cell y c z
  rw[w,hT]at ho'
  cases ho'
  rw[dT]at hd'
  cases hd'
theorem Inv.gone{h':Heap}{n:Str}{v:Option Value}{t':Nat}{i:Nat}{m:Str->Option Value}(I:Inv X pins σ H s)(hn:s.heap.Ns X.env.locals m)(hl:∀ (i:Nat) (x:Str) (v:V),X.N[i]?=some x->σ[i]?=some (some v)->Vis X.env.scope x->∃ u,RelV v u/\Look X.env s.heap m x u)
  (hi:X.N[i]?=some n) (nd:X.N.Nodup) (hn':h'.Ns X.env.locals (fun x=>if x=n then v else m x)) (hs:Heap.SameBut X.env.locals s.heap h'):Inv X pins (σ.set i none) H { s with heap:=h',toks:=t' }:=by
 have ne:∀ b o,X.s₀.heap.get? b=some o->b≠X.env.locals:=fun b o e=>zAC (zG (zK e) I.ok.above)
 have uL:∀ b u,H b=some u->b≠X.env.locals:=fun b u z y=>by rw[y,I.free]at z;cases z
 refine⟨I.ok,I.os,I.bare,⟨fun b o e n hb hx=>(hs.2 b (ne b o e)).trans (I.base.keep b o e n hb hx),fun b o e n hb hx=>?_,I.base.free,fun b o e hx=>?_,I.base.tups,I.base.frzs,I.base.tbls⟩,⟨_,hn',fun j y w e1 e2 e3=>?_⟩,fun y c e=>?_,I.free,I.freeC,fun p hp=>?_,fun a o q=>?_,by simpa using I.len⟩
 ·obtain⟨sl,e1⟩:=I.base.slot b o e n hb hx
  exact⟨sl,(hs.2 b (ne b o e)).trans e1⟩
 ·obtain⟨o',e1⟩:=I.base.there b o e hx
  exact⟨o',(hs.2 b (ne b o e)).trans e1⟩
 ·by_cases hj:j=i
  ·subst hj
   rw[List.getElem?_set]at e2
   simp at e2
  ·rw[List.getElem?_set_ne (Ne.symm hj)]at e2
   obtain⟨u',r',q⟩:=hl j y w e1 e2 e3
   refine⟨u',r',?_⟩
   rcases q with⟨k,e⟩ |⟨k,c,e,z⟩
   ·refine .inl ⟨k,?_⟩
    have:y≠n:=fun e=>hj (nodup_ix nd e1 (e▸hi))
    simp[this,e]
   ·exact .inr ⟨k,c,e,z.sameBut hs (I.cne y c e)⟩
 ·obtain⟨w',z⟩:=I.cell y c e
  exact⟨w',z.sameBut hs (I.cne y c e)⟩
 ·obtain⟨e,n,ne',nf,d⟩:=I.pin p hp
  exact⟨(hs.2 p.1 ne').trans e,n,ne',nf,d⟩
 ·refine(I.hok a o q).stay (fun b u hb z=>(hs.2 b ?_).trans z) (fun _ z=>z) fun _ _ z=>z
  rcases hb with r | r
  ·rw[r];exact uL a o q
  ·exact uL b _ r
end
open PySem PySem.Spec PySem.W PyProof.Rows
noncomputable def tTry(m i:Nat)(W:Int->Hp->Prop)(tb:TS)(ts:Addr->Addr->TS):TS:=fun D σ H=>tb D σ H/\∀ (e dx:Addr) (k:Int) (σ':St) (H':Hp),σ'.length=m->H' dx=some (rowD k)->W k H' ->
 ts e dx { nx:=fun σ2 H2=>D.nx (σ2.set i none) H2,rt:=D.rt,bk:=fun σ2 H2=>D.bk (σ2.set i none) H2,ct:=fun σ2 H2=>D.ct (σ2.set i none) H2 } (σ'.set i (some (.ref e))) H'
section
variable{X:Cx}{pins:List (Addr×Obj)}{σ:St}{H:Hp}{s:Shared}
theorem Inv.not_rec{b:Addr}{o:Obj}{ws:Array Value}(I:Inv X pins σ H s)(hb:s.heap.get? b=some o)(hd:o.data = .fields ws):b≠X.env.locals/\b∉X.fs/\∀ v,o.data≠.cell v:=by
 refine⟨fun z=>?_,fun z=>?_,fun v z=>?_⟩
 ·obtain⟨m,⟨o',es,ep,ho',hd',_⟩,_⟩:=I.loc
  rw[z,ho']at hb
  cases hb
  rw[hd']at hd
  cases hd
 ·obtain⟨_,o',ho',hn⟩:=I.funs.mem z
  rw[hb]at ho'
  cases ho'
  exact hn ws hd
 ·rw[hd]at z
  cases z
theorem ps_try{C Pa fI:Addr}{body:List Stmt}{xn hn:Str}{np hpos pos:Pos}{b0:Stmt}{suite:List Stmt}{i:Nat}{W:Int->Hp->Prop}{tb:TS}{ts:Addr->Addr->TS}
  (B:BadK X.K C Pa fI) (hx:exmOne X.K (.ref C) (.ref Pa)=some true) (hstk:X.stack=X.env :: X.outer) (hfr:X.env.frame=some X.env.locals) (nd:X.N.Nodup) (hi:X.N[i]?=some hn) (hl:X.env.scope.names.lookup hn=some .local)
  (hg:Gl X xn) (hm:X.mg xn=some (.ref Pa)) (hb:∀ pl,PSs (X.tried pl C W) body tb)
  (hs:∀ (e dx:Addr) (oe:Obj) (vs:Array Value),oe.cls = .ref C->oe.dict=some dx->oe.data = .fields vs->PSs (X.held e oe) (b0 :: suite) (ts e dx)) (hdb:(xn ==("__debug__":Str))=false:=by decide) :
  PS X (.Try body [.ExceptHandler (some (.Name xn np)) (some hn) (b0 :: suite) hpos] [] [] pos) (tTry X.N.length i W tb ts):=by
 intro pins s σ H D I h
 obtain⟨h1,h2⟩:=h
 refine wpAny_Try_except ?_
 have J:Inv (X.tried (X.pn++pins) C W) [] σ H s:=Inv.wish I.pinA _
 have un:∀ {σ':St}{H':Hp}{s':Shared},Inv (X.tried (X.pn++pins) C W) [] σ' H' s'->Inv X pins σ' H' s':=fun z=>Inv.unpinA I.ok (Inv.unwish z)
 refine wpAny_mono (hb (X.pn++pins) [] s σ H D J h1) (fun f s1 q=>?_) (fun ev s1 q=>?_)
 ·cases f with
  |next=>obtain⟨σ',H',I',q⟩:=q;exact wpAny_execs_nil ⟨σ',H',un I',q⟩
  |brk=>obtain⟨σ',H',I',q⟩:=q;exact⟨σ',H',un I',q⟩
  |cont=>obtain⟨σ',H',I',q⟩:=q;exact⟨σ',H',un I',q⟩
  |ret u=>obtain⟨v,σ',H',I',r,q⟩:=q;exact⟨v,σ',H',un I',r,q⟩
 ·obtain⟨e,dx,k,σ1,H1,rfl,I1,fl,hd,w⟩:=q
  obtain⟨oe,vs,x,a1,a2,a3,a4,a5,a6,a7⟩:=fl.obj
  have I2:Inv X pins σ1 H1 s1:=Inv.unpinA I.ok I1
  have hstk2:s1.heap.FunFrames X.base (X.env :: X.outer):=hstk▸I2.stack
  refine pass_fly (s:=s1) (by rw[I.ok.frames,hstk]) hstk2 hfr a1 a4 a5 a6 fun h' T N=>?_
  have hsz:1<vs.size:=(zAI.mp a5).1
  have I3:Inv X pins σ1 H1 { s1 with heap:=h' }:=I2.noted (C:=C) (dx:=dx) (hstk▸N) a1 a4 a6 fl.big fl.un fl.apart a7
  obtain⟨oT,tt,aT,dT,t3⟩:=N.ent
  have at1:=N.exc
  have c1:(oe.mapFields (·.setIfInBounds 1 (Value.ref T))).cls = .ref C:=(Obj.cls_mapFields _ _).trans a2
  have d1:(oe.mapFields (·.setIfInBounds 1 (Value.ref T))).dict=some dx:=(dict_mapFields _ _).trans a3
  have f1:(oe.mapFields (·.setIfInBounds 1 (Value.ref T))).data = .fields (vs.setIfInBounds 1 (.ref T)):=Obj.data_mapFields a4 _
  generalize (oe.mapFields (·.setIfInBounds 1 (Value.ref T)))=o1 at at1 c1 d1 f1
  obtain⟨n1,n2,n3⟩:=I3.not_rec at1 f1
  have I4:Inv (X.held e o1) pins σ1 H1 { s1 with heap:=h' }:=I3.held ⟨at1,fl.un,n1,n2,n3⟩
  refine wpAny_handleBy_cons (codeAny_handlers_test ?_) (by intro z;cases z)
  refine ld_glob (X:=X.held e o1) I4 hg hm ?_ hdb
  have LT:Looks (model X.prog X.w) h' (typeOf (.ref e)) (.ref C):=c1 ▸(Looks.ld at1).andThen .now
  refine(exm_one I4.kIn LT hx).here ?_
  refine codeAny_handlers_suite_as ?_
  have uT:H1 T=none:=I2.hok.fresh N.big
  have pT:∀ p∈(X.held e o1).pn++pins,p.1≠T:=fun p hp z=>by
   rcases zW.mp (show p∈(e,o1) :: (X.pn++pins)from hp)with r | r
   ·rw[r]at z
    have z:e=T:=z
    rw[<- z]at N
    rw[N.new]at a1
    cases a1
   ·have q:=(I2.pin p r).1
    rw[z,N.new]at q
    cases q
  refine land_fly (s:={ s1 with heap:=h' }) at1 f1 (by simp[hsz]) aT dT t3 fun h3 oth sz ent=>?_
  obtain⟨oT2,tt2,aT2,_⟩:=ent
  have I5:Inv (X.held e o1) pins σ1 H1 { s1 with heap:=h3 }:=Inv.landed (s:={ s1 with heap:=h' }) I4 aT dT oth ⟨_,aT2⟩ (zC I2.sz N.big) uT pT
  refine store_ok (X:=X.held e o1) I5 nd hi (.inl hl) (v:=.ref e) rfl (fun s5 I6=>?_) (.inr hl)
  refine wpAny_mono (hs e dx o1 _ c1 d1 f1 pins s5 _ H1 _ I6 (h2 e dx k σ1 H1 I2.len hd w)) (fun f s6 q6=>?_) (fun _ _ z=>z.elim)
  have fin:∃ σ6 H6,Inv (X.held e o1) pins σ6 H6 s6/\∀ s7,Inv X pins (σ6.set i none) H6 s7->SP X pins D f s7:=by
   cases f with
   |next=>obtain⟨σ',H',I',q⟩:=q6;exact⟨σ',H',I',fun s7 z=>⟨_,_,z,q⟩⟩
   |brk=>obtain⟨σ',H',I',q⟩:=q6;exact⟨σ',H',I',fun s7 z=>⟨_,_,z,q⟩⟩
   |cont=>obtain⟨σ',H',I',q⟩:=q6;exact⟨σ',H',I',fun s7 z=>⟨_,_,z,q⟩⟩
   |ret u=>obtain⟨v,σ',H',I',r,q⟩:=q6;exact⟨σ',H',I',fun s7 z=>⟨v,_,_,z,r,q⟩⟩
  obtain⟨σ6,H6,I7,fin⟩:=fin
  have I8:Inv X pins σ6 H6 s6:=I7.unheld I.ok
  obtain⟨m,hn0,hl0⟩:=I8.loc
  refine wpAny_nameGoes_keeps hl hn0 (by rw[I.ok.kind];rfl) fun h7 v hn7 hs7=>?_
  exact fin _ (I8.gone hn0 hl0 hi nd hn7 hs7)
end
open PySem PySem.Spec PySem.W PyProof.Rows
section
variable{X:Cx}{C Pa fI e dx:Addr}{oe:Obj}{vs:Array Value}
theorem held_inst{pins:List (Addr×Obj)}{σ:St}{H:Hp}{s:Shared}{k:Int}(I:Inv (X.held e oe) pins σ H s)(hc:oe.cls = .ref C)(hd:oe.dict=some dx)(hf:oe.data = .fields vs)(hr:H dx=some (rowD k)) :
  ∃ od u,W.InstAt s.heap e oe C (some od)/\lookIn "row" od=some (some u)/\RelV (.int k) u:=by
 have he:=(I.pin (e,oe) (zAZ _ zX)).1
 obtain⟨mA,n,r⟩:=(show ObjOk X.prog X.w H s.heap dx (rowD k)from I.hok dx _ hr)
 obtain⟨od,ho,hl⟩:=lookIn_ns n
 have q:=r "row"
 have e2:List.lookup ("row":Str) [(("row":Str),V.int k)]=some (.int k):=by simp[List.lookup]
 rw[e2]at q
 obtain⟨u,hu,ru⟩:=RelO.some_of q
 exact⟨od,u,inst_some he hc hd hf ho,by rw[hl,hu],ru⟩
theorem call_isBad(B:BadK X.K C Pa fI)(hc:oe.cls = .ref C)(hd:oe.dict=some dx)(hf:oe.data = .fields vs) :
  CallR (X.held e oe) (.builtin "isinstance") (fun xs H Q=>∃ c b k,xs=[.ref e,c]/\H dx=some (rowD k)/\(∀ u,RelV c u->kitOne X.K (.ref C) u=some b)/\Q (.bl b) H):=by
 intro pins s σ H xs us Q I r h
 obtain⟨c,b,k,rfl,hr,hk,q⟩:=h
 obtain⟨u,u',rfl,rx,rc⟩:=vals2 r
 obtain rfl:u=Value.ref e:=rx
 obtain⟨od,_,J,_⟩:=held_inst I hc hd hf hr
 exact PySem.W.kia_one (kitx_bad B) I.kIn J (hk u' rc) (fun z=>nomatch z) fun tk=>⟨.bl b,H,I.tok _,rfl,q⟩
theorem call_isBad3{c1 c2 c3:Addr}{b:Bool}(B:BadK X.K C Pa fI)(hc:oe.cls = .ref C)(hd:oe.dict=some dx)(hf:oe.data = .fields vs)(hk:kitAny X.K (.ref C) [.ref c1,.ref c2,.ref c3]=some b) :
  CallR (X.held e oe) (.builtin "isinstance") (fun xs H Q=>∃ tp k,xs=[.ref e,.ref tp]/\H tp=some (.tup [.ref c1,.ref c2,.ref c3])/\H dx=some (rowD k)/\Q (.bl b) H):=by
 intro pins s σ H xs us Q I r h
 obtain⟨tp,k,rfl,ht,hr,q⟩:=h
 obtain⟨u,u',rfl,rx,rc⟩:=vals2 r
 obtain rfl:u=Value.ref e:=rx
 obtain rfl:u'=Value.ref tp:=rc
 obtain⟨od,_,J,_⟩:=held_inst I hc hd hf hr
 obtain⟨_,its,rv,o,ho,ocl,n,od'⟩:=(show ObjOk X.prog X.w H s.heap tp (.tup [.ref c1,.ref c2,.ref c3])from I.hok tp _ ht)
 obtain⟨w1,w2,w3,rfl,r1,r2,r3⟩:∃ w1 w2 w3,its=[w1,w2,w3]/\RelV (.ref c1) w1/\RelV (.ref c2) w2/\RelV (.ref c3) w3:=by
  cases rv with
  |cons r1 t1=>cases t1 with
   |cons r2 t2=>cases t2 with
    |cons r3 t3=>cases t3 with
     |nil=>exact⟨_,_,_,rfl,r1,r2,r3⟩
 obtain rfl:w1=Value.ref c1:=r1
 obtain rfl:w2=Value.ref c2:=r2
 obtain rfl:w3=Value.ref c3:=r3
 obtain⟨oc,odi,oda,osl⟩:=o
 dsimp only at ocl od'
 subst ocl od'
 exact PySem.W.kia_tup (kitx_bad B) I.kIn J ho hk (fun z=>nomatch z) fun tk=>⟨.bl b,H,I.tok _,rfl,q⟩
noncomputable def tRow(e dx:Addr)(ta:TE):TE:=fun σ H Q=>ta σ H fun x H1=>x = .ref e/\∃ k,H1 dx=some (rowD k)/\Q (.int k) H1
theorem pe_row{o:Expr}{apos:Pos}{ta:TE}(B:BadK X.K C Pa fI)(hc:oe.cls = .ref C)(hd:oe.dict=some dx)(hf:oe.data = .fields vs)(ho:PE (X.held e oe) o ta)(hb:attributeBase o "row" (X.held e oe).env (eval o (X.held e oe).env)=eval o (X.held e oe).env) :
  PE (X.held e oe) (.Attribute o "row" apos) (tRow e dx ta):=by
 intro pins s σ H Q I h
 refine attr_of hb (thn (ho pins s σ H _ I h) fun u s1 z=>?_)
 obtain⟨x,H1,I1,rx,rfl,k,hk,q⟩:=z
 obtain rfl:u=Value.ref e:=rx
 obtain⟨od,v,J,hl,rv⟩:=held_inst I1 hc hd hf hk
 exact get_row B I1.kIn J hl (handed_of rv) ⟨.int k,H1,I1.tok _,rv,q⟩
end
open PySem PySem.Spec PySem.W PyProof.Rows
section
variable{P:Program}{w:World}{K:PySem.W.Frag}{mg:Str->Option Value}{base:Heap}{CX:CXT}
theorem Fun.okX{x qual:Str}{st:Stmt}{f:Addr}{fd:FuncData}{N ps:List Str}{k:Nat}{sp:Sp}(F:Fun K x qual st f fd)(S:FnScope N ps (defScope st))(len:∀ vs H Q E,sp vs H Q E->vs.length=ps.length)
  (hbody:∀ (cdv:Value) (A:Around) (outer:List Env) (s:Shared) (H:Hp) (vs:List V) (Q:VK) (E:XK),Room k (A.deeper (envOfC qual (defScope st) s.heap.objs.size f cdv))->sp vs H Q E ->
   ∃ t,PSs (cxOf CX P w K mg base N qual (defScope st) f cdv A outer s H E) (defBody st) t/\t { nx:=fun _ H'=>Q .non H',rt:=Q } (start N vs) H):FnOk P w K mg base CX (k+1) f fd ps sp:=by
 obtain⟨oc,od,kV,doc,pm,an,cdv,ct,osl,rfl,lk,hcd⟩:=F.ex
 exact fn_of lk hcd S len fun A outer s H vs Q E hr hsp=>hbody cdv A outer s H vs Q E hr hsp
end
structure CalX(P:Program)(w:World)(K:PySem.W.Frag)(mg:Str->Option Value)(base:Heap)(CX:CXT)(k:Nat)(x:Str)(ps:List Str)(sp:Sp)(g:Addr)(gd:FuncData):Prop where
 ok:FnOk P w K mg base CX k g gd ps sp
 mg:mg x=some (.ref g)
 kp:PySem.W.keepIn K (.ref g)=true
 bd:Binds K gd ps []
end L2
namespace K75
open PySem L2 PyProof.Rows
theorem star_bop{op:BoolOp}{es:List Expr}{pos:Pos}{rest:List Expr}{env:Env}:starEach (.BoolOp op es pos :: rest) env=(false,eval (.BoolOp op es pos) env) :: starEach rest env:=rfl
theorem pa_bop{X:Cx}{op:BoolOp}{xs es:List Expr}{pos:Pos}{te:TE}{t:TA}(ha:PE X (.BoolOp op xs pos) te)(hr:PA X es t):PA X (.BoolOp op xs pos :: es) (tCons te t):=pa_cons ha hr (hs:=star_bop)
theorem nil_of{k:List V->Hp->Prop}{σ:L2.St}{H:Hp}(h:k [] H):tNil σ H k:=h
theorem same_put{H G:Hp}{p:Addr}{o:HO}(s:Same H G)(h:H p=none):Same H (upd G p o):=fun b u e=>by
 rw[upd_ne (ne_of_none e h)]
 exact s b u e
theorem ng_of{u r:Str}{H:Hp}{Q:VK}{E:XK}(h:RowB 120 r)(qn:(∀ ns,rowN r≠some (u,ns))->∀ H',Same H H'->Q .non H')
  (qy:∀ ns,rowN r=some (u,ns)->ns.length<=120->∀ (l:Addr) (H':Hp),H l=none->Same H H'->H' l=some (.lst (ns.map V.int))->Q (.ref l) H'):spNg [.str u,.str r] H Q E:=by
 obtain⟨v,ms,e,l,hm⟩:=h.word
 have hl:=h.len
 refine⟨u,r,v,ms,rfl,(by rw[sizeLine_eq];exact zbr hl),e,by exact zl1 l rfl,fun m z=>⟨fun c hc=>((hm m (zP _ z)).1 c hc).1,by have:=(hm m (zP _ z)).2;exact zl1 this rfl⟩,fun z=>qn fun ns y=>?_,fun z1 z2 lA H'=>qy (ms.map vW) ?_ (by rw[zB];exact l) lA H'⟩
 ·unfold rowN at y
  rw[e]at y
  dsimp only at y
  split at y
  ·rename_i q
   cases y
   rcases z with z | z
   ·exact z rfl
   ·rw[q]at z;cases z
  ·cases y
 ·unfold rowN
  rw[e]
  dsimp only
  rw[if_pos z2,z1]
noncomputable def WebI(H:Hp)(t:Addr)(n:Int)(ties:List Tie):Prop:=∃ (ts:Addr) (as:List Addr),H t=some (.tup [.int n,.ref ts])/\H ts=some (.tup (as.map V.ref))/\Paired (fun a x=>H a=some (.tup (tieV x))) as ties
noncomputable def RowsOk(rows:List Str):Prop:=rows≠[]/\rows.length<=1000/\∀ r∈rows,RowB 120 r
inductive spWaI(vs:List V)(H:Hp)(Q:VK)(E:XK):Prop where
 |mk (p:Addr) (rows:List Str) (h1:vs=[.ref p]) (h2:H p=some (.lst (rows.map V.str))) (h3:RowsOk rows) (h4:(∀ k,ahead rows = .bad k->∀ H',Same H H'->E (.int (k:Int) 0) none H')) (h5:∀ n ties ps u,ahead rows = .pair n ties ps u->∀ (r t l:Addr) (H':Hp),H' r=some (.tup [.ref t,.ref l,.int (u:Int)])->WebI H' t n ties->H l=none->H' l=some (.lst (ps.map V.int))->ps.length<=120->Same H H'->Q (.ref r) H')
noncomputable def spWa:Sp:=fun vs H Q E=>spWaI vs H Q E
structure Bads(K:PySem.W.Frag)(mg:Str->Option Value)(C Pa fI:Addr)(fd:FuncData):Prop where
 B:BadK K C Pa fI
 F:Fun K "__init__" "BadRow.__init__" (inClass sBadrow 0) fI fd
 bd:Binds K fd nIni []
 hm:mg "BadRow" = some (.ref C)
theorem scIni:FnScope nIni nIni (defScope (inClass sBadrow 0)):=⟨rfl,rfl,rfl,by decide +kernel,rfl,by decide +kernel,by decide +kernel⟩
theorem iniBody:∃ p1 p2 p3 p4,defBody (inClass sBadrow 0)=[.Assign [.Attribute (.Name "self" p1) "row" p2] (.Name "row" p3) p4]:=⟨_,_,_,_,rfl⟩
theorem rs_bad{X:Cx}{C Pa fI:Addr}{fd:FuncData}{arg:Expr}{ta:TA}{R:Int->Hp->Prop}{np cpos pos:Pos}(G:Bads X.K X.mg C Pa fI fd)(hg:Gl X "BadRow")(hr:Room 2 X.A)(t:ToX X C R)(ha:PA X [arg] ta)
  (hse:starEach [arg] X.env=(false,eval arg X.env) :: starEach [] X.env:=by rfl):PS X (.Raise (some (.Call (.Name "BadRow" np) [arg] [] cpos)) none pos) (tRaise ta R):=by
 obtain⟨p1,p2,p3,p4,hb⟩:=iniBody
 exact ps_raise G.F scIni hb G.bd (fun _=>rfl) G.B hg G.hm hr ha t hse
open PySem L2 PyProof.Rows
noncomputable def rStrI:List V->Hp->VK->Prop:=fun xs H Q=>∃ i,xs=[.int i]/\i.natAbs.log2<1920/\Q (.str (num i)) H
theorem call_strI{X:Cx}:CallR X (.type "str") rStrI:=call_str_int
theorem mt_joinK{X:Cx}(K:PySem.W.Frag)(e:X.K=K):MtM X "str.join" (rJoin K):=e▸mt_join
noncomputable def rowI(w:String)(ns:List Int):Str:=(sg 32).join (Str.ofString w :: ns.map num)
noncomputable def rowsI(n:Nat)(ties:List Tie)(ps:List Int):List Str:=rowI "web" [(n:Int)] :: (ties.map fun x=>rowI "tie" [x.1,x.2.1,x.2.2])++[rowI "posts" ps]
noncomputable def txtI(n:Nat)(ties:List Tie)(ps:List Int):Str:=(sg 10).join (rowsI n ties ps)
theorem str_app(a b:Str):(a++b).cps.toList=a.cps.toList++b.cps.toList:=by
 show(a.cps++b.cps).toList=_
 exact zBD
theorem join_cons2(a b:Str)(r:List Str):((sg 32).join (a :: b :: r)).cps.toList=a.cps.toList++32 :: ((sg 32).join (b :: r)).cps.toList:=by
 rw[join_two]
 show(a.cps++(#[32]:Array Nat)++_).toList=_
 rw[zBD,zBD]
 simp
theorem word_join{w v:String}(hv:(Str.ofString v).cps.toList=(Str.ofString w).cps.toList++[32]){b:Str}{r:List Str}:Str.ofString v++(sg 32).join (b :: r)=(sg 32).join (Str.ofString w :: b :: r):=by
 refine str_ext ?_
 rw[str_app,join_cons2,hv]
 simp
theorem take_snoc{α β:Type}(f:α->β)(l:List α){i:Nat}(h:i<l.length):(l.take i).map f++[f l[i]]=(l.take (i+1)).map f:=by
 rw[List.take_succ,zF h,zAQ]
 rfl
theorem sg_nl:Str.ofString "\n" = sg 10:=by decide +kernel
theorem sg_bl:Str.ofString " " = sg 32:=by decide +kernel
theorem num_le{i:Int}(h0:0<=i)(h1:i<10 ^ 18):(num i).length<=18:=by
 obtain⟨m,rfl⟩:=zBQ h0
 exact num_len (by lia)
theorem log_le{i:Int}(h0:0<=i)(h1:i<10 ^ 18):i.natAbs.log2<1920:=by
 have h:i.natAbs<2 ^ 64:=by
  have:(10:Int) ^ 18<2 ^ 64:=by decide
  lia
 by_cases z:i.natAbs=0
 ·rw[z];decide
 ·exact Nat.lt_trans ((Nat.log2_lt z).mpr h) (by decide)
theorem rowI_eq{w:String}{ns:List Int}(h:∀ x∈ns,0<=x):rowI w ns=rowOf (Str.ofString w) (ns.map Int.toNat):=by
 unfold rowI rowOf
 rw[zCO]
 congr 2
 exact List.map_congr_left fun x hx=>by
  show num x=num ((x.toNat:Nat):Int)
  rw[Int.toNat_of_nonneg (h x hx)]
theorem rowI_len{w:String}{ns:List Int}(hw:(Str.ofString w).length<=100)(hl:ns.length<=1000)(h:∀ x∈ns,0<=x/\x<10 ^ 18):(rowI w ns).length<=20000:=by
 rw[rowI_eq fun x hx=>(h x hx).1]
 refine row_len hw (by rw[zB];exact hl) fun m hm=>?_
 obtain⟨x,hx,rfl⟩:=zAP.mp hm
 have:=h x hx
 lia
structure TOk(n:Nat)(ties:List Tie)(ps:List Int):Prop where
 n1:1<=n
 n2:n<=1000
 ok:∀ x∈ties,TieOk n x
 tl:ties.length<=120
 pl:ps.length<=100
 p1:1<=ps.length
 pr:∀ x∈ps,0<=x/\x<n
theorem TOk.tie{n:Nat}{ties:List Tie}{ps:List Int}(o:TOk n ties ps){x:Tie}(hx:x∈ties):∀ y∈[x.1,x.2.1,x.2.2],0<=y/\y<10 ^ 18:=fun y hy=>by
 obtain⟨h1,h2,h3,h4,h5⟩:=o.ok x hx
 have:=o.n2
 simp only[zW,zAT,or_false]at hy
 rcases hy with rfl | rfl | rfl <;> lia
theorem TOk.post{n:Nat}{ties:List Tie}{ps:List Int}(o:TOk n ties ps){x:Int}(hx:x∈ps):0<=x/\x<10 ^ 18:=by
 have:=o.pr x hx
 have:=o.n2
 lia
theorem TOk.rows{n:Nat}{ties:List Tie}{ps:List Int}(o:TOk n ties ps):∀ r∈rowsI n ties ps,r.length<=20000:=fun r hr=>by
 unfold rowsI at hr
 rcases zAB.mp hr with h | h
 ·rcases zW.mp h with h | h
  ·rw[h]
   refine rowI_len (by decide) (by show 1<=1000;decide) fun x hx=>?_
   rw[zAA.mp hx]
   have:=o.n2
   lia
  ·obtain⟨x,hx,rfl⟩:=zAP.mp h
   exact rowI_len (by decide) (by show 3<=1000;decide) (o.tie hx)
 ·rw[zAA.mp h]
  exact rowI_len (by decide) (by have:=o.pl;exact zl1 this rfl) fun x hx=>o.post hx
theorem rowsI_length(n:Nat)(ties:List Tie)(ps:List Int):(rowsI n ties ps).length=ties.length+2:=by
 unfold rowsI
 rw[zY,zV,zB]
 rfl
theorem TOk.fits{n:Nat}{ties:List Tie}{ps:List Int}(o:TOk n ties ps):((rowsI n ties ps).map fun p=>p.length).sum+(rowsI n ties ps).length * (sg 10).length<=16777216:=by
 have h:=sum_le (l:=(rowsI n ties ps).map fun p=>p.length) (B:=20000) fun x hx=>by
  obtain⟨r,hr,rfl⟩:=zAP.mp hx
  exact o.rows r hr
 rw[zB,rowsI_length]at h
 rw[rowsI_length]
 have:=o.tl
 show _+_ * 1<=_
 exact zjj h this
inductive spLtI(K:PySem.W.Frag)(vs:List V)(H:Hp)(Q:VK):Prop where
 |mk (t l:Addr) (n:Nat) (ties:List Tie) (ps:List Int) (h1:vs=[.ref t,.ref l]) (h2:WebAt H t n ties) (h3:SqL K H l (ps.map V.int)) (h4:TOk n ties ps) (h5:∀ H',Same H H'->Q (.str (txtI n ties ps)) H')
noncomputable def spLt(K:PySem.W.Frag):Sp:=fun vs H Q _=>spLtI K vs H Q
open PySem L2 PyProof.Rows
theorem web_row2(i:Int):Str.ofString "web "++num i=rowI "web" [i]:=word_join (w:="web") (v:="web ") (b:=num i) (r:=[]) (by decide +kernel)
theorem tie_row2(a b c:Int):Str.ofString "tie "++(sg 32).join ([a,b,c].map num)=rowI "tie" [a,b,c]:=word_join (w:="tie") (v:="tie ") (by decide +kernel)
section
variable{P:Program}{w:World}{K:PySem.W.Frag}{mg:Str->Option Value}{base:Heap}
noncomputable abbrev nLt:List Str:=["_law_web_here","_law_posts_here","_law_rows"]
theorem scLt:FnScope nLt ["_law_web_here","_law_posts_here"] (defScope sText):=⟨rfl,rfl,rfl,by decide +kernel,rfl,by decide +kernel,by decide +kernel⟩
theorem csLt1:CompScope ["_law_tie"] [none] nLt (defScope sText) (scO [(".0",.local),("_law_tie",.local)]):=⟨rfl,by decide +kernel,by decide +kernel,by decide +kernel,rfl,capB_ok (by decide +kernel)⟩
theorem ndLt1:(["_law_tie"]:List Str).Nodup:=by decide +kernel
theorem csLt2:CompScope ["_law_part"] [none] ["_law_tie"] (scO [(".0",.local),("_law_tie",.local)]) (scO [(".0",.local),("_law_part",.local),("str",.globalImplicit)]):=⟨rfl,by decide +kernel,by decide +kernel,by decide +kernel,rfl,capB_ok (by decide +kernel)⟩
theorem ndLt2:(["_law_part"]:List Str).Nodup:=by decide +kernel
noncomputable abbrev teLt2(K:PySem.W.Frag):TE:=tComp [none] (iTup K (tVar 0)) (gName 0) tTru (tCB rStrI (tCons (tVar 0) tNil))
theorem csLt3:CompScope ["_law_post"] [none] nLt (defScope sText) (scO [(".0",.local),("_law_post",.local),("str",.globalImplicit)]):=⟨rfl,by decide +kernel,by decide +kernel,by decide +kernel,rfl,capB_ok (by decide +kernel)⟩
theorem ndLt3:(["_law_post"]:List Str).Nodup:=by decide +kernel
theorem ok_lt{f:Addr}{fd:FuncData}(F:Fun K "_law_text" "_law_text" sText f fd)(T:Txt mg):FnOk P w K mg base CX0 1 f fd ["_law_web_here","_law_posts_here"] (spLt K):=by
 refine F.ok scLt (fun vs H Q E h=>?_) (fun cdv A outer s H vs Q E hr h=>?_)
 ·obtain⟨t,l,n,ties,ps,rfl,_⟩:=h
  rfl
 ·obtain⟨t,l,n,ties,ps,rfl,W,gl,o,fin⟩:=h
  refine⟨_,(pss_cons (ps_set (i:=2) scLt.nd rfl (Or.inl rfl) (@pe_op _ _ _ _ _ _ _ _ op_cat (@pe_lst _ _ _ _ (@pa_bin _ _ _ _ _ _ _ _ (@pe_op _ _ _ _ _ _ _ _ op_add_str pe_str (pe_callTy call_strI (by rfl) T.str boot_str (@pa_sub _ _ _ _ _ _ _ (@pe_ix _ _ _ _ _ _ _ ix_tupH (pv 0) pe_int (fun _ _=>rfl)) pa_nil))) pa_nil)) (pe_comp rfl csLt1 (pi_tup (@pe_ix _ _ _ _ _ _ _ ix_tupH (pv 0) pe_int (fun _ _=>rfl))) (fun C s H fp=>(pg_name (i:=0) ndLt1 rfl (Or.inl rfl))) (fun C s H fp=>pf_nil) (fun C s H fp=>(@pe_op _ _ _ _ _ _ _ _ op_add_str pe_str (@pe_bmK _ K rfl _ _ _ _ _ _ _ _ _ _ _ PySem.F.plainAttrs_str PySem.F.slot_str_join PySem.F.type_str_join (mt_joinK K rfl) pe_str (@pa_comp _ _ _ _ _ _ _ _ (show PE _ _ (teLt2 K)from pe_comp rfl csLt2 (pi_tup (pv 0)) (fun C s H fp=>(pg_name (i:=0) ndLt2 rfl (Or.inl rfl))) (fun C s H fp=>pf_nil) (fun C s H fp=>(pe_callTy call_strI (by rfl) T.str boot_str (@pa_nam _ _ _ _ _ _ (pv 0) pa_nil)))) pa_nil) (by rfl) (by rfl) (by rfl) (by rfl) (by rfl)))))))
   (@pss_one _ _ _ (@ps_ret _ _ _ _ (@pe_bm _ _ _ _ _ _ _ _ _ _ _ _ PySem.F.plainAttrs_str PySem.F.slot_str_join PySem.F.type_str_join mt_join pe_str (@pa_bin _ _ _ _ _ _ _ _ (@pe_op _ _ _ _ _ _ _ _ op_cat (pv 2) (@pe_lst _ _ _ _ (@pa_call _ _ _ _ _ _ _ _ (@pe_bm _ _ _ _ _ _ _ _ _ _ _ _ PySem.F.plainAttrs_str PySem.F.slot_str_join PySem.F.type_str_join mt_join pe_str (@pa_bin _ _ _ _ _ _ _ _ (@pe_op _ _ _ _ _ _ _ _ op_cat (@pe_lst _ _ _ _ (@pa_cst _ _ _ _ _ _ _ pe_str pa_nil)) (pe_comp rfl csLt3 (pi_list (pv 1)) (fun C s H fp=>(pg_name (i:=0) ndLt3 rfl (Or.inl rfl))) (fun C s H fp=>pf_nil) (fun C s H fp=>(pe_callTy call_strI (by rfl) T.str boot_str (@pa_nam _ _ _ _ _ _ (pv 0) pa_nil))))) pa_nil) (by rfl) (by rfl) (by rfl) (by rfl) (by rfl)) pa_nil))) pa_nil) (by rfl) (by rfl) (by rfl) (by rfl) (by rfl))))),?_⟩
  obtain⟨ts,as,h1,h2,h3⟩:=W.ex
  have asl:as.length=ties.length:=Paired.length h3
  have tl:=o.tl
  have nn:(0:Int)<=n/\(n:Int)<10 ^ 18:=by have:=o.n2;lia
  have app:∀ (a b:Str),(a++b).length=a.length+b.length:=fun a b=>Array.size_append
  have l0:(rowI "web" [(n:Int)]).length<=20000:=o.rows _ (zAZ _ zX)
  refine⟨_,rfl,t,_,_,_,rfl,rfl,h1,at0,_,rfl,log_le nn.1 nn.2,_,_,rfl,rfl,?_⟩
  rw[<- app,web_row2]
  refine⟨by rw[sizeLine_eq];exact zl1 l0 rfl,(by show 1<=sizeLine;decide),fun c hc=>?_⟩
  have s1:=Same.new (o:=.lst [V.str (rowI "web" [(n:Int)])]) hc
  have gc:(upd H c (.lst [V.str (rowI "web" [(n:Int)])])) c=some (.lst [V.str (rowI "web" [(n:Int)])]):=upd_same
  generalize (upd H c (.lst [V.str (rowI "web" [(n:Int)])]))=H1 at s1 gc
  refine⟨_,rfl,t,_,_,_,rfl,rfl,s1 _ _ h1,at1,ts,rfl,⟨_,SqT.of (s1 _ _ h2)⟩,?_⟩
  refine comp_tup (K:=K) (a:=ts) (xs:=as.map V.ref) (fun i ys G=>Same H1 G/\ys=((ties.take i).map fun x=>rowI "tie" [x.1,x.2.1,x.2.2]).map V.str) (by rw[zB,sizeLine_eq];exact zh9 (zl1 tl rfl) asl) ⟨Same.refl _,rfl⟩ (fun i ys G _ z=>SqT.of (z.1 _ _ (s1 _ _ h2))) ?_ ?_
  ·rintro i x ys G hx ⟨sm,rfl⟩
   obtain⟨il,e⟩:=zZ.mp hx
   rw[zB]at il
   rw[zBC]at e
   subst e
   have jl:i<ties.length:=by exact zh7 il asl
   have gx:=Paired.at h3 i il jl
   have hm:ties[i]∈ties:=zBG jl
   have tk:=o.tie hm
   have trow:(rowI "tie" [ties[i].1,ties[i].2.1,ties[i].2.2]).length<=20000:=o.rows _ (zAZ _ (zP _ (zAP.mpr ⟨_,hm,rfl⟩)))
   refine⟨trivial,tTru_if ⟨rfl,_,rfl,as[i],rfl,⟨_,SqT.of (sm _ _ (s1 _ _ gx))⟩,?_⟩⟩
   refine comp_tup (K:=K) (a:=as[i]) (xs:=tieV ties[i]) (fun j ys G2=>Same G G2/\ys=(([ties[i].1,ties[i].2.1,ties[i].2.2].take j).map num).map V.str) (by show 3<=sizeLine;decide) ⟨Same.refl _,rfl⟩ (fun j ys G2 _ z=>SqT.of (z.1 _ _ (sm _ _ (s1 _ _ gx)))) ?_ ?_
   ·rintro j x ys G2 hx ⟨sj,rfl⟩
    have hx:([ties[i].1,ties[i].2.1,ties[i].2.2].map V.int)[j]?=some x:=hx
    obtain⟨jl2,e⟩:=zZ.mp hx
    rw[zB]at jl2
    rw[zBC]at e
    subst e
    have k:=tk _ (zBG jl2)
    refine⟨trivial,tTru_if ⟨_,rfl,_,rfl,log_le k.1 k.2,sj,?_⟩⟩
    rw[zCO,zCO]
    exact take_snoc (V.str ∘ num) _ jl2
   rintro ys G2 _ ⟨sj,rfl⟩ D hD
   rw[show([ties[i].1,ties[i].2.1,ties[i].2.2].take (tieV ties[i]).length)=[ties[i].1,ties[i].2.1,ties[i].2.2]from rfl]
   have fits:(([ties[i].1,ties[i].2.1,ties[i].2.2].map num).map fun p=>p.length).sum+([ties[i].1,ties[i].2.1,ties[i].2.2].map num).length * (Str.ofString " ").length<=16777216:=by
    have h:=sum_le (l:=([ties[i].1,ties[i].2.1,ties[i].2.2].map num).map fun p=>p.length) (B:=18) fun x hx=>by
     obtain⟨y,hy,rfl⟩:=zAP.mp hx
     obtain⟨z,hz,rfl⟩:=zAP.mp hy
     have k:=tk _ hz
     exact num_le k.1 k.2
    rw[zB,zB]at h
    rw[zB,show(Str.ofString " ").length=1 by decide +kernel]
    have h3:[ties[i].1,ties[i].2.1,ties[i].2.2].length=3:=rfl
    lia
   refine⟨_,D,[ties[i].1,ties[i].2.1,ties[i].2.2].map num,rfl,rfl,SqL.of upd_same,fits,?_⟩
   have ej:Txt.join (Str.ofString " ") ([ties[i].1,ties[i].2.1,ties[i].2.2].map num)=(sg 32).join ([ties[i].1,ties[i].2.1,ties[i].2.2].map num):=by rw[sg_bl];exact StrLaws.glued_eq_join _ _
   rw[ej]
   refine⟨_,_,rfl,rfl,?_⟩
   rw[<- app,tie_row2]
   refine⟨by rw[sizeLine_eq];exact zl1 trow rfl,sm.trans (sj.trans (Same.new hD)),?_⟩
   rw[zCO,zCO]
   exact take_snoc (V.str ∘ fun x:Tie=>rowI "tie" [x.1,x.2.1,x.2.2]) ties jl
  rintro ys G _ ⟨sm,rfl⟩ d hd
  rw[show(as.map V.ref).length=ties.length by rw[zB,asl],List.take_length]
  have s2:=s1.trans (sm.trans (Same.new (o:=.lst ((ties.map fun x=>rowI "tie" [x.1,x.2.1,x.2.2]).map V.str)) hd))
  have gc2:=(sm.trans (Same.new (o:=.lst ((ties.map fun x=>rowI "tie" [x.1,x.2.1,x.2.2]).map V.str)) hd)) _ _ gc
  have gd:(upd G d (.lst ((ties.map fun x=>rowI "tie" [x.1,x.2.1,x.2.2]).map V.str))) d=some (.lst ((ties.map fun x=>rowI "tie" [x.1,x.2.1,x.2.2]).map V.str)):=upd_same
  generalize (upd G d (.lst ((ties.map fun x=>rowI "tie" [x.1,x.2.1,x.2.2]).map V.str)))=H2 at s2 gc2 gd
  refine⟨c,d,_,_,rfl,rfl,gc2,gd,(by rw[zB,zB,sizeLine_eq];show 1+_<=_;exact zgv asl tl),fun r hr'=>?_⟩
  have s3:=s2.trans (Same.new (o:=.lst ([V.str (rowI "web" [(n:Int)])]++(ties.map fun x=>rowI "tie" [x.1,x.2.1,x.2.2]).map V.str)) hr')
  have gr:(upd H2 r (.lst ([V.str (rowI "web" [(n:Int)])]++(ties.map fun x=>rowI "tie" [x.1,x.2.1,x.2.2]).map V.str))) r=some (.lst ((rowI "web" [(n:Int)] :: ties.map fun x=>rowI "tie" [x.1,x.2.1,x.2.2]).map V.str)):=upd_same
  generalize (upd H2 r (.lst ([V.str (rowI "web" [(n:Int)])]++(ties.map fun x=>rowI "tie" [x.1,x.2.1,x.2.2]).map V.str)))=H3 at s3 gr
  refine⟨rfl,_,rfl,rfl,(by show 1<=sizeLine;decide),fun q hq=>?_⟩
  have sq:=Same.new (o:=.lst [V.str (Str.ofString "posts")]) hq
  have gq:(upd H3 q (.lst [V.str (Str.ofString "posts")])) q=some (.lst [V.str (Str.ofString "posts")]):=upd_same
  have gr0:=sq _ _ gr
  have s3q:=s3.trans sq
  generalize (upd H3 q (.lst [V.str (Str.ofString "posts")]))=H3q at sq gq gr0 s3q
  have pl:=o.pl
  refine⟨_,rfl,l,rfl,⟨_,s3q.seq gl⟩,?_⟩
  refine comp_list (K:=K) (a:=l) (xs:=ps.map V.int) (fun i ys G=>Same H3q G/\ys=((ps.take i).map num).map V.str) (by rw[zB,sizeLine_eq];exact zl1 pl rfl) ⟨Same.refl _,rfl⟩ (fun i ys G _ z=>z.1.seq (s3q.seq gl)) ?_ ?_
  ·rintro i x ys G hx ⟨sm,rfl⟩
   obtain⟨il,e⟩:=zZ.mp hx
   rw[zB]at il
   rw[zBC]at e
   subst e
   have k:=o.post (zBG il)
   refine⟨trivial,tTru_if ⟨_,rfl,_,rfl,log_le k.1 k.2,sm,?_⟩⟩
   rw[zCO,zCO]
   exact take_snoc (V.str ∘ num) ps il
  rintro ys G _ ⟨sm,rfl⟩ D hD
  rw[zB,List.take_length]
  have sD:=Same.new (o:=.lst ((ps.map num).map V.str)) hD
  have gr2:=(sm.trans sD) _ _ gr0
  have gq2:=(sm.trans sD) _ _ gq
  have gD:(upd G D (.lst ((ps.map num).map V.str))) D=some (.lst ((ps.map num).map V.str)):=upd_same
  have s4:=s3q.trans (sm.trans sD)
  generalize (upd G D (.lst ((ps.map num).map V.str)))=H4 at s4 gr2 gq2 gD
  refine⟨q,D,_,_,rfl,rfl,gq2,gD,(by rw[zB,zB,sizeLine_eq];show 1+_<=_;exact zgb pl),fun u hu=>?_⟩
  have ep:[V.str (Str.ofString "posts")]++(ps.map num).map V.str=(Str.ofString "posts" :: ps.map num).map V.str:=rfl
  rw[ep]
  have su:=Same.new (o:=.lst ((Str.ofString "posts" :: ps.map num).map V.str)) hu
  have gr3:=su _ _ gr2
  have s5:=s4.trans su
  have fits:((Str.ofString "posts" :: ps.map num).map fun p=>p.length).sum+(Str.ofString "posts" :: ps.map num).length * (Str.ofString " ").length<=16777216:=by
   have h:=sum_le (l:=(ps.map num).map fun p=>p.length) (B:=18) fun x hx=>by
    obtain⟨y,hy,rfl⟩:=zAP.mp hx
    obtain⟨i,hi,rfl⟩:=zAP.mp hy
    have k:=o.post hi
    exact num_le k.1 k.2
   rw[zB,zB]at h
   rw[zAS,List.sum_cons,zV,zB,show(Str.ofString " ").length=1 by decide +kernel,show(Str.ofString "posts").length=5 by decide +kernel]
   lia
  refine⟨_,u,Str.ofString "posts" :: ps.map num,rfl,rfl,SqL.of upd_same,fits,?_⟩
  rw[sg_bl,show Txt.join (sg 32) (Str.ofString "posts" :: ps.map num)=rowI "posts" ps from StrLaws.glued_eq_join _ _]
  generalize (upd H4 u (.lst ((Str.ofString "posts" :: ps.map num).map V.str)))=H5 at su gr3 s5
  refine⟨(by show 1<=sizeLine;decide),fun e he=>?_⟩
  have se:=Same.new (o:=.lst [V.str (rowI "posts" ps)]) he
  have ee:((rowI "web" [(n:Int)] :: ties.map fun x=>rowI "tie" [x.1,x.2.1,x.2.2]).map V.str++[V.str (rowI "posts" ps)])=(rowsI n ties ps).map V.str:=by
   unfold rowsI
   rw[zAQ]
   rfl
  refine⟨r,e,_,_,rfl,rfl,se _ _ gr3,upd_same,(by rw[zB,zV,zB,sizeLine_eq];show _+1+1<=_;exact zeu asl tl),fun g hg=>?_⟩
  rw[ee]
  have s6:=s5.trans (se.trans (Same.new (o:=.lst ((rowsI n ties ps).map V.str)) hg))
  refine⟨_,g,rowsI n ties ps,rfl,rfl,SqL.of upd_same,(by rw[sg_nl];exact o.fits),?_⟩
  rw[sg_nl,show Txt.join (sg 10) (rowsI n ties ps)=(sg 10).join (rowsI n ties ps)from StrLaws.glued_eq_join _ _]
  exact fin _ s6
end
open PySem L2 PyProof.Rows
inductive spWPI(vs:List V)(H:Hp)(Q:VK):Prop where
 |mk (p:Addr) (N:Nat) (h1:vs=[.ref p]) (h2:BoxAt H p N) (h3:N+2000<2 ^ 40) (h4:∀ (r t l:Addr) (n:Nat) (ties:List Tie) (ps:List Int) (H':Hp),H r=none->H' r=some (.tup [.ref t,.ref l])->2<=n->n<=30->WebAt H' t n ties->(∀ x∈ties,TieOk n x)->ties.Pairwise tieLt->H' l=some (.lst (ps.map V.int))->l≠p->PostOk n ps->2<=ps.length->BoxAt H' p (N+1500)->Kept p H H'->Q (.ref r) H')
noncomputable def spWP:Sp:=fun vs H Q _=>spWPI vs H Q
section
variable{P:Program}{w:World}{K:PySem.W.Frag}{mg:Str->Option Value}{base:Heap}
noncomputable abbrev nWP:List Str:=["_law_box_here","_law_web_here"]
theorem scWP:FnScope nWP ["_law_box_here"] (defScope sWithPosts):=⟨rfl,rfl,rfl,by decide +kernel,rfl,by decide +kernel,by decide +kernel⟩
theorem ok_wp{f g1 g2 g3:Addr}{fd d1 d2 d3:FuncData}(F:Fun K "_law_with_posts" "_law_with_posts" sWithPosts f fd)(GM:CalF P w K mg base 2 "_law_many" ["_law_box_here","_law_least","_law_few","_law_most"] spMany g1 d1)(GW:CalF P w K mg base 3 "_law_web" ["_law_box_here","_law_many_here"] spWeb g2 d2)(GP:CalF P w K mg base 2 "_law_posts" ["_law_box_here","_law_many_here","_law_most"] spPo g3 d3):FnOk P w K mg base CX0 4 f fd ["_law_box_here"] spWP:=by
 refine F.ok scWP (fun vs H Q E h=>?_) (fun cdv A outer s H vs Q E hr h=>?_)
 ·obtain⟨p,N,rfl,_⟩:=h
  rfl
 ·obtain⟨p,N,rfl,B,hN,q⟩:=h
  have hr2:Room 2 _:=hr.mono (by decide)
  refine⟨_,pss_cons (ps_set (i:=1) scWP.nd rfl (Or.inl rfl) (pe_call GW.ok hr rfl GW.mg GW.kp GW.bd .nil pass0 (@pa_nam _ _ _ _ _ _ (pv 0) (@pa_call _ _ _ _ _ _ _ _ (pe_call GM.ok hr2 rfl GM.mg GM.kp GM.bd .nil pass0 (@pa_nam _ _ _ _ _ _ (pv 0) (@pa_cst _ _ _ _ _ _ _ pe_int (@pa_cst _ _ _ _ _ _ _ pe_int (@pa_cst _ _ _ _ _ _ _ pe_int pa_nil))))) pa_nil))))
   (pss_one (ps_ret (@pe_tup _ _ _ _ _ (@pa_nam _ _ _ _ _ _ (pv 1) (@pa_call _ _ _ _ _ _ _ _ (pe_call GP.ok hr2 rfl GP.mg GP.kp GP.bd .nil pass0 (@pa_nam _ _ _ _ _ _ (pv 0) (@pa_sub _ _ _ _ _ _ _ (@pe_ix _ _ _ _ _ _ _ ix_tup (pv 1) pe_int (fun _ _=>rfl)) (@pa_cst _ _ _ _ _ _ _ pe_int pa_nil)))) pa_nil))))),?_⟩
  refine⟨_,rfl,_,rfl,p,2,7,30,N,rfl,B,by lia,by decide,by decide,by decide,by decide,fun z H2 hz B2 k2=>?_⟩
  obtain⟨n,rfl⟩:∃ n:Nat,z=(n:Int):=⟨z.toNat,by exact zjg hz⟩
  refine⟨p,n,_,rfl,B2,by lia,by omega,by exact zdp hz,fun t ties H3 ht W3 ok pw B3 k3=>?_⟩
  obtain⟨⟨ts,tas,h1,h2,h3⟩,len⟩:=id W3
  refine⟨_,rfl,_,rfl,_,rfl,t,_,_,_,rfl,rfl,SqT.of h1,rfl,?_⟩
  refine⟨p,n,_,6,rfl,B3,by exact zix hN,by exact zhs hz,by exact zdp hz,by decide,by decide,fun l ps H4 hl gl lp po pl2 plm B4 k4=>?_⟩
  refine⟨(by show 2<=sizeLine;decide),fun r hr=>?_⟩
  have sr:=Same.new (o:=.tup [.ref t,.ref l]) hr
  exact q r t l n ties ps _ ((k2.trans (k3.trans k4)).free B4 hr) upd_same (by exact zhs hz) (by exact zdp hz) ((W3.kept B3 k4).same sr) ok pw (sr _ _ gl) lp po pl2 ((B4.same sr).mono (by exact zeo)) (k2.trans (k3.trans (k4.trans (fun b o _ e=>sr b o e))))
end
open PySem PySem.W L2 PyProof.Rows
noncomputable def OkC(m:Str):Prop:=∀ c∈m.cps.toList,c<128/\c≠10
noncomputable instance {m:Str}:Decidable (OkC m):=by unfold OkC;infer_instance
noncomputable def Ls(ps:List Str):Nat:=(ps.map fun p=>p.length+1).sum
theorem Ls_cons(a:Str)(r:List Str):Ls (a :: r)=(a.length+1)+Ls r:=rfl
theorem Ls_app:∀ a b:List Str,Ls (a++b)=Ls a+Ls b
 |[],b=>(zBU _).symm
 |x :: a,b=>by rw[List.cons_append,Ls_cons,Ls_cons,Ls_app a b];exact zcv
theorem Ls_len:∀ a:List Str,a.length<=Ls a
 |[]=>zH _
 |x :: a=>by rw[Ls_cons,zV];have:=Ls_len a;lia
theorem Ls_mem:∀ {a:List Str}{m:Str},m∈a->m.length+1<=Ls a
 |x :: a,m,h=>by
  rw[Ls_cons]
  rcases zW.mp h with z | z
  ·rw[z];exact zI (x.length+1) (Ls a)
  ·have:=Ls_mem z;exact zC this (zAW (Ls a) (x.length+1))
theorem Ls_rev:∀ a:List Str,Ls a.reverse=Ls a
 |[]=>rfl
 |x :: a=>by rw[List.reverse_cons,Ls_app,Ls_rev a,Ls_cons,Nat.add_comm];rfl
theorem OkC.cat{a b:Str}(h:OkC a)(k:OkC b):OkC (a++b):=fun c hc=>by
 rw[str_app]at hc
 exact(zAB.mp hc).elim (h c) (k c)
theorem join_ls(s:Str)(hs:OkC s):∀ ps:List Str,(∀ p∈ps,OkC p)->OkC (s.join ps)/\(s.join ps).length+s.length<=(ps.map fun p=>p.length).sum+(ps.length+(if ps=[]then 1 else 0)) * s.length
 |[],_=>⟨(fun _ h=>nomatch h),by show 0+s.length<=0+(0+1) * s.length;lia⟩
 |a :: r,h=>by
  have hl:=PyProof.Rows.len_join_cons s a r
  refine⟨?_,?_⟩
  ·cases r with
   |nil=>exact h a zX
   |cons b r =>
    have ih:=(join_ls s hs (b :: r) fun p hp=>h p (zP _ hp)).1
    rw[join_two]
    exact((h a zX).cat hs).cat ih
  ·rw[hl,if_neg (by simp),zV,Nat.add_zero,Nat.succ_mul]
   exact zAG (zAK _ _ _)
theorem sum_succ(k:Nat):∀ ps:List Str,(ps.map fun p=>p.length).sum+ps.length * 1=Ls ps
 |[]=>rfl
 |a :: r=>by
  rw[Ls_cons,<- sum_succ k r,zAS,List.sum_cons,zV]
  exact zcd
theorem rowb_join{B:Nat}{ps:List Str}(hc:∀ p∈ps,OkC p)(hl:Ls ps<=B+1):RowB B ((sg 32).join ps):=by
 obtain⟨h1,h2⟩:=join_ls (sg 32) (by decide +kernel) ps hc
 refine⟨h1,?_⟩
 have:=sum_succ 0 ps
 rw[show(sg 32).length=1 from rfl]at h2
 split at h2
 ·rename_i e
  subst e
  rw[show(sg 32).join []=Str.empty from rfl]
  exact zAO _
 ·lia
theorem wds_row(r:Str):(sg 32).join (wds r)=r:=str_ext (by rw[join_jn];exact wds_join r)
theorem wds_Ls(r:Str):Ls (wds r)=r.length+1:=by
 have e:=wds_row r
 cases h:wds r with
 |nil=>exact absurd h (split_ne _ _)
 |cons a ms =>
  rw[h]at e
  have hl:=PyProof.Rows.len_join_cons (sg 32) a ms
  have:=sum_succ 0 (a :: ms)
  rw[e]at hl
  rw[zV]at this
  rw[show(sg 32).length=1 from rfl]at hl
  lia
theorem RowB.wds{B:Nat}{r:Str}(h:RowB B r):∃ v ms,wds r=v :: ms/\(∀ m∈v :: ms,OkC m)/\Ls (v :: ms)<=B+1:=by
 obtain⟨v,ms,e,_,hm⟩:=h.word
 refine⟨v,ms,e,fun m z=>(hm m z).1,?_⟩
 rw[<- e,wds_Ls]
 have:=h.len
 lia
theorem RowB.rep{B:Nat}{r:Str}(h:RowB B r):RowB (2 * B+8) (Txt.replace r (Str.ofString " ") (Str.ofString "  ")):=by
 obtain⟨v,ms,e,hc,hl⟩:=h.wds
 rw[show Str.ofString " " =⟨#[32]⟩from sg_bl,PySem.StrLaws.replace_one]
 have e2:Txt.split r ⟨#[32]⟩=v :: ms:=by
  rw[<- e]
  show _=Txt.split r (Str.ofString " ")
  rw[sg_bl]
 rw[e2]
 obtain⟨h1,h2⟩:=join_ls (Str.ofString "  ") (by decide +kernel) (v :: ms) hc
 refine⟨h1,?_⟩
 have:=sum_succ 0 (v :: ms)
 rw[if_neg (by simp),show(Str.ofString "  ").length=2 from by decide +kernel]at h2
 lia
theorem upper_ok:∀ {l:List Nat},(∀ c∈l,c<128/\c≠10)->OkC (Txt.upper ⟨l.toArray⟩)/\(Txt.upper ⟨l.toArray⟩).length=l.length
 |[],_=>⟨by decide +kernel,by decide +kernel⟩
 |c :: r,h=>by
  obtain⟨h1,h2⟩:=upper_ok (l:=r) fun d hd=>h d (zP _ hd)
  have hc:=h c zX
  have e:(⟨(c :: r).toArray⟩:Str)=(⟨#[c]⟩:Str)++⟨r.toArray⟩:=str_ext (by rw[str_app];rfl)
  rw[e,PySem.W.KOpn.upper_app,PySem.W.KOpn.upper_one hc.1]
  refine⟨OkC.cat (fun d hd=>?_) h1,?_⟩
  ·rw[zAA.mp (show d∈[_]from hd)]
   split <;> omega
  ·rw[show ∀ a b:Str,(a++b).length=a.length+b.length from fun a b=>by
    show(a.cps++b.cps).size=_
    rw[Array.size_append];rfl,h2,zV,Nat.add_comm]
   rfl
theorem RowB.upper{B:Nat}{r:Str}(h:RowB B r):RowB (2 * B+8) (Txt.upper r):=by
 obtain⟨h1,h2⟩:=upper_ok (l:=r.cps.toList) h.asc
 rw[Array.toArray_toList]at h1 h2
 refine⟨h1,?_⟩
 have:=h.len
 rw[show Txt.upper r=Txt.upper ⟨r.cps⟩from rfl,h2,zO]
 show r.length<=_
 exact zha this
theorem len_cat(a b:Str):(a++b).length=a.length+b.length:=by
 show(a.cps++b.cps).size=_
 rw[Array.size_append];rfl
theorem RowB.cat{B C:Nat}{a b:Str}(h:RowB B a)(k:RowB C b):RowB (B+C) (a++b):=⟨fun c hc=>by
 rw[str_app]at hc
 exact(zAB.mp hc).elim (h.asc c) (k.asc c),by rw[len_cat];have:=h.len;have:=k.len;lia⟩
theorem take_drop_Ls{ws:List Str}{i:Nat}(h:i<ws.length):Ls (ws.take i)+(ws[i].length+1)+Ls (ws.drop (i+1))=Ls ws:=by
 conv=>rhs;rw[<- zBN i ws,zCD h,Ls_app,Ls_cons]
 exact zdq h
theorem cutV_frm(xs:List V)(j:Nat):cutV xs (some (j:Int)) none=xs.drop j:=by
 unfold cutV
 rw[HT.sIx_nat,HT.sIx_none]
 by_cases h:j<=xs.length
 ·rw[zBZ h,zBV (by rw[zAN];exact zH (xs.length-j))]
 ·rw[zCU (by exact zT (zj4 h)),List.drop_length,List.take_nil,List.drop_of_length_le (by exact zT (zj4 h))]
theorem cutV_til(xs:List V)(j:Nat):cutV xs none (some (j:Int))=xs.take j:=by
 unfold cutV
 rw[HT.sIx_nat,HT.sIx_none,List.drop_zero,Nat.sub_zero]
 by_cases h:j<=xs.length
 ·rw[zBZ h]
 ·rw[zCU (by exact zT (zj4 h)),List.take_length,zBV (by exact zT (zj4 h))]
theorem at_some{L:List Str}{z:Int}(h0:0<=z)(h1:z <(L.length:Int)):∃ y∈L,atI (L.map V.str) z=some (.str y):=by
 obtain⟨k,rfl⟩:=zBQ h0
 have hk:k<L.length:=by exact zi3 h1
 exact⟨L[k],zBG hk,atI_nat (j:=k) (by rw[zAJ,zF hk];rfl)⟩
section
variable{K:PySem.W.Frag}{G:Hp}{l l2:Addr}{ws a b:List Str}{i:Nat}{Q:VK}
theorem lst_of(h:∀ q G',Same G G'->G' q=some (.lst (ws.map V.str))->Q (.ref q) G'):∀ p,G p=none->Q (.ref p) (upd G p (.lst (ws.map V.str))):=fun p hp=>h p _ (Same.new hp) upd_same
theorem til_of(gl:G l=some (.lst (ws.map V.str)))(h:∀ q G',Same G G'->G' q=some (.lst ((ws.take i).map V.str))->Q (.ref q) G'):rSlL K (.ref l) none (some (i:Int)) G Q :=
 ⟨l,_,rfl,SqL.of gl,fun p hp=>by rw[cutV_til,<- List.map_take];exact lst_of h p hp⟩
theorem frm_of{σ:L2.St}{j:Int}(hj:j=(i:Int))(gl:G l=some (.lst (ws.map V.str)))(h:∀ q G',Same G G'->G' q=some (.lst ((ws.drop i).map V.str))->Q (.ref q) G'):tNoPart σ G (fun u G'=>rSlL K (.ref l) (some j) u G' Q) :=
 ⟨l,_,rfl,SqL.of gl,fun p hp=>by rw[hj,cutV_frm,<- List.map_drop];exact lst_of h p hp⟩
theorem cat_of(g1:G l=some (.lst (a.map V.str)))(g2:G l2=some (.lst (b.map V.str)))(hl:a.length+b.length<=10000)(h:∀ q G',Same G G'->G' q=some (.lst ((a++b).map V.str))->Q (.ref q) G'):rCat (.ref l) (.ref l2) G Q :=
 ⟨l,l2,_,_,rfl,rfl,g1,g2,by rw[zB,zB,sizeLine_eq];exact zl1 hl rfl,fun p hp=>by rw[<- zAQ];exact lst_of h p hp⟩
end
theorem Kept.ext{p:Addr}{H G G':Hp}(k:Kept p H G)(s:Same G G'):Kept p H G':=k.trans fun b o _ e=>s b o e
open PySem L2 PyProof.Rows
theorem join2{α β:Type}{A Kc:α->β->Prop}{g:Prop}(use:(∀ a b,A a b->Kc a b)->g)(k:∀ a b,A a b->Kc a b):g:=use k
theorem goA_step{m:Int}{k:Nat}{ties:List Tie}{r:Str}{rs:List Str}:goA m k ties (r :: rs)=match rowN r with
  |none=>.bad k
  |some (v,ns)=>if v=Str.ofString "posts" then(if ArePosts ns m=true then .pair m ties ns (k+1)else .bad k)
   else if v=Str.ofString "tie"/\IsTie ns m=true/\nextOk ties ns=true then goA m (k+1) (ties++[tieOf ns]) rs else .bad k:=rfl
theorem goA_cons{m:Int}{k:Nat}{ties:List Tie}{r:Str}{rs:List Str}{xs:List Int}(h:∀ ns,rowN r≠some (Str.ofString "posts",ns)\/ArePosts ns m=false)(hx:(rowN r=some (Str.ofString "tie",xs))\/(xs=[]/\∀ ns,rowN r=some (Str.ofString "tie",ns)->ns=[])) :
  goA m k ties (r :: rs)=if(IsTie xs m && nextOk ties xs)=true then goA m (k+1) (ties++[tieOf xs]) rs else .bad k:=by
 have np:Str.ofString "tie"≠Str.ofString "posts":=by decide +kernel
 rw[goA_step]
 cases e:rowN r with
 |none =>
  rcases hx with z |⟨z,_⟩
  ·rw[e]at z;cases z
  ·rw[z];rfl
 |some p =>
  obtain⟨v,ns⟩:=p
  dsimp only
  by_cases hv:v=Str.ofString "posts"
  ·rw[if_pos hv]
   have q:=(h ns).resolve_left fun z=>z (by rw[e,hv])
   rw[q,if_neg zJ]
   rcases hx with z |⟨z,_⟩
   ·rw[e]at z
    cases z
    exact absurd hv np
   ·rw[z];rfl
  ·rw[if_neg hv]
   by_cases ht:v=Str.ofString "tie"
   ·subst ht
    have q:xs=ns:=by
     rcases hx with z |⟨z,y⟩
     ·rw[e]at z;cases z;rfl
     ·rw[z,y ns e]
    subst q
    cases h1:IsTie xs m <;> cases h2:nextOk ties xs <;> simp
   ·rw[if_neg fun z=>ht z.1]
    rcases hx with z |⟨z,_⟩
    ·rw[e]at z
     cases z
     exact absurd rfl ht
    ·rw[z];rfl
theorem goA_posts{m:Int}{k:Nat}{ties:List Tie}{r:Str}{rs:List Str}{ns:List Int}(h:rowN r=some (Str.ofString "posts",ns))(hp:ArePosts ns m=true):goA m k ties (r :: rs) = .pair m ties ns (k+1):=by
 rw[goA_step,h]
 dsimp only
 rw[if_pos rfl,if_pos hp]
section
variable{P:Program}{w:World}{K:PySem.W.Frag}{mg:Str->Option Value}{base:Heap}
noncomputable abbrev nWa:List Str:=["rows","first","many","ties","at","row","posts","tie"]
theorem scWa:FnScope nWa ["rows"] (defScope sWebAhead):=⟨rfl,rfl,rfl,by decide +kernel,rfl,by decide +kernel,by decide +kernel⟩
theorem ok_wa{C Pa fI f g1 g2 g3:Addr}{fd dI d1 d2 d3:FuncData}(F:Fun K "web_ahead" "web_ahead" sWebAhead f fd)(T:Txt mg)(T2:Txt2 mg)(GB:Bads K mg C Pa fI dI)(GN:CalF P w K mg base 2 "numbers_behind" ["word","row"] spNg g1 d1)(GP:CalF P w K mg base 2 "are_posts" ["many","numbers"] spPg g2 d2)(GT:CalF P w K mg base 3 "is_tie" ["thing","many"] spTg g3 d3):FnOk P w K mg base (CXB P w C) 4 f fd ["rows"] spWa:=by
 refine F.okX scWa (fun vs H Q E h=>?_) (fun cdv A outer s H vs Q E hr h=>?_)
 ·obtain⟨p,rows,rfl,_⟩:=h
  rfl
 ·obtain⟨p,rows,rfl,gp,⟨rne,rl,rb⟩,qe,qp⟩:=h
  have hr2:Room 2 _:=hr.mono (by decide)
  have hu0:_<cLine:=hr.units0
  refine⟨_,(pss_cons (ps_set (i:=1) scWa.nd rfl (Or.inl rfl) (pe_call GN.ok hr2 rfl GN.mg GN.kp GN.bd .nil pass0 (@pa_cst _ _ _ _ _ _ _ pe_str (@pa_sub _ _ _ _ _ _ _ (@pe_ix _ _ _ _ _ _ _ ix_listH (pvQ 0) pe_int (fun _ _=>rfl)) pa_nil))))
   (pss_cons (ps_if (PW.pt (pw_or (pt_cmp (pc_isN (pvQ 1))) (pw_or (pt_cmpR op_ne (pe_callB call_lenH (by rfl) T.len PySem.boot_len (@pa_nam _ _ _ _ _ _ (pvQ 1) pa_nil)) pe_int (nomark _)) (pw_or1 (pt_cmpR op_lt (@pe_ix _ _ _ _ _ _ _ ix_listH (pvQ 1) pe_int (fun _ _=>rfl)) pe_int (nomark _)))))) (pss_one (rs_bad GB rfl hr2 to_leave (@pa_cst _ _ _ _ _ _ _ pe_int pa_nil))) pss_nil)
   (pss_cons (ps_set (i:=2) scWa.nd rfl (Or.inl rfl) (@pe_ix _ _ _ _ _ _ _ ix_listH (pvQ 1) pe_int (fun _ _=>rfl)))
   (pss_cons (ps_set (i:=3) scWa.nd rfl (Or.inl rfl) (@pe_lst _ _ _ _ pa_nil))
   (pss_cons (ps_for passes_leave rfl (pi_enum1 rfl T2.enum (@pa_sub _ _ _ _ _ _ _ (pe_slice sl_list (pvQ 0) (po_some pe_int) po_none) pa_nil)) (pg_tup (n:=2) rfl (pgs_cons (pg_name (i:=4) scWa.nd rfl (Or.inl rfl)) (pgs_cons (pg_name (i:=5) scWa.nd rfl (Or.inl rfl)) pgs_nil)))
   (pss_cons (ps_set (i:=6) scWa.nd rfl (Or.inl rfl) (pe_call GN.ok hr2 rfl GN.mg GN.kp GN.bd .nil pass0 (@pa_cst _ _ _ _ _ _ _ pe_str (@pa_nam _ _ _ _ _ _ (pv 5) pa_nil))))
   (pss_cons (ps_if (PW.pt (pw_and (pt_cmp (pc_notN (pvQ 6))) (pw_and1 (pt_val (pe_call GP.ok hr2 rfl GP.mg GP.kp GP.bd .nil pass0 (@pa_nam _ _ _ _ _ _ (pvQ 2) (@pa_nam _ _ _ _ _ _ (pvQ 6) pa_nil))))))) (pss_one (ps_ret (@pe_tup _ _ _ _ _ (@pa_tup _ _ _ _ _ _ _ (@pe_tup _ _ _ _ _ (@pa_nam _ _ _ _ _ _ (pvQ 2) (@pa_call _ _ _ _ _ _ _ _ (pe_callTy call_tupleH (by rfl) T.tuple boot_tuple (@pa_nam _ _ _ _ _ _ (pvQ 3) pa_nil)) pa_nil))) (@pa_nam _ _ _ _ _ _ (pvQ 6) (@pa_bin _ _ _ _ _ _ _ _ (pe_op op_add (pvQ 4) pe_int) pa_nil)))))) pss_nil)
   (pss_cons (ps_set (i:=7) scWa.nd rfl (Or.inl rfl) (pe_callTy call_tupleH (by rfl) T.tuple boot_tuple (@pa_bop _ _ _ _ _ _ _ (pe_orN (pe_call GN.ok hr2 rfl GN.mg GN.kp GN.bd .nil pass0 (@pa_cst _ _ _ _ _ _ _ pe_str (@pa_nam _ _ _ _ _ _ (pv 5) pa_nil))) (pe_one (@pe_lst _ _ _ _ pa_nil))) pa_nil)))
   (pss_cons (ps_if (PW.pt (pw_or (pt_not (pt_val (pe_call GT.ok hr rfl GT.mg GT.kp GT.bd .nil pass0 (@pa_nam _ _ _ _ _ _ (pvQ 7) (@pa_nam _ _ _ _ _ _ (pvQ 2) pa_nil))))) (pw_or1 (PW.pt (pw_and (pt_truth (pvQ 3) (fun _=>rfl)) (pw_and1 (pt_cmpR (op_leT hu0) (pe_slice sl_tupA (pvQ 7) po_none (po_some pe_int)) (pe_slice sl_tupA (@pe_ix _ _ _ _ _ _ _ ix_listH (pvQ 3) (pe_un un_neg pe_int) (fun _ _=>rfl)) po_none (po_some pe_int)) (nomark _)))))))) (pss_one (rs_bad GB rfl hr2 to_leave (@pa_nam _ _ _ _ _ _ (pvQ 4) pa_nil))) pss_nil)
   (pss_one (ps_expr (pe_bmH PySem.F.slot_list_append PySem.F.type_list_append mt_append (pvQ 3) (@pa_nam _ _ _ _ _ _ (pvQ 7) pa_nil)))))))))
   (pss_one (rs_bad GB rfl hr2 to_leave (@pa_call _ _ _ _ _ _ _ _ (pe_callB call_lenH (by rfl) T.len PySem.boot_len (@pa_nam _ _ _ _ _ _ (pvQ 0) pa_nil)) pa_nil)))))))),?_⟩
  obtain⟨r0,rs,rfl⟩:=List.exists_cons_of_ne_nil rne
  have b0:=rb r0 zX
  rw[zAS]at gp
  have bad:∀ {k:Nat}{G:Hp}{dx:Addr}{o:HO},ahead (r0 :: rs) = .bad k->Same H G->G dx=none->E (.int (k:Int) 0) none (upd G dx o):=fun e s hd=>qe _ e _ (s.trans (Same.new hd))
  refine⟨p,_,_,_,rfl,rfl,gp,at0,?_⟩
  refine nil_of (ng_of b0 (fun hno H1 s1=>?_) fun ns hns nl l0 H1 hl0 s1 g0=>?_)
  ·have e:ahead (r0 :: rs) = .bad 0:=by
    show(match headN r0 with | none=>Res.bad 0 | some m=>goA m 1 [] rs)=_
    have:headN r0=none:=by
     unfold headN
     split
     ·rename_i v x hv
      rw[if_neg fun z=>hno [x] (by rw[hv,z.1])]
     ·rfl
    rw[this]
   refine⟨_,rfl,iteT (iteT ?_)⟩
   exact⟨0,rfl,fun dx hd=>bad e s1 hd⟩
  refine⟨_,rfl,iteF ?_⟩
  refine⟨l0,_,rfl,g0,rfl,_,rfl,?_⟩
  refine ite2 (fun hl=>?_) (fun hl=>?_)
  ·have e:ahead (r0 :: rs) = .bad 0:=by
    show(match headN r0 with | none=>Res.bad 0 | some m=>goA m 1 [] rs)=_
    have:headN r0=none:=by
     unfold headN
     rw[hns]
     split
     ·rename_i v x hv
      cases hv
      rw[zB]at hl
      simp at hl
     ·rfl
    rw[this]
   refine iteT ?_
   exact⟨0,rfl,fun dx hd=>bad e s1 hd⟩
  have n1:ns.length=1:=by
   rw[zB]at hl
   have q:V.int (ns.length:Int)=V.int 1:=by simpa using hl
   injection q with q
   lia
  obtain⟨x,rfl⟩:∃ x,ns=[x]:=List.length_eq_one_iff.mp n1
  refine⟨l0,_,_,_,rfl,rfl,g0,at0,_,_,rfl,rfl,_,rfl,?_⟩
  refine ite2 (fun hx=>?_) (fun hx=>?_)
  ·have e:ahead (r0 :: rs) = .bad 0:=by
    show(match headN r0 with | none=>Res.bad 0 | some m=>goA m 1 [] rs)=_
    have:headN r0=none:=by
     unfold headN
     rw[hns]
     dsimp only
     rw[if_neg fun z=>by have:=of_decide_eq_true hx;lia]
    rw[this]
   exact⟨0,rfl,fun dx hd=>bad e s1 hd⟩
  have hx1:1<=x:=by
   have q:¬ x<1:=fun z=>hx (decide_eq_true z)
   lia
  have eA:ahead (r0 :: rs)=goA x 1 [] rs:=by
   show(match headN r0 with | none=>Res.bad 0 | some m=>goA m 1 [] rs)=_
   have:headN r0=some x:=by
    unfold headN
    rw[hns]
    dsimp only
    rw[if_pos ⟨rfl,hx1⟩]
   rw[this]
  refine⟨l0,_,_,_,rfl,rfl,g0,at0,?_⟩
  refine⟨(by show 0<=sizeLine;decide),fun ld hld=>?_⟩
  have hld0:H ld=none:=s1.free hld
  have s2:=s1.trans (Same.new (o:=.lst []) hld)
  have gd2:(upd H1 ld (.lst [])) ld=some (.lst (([]:List Addr).map V.ref)):=upd_same
  generalize (upd H1 ld (.lst []))=H2 at s2 gd2
  refine⟨1,rfl,p,_,rfl,SqL.of (s2 _ _ gp),fun p2 hp2=>?_⟩
  rw[cutV_tail,List.drop_one,List.tail_cons]
  have s3:=s2.trans (Same.new (o:=.lst (rs.map V.str)) hp2)
  have gr3:(upd H2 p2 (.lst (rs.map V.str))) p2=some (.lst (rs.map V.str)):=upd_same
  have gd3:=(Same.new (o:=.lst (rs.map V.str)) hp2) _ _ gd2
  have nld:p2≠ld:=fun z=>by rw[z,gd2]at hp2;cases hp2
  generalize (upd H2 p2 (.lst (rs.map V.str)))=H3 at s3 gr3 gd3
  clear gd2 s2 hp2 s1 g0 hl0 hld
  refine⟨p2,rfl,⟨_,SqL.of gr3⟩,?_⟩
  have rsl:rs.length<=999:=by rw[zV]at rl;exact zi6 (zCX rl)
  refine for_enum1 (K:=K) (l:=p2) (xs:=rs.map V.str) (fun i σ G=>Ex6 fun(v4 v5 v6 v7:Option V) (as:List Addr) (ties:List Tie)=>σ=[some (.ref p),some (.ref l0),some (.int x),some (.ref ld),v4,v5,v6,v7]/\Same H G/\G p2=some (.lst (rs.map V.str))/\G ld=some (.lst (as.map V.ref))/\Paired (fun a y=>G a=some (.tup (tieV y))) as ties/\ties.length<=i/\goA x 1 [] rs=goA x (i+1) ties (rs.drop i))
   ⟨_,_,_,_,[],[],rfl,s3,gr3,gd3,.nil,zH _,rfl⟩ (fun i σ G _ ⟨_,_,_,_,_,_,_,_,g,_⟩=>SqL.of g) ?_ ?_
  ·rintro i xv σ G U hxv ⟨v4,v5,v6,v7,as,ties,rfl,sG,gr,gd,pa,tl,eG⟩ hU
   have sU:=Same.new (o:=.tup [.int ((i+1:Nat):Int),xv]) hU
   refine⟨U,_,rfl,SqT.of upd_same,rfl,_,_,rfl,_,_,rfl,rfl,?_⟩
   have sG:=sG.trans sU
   have gr:=sU _ _ gr
   have gd:=sU _ _ gd
   have pa:Paired (fun a y=>(upd G U (.tup [.int ((i+1:Nat):Int),xv])) a=some (HO.tup (tieV y))) as ties:=Paired.mapP pa fun _ _ h=>sU _ _ h
   generalize (upd G U (.tup [.int ((i+1:Nat):Int),xv]))=G at sG gr gd pa
   clear sU hU
   obtain⟨jl,ex⟩:=zZ.mp hxv
   rw[zB]at jl
   rw[zBC]at ex
   subst ex
   have hr0:RowB 120 rs[i]:=rb _ (zP _ (zBG jl))
   have ed:rs.drop i=rs[i] :: rs.drop (i+1):=zCD jl
   rw[ed]at eG
   generalize rs[i]=r at hr0 eG
   refine' join2 (A:=fun(v6:V) (G2:Hp)=>Same G G2/\∀ ns,rowN r≠some (Str.ofString "posts",ns)\/ArePosts ns x=false) (Kc:=?Kc) ?use ?k
   case use =>
    intro key
    refine⟨_,rfl,nil_of (ng_of hr0 ?a ?b)⟩
    case b =>
     intro ns hns2 nl2 l1 G1 hl1 t1 gl1
     refine⟨_,rfl,iteT ?_⟩
     refine⟨l1,ns,x,rfl,gl1,by exact zl1 nl2 rfl,fun G2 t2=>⟨_,rfl,?_⟩⟩
     cases hp:ArePosts ns x with
     |false =>
      refine iteF ?_
      generalize V.ref l1=v6
      exact key v6 G2 ⟨t1.trans t2,fun ns'=>by
       by_cases z:ns'=ns
       ·exact .inr (z▸hp)
       ·refine .inl fun y=>z ?_
        rw[hns2]at y
        cases y
        rfl⟩
     |true =>
      refine iteT ?_
      have e:ahead (r0 :: rs) = .pair x ties ns (i+2):=(eA.trans eG).trans (goA_posts hns2 hp)
      have s45:=t1.trans t2
      refine⟨ld,_,rfl,s45 _ _ gd,fun tt htt=>?_⟩
      have st:=Same.new (o:=.tup (as.map V.ref)) htt
      have gtt:(upd G2 tt (.tup (as.map V.ref))) tt=some (.tup (as.map V.ref)):=upd_same
      generalize (upd G2 tt (.tup (as.map V.ref)))=H6 at st gtt
      refine⟨(by show 2<=sizeLine;decide),fun tw htw=>?_⟩
      have sw:=Same.new (o:=.tup [.int x,.ref tt]) htw
      have gtw:(upd H6 tw (.tup [.int x,.ref tt])) tw=some (.tup [.int x,.ref tt]):=upd_same
      generalize (upd H6 tw (.tup [.int x,.ref tt]))=H7 at sw gtw
      refine⟨_,_,rfl,rfl,(by show 3<=sizeLine;decide),fun r hr'=>?_⟩
      have s47:=s45.trans (st.trans sw)
      have sr:=Same.new (o:=.tup [.ref tw,.ref l1,.int (((i+1:Nat):Int)+1)]) hr'
      exact qp _ _ _ _ e r tw l1 _ upd_same ⟨tt,as,sr _ _ gtw,sr _ _ (sw _ _ gtt),Paired.mapP pa fun _ _ h=>sr _ _ (s47 _ _ h)⟩ (sG.free hl1) (sr _ _ (sw _ _ (st _ _ (t2 _ _ gl1)))) nl2 (sG.trans (s47.trans sr))
    case a =>
     intro hno G1 t1
     refine⟨_,rfl,iteF (iteF ?_)⟩
     exact key _ G1 ⟨t1,fun ns=>.inl (hno ns)⟩
   case k =>
    rintro w6 G2 ⟨t2,hno⟩
    have sG2:=sG.trans t2
    have gr:=t2 _ _ gr
    have gd:=t2 _ _ gd
    have pa:Paired (fun a y=>G2 a=some (HO.tup (tieV y))) as ties:=Paired.mapP pa fun _ _ h=>t2 _ _ h
    clear sG t2
    refine' join2 (A:=fun(tp:Addr) (G3:Hp)=>∃ xs:List Int,Same G2 G3/\G3 tp=some (.tup (xs.map V.int))/\xs.length<=120/\((rowN r=some (Str.ofString "tie",xs))\/(xs=[]/\∀ ns,rowN r=some (Str.ofString "tie",ns)->ns=[]))) (Kc:=?Kc2) ?use2 ?k2
    case use2 =>
     intro key
     refine⟨_,rfl,nil_of (ng_of hr0 (fun hno2 G3 t3=>?_) (fun ns hns2 nl2 l1 G3 hl1 t3 gl1=>?_))⟩
     ·refine⟨false,rfl,?_⟩
      rw[if_neg zJ]
      refine⟨(by show 0<=sizeLine;decide),fun le hle=>?_⟩
      refine⟨le,_,rfl,upd_same,fun tp htp=>?_⟩
      have t4:=t3.trans ((Same.new (o:=.lst []) hle).trans (Same.new (o:=.tup []) htp))
      have gt:(upd (upd G3 le (.lst [])) tp (.tup [])) tp=some (.tup (([]:List Int).map V.int)):=upd_same
      generalize (upd (upd G3 le (.lst [])) tp (.tup []))=G4 at t4 gt
      exact key tp G4 ⟨[],t4,gt,zAO _,.inr ⟨rfl,fun ns z=>absurd z (hno2 ns)⟩⟩
     ·by_cases hn:ns=[]
      ·subst hn
       refine⟨false,.inl ⟨_,SqL.of gl1,rfl⟩,?_⟩
       rw[if_neg zJ]
       refine⟨(by show 0<=sizeLine;decide),fun le hle=>?_⟩
       refine⟨le,_,rfl,upd_same,fun tp htp=>?_⟩
       have t4:=t3.trans ((Same.new (o:=.lst []) hle).trans (Same.new (o:=.tup []) htp))
       have gt:(upd (upd G3 le (.lst [])) tp (.tup [])) tp=some (.tup (([]:List Int).map V.int)):=upd_same
       generalize (upd (upd G3 le (.lst [])) tp (.tup []))=G4 at t4 gt
       exact key tp G4 ⟨[],t4,gt,zAO _,.inl hns2⟩
      ·have e1:(!(ns.map V.int).isEmpty)=true:=by cases ns with | nil=>exact absurd rfl hn | cons a b=>rfl
       refine⟨true,.inl ⟨_,SqL.of gl1,e1.symm⟩,?_⟩
       rw[if_pos rfl]
       refine⟨l1,_,rfl,gl1,fun tp htp=>?_⟩
       have t4:=t3.trans (Same.new (o:=.tup (ns.map V.int)) htp)
       have gt:(upd G3 tp (.tup (ns.map V.int))) tp=some (.tup (ns.map V.int)):=upd_same
       generalize (upd G3 tp (.tup (ns.map V.int)))=G4 at t4 gt
       exact key tp G4 ⟨ns,t4,gt,nl2,.inl hns2⟩
    case k2 =>
     rintro tp G3 ⟨xs,t3,gt,xl,hx2⟩
     have eS:goA x (i+1) ties (r :: rs.drop (i+1))=_:=goA_cons hno hx2
     have sG3:=sG2.trans t3
     have gr:=t3 _ _ gr
     have gd:=t3 _ _ gd
     have pa:Paired (fun a y=>G3 a=some (HO.tup (tieV y))) as ties:=Paired.mapP pa fun _ _ h=>t3 _ _ h
     have asl:as.length=ties.length:=pa.length
     clear sG2 t3
     have fault:∀ {G4:Hp},(IsTie xs x && nextOk ties xs)=false->Same G3 G4->∀ dx,G4 dx=none->E (.int ((i+1:Nat):Int) 0) none (upd G4 dx (rowD ((i+1:Nat):Int))):=fun e s dx hd=>by
      rw[e,if_neg zJ]at eS
      exact bad ((eA.trans eG).trans eS) (sG3.trans s) hd
     refine⟨tp,xs,x,rfl,gt,by exact zl1 xl rfl,fun G4 t4=>⟨_,rfl,?_⟩⟩
     cases hi:IsTie xs x with
     |false =>
      refine iteT (iteT ?_)
      exact⟨_,rfl,fault (by rw[hi];rfl) t4⟩
     |true =>
      refine iteF ?_
      obtain⟨a,b,c,rfl⟩:∃ a b c,xs=[a,b,c]:=by
       unfold IsTie at hi
       split at hi
       ·exact⟨_,_,_,rfl⟩
       ·cases hi
      have sG4:=sG3.trans t4
      have gt4:=t4 _ _ gt
      have gr4:=t4 _ _ gr
      have gd4:=t4 _ _ gd
      have pa4:Paired (fun a y=>G4 a=some (HO.tup (tieV y))) as ties:=Paired.mapP pa fun _ _ h=>t4 _ _ h
      have len:(as.map V.ref).length+1<=sizeLine:=by rw[zB,sizeLine_eq];exact zfb rsl tl jl asl
      have fin:∀ {G5:Hp},Same G4 G5->nextOk ties [a,b,c]=true->Ex6 fun(v4 v5 v6 v7:Option V) (as':List Addr) (ties':List Tie)=>[some (V.ref p),some (.ref l0),some (.int x),some (.ref ld),some (.int ((i+1:Nat):Int)),some (.str r),some w6,some (.ref tp)]=[some (.ref p),some (.ref l0),some (.int x),some (.ref ld),v4,v5,v6,v7]/\Same H (upd G5 ld (.lst (as.map V.ref++[.ref tp])))/\(upd G5 ld (.lst (as.map V.ref++[.ref tp]))) p2=some (.lst (rs.map V.str))/\(upd G5 ld (.lst (as.map V.ref++[.ref tp]))) ld=some (.lst (as'.map V.ref))/\Paired (fun a y=>(upd G5 ld (.lst (as.map V.ref++[.ref tp]))) a=some (.tup (tieV y))) as' ties'/\ties'.length<=i+1/\goA x 1 [] rs=goA x (i+1+1) ties' (rs.drop (i+1)):=fun {G5} s5 hk=>by
       have gd5:=s5 _ _ gd4
       have keep:∀ {q:Addr}{zs:List V},G5 q=some (.tup zs)->(upd G5 ld (.lst (as.map V.ref++[.ref tp]))) q=some (.tup zs):=fun {q zs} h=>by
        rw[upd_ne (fun z=>by rw[z,gd5]at h;cases h)]
        exact h
       refine⟨_,_,_,_,as++[tp],ties++[(a,b,c)],rfl,same_put (sG4.trans s5) hld0,by rw[upd_ne nld];exact s5 _ _ gr4,by rw[upd_same,zAQ];rfl,Paired.snoc (Paired.mapP pa4 fun _ _ h=>keep (s5 _ _ h)) (keep (s5 _ _ gt4)),by rw[zY];show ties.length+1<=i+1;exact zao tl asl,?_⟩
       rw[hi,hk,Bool.true_and,if_pos rfl]at eS
       exact eG.trans eS
      by_cases ha:as=[]
      ·have tn:ties=[]:=by rw[ha]at asl;exact List.length_eq_zero_iff.mp asl.symm
       refine⟨false,.inl ⟨_,SqL.of gd4,by rw[ha];rfl⟩,iteF (iteF ?_)⟩
       refine⟨⟨ld,_,rfl,gd4⟩,ld,_,_,rfl,rfl,gd4,len,?_⟩
       exact fin (Same.refl _) (by rw[tn];rfl)
      ·have al:0<as.length:=List.length_pos_iff.mpr ha
       have e1:(!(as.map V.ref).isEmpty)=true:=by cases as with | nil=>exact absurd rfl ha | cons a b=>rfl
       refine⟨true,.inl ⟨_,SqL.of gd4,e1.symm⟩,iteT ?_⟩
       refine⟨2,rfl,tp,_,rfl,gt4,fun c1 H8 s8 gc1=>?_⟩
       refine⟨_,rfl,ld,_,_,_,rfl,rfl,s8 _ _ gd4,at_last (by rw[zB];exact al),?_⟩
       rw[zBC]
       have j1:(as.map V.ref).length-1<as.length:=by rw[zB];exact zh4 al
       have j2:(as.map V.ref).length-1<ties.length:=by rw[zB];exact zh7 (zh4 al) asl
       have gl:=s8 _ _ (Paired.at pa4 _ j1 j2)
       refine⟨2,rfl,as[(as.map V.ref).length-1],_,rfl,gl,fun c2 H9 s9 gc2=>?_⟩
       refine⟨c1,c2,[a,b],[(ties[(as.map V.ref).length-1]).1,(ties[(as.map V.ref).length-1]).2.1],rfl,rfl,SqT.of (s9 _ _ gc1),SqT.of gc2,?_⟩
       have hk:nextOk ties [a,b,c] = !HT.lexLe [a,b] [(ties[(as.map V.ref).length-1]).1,(ties[(as.map V.ref).length-1]).2.1]:=by
        unfold nextOk
        have q:ties.getLast?=some ties[(as.map V.ref).length-1]:=by
         rw[zCQ,zF (by exact zh4 (zh7 al asl))]
         simp only[zB,asl]
        rw[q]
        rfl
       refine⟨_,rfl,?_⟩
       have s89:=s8.trans s9
       have gd9:=s89 _ _ gd4
       cases hl:HT.lexLe [a,b] [(ties[(as.map V.ref).length-1]).1,(ties[(as.map V.ref).length-1]).2.1]with
       |true =>
        refine iteT ?_
        exact⟨_,rfl,fault (by rw[hk,hl];simp) (t4.trans s89)⟩
       |false =>
        refine iteF ?_
        refine⟨⟨ld,_,rfl,gd9⟩,ld,_,_,rfl,rfl,gd9,len,?_⟩
        exact fin s89 (by rw[hk,hl];rfl)
  ·rintro σ G ⟨v4,v5,v6,v7,as,ties,rfl,sG,gr,gd,pa,tl,eG⟩
   rw[zB,List.drop_length]at eG
   refine⟨p,_,rfl,sG _ _ gp,?_⟩
   refine⟨_,rfl,fun dx hd=>?_⟩
   have e:ahead (r0 :: rs) = .bad (rs.length+1):=eA.trans eG
   have q:=bad (o:=rowD ((rs.length+1:Nat):Int)) e sG hd
   rw[zV,zB]
   exact q
end
open PySem L2 PyProof.Rows
theorem RowsOk.split{rows:List Str}(h:RowsOk rows):Txt.split ((sg 10).join rows) (Str.ofString "\n")=rows:=by
 rw[sg_nl]
 exact split_join h.1 fun p hp z=>((h.2.2 p hp).asc 10 z).2 rfl
theorem jn_long{c B:Nat}:∀ (ps:List (List Nat)),(∀ p∈ps,p.length<=B)->(jn c ps).length<=ps.length * (B+1)
 |[],_=>zAO _
 |[a],h=>by
  have:=h a zX
  show a.length<=1 * (B+1)
  lia
 |a :: b :: r,h=>by
  have h1:=h a zX
  have h2:=jn_long (c:=c) (b :: r) fun p hp=>h p (zP _ hp)
  show(a++c :: jn c (b :: r)).length<=_
  rw[zY,zV]
  rw[zV (a:=a),Nat.succ_mul]
  exact zgx h1 h2
theorem RowsOk.txt{rows:List Str}(h:RowsOk rows):((sg 10).join rows).length<=121000:=by
 have q:=jn_long (c:=10) (B:=120) (rows.map fun p=>p.cps.toList) (fun p hp=>by
  obtain⟨r,hr,rfl⟩:=zAP.mp hp
  have:=(h.2.2 r hr).len
  have e:r.cps.toList.length=r.length:=zO
  exact zh9 this e)
 rw[<- join_jn,zB,zO]at q
 have:=h.2.1
 exact zC q (by lia)
inductive spWfI(vs:List V)(H:Hp)(Q:VK)(E:XK):Prop where
 |mk (rows:List Str) (h1:vs=[.str ((sg 10).join rows)]) (h2:RowsOk rows) (h3:(∀ k,whole rows = .bad k->∀ H',Same H H'->E (.int (k:Int) 0) none H')) (h4:∀ n ties ps u,whole rows = .pair n ties ps u->∀ (r t l:Addr) (H':Hp),H' r=some (.tup [.ref t,.ref l])->WebI H' t n ties->H l=none->H' l=some (.lst (ps.map V.int))->ps.length<=120->Same H H'->Q (.ref r) H')
noncomputable def spWf:Sp:=fun vs H Q E=>spWfI vs H Q E
section
variable{P:Program}{w:World}{K:PySem.W.Frag}{mg:Str->Option Value}{base:Heap}
noncomputable abbrev nWf:List Str:=["text","rows","web","posts","used"]
theorem scWf:FnScope nWf ["text"] (defScope sWebFrom):=⟨rfl,rfl,rfl,by decide +kernel,rfl,by decide +kernel,by decide +kernel⟩
theorem ok_wf{C Pa fI f g1:Addr}{fd dI d1:FuncData}(F:Fun K "web_from" "web_from" sWebFrom f fd)(T:Txt mg)(GB:Bads K mg C Pa fI dI)(GA:CalX P w K mg base (CXB P w C) 4 "web_ahead" ["rows"] spWa g1 d1):FnOk P w K mg base (CXB P w C) 5 f fd ["text"] spWf:=by
 refine F.okX scWf (fun vs H Q E h=>?_) (fun cdv A outer s H vs Q E hr h=>?_)
 ·obtain⟨rows,rfl,_⟩:=h
  rfl
 ·obtain⟨rows,rfl,o,qe,qp⟩:=h
  have hr2:Room 2 _:=hr.mono (by decide)
  refine⟨_,(pss_cons (ps_set (i:=1) scWf.nd rfl (Or.inl rfl) (pe_bm PySem.F.plainAttrs_str PySem.F.slot_str_split PySem.F.type_str_split mt_split (pv 0) (@pa_cst _ _ _ _ _ _ _ pe_str pa_nil)))
   (pss_cons (ps_asg (pe_call GA.ok hr rfl GA.mg GA.kp GA.bd .nil (pass_to (E:=E) rfl rfl to_leave fun k H' q=>q) (@pa_nam _ _ _ _ _ _ (pv 1) pa_nil)) (pg_tup (n:=3) rfl (pgs_cons (pg_name (i:=2) scWf.nd rfl (Or.inl rfl)) (pgs_cons (pg_name (i:=3) scWf.nd rfl (Or.inl rfl)) (pgs_cons (pg_name (i:=4) scWf.nd rfl (Or.inl rfl)) pgs_nil)))))
   (pss_cons (ps_if (pt_cmpR op_lt (pv 4) (pe_callB call_lenH (by rfl) T.len PySem.boot_len (@pa_nam _ _ _ _ _ _ (pv 1) pa_nil)) (nomark _)) (pss_one (rs_bad GB rfl hr2 to_leave (@pa_nam _ _ _ _ _ _ (pv 4) pa_nil))) pss_nil)
   (pss_one (ps_ret (@pe_tup _ _ _ _ _ (@pa_nam _ _ _ _ _ _ (pv 2) (@pa_nam _ _ _ _ _ _ (pv 3) pa_nil)))))))),?_⟩
  have tl:=o.txt
  refine⟨_,rfl,rfl,_,_,rfl,rfl,(by decide),by rw[sizeLine_eq];lia,fun p hp=>?_⟩
  rw[o.split]
  have s1:=Same.new (o:=.lst (rows.map V.str)) hp
  have gp:(upd H p (.lst (rows.map V.str))) p=some (.lst (rows.map V.str)):=upd_same
  generalize (upd H p (.lst (rows.map V.str)))=H1 at s1 gp
  refine⟨_,rfl,p,rows,rfl,gp,o,fun k e H2 s2=>qe k ?_ _ (s1.trans s2),fun n ties ps u e r t l H2 gr W hl gl pl s2=>?_⟩
  ·unfold whole
   rw[e]
  refine⟨r,_,rfl,SqT.of gr,rfl,_,_,rfl,_,_,rfl,_,_,rfl,rfl,?_⟩
  refine⟨_,rfl,_,rfl,p,_,rfl,s2 _ _ gp,_,_,rfl,rfl,_,rfl,?_⟩
  refine ite2 (fun h=>?_) (fun h=>?_)
  ·have h:u<rows.length:=by
    have q:=of_decide_eq_true h
    rw[zB]at q
    exact zi3 q
   exact⟨_,rfl,_,rfl,fun dx hd=>qe u (by unfold whole;rw[e];dsimp only;rw[if_pos h]) _ (s1.trans (s2.trans (Same.new hd)))⟩
  ·have h:¬ u<rows.length:=fun z=>h (decide_eq_true (by rw[zB];exact zi2 z))
   refine⟨_,rfl,_,rfl,(by show 2<=sizeLine;decide),fun q hq=>?_⟩
   have sq:=Same.new (o:=.tup [.ref t,.ref l]) hq
   obtain⟨ts,as,h1,h2,h3⟩:=W
   exact qp n ties ps u (by unfold whole;rw[e];dsimp only;rw[if_neg h]) q t l _ upd_same ⟨ts,as,sq _ _ h1,sq _ _ h2,Paired.mapP h3 fun _ _ z=>sq _ _ z⟩ (s1.free hl) (sq _ _ gl) pl (s1.trans (s2.trans sq))
end
end K75
namespace L2
open PySem PySem.W PyProof.Rows Srt
open PySem PySem.W PyProof.Rows Srt
theorem all_like{ns ms:List Int}{a b:Nat}(l1:ns.length=a)(l2:ms.length=b):((List.range (min a b)).all (fun j=>decide (ns[j]?=ms[j]?)) && a == b)=decide (ns=ms):=by
 rw[zCP,zBJ,List.all_eq_true,decide_eq_true_eq,beq_iff_eq]
 constructor
 ·rintro⟨h1,h2⟩
  apply List.ext_getElem?
  intro i
  by_cases hi:i<ns.length
  ·exact of_decide_eq_true (h1 i (zBP.mpr (by exact zhp l1 h2 hi)))
  ·rw[zCR (by exact zj3 hi),zCR (by lia)]
 ·rintro rfl
  exact⟨fun i _=>decide_eq_true rfl,by exact zdh l1 l2⟩
open PySem PySem.W PyProof.Rows Srt
inductive rNeEI(x:V)(y:V)(H:Hp)(Q:VK):Prop where
 |mk (p q:Addr) (xs:List V) (h1:x = .ref p) (h2:y = .ref q) (h3:H p=some (.lst xs)) (h4:H q=some (.lst [])) (h5:Q (.bl (!xs.isEmpty)) H)
noncomputable def rNeE:R2:=fun x y H Q=>rNeEI x y H Q
theorem op_neE{X:Cx}(hu:X.A.units<cLine):OpR X (compareOp .NotEq) rNeE:=by
 intro pins s σ H x y v u Q I rx ry h
 obtain⟨p,q',xs,rfl,rfl,h1,h2,q⟩:=h
 cases rx
 cases ry
 obtain⟨its,r,pl,hz⟩:=I.list (SqL.of (K:=X.K) h1)
 obtain⟨its',r',pl',hz'⟩:=I.list (SqL.of (K:=X.K) h2)
 have l1:=r.length
 have l2:=r'.length
 rw[zBL]at l2
 by_cases e:xs=[]
 ·subst e
  rw[zBL]at l1
  refine SeqAt.RcNeAt.lists pl.isList pl'.isList (by simp only[zQ];exact zcu l2 l1) hu (e:=fun _=>true) (fun j h1 h2=>by simp only[zQ]at h1;lia) _ _ _ _ ?_
  rw[zQ,<- l1]
  exact⟨.bl _,H,I,rfl,q⟩
 ·have l0:0<xs.length:=List.length_pos_iff.mpr e
  refine SeqAt.RcNeAt.lists_lengths pl.isList pl'.isList (by simp only[zQ,bne_iff_ne];exact zhi l1 l2 l0) hu _ _ _ _ ?_
  rw[show xs.isEmpty=false by cases xs with | nil=>exact absurd rfl e | cons _ _=>rfl]at q
  exact⟨.bl _,H,I,rfl,q⟩
end L2
namespace SetA
open PySem L2
section
variable{prog:Program}{w:World}{A:Around}{R:Result->Shared->Prop}{I:Addr}{fp wr:List Addr}{G:Array GenState->Array GenState->Prop}{n:Nat}{P:Nat->Value->Prop}{St:Nat->Shared->Prop}
theorem CellI.moved{g g':Heap}{wr:List Addr}{S:Addr}{o:Obj}{es:Array (Int×Value)}{ep:Nat}{t:SetTable}{ks:List Int}(C:CellI prog w g S o es ep t ks)(mv:∀ b o,b∉wr->g.get? b=some o->g'.get? b=some o)(hS:S∉wr):CellI prog w g' S o es ep t ks :=
 ⟨mv S o hS C.get,C.ex,C.dat,C.tb,C.ln,C.pl,C.el,C.nd,C.ld⟩
theorem loopI(W:WalksS prog w A.in1 I fp wr G n P St)(S:Addr)(hSf:S∉fp)(val:Nat->Int)(hval:∀ i v,P i v->∃ tg,v = .int (val i) tg)
  (hb:n<=300):∀ (k i:Nat) (s:Shared),n-i=k->i<=n->St i s ->
   ∀ (o:Obj) (es:Array (Int×Value)) (ep:Nat) (t:SetTable) (ks:List Int),CellI prog w s.heap S o es ep t ks->ks.length<=i->(∀ x,x∈ks↔∃ j,j<i/\val j=x) ->
   (∀ s' o es ep t ks,Moved (S :: wr) G s s'->CellI prog w s'.heap S o es ep t ks->(∀ x,x∈ks↔∃ j,j<n/\val j=x)->R (.ok (.ret .none)) s') ->
   codeAny (model prog w) A (.builtin "set.update.loop" ⟨[.ref S,.ref I],[]⟩) R s:=by
 have hSw:S∉wr:=fun z=>hSf (W.sub _ z)
 have up:∀ b∈wr,b∈S :: wr:=fun b z=>zP _ z
 intro k
 induction k with
 |zero =>
  intro i s hk hi st o es ep t ks C kl mem fin
  obtain rfl:i=n:=by exact zih hk hi
  refine codeAny_builtin PyProof.Rows.F.entry_set_update_loop ?_
  rw[Around.under_plainId PyProof.Rows.F.plain_set_update_loop _]
  show wpAny _ A.in1 (pyNext (.ref I) >>= _) _ _ s
  refine zA (W.done s _ _ st fun s' mv=>?_)
  show wpAny _ A.in1 (ret Value.none) _ _ s'
  exact zE (fin s' o es ep t ks (mv.mono up) (C.moved mv.heap hSw) mem)
 |succ k ih =>
  intro i s hk hi st o es ep t ks C kl mem fin
  have hlt:i<n:=by omega
  refine codeAny_builtin PyProof.Rows.F.entry_set_update_loop ?_
  rw[Around.under_plainId PyProof.Rows.F.plain_set_update_loop _]
  show wpAny _ A.in1 (pyNext (.ref I) >>= _) _ _ s
  refine zA (W.item i s _ _ hlt st fun v s' hP st' mv=>?_)
  obtain⟨tg,rfl⟩:=hval i v hP
  have C1:=C.moved mv.heap hSw
  show wpAny _ A.in1 (holding [Value.int (val i) tg] (setAdd S (.int (val i) tg)) >>= _) _ _ s'
  refine zA (wpAny_holding ?_)
  unfold setAdd
  refine wpAny_holding (zA ((intKind prog w).pyHash (isInt_k (val i) tg) ?_))
  refine addI (s:={ s' with toks:=s'.toks+1 }) C1 (by exact zi6 (zi9 (zL kl hlt) (zl1 hb rfl))) (fun hm=>?_) (fun hm h' o' es' ep' t' ms C2 pm sb=>?_)
  ·refine zE ⟨plainId_quiet PyProof.Rows.F.plain_set_update_loop _,ih (i+1) _ (by exact zaq hk hlt) hlt (W.frame _ s' _ _ st' (zI _ _) fun b hb o e=>e) o es ep t ks C1 (by exact zC kl (zI i 1)) (fun x=>?_) fun s'' o es ep t ks mv2 C3 m3=>?_⟩
   ·rw[mem x]
    constructor
    ·rintro⟨j,hj,e⟩;exact⟨j,by exact zi9 hj (zI i 1),e⟩
    ·rintro⟨j,hj,e⟩
     by_cases z:j=i
     ·subst z
      rw[<- e]
      exact(mem _).mp hm
     ·exact⟨j,by exact zj5 z (zi6 hj),e⟩
   ·exact fin s'' o es ep t ks (Moved.trans W.gtrans ((mv.mono up).then_heap (zI _ _) fun b o hb e=>e) mv2) C3 m3
  ·have ml:ms.length=ks.length+1:=by
    have:=pm.length_eq
    simpa using this
   refine zE ⟨plainId_quiet PyProof.Rows.F.plain_set_update_loop _,ih (i+1) _ (by exact zaq hk hlt) hlt (W.frame _ s' _ _ st' (zI _ _) fun b hb o e=>?_) o' es' ep' t' ms C2 (by exact zie kl ml) (fun x=>?_) fun s'' o es ep t ks mv2 C3 m3=>?_⟩
   ·rw[sb.2 b (fun z=>hSf (by rw[<- z];exact hb))]
    exact e
   ·rw[pm.mem_iff,zW,mem x]
    constructor
    ·rintro(e |⟨j,hj,e⟩)
     ·exact⟨i,by exact zAY i,e.symm⟩
     ·exact⟨j,by exact zi9 hj (zI i 1),e⟩
    ·rintro⟨j,hj,e⟩
     by_cases z:j=i
     ·subst z;exact .inl e.symm
     ·exact .inr ⟨j,by exact zj5 z (zi6 hj),e⟩
   ·refine fin s'' o es ep t ks (Moved.trans W.gtrans ((mv.mono up).then_heap (zI _ _) fun b o hb e=>?_) mv2) C3 m3
    rw[sb.2 b (fun z=>hb (by rw[z];exact zX))]
    exact e
end
section
variable{prog:Program}{w:World}{A:Around}{E:Value->Shared->Prop}{s:Shared}
theorem fresh_cellI{g:Heap}{S:Addr}{led:Bool}(hl:led = !w.params.followText "set-order")(h:g.get? S=some (newO led)):CellI prog w g S (newO led) #[] 0 (.fresh 0 0 led) []:=by
 refine⟨h,⟨rfl,rfl,rfl⟩,rfl,⟨fun i j _ hj=>absurd hj (by show ¬ j<0;exact zbn),rfl,rfl,.inl rfl,by show 0<=7;decide,fun i j e hp=>?_⟩,by show 0 * 5<7 * 3;decide,rfl,.nil,List.nodup_nil,hl⟩
 have hp:(#[]:Array Nat)[i]?=some j:=hp
 simp at hp
theorem call_setInts{l:Addr}{items:Array Value}{val:Nat->Int}{Q:Value->Shared->Prop}(hh:A.handled=none)(hl:s.heap.IsList l items)(hi:∀ (i:Nat) (v:Value),items[i]?=some v->∃ tg,v = .int (val i) tg)(hb:items.size<=300)
  (h:∀ (h':Heap) (tk:Nat) (o:Obj) (es:Array (Int×Value)) (ep:Nat) (t:SetTable) (ks:List Int),CellI prog w h' s.heap.objs.size o es ep t ks->(∀ x,x∈ks↔∃ j,j<items.size/\val j=x)->(∀ b o,b<s.heap.objs.size->s.heap.get? b=some o->h'.get? b=some o)->Q (.ref s.heap.objs.size) { s with heap:=h',toks:=tk }) :
  wpAny (model prog w) A (call (.type "set") [.ref l]) Q E s:=by
 obtain⟨c,tl,hmro⟩:=F.called_set.mro;have hmade:=F.called_set.made;have hsub:=F.called_set.sub
 refine wpAny_call (codeAny_of_tree ?_);show wpAny _ _ (callAny (.type "set") _) _ _ _
 refine zE ⟨Code.quiet_builtin _ (by decide +kernel),codeAny_builtin F.entry_type_call ?_⟩;rw[Around.under_plain (weight_type_call_type "set" [.ref l] []) rfl]
 have h1:=F.called_set.notType;have h2:=F.called_set.canCreate;have hct:=F.typeCall_set_1 (.ref l)
 repeat (any_goals (first | assumption | wp_step))
 refine codeAny_mono (new1 (.ref l) (E:=E) (Q₁:=fun ob sn=>∃ led:Bool,led=(!w.params.followText "set-order")/\ob = .ref s.heap.objs.size/\sn = { s with heap:=s.heap.push (newO led) }) ⟨_,rfl,rfl,rfl⟩) fun r sn hr=>?_
 cases r with
 |error e=>exact hr
 |ok fl =>
  cases fl with
  |ret ob =>
   obtain⟨led,hled,rfl,rfl⟩:=hr
   have gS:(s.heap.push (newO led)).get? s.heap.objs.size=some (newO led):=zU _ rfl
   have hT:Shared.TypeIs { s with heap:=s.heap.push (newO led) } (.ref s.heap.objs.size) "set":=⟨_,gS,rfl⟩
   have hli:=F.called_set.init.lookup;have hbi:=F.called_set.init.bind (.ref s.heap.objs.size)
   repeat (any_goals (first | assumption | wp_step))
   refine codeAny_mono (codeAny_call_builtin (R:=wants (fun r sm=>r = .none/\∃ h' tk o es ep t ks,sm = { s with heap:=h',toks:=tk }/\CellI prog w h' s.heap.objs.size o es ep t ks/\(∀ x,x∈ks↔∃ j,j<items.size/\val j=x) /\
     (∀ b o,b<s.heap.objs.size->s.heap.get? b=some o->h'.get? b=some o)) E) F.called_set.init.plain F.entry_set_init (check_set_init_1 hT ?_)) fun r2 sm hr2=>?_
   ·obtain⟨ol,gol,hcl,nl,hdl⟩:=hl;obtain⟨ocls,odict,odata,oslots⟩:=ol;simp only at hcl hdl;subst hcl;subst hdl
    have gol':(s.heap.push (newO led)).get? l=some { cls:=.type "list",dict:=odict,data:=.seq items nl,slots:=oslots }:=zD _ gol
    have x1:=F.sub_list_set;have x2:=F.sub_list_frozenset;have x3:(Value.type "list" == Value.type "dict")=false:=by decide
    have hl1:(s.heap.push (newO led)).IsList l items:=⟨_,gol',rfl,nl,rfl⟩
    unfold Builtin.«set.__init__» noKeywords Builtin.Frozenset.updateFrom;generalize hPI:pyIter=PI
    wp_walk
    subst hPI;refine wpAny_pyIter_list hl1 ?_;refine zA (wpAny_runValue ?_)
    have lS:l<s.heap.objs.size:=zK gol
    have hh3:A.in1.in1.in1.handled=none:=by simp[hh]
    have lI:l≠(s.heap.push (newO led)).objs.size:=by rw[Heap.size_push];exact zAC (Nat.lt_succ_of_lt lS)
    have Sf:s.heap.objs.size∉[(s.heap.push (newO led)).objs.size,l]:=by
     rw[Heap.size_push];simp only[zW,zAT,or_false,not_or];exact⟨zAC (zAY _),zCA lS⟩
    have gS2:((s.heap.push (newO led)).push { cls:=.type "list_iterator",data:=.fields #[.ref l,.int 0 0] }).get? s.heap.objs.size=some (newO led):=zD _ gS
    refine loopI ((Walks.list hh3 _ l lI items).toS) s.heap.objs.size Sf val hi hb (items.size-0) 0 _ (by exact zht) (zAO _) ⟨⟨_,zU _ rfl,rfl,rfl⟩,(hl1.push _)⟩ _ _ _ _ [] (fresh_cellI hled gS2) (zH _) (fun x=>⟨(fun z=>nomatch z),fun⟨j,hj,_⟩=>absurd hj (by lia)⟩) ?_
    ·intro s' o es ep t ks mv C3 m3
     obtain⟨h',g',d',tk',os'⟩:=s'
     have eg:g'=s.gens:=mv.gens;have ed:d'=s.drawn:=mv.drawn;have eo:os'=s.os:=mv.os
     subst eg;subst ed;subst eo
     show wpAny _ _ _ _ _ _;refine zE ?_;show wpAny _ _ (ret Value.none) _ _ _
     refine zE ⟨rfl,h',tk',o,es,ep,t,ks,rfl,C3,m3,fun b ob hb' e=>?_⟩
     have b1:b≠s.heap.objs.size:=zAC hb'
     have b2:b≠(s.heap.push (newO led)).objs.size:=by rw[Heap.size_push];exact zAC (Nat.lt_succ_of_lt hb')
     exact mv.heap b ob (by simp only[zW,zAT,or_false,not_or];exact⟨b1,b2⟩) (zD _ (zD _ e))
   ·cases r2 with
    |error e=>exact hr2
    |ok fl2 =>
     cases fl2 with
     |ret r =>
      obtain⟨rfl,h',tk,o,es,ep,t,ks,rfl,C3,m3,k3⟩:=hr2
      repeat (any_goals (first | assumption | wp_step))
      exact h _ _ o es ep t ks C3 m3 k3
     | _=>exact hr2.elim
  | _=>exact hr.elim
end
end SetA
namespace L2
open PySem PySem.W PyProof.Rows Srt SetA
noncomputable def setJ(w:World)(a:Addr)(ns:List Int):HO:=.ext fun h=>∃ es ep t,Raw w a es ep t h/\Paired (fun(e:Int×Value) k=>∃ tg,e.2 = .int k tg) es.toList ns
theorem rel_ints:∀ {vs:List Value}{ns:List Int},Paired (fun v k=>∃ tg,v=Value.int k tg) vs ns->Vals (ns.map V.int) vs
 | _,_,.nil=>.nil
 | _,_,.cons ⟨t,e⟩ r=>.cons ⟨t,e⟩ (rel_ints r)
section
variable{X:Cx}{pins:List (Addr×Obj)}{σ:St}{H:Hp}{s:Shared}
theorem call_setJ:CallR X (.type "set") (fun xs H Q=>∃ (l:Addr) (ns:List Int),xs=[V.ref l]/\H l=some (.lst (ns.map V.int))/\X.A.handled=none/\ns.length<=300 /\
  ∀ (S:Addr) (ms:List Int),H S=none->ms.Nodup->(∀ x,x∈ms↔x∈ns)->Q (.ref S) (upd H S (setJ X.w S ms))):=by
 intro pins s σ H xs us Q I r h
 obtain⟨l,ns,rfl,hl,hh,hlen,q⟩:=h
 obtain⟨u,rfl,rx⟩:=vals1 r
 cases rx
 obtain⟨its,r',pl,hz⟩:=I.list (SqL.of hl)
 have li:=r'.length
 rw[zB]at li
 have at_:∀ (i:Nat) (v:Value),its[i]?=some v->∃ tg,v = .int (ns.getD i 0) tg:=fun i v hv=>by
  obtain⟨hi,e⟩:=zZ.mp hv
  obtain⟨u,g1,t,g2⟩:=r'.get (i:=i) (x:=V.int (ns[i]'(by exact zh8 hi li))) (by rw[zAJ,zF (by exact zh8 hi li)];rfl)
  rw[hv]at g1
  cases g1
  refine⟨t,?_⟩
  rw[g2,List.getD_eq_getElem?_getD,zF (by exact zh8 hi li)]
  rfl
 refine call_setInts (items:=its.toArray) (val:=fun j=>ns.getD j 0) hh pl.isList (fun i v hv=>at_ i v (by simpa using hv)) (by rw[zQ];exact zh9 hlen (Eq.symm li)) (fun h' tk o es ep t ms C hm kp=>?_)
 have kp':∀ b u,s.heap.get? b=some u->h'.get? b=some u:=fun b u e=>kp b u (zK e) e
 refine⟨.ref s.heap.objs.size,_,I.laid (t':=tk) (a:=s.heap.objs.size) (o:=setJ X.w s.heap.objs.size ms) kp' (zH _) ?_,rfl,q _ ms (I.hok.fresh (zH _)) C.nd fun x=>?_⟩
 ·exact⟨⟨es,ep,t,⟨⟨o,C.get,C.ex,C.dat⟩,C.tb.rs,C.tb.fits,C.pl,C.ld⟩,Paired.mapP C.el fun _ _ z=>z.1⟩,⟨o,C.get⟩,fun h1 h2 ⟨es,ep,t,x,e⟩ k=>⟨es,ep,t,x.to k,e⟩⟩
 ·rw[hm x,zQ]
  refine⟨fun⟨j,hj,e⟩=>?_,fun hx=>?_⟩
  ·rw[<- e,List.getD_eq_getElem?_getD,zF (by exact zh8 hj li)]
   exact zBG _
  ·obtain⟨j,hj,e⟩:=zBO hx
   exact⟨j,by exact zh7 hj li,by rw[List.getD_eq_getElem?_getD,zF hj];exact e⟩
theorem call_sortedJ:CallR X (.builtin "sorted") (fun xs H Q=>∃ (S:Addr) (ns:List Int),xs=[V.ref S]/\H S=some (setJ X.w S ns)/\X.A.handled=none/\ns.length<128 /\
  ∀ (l':Addr) (ms:List Int),H l'=none->ms.Perm ns->ms.Pairwise (·<=·)->Q (.ref l') (upd H l' (.lst (ms.map V.int)))):=by
 intro pins s σ H xs us Q I r h
 obtain⟨S,ns,rfl,hS,hh,hlen,q⟩:=h
 obtain⟨u,rfl,rx⟩:=vals1 r
 cases rx
 obtain⟨⟨es,ep,t,x,eq⟩,_,_⟩:=I.hok S _ hS
 have ez:es.size=ns.length:=by
  have:=eq.length
  rw[zO]at this
  exact this
 refine Calls.call_function_entry kind_sorted plain_sorted entry_sorted (args_sorted1 _) ?_
 unfold Builtin.«sorted»
 refine zA (m:=checkCount "sorted" 1 1 _) (zE (zA (kdu_collect (setSrc S es ep t) hh x (by rw[ez,sizeLine_eq];exact zl4 hlen rfl) fun h' tk acc kp items=>?_)))
 have ea:acc.toList=(ord X.w S es ep).toList.map (·.2):=by
  refine List.ext_getElem? fun j=>?_
  rw[zAJ,zAH,zAH]
  have ol:=(ord_perm (w:=X.w) (a:=S) (es:=es) (ep:=ep)).length_eq
  rw[zO,zO]at ol
  by_cases hj:j<acc.size
  ·have:=items.2 j acc[j] (zS hj)
   rw[zS hj,this]
  ·rw[zCB (by exact zj3 hj),zCB (by have:=items.1;lia)]
   rfl
 obtain⟨ms0,e0,p0⟩:=paired_perm (ord_perm (w:=X.w) (a:=S) (es:=es) (ep:=ep)) eq
 have r':Vals (ms0.map V.int) acc.toList:=by
  rw[ea]
  refine rel_ints ?_
  clear ea p0
  generalize (ord X.w S es ep).toList=l at e0
  induction e0 with
  |nil=>exact .nil
  |cons z _ ih=>exact .cons z ih
 generalize acc.toList=its at r'
 have li:=r'.length
 rw[zB,p0.length_eq]at li
 refine zA (wpAny_newList ?_ (by rw[sizeLine_eq];exact zh9 (zl4 hlen rfl) (Eq.symm li)))
 have gL:(h'.push (seqObj "list" its.toArray 0)).get? h'.objs.size=some (seqObj "list" its.toArray 0):=zU _ rfl
 have I1:Inv X pins σ H { s with heap:=h',toks:=tk }:=I.kept kp
 have kp2:∀ b u,h'.get? b=some u->(h'.push (seqObj "list" its.toArray 0)).get? b=some u:=fun b u e=>zD _ e
 have hI:=intsAre_of r'
 have keys:KeysOf κI (pairsOf its):=fun p hp=>by
  rw[pairsOf_toList]at hp
  obtain⟨e1,e2⟩:=Srt.mem_zip_self hp
  obtain⟨j,hj,e⟩:=zBO e2
  obtain⟨u,g1,t,g2⟩:=r'.get (i:=j) (x:=V.int (ms0[j]'(by have:=p0.length_eq;exact zh7 (zh8 hj li) (Eq.symm this)))) (by rw[zAJ,zF (by have:=p0.length_eq;exact zh7 (zh8 hj li) (Eq.symm this))];rfl)
  rw[zF hj,e]at g1
  cases g1
  rw[e1,g2]
  exact⟨_,rfl⟩
 refine zA (wpAny_holding (wpAny_call_entry slot_list_sort ⟨_,gL,rfl⟩ entry_list_sort (sort_at (κ:=κI) (kd:=oneType') gL keys (by lia) (fun l2 g k=>⟨ltI_ok,fun R hR=>?_⟩) fun ws g c pw sw kp3 gg=>⟨_,rfl,?_⟩) (args_list_sort _)))
 ·match its,hI,l2 with
  |v1 :: v2 :: rest,hI,_ =>
   rw[keyKind_ints hI]
   exact zE hR
  |[],_,l2=>simp at l2
  |[_],_,l2=>simp at l2
 ·obtain⟨ms,rm,pm⟩:=ints_perm pw r'
  have lw:=rm.length
  rw[zB]at lw
  have pml:=pm.length_eq
  have p0l:=p0.length_eq
  refine zE ⟨_,rfl,.ref h'.objs.size,_,I1.laid (t':=tk) (a:=h'.objs.size) (o:=.lst (ms.map V.int)) (fun b u e=>kp3 b u (zAC (zK e)) (kp2 b u e)) (zH _) (show ObjOk X.prog X.w _ g _ (.lst (ms.map V.int))from⟨?_,ws,c,rm,gg⟩),rfl,q _ ms (I1.hok.fresh (zH _)) (pm.trans p0) ?_⟩
  ·rw[zB,sizeLine_eq];exact zgo hlen ez li lw pml p0l
  ·rw[zBS]
   intro i j hi hj ij
   have z:=sw i j (zT ij) (by exact zh7 hj lw)
   have kk:∀ m (hm:m<ms.length),KK κI (pairsOf ws) m=ms[m]:=fun m hm=>by
    obtain⟨u,g1,t,g2⟩:=rm.get (i:=m) (x:=V.int ms[m]) (by rw[zAJ,zF hm];rfl)
    have e:(pairsOf ws)[m]?=some (u,u):=by
     have hm':m<ws.length:=by exact zh7 hm lw
     have:ws[m]=u:=by rw[zF hm']at g1;exact Option.some.inj g1
     simp[pairsOf,hm',this]
    unfold KK
    rw[e,g2]
    rfl
   rw[kk i hi,kk j hj]at z
   have z':decide (ms[j]<ms[i])=false:=z
   have:=of_decide_eq_false z'
   lia
end
end L2
namespace K75
open PySem PySem.W L2 PyProof.Rows Srt
structure Txt3(mg:Str->Option Value):Prop where
 set:mg "set" = none
 reversed:mg "reversed" = none
inductive rEqJI(x:V)(y:V)(H:Hp)(Q:VK):Prop where
 |mk (p q:Addr) (ns ms:List Int) (h1:x = .ref p) (h2:y = .ref q) (h3:H p=some (.lst (ns.map V.int))) (h4:H q=some (.lst (ms.map V.int))) (h5:Q (.bl (decide (ns=ms))) H)
noncomputable def rEqJ:R2:=fun x y H Q=>rEqJI x y H Q
theorem op_eqJ{X:Cx}(hu:X.A.units<cLine):OpR X (compareOp .Eq) rEqJ:=by
 intro pins s σ H x y v u Q I rx ry h
 obtain⟨p,q',ns,ms,rfl,rfl,h1,h2,q⟩:=h
 cases rx
 cases ry
 obtain⟨its,r,pl,hz⟩:=I.list (SqL.of (K:=X.K) h1)
 obtain⟨its',r',pl',hz'⟩:=I.list (SqL.of (K:=X.K) h2)
 have l1:=r.length
 have l2:=r'.length
 rw[zB]at l1 l2
 by_cases e:ns.length=ms.length
 ·refine SeqAt.RcAt.lists pl.isList pl'.isList (by simp only[zQ];exact zci l1 l2 e) hu (e:=fun j=>decide (ns[j]?=ms[j]?)) (eqAt_ints r r') _ _ _ _ ?_
  have fin:=all_like (ns:=ns) (ms:=ms) (a:=ns.length) (b:=ns.length) rfl e.symm
  rw[Nat.min_self,beq_self_eq_true,Bool.and_true]at fin
  rw[zQ,<- l1,fin]
  exact⟨.bl _,H,I,rfl,q⟩
 ·refine SeqAt.RcAt.lists_lengths pl.isList pl'.isList (by simp only[zQ,bne_iff_ne];exact zcn l1 l2 e) hu _ _ _ _ ?_
  rw[decide_eq_false (fun z=>e (by rw[z]))]at q
  exact⟨.bl _,H,I,rfl,q⟩
theorem rises_iff:∀ ns:List Int,Rises ns=true↔ns.Pairwise (· < ·)
 |[]=>by simp[Rises]
 |[a]=>by simp[Rises]
 |a :: b :: r=>by
  have e:Rises (a :: b :: r)=(decide (a<b) && Rises (b :: r)):=rfl
  rw[e,zBJ,rises_iff (b :: r),decide_eq_true_eq,List.pairwise_cons (a:=a)]
  constructor
  ·rintro⟨h1,h2⟩
   refine⟨fun x hx=>?_,h2⟩
   rcases zW.mp hx with z | z
   ·rw[z];exact h1
   ·have:=List.rel_of_pairwise_cons h2 z
    lia
  ·rintro⟨h1,h2⟩
   exact⟨h1 b zX,h2⟩
theorem set_sorted{ns ms ks:List Int}(nd:ms.Nodup)(h:∀ x,x∈ms↔x∈ns)(p:ks.Perm ms)(s:ks.Pairwise (·<=·)):decide (ns=ks)=Rises ns:=by
 have nk:ks.Nodup:=p.nodup_iff.mpr nd
 have lt:ks.Pairwise (· < ·):=(List.pairwise_and_iff.mpr ⟨s,nk⟩).imp fun {a b} z=>by lia
 rw[zCP,decide_eq_true_eq,rises_iff]
 constructor
 ·intro e
  rw[e]
  exact lt
 ·intro hn
  have nn:ns.Nodup:=hn.imp fun {a b} z=>by lia
  refine List.Perm.eq_of_pairwise (le:=fun a b=>a<b) (fun a b _ _ h1 h2=>by lia) hn lt ?_
  exact(List.perm_ext_iff_of_nodup nn nk).mpr fun x=>by rw[p.mem_iff,h]
theorem lex2(a b c d:Int):HT.lexLt [a,b] [c,d] = !HT.lexLe [c,d] [a,b]:=by
 unfold HT.lexLt HT.lexLt HT.lexLt HT.lexLe HT.lexLe HT.lexLe
 by_cases h1:a=c
 ·subst h1
  rw[if_pos rfl,if_pos rfl]
  by_cases h2:b=d
  ·subst h2;simp
  ·rw[if_neg h2,if_neg (fun z=>h2 z.symm),zCP]
   simp
 ·rw[if_neg h1,if_neg (fun z=>h1 z.symm),zCP]
  simp
theorem at2{x y z:V}{r:List V}:atI (x :: y :: z :: r) 2=some z:=atI_nat (j:=2) rfl
theorem ahead_none{r:Str}{rs:List Str}(h:headN r=none):ahead (r :: rs) = .bad 0:=by
 show(match headN r with | none=>Res.bad 0 | some m=>goA m 1 [] rs)=_
 rw[h]
theorem ahead_some{r:Str}{rs:List Str}{m:Int}(h:headN r=some m):ahead (r :: rs)=goA m 1 [] rs:=by
 show(match headN r with | none=>Res.bad 0 | some m=>goA m 1 [] rs)=_
 rw[h]
inductive spRdI(vs:List V)(H:Hp)(Q:VK):Prop where
 |mk (l:Addr) (rows:List Str) (h1:vs=[.ref l]) (h2:H l=some (.lst (rows.map V.str))) (h3:RowsOk rows) (h4:(∀ k,whole rows = .bad k->∀ H',Same H H'->Q (.int (k:Int)) H')) (h5:∀ n ties ps u,whole rows = .pair n ties ps u->∀ (r t l:Addr) (H':Hp),H' r=some (.tup [.ref t,.ref l])->WebI H' t n ties->H' l=some (.lst (ps.map V.int))->ps.length<=120->Same H H'->Q (.ref r) H')
noncomputable def spRd:Sp:=fun vs H Q _=>spRdI vs H Q
section
variable{P:Program}{w:World}{K:PySem.W.Frag}{mg:Str->Option Value}{base:Heap}
noncomputable abbrev nRd:List Str:=["_law_rows","_law_many_here","_law_ties","_law_number","_law_row","_law_words","_law_numbers_here","_law_rises"]
theorem scRd:FnScope nRd ["_law_rows"] (defScope sRead):=⟨rfl,rfl,rfl,by decide +kernel,rfl,by decide +kernel,by decide +kernel⟩
theorem ok_rd{f g1:Addr}{fd d1:FuncData}(F:Fun K "_law_read" "_law_read" sRead f fd)(T:Txt mg)(T2:Txt2 mg)(T3:Txt3 mg)(GN:CalF P w K mg base 1 "_law_numbers" ["_law_words"] spLn g1 d1):FnOk P w K mg base CX0 2 f fd ["_law_rows"] spRd:=by
 refine F.ok scRd (fun vs H Q E h=>?_) (fun cdv A outer s H vs Q E hr h=>?_)
 ·obtain⟨l,rows,rfl,_⟩:=h
  rfl
 ·obtain⟨l,rows,rfl,gl,⟨rne,rl,rb⟩,qe,qp⟩:=h
  have hu0:_<cLine:=hr.units0
  refine⟨_,(pss_cons (ps_set (i:=1) scRd.nd rfl (Or.inl rfl) pe_non)
   (pss_cons (ps_set (i:=2) scRd.nd rfl (Or.inl rfl) (@pe_lst _ _ _ _ pa_nil))
   (pss_cons (ps_for PassesOwn.never rfl (pi_enumB false rfl T2.enum (@pa_nam _ _ _ _ _ _ (pvQ 0) pa_nil)) (pg_tup (n:=2) rfl (pgs_cons (pg_name (i:=3) scRd.nd rfl (Or.inl rfl)) (pgs_cons (pg_name (i:=4) scRd.nd rfl (Or.inl rfl)) pgs_nil)))
   (pss_cons (ps_set (i:=5) scRd.nd rfl (Or.inl rfl) (pe_bm PySem.F.plainAttrs_str PySem.F.slot_str_split PySem.F.type_str_split mt_split (pvQ 4) (@pa_cst _ _ _ _ _ _ _ pe_str pa_nil)))
   (pss_cons (ps_set (i:=6) scRd.nd rfl (Or.inl rfl) (pe_call GN.ok hr rfl GN.mg GN.kp GN.bd .nil pass0 (@pa_sub _ _ _ _ _ _ _ (pe_slice sl_list (pvQ 5) (po_some pe_int) po_none) pa_nil)))
   (pss_cons (ps_if (pt_cmp (pc_isN (pvQ 6))) (pss_one (ps_ret (pvQ 3))) pss_nil)
   (pss_one (ps_if (pt_cmpR op_eq (pvQ 3) pe_int (nomark _)) (pss_cons (ps_if (PW.pt (pw_or (pt_cmpR op_ne (@pe_ix _ _ _ _ _ _ _ ix_listH (pvQ 5) pe_int (fun _ _=>rfl)) pe_str (nomark _)) (pw_or (pt_cmpR op_ne (pe_callB call_lenH (by rfl) T.len PySem.boot_len (@pa_nam _ _ _ _ _ _ (pvQ 6) pa_nil)) pe_int (nomark _)) (pw_or1 (pt_cmpR op_lt (@pe_ix _ _ _ _ _ _ _ ix_listH (pvQ 6) pe_int (fun _ _=>rfl)) pe_int (nomark _)))))) (pss_one (ps_ret pe_int)) pss_nil)
   (pss_one (ps_set (i:=1) scRd.nd rfl (Or.inl rfl) (@pe_ix _ _ _ _ _ _ _ ix_listH (pvQ 6) pe_int (fun _ _=>rfl))))) (pss_one (ps_if (pt_cmpR op_eq (@pe_ix _ _ _ _ _ _ _ ix_listH (pvQ 5) pe_int (fun _ _=>rfl)) pe_str (nomark _)) (pss_cons (ps_set (i:=7) scRd.nd rfl (Or.inl rfl) (pe_cmpR (op_eqJ hu0) (pvQ 6) (pe_callB call_sortedJ (by rfl) T.sorted boot_sorted (@pa_call _ _ _ _ _ _ _ _ (pe_callTy call_setJ (by rfl) T3.set PyProof.Rows.boot_set (@pa_nam _ _ _ _ _ _ (pvQ 6) pa_nil)) pa_nil)) (nomark _)))
   (pss_cons (ps_if (PW.pt (pw_or (pt_cmpR op_lt (pe_callB call_lenH (by rfl) T.len PySem.boot_len (@pa_nam _ _ _ _ _ _ (pvQ 6) pa_nil)) pe_int (nomark _)) (pw_or (pt_not (pt_val (pvQ 7))) (pw_or1 (pt_cmpR op_ge (@pe_ix _ _ _ _ _ _ _ ix_listH (pvQ 6) (pe_un un_neg pe_int) (fun _ _=>rfl)) (pvQ 1) (nomark _)))))) (pss_one (ps_ret (pvQ 3))) pss_nil)
   (pss_one (ps_ret (pe_ifExp (pt_cmpR op_eq (pe_callB call_lenH (by rfl) T.len PySem.boot_len (@pa_nam _ _ _ _ _ _ (pvQ 0) pa_nil)) (pe_op op_add (pvQ 3) pe_int) (nomark _)) (@pe_tup _ _ _ _ _ (@pa_tup _ _ _ _ _ _ _ (@pe_tup _ _ _ _ _ (@pa_nam _ _ _ _ _ _ (pvQ 1) (@pa_call _ _ _ _ _ _ _ _ (pe_callTy call_tupleH (by rfl) T.tuple boot_tuple (@pa_nam _ _ _ _ _ _ (pvQ 2) pa_nil)) pa_nil))) (@pa_nam _ _ _ _ _ _ (pvQ 6) pa_nil))) (pe_op op_add (pvQ 3) pe_int)))))) (pss_cons (ps_if (PW.pt (pw_or (pt_cmpR op_ne (@pe_ix _ _ _ _ _ _ _ ix_listH (pvQ 5) pe_int (fun _ _=>rfl)) pe_str (nomark _)) (pw_or (pt_cmpR op_ne (pe_callB call_lenH (by rfl) T.len PySem.boot_len (@pa_nam _ _ _ _ _ _ (pvQ 6) pa_nil)) pe_int (nomark _)) (pw_or (pt_not (pt_chain op_lt op_lt (@pe_ix _ _ _ _ _ _ _ ix_listH (pvQ 6) pe_int (fun _ _=>rfl)) (@pe_ix _ _ _ _ _ _ _ ix_listH (pvQ 6) pe_int (fun _ _=>rfl)) (pvQ 1))) (pw_or1 (pt_cmpR op_eq (@pe_ix _ _ _ _ _ _ _ ix_listH (pvQ 6) pe_int (fun _ _=>rfl)) pe_int (nomark _))))))) (pss_one (ps_ret (pvQ 3))) pss_nil)
   (pss_cons (ps_if (PW.pt (pw_and (pt_cmpR (op_neE hu0) (pvQ 2) (@pe_lst _ _ _ _ pa_nil) (nomark _)) (pw_and1 (pt_not (pt_cmpR (op_ltT hu0) (pe_slice sl_tupA (@pe_ix _ _ _ _ _ _ _ ix_listH (pvQ 2) (pe_un un_neg pe_int) (fun _ _=>rfl)) po_none (po_some pe_int)) (@pe_tup _ _ _ _ _ (@pa_sub _ _ _ _ _ _ _ (@pe_ix _ _ _ _ _ _ _ ix_listH (pvQ 6) pe_int (fun _ _=>rfl)) (@pa_sub _ _ _ _ _ _ _ (@pe_ix _ _ _ _ _ _ _ ix_listH (pvQ 6) pe_int (fun _ _=>rfl)) pa_nil))) (nomark _)))))) (pss_one (ps_ret (pvQ 3))) pss_nil)
   (pss_one (ps_expr (pe_bmH PySem.F.slot_list_append PySem.F.type_list_append mt_append (pvQ 2) (@pa_call _ _ _ _ _ _ _ _ (pe_callTy call_tupleH (by rfl) T.tuple boot_tuple (@pa_nam _ _ _ _ _ _ (pvQ 6) pa_nil)) pa_nil))))))))))))))
   (pss_one (ps_ret (pe_callB call_lenH (by rfl) T.len PySem.boot_len (@pa_nam _ _ _ _ _ _ (pvQ 0) pa_nil))))))),?_⟩
  have rlen:(rows.map V.str).length=rows.length:=zB _
  have hpos:0<rows.length:=List.length_pos_iff.mpr rne
  refine⟨by show 0<=sizeLine;decide,fun ld hld=>?_⟩
  have s1:=Same.new (o:=.lst ([]:List V)) hld
  have gd1:(upd H ld (.lst ([]:List V))) ld=some (.lst (([]:List Addr).map V.ref)):=upd_same
  generalize (upd H ld (.lst ([]:List V)))=H1 at s1 gd1
  refine⟨l,rfl,⟨_,SqL.of (s1 _ _ gl)⟩,?_⟩
  refine for_enum (K:=K) (l:=l) (xs:=rows.map V.str) (fun i σ G=>Ex8 fun(v1:V) (v3 v4 v5 v6 v7:Option V) (as:List Addr) (ties:List Tie)=>σ=[some (.ref l),some v1,some (.ref ld),v3,v4,v5,v6,v7]/\Same H G/\G ld=some (.lst (as.map V.ref))/\Paired (fun a y=>G a=some (.tup (tieV y))) as ties/\ties.length<=i /\
    ((i=0/\ties=[])\/(1<=i/\∃ m,v1 = .int m/\ahead rows=goA m i ties (rows.drop i))))
   ⟨.non,_,_,_,_,_,[],[],rfl,s1,gd1,.nil,zH _,.inl ⟨rfl,rfl⟩⟩ (fun i σ G _ ⟨_,_,_,_,_,_,_,_,_,z,_⟩=>SqL.of (z _ _ gl)) ?_ ?_
  ·rintro i xv σ G U hxv ⟨v1,v3,v4,v5,v6,v7,as,ties,rfl,sG,gd,pa,tl,st⟩ hU
   refine⟨U,_,rfl,SqT.of upd_same,rfl,_,_,rfl,_,_,rfl,rfl,?_⟩
   have sU:=Same.new (o:=.tup [.int (i:Int),xv]) hU
   have sG:=sG.trans sU
   have gd:=sU _ _ gd
   have pa:Paired (fun a y=>(upd G U (.tup [.int (i:Int),xv])) a=some (HO.tup (tieV y))) as ties:=Paired.mapP pa fun _ _ h=>sU _ _ h
   generalize (upd G U (.tup [.int (i:Int),xv]))=G at sG gd pa
   clear sU hU
   obtain⟨jl,ex⟩:=zZ.mp hxv
   rw[rlen]at jl
   rw[zBC]at ex
   subst ex
   have hr0:RowB 120 rows[i]:=rb _ (zBG jl)
   have ed:rows.drop i=rows[i] :: rows.drop (i+1):=zCD jl
   generalize rows[i]=r at hr0 ed
   have rlr:=hr0.len
   obtain⟨v,ms,ew,ml,hm⟩:=hr0.word
   have fault:∀ {k:Nat}{G:Hp},ahead rows = .bad k->Same H G->Q (.int (k:Int)) G:=fun e s=>qe _ (by unfold whole;rw[e]) _ s
   refine⟨rfl,_,_,rfl,rfl,(by decide),(by rw[sizeLine_eq];exact zbr rlr),fun p hp=>?_⟩
   rw[show Txt.split r (Str.ofString " ")=v :: ms from ew]
   have s2:=Same.new (o:=.lst ((v :: ms).map V.str)) hp
   have gp:(upd G p (.lst ((v :: ms).map V.str))) p=some (.lst (.str v :: ms.map V.str)):=upd_same
   generalize (upd G p (.lst ((v :: ms).map V.str)))=G2 at s2 gp
   clear hp
   refine⟨1,rfl,p,_,rfl,SqL.of gp,fun p2 hp2=>?_⟩
   rw[cutV_tail,List.drop_one,List.tail_cons]
   have s3:=s2.trans (Same.new (o:=.lst (ms.map V.str)) hp2)
   have gp3:=Same.new (o:=.lst (ms.map V.str)) hp2 _ _ gp
   have gq3:(upd G2 p2 (.lst (ms.map V.str))) p2=some (.lst (ms.map V.str)):=upd_same
   generalize (upd G2 p2 (.lst (ms.map V.str)))=G3 at s3 gp3 gq3
   clear hp2 gp s2
   refine⟨p2,ms,rfl,gq3,by exact zl1 ml rfl,fun m z=>by have:=(hm m (zP _ z)).2;exact zl1 this rfl,fun ea G4 s4=>?_,fun ea ln G4 hln s4 gn=>?_⟩
   ·refine⟨_,rfl,iteT ?_⟩
    show Q (.int (i:Int)) _
    have er:rowN r=none:=by unfold rowN;rw[ew];dsimp only;rw[ea,if_neg zJ]
    refine fault ?_ (sG.trans (s3.trans s4))
    rcases st with⟨rfl,rfl⟩ |⟨i1,m,rfl,e⟩
    ·rw[List.drop_zero]at ed
     rw[ed]
     exact ahead_none (by unfold headN;rw[er])
    ·rw[e,ed,goA_step,er]
   have er:rowN r=some (v,ms.map vW):=by unfold rowN;rw[ew];dsimp only;rw[if_pos ea]
   have nn:∀ x∈ms.map vW,0<=x:=fun x hx=>by
    obtain⟨m,_,rfl⟩:=zAP.mp hx
    exact Int.natCast_nonneg _
   have nl:(ms.map vW).length<=120:=by rw[zB];exact ml
   generalize ms.map vW=ns at er nn nl gn
   have sG4:=sG.trans (s3.trans s4)
   have gp4:=s4 _ _ gp3
   have gd4:=(s3.trans s4) _ _ gd
   have pa4:Paired (fun a y=>G4 a=some (HO.tup (tieV y))) as ties:=Paired.mapP pa fun _ _ h=>(s3.trans s4) _ _ h
   have hld4:H ld=none:=hld
   clear pa gd gp3 gq3 sG s3 s4 hln
   have nsl:(ns.map V.int).length=ns.length:=zB _
   refine⟨_,rfl,iteF ?_⟩
   refine⟨rfl,_,rfl,ite2 (fun i0=>?_) (fun i0=>?_)⟩
   ·have i0:i=0:=by
     have q:=V.int.inj (of_decide_eq_true i0)
     lia
    subst i0
    have tn:ties=[]:=List.length_eq_zero_iff.mp (Nat.le_zero.mp tl)
    subst tn
    rw[List.drop_zero]at ed
    have bad:headN r=none->ahead rows = .bad 0:=fun z=>by rw[ed];exact ahead_none z
    refine⟨p,_,_,_,rfl,rfl,gp4,at0,rfl,_,rfl,ite2 (fun hv=>?_) (fun hv=>?_)⟩
    ·refine iteT (fault (bad ?_) sG4)
     unfold headN
     rw[er]
     split
     ·rename_i v' x hv'
      cases hv'
      rw[if_neg fun z=>by rw[z.1]at hv;simp at hv]
     ·rfl
    have hv:v=Str.ofString "web":=V.str.inj (by simpa using hv)
    refine⟨ln,_,rfl,gn,rfl,_,rfl,ite2 (fun hl=>?_) (fun hl=>?_)⟩
    ·refine iteT (fault (bad ?_) sG4)
     unfold headN
     rw[er]
     split
     ·rename_i v' x hv'
      cases hv'
      rw[nsl]at hl
      simp at hl
     ·rfl
    have n1:ns.length=1:=by
     rw[nsl]at hl
     have q:V.int (ns.length:Int)=V.int 1:=by simpa using hl
     injection q with q
     lia
    obtain⟨x,rfl⟩:∃ x,ns=[x]:=List.length_eq_one_iff.mp n1
    refine⟨ln,_,_,_,rfl,rfl,gn,at0,_,_,rfl,rfl,_,rfl,ite2 (fun hx=>?_) (fun hx=>?_)⟩
    ·refine fault (bad ?_) sG4
     unfold headN
     rw[er]
     dsimp only
     rw[if_neg fun z=>by have:=of_decide_eq_true hx;lia]
    have hx1:1<=x:=by
     have q:¬ x<1:=fun z=>hx (decide_eq_true z)
     lia
    refine⟨ln,_,_,_,rfl,rfl,gn,at0,?_⟩
    refine⟨.int x,_,_,_,_,_,as,[],rfl,sG4,gd4,pa4,zAO _,.inr ⟨zH _,x,rfl,?_⟩⟩
    show ahead rows=goA x 1 [] (rows.drop 1)
    have e1:rows.drop 1=rows.drop (0+1):=rfl
    rw[e1]
    generalize rows.drop (0+1)=rs at ed ⊢
    rw[ed]
    refine ahead_some ?_
    unfold headN
    rw[er]
    dsimp only
    rw[if_pos ⟨hv,hx1⟩]
   have ip:1<=i:=by
    have q:¬ V.int (i:Int)=V.int 0:=fun z=>i0 (decide_eq_true z)
    have:i≠0:=fun z=>q (by rw[z];rfl)
    exact zn5 (zj8 this)
   obtain⟨m,rfl,e⟩:∃ m,v1 = .int m/\ahead rows=goA m i ties (rows.drop i):=by
    rcases st with⟨z,_⟩ |⟨_,z⟩
    ·exact(zhu ip z).elim
    ·exact z
   rw[ed,goA_step,er]at e
   dsimp only at e
   refine⟨p,_,_,_,rfl,rfl,gp4,at0,rfl,_,rfl,ite2 (fun hv=>?_) (fun hv=>?_)⟩
   ·have hv:v=Str.ofString "posts":=V.str.inj (of_decide_eq_true hv)
    rw[if_pos hv]at e
    refine⟨ln,ns,rfl,gn,hr.hd,by exact zl1 nl rfl,fun S m1 hS nd mem=>?_⟩
    refine⟨S,m1,rfl,upd_same,hr.hd,?_,fun l2 ks hl2 pm srt=>?_⟩
    ·have q:=nd.length_le_of_subset (fun x hx=>(mem x).mp hx)
     exact zL q (zl2 nl rfl)
    have s5:=(Same.new (o:=(setJ (cxOf CX0 P w K mg base nRd "_law_read" (defScope sRead) f cdv A outer s H E).nox.w S m1)) hS).trans (Same.new (o:=.lst (ks.map V.int)) hl2)
    refine⟨ln,l2,ns,ks,rfl,rfl,s5 _ _ gn,upd_same,?_⟩
    rw[set_sorted nd mem pm srt]
    generalize (upd (upd G4 S (setJ (cxOf CX0 P w K mg base nRd "_law_read" (defScope sRead) f cdv A outer s H E).nox.w S m1)) l2 (.lst (ks.map V.int)))=G5 at s5 ⊢
    have gn5:=s5 _ _ gn
    have ret:ArePosts ns m=false->Q (.int (i:Int)) G5:=fun z=>by
     rw[z,if_neg zJ]at e
     exact fault e (sG4.trans s5)
    refine⟨ln,_,rfl,gn5,_,_,rfl,rfl,_,rfl,ite2 (fun h2=>?_) (fun h2=>?_)⟩
    ·refine iteT (ret ?_)
     have q:=of_decide_eq_true h2
     rw[nsl]at q
     unfold ArePosts
     rw[decide_eq_false (by exact zfa nl nsl q),Bool.false_and]
    have n2:2<=ns.length:=by
     have q:¬((ns.map V.int).length:Int)<2:=fun z=>h2 (decide_eq_true z)
     rw[nsl]at q
     lia
    refine⟨Rises ns,rfl,?_⟩
    cases er2:Rises ns with
    |false =>
     refine iteT (iteT (ret ?_))
     unfold ArePosts
     rw[er2,Bool.false_and,Bool.and_false]
    |true =>
    refine iteF ?_
    refine⟨_,rfl,ln,_,_,_,rfl,rfl,gn5,at_last (by exact zh7 (zl6 n2 rfl) (Eq.symm nsl)),_,_,by rw[zBC],rfl,_,rfl,?_⟩
    have eA:ArePosts ns m=decide (ns[(ns.map V.int).length-1]'(by exact zis nl nsl n2)<m):=by
     unfold ArePosts
     rw[er2,decide_eq_true n2,Bool.true_and,Bool.true_and,List.getLastD_eq_getLast?,zCQ,zF (by exact zh4 (zl6 n2 rfl))]
     simp only[nsl,Option.getD_some]
    refine ite2 (fun h3=>?_) (fun h3=>?_)
    ·refine ret ?_
     have q:=of_decide_eq_true h3
     rw[eA]
     exact decide_eq_false (by omega)
    have at':ArePosts ns m=true:=by
     rw[eA]
     have q:¬ _:=fun z=>h3 (decide_eq_true z)
     exact decide_eq_true (by omega)
    rw[at',if_pos rfl]at e
    have gd5:=s5 _ _ gd4
    have pa5:Paired (fun a y=>G5 a=some (HO.tup (tieV y))) as ties:=Paired.mapP pa4 fun _ _ h=>s5 _ _ h
    have sG5:=sG4.trans s5
    refine⟨l,_,rfl,sG5 _ _ gl,_,_,rfl,rfl,rfl,_,rfl,ite2 (fun h4=>?_) (fun h4=>?_)⟩
    ·have e4:rows.length=i+1:=by
      have q:=V.int.inj (of_decide_eq_true h4)
      rw[rlen]at q
      lia
     have ew2:whole rows = .pair m ties ns (i+1):=by
      unfold whole
      rw[e]
      dsimp only
      rw[if_neg (by exact zgd rlen e4)]
     refine⟨ld,_,rfl,gd5,fun tt htt=>?_⟩
     have st:=Same.new (o:=.tup (as.map V.ref)) htt
     have gtt:(upd G5 tt (.tup (as.map V.ref))) tt=some (.tup (as.map V.ref)):=upd_same
     generalize (upd G5 tt (.tup (as.map V.ref)))=H6 at st gtt
     refine⟨(by show 2<=sizeLine;decide),fun tw htw=>?_⟩
     have sw:=Same.new (o:=.tup [.int m,.ref tt]) htw
     have gtw:(upd H6 tw (.tup [.int m,.ref tt])) tw=some (.tup [.int m,.ref tt]):=upd_same
     generalize (upd H6 tw (.tup [.int m,.ref tt]))=H7 at sw gtw
     refine⟨(by show 2<=sizeLine;decide),fun r2 hr2=>?_⟩
     have s57:=st.trans sw
     have sr:=Same.new (o:=.tup [.ref tw,.ref ln]) hr2
     exact qp _ _ _ _ ew2 r2 tw ln _ upd_same ⟨tt,as,sr _ _ gtw,sr _ _ (sw _ _ gtt),Paired.mapP pa5 fun _ _ h=>sr _ _ (s57 _ _ h)⟩ (sr _ _ (s57 _ _ gn5)) nl (sG5.trans (s57.trans sr))
    ·have e4:i+1<rows.length:=by
      have q:¬ V.int ((rows.map V.str).length:Int)=V.int ((i:Int)+1):=fun z=>h4 (decide_eq_true z)
      rw[rlen]at q
      have:rows.length≠i+1:=fun z=>q (by rw[z];rfl)
      lia
     have q:=qe (i+1) (by unfold whole;rw[e];dsimp only;rw[if_pos e4]) G5 sG5
     exact⟨_,_,rfl,rfl,q⟩
   ·have hv:v≠Str.ofString "posts":=fun z=>hv (by rw[z];exact decide_eq_true rfl)
    rw[if_neg hv]at e
    have ret:∀ {G5:Hp},(v=Str.ofString "tie"/\IsTie ns m=true/\nextOk ties ns=true->False)->Same G4 G5->Q (.int (i:Int)) G5:=fun z s=>by
     rw[if_neg z]at e
     exact fault e (sG4.trans s)
    refine⟨p,_,_,_,rfl,rfl,gp4,at0,rfl,_,rfl,ite2 (fun ht=>?_) (fun ht=>?_)⟩
    ·exact iteT (ret (fun z=>by rw[z.1]at ht;simp at ht) (Same.refl _))
    have ht:v=Str.ofString "tie":=V.str.inj (by simpa using ht)
    refine⟨ln,_,rfl,gn,rfl,_,rfl,ite2 (fun hl=>?_) (fun hl=>?_)⟩
    ·refine iteT (ret (fun z=>?_) (Same.refl _))
     have z:=z.2.1
     unfold IsTie at z
     split at z
     ·rw[nsl]at hl
      simp at hl
     ·cases z
    have n3:ns.length=3:=by
     rw[nsl]at hl
     have q:V.int (ns.length:Int)=V.int 3:=by simpa using hl
     injection q with q
     lia
    obtain⟨a,b,c,rfl⟩:∃ a b c,ns=[a,b,c]:=by
     match ns,n3 with
     |[a,b,c],_=>exact⟨a,b,c,rfl⟩
    have a0:=nn a (by simp)
    have c0:=nn c (by simp)
    have gn3:G4 ln=some (.lst [.int a,.int b,.int c]):=gn
    refine⟨ln,_,_,_,rfl,rfl,gn3,at0,ln,_,_,_,rfl,rfl,gn3,at1,_,_,rfl,rfl,_,rfl,?_⟩
    have tieF:¬(a<b/\b<m/\1<=c)->Q (.int (i:Int)) G4:=fun z=>ret (fun y=>z (by have q:=of_decide_eq_true (show decide (0<=a/\a<b/\b<m/\1<=c)=true from y.2.1);exact⟨q.2.1,q.2.2.1,q.2.2.2⟩)) (Same.refl _)
    refine ite2 (fun hab=>?_) (fun hab=>?_)
    ·refine⟨_,_,rfl,rfl,_,rfl,?_⟩
     by_cases hbm:b<m
     ·rw[decide_eq_true hbm]
      refine iteF ?_
      refine⟨ln,_,_,_,rfl,rfl,gn3,at2,rfl,_,rfl,ite2 (fun hc=>?_) (fun hc=>?_)⟩
      ·have q:=V.int.inj (of_decide_eq_true hc)
       exact tieF fun z=>by lia
      have hc1:1<=c:=by
       have:c≠0:=fun z=>hc (decide_eq_true (by rw[z]))
       lia
      have hab:=of_decide_eq_true hab
      have hi:IsTie [a,b,c] m=true:=decide_eq_true ⟨a0,hab,hbm,hc1⟩
      have asl:as.length=ties.length:=pa4.length
      have len:(as.map V.ref).length+1<=sizeLine:=by
       have:=pa4.length
       rw[zB,sizeLine_eq]
       lia
      have fin:∀ {G5:Hp}{tp:Addr},Same G4 G5->G5 tp=some (.tup [.int a,.int b,.int c])->nextOk ties [a,b,c]=true->Ex8 fun(v1':V) (v3' v4' v5' v6' v7':Option V) (as':List Addr) (ties':List Tie)=>[some (V.ref l),some (.int m),some (.ref ld),some (.int (i:Int)),some (.str r),some (.ref p),some (.ref ln),v7]=[some (.ref l),some v1',some (.ref ld),v3',v4',v5',v6',v7']/\Same H (upd G5 ld (.lst (as.map V.ref++[.ref tp])))/\(upd G5 ld (.lst (as.map V.ref++[.ref tp]))) ld=some (.lst (as'.map V.ref))/\Paired (fun a y=>(upd G5 ld (.lst (as.map V.ref++[.ref tp]))) a=some (.tup (tieV y))) as' ties'/\ties'.length<=i+1 /\
        ((i+1=0/\ties'=[])\/(1<=i+1/\∃ m',v1' = .int m'/\ahead rows=goA m' (i+1) ties' (rows.drop (i+1)))):=fun {G5 tp} s5 gt5 hk=>by
       have gd5:=s5 _ _ gd4
       have keep:∀ {q:Addr}{zs:List V},G5 q=some (.tup zs)->(upd G5 ld (.lst (as.map V.ref++[.ref tp]))) q=some (.tup zs):=fun {q zs} h=>by
        rw[upd_ne (fun z=>by rw[z,gd5]at h;cases h)]
        exact h
       refine⟨.int m,_,_,_,_,_,as++[tp],ties++[(a,b,c)],rfl,same_put (sG4.trans s5) hld,by rw[upd_same,zAQ];rfl,Paired.snoc (Paired.mapP pa4 fun _ _ h=>keep (s5 _ _ h)) (keep gt5),by rw[zY];show ties.length+1<=i+1;exact zao tl asl,.inr ⟨by exact zAW 1 i,m,rfl,?_⟩⟩
       rw[if_pos ⟨ht,hi,hk⟩]at e
       exact e
      refine⟨(by show 0<=sizeLine;decide),fun le hle=>?_⟩
      have s5:=Same.new (o:=.lst ([]:List V)) hle
      have ge:(upd G4 le (.lst [])) le=some (.lst []):=upd_same
      generalize (upd G4 le (.lst []))=G5 at s5 ge
      have gd5:=s5 _ _ gd4
      have gn5:=s5 _ _ gn3
      have pa5:Paired (fun a y=>G5 a=some (HO.tup (tieV y))) as ties:=Paired.mapP pa4 fun _ _ h=>s5 _ _ h
      refine⟨ld,le,_,rfl,rfl,gd5,ge,_,rfl,?_⟩
      by_cases ha:as=[]
      ·have tn:ties=[]:=by rw[ha]at asl;exact List.length_eq_zero_iff.mp asl.symm
       rw[show(as.map V.ref).isEmpty=true by rw[ha];rfl]
       refine iteF (iteF ?_)
       refine⟨⟨ld,_,rfl,gd5⟩,ln,_,rfl,gn5,fun tp htp=>?_⟩
       have s6:=s5.trans (Same.new (o:=.tup [.int a,.int b,.int c]) htp)
       have gt:(upd G5 tp (.tup [.int a,.int b,.int c])) tp=some (.tup [.int a,.int b,.int c]):=upd_same
       generalize (upd G5 tp (.tup [.int a,.int b,.int c]))=G6 at s6 gt
       refine⟨ld,_,_,rfl,rfl,s6 _ _ gd4,len,?_⟩
       exact fin s6 gt (by rw[tn];rfl)
      ·have al:0<as.length:=List.length_pos_iff.mpr ha
       rw[show(as.map V.ref).isEmpty=false by cases as with | nil=>exact absurd rfl ha | cons _ _=>rfl]
       refine iteT ?_
       refine⟨_,rfl,ld,_,_,_,rfl,rfl,gd5,at_last (by rw[zB];exact al),?_⟩
       rw[zBC]
       have j1:(as.map V.ref).length-1<as.length:=by rw[zB];exact zh4 al
       have j2:(as.map V.ref).length-1<ties.length:=by rw[zB];exact zh7 (zh4 al) asl
       have gl5:=Paired.at pa5 _ j1 j2
       refine⟨2,rfl,as[(as.map V.ref).length-1],_,rfl,gl5,fun c1 H8 s8 gc1=>?_⟩
       refine⟨ln,_,_,_,rfl,rfl,s8 _ _ gn5,at0,ln,_,_,_,rfl,rfl,s8 _ _ gn5,at1,(by show 2<=sizeLine;decide),fun c2 hc2=>?_⟩
       have s9:=Same.new (o:=.tup [.int a,.int b]) hc2
       refine⟨c1,c2,[(ties[(as.map V.ref).length-1]).1,(ties[(as.map V.ref).length-1]).2.1],[a,b],rfl,rfl,SqT.of (s9 _ _ gc1),SqT.of upd_same,?_⟩
       have hk:nextOk ties [a,b,c] = !HT.lexLe [a,b] [(ties[(as.map V.ref).length-1]).1,(ties[(as.map V.ref).length-1]).2.1]:=by
        unfold nextOk
        have q:ties.getLast?=some ties[(as.map V.ref).length-1]:=by
         rw[zCQ,zF (by exact zh4 (zh7 al asl))]
         simp only[zB,asl]
        rw[q]
        rfl
       refine⟨_,rfl,?_⟩
       have s89:=s5.trans (s8.trans s9)
       generalize (upd H8 c2 (.tup [.int a,.int b]))=H9 at s9 s89 ⊢
       rw[lex2]
       cases hl:HT.lexLe [a,b] [(ties[(as.map V.ref).length-1]).1,(ties[(as.map V.ref).length-1]).2.1]with
       |true =>
        refine iteT (ret (fun z=>?_) s89)
        have z:=z.2.2
        rw[hk,hl]at z
        cases z
       |false =>
        refine iteF ?_
        have gd9:=s89 _ _ gd4
        have gn9:=s89 _ _ gn3
        refine⟨⟨ld,_,rfl,gd9⟩,ln,_,rfl,gn9,fun tp htp=>?_⟩
        have s6:=s89.trans (Same.new (o:=.tup [.int a,.int b,.int c]) htp)
        have gt:(upd H9 tp (.tup [.int a,.int b,.int c])) tp=some (.tup [.int a,.int b,.int c]):=upd_same
        generalize (upd H9 tp (.tup [.int a,.int b,.int c]))=G6 at s6 gt
        refine⟨ld,_,_,rfl,rfl,s6 _ _ gd4,len,?_⟩
        exact fin s6 gt (by rw[hk,hl];rfl)
     ·rw[decide_eq_false hbm]
      exact iteT (tieF fun z=>hbm z.2.1)
    ·exact⟨_,rfl,iteT (tieF fun z=>hab (decide_eq_true z.1))⟩
  ·rintro σ G ⟨v1,v3,v4,v5,v6,v7,as,ties,rfl,sG,gd,pa,tl,st⟩
   rw[rlen]at st
   rcases st with⟨z,_⟩ |⟨_,m,rfl,e⟩
   ·exact(zfe rl rlen hpos z).elim
   rw[List.drop_length]at e
   refine⟨l,_,rfl,sG _ _ gl,?_⟩
   rw[rlen]
   exact qe rows.length (by unfold whole;rw[e];rfl) G sG
end
end K75
namespace L2
open PySem PySem.W PySem.Calls PyProof.Rows PyProof.V PySem.Spec
theorem rvl_nolen:typeLookup (.type "list_reverseiterator") "__len__" = pure none:=by rw[typeLookup_type,builtinLookup_eq_fast];kernel_rfl
theorem rvl_lhint:typeLookup (.type "list_reverseiterator") "__length_hint__" = pure (some (.builtin "list_reverseiterator.__length_hint__")):=by rw[typeLookup_type,builtinLookup_eq_fast];kernel_rfl
section
variable{prog:Program}{w:World}{A:Around}{E:Value->Shared->Prop}{s:Shared}{r l:Addr}{xs:Array Value}
theorem rvl_hint{Q:Bool->Shared->Prop}(hT:s.TypeIs (.ref r) "list_reverseiterator")(h:Q false s):wpAny (model prog w) A (Builtin.List.listLengthHint (.ref r)) Q E s:=by
 unfold Builtin.List.listLengthHint
 refine zA (wpAny_specialOf hT rvl_nolen ?_)
 show wpAny _ _ (specialOf (Value.ref r) (Str.ofString "__length_hint__") >>= _) _ _ _
 refine zA (wpAny_specialOf hT rvl_lhint ?_)
 generalize hid:("list_reverseiterator.__length_hint__":String)=id0
 wp_delta
 rw[show splitId id0=some ("list_reverseiterator","__length_hint__")from by subst hid;decide +kernel]
 subst hid
 refine zA (wpAny_isInstance (b:=true) hT (by rw[isSubtype_type];kernel_rfl) ?_)
 exact zE h
theorem rvl_extend{R:Result->Shared->Prop}(hh:A.handled=none)(hne:l≠r)(hit:s.heap.IsRevIter r l ((xs.size:Int)-1))(hl:s.heap.IsList l xs)(S:Addr)(hSr:S≠r)(hSl:S≠l)(res:Value)(c₀:Nat)(hS:s.heap.get? S=some { cls:=.type "list",data:=.seq #[] c₀ })
  (hn:xs.size<=sizeLine)
  (hR:∀ h' tk acc' c',(∀ b o,b≠S->b≠r->s.heap.get? b=some o->h'.get? b=some o)->h'.get? S=some { cls:=.type "list",dict:=none,data:=.seq acc' c',slots:=#[] }->ItemsOf (fun i v=>xs[xs.size-1-i]?=some v) acc' xs.size->R (.ok (.ret res)) { s with heap:=h',toks:=tk }) :
  wpAny (model prog w) A.in1 (Builtin.List.listExtendWith (.ref S) (.ref r) res)
   (fun fin s'=>match fin with | .done f=>R (.ok f) s' | .again c'=>c'.quiet=true/\codeAny (model prog w) A c' R s') (fun e s'=>R (.error e) s') s:=by
 have hSf:S∉[r,l]:=by simp only[zW,zAT,or_false,not_or];exact⟨hSr,hSl⟩
 have W:=Walks.listRev (prog:=prog) (w:=w) (A:=A.in1) hh r l hne xs
 unfold Builtin.List.listExtendWith
 refine zA (wpAny_typeOf (T:="list_reverseiterator") hit.typeIs ?_)
 have h1:Builtin.List.listSameRef (.ref S) (.ref r)=false:=by simp[Builtin.List.listSameRef,hSr]
 rw[if_neg (by rw[h1];decide)]
 refine zA (wpAny_pyIter_revIter hit ?_)
 refine zA (wpAny_holding (rvl_hint hit.typeIs ?_))
 rw[if_neg (by decide)]
 refine zE ⟨plainId_quiet PySem.F.plain_extend_loop _,codeAny_extend_loopS W.toS hn S hSf res xs.size 0 s #[] c₀ rfl (zAO _) ⟨zAO _,by rw[Int.natCast_zero,Int.sub_zero];exact hit,hl⟩ hS (ItemsOf.nil _) fun s' acc' c' hm hS' hacc=>?_⟩
 rw[Moved.eq_with hm]
 refine hR s'.heap s'.toks acc' c' (fun b o hb hr e=>hm.heap b o (fun hmem=>?_) e) hS' hacc
 rcases zW.mp hmem with e' | hmem
 ·exact hb e'
 ·exact hr (zAA.mp hmem)
theorem rvl_call{Q:Value->Shared->Prop}(hh:A.handled=none)(hne:l≠r)(hit:s.heap.IsRevIter r l ((xs.size:Int)-1))(hl:s.heap.IsList l xs)(hn:xs.size<=sizeLine)
  (hQ:∀ h' tk acc' c',(∀ b o,b≠r->s.heap.get? b=some o->h'.get? b=some o)->h'.get? s.heap.objs.size=some { cls:=.type "list",dict:=none,data:=.seq acc' c',slots:=#[] }->acc'.toList=xs.toList.reverse->Q (.ref s.heap.objs.size) { s with heap:=h',toks:=tk }) :
  wpAny (model prog w) A (call (.type "list") [.ref r]) Q E s:=by
 refine callType_codes (Q₁:=fun obj s₁=>obj = .ref s.heap.objs.size/\s₁ = { s with heap:=s.heap.push { cls:=.type "list",data:=.seq #[] } }) PySem.F.called_list (PySem.F.typeCall_list_1 _) PySem.F.entry_list_init
  (code_list_new _ ⟨rfl,rfl⟩) fun obj s₁ h₁=>?_
 obtain⟨rfl,rfl⟩:=h₁
 have hS:(s.heap.push { cls:=.type "list",data:=.seq #[] }).get? s.heap.objs.size=some { cls:=.type "list",data:=.seq #[] }:=zU _ rfl
 have hr:s.heap.objs.size≠r:=zCA (zK hit.choose_spec.1)
 have hl2:s.heap.objs.size≠l:=zCA (zK hl.choose_spec.1)
 refine⟨⟨_,hS,rfl⟩,PySem.F.args_list_init_2 _ _,?_⟩
 show wpAny _ _ (do let old <- Builtin.List.listItems (.ref s.heap.objs.size);Builtin.List.listUpdate (.ref s.heap.objs.size) (fun _=>#[]);letGo old.toList.reverse;Builtin.List.listExtendWith (.ref s.heap.objs.size) (.ref r) .none) _ _ _
 refine zA ?_
 unfold Builtin.List.listItems
 refine zA (wpAny_seqItems hS rfl (zE ?_))
 show wpAny _ _ (updateSeq s.heap.objs.size (fun _=>#[]) >>= fun _=>letGo (#[]:Array Value).toList.reverse >>= fun _=>Builtin.List.listExtendWith (.ref s.heap.objs.size) (.ref r) .none) _ _ _
 refine zA (wpAny_updateSeq hS rfl ?_)
 have hS₂:=Heap.get?_update_self (Obj.mapSeq (fun _=>(#[]:Array Value))) hS rfl
 have oth:∀ b o,b≠s.heap.objs.size->s.heap.get? b=some o->((s.heap.push { cls:=.type "list",data:=.seq #[] }).update s.heap.objs.size (Obj.mapSeq (fun _=>(#[]:Array Value)))).get? b=some o :=
  fun b o hb e=>(Heap.get?_update_other _ _ (Ne.symm hb)).trans (zD _ e)
 refine zA (wpAny_letGo ?_)
 refine rvl_extend (A:=A.in1) (xs:=xs) (l:=l) hh hne (hit.at fun o e=>oth r o hr.symm e) (let ⟨o,ho,z⟩:=hl;⟨o,oth l o hl2.symm ho,z⟩) _ hr hl2 .none _ hS₂ hn (fun h' tk acc' c' hk hS' hacc=>?_)
 refine⟨rfl,hQ h' tk acc' c' (fun b o hb e=>hk b o (zAC (zK e)) hb (oth b o (zAC (zK e)) e)) hS' ?_⟩
 apply List.ext_getElem?
 intro i
 by_cases hi:i<xs.size
 ·have e1:acc'.toList[i]?=some (acc'[i]'(by rw[hacc.1];exact hi)):=by rw[zAH,zS (by rw[hacc.1];exact hi)]
  have e2:=hacc.2 i (acc'[i]'(by rw[hacc.1];exact hi)) (zS _)
  rw[e1,<- e2,List.getElem?_reverse (by rw[zO];exact hi),zO,zAH]
 ·rw[zCR (by rw[zO,hacc.1];exact zj3 hi),zCR (by rw[List.length_reverse,zO];exact zj3 hi)]
end
noncomputable def tLRev(te:TE):TE:=fun σ H Q=>te σ H fun x H1=>∃ a xs,x = .ref a/\H1 a=some (.lst xs)/\∀ p,H1 p=none->Q (.ref p) (upd H1 p (.lst xs.reverse))
theorem pe_listrev{X:Cx}{e:Expr}{te:TE}(hc:X.calm=true)(he:PE X e te)(hg:Gl X "list")(hm:X.mg "list" = none)(hg2:Gl X "reversed")(hm2:X.mg "reversed" = none){p p2 pos pos2:Pos}
  (hs:starEach [.Call (.Name "reversed" p2) [e] [] pos2] X.env=[(false,eval (.Call (.Name "reversed" p2) [e] [] pos2) X.env)]:=by rfl)
  (hs2:starEach [e] X.env=[(false,eval e X.env)]:=by rfl) :
  PE X (.Call (.Name "list" p) [.Call (.Name "reversed" p2) [e] [] pos2] [] pos) (tLRev te):=by
 intro pins s σ H Q I h
 refine wpAny_Call_Name_kw (ld_blt I hg hm boot_list ?_ (by decide) (by decide))
 refine PyProof.Rows.callWith_type1 ?_ (by rw[hs];rfl) (by rfl)
 rw[hs]
 refine Calls.spliced_cons ?_
 refine wpAny_Call_Name_kw (ld_blt I hg2 hm2 boot_reversed ?_ (by decide) (by decide))
 refine PyProof.Rows.callWith_type1 ?_ (by rw[hs2];rfl) (by rfl)
 rw[hs2]
 refine Calls.spliced_cons (thn (he pins s σ H _ I h) fun u s1 ⟨x,H1,I1,rx,a,xs,ex,ea,q1⟩=>Calls.spliced_nil ?_)
 subst ex
 obtain rfl:u=Value.ref a:=rx
 obtain⟨its,r,pl,hz⟩:=I1.list (SqL.of (K:=X.K) ea)
 have lv:=r.length
 refine call_reversed_list pl.isList ?_
 refine Calls.spliced_nil ?_
 have sz:(s1.heap.push (revObj a ((its.toArray.size:Int)-1))).objs.size=s1.heap.objs.size+1:=Heap.size_push ..
 have le:s1.heap.objs.size<=(s1.heap.push (revObj a ((its.toArray.size:Int)-1))).objs.size:=by rw[sz];exact zCG _
 have ne:a≠s1.heap.objs.size:=zAC (zK pl.isList.choose_spec.1)
 refine rvl_call (xs:=its.toArray) (l:=a) (I1.ok.hd hc) ne ⟨_,zU _ rfl,rfl,rfl⟩ (let ⟨o,ho,z⟩:=pl.isList;⟨o,zD _ ho,z⟩) (by rw[zQ];exact zh9 hz (Eq.symm lv)) fun h' tk acc c hk hS hacc=>?_
 have kp:∀ b o,s1.heap.get? b=some o->h'.get? b=some o:=fun b o e=>hk b o (zAC (zK e)) (zD _ e)
 refine⟨.ref _,_,I1.laid (t':=tk) kp le (show ObjOk X.prog X.w _ h' _ (.lst xs.reverse)from⟨by rw[List.length_reverse];exact hz,its.reverse,c,r.rev,by rw[show its.reverse=acc.toList from hacc.symm,Array.toArray_toList];exact hS⟩),rfl,q1 _ (I1.hok.fresh le)⟩
open PySem PySem.Spec PySem.W PyProof.Rows
noncomputable def PE1(X:Cx)(e:Expr)(t:TE):Prop :=
 ∀ (pins:List (Addr×Obj)) (s:Shared) (σ:St) (H:Hp) (Q:VK),1<=s.toks->Inv X pins σ H s->t σ H Q->wpAny (model X.prog X.w) X.A (eval e X.env) (EP X pins σ Q) X.xe s
noncomputable def PEt(X:Cx)(e:Expr)(t:TE):Prop :=
 ∀ (pins:List (Addr×Obj)) (s:Shared) (σ:St) (H:Hp) (Q:VK),Inv X pins σ H s->t σ H Q->wpAny (model X.prog X.w) X.A (eval e X.env) (fun u s'=>1<=s'.toks/\EP X pins σ Q u s') X.xe s
noncomputable def PA1(X:Cx)(es:List Expr)(t:TA):Prop :=
 ∀ (pos:Pos) (pins:List (Addr×Obj)) (s:Shared) (σ:St) (H:Hp) (Q:List V->Hp->Prop),1<=s.toks->Inv X pins σ H s->t σ H Q->wpAny (model X.prog X.w) X.A (spliced (backTo pos (starEach es X.env))) (AP X pins σ Q) X.xe s
section
variable{X:Cx}{e:Expr}{es:List Expr}{te:TE}{t:TA}
theorem toks1{α:Type}{u:Sem α}{Q:α->Shared->Prop}{A:Around}{E:Value->Shared->Prop}{s:Shared}{M:Model}(h:1<=s.toks)(k:wpAny M A u Q E s):wpAny M A u (fun a s'=>1<=s'.toks/\Q a s') E s :=
 wpAny_mono (wpAny_toks_of h k) (fun _ _ z=>z) fun _ _ z=>z.2
theorem pe1_of(h:PE X e te):PE1 X e te:=fun pins s σ H Q _ I q=>h pins s σ H Q I q
theorem pa1_nil:PA1 X [] tNil:=fun pos pins s σ H Q _ I h=>pa_nil pos pins s σ H Q I h
theorem pa1_cons(ha:PE1 X e te)(hr:PA1 X es t)(hs:starEach (e :: es) X.env=(false,eval e X.env) :: starEach es X.env:=by rfl):PA1 X (e :: es) (tCons te t):=by
 intro pos pins s σ H Q h1 I h
 rw[hs]
 show wpAny _ _ (spliced ((false,eval e X.env) :: backTo pos (starEach es X.env))) _ _ s
 refine Calls.spliced_cons (wpAny_mono (toks1 h1 (ha pins s σ H _ h1 I h)) (fun u s1 z=>?_) fun _ _ z=>z)
 obtain⟨h2,x,H1,I1,r1,q1⟩:=z
 exact thn (hr pos pins s1 σ H1 _ h2 I1 q1) fun us s2 ⟨xs,H2,I2,r2,q2⟩=>⟨x :: xs,H2,I2,.cons r1 r2,q2⟩
theorem pa_consT(ha:PEt X e te)(hr:PA1 X es t)(hs:starEach (e :: es) X.env=(false,eval e X.env) :: starEach es X.env:=by rfl):PA X (e :: es) (tCons te t):=by
 intro pos pins s σ H Q I h
 rw[hs]
 show wpAny _ _ (spliced ((false,eval e X.env) :: backTo pos (starEach es X.env))) _ _ s
 refine Calls.spliced_cons (thn (ha pins s σ H _ I h) fun u s1 z=>?_)
 obtain⟨h2,x,H1,I1,r1,q1⟩:=z
 exact thn (hr pos pins s1 σ H1 _ h2 I1 q1) fun us s2 ⟨xs,H2,I2,r2,q2⟩=>⟨x :: xs,H2,I2,.cons r1 r2,q2⟩
theorem pet_addC{op:Operator}{r:R2}{a:Expr}{ta:TE}{z:Str}{j:Nat}{p pos:Pos}(ho:OpR X (binaryOp op) r)(ha:PE X a ta):PEt X (.BinOp a op (.Constant (.str z) j p) pos) (tOp r ta (tC (.str z))):=by
 intro pins s σ H Q I h
 refine wpAny_BinOp (thn (ha pins s σ H _ I h) fun v s1 ⟨x,H1,I1,r1,q1⟩=>Calls.Constant_str ?_)
 exact toks1 (s:={ s1 with toks:=s1.toks+1 }) (zAW 1 s1.toks) (ho pins _ σ H1 x (.str z) v _ Q (I1.tok _) r1 ⟨_,rfl⟩ q1)
noncomputable def tRep(to:TE)(y z:Str):TE:=fun σ H Q=>to σ H fun x H1=>∃ u:Str,x = .str u/\u.length<=1000/\Q (.str (Txt.replace u y z)) H1
theorem pe1_rep{o:Expr}{to:TE}{y z:Str}{j1 j2:Nat}{apos cpos c1 c2:Pos}(ho:PE X o to)(hyz:(y == z)=false)(hz:z.length<=14)
  (hbase:attributeBase o "replace" X.env (eval o X.env)=eval o X.env:=by rfl)
  (hfew:((backTo cpos (starEach [.Constant (.str y) j1 c1,.Constant (.str z) j2 c2] X.env)).all (fun x=>!x.1) && (backToKw cpos (keywordEach [] X.env)).all (fun x=>x.1.isSome)
   && decide (([.Constant (.str y) j1 c1,.Constant (.str z) j2 c2]:List Expr).length+([]:List Keyword).length+(if([]:List Keyword).isEmpty then 0 else 1)<30))=true:=by rfl)
  (hline:(apos.endLine == cpos.line)=true:=by rfl) :
  PE1 X (.Call (.Attribute o "replace" apos) [.Constant (.str y) j1 c1,.Constant (.str z) j2 c2] [] cpos) (tRep to y z):=by
 intro pins s σ H Q h1 I h
 refine wpAny_Call_method_late hbase hfew hline rfl (wpAny_mono (toks1 h1 (ho pins s σ H _ I h)) (fun v s1 q=>?_) fun _ _ z=>z)
 obtain⟨h2,x,H1,I1,r1,u,rfl,ul,q1⟩:=q
 obtain⟨t1,rfl⟩:∃ t1,v=Value.str u t1:=r1
 refine⟨"str","str.replace",PySem.F.plainAttrs_str,PySem.F.slot_str_replace,PySem.F.type_str_replace,rfl,(fun a z=>nomatch z),?_⟩
 refine Calls.callWith_builtin (by rfl) (Calls.evalArgs_plain ?_)
 show wpAny _ _ (spliced [(false,eval (.Constant (.str y) j1 c1) X.env),(false,eval (.Constant (.str z) j2 c2) X.env)]) _ _ s1
 refine Calls.spliced_cons (Calls.Constant_str (k:=j1) (pos:=c1) (Calls.spliced_cons (Calls.Constant_str (k:=j2) (pos:=c2) (Calls.spliced_nil ?_))))
 refine SC.replaceW (by show s1.toks≠0;lia) (by show s1.toks+1≠0;exact zgj h2) (by show s1.toks≠s1.toks+1;exact zhx) hyz (by exact zl1 ul rfl) hz fun t' k=>?_
 exact⟨.str (Txt.replace u y z),H1,I1.tok _,⟨t',rfl⟩,q1⟩
end
end L2
namespace K75
open PySem PySem.W L2 PyProof.Rows
inductive spBrI(vs:List V)(H:Hp)(Q:VK):Prop where
 |mk (p:Addr) (r:Str) (N B:Nat) (h1:vs=[.ref p,.str r]) (h2:BoxAt H p N) (h3:N+5<2 ^ 40) (h4:RowB B r) (h5:4<=B) (h6:B<=60) (h7:∀ z H',RowB (2 * B+8) z->BoxAt H' p (N+5)->Kept p H H'->Q (.str z) H')
noncomputable def spBr:Sp:=fun vs H Q _=>spBrI vs H Q
noncomputable def menu:List Str:=[Str.ofString "",Str.ofString "0",Str.ofString "00",Str.ofString "7",Str.ofString "99",Str.ofString "-1",Str.ofString "+1",Str.ofString "1.0",Str.ofString "x",Str.ofString "tie",Str.ofString "web",Str.ofString "posts",Str.ofString "1 1",Str.ofString " "]
theorem menu_ok:∀ m∈menu,OkC m/\m.length<=5:=by decide +kernel
section
variable{P:Program}{w:World}{K:PySem.W.Frag}{mg:Str->Option Value}{base:Heap}
noncomputable abbrev nBr:List Str:=["_law_box_here","_law_row","_law_words","_law_at","_law_some","_law_word","_law_way"]
theorem scBr:FnScope nBr ["_law_box_here","_law_row"] (defScope sBentRow):=⟨rfl,rfl,rfl,by decide +kernel,rfl,by decide +kernel,by decide +kernel⟩
theorem ok_br{f g:Addr}{fd gd:FuncData}(F:Fun K "_law_bent_row" "_law_bent_row" sBentRow f fd)(T:Txt mg)(T3:Txt3 mg)(TK:TakeF P w K mg base g gd):FnOk P w K mg base CX0 2 f fd ["_law_box_here","_law_row"] spBr:=by
 refine F.ok scBr (fun vs H Q E h=>?_) (fun cdv A outer s H vs Q E hr h=>?_)
 ·obtain⟨p,r,N,B,rfl,_⟩:=h
  rfl
 ·obtain⟨p,r,N,B,rfl,bx,hN,hr0,b4,b60,q⟩:=h
  have hr1:Room 1 _:=hr.mono (by decide)
  refine⟨_,(@pss_cons _ _ _ _ _ (@ps_set _ _ 2 _ _ _ _ scBr.nd rfl (Or.inl rfl) (@pe_bm _ _ _ _ _ _ _ _ _ _ _ _ PySem.F.plainAttrs_str PySem.F.slot_str_split PySem.F.type_str_split mt_split (pvQ 1) (@pa_cst _ _ _ _ _ _ _ pe_str pa_nil) (by rfl) (by rfl) (by rfl) (by rfl) (by rfl)) (by rfl) (by first | exact .inl rfl | exact .inr rfl))
   (@pss_cons _ _ _ _ _ (@ps_set _ _ 3 _ _ _ _ scBr.nd rfl (Or.inl rfl) (pe_call TK.ok hr1 rfl TK.mg TK.kp TK.bd .nil pass0 (@pa_nam _ _ _ _ _ _ (pvQ 0) (@pa_call _ _ _ _ _ _ _ _ (pe_callB call_lenH (by rfl) T.len PySem.boot_len (@pa_nam _ _ _ _ _ _ (pvQ 2) pa_nil)) pa_nil))) (by rfl) (by first | exact .inl rfl | exact .inr rfl))
   (@pss_cons _ _ _ _ _ (@ps_set _ _ 4 _ _ _ _ scBr.nd rfl (Or.inl rfl) (@pe_lst _ _ _ _ (@pa_cst _ _ _ _ _ _ _ pe_str (@pa_cst _ _ _ _ _ _ _ pe_str (@pa_cst _ _ _ _ _ _ _ pe_str (@pa_cst _ _ _ _ _ _ _ pe_str (@pa_cst _ _ _ _ _ _ _ pe_str (@pa_cst _ _ _ _ _ _ _ pe_str (@pa_cst _ _ _ _ _ _ _ pe_str (@pa_cst _ _ _ _ _ _ _ pe_str (@pa_cst _ _ _ _ _ _ _ pe_str (@pa_cst _ _ _ _ _ _ _ pe_str (@pa_cst _ _ _ _ _ _ _ pe_str (@pa_cst _ _ _ _ _ _ _ pe_str (@pa_cst _ _ _ _ _ _ _ pe_str (@pa_cst _ _ _ _ _ _ _ pe_str pa_nil))))))))))))))) (by rfl) (by first | exact .inl rfl | exact .inr rfl))
   (@pss_cons _ _ _ _ _ (@ps_set _ _ 4 _ _ _ _ scBr.nd rfl (Or.inl rfl) (@pe_op _ _ _ _ _ _ _ _ op_cat (pvQ 4) (@pe_lst _ _ _ _ (@pa_bin _ _ _ _ _ _ _ _ (@pe_op _ _ _ _ _ _ _ _ op_add_str pe_str (@pe_ix _ _ _ _ _ _ _ ix_listH (pvQ 2) (pvQ 3) (fun _ _=>rfl))) (@pa_sub _ _ _ _ _ _ _ (@pe_ix _ _ _ _ _ _ _ ix_listH (pvQ 2) pe_int (fun _ _=>rfl)) pa_nil)))) (by rfl) (by first | exact .inl rfl | exact .inr rfl))
   (@pss_cons _ _ _ _ _ (@ps_set _ _ 5 _ _ _ _ scBr.nd rfl (Or.inl rfl) (@pe_ix _ _ _ _ _ _ _ ix_listH (pvQ 4) (pe_call TK.ok hr1 rfl TK.mg TK.kp TK.bd .nil pass0 (@pa_nam _ _ _ _ _ _ (pvQ 0) (@pa_call _ _ _ _ _ _ _ _ (pe_callB call_lenH (by rfl) T.len PySem.boot_len (@pa_nam _ _ _ _ _ _ (pvQ 4) pa_nil)) pa_nil))) (fun _ _=>rfl)) (by rfl) (by first | exact .inl rfl | exact .inr rfl))
   (@pss_cons _ _ _ _ _ (@ps_set _ _ 6 _ _ _ _ scBr.nd rfl (Or.inl rfl) (pe_call TK.ok hr1 rfl TK.mg TK.kp TK.bd .nil pass0 (@pa_nam _ _ _ _ _ _ (pvQ 0) (@pa_cst _ _ _ _ _ _ _ pe_int pa_nil))) (by rfl) (by first | exact .inl rfl | exact .inr rfl))
   (@pss_cons _ _ _ _ _ (@ps_if _ _ _ _ _ _ _ _ (pt_cmpR op_lt (pvQ 6) pe_int (nomark _)) (@pss_one _ _ _ (@ps_ret _ _ _ _ (@pe_bm _ _ _ _ _ _ _ _ _ _ _ _ PySem.F.plainAttrs_str PySem.F.slot_str_join PySem.F.type_str_join mt_join pe_str (@pa_bin _ _ _ _ _ _ _ _ (@pe_op _ _ _ _ _ _ _ _ op_cat (@pe_op _ _ _ _ _ _ _ _ op_cat (pe_slice sl_list (pvQ 2) po_none (po_some (pvQ 3))) (@pe_lst _ _ _ _ (@pa_nam _ _ _ _ _ _ (pvQ 5) pa_nil))) (pe_slice sl_list (pvQ 2) (po_some (@pe_op _ _ _ _ _ _ _ _ op_add (pvQ 3) pe_int)) po_none)) pa_nil) (by rfl) (by rfl) (by rfl) (by rfl) (by rfl)))) pss_nil)
   (@pss_cons _ _ _ _ _ (@ps_if _ _ _ _ _ _ _ _ (pt_cmpR op_eq (pvQ 6) pe_int (nomark _)) (@pss_one _ _ _ (@ps_ret _ _ _ _ (@pe_bm _ _ _ _ _ _ _ _ _ _ _ _ PySem.F.plainAttrs_str PySem.F.slot_str_join PySem.F.type_str_join mt_join pe_str (@pa_bin _ _ _ _ _ _ _ _ (@pe_op _ _ _ _ _ _ _ _ op_cat (pe_slice sl_list (pvQ 2) po_none (po_some (pvQ 3))) (pe_slice sl_list (pvQ 2) (po_some (@pe_op _ _ _ _ _ _ _ _ op_add (pvQ 3) pe_int)) po_none)) pa_nil) (by rfl) (by rfl) (by rfl) (by rfl) (by rfl)))) pss_nil)
   (@pss_cons _ _ _ _ _ (@ps_if _ _ _ _ _ _ _ _ (pt_cmpR op_eq (pvQ 6) pe_int (nomark _)) (@pss_one _ _ _ (@ps_ret _ _ _ _ (@pe_bm _ _ _ _ _ _ _ _ _ _ _ _ PySem.F.plainAttrs_str PySem.F.slot_str_join PySem.F.type_str_join mt_join pe_str (@pa_bin _ _ _ _ _ _ _ _ (@pe_op _ _ _ _ _ _ _ _ op_cat (@pe_op _ _ _ _ _ _ _ _ op_cat (pe_slice sl_list (pvQ 2) po_none (po_some (pvQ 3))) (@pe_lst _ _ _ _ (@pa_nam _ _ _ _ _ _ (pvQ 5) pa_nil))) (pe_slice sl_list (pvQ 2) (po_some (pvQ 3)) po_none)) pa_nil) (by rfl) (by rfl) (by rfl) (by rfl) (by rfl)))) pss_nil)
   (@pss_cons _ _ _ _ _ (@ps_if _ _ _ _ _ _ _ _ (pt_cmpR op_eq (pvQ 6) pe_int (nomark _)) (@pss_one _ _ _ (@ps_ret _ _ _ _ (@pe_bm _ _ _ _ _ _ _ _ _ _ _ _ PySem.F.plainAttrs_str PySem.F.slot_str_join PySem.F.type_str_join mt_join pe_str (@pa_bin _ _ _ _ _ _ _ _ (@pe_op _ _ _ _ _ _ _ _ op_cat (pe_slice sl_list (pvQ 2) po_none (po_some pe_int)) (pe_listrev rfl (pe_slice sl_list (pvQ 2) (po_some pe_int) po_none) (by rfl) T.list (by rfl) T3.reversed)) pa_nil) (by rfl) (by rfl) (by rfl) (by rfl) (by rfl)))) pss_nil)
   (@pss_one _ _ _ (@ps_ret _ _ _ _ (@pe_ix _ _ _ _ _ _ _ ix_listH (@pe_lst _ _ _ _ (@pa_consT _ _ _ _ _ (pet_addC op_add_str (pvQ 1)) (@pa1_cons _ _ _ _ _ (pe1_of (@pe_op _ _ _ _ _ _ _ _ op_add_str pe_str (pvQ 1))) (@pa1_cons _ _ _ _ _ (pe1_of (pe_bm0 PySem.F.plainAttrs_str PySem.F.slot_str_upper PySem.F.type_str_upper mt_upper (pvQ 1))) (@pa1_cons _ _ _ _ _ (pe1_of pe_str) (@pa1_cons _ _ _ _ _ (pe1_rep (pvQ 1) (by rfl) (by decide +kernel)) pa1_nil (by rfl)) (by rfl)) (by rfl)) (by rfl)) (by rfl))) (pe_call TK.ok hr1 rfl TK.mg TK.kp TK.bd .nil pass0 (@pa_nam _ _ _ _ _ _ (pvQ 0) (@pa_cst _ _ _ _ _ _ _ pe_int pa_nil))) (fun _ _=>rfl)))))))))))))),?_⟩
  obtain⟨v,ms,ew,cW,lW⟩:=hr0.wds
  have rl:=hr0.len
  refine⟨rfl,_,_,rfl,rfl,(by decide),(by rw[sizeLine_eq];exact zjb b4 b60 rl),fun l hl=>?_⟩
  rw[show Txt.split r (Str.ofString " ")=v :: ms from ew]
  have s1:=Same.new (o:=.lst ((v :: ms).map V.str)) hl
  have gl:(upd H l (.lst ((v :: ms).map V.str))) l=some (.lst ((v :: ms).map V.str)):=upd_same
  have b1:=bx.same s1
  have k1:Kept p H _:=Kept.ext Kept.refl s1
  generalize (upd H l (.lst ((v :: ms).map V.str)))=H1 at s1 gl b1 k1
  have wpos:0 <(v :: ms).length:=by rw[zV];exact Nat.succ_pos ms.length
  have wl:=Ls_len (v :: ms)
  have lp:l≠p:=bx.ne hl
  generalize v :: ms=ws at cW lW gl wpos wl ew
  clear s1 hl bx
  refine⟨l,_,rfl,gl,p,_,N,rfl,b1,by exact zL (zI N 5) hN,?_,?_,fun z H2 z0 z1 b2 k2=>?_⟩
  ·rw[zB];lia
  ·rw[zB];lia
  rw[zB]at z1
  obtain⟨i,rfl⟩:=zBQ z0
  have hi:i<ws.length:=by exact zi3 z1
  have gl2:=k2 _ _ lp gl
  replace k2:=k1.trans k2
  clear k1 b1 gl z0 z1 H1
  refine⟨(by show 14<=sizeLine;decide),fun ls hls=>?_⟩
  have s3:=Same.new (o:=.lst (menu.map V.str)) hls
  have gs:(upd H2 ls (.lst (menu.map V.str))) ls=some (.lst (menu.map V.str)):=upd_same
  show gName 4 (.ref ls) _ (upd H2 ls (.lst (menu.map V.str))) _
  have b3:=b2.same s3
  have k3:=k2.ext s3
  have gl3:=s3 _ _ gl2
  generalize (upd H2 ls (.lst (menu.map V.str)))=H3 at s3 gs b3 k3 gl3 ⊢
  clear s3 hls b2 k2 gl2
  have at_i:atI (ws.map V.str) (i:Int)=some (.str ws[i]):=atI_nat (j:=i) (by rw[zAJ,zF hi];rfl)
  have at_0:atI (ws.map V.str) 0=some (.str ws[0]):=atI_nat (j:=0) (by rw[zAJ,zF wpos];rfl)
  have li:=Ls_mem (zBG hi)
  have l0:=Ls_mem (zBG wpos)
  refine⟨l,_,_,_,rfl,rfl,gl3,at_i,_,_,rfl,rfl,(by rw[sizeLine_eq,show(Str.ofString "0").length=1 from rfl];exact zji b4 b60 lW wpos hi li),?_⟩
  refine⟨l,_,_,_,rfl,rfl,gl3,at_0,(by show 2<=sizeLine;decide),fun ld hld=>?_⟩
  have s4:=Same.new (o:=.lst ([Str.ofString "0"++ws[i],ws[0]].map V.str)) hld
  have gd:(upd H3 ld (.lst ([Str.ofString "0"++ws[i],ws[0]].map V.str))) ld=some (.lst ([Str.ofString "0"++ws[i],ws[0]].map V.str)):=upd_same
  show rCat (.ref ls) (.ref ld) (upd H3 ld (.lst ([Str.ofString "0"++ws[i],ws[0]].map V.str))) _
  have gs4:=s4 _ _ gs
  generalize (upd H3 ld (.lst ([Str.ofString "0"++ws[i],ws[0]].map V.str)))=H4 at s4 gd gs4 ⊢
  refine⟨ls,ld,_,_,rfl,rfl,gs4,gd,(by show 14+2<=sizeLine;decide),fun lm hlm=>?_⟩
  rw[<- zAQ]
  have mem:∀ m∈menu++[Str.ofString "0"++ws[i],ws[0]],OkC m/\m.length<=B+1:=fun m hm=>by
   rcases zAB.mp hm with z | z
   ·have:=menu_ok m z
    exact⟨this.1,by lia⟩
   ·rcases zW.mp z with z | z
    ·rw[z,len_cat,show(Str.ofString "0").length=1 from rfl]
     exact⟨OkC.cat (by decide +kernel) (cW _ (zBG hi)),by lia⟩
    ·rw[zAA.mp z]
     exact⟨cW _ (zBG wpos),by exact zj2 (zC l0 lW)⟩
  have ml:(menu++[Str.ofString "0"++ws[i],ws[0]]).length=16:=rfl
  generalize menu++[Str.ofString "0"++ws[i],ws[0]]=some_ at mem ml ⊢
  have s5:=s4.trans (Same.new (o:=.lst (some_.map V.str)) hlm)
  have gm:(upd H4 lm (.lst (some_.map V.str))) lm=some (.lst (some_.map V.str)):=upd_same
  generalize (upd H4 lm (.lst (some_.map V.str)))=H5 at s5 gm ⊢
  clear s4 hlm gs4 gd hld
  have b5:=b3.same s5
  have k5:=k3.ext s5
  have gl5:=s5 _ _ gl3
  clear b3 k3 gl3 gs s5 at_0 l0 H4 H3 H2
  refine⟨lm,_,rfl,gm,p,_,_,rfl,b5,by lia,?_,?_,fun z H6 z0 z1 b6 k6=>?_⟩
  ·rw[zB];lia
  ·rw[zB];lia
  rw[zB]at z1
  obtain⟨wd,wm,at_w⟩:=at_some z0 z1
  obtain⟨cwd,lwd⟩:=mem wd wm
  have lmp:lm≠p:=fun e=>by
   obtain⟨a,b,c,e1,_⟩:=b5
   rw[<- e,gm]at e1
   have:=congrArg List.length (HO.lst.inj (Option.some.inj e1))
   rw[zB,ml]at this
   cases this
  have gm6:=k6 _ _ lmp gm
  have gl6:=k6 _ _ lp gl5
  replace k6:=k5.trans k6
  clear k5 b5 gm gl5 z0 z1 H5
  refine⟨lm,_,_,_,rfl,rfl,gm6,at_w,?_⟩
  clear at_w wm mem ml gm6 lmp
  refine⟨p,7,_,rfl,b6,by exact zj1 (zj1 (zj1 hN)),by decide,by decide,fun z H7 z0 z1 b7 k7=>?_⟩
  have gl7:=k7 _ _ lp gl6
  replace k7:=k6.trans k7
  clear k6 b6 gl6 H6
  have rl2:=RowB.mono hr0 (B':=2 * B+8) (by exact zen b4 b60 hi)
  have fin:∀ {G:Hp}{l':Addr}{ps:List Str},Same H7 G->G l'=some (.lst (ps.map V.str))->(∀ m∈ps,OkC m)->Ls ps<=2 * B+9->rJoin K (.str (Str.ofString " ")) [.ref l'] G Q:=fun {G l' ps} sG g hc hl=>by
   refine⟨_,l',ps,rfl,rfl,SqL.of g,?_,?_⟩
   ·have e:=sum_succ 0 ps
    rw[show(Str.ofString " ").length=1 from rfl,e]
    lia
   ·rw[show Txt.join (Str.ofString " ") ps=(sg 32).join ps by rw[sg_bl];exact PySem.StrLaws.glued_eq_join _ _]
    exact q _ _ (rowb_join hc hl) ((b7.same sG).mono (by exact zj2 (zCG (N+1+1+1+1)))) (k7.ext sG)
  have hT:∀ m∈ws.take i,OkC m:=fun m hm=>cW m (List.mem_of_mem_take hm)
  have hD:∀ {j:Nat},∀ m∈ws.drop j,OkC m:=fun m hm=>cW m (List.mem_of_mem_drop hm)
  have eL:=take_drop_Ls hi
  have eT:Ls (ws.take i)+Ls (ws.drop i)=Ls ws:=by rw[<- Ls_app,zBN]
  have l1w:Ls [wd]=wd.length+1:=rfl
  refine⟨_,_,rfl,rfl,_,rfl,ite2 (fun h1=>?_) (fun h1=>?_)⟩
  ·refine⟨rfl,_,rfl,til_of gl7 fun q1 G1 t1 g1=>?_⟩
   refine⟨(by show 1<=sizeLine;decide),fun q2 hq2=>?_⟩
   have t2:=Same.new (o:=.lst ([wd].map V.str)) hq2
   have g2:(upd G1 q2 (.lst ([wd].map V.str))) q2=some (.lst ([wd].map V.str)):=upd_same
   show rCat (.ref q1) (.ref q2) (upd G1 q2 (.lst ([wd].map V.str))) _
   generalize (upd G1 q2 (.lst ([wd].map V.str)))=G2 at t2 g2 ⊢
   refine cat_of (t2 _ _ g1) g2 (by rw[zAD];show _+1<=_;exact zam b4 b60 lW wl hi eL eT) fun q3 G3 t3 g3=>?_
   have t4:=t1.trans (t2.trans t3)
   refine⟨_,_,rfl,rfl,_,rfl,frm_of (i:=i+1) (by exact zbp hi) (t4 _ _ gl7) fun q4 G4 t5 g4=>?_⟩
   refine cat_of (t5 _ _ g3) g4 (by rw[zY,zAD,zAN];show _+1+_<=_;exact zgl b4 b60 lW wl hi eL eT) fun q5 G5 t6 g5=>?_
   refine fin (t4.trans (t5.trans t6)) g5 (fun m hm=>?_) ?_
   ·rcases zAB.mp hm with z | z
    ·rcases zAB.mp z with z | z
     ·exact hT m z
     ·rw[zAA.mp z];exact cwd
    ·exact hD m z
   ·rw[Ls_app,Ls_app,l1w];exact zdt lW hi lwd eL eT l1w
  refine⟨rfl,_,rfl,ite2 (fun h2=>?_) (fun h2=>?_)⟩
  ·refine⟨rfl,_,rfl,til_of gl7 fun q1 G1 t1 g1=>?_⟩
   refine⟨_,_,rfl,rfl,_,rfl,frm_of (i:=i+1) (by exact zbp hi) (t1 _ _ gl7) fun q4 G4 t5 g4=>?_⟩
   refine cat_of (t5 _ _ g1) g4 (by rw[zAD,zAN];exact zgk b4 b60 lW wl hi eL eT) fun q5 G5 t6 g5=>?_
   refine fin (t1.trans (t5.trans t6)) g5 (fun m hm=>?_) ?_
   ·rcases zAB.mp hm with z | z
    ·exact hT m z
    ·exact hD m z
   ·rw[Ls_app];exact zco lW wl hi eL eT
  refine⟨rfl,_,rfl,ite2 (fun h3=>?_) (fun h3=>?_)⟩
  ·refine⟨rfl,_,rfl,til_of gl7 fun q1 G1 t1 g1=>?_⟩
   refine⟨(by show 1<=sizeLine;decide),fun q2 hq2=>?_⟩
   have t2:=Same.new (o:=.lst ([wd].map V.str)) hq2
   have g2:(upd G1 q2 (.lst ([wd].map V.str))) q2=some (.lst ([wd].map V.str)):=upd_same
   show rCat (.ref q1) (.ref q2) (upd G1 q2 (.lst ([wd].map V.str))) _
   generalize (upd G1 q2 (.lst ([wd].map V.str)))=G2 at t2 g2 ⊢
   refine cat_of (t2 _ _ g1) g2 (by rw[zAD];show _+1<=_;exact zam b4 b60 lW wl hi eL eT) fun q3 G3 t3 g3=>?_
   have t4:=t1.trans (t2.trans t3)
   refine⟨_,rfl,frm_of (i:=i) rfl (t4 _ _ gl7) fun q4 G4 t5 g4=>?_⟩
   refine cat_of (t5 _ _ g3) g4 (by rw[zY,zAD,zAN];show _+1+_<=_;exact zea b4 b60 lW wl hi eL eT) fun q5 G5 t6 g5=>?_
   refine fin (t4.trans (t5.trans t6)) g5 (fun m hm=>?_) ?_
   ·rcases zAB.mp hm with z | z
    ·rcases zAB.mp z with z | z
     ·exact hT m z
     ·rw[zAA.mp z];exact cwd
    ·exact hD m z
   ·rw[Ls_app,Ls_app,l1w];exact zdu lW hi lwd eL eT l1w
  refine⟨rfl,_,rfl,ite2 (fun h4=>?_) (fun h4=>?_)⟩
  ·refine⟨rfl,_,rfl,til_of (i:=1) gl7 fun q1 G1 t1 g1=>?_⟩
   refine⟨_,rfl,frm_of (i:=1) rfl (t1 _ _ gl7) fun q2 G2 t2 g2=>?_⟩
   refine⟨q2,_,rfl,g2,fun q3 hq3=>?_⟩
   rw[<- List.map_reverse]
   have t3:=Same.new (o:=.lst ((ws.drop 1).reverse.map V.str)) hq3
   have g3:(upd G2 q3 (.lst ((ws.drop 1).reverse.map V.str))) q3=some (.lst ((ws.drop 1).reverse.map V.str)):=upd_same
   show rCat (.ref q1) (.ref q3) _ _
   generalize (upd G2 q3 (.lst ((ws.drop 1).reverse.map V.str)))=G3 at t3 g3 ⊢
   refine cat_of ((t2.trans t3) _ _ g1) g3 (by rw[zAD,List.length_reverse,zAN];exact zdg b4 b60 lW wpos wl hi eL eT) fun q5 G5 t6 g5=>?_
   refine fin (t1.trans (t2.trans (t3.trans t6))) g5 (fun m hm=>?_) ?_
   ·rcases zAB.mp hm with z | z
    ·exact cW m (List.mem_of_mem_take z)
    ·exact hD m (List.mem_reverse.mp z)
   ·rw[Ls_app,Ls_rev,<- Ls_app,zBN];exact zcg lW wl hi eL eT
  refine⟨r,Str.ofString " ",rfl,rfl,(by rw[sizeLine_eq,show(Str.ofString " ").length=1 from rfl];exact ziw b4 b60 rl hi),?_⟩
  refine⟨Str.ofString " ",r,rfl,rfl,(by rw[sizeLine_eq,show(Str.ofString " ").length=1 from rfl];exact zja b4 b60 rl hi),?_⟩
  refine⟨rfl,r,rfl,rfl,?_,?_⟩
  ·have:=hr0.upper.len
   exact decide_eq_false (by rw[sizeLine_eq];exact zgg b4 b60 hi this)
  refine⟨r,rfl,by exact zC rl (zl1 b60 rfl),?_⟩
  refine⟨(by show 5<=sizeLine;decide),fun ld hld=>?_⟩
  have hsp:RowB 1 (Str.ofString " "):=⟨by decide +kernel,by decide +kernel⟩
  have all:∀ m∈[r++Str.ofString " ",Str.ofString " "++r,Txt.upper r,Str.ofString "",Txt.replace r (Str.ofString " ") (Str.ofString "  ")],RowB (2 * B+8) m:=fun m hm=>by
   simp only[zW,zAT,or_false]at hm
   rcases hm with rfl | rfl | rfl | rfl | rfl
   ·exact(hr0.cat hsp).mono (by exact zdz b4 b60 hi)
   ·exact(hsp.cat hr0).mono (by exact zds b4 b60 hi)
   ·exact hr0.upper
   ·exact⟨by decide +kernel,zAO _⟩
   ·exact hr0.rep
  have al:[r++Str.ofString " ",Str.ofString " "++r,Txt.upper r,Str.ofString "",Txt.replace r (Str.ofString " ") (Str.ofString "  ")].length=5:=rfl
  show tCall spTake [] E0 _ _ (upd H7 ld (.lst ([r++Str.ofString " ",Str.ofString " "++r,Txt.upper r,Str.ofString "",Txt.replace r (Str.ofString " ") (Str.ofString "  ")].map V.str))) _
  generalize [r++Str.ofString " ",Str.ofString " "++r,Txt.upper r,Str.ofString "",Txt.replace r (Str.ofString " ") (Str.ofString "  ")]=five at all al ⊢
  have s8:=Same.new (o:=.lst (five.map V.str)) hld
  have g8:(upd H7 ld (.lst (five.map V.str))) ld=some (.lst (five.map V.str)):=upd_same
  have ldp:=b7.ne hld
  generalize (upd H7 ld (.lst (five.map V.str)))=H8 at s8 g8 ⊢
  refine⟨p,5,_,rfl,b7.same s8,by exact zj1 (zj1 hN),by decide,by decide,fun z H9 z0 z1 b9 k9=>?_⟩
  obtain⟨y,ym,at_y⟩:=at_some z0 (show z <(five.length:Int) by lia)
  refine⟨ld,_,_,_,rfl,rfl,k9 _ _ ldp g8,at_y,?_⟩
  exact q y _ (all y ym) (b9.mono (by exact zCG (N+1+1+1+1))) ((k7.ext s8).trans k9)
end
end K75
namespace L2
open PySem PySem.W PyProof.Rows
theorem comp_enumB{b:Bool}{K:PySem.W.Frag}{l:Addr}{xs:List V}{g:TG}{tc:TT}{te:TE}{cap:List (Option Nat)}{σ:St}{H1:Hp}{Q:VK}(P:Nat->List V->Hp->Prop)(hz:xs.length<=sizeLine)(p0:P 0 [] H1)(hl:∀ i ys H,i<=xs.length->P i ys H->SqB b K H l xs)
  (hs:∀ i x zs H T,xs[i]?=some x->P i zs H->H T=none->g (.ref T) (capt cap σ) (upd H T (.tup [.int i,x])) fun σ2 H2=>Kp (capt cap σ) σ2/\tc σ2 H2 fun z H3=>if z=true then te σ2 H3 fun y H4=>P (i+1) (zs++[y]) H4 else P (i+1) zs H3)
  (hd:∀ zs H,zs.length<=xs.length->P xs.length zs H->∀ D,H D=none->Q (.ref D) (upd H D (.lst zs))):compTurns (IteB b K l) cap σ H1 Q g tc te:=by
 refine⟨xs.length,P,hz,p0,fun i zs H yl il p=>?_⟩
 have q:=hl i zs H il p
 by_cases hlt:i<xs.length
 ·refine .inr ⟨hlt,⟨xs,xs[i],q,by simp[hlt]⟩,fun x H' y=>?_⟩
  obtain⟨T,x',e1,hT,e2,y⟩:=y
  subst e1
  subst e2
  exact hs i x' zs H T (y xs q) p hT
 ·have e:i=xs.length:=by exact zj7 il hlt
  subst e
  exact .inl ⟨⟨xs,q,zH _⟩,hd zs H yl p⟩
end L2
namespace K75
open PySem PySem.W L2 PyProof.Rows
theorem box_ne{G:Hp}{p l:Addr}{N:Nat}{ws:List Str}(B:BoxAt G p N)(g:G l=some (.lst (ws.map V.str))):l≠p:=by
 rintro rfl
 obtain⟨a,b,c,e,_⟩:=B
 rw[g]at e
 cases ws with
 |nil=>cases e
 |cons x r=>rw[zAS]at e;cases e
theorem at_lst{xs:List V}{v:V}(h:xs[xs.length-1]?=some v):atI xs (-1)=some v:=by
 have hj:=(zZ.mp h).1
 unfold atI ixN
 rw[if_neg (by lia),if_pos (by lia)]
 show xs[(-1+(xs.length:Int)).toNat]?=_
 rw[show(-1+(xs.length:Int)).toNat=xs.length-1 by exact zn7]
 exact h
inductive spBtI(vs:List V)(H:Hp)(Q:VK):Prop where
 |mk (p l:Addr) (rows:List Str) (N B:Nat) (h1:vs=[.ref p,.ref l]) (h2:BoxAt H p N) (h3:N+8<2 ^ 40) (h4:H l=some (.lst (rows.map V.str))) (h5:0<rows.length) (h6:rows.length<=500) (h7:(∀ r∈rows,RowB B r)) (h8:9<=B) (h9:B<=60) (h10:∀ (r:Addr) (rows':List Str) H',H' r=some (.lst (rows'.map V.str))->rows'.length<=rows.length+1->(∀ r∈rows',RowB (2 * B+8) r)->BoxAt H' p (N+8)->Kept p H H'->Q (.ref r) H')
noncomputable def spBt:Sp:=fun vs H Q _=>spBtI vs H Q
section
variable{P:Program}{w:World}{K:PySem.W.Frag}{mg:Str->Option Value}{base:Heap}
noncomputable abbrev nBt:List Str:=["_law_box_here","_law_rows","_law_at","_law_to","_law_way"]
theorem scBt:FnScope nBt ["_law_box_here","_law_rows"] (defScope sBent):=⟨rfl,rfl,rfl,by decide +kernel,rfl,by decide +kernel,by decide +kernel⟩
theorem csBt1:CompScope ["_law_k","_law_row","_law_at","_law_rows","_law_to"] [none,none,some 2,some 1,some 3] nBt (defScope sBent) (scO [(".0",.local),("_law_k",.local),("_law_row",.local),("_law_at",.free),("_law_rows",.free),("_law_to",.free)]):=⟨rfl,by decide +kernel,by decide +kernel,by decide +kernel,rfl,capB_ok (by decide +kernel)⟩
theorem ndBt1:(["_law_k","_law_row","_law_at","_law_rows","_law_to"]:List Str).Nodup:=by decide +kernel
theorem ok_bt{f g g1:Addr}{fd gd d1:FuncData}(F:Fun K "_law_bent" "_law_bent" sBent f fd)(T:Txt mg)(T2:Txt2 mg)(TK:TakeF P w K mg base g gd)(GB:CalF P w K mg base 2 "_law_bent_row" ["_law_box_here","_law_row"] spBr g1 d1):FnOk P w K mg base CX0 3 f fd ["_law_box_here","_law_rows"] spBt:=by
 refine F.ok scBt (fun vs H Q E h=>?_) (fun cdv A outer s H vs Q E hr h=>?_)
 ·obtain⟨p,l,rows,N,B,rfl,_⟩:=h
  rfl
 ·obtain⟨p,l,rows,N,B,rfl,bx,hN,gl,rpos,rlen,rB,b9,b60,q⟩:=h
  have hr1:Room 1 _:=hr.mono (by decide)
  refine⟨_,(@pss_cons _ _ _ _ _ (ps_asg (@pe_tup _ _ _ _ _ (@pa_call _ _ _ _ _ _ _ _ (pe_call TK.ok hr1 rfl TK.mg TK.kp TK.bd .nil pass0 (@pa_nam _ _ _ _ _ _ (pvQ 0) (@pa_call _ _ _ _ _ _ _ _ (pe_callB call_lenH (by rfl) T.len PySem.boot_len (@pa_nam _ _ _ _ _ _ (pvQ 1) pa_nil)) pa_nil))) (@pa_call _ _ _ _ _ _ _ _ (pe_call TK.ok hr1 rfl TK.mg TK.kp TK.bd .nil pass0 (@pa_nam _ _ _ _ _ _ (pvQ 0) (@pa_call _ _ _ _ _ _ _ _ (pe_callB call_lenH (by rfl) T.len PySem.boot_len (@pa_nam _ _ _ _ _ _ (pvQ 1) pa_nil)) pa_nil))) pa_nil))) (pg_tup (n:=2) rfl (pgs_cons (pg_name (i:=2) scBt.nd rfl (Or.inr rfl)) (pgs_cons (pg_name (i:=3) scBt.nd rfl (Or.inr rfl)) pgs_nil))))
   (@pss_cons _ _ _ _ _ (@ps_set _ _ 4 _ _ _ _ scBt.nd rfl (Or.inl rfl) (pe_call TK.ok hr1 rfl TK.mg TK.kp TK.bd .nil pass0 (@pa_nam _ _ _ _ _ _ (pvQ 0) (@pa_cst _ _ _ _ _ _ _ pe_int pa_nil))) (by rfl) (by first | exact .inl rfl | exact .inr rfl))
   (@pss_cons _ _ _ _ _ (@ps_if _ _ _ _ _ _ _ _ (pt_cmpR op_lt (pvQ 4) pe_int (nomark _)) (@pss_one _ _ _ (@ps_ret _ _ _ _ (@pe_op _ _ _ _ _ _ _ _ op_cat (@pe_op _ _ _ _ _ _ _ _ op_cat (pe_slice sl_list (pvQ 1) po_none (po_some (pvQ 2))) (@pe_lst _ _ _ _ (@pa_call _ _ _ _ _ _ _ _ (pe_call GB.ok hr rfl GB.mg GB.kp GB.bd .nil pass0 (@pa_nam _ _ _ _ _ _ (pvQ 0) (@pa_sub _ _ _ _ _ _ _ (@pe_ix _ _ _ _ _ _ _ ix_listH (pvQ 1) (pvQ 2) (fun _ _=>rfl)) pa_nil))) pa_nil))) (pe_slice sl_list (pvQ 1) (po_some (@pe_op _ _ _ _ _ _ _ _ op_add (pvQ 2) pe_int)) po_none)))) pss_nil)
   (@pss_cons _ _ _ _ _ (@ps_if _ _ _ _ _ _ _ _ (pt_cmpR op_eq (pvQ 4) pe_int (nomark _)) (@pss_one _ _ _ (@ps_ret _ _ _ _ (@pe_op _ _ _ _ _ _ _ _ op_cat (pe_slice sl_list (pvQ 1) po_none (po_some (pvQ 2))) (pe_slice sl_list (pvQ 1) (po_some (@pe_op _ _ _ _ _ _ _ _ op_add (pvQ 2) pe_int)) po_none)))) pss_nil)
   (@pss_cons _ _ _ _ _ (@ps_if _ _ _ _ _ _ _ _ (pt_cmpR op_eq (pvQ 4) pe_int (nomark _)) (@pss_one _ _ _ (@ps_ret _ _ _ _ (@pe_op _ _ _ _ _ _ _ _ op_cat (@pe_op _ _ _ _ _ _ _ _ op_cat (pe_slice sl_list (pvQ 1) po_none (po_some (pvQ 2))) (@pe_lst _ _ _ _ (@pa_sub _ _ _ _ _ _ _ (@pe_ix _ _ _ _ _ _ _ ix_listH (pvQ 1) (pvQ 3) (fun _ _=>rfl)) pa_nil))) (pe_slice sl_list (pvQ 1) (po_some (pvQ 2)) po_none)))) pss_nil)
   (@pss_cons _ _ _ _ _ (@ps_if _ _ _ _ _ _ _ _ (pt_cmpR op_eq (pvQ 4) pe_int (nomark _)) (@pss_one _ _ _ (@ps_ret _ _ _ _ (pe_comp rfl csBt1 (pi_enumB false rfl T2.enum (@pa_nam _ _ _ _ _ _ (pvQ 1) pa_nil)) (fun C s H fp=>(pg_tupK K rfl (n:=2) rfl (pgs_cons (pg_name (i:=0) ndBt1 rfl (Or.inl rfl)) (pgs_cons (pg_name (i:=1) ndBt1 rfl (Or.inl rfl)) pgs_nil)) rfl rfl)) (fun C s H fp=>pf_nil) (fun C s H fp=>(pe_ifExp (pt_cmpR op_eq (pvQ 0) (pvQ 2) (nomark _)) (@pe_ix _ _ _ _ _ _ _ ix_listH (pvQ 3) (pvQ 4) (fun _ _=>rfl)) (pe_ifExp (pt_cmpR op_eq (pvQ 0) (pvQ 4) (nomark _)) (@pe_ix _ _ _ _ _ _ _ ix_listH (pvQ 3) (pvQ 2) (fun _ _=>rfl)) (pvQ 1))))))) pss_nil)
   (@pss_cons _ _ _ _ _ (@ps_if _ _ _ _ _ _ _ _ (pt_cmpR op_eq (pvQ 4) pe_int (nomark _)) (@pss_one _ _ _ (@ps_ret _ _ _ _ (@pe_op _ _ _ _ _ _ _ _ op_cat (@pe_op _ _ _ _ _ _ _ _ op_cat (pe_slice sl_list (pvQ 1) po_none (po_some (pvQ 2))) (@pe_lst _ _ _ _ (@pa_call _ _ _ _ _ _ _ _ (pe_call GB.ok hr rfl GB.mg GB.kp GB.bd .nil pass0 (@pa_nam _ _ _ _ _ _ (pvQ 0) (@pa_cst _ _ _ _ _ _ _ pe_str pa_nil))) pa_nil))) (pe_slice sl_list (pvQ 1) (po_some (@pe_op _ _ _ _ _ _ _ _ op_add (pvQ 2) pe_int)) po_none)))) pss_nil)
   (@pss_one _ _ _ (@ps_ret _ _ _ _ (@pe_op _ _ _ _ _ _ _ _ op_cat (pvQ 1) (@pe_lst _ _ _ _ (@pa_sub _ _ _ _ _ _ _ (@pe_ix _ _ _ _ _ _ _ ix_listH (@pe_lst _ _ _ _ (@pa_cst _ _ _ _ _ _ _ pe_str (@pa_cst _ _ _ _ _ _ _ pe_str (@pa_sub _ _ _ _ _ _ _ (@pe_ix _ _ _ _ _ _ _ ix_listH (pvQ 1) (pe_un un_neg pe_int) (fun _ _=>rfl)) (@pa_cst _ _ _ _ _ _ _ pe_str pa_nil))))) (pe_call TK.ok hr1 rfl TK.mg TK.kp TK.bd .nil pass0 (@pa_nam _ _ _ _ _ _ (pvQ 0) (@pa_cst _ _ _ _ _ _ _ pe_int pa_nil))) (fun _ _=>rfl)) pa_nil)))))))))))),?_⟩
  have lp:=box_ne bx gl
  refine⟨l,_,rfl,gl,p,_,N,rfl,bx,by exact zL (zI N 8) hN,?_,?_,fun z1 H1 z10 z11 b1 k1=>?_⟩
  ·rw[zB];exact zev rpos rlen
  ·rw[zB];exact zfp rpos rlen
  rw[zB]at z11
  have gl1:=k1 _ _ lp gl
  refine⟨l,_,rfl,gl1,p,_,_,rfl,b1,by lia,?_,?_,fun z2 H2 z20 z21 b2 k2=>?_⟩
  ·rw[zB];exact zev rpos rlen
  ·rw[zB];exact zfp rpos rlen
  rw[zB]at z21
  have gl2:=k2 _ _ lp gl1
  replace k2:=k1.trans k2
  obtain⟨i,rfl⟩:=zBQ z10
  obtain⟨j,rfl⟩:=zBQ z20
  have hi:i<rows.length:=by exact zi3 z11
  have hj:j<rows.length:=by exact zi3 z21
  clear gl gl1 k1 b1 z10 z20 z11 z21 bx
  refine⟨(by show 2<=sizeLine;decide),fun tp htp=>?_⟩
  refine⟨tp,_,rfl,SqT.of upd_same,rfl,_,_,rfl,_,_,rfl,rfl,?_⟩
  have s3:=Same.new (o:=.tup [.int (i:Int),.int (j:Int)]) htp
  have gl3:=s3 _ _ gl2
  have k3:=k2.ext s3
  have b3:=b2.same s3
  generalize (upd H2 tp (.tup [.int (i:Int),.int (j:Int)]))=H3 at gl3 k3 b3 ⊢
  clear s3 gl2 k2 b2 htp H1
  refine⟨p,9,_,rfl,b3,by lia,by decide,by decide,fun z H4 z0 z1 b4 k4=>?_⟩
  have gl4:=k4 _ _ lp gl3
  replace k4:=k3.trans k4
  clear gl3 k3 b3
  have at_i:atI (rows.map V.str) (i:Int)=some (.str rows[i]):=atI_nat (j:=i) (by rw[zAJ,zF hi];rfl)
  have at_j:atI (rows.map V.str) (j:Int)=some (.str rows[j]):=atI_nat (j:=j) (by rw[zAJ,zF hj];rfl)
  have rI:RowB B rows[i]:=rB _ (zBG hi)
  have rJ:RowB B rows[j]:=rB _ (zBG hj)
  have rA:∀ m∈rows,RowB (2 * B+8) m:=fun m hm=>(rB m hm).mono (by exact zad b9 b60)
  have hT:∀ {n:Nat},∀ m∈rows.take n,RowB (2 * B+8) m:=fun m hm=>rA m (List.mem_of_mem_take hm)
  have hD:∀ {n:Nat},∀ m∈rows.drop n,RowB (2 * B+8) m:=fun m hm=>rA m (List.mem_of_mem_drop hm)
  have h3:∀ {a b c:List Str},(∀ m∈a,RowB (2 * B+8) m)->(∀ m∈b,RowB (2 * B+8) m)->(∀ m∈c,RowB (2 * B+8) m)->∀ m∈a++b++c,RowB (2 * B+8) m:=fun ha hb hc m hm=>by
   rcases zAB.mp hm with z | z
   ·exact(zAB.mp z).elim (ha m) (hb m)
   ·exact hc m z
  have one:∀ {x:Str},RowB (2 * B+8) x->∀ m∈[x],RowB (2 * B+8) m:=fun h m hm=>by rw[zAA.mp hm];exact h
  refine⟨_,_,rfl,rfl,_,rfl,ite2 (fun h1=>?_) (fun h1=>?_)⟩
  ·refine⟨_,rfl,til_of gl4 fun q1 G1 t1 g1=>?_⟩
   refine⟨l,_,_,_,rfl,rfl,t1 _ _ gl4,at_i,p,_,_,B,rfl,b4.same t1,by exact hN,rI,by exact zl5 b9 rfl,b60,fun y G2 ry b5 k5=>?_⟩
   have g1':=k5 _ _ (box_ne (b4.same t1) g1) g1
   have gl5:=k5 _ _ lp (t1 _ _ gl4)
   have k6:=(k4.ext t1).trans k5
   clear g1 k5
   refine⟨(by show 1<=sizeLine;decide),fun q2 hq2=>?_⟩
   have t2:=Same.new (o:=.lst ([y].map V.str)) hq2
   have g2:(upd G2 q2 (.lst ([y].map V.str))) q2=some (.lst ([y].map V.str)):=upd_same
   show rCat (.ref q1) (.ref q2) (upd G2 q2 (.lst ([y].map V.str))) _
   generalize (upd G2 q2 (.lst ([y].map V.str)))=G3 at t2 g2 ⊢
   refine cat_of (t2 _ _ g1') g2 (by rw[zAD];show _+1<=_;exact zag rpos rlen hi) fun q3 G4 t3 g3=>?_
   have t4:=t2.trans t3
   refine⟨_,_,rfl,rfl,_,rfl,frm_of (i:=i+1) (by exact zau) (t4 _ _ gl5) fun q4 G5 t5 g4=>?_⟩
   refine cat_of (t5 _ _ g3) g4 (by rw[zY,zAD,zAN];show _+1+_<=_;exact zaz rpos rlen hi) fun q5 G6 t6 g5=>?_
   have t7:=t4.trans (t5.trans t6)
   refine q q5 _ _ g5 (by simp only[zY,zAD,zAN,List.length_singleton];exact zak hi) (h3 hT (one ry) hD) ((b5.same t7).mono (by exact zn4)) (k6.ext t7)
  refine⟨rfl,_,rfl,ite2 (fun h2=>?_) (fun h2=>?_)⟩
  ·refine⟨_,rfl,til_of gl4 fun q1 G1 t1 g1=>?_⟩
   refine⟨_,_,rfl,rfl,_,rfl,frm_of (i:=i+1) (by exact zau) (t1 _ _ gl4) fun q4 G4 t5 g4=>?_⟩
   refine cat_of (t5 _ _ g1) g4 (by rw[zAD,zAN];omega) fun q5 G5 t6 g5=>?_
   have t7:=t1.trans (t5.trans t6)
   refine q q5 _ _ g5 (by simp only[zY,zAD,zAN];omega) (fun m hm=>(zAB.mp hm).elim (hT m) (hD m)) ((b4.same t7).mono (by exact zae)) (k4.ext t7)
  refine⟨rfl,_,rfl,ite2 (fun h2=>?_) (fun h2=>?_)⟩
  ·refine⟨_,rfl,til_of gl4 fun q1 G1 t1 g1=>?_⟩
   refine⟨l,_,_,_,rfl,rfl,t1 _ _ gl4,at_j,(by show 1<=sizeLine;decide),fun q2 hq2=>?_⟩
   have t2:=Same.new (o:=.lst ([rows[j]].map V.str)) hq2
   have g2:(upd G1 q2 (.lst ([rows[j]].map V.str))) q2=some (.lst ([rows[j]].map V.str)):=upd_same
   show rCat (.ref q1) (.ref q2) (upd G1 q2 (.lst ([rows[j]].map V.str))) _
   generalize (upd G1 q2 (.lst ([rows[j]].map V.str)))=G3 at t2 g2 ⊢
   refine cat_of (t2 _ _ g1) g2 (by rw[zAD];show _+1<=_;exact zag rpos rlen hi) fun q3 G4 t3 g3=>?_
   have t4:=t1.trans (t2.trans t3)
   refine⟨_,rfl,frm_of (i:=i) rfl (t4 _ _ gl4) fun q4 G5 t5 g4=>?_⟩
   refine cat_of (t5 _ _ g3) g4 (by rw[zY,zAD,zAN];show _+1+_<=_;lia) fun q5 G6 t6 g5=>?_
   have t7:=t4.trans (t5.trans t6)
   refine q q5 _ _ g5 (by simp only[zY,zAD,zAN,List.length_singleton];exact zdk hi) (h3 hT (one (rJ.mono (by exact zad b9 b60))) hD) ((b4.same t7).mono (by exact zae)) (k4.ext t7)
  refine⟨rfl,_,rfl,ite2 (fun h2=>?_) (fun h2=>?_)⟩
  ·refine⟨l,rfl,⟨_,SqL.of gl4⟩,?_⟩
   refine comp_enumB (K:=K) (b:=false) (l:=l) (xs:=rows.map V.str) (fun n ys G=>Same H4 G/\∃ zs:List Str,ys=zs.map V.str/\zs.length=n/\∀ m∈zs,RowB (2 * B+8) m) (by rw[zB,sizeLine_eq];exact zl1 rlen rfl) ⟨Same.refl _,[],rfl,rfl,(fun _ h=>nomatch h)⟩ (fun i ys G _ z=>SqL.of (z.1 _ _ gl4)) ?_ ?_
   ·rintro n x ys G U hx ⟨sG,zs,rfl,zl,zr⟩ hU
    obtain⟨il,e⟩:=zZ.mp hx
    rw[zB]at il
    rw[zBC]at e
    subst e
    have s2:=sG.trans (Same.new (o:=.tup [V.int n,.str rows[n]]) hU)
    refine⟨U,_,rfl,SqT.of upd_same,rfl,_,_,rfl,_,_,rfl,rfl,?_⟩
    generalize (upd G U (.tup [V.int n,.str rows[n]]))=G3 at s2
    have put:∀ {x:Str},RowB (2 * B+8) x->Same H4 G3/\∃ zs':List Str,zs.map V.str++[V.str x]=zs'.map V.str/\zs'.length=n+1/\∀ m∈zs',RowB (2 * B+8) m:=fun {x} hx=>⟨s2,zs++[x],by rw[zAQ];rfl,by rw[zY,zl];rfl,fun m hm=>(zAB.mp hm).elim (zr m) (one hx m)⟩
    refine⟨⟨rfl,rfl,rfl,trivial⟩,tTru_if ?_⟩
    refine⟨rfl,_,rfl,ite2 (fun h=>?_) (fun h=>?_)⟩
    ·exact⟨l,_,_,_,rfl,rfl,s2 _ _ gl4,at_j,put (rJ.mono (by exact zad b9 b60))⟩
    refine⟨rfl,_,rfl,ite2 (fun h=>?_) (fun h=>?_)⟩
    ·exact⟨l,_,_,_,rfl,rfl,s2 _ _ gl4,at_i,put (rI.mono (by exact zad b9 b60))⟩
    exact put (rA _ (zBG il))
   ·rintro ys G _ ⟨sG,zs,rfl,zl,zr⟩ D hD
    have t7:=sG.trans (Same.new (o:=.lst (zs.map V.str)) hD)
    rw[zB]at zl
    exact q D zs _ upd_same (by exact zh9 (zI rows.length 1) zl) zr ((b4.same t7).mono (by exact zae)) (k4.ext t7)
  refine⟨rfl,_,rfl,ite2 (fun h2=>?_) (fun h2=>?_)⟩
  ·refine⟨_,rfl,til_of gl4 fun q1 G1 t1 g1=>?_⟩
   refine⟨p,_,_,B,rfl,b4.same t1,by exact hN,⟨by decide +kernel,by rw[show(Str.ofString "posts 0 1").length=9 from rfl];exact b9⟩,by exact zl5 b9 rfl,b60,fun y G2 ry b5 k5=>?_⟩
   have g1':=k5 _ _ (box_ne (b4.same t1) g1) g1
   have gl5:=k5 _ _ lp (t1 _ _ gl4)
   have k6:=(k4.ext t1).trans k5
   clear g1 k5
   refine⟨(by show 1<=sizeLine;decide),fun q2 hq2=>?_⟩
   have t2:=Same.new (o:=.lst ([y].map V.str)) hq2
   have g2:(upd G2 q2 (.lst ([y].map V.str))) q2=some (.lst ([y].map V.str)):=upd_same
   show rCat (.ref q1) (.ref q2) (upd G2 q2 (.lst ([y].map V.str))) _
   generalize (upd G2 q2 (.lst ([y].map V.str)))=G3 at t2 g2 ⊢
   refine cat_of (t2 _ _ g1') g2 (by rw[zAD];show _+1<=_;exact zag rpos rlen hi) fun q3 G4 t3 g3=>?_
   have t4:=t2.trans t3
   refine⟨_,_,rfl,rfl,_,rfl,frm_of (i:=i+1) (by exact zau) (t4 _ _ gl5) fun q4 G5 t5 g4=>?_⟩
   refine cat_of (t5 _ _ g3) g4 (by rw[zY,zAD,zAN];show _+1+_<=_;exact zaz rpos rlen hi) fun q5 G6 t6 g5=>?_
   have t7:=t4.trans (t5.trans t6)
   refine q q5 _ _ g5 (by simp only[zY,zAD,zAN,List.length_singleton];exact zak hi) (h3 hT (one ry) hD) ((b5.same t7).mono (by exact zn4)) (k6.ext t7)
  have lst:∃ x,RowB B x/\atI (rows.map V.str) (-1)=some (.str x):=by
   cases e:rows.getLast? with
   |none=>rw[List.getLast?_eq_none_iff]at e;rw[e]at rpos;cases rpos
   |some x =>
    refine⟨x,rB x (List.mem_of_getLast? e),?_⟩
    exact at_lst (by rw[<- zCQ,List.getLast?_map,e];rfl)
  obtain⟨x,rx,at_l⟩:=lst
  refine⟨_,rfl,l,_,_,_,rfl,rfl,gl4,at_l,(by show 4<=sizeLine;decide),fun ld hld=>?_⟩
  have all:∀ m∈[Str.ofString "",Str.ofString "pieces",x,Str.ofString "tie 0 1 1"],RowB (2 * B+8) m:=fun m hm=>by
   simp only[zW,zAT,or_false]at hm
   rcases hm with rfl | rfl | rfl | rfl
   ·exact⟨by decide +kernel,zAO _⟩
   ·exact⟨by decide +kernel,by rw[show(Str.ofString "pieces").length=6 from rfl];exact zAW 6 (2 * B+2)⟩
   ·exact rx.mono (by exact zad b9 b60)
   ·exact⟨by decide +kernel,by rw[show(Str.ofString "tie 0 1 1").length=9 from rfl];exact zfy b9 b60⟩
  have al:[Str.ofString "",Str.ofString "pieces",x,Str.ofString "tie 0 1 1"].length=4:=rfl
  show tCall spTake [] E0 _ _ (upd H4 ld (.lst ([Str.ofString "",Str.ofString "pieces",x,Str.ofString "tie 0 1 1"].map V.str))) _
  generalize [Str.ofString "",Str.ofString "pieces",x,Str.ofString "tie 0 1 1"]=four at all al ⊢
  have s8:=Same.new (o:=.lst (four.map V.str)) hld
  have g8:(upd H4 ld (.lst (four.map V.str))) ld=some (.lst (four.map V.str)):=upd_same
  have ldp:=b4.ne hld
  generalize (upd H4 ld (.lst (four.map V.str)))=H8 at s8 g8 ⊢
  refine⟨p,4,_,rfl,b4.same s8,by exact zhm hN,by decide,by decide,fun z G9 z0 z1 b9 k9=>?_⟩
  obtain⟨y,ym,at_y⟩:=at_some z0 (show z <(four.length:Int) by lia)
  have gl9:=k9 _ _ lp (s8 _ _ gl4)
  refine⟨ld,_,_,_,rfl,rfl,k9 _ _ ldp g8,at_y,(by show 1<=sizeLine;decide),fun q2 hq2=>?_⟩
  have t2:=Same.new (o:=.lst ([y].map V.str)) hq2
  have g2:(upd G9 q2 (.lst ([y].map V.str))) q2=some (.lst ([y].map V.str)):=upd_same
  show rCat (.ref l) (.ref q2) (upd G9 q2 (.lst ([y].map V.str))) _
  generalize (upd G9 q2 (.lst ([y].map V.str)))=G3 at t2 g2 ⊢
  refine cat_of (t2 _ _ gl9) g2 (by show _+1<=_;exact zn5 (zl2 rlen rfl)) fun q3 G4 t3 g3=>?_
  have t4:=t2.trans t3
  exact q q3 _ _ g3 (by rw[zY];exact zH _) (fun m hm=>(zAB.mp hm).elim (rA m) (one (all y ym) m)) ((b9.same t4).mono (by exact zdc)) (((k4.ext s8).trans k9).ext t4)
end
open PySem PySem.W L2 PyProof.Rows
theorem whole_used{rows:List Str}{n:Int}{ties:List Tie}{ps:List Int}{u:Nat}(h:whole rows = .pair n ties ps u):ties.length<=rows.length:=by
 unfold whole at h
 cases e:ahead rows with
 |bad k=>rw[e]at h;cases h
 |pair n2 t2 p2 u2 =>
  rw[e]at h
  dsimp only at h
  split at h
  ·cases h
  ·cases h
   cases rows with
   |nil=>cases e
   |cons r rs =>
    have e:(match headN r with | none=>Res.bad 0 | some m=>goA m 1 [] rs) = .pair n ties ps u:=e
    cases eh:headN r with
    |none=>rw[eh]at e;cases e
    |some m =>
     rw[eh]at e
     have q:=(goA_used e).2
     rw[zBL]at q
     rw[zV]
     lia
noncomputable def webD(n:Int)(ties:List Tie):Dt:=.tup [.int n,.tup (ties.map fun x=>.tup [.int x.1,.int x.2.1,.int x.2.2])]
theorem web_dat{H:Hp}{t:Addr}{n:Int}{ties:List Tie}(W:WebI H t n ties)(len:ties.length<=1000):Dat H 3 (.ref t) (webD n ties):=by
 obtain⟨ts,as,h1,h2,h3⟩:=W
 have hl:as.length=ties.length:=h3.length
 refine⟨t,_,rfl,(by show 2<=1000;decide),h1,.cons rfl (.cons ⟨ts,_,rfl,by rw[zB];exact zh9 len hl,h2,?_⟩ .nil)⟩
 clear h1 h2 hl len
 induction h3 with
 |nil=>exact .nil
 |cons r _ ih=>exact .cons ⟨_,_,rfl,(by show 3<=1000;decide),r,.cons rfl (.cons rfl (.cons rfl .nil))⟩ ih
theorem pair_dat{H:Hp}{r t l:Addr}{n:Int}{ties:List Tie}{ps:List Int}(gr:H r=some (.tup [.ref t,.ref l]))(W:WebI H t n ties)(len:ties.length<=1000)(gl:H l=some (.lst (ps.map V.int)))(pl:ps.length<=1000) :
  Dat H 4 (.ref r) (.tup [webD n ties,.lst (ps.map Dt.int)]) :=
 ⟨r,_,rfl,(by show 2<=1000;decide),gr,.cons (web_dat W len) (.cons (dat_ints 2 gl pl) .nil)⟩
noncomputable def eff(rows:List Str):List Str:=if rows=[]then [Str.empty]else rows
theorem eff_ok{rows:List Str}(h:∀ r∈rows,RowB 120 r)(l:rows.length<=1000):RowsOk (eff rows):=by
 unfold eff
 split
 ·refine⟨by simp,by show 1<=1000;decide,fun r hr=>?_⟩
  rw[zAA.mp hr]
  exact⟨by decide +kernel,zAO _⟩
 ·rename_i ne
  exact⟨ne,l,h⟩
theorem eff_join(rows:List Str):(sg 10).join rows=(sg 10).join (eff rows):=by
 unfold eff
 split
 ·rename_i e
  rw[e]
  rfl
 ·rfl
theorem RowsOk.split'{rows:List Str}(h:RowsOk rows):Txt.split ((sg 10).join rows) (Str.ofString "\n")=rows:=by
 rw[sg_nl]
 exact split_join h.1 fun r hr hc=>((h.2.2 r hr).asc 10 hc).2 rfl
theorem num_lenk{m k:Nat}(hk:0<k)(h:m<10 ^ k):(num (m:Int)).length<=k:=by
 have e:(num (m:Int)).length=(num (m:Int)).cps.toList.length:=by
  show _=_
  rw[zO]
  rfl
 rw[e,num_list,zB]
 exact(Nat.length_toDigits_le_iff (by decide) hk).mpr h
theorem num_okc{i:Int}(h:0<=i):OkC (num i):=by
 obtain⟨m,rfl⟩:=zBQ h
 intro c hc
 have:=num_digits m c hc
 lia
theorem rowI_b{B:Nat}{w:String}{ns:List Int}(hw:OkC (Str.ofString w))(h:∀ x∈ns,0<=x)(l:Ls (Str.ofString w :: ns.map num)<=B+1):RowB B (rowI w ns):=by
 unfold rowI
 refine rowb_join (fun p hp=>?_) l
 rcases zW.mp hp with z | z
 ·rw[z];exact hw
 ·obtain⟨x,hx,rfl⟩:=zAP.mp z
  exact num_okc (h x hx)
theorem num2{x:Int}(h0:0<=x)(h1:x<100):(num x).length<=2:=by
 obtain⟨m,rfl⟩:=zBQ h0
 exact num_lenk (by decide) (by lia)
theorem num10{x:Int}(h0:0<=x)(h1:x<=1073741824):(num x).length<=10:=by
 obtain⟨m,rfl⟩:=zBQ h0
 exact num_lenk (by decide) (by omega)
theorem Ls_two:∀ {ps:List Int},(∀ x∈ps,0<=x/\x<100)->Ls (ps.map num)<=3 * ps.length
 |[],_=>zH _
 |a :: r,h=>by
  have h1:=h a zX
  have:=num2 h1.1 h1.2
  have ih:=Ls_two (ps:=r) fun x hx=>h x (zP _ hx)
  rw[zAS,Ls_cons,zV]
  lia
theorem rowsI_ok{n:Nat}{ties:List Tie}{ps:List Int}(o:TOk n ties ps)(h:n<=30)(hp:ps.length<=6):∀ r∈rowsI n ties ps,RowB 23 r:=fun r hr=>by
 have nw:(Str.ofString "web").length=3:=rfl
 have nt:(Str.ofString "tie").length=3:=rfl
 have np:(Str.ofString "posts").length=5:=rfl
 unfold rowsI at hr
 rcases zAB.mp hr with z | z
 ·rcases zW.mp z with z | z
  ·rw[z]
   refine rowI_b (by decide +kernel) (fun x hx=>by rw[zAA.mp hx];exact Int.natCast_nonneg n) ?_
   have:=num2 (x:=(n:Int)) (by exact Int.natCast_nonneg n) (by lia)
   show(Str.ofString "web").length+1+((num (n:Int)).length+1+0)<=24
   exact zgq nw this
  ·obtain⟨x,hx,rfl⟩:=zAP.mp z
   obtain⟨h1,h2,h3,h4,h5⟩:=o.ok x hx
   refine rowI_b (by decide +kernel) (fun y hy=>(o.tie hx y hy).1) ?_
   have l1:=num2 (x:=x.1) (by exact h1) (by lia)
   have l2:=num2 (x:=x.2.1) (by exact zij h1 h2) (by lia)
   have l3:=num10 (x:=x.2.2) (by exact ziv h4 h5) h5
   show(Str.ofString "tie").length+1+((num x.1).length+1+((num x.2.1).length+1+((num x.2.2).length+1+0)))<=24
   exact zep nt l1 l2 l3
 ·rw[zAA.mp z]
  refine rowI_b (by decide +kernel) (fun x hx=>(o.post hx).1) ?_
  have:=Ls_two (ps:=ps) fun x hx=>by have:=o.pr x hx;lia
  rw[Ls_cons]
  lia
theorem rowsI_split{n:Nat}{ties:List Tie}{ps:List Int}(o:TOk n ties ps)(h:n<=30)(hp:ps.length<=6):Txt.split (txtI n ties ps) (Str.ofString "\n")=rowsI n ties ps:=by
 refine RowsOk.split' ⟨fun z=>?_,?_,fun r hr=>(rowsI_ok o h hp r hr).mono (by decide)⟩
 ·have:=congrArg List.length z
  rw[rowsI_length]at this
  cases this
 ·rw[rowsI_length]
  have:=o.tl
  lia
theorem text_web:(Str.ofString "web 2\ntie 0 1 5")=(sg 10).join [Str.ofString "web 2",Str.ofString "tie 0 1 5"]:=by decide +kernel
theorem whole0:whole [Str.ofString ""] = .bad 0:=rfl
theorem whole1:whole [Str.ofString "web 2"] = .bad 1:=by kernel_rfl
theorem whole2:whole [Str.ofString "web 2",Str.ofString "tie 0 1 5"] = .bad 2:=by kernel_rfl
theorem sum_rows{rows:List Str}(h:∀ r∈rows,RowB 120 r)(l:rows.length<=1000):(rows.map fun p=>p.length).sum+rows.length * (Str.ofString "\n").length<=16777216:=by
 have q:=sum_le (l:=rows.map fun p=>p.length) (B:=120) fun x hx=>by
  obtain⟨r,hr,rfl⟩:=zAP.mp hx
  exact(h r hr).len
 rw[zB]at q
 rw[show(Str.ofString "\n").length=1 from rfl]
 lia
theorem join_len{rows:List Str}(h:RowsOk rows):((sg 10).join rows).length+2<=sizeLine:=by
 obtain⟨ne,l,hb⟩:=h
 have q:=sum_le (l:=rows.map fun p=>p.length) (B:=120) fun x hx=>by
  obtain⟨r,hr,rfl⟩:=zAP.mp hx
  exact(hb r hr).len
 rw[zB]at q
 cases rows with
 |nil=>exact absurd rfl ne
 |cons a r =>
  rw[PyProof.Rows.len_join_cons,show(sg 10).length=1 from rfl,sizeLine_eq]
  rw[zV]at l q
  lia
theorem rowsI_all{n:Nat}{ties:List Tie}{ps:List Int}(o:TOk n ties ps)(h:n<=30)(hp:ps.length<=6):RowsOk (rowsI n ties ps):=by
 refine⟨fun z=>?_,?_,fun r hr=>(rowsI_ok o h hp r hr).mono (by decide)⟩
 ·have:=congrArg List.length z
  rw[rowsI_length]at this
  cases this
 ·rw[rowsI_length]
  have:=o.tl
  lia
theorem rows_c{rows:List Str}(ne:rows≠[])(l:rows.length<=1000)(h:∀ r∈rows,OkC r/\r.length<=120):RowsOk rows:=⟨ne,l,fun r hr=>⟨(h r hr).1,(h r hr).2⟩⟩
theorem rows0:RowsOk [Str.ofString ""]:=rows_c (by simp) (by decide) (by decide +kernel)
theorem rows1:RowsOk [Str.ofString "web 2"]:=rows_c (by simp) (by decide) (by decide +kernel)
theorem rows2:RowsOk [Str.ofString "web 2",Str.ofString "tie 0 1 5"]:=rows_c (by simp) (by decide) (by decide +kernel)
theorem eff_len{rows:List Str}(l:rows.length<=200):(eff rows).length<=200:=by
 unfold eff
 split
 ·show 1<=200;decide
 ·exact l
theorem join_eff(rows:List Str):Txt.join (Str.ofString "\n") rows=(sg 10).join (eff rows):=by
 rw[sg_nl,<- eff_join]
 exact PySem.StrLaws.glued_eq_join _ _
open PySem PySem.W L2 PyProof.Rows
structure Clss(K:PySem.W.Frag)(mg:Str->Option Value)(C Pa c1 c2 c3:Addr):Prop where
 pe:mg "PartError" = some (.ref Pa)
 np:mg "NoPlace" = some (.ref c1)
 no:mg "NoPost" = some (.ref c2)
 tm:mg "TooMany" = some (.ref c3)
 ve:mg "ValueError" = none
 q1:kitOne K (.ref C) (.ref C)=some true
 q2:kitOne K (.ref C) (.type "ValueError")=some true
 q3:kitAny K (.ref C) [.ref c1,.ref c2,.ref c3]=some false
 q4:exmOne K (.ref C) (.ref Pa)=some true
inductive spToI(vs:List V)(H:Hp)(Q:VK):Prop where
 |mk (rows:List Str) (h1:vs=[.str ((sg 10).join rows)]) (h2:RowsOk rows) (h3:(∀ k,whole rows = .bad k->∀ H',Same H H'->Q (.int (k:Int)) H')) (h4:∀ n ties ps u,whole rows = .pair n ties ps u->∀ (r t l:Addr) (H':Hp),H' r=some (.tup [.ref t,.ref l])->WebI H' t n ties->H' l=some (.lst (ps.map V.int))->ps.length<=120->Same H H'->Q (.ref r) H')
noncomputable def spTo:Sp:=fun vs H Q _=>spToI vs H Q
section
variable{P:Program}{w:World}{K:PySem.W.Frag}{mg:Str->Option Value}{base:Heap}
noncomputable abbrev nTo:List Str:=["_law_text_here","_law_found","error"]
theorem scTo:FnScope nTo ["_law_text_here"] (defScope sTold):=⟨rfl,rfl,rfl,by decide +kernel,rfl,by decide +kernel,by decide +kernel⟩
theorem ok_to{C Pa fI c1 c2 c3 f g1:Addr}{fd dI d1:FuncData}(F:Fun K "_law_told" "_law_told" sTold f fd)(T:Txt mg)(GB:Bads K mg C Pa fI dI)(GC:Clss K mg C Pa c1 c2 c3)(GF:CalX P w K mg base (CXB P w C) 5 "web_from" ["text"] spWf g1 d1):FnOk P w K mg base CX0 6 f fd ["_law_text_here"] spTo:=by
 refine F.ok scTo (fun vs H Q E h=>?_) (fun cdv A outer s H vs Q E hr h=>?_)
 ·obtain⟨rows,rfl,_⟩:=h
  rfl
 ·obtain⟨rows,rfl,o,qe,qp⟩:=h
  refine⟨_,(pss_cons (ps_set (i:=1) scTo.nd rfl (Or.inl rfl) pe_non)
   (pss_cons (ps_try (i:=2) (C:=C) (Pa:=Pa) (fI:=fI) (W:=fun k H'=>∀ H'',Same H' H''->Q (.int k) H'') GB.B GC.q4 rfl rfl scTo.nd rfl rfl rfl GC.pe
    (fun pl=>pss_one (ps_set (i:=1) scTo.nd rfl (Or.inl rfl) (pe_call GF.ok hr rfl GF.mg GF.kp GF.bd .nil (pass_to (E:=fun v _ H'=>∀ k,v = .int k 0->∀ H'',Same H' H''->Q (.int k) H'') rfl rfl to_try fun k H' q=>q k rfl) (@pa_nam _ _ _ _ _ _ (pv 0) pa_nil))))
    (fun e dx oe vs hc hd hf=>pss_cons (ps_set (i:=1) scTo.nd rfl (Or.inl rfl) pe_str)
     (pss_one (ps_if (PW.pt (pw_and (pt_val (pe_callB (call_isBad GB.B hc hd hf) (by rfl) T.isinst boot_isinstance (@pa_nam _ _ _ _ _ _ (pv 2) (@pa_nam _ _ _ _ _ _ (pe_glob (v:=.ref C) rfl GB.hm rfl) pa_nil)))) (pw_and1 (pt_val (pe_callB (call_isBad GB.B hc hd hf) (by rfl) T.isinst boot_isinstance (@pa_nam _ _ _ _ _ _ (pv 2) (@pa_nam _ _ _ _ _ _ (pe_bltn (v:=.ty "ValueError") rfl GC.ve Boot.«ValueError» rfl) pa_nil)))))))
      (pss_one (ps_if (pt_not (pt_val (pe_callB (call_isBad3 GB.B hc hd hf GC.q3) (by rfl) T.isinst boot_isinstance (@pa_nam _ _ _ _ _ _ (pv 2) (@pa_tup _ _ _ _ _ _ _ (@pe_tup _ _ _ _ _ (@pa_nam _ _ _ _ _ _ (pe_glob (v:=.ref c1) rfl GC.np rfl) (@pa_nam _ _ _ _ _ _ (pe_glob (v:=.ref c2) rfl GC.no rfl) (@pa_nam _ _ _ _ _ _ (pe_glob (v:=.ref c3) rfl GC.tm rfl) pa_nil)))) pa_nil)))))
       (pss_one (ps_set (i:=1) scTo.nd rfl (Or.inl rfl) (pe_row GB.B hc hd hf (pv 2) rfl))) pss_nil)) pss_nil))))
   (pss_one (ps_ret (pv 1))))),?_⟩
  refine⟨⟨_,rfl,rows,rfl,o,fun k e H' s1 k' hk H'' s2=>?_,fun n ties ps u e r t l H' gr W hl gl pl s1=>⟨_,rfl,qp n ties ps u e r t l H' gr W gl pl s1⟩⟩,fun e dx k σ' H' hlen hrow hW=>?_⟩
  ·cases hk
   exact qe k e _ (s1.trans s2)
  obtain⟨a,b,c,rfl⟩:∃ a b c,σ'=[a,b,c]:=by
   match σ',hlen with
   |[a,b,c],_=>exact⟨a,b,c,rfl⟩
  refine⟨_,rfl,_,true,k,rfl,hrow,fun u ru=>?_,_,rfl,iteT ?_⟩
  ·cases ru
   exact GC.q1
  refine⟨_,rfl,_,true,k,rfl,hrow,fun u ru=>?_,_,rfl,iteT ?_⟩
  ·cases ru
   exact GC.q2
  refine⟨_,rfl,(by show 3<=sizeLine;decide),fun tp htp=>?_⟩
  have st:=Same.new (o:=.tup [V.ref c1,V.ref c2,V.ref c3]) htp
  refine⟨tp,k,rfl,upd_same,st _ _ hrow,_,rfl,iteT ?_⟩
  refine⟨_,rfl,rfl,k,st _ _ hrow,?_⟩
  exact⟨_,rfl,hW _ st⟩
end
open PySem PySem.W L2 PyProof.Rows
inductive spLawI(K:PySem.W.Frag)(vs:List V)(H:Hp)(Q:VK):Prop where
 |mk (a:Addr) (ns:List Int) (h1:vs=[.ref a]) (h2:SqL K H a (ns.map V.int)) (h3:ns.length<=63) (h4:∀ H',Q (.bl true) H')
noncomputable def spLaw(K:PySem.W.Frag):Sp:=fun vs H Q _=>spLawI K vs H Q
section
variable{P:Program}{w:World}{K:PySem.W.Frag}{mg:Str->Option Value}{base:Heap}
noncomputable abbrev nLaw:List Str:=["_law_script","_law_k","_law_box_here","_law_web_here","_law_posts_here","_law_rows","_law_turn","_law_bent_here"]
theorem scLaw:FnScope nLaw ["_law_script"] (defScope sLaw):=⟨rfl,rfl,rfl,by decide +kernel,rfl,by decide +kernel,by decide +kernel⟩
theorem ok_law{f g g1 g2 g3 g4 g5 g6 g7:Addr}{fd gd d1 d2 d3 d4 d5 d6 d7:FuncData}(F:Fun K "law" "law" sLaw f fd)(T:Txt mg)(TK:TakeF P w K mg base g gd)(GB:CalF P w K mg base 2 "_law_box" ["_law_script","_law_k"] (spBox K) g1 d1)(GW:CalF P w K mg base 4 "_law_with_posts" ["_law_box_here"] spWP g2 d2)
  (GX:CalF P w K mg base 1 "_law_text" ["_law_web_here","_law_posts_here"] (spLt K) g3 d3) (GT:CalF P w K mg base 3 "_law_bent" ["_law_box_here","_law_rows"] spBt g4 d4) (GS:CalF P w K mg base 5 "_law_same" ["_law_found","_law_due"] (spSame 4) g5 d5) (GO:CalF P w K mg base 6 "_law_told" ["_law_text_here"] spTo g6 d6) (GR:CalF P w K mg base 2 "_law_read" ["_law_rows"] spRd g7 d7):FnOk P w K mg base CX0 7 f fd ["_law_script"] (spLaw K):=by
 refine F.ok scLaw (fun vs H Q E h=>?_) (fun cdv A outer s H vs Q E hr h=>?_)
 ·obtain⟨a,ns,rfl,_⟩:=h
  rfl
 ·obtain⟨a,ns,rfl,hS,hlen,q⟩:=h
  have hr5:Room 5 _:=hr.mono (by decide)
  have hr4:Room 4 _:=hr.mono (by decide)
  have hr3:Room 3 _:=hr.mono (by decide)
  have hr2:Room 2 _:=hr.mono (by decide)
  have hr1:Room 1 _:=hr.mono (by decide)
  have hu0:_<cLine:=hr.units0
  refine⟨_,(@pss_cons _ _ _ _ _ (ps_for PassesOwn.never rfl (pi_range1 rfl T.range (@pa_bin _ _ _ _ _ _ _ _ (@pe_op _ _ _ _ _ _ _ _ op_add pe_int (pe_callB (call_min2 rfl) (by rfl) T.min boot_min (@pa_cst _ _ _ _ _ _ _ pe_int (@pa_call _ _ _ _ _ _ _ _ (pe_callB call_len_seq (by rfl) T.len PySem.boot_len (@pa_nam _ _ _ _ _ _ (pvQ 0) pa_nil)) pa_nil)))) pa_nil)) (pg_name (i:=1) scLaw.nd rfl (Or.inl rfl))
   (@pss_cons _ _ _ _ _ (@ps_set _ _ 2 _ _ _ _ scLaw.nd rfl (Or.inl rfl) (pe_call GB.ok hr2 rfl GB.mg GB.kp GB.bd .nil pass0 (@pa_nam _ _ _ _ _ _ (pvQ 0) (@pa_nam _ _ _ _ _ _ (pvQ 1) pa_nil))) (by rfl) (by first | exact .inl rfl | exact .inr rfl))
   (@pss_cons _ _ _ _ _ (ps_asg (pe_call GW.ok hr4 rfl GW.mg GW.kp GW.bd .nil pass0 (@pa_nam _ _ _ _ _ _ (pvQ 2) pa_nil)) (pg_tup (n:=2) rfl (pgs_cons (pg_name (i:=3) scLaw.nd rfl (Or.inl rfl)) (pgs_cons (pg_name (i:=4) scLaw.nd rfl (Or.inl rfl)) pgs_nil))))
   (@pss_cons _ _ _ _ _ (@ps_set _ _ 5 _ _ _ _ scLaw.nd rfl (Or.inl rfl) (@pe_bm _ _ _ _ _ _ _ _ _ _ _ _ PySem.F.plainAttrs_str PySem.F.slot_str_split PySem.F.type_str_split mt_split (pe_call GX.ok hr1 rfl GX.mg GX.kp GX.bd .nil pass0 (@pa_nam _ _ _ _ _ _ (pvQ 3) (@pa_nam _ _ _ _ _ _ (pvQ 4) pa_nil))) (@pa_cst _ _ _ _ _ _ _ pe_str pa_nil) (by rfl) (by rfl) (by rfl) (by rfl) (by rfl)) (by rfl) (by first | exact .inl rfl | exact .inr rfl))
   (@pss_one _ _ _ (ps_for PassesOwn.never rfl (pi_range1 rfl T.range (@pa_cst _ _ _ _ _ _ _ pe_int pa_nil)) (pg_name (i:=6) scLaw.nd rfl (Or.inl rfl))
   (@pss_cons _ _ _ _ _ (@ps_set _ _ 7 _ _ _ _ scLaw.nd rfl (Or.inl rfl) (pe_call GT.ok hr3 rfl GT.mg GT.kp GT.bd .nil pass0 (@pa_nam _ _ _ _ _ _ (pvQ 2) (@pa_nam _ _ _ _ _ _ (pvQ 5) pa_nil))) (by rfl) (by first | exact .inl rfl | exact .inr rfl))
   (@pss_cons _ _ _ _ _ (@ps_if _ _ _ _ _ _ _ _ (PW.pt (pw_and (pt_cmpR (op_neE hu0) (pvQ 7) (@pe_lst _ _ _ _ pa_nil) (nomark _)) (pw_and1 (pt_cmpR op_eq (pe_call TK.ok hr1 rfl TK.mg TK.kp TK.bd .nil pass0 (@pa_nam _ _ _ _ _ _ (pvQ 2) (@pa_cst _ _ _ _ _ _ _ pe_int pa_nil))) pe_int (nomark _))))) (@pss_one _ _ _ (@ps_set _ _ 7 _ _ _ _ scLaw.nd rfl (Or.inl rfl) (pe_call GT.ok hr3 rfl GT.mg GT.kp GT.bd .nil pass0 (@pa_nam _ _ _ _ _ _ (pvQ 2) (@pa_nam _ _ _ _ _ _ (pvQ 7) pa_nil))) (by rfl) (by first | exact .inl rfl | exact .inr rfl))) pss_nil)
   (@pss_one _ _ _ (@ps_if _ _ _ _ _ _ _ _ (pt_not (pt_val (pe_call GS.ok hr5 rfl GS.mg GS.kp GS.bd .nil pass0 (@pa_call _ _ _ _ _ _ _ _ (pe_call GO.ok hr rfl GO.mg GO.kp GO.bd .nil pass0 (@pa_call _ _ _ _ _ _ _ _ (@pe_bm _ _ _ _ _ _ _ _ _ _ _ _ PySem.F.plainAttrs_str PySem.F.slot_str_join PySem.F.type_str_join mt_join pe_str (@pa_nam _ _ _ _ _ _ (pvQ 7) pa_nil) (by rfl) (by rfl) (by rfl) (by rfl) (by rfl)) pa_nil)) (@pa_call _ _ _ _ _ _ _ _ (pe_call GR.ok hr2 rfl GR.mg GR.kp GR.bd .nil pass0 (@pa_call _ _ _ _ _ _ _ _ (@pe_bm _ _ _ _ _ _ _ _ _ _ _ _ PySem.F.plainAttrs_str PySem.F.slot_str_split PySem.F.type_str_split mt_split (@pe_bm _ _ _ _ _ _ _ _ _ _ _ _ PySem.F.plainAttrs_str PySem.F.slot_str_join PySem.F.type_str_join mt_join pe_str (@pa_nam _ _ _ _ _ _ (pvQ 7) pa_nil) (by rfl) (by rfl) (by rfl) (by rfl) (by rfl)) (@pa_cst _ _ _ _ _ _ _ pe_str pa_nil) (by rfl) (by rfl) (by rfl) (by rfl) (by rfl)) pa_nil)) pa_nil))))) pss_never pss_nil))))))))))
   (@pss_one _ _ _ (@ps_ret _ _ _ _ (pe_and (pe_cmpR op_eq (pe_call GO.ok hr rfl GO.mg GO.kp GO.bd .nil pass0 (@pa_cst _ _ _ _ _ _ _ pe_str pa_nil)) pe_int (nomark _)) (pe_and (pe_cmpR op_eq (pe_call GO.ok hr rfl GO.mg GO.kp GO.bd .nil pass0 (@pa_cst _ _ _ _ _ _ _ pe_str pa_nil)) pe_int (nomark _)) (pe_one (pe_cmpR op_eq (pe_call GO.ok hr rfl GO.mg GO.kp GO.bd .nil pass0 (@pa_cst _ _ _ _ _ _ _ pe_str pa_nil)) pe_int (nomark _)))))))),?_⟩
  refine⟨a,_,rfl,.inl hS,_,_,rfl,_,_,rfl,rfl,_,rfl,?_,?_,?_⟩
  ·split <;> lia
  ·split <;> lia
  generalize ((1:Int)+(if((ns.map V.int).length:Int)<12 then((ns.map V.int).length:Int)else 12)).toNat=turns
  refine for_range (lo:=0) (n:=turns) (fun i σ H'=>Ex7 fun(v1 v2 v3 v4 v5 v6 v7:Option V)=>σ=[some (.ref a),v1,v2,v3,v4,v5,v6,v7]/\Same H H') ⟨_,_,_,_,_,_,_,rfl,Same.refl _⟩ ?_ ?_
  ·rintro i σ H0 hi ⟨v1,v2,v3,v4,v5,v6,v7,rfl,s0⟩
   refine⟨a,ns,0+i,by rw[Int.zero_add,zBU];rfl,s0.seq hS,fun p H1 hp B1 k1=>?_⟩
   refine⟨p,0,rfl,B1,by decide,fun r t l n ties ps H2 hr0 gr n2 n30 W ok pw gl lp po pl2 B2 k2=>?_⟩
   refine⟨r,_,rfl,SqT.of gr,rfl,_,_,rfl,_,_,rfl,rfl,?_⟩
   have len:=W.2
   have X:TOk n ties ps:=⟨by exact zj2 n2,by exact zl1 n30 rfl,ok,len,by have:=po.hi;exact zl1 this rfl,po.lo,po.rg⟩
   refine⟨t,l,n,ties,ps,rfl,W,SqL.of gl,X,fun H3 s3=>⟨rfl,_,_,rfl,rfl,(by decide),?_,fun lr hlr=>?_⟩⟩
   ·exact join_len (rowsI_all X n30 po.hi)
   rw[rowsI_split X n30 po.hi]
   have rB:=rowsI_ok X n30 po.hi
   have rl:=rowsI_length n ties ps
   have B3:=(B2.same s3).same (Same.new (o:=.lst ((rowsI n ties ps).map V.str)) hlr)
   have s4:=s3.trans (Same.new (o:=.lst ((rowsI n ties ps).map V.str)) hlr)
   have g3:(upd H3 lr (.lst ((rowsI n ties ps).map V.str))) lr=some (.lst ((rowsI n ties ps).map V.str)):=upd_same
   have k3:Kept p H0 (upd H3 lr (.lst ((rowsI n ties ps).map V.str))):=(k1.trans k2).ext s4
   generalize (upd H3 lr (.lst ((rowsI n ties ps).map V.str)))=H4 at B3 g3 k3 ⊢
   generalize rowsI n ties ps=rows at rB rl g3 ⊢
   clear s3 s4 hlr W gl gr k1 k2 B1 B2 X ok pw po
   refine⟨_,rfl,(by decide),(by decide),?_⟩
   refine for_range (lo:=0) (n:=6) (fun j σ G=>∃ (v6 v7:Option V),σ=[some (.ref a),some (.int (0+(i:Int))),some (.ref p),some (.ref t),some (.ref l),some (.ref lr),v6,v7]/\BoxAt G p (1500+17 * j)/\Kept p H0 G/\G lr=some (.lst (rows.map V.str))) ⟨_,_,rfl,B3.mono (by exact zI (0+1500) (17 * 0)),k3,g3⟩ ?_ ?_
   ·rintro j σ G hj ⟨v6,v7,rfl,B4,k4,g4⟩
    refine⟨p,lr,rows,_,23,rfl,B4,by exact zal hj,g4,by exact zh7 (Nat.succ_pos (ties.length+1)) (Eq.symm rl),by exact zfg len rl,rB,by decide,by decide,fun r1 rows1 G1 g5 l5 rb5 B5 k5=>?_⟩
    have kH5:=k4.trans k5
    have lrp:=box_ne B4 g4
    have g45:=k5 _ _ lrp g4
    refine' join2 (A:=fun(v7:Addr) (G2:Hp)=>∃ rows2:List Str,G2 v7=some (.lst (rows2.map V.str))/\rows2.length<=200/\(∀ r∈rows2,RowB 120 r)/\BoxAt G2 p (1500+17 * (j+1))/\Kept p H0 G2/\G2 lr=some (.lst (rows.map V.str))) (Kc:=?Kc) ?use ?k
    case use =>
     intro key
     refine⟨(by show 0<=sizeLine;decide),fun e he=>?_⟩
     have se:=Same.new (o:=.lst []) he
     generalize eH:(upd G1 e (.lst []))=G3 at se
     have ge:G3 e=some (.lst []):=by rw[<- eH];exact upd_same
     refine⟨r1,e,_,rfl,rfl,se _ _ g5,ge,_,rfl,ite2 (fun hne=>?_) (fun _=>?_)⟩
     ·have pos:0<rows1.length:=by
       cases rows1 with
       |nil=>cases hne
       |cons x y=>rw[zV];exact Nat.succ_pos y.length
      refine⟨p,3,_,rfl,B5.same se,by exact zal hj,by decide,by decide,fun z G4 z0 z1 B6 k6=>⟨rfl,_,rfl,ite2 (fun _=>?_) (fun _=>?_)⟩⟩
      ·have g6:=k6 _ _ (box_ne B5 g5) (se _ _ g5)
       refine⟨p,r1,rows1,_,54,rfl,B6,by exact zdi hj,g6,pos,by exact zdw len rl l5,rb5,by decide,by decide,fun r2 rows2 G5 g7 l7 rb7 B7 k7=>?_⟩
       exact key r2 G5 ⟨rows2,g7,by exact zed len rl l5 pos l7,fun r hr=>(rb7 r hr).mono (by decide),B7.mono (by exact zbt),(kH5.ext se).trans (k6.trans k7),k7 _ _ lrp (k6 _ _ lrp (se _ _ g45))⟩
      ·exact key r1 G4 ⟨rows1,k6 _ _ (box_ne B5 g5) (se _ _ g5),by exact zaw len rl l5,fun r hr=>(rb5 r hr).mono (by decide),B6.mono (by exact zbu),(kH5.ext se).trans k6,k6 _ _ lrp (se _ _ g45)⟩
     ·exact iteF (key r1 G3 ⟨rows1,se _ _ g5,by exact zaw len rl l5,fun r hr=>(rb5 r hr).mono (by decide),(B5.same se).mono (by exact zbz),kH5.ext se,se _ _ g45⟩)
    case k =>
     rintro r2 G2 ⟨rows2,g6,l6,rb6,B6,k6,g26⟩
     have oe:=eff_ok rb6 (by exact zl1 l6 rfl)
     have le:=eff_len l6
     have jl:=sum_rows rb6 (by exact zl1 l6 rfl)
     have je:=join_eff rows2
     have js:=join_len oe
     have sp:=oe.split'
     generalize eff rows2=es at oe le je js sp
     cases ew:whole es with
     |bad k =>
      refine⟨rfl,_,r2,rows2,rfl,rfl,SqL.of g6,jl,es,by rw[je];rfl,oe,fun k' hk G3 s3=>?_,(fun _ _ _ _ z=>by rw[ew]at z;cases z)⟩
      rw[ew]at hk
      cases hk
      refine⟨rfl,_,r2,rows2,rfl,rfl,SqL.of (s3 _ _ g6),jl,rfl,_,_,rfl,rfl,(by decide),by rw[je];exact js,fun q1 hq1=>?_⟩
      rw[je,sp]
      refine⟨q1,es,rfl,upd_same,oe,fun k' hk G4 s4=>?_,fun n ties ps u z=>?_⟩
      ·rw[ew]at hk
       cases hk
       have s5:=s3.trans ((Same.new (o:=.lst (es.map V.str)) hq1).trans s4)
       refine⟨_,_,.int (k:Int),rfl,rfl,rfl,fun G5 s6=>⟨_,rfl,iteF ?_⟩⟩
       have s7:=s5.trans s6
       exact⟨_,_,rfl,B6.same s7,k6.ext s7,s7 _ _ g26⟩
      ·rw[ew]at z;cases z
     |pair m ts qs u =>
      refine⟨rfl,_,r2,rows2,rfl,rfl,SqL.of g6,jl,es,by rw[je];rfl,oe,(fun _ z=>by rw[ew]at z;cases z),fun m' ts' qs' u' z r3 t3 l3 G3 gr3 W3 gl3 pl3 s3=>?_⟩
      rw[ew]at z
      cases z
      have tl:=whole_used ew
      refine⟨rfl,_,r2,rows2,rfl,rfl,SqL.of (s3 _ _ g6),jl,rfl,_,_,rfl,rfl,(by decide),by rw[je];exact js,fun q1 hq1=>?_⟩
      rw[je,sp]
      refine⟨q1,es,rfl,upd_same,oe,fun k' z=>?_,fun m' ts' qs' u' z r4 t4 l4 G4 gr4 W4 gl4 pl4 s4=>?_⟩
      ·rw[ew]at z;cases z
      ·rw[ew]at z
       cases z
       have s34:=(Same.new (o:=.lst (es.map V.str)) hq1).trans s4
       have s5:=s3.trans s34
       refine⟨_,_,_,rfl,Dat.same s34 (pair_dat gr3 W3 (by exact zC tl (zl1 le rfl)) gl3 (by exact zl1 pl3 rfl)),pair_dat gr4 W4 (by exact zC tl (zl1 le rfl)) gl4 (by exact zl1 pl3 rfl),fun G5 s6=>⟨_,rfl,iteF ?_⟩⟩
       have s7:=s5.trans s6
       exact⟨_,_,rfl,B6.same s7,k6.ext s7,s7 _ _ g26⟩
   ·rintro σ G ⟨v6,v7,rfl,B4,k4,g4⟩
    exact⟨_,_,_,_,_,_,_,rfl,s0.trans (Kept.same hp k4)⟩
  ·rintro σ G ⟨v1,v2,v3,v4,v5,v6,v7,rfl,s0⟩
   refine⟨[Str.ofString ""],rfl,rows0,fun k hk G1 s1=>?_,fun _ _ _ _ z=>by rw[whole0]at z;cases z⟩
   rw[whole0]at hk
   cases hk
   refine⟨rfl,_,rfl,ite2 (fun _=>?_) (fun h=>absurd rfl h)⟩
   refine⟨[Str.ofString "web 2"],rfl,rows1,fun k hk G1 s1=>?_,fun _ _ _ _ z=>by rw[whole1]at z;cases z⟩
   rw[whole1]at hk
   cases hk
   refine⟨rfl,_,rfl,ite2 (fun _=>?_) (fun h=>absurd rfl h)⟩
   refine⟨[Str.ofString "web 2",Str.ofString "tie 0 1 5"],by rw[<- text_web];rfl,rows2,fun k hk G1 s1=>?_,fun _ _ _ _ z=>by rw[whole2]at z;cases z⟩
   rw[whole2]at hk
   cases hk
   exact⟨rfl,q _⟩
end
open PySem L2 PyProof.Rows
theorem leS{k:Nat}{motive:List Value->Prop}(us:List Value)(hl:us.length=k+1)(h:∀ a t,t.length=k->motive (a :: t)):motive us:=by
 cases us with
 |nil=>cases hl
 |cons a t=>exact h a t (Nat.succ.inj hl)
theorem leZ{motive:List Value->Prop}(us:List Value)(hl:us.length=0)(h:motive []):motive us:=by
 cases us with
 |nil=>exact h
 |cons a t=>cases hl
@[elab_as_elim] theorem le1{motive:List Value->Prop}(us:List Value)(hl:us.length=1)(k:∀ a0,motive [a0]):motive us:=leS (motive:=fun u=>motive (u)) us hl fun a0 t0 h0=>leZ (motive:=fun u=>motive (a0 :: u)) t0 h0 (k a0)
@[elab_as_elim] theorem le2{motive:List Value->Prop}(us:List Value)(hl:us.length=2)(k:∀ a0 a1,motive [a0,a1]):motive us:=leS (motive:=fun u=>motive (u)) us hl fun a0 t0 h0=>leS (motive:=fun u=>motive (a0 :: u)) t0 h0 fun a1 t1 h1=>leZ (motive:=fun u=>motive (a0 :: a1 :: u)) t1 h1 (k a0 a1)
@[elab_as_elim] theorem le3{motive:List Value->Prop}(us:List Value)(hl:us.length=3)(k:∀ a0 a1 a2,motive [a0,a1,a2]):motive us:=leS (motive:=fun u=>motive (u)) us hl fun a0 t0 h0=>leS (motive:=fun u=>motive (a0 :: u)) t0 h0 fun a1 t1 h1=>leS (motive:=fun u=>motive (a0 :: a1 :: u)) t1 h1 fun a2 t2 h2=>leZ (motive:=fun u=>motive (a0 :: a1 :: a2 :: u)) t2 h2 (k a0 a1 a2)
@[elab_as_elim] theorem le4{motive:List Value->Prop}(us:List Value)(hl:us.length=4)(k:∀ a0 a1 a2 a3,motive [a0,a1,a2,a3]):motive us:=leS (motive:=fun u=>motive (u)) us hl fun a0 t0 h0=>leS (motive:=fun u=>motive (a0 :: u)) t0 h0 fun a1 t1 h1=>leS (motive:=fun u=>motive (a0 :: a1 :: u)) t1 h1 fun a2 t2 h2=>leS (motive:=fun u=>motive (a0 :: a1 :: a2 :: u)) t2 h2 fun a3 t3 h3=>leZ (motive:=fun u=>motive (a0 :: a1 :: a2 :: a3 :: u)) t3 h3 (k a0 a1 a2 a3)
theorem all_mk{l:PySem.W.OpenLaw}{w:World}{K:PySem.W.Frag}{h:Heap}{mg:Str->Option Value}{fa f1 f2 f3 f4 f5 f6 f7 f8 f9 f10 f11 f12 f13 f14 f15 f16 f17 f18 f19 f20 f21 f22 f23 f24 f25 f26:Addr}(X:K.In h)(G:h.Ns mainGlobals mg)(hfa:mg "law" = some (.ref fa))
  {od1 an1 od2 an2 od3 an3 od4 an4 od5 an5 od6 an6 od7 an7 od8 an8 od9 an9 od10 an10 od11 an11 od12 an12 od13 an13 od14 an14 od15 an15 od16 an16 od17 an17 od18 an18 od19 an19 od20 an20 od21 an21 od22 an22 od23 an23 od24 an24 od25 an25 od26 an26:Option Addr}{sl1 sl2 sl3 sl4 sl5 sl6 sl7 sl8 sl9 sl10 sl11 sl12 sl13 sl14 sl15 sl16 sl17 sl18 sl19 sl20 sl21 sl22 sl23 sl24 sl25 sl26:Array (Option Value)}{oc1 kV1 dc1 pm1 cd1 ct1 oc2 kV2 dc2 pm2 cd2 ct2 oc3 kV3 dc3 pm3 cd3 ct3 oc4 kV4 dc4 pm4 cd4 ct4 oc5 kV5 dc5 pm5 cd5 ct5 oc6 kV6 dc6 pm6 cd6 ct6 oc7 kV7 dc7 pm7 cd7 ct7 oc8 kV8 dc8 pm8 cd8 ct8 oc9 kV9 dc9 pm9 cd9 ct9 oc10 kV10 dc10 pm10 cd10 ct10 oc11 kV11 dc11 pm11 cd11 ct11 oc12 kV12 dc12 pm12 cd12 ct12 oc13 kV13 dc13 pm13 cd13 ct13 oc14 kV14 dc14 pm14 cd14 ct14 oc15 kV15 dc15 pm15 cd15 ct15 oc16 kV16 dc16 pm16 cd16 ct16 oc17 kV17 dc17 pm17 cd17 ct17 oc18 kV18 dc18 pm18 cd18 ct18 oc19 kV19 dc19 pm19 cd19 ct19 oc20 kV20 dc20 pm20 cd20 ct20 oc21 kV21 dc21 pm21 cd21 ct21 oc22 kV22 dc22 pm22 cd22 ct22 oc23 kV23 dc23 pm23 cd23 ct23 oc24 kV24 dc24 pm24 cd24 ct24 oc25 kV25 dc25 pm25 cd25 ct25 oc26 kV26 dc26 pm26 cd26 ct26:Value}
  (a1:PySem.W.nsIn K mainGlobals "is_number" = some (some (.ref f1))) (l1:K.lookup f1=some ⟨oc1,od1,.func (PySem.W.fnOf "is_number" "is_number" (defArgs sIsNumber) (defBody sIsNumber) (defScope sIsNumber) .none kV1 dc1 pm1 an1 cd1 ct1),sl1⟩) (c1:PySem.W.codeIn K cd1 "is_number" = true) (k1:PySem.W.keepIn K (.ref f1)=true)
  (a2:PySem.W.nsIn K mainGlobals "are_numbers" = some (some (.ref f2))) (l2:K.lookup f2=some ⟨oc2,od2,.func (PySem.W.fnOf "are_numbers" "are_numbers" (defArgs sAreNumbers) (defBody sAreNumbers) (defScope sAreNumbers) .none kV2 dc2 pm2 an2 cd2 ct2),sl2⟩) (c2:PySem.W.codeIn K cd2 "are_numbers" = true) (k2:PySem.W.keepIn K (.ref f2)=true)
  (a3:PySem.W.nsIn K mainGlobals "is_tuple_of" = some (some (.ref f3))) (l3:K.lookup f3=some ⟨oc3,od3,.func (PySem.W.fnOf "is_tuple_of" "is_tuple_of" (defArgs sIsTupleOf) (defBody sIsTupleOf) (defScope sIsTupleOf) .none kV3 dc3 pm3 an3 cd3 ct3),sl3⟩) (c3:PySem.W.codeIn K cd3 "is_tuple_of" = true) (k3:PySem.W.keepIn K (.ref f3)=true)
  (a4:PySem.W.nsIn K mainGlobals "rises" = some (some (.ref f4))) (l4:K.lookup f4=some ⟨oc4,od4,.func (PySem.W.fnOf "rises" "rises" (defArgs sRises) (defBody sRises) (defScope sRises) .none kV4 dc4 pm4 an4 cd4 ct4),sl4⟩) (c4:PySem.W.codeIn K cd4 "rises" = true) (k4:PySem.W.keepIn K (.ref f4)=true)
  (a5:PySem.W.nsIn K mainGlobals "is_tie" = some (some (.ref f5))) (l5:K.lookup f5=some ⟨oc5,od5,.func (PySem.W.fnOf "is_tie" "is_tie" (defArgs sIsTie) (defBody sIsTie) (defScope sIsTie) .none kV5 dc5 pm5 an5 cd5 ct5),sl5⟩) (c5:PySem.W.codeIn K cd5 "is_tie" = true) (k5:PySem.W.keepIn K (.ref f5)=true)
  (a6:PySem.W.nsIn K mainGlobals "web_from" = some (some (.ref f6))) (l6:K.lookup f6=some ⟨oc6,od6,.func (PySem.W.fnOf "web_from" "web_from" (defArgs sWebFrom) (defBody sWebFrom) (defScope sWebFrom) .none kV6 dc6 pm6 an6 cd6 ct6),sl6⟩) (c6:PySem.W.codeIn K cd6 "web_from" = true) (k6:PySem.W.keepIn K (.ref f6)=true)
  (a7:PySem.W.nsIn K mainGlobals "web_ahead" = some (some (.ref f7))) (l7:K.lookup f7=some ⟨oc7,od7,.func (PySem.W.fnOf "web_ahead" "web_ahead" (defArgs sWebAhead) (defBody sWebAhead) (defScope sWebAhead) .none kV7 dc7 pm7 an7 cd7 ct7),sl7⟩) (c7:PySem.W.codeIn K cd7 "web_ahead" = true) (k7:PySem.W.keepIn K (.ref f7)=true)
  (a8:PySem.W.nsIn K mainGlobals "are_posts" = some (some (.ref f8))) (l8:K.lookup f8=some ⟨oc8,od8,.func (PySem.W.fnOf "are_posts" "are_posts" (defArgs sArePosts) (defBody sArePosts) (defScope sArePosts) .none kV8 dc8 pm8 an8 cd8 ct8),sl8⟩) (c8:PySem.W.codeIn K cd8 "are_posts" = true) (k8:PySem.W.keepIn K (.ref f8)=true)
  (a9:PySem.W.nsIn K mainGlobals "numbers_behind" = some (some (.ref f9))) (l9:K.lookup f9=some ⟨oc9,od9,.func (PySem.W.fnOf "numbers_behind" "numbers_behind" (defArgs sNumbersBehind) (defBody sNumbersBehind) (defScope sNumbersBehind) .none kV9 dc9 pm9 an9 cd9 ct9),sl9⟩) (c9:PySem.W.codeIn K cd9 "numbers_behind" = true) (k9:PySem.W.keepIn K (.ref f9)=true)
  (a10:PySem.W.nsIn K mainGlobals "is_figures" = some (some (.ref f10))) (l10:K.lookup f10=some ⟨oc10,od10,.func (PySem.W.fnOf "is_figures" "is_figures" (defArgs sIsFigures) (defBody sIsFigures) (defScope sIsFigures) .none kV10 dc10 pm10 an10 cd10 ct10),sl10⟩) (c10:PySem.W.codeIn K cd10 "is_figures" = true) (k10:PySem.W.keepIn K (.ref f10)=true)
  (a11:PySem.W.nsIn K mainGlobals "_law_cell_at" = some (some (.ref f11))) (l11:K.lookup f11=some ⟨oc11,od11,.func (PySem.W.fnOf "_law_cell_at" "_law_cell_at" (defArgs sCell) (defBody sCell) (defScope sCell) .none kV11 dc11 pm11 an11 cd11 ct11),sl11⟩) (c11:PySem.W.codeIn K cd11 "_law_cell_at" = true) (k11:PySem.W.keepIn K (.ref f11)=true)
  (a12:PySem.W.nsIn K mainGlobals "_law_box" = some (some (.ref f12))) (l12:K.lookup f12=some ⟨oc12,od12,.func (PySem.W.fnOf "_law_box" "_law_box" (defArgs sBox) (defBody sBox) (defScope sBox) .none kV12 dc12 pm12 an12 cd12 ct12),sl12⟩) (c12:PySem.W.codeIn K cd12 "_law_box" = true) (k12:PySem.W.keepIn K (.ref f12)=true)
  (a13:PySem.W.nsIn K mainGlobals "_law_take" = some (some (.ref f13))) (l13:K.lookup f13=some ⟨oc13,od13,.func (PySem.W.fnOf "_law_take" "_law_take" (defArgs sTake) (defBody sTake) (defScope sTake) .none kV13 dc13 pm13 an13 cd13 ct13),sl13⟩) (c13:PySem.W.codeIn K cd13 "_law_take" = true) (k13:PySem.W.keepIn K (.ref f13)=true)
  (a14:PySem.W.nsIn K mainGlobals "_law_many" = some (some (.ref f14))) (l14:K.lookup f14=some ⟨oc14,od14,.func (PySem.W.fnOf "_law_many" "_law_many" (defArgs sMany) (defBody sMany) (defScope sMany) .none kV14 dc14 pm14 an14 cd14 ct14),sl14⟩) (c14:PySem.W.codeIn K cd14 "_law_many" = true) (k14:PySem.W.keepIn K (.ref f14)=true)
  (a15:PySem.W.nsIn K mainGlobals "_law_weight" = some (some (.ref f15))) (l15:K.lookup f15=some ⟨oc15,od15,.func (PySem.W.fnOf "_law_weight" "_law_weight" (defArgs sWeight) (defBody sWeight) (defScope sWeight) .none kV15 dc15 pm15 an15 cd15 ct15),sl15⟩) (c15:PySem.W.codeIn K cd15 "_law_weight" = true) (k15:PySem.W.keepIn K (.ref f15)=true)
  (a16:PySem.W.nsIn K mainGlobals "_law_web" = some (some (.ref f16))) (l16:K.lookup f16=some ⟨oc16,od16,.func (PySem.W.fnOf "_law_web" "_law_web" (defArgs sWeb) (defBody sWeb) (defScope sWeb) .none kV16 dc16 pm16 an16 cd16 ct16),sl16⟩) (c16:PySem.W.codeIn K cd16 "_law_web" = true) (k16:PySem.W.keepIn K (.ref f16)=true)
  (a17:PySem.W.nsIn K mainGlobals "_law_posts" = some (some (.ref f17))) (l17:K.lookup f17=some ⟨oc17,od17,.func (PySem.W.fnOf "_law_posts" "_law_posts" (defArgs sPosts) (defBody sPosts) (defScope sPosts) .none kV17 dc17 pm17 an17 cd17 ct17),sl17⟩) (c17:PySem.W.codeIn K cd17 "_law_posts" = true) (k17:PySem.W.keepIn K (.ref f17)=true)
  (a18:PySem.W.nsIn K mainGlobals "_law_with_posts" = some (some (.ref f18))) (l18:K.lookup f18=some ⟨oc18,od18,.func (PySem.W.fnOf "_law_with_posts" "_law_with_posts" (defArgs sWithPosts) (defBody sWithPosts) (defScope sWithPosts) .none kV18 dc18 pm18 an18 cd18 ct18),sl18⟩) (c18:PySem.W.codeIn K cd18 "_law_with_posts" = true) (k18:PySem.W.keepIn K (.ref f18)=true)
  (a19:PySem.W.nsIn K mainGlobals "_law_text" = some (some (.ref f19))) (l19:K.lookup f19=some ⟨oc19,od19,.func (PySem.W.fnOf "_law_text" "_law_text" (defArgs sText) (defBody sText) (defScope sText) .none kV19 dc19 pm19 an19 cd19 ct19),sl19⟩) (c19:PySem.W.codeIn K cd19 "_law_text" = true) (k19:PySem.W.keepIn K (.ref f19)=true)
  (a20:PySem.W.nsIn K mainGlobals "_law_same" = some (some (.ref f20))) (l20:K.lookup f20=some ⟨oc20,od20,.func (PySem.W.fnOf "_law_same" "_law_same" (defArgs sSame) (defBody sSame) (defScope sSame) .none kV20 dc20 pm20 an20 cd20 ct20),sl20⟩) (c20:PySem.W.codeIn K cd20 "_law_same" = true) (k20:PySem.W.keepIn K (.ref f20)=true)
  (a21:PySem.W.nsIn K mainGlobals "_law_numbers" = some (some (.ref f21))) (l21:K.lookup f21=some ⟨oc21,od21,.func (PySem.W.fnOf "_law_numbers" "_law_numbers" (defArgs sNumbers) (defBody sNumbers) (defScope sNumbers) .none kV21 dc21 pm21 an21 cd21 ct21),sl21⟩) (c21:PySem.W.codeIn K cd21 "_law_numbers" = true) (k21:PySem.W.keepIn K (.ref f21)=true)
  (a22:PySem.W.nsIn K mainGlobals "_law_read" = some (some (.ref f22))) (l22:K.lookup f22=some ⟨oc22,od22,.func (PySem.W.fnOf "_law_read" "_law_read" (defArgs sRead) (defBody sRead) (defScope sRead) .none kV22 dc22 pm22 an22 cd22 ct22),sl22⟩) (c22:PySem.W.codeIn K cd22 "_law_read" = true) (k22:PySem.W.keepIn K (.ref f22)=true)
  (a23:PySem.W.nsIn K mainGlobals "_law_told" = some (some (.ref f23))) (l23:K.lookup f23=some ⟨oc23,od23,.func (PySem.W.fnOf "_law_told" "_law_told" (defArgs sTold) (defBody sTold) (defScope sTold) .none kV23 dc23 pm23 an23 cd23 ct23),sl23⟩) (c23:PySem.W.codeIn K cd23 "_law_told" = true) (k23:PySem.W.keepIn K (.ref f23)=true)
  (a24:PySem.W.nsIn K mainGlobals "_law_bent_row" = some (some (.ref f24))) (l24:K.lookup f24=some ⟨oc24,od24,.func (PySem.W.fnOf "_law_bent_row" "_law_bent_row" (defArgs sBentRow) (defBody sBentRow) (defScope sBentRow) .none kV24 dc24 pm24 an24 cd24 ct24),sl24⟩) (c24:PySem.W.codeIn K cd24 "_law_bent_row" = true) (k24:PySem.W.keepIn K (.ref f24)=true)
  (a25:PySem.W.nsIn K mainGlobals "_law_bent" = some (some (.ref f25))) (l25:K.lookup f25=some ⟨oc25,od25,.func (PySem.W.fnOf "_law_bent" "_law_bent" (defArgs sBent) (defBody sBent) (defScope sBent) .none kV25 dc25 pm25 an25 cd25 ct25),sl25⟩) (c25:PySem.W.codeIn K cd25 "_law_bent" = true) (k25:PySem.W.keepIn K (.ref f25)=true)
  (a26:PySem.W.nsIn K mainGlobals "law" = some (some (.ref f26))) (l26:K.lookup f26=some ⟨oc26,od26,.func (PySem.W.fnOf "law" "law" (defArgs sLaw) (defBody sLaw) (defScope sLaw) .none kV26 dc26 pm26 an26 cd26 ct26),sl26⟩) (c26:PySem.W.codeIn K cd26 "law" = true) (k26:PySem.W.keepIn K (.ref f26)=true)
  {tgs0:Tok} (gs0:PySem.W.nsIn K mainGlobals "FIGURES" = some (some (.str "0123456789" tgs0)))
  {xC xP xC3 xC4 xC5 xI xN:Addr}{nm xq:Str}{bs sub:List Value}{sn:List Str}{ab:Bool}{col:Option Bool}{dd xod xan:Option Addr}{xk0 xk1 xk2 xk3 xk5:Option Value}{xoc xkV xdc xpm xcd xct:Value}{xsl:Array (Option Value)}
  (xc1:PySem.W.nsIn K mainGlobals "BadRow" = some (some (.ref xC)))
  (xc2:PySem.W.nsIn K mainGlobals "PartError" = some (some (.ref xP)))
  (xc3:PySem.W.nsIn K mainGlobals "NoPlace" = some (some (.ref xC3)))
  (xc4:PySem.W.nsIn K mainGlobals "NoPost" = some (some (.ref xC4)))
  (xc5:PySem.W.nsIn K mainGlobals "TooMany" = some (some (.ref xC5)))
  (xo1:K.lookup xC=some (excClassObj nm xq xC xN bs (.ref xP :: [.type "ValueError",.type "Exception",.type "BaseException",.type "object"]) true sn sub ab col dd xk0 xk1 xk2 xk3 xk5 "ValueError.__new__"))
  (xo2:PySem.W.tailIn K [.type "ValueError",.type "Exception",.type "BaseException",.type "object"] [.ref xP,.type "ValueError",.type "Exception",.type "BaseException",.type "object"]=true)
  (xo3:PySem.W.findIn K (.ref xC) "__init__" = some (some (.ref xI)))
  (xo4:PySem.W.isFn K (.ref xI)=true)
  (xo5:PySem.W.keepIn K (.ref xC)=true)
  (xo6:PySem.W.findIn K (.ref xC) "__setattr__" = some (some (.builtin "object.__setattr__")))
  (xo7:PySem.W.findIn K (.ref xC) "row" = some none)
  (xl1:K.lookup xI=some ⟨xoc,xod,.func (PySem.W.fnOf "__init__" "BadRow.__init__" (defArgs (inClass sBadrow 0)) (defBody (inClass sBadrow 0)) (defScope (inClass sBadrow 0)) .none xkV xdc xpm xan xcd xct),xsl⟩)
  (xl2:PySem.W.codeIn K xcd "BadRow.__init__" = true)
  (xl3:PySem.W.keepIn K (.ref xI)=true)
  (xp1:PySem.W.findIn K (.ref xC) "__getattribute__" = some (some (.builtin "BaseException.__getattribute__")))
  (xp2:PySem.W.findIn K (.ref xC) "__getattr__" = some none)
  (xp3:PySem.W.findIn K (.ref xC) "__class__" = some (some (.builtin "object.__class__")))
  (xp4:PySem.W.specialIn K (.builtin "object.__class__") "__get__" = some (some (.builtin "getset_descriptor.__get__")))
  (xp5:PySem.W.takesIn K (.builtin "object.__class__")=some true)
  (xp6:PySem.W.mroIn K xC (.type "BaseException")=some true)
  (xp7:PySem.W.mroIn K xC (.type "object")=some true)
  (xq1:PySem.W.kitOne K (.ref xC) (.ref xC)=some true)
  (xq2:PySem.W.kitOne K (.ref xC) (.type "ValueError")=some true)
  (xq3:PySem.W.kitAny K (.ref xC) [.ref xC3,.ref xC4,.ref xC5]=some false)
  (xq4:PySem.W.exmOne K (.ref xC) (.ref xP)=some true)
  (xq5:PySem.W.nsIn K mainGlobals "ValueError" = some none)
  (z1:PySem.W.nsIn K mainGlobals "abs" = some none) (z2:PySem.W.nsIn K mainGlobals "int" = some none) (z3:PySem.W.nsIn K mainGlobals "len" = some none) (z4:PySem.W.nsIn K mainGlobals "range" = some none) (z5:PySem.W.nsIn K mainGlobals "min" = some none) (z6:PySem.W.nsIn K mainGlobals "max" = some none) (z7:PySem.W.nsIn K mainGlobals "tuple" = some none) (z8:PySem.W.nsIn K mainGlobals "sorted" = some none) (z9:PySem.W.nsIn K mainGlobals "isinstance" = some none) (z10:PySem.W.nsIn K mainGlobals "list" = some none) (z11:PySem.W.nsIn K mainGlobals "str" = some none) (z12:PySem.W.nsIn K mainGlobals "bool" = some none) (z13:PySem.W.nsIn K mainGlobals "sum" = some none) (z14:PySem.W.nsIn K mainGlobals "all" = some none) (z15:PySem.W.nsIn K mainGlobals "zip" = some none) (z16:PySem.W.nsIn K mainGlobals "enumerate" = some none) (z17:PySem.W.nsIn K mainGlobals "dict" = some none) (z18:PySem.W.nsIn K mainGlobals "set" = some none) (z19:PySem.W.nsIn K mainGlobals "reversed" = some none) :
  ∃ fd:FuncData,(∀ (s:Shared) (v:Value),BindsTo s fd ⟨[v],[]⟩ [("_law_script",v)])/\∀ base:Heap,K.In base->base.Ns mainGlobals mg->FnOk l.prog w K mg base CX0 7 fa fd ["_law_script"] (spLaw K):=by
 have e:=hfa.symm.trans (PySem.W.mg_of X G a26)
 cases e
 have T:Txt mg:=⟨PySem.W.mg_none_of X G z1,PySem.W.mg_none_of X G z2,PySem.W.mg_none_of X G z3,PySem.W.mg_none_of X G z4,PySem.W.mg_none_of X G z5,PySem.W.mg_none_of X G z6,PySem.W.mg_none_of X G z7,PySem.W.mg_none_of X G z8,PySem.W.mg_none_of X G z9,PySem.W.mg_none_of X G z10,PySem.W.mg_none_of X G z11,PySem.W.mg_none_of X G z12,PySem.W.mg_none_of X G z13⟩
 have T2:Txt2 mg:=⟨PySem.W.mg_none_of X G z14,PySem.W.mg_none_of X G z15,PySem.W.mg_none_of X G z16,PySem.W.mg_none_of X G z17⟩
 have T3:Txt3 mg:=⟨PySem.W.mg_none_of X G z18,PySem.W.mg_none_of X G z19⟩
 have GL:Glb mg:=⟨_,PySem.W.mg_of X G gs0⟩
 have F1:=fun_mk (st:=sIsNumber) l1 c1 k1
 have F2:=fun_mk (st:=sAreNumbers) l2 c2 k2
 have F3:=fun_mk (st:=sIsTupleOf) l3 c3 k3
 have F4:=fun_mk (st:=sRises) l4 c4 k4
 have F5:=fun_mk (st:=sIsTie) l5 c5 k5
 have F6:=fun_mk (st:=sWebFrom) l6 c6 k6
 have F7:=fun_mk (st:=sWebAhead) l7 c7 k7
 have F8:=fun_mk (st:=sArePosts) l8 c8 k8
 have F9:=fun_mk (st:=sNumbersBehind) l9 c9 k9
 have F10:=fun_mk (st:=sIsFigures) l10 c10 k10
 have F11:=fun_mk (st:=sCell) l11 c11 k11
 have F12:=fun_mk (st:=sBox) l12 c12 k12
 have F13:=fun_mk (st:=sTake) l13 c13 k13
 have F14:=fun_mk (st:=sMany) l14 c14 k14
 have F15:=fun_mk (st:=sWeight) l15 c15 k15
 have F16:=fun_mk (st:=sWeb) l16 c16 k16
 have F17:=fun_mk (st:=sPosts) l17 c17 k17
 have F18:=fun_mk (st:=sWithPosts) l18 c18 k18
 have F19:=fun_mk (st:=sText) l19 c19 k19
 have F20:=fun_mk (st:=sSame) l20 c20 k20
 have F21:=fun_mk (st:=sNumbers) l21 c21 k21
 have F22:=fun_mk (st:=sRead) l22 c22 k22
 have F23:=fun_mk (st:=sTold) l23 c23 k23
 have F24:=fun_mk (st:=sBentRow) l24 c24 k24
 have F25:=fun_mk (st:=sBent) l25 c25 k25
 have F26:=fun_mk (st:=sLaw) l26 c26 k26
 have b1:=F1.binds (ps:=["thing"]) fun _ _ _ _ _ _ us hl=>le1 us hl fun _=>rfl
 have b2:=F2.binds (ps:=["things"]) fun _ _ _ _ _ _ us hl=>le1 us hl fun _=>rfl
 have b3:=F3.binds (ps:=["thing","many"]) fun _ _ _ _ _ _ us hl=>le2 us hl fun _ _=>rfl
 have b4:=F4.binds (ps:=["things"]) fun _ _ _ _ _ _ us hl=>le1 us hl fun _=>rfl
 have b5:=F5.binds (ps:=["thing","many"]) fun _ _ _ _ _ _ us hl=>le2 us hl fun _ _=>rfl
 have b6:=F6.binds (ps:=["text"]) fun _ _ _ _ _ _ us hl=>le1 us hl fun _=>rfl
 have b7:=F7.binds (ps:=["rows"]) fun _ _ _ _ _ _ us hl=>le1 us hl fun _=>rfl
 have b8:=F8.binds (ps:=["many","numbers"]) fun _ _ _ _ _ _ us hl=>le2 us hl fun _ _=>rfl
 have b9:=F9.binds (ps:=["word","row"]) fun _ _ _ _ _ _ us hl=>le2 us hl fun _ _=>rfl
 have b10:=F10.binds (ps:=["word"]) fun _ _ _ _ _ _ us hl=>le1 us hl fun _=>rfl
 have b11:=F11.binds (ps:=["_law_script","_law_k"]) fun _ _ _ _ _ _ us hl=>le2 us hl fun _ _=>rfl
 have b12:=F12.binds (ps:=["_law_script","_law_k"]) fun _ _ _ _ _ _ us hl=>le2 us hl fun _ _=>rfl
 have b13:=F13.binds (ps:=["_law_box_here","_law_many_here"]) fun _ _ _ _ _ _ us hl=>le2 us hl fun _ _=>rfl
 have b14:=F14.binds (ps:=["_law_box_here","_law_least","_law_few","_law_most"]) fun _ _ _ _ _ _ us hl=>le4 us hl fun _ _ _ _=>rfl
 have b15:=F15.binds (ps:=["_law_box_here","_law_heavy"]) fun _ _ _ _ _ _ us hl=>le2 us hl fun _ _=>rfl
 have b16:=F16.binds (ps:=["_law_box_here","_law_many_here"]) fun _ _ _ _ _ _ us hl=>le2 us hl fun _ _=>rfl
 have b17:=F17.binds (ps:=["_law_box_here","_law_many_here","_law_most"]) fun _ _ _ _ _ _ us hl=>le3 us hl fun _ _ _=>rfl
 have b18:=F18.binds (ps:=["_law_box_here"]) fun _ _ _ _ _ _ us hl=>le1 us hl fun _=>rfl
 have b19:=F19.binds (ps:=["_law_web_here","_law_posts_here"]) fun _ _ _ _ _ _ us hl=>le2 us hl fun _ _=>rfl
 have b20:=F20.binds (ps:=["_law_found","_law_due"]) fun _ _ _ _ _ _ us hl=>le2 us hl fun _ _=>rfl
 have b21:=F21.binds (ps:=["_law_words"]) fun _ _ _ _ _ _ us hl=>le1 us hl fun _=>rfl
 have b22:=F22.binds (ps:=["_law_rows"]) fun _ _ _ _ _ _ us hl=>le1 us hl fun _=>rfl
 have b23:=F23.binds (ps:=["_law_text_here"]) fun _ _ _ _ _ _ us hl=>le1 us hl fun _=>rfl
 have b24:=F24.binds (ps:=["_law_box_here","_law_row"]) fun _ _ _ _ _ _ us hl=>le2 us hl fun _ _=>rfl
 have b25:=F25.binds (ps:=["_law_box_here","_law_rows"]) fun _ _ _ _ _ _ us hl=>le2 us hl fun _ _=>rfl
 have m1:=PySem.W.mg_of X G a1
 have m2:=PySem.W.mg_of X G a2
 have m3:=PySem.W.mg_of X G a3
 have m4:=PySem.W.mg_of X G a4
 have m5:=PySem.W.mg_of X G a5
 have m6:=PySem.W.mg_of X G a6
 have m7:=PySem.W.mg_of X G a7
 have m8:=PySem.W.mg_of X G a8
 have m9:=PySem.W.mg_of X G a9
 have m10:=PySem.W.mg_of X G a10
 have m11:=PySem.W.mg_of X G a11
 have m12:=PySem.W.mg_of X G a12
 have m13:=PySem.W.mg_of X G a13
 have m14:=PySem.W.mg_of X G a14
 have m15:=PySem.W.mg_of X G a15
 have m16:=PySem.W.mg_of X G a16
 have m17:=PySem.W.mg_of X G a17
 have m18:=PySem.W.mg_of X G a18
 have m19:=PySem.W.mg_of X G a19
 have m20:=PySem.W.mg_of X G a20
 have m21:=PySem.W.mg_of X G a21
 have m22:=PySem.W.mg_of X G a22
 have m23:=PySem.W.mg_of X G a23
 have m24:=PySem.W.mg_of X G a24
 have m25:=PySem.W.mg_of X G a25
 have m26:=PySem.W.mg_of X G a26
 refine⟨PySem.W.fnOf "law" "law" (defArgs sLaw) (defBody sLaw) (defScope sLaw) .none kV26 dc26 pm26 an26 cd26 ct26,fun s v=>.of_eq rfl,fun base _ _=>?_⟩
 have FI:=fun_mk (st:=inClass sBadrow 0) xl1 xl2 xl3
 have bI:=FI.binds (ps:=nIni) fun _ _ _ _ _ _ us hl=>le2 us hl fun _ _=>rfl
 have GB0:Bads K mg xC xP xI _:=⟨⟨⟨_,_,_,_,_,_,_,_,_,_,_,_,_,_,xo1⟩,xo2,xo3,xo4,xo5,xo6,xo7,xp1,xp2,xp3,xp4,xp5,xp6,xp7⟩,FI,bI,PySem.W.mg_of X G xc1⟩
 have GC0:Clss K mg xC xP xC3 xC4 xC5:=⟨PySem.W.mg_of X G xc2,PySem.W.mg_of X G xc3,PySem.W.mg_of X G xc4,PySem.W.mg_of X G xc5,PySem.W.mg_none_of X G xq5,xq1,xq2,xq3,xq4⟩
 have TK:TakeF l.prog w K mg base f13 _:=⟨ok_take F13,m13,k13,b13⟩
 have C__law_box:CalF l.prog w K mg base 2 "_law_box" ["_law_script","_law_k"] (spBox K) f12 _:=⟨ok_box F12 T F11 m11 b11,m12,k12,b12⟩
 have C__law_many:CalF l.prog w K mg base 2 "_law_many" ["_law_box_here","_law_least","_law_few","_law_most"] spMany f14 _:=⟨ok_many F14 TK,m14,k14,b14⟩
 have TW:WeightF l.prog w K mg base f15 _:=⟨ok_weight F15 TK,m15,k15,b15⟩
 have C__law_web:CalF l.prog w K mg base 3 "_law_web" ["_law_box_here","_law_many_here"] spWeb f16 _:=⟨ok_web F16 T TK TW,m16,k16,b16⟩
 have C__law_posts:CalF l.prog w K mg base 2 "_law_posts" ["_law_box_here","_law_many_here","_law_most"] spPo f17 _:=⟨ok_po F17 T TK,m17,k17,b17⟩
 have C__law_with_posts:CalF l.prog w K mg base 4 "_law_with_posts" ["_law_box_here"] spWP f18 _:=⟨ok_wp F18 C__law_many C__law_web C__law_posts,m18,k18,b18⟩
 have C__law_text:CalF l.prog w K mg base 1 "_law_text" ["_law_web_here","_law_posts_here"] (spLt K) f19 _:=⟨ok_lt F19 T,m19,k19,b19⟩
 have C__law_bent_row:CalF l.prog w K mg base 2 "_law_bent_row" ["_law_box_here","_law_row"] spBr f24 _:=⟨ok_br F24 T T3 TK,m24,k24,b24⟩
 have C__law_bent:CalF l.prog w K mg base 3 "_law_bent" ["_law_box_here","_law_rows"] spBt f25 _:=⟨ok_bt F25 T T2 TK C__law_bent_row,m25,k25,b25⟩
 have C__law_same:CalF l.prog w K mg base 5 "_law_same" ["_law_found","_law_due"] (spSame 4) f20 _:=⟨ok_same F20 T T2 m20 b20 4,m20,k20,b20⟩
 have C_is_figures:CalF l.prog w K mg base 1 "is_figures" ["word"] spFg f10 _:=⟨ok_fg F10 T T2 GL,m10,k10,b10⟩
 have C_numbers_behind:CalF l.prog w K mg base 2 "numbers_behind" ["word","row"] spNg f9 _:=⟨ok_ng F9 T T2 C_is_figures,m9,k9,b9⟩
 have C_rises:CalF l.prog w K mg base 1 "rises" ["things"] spRg f4 _:=⟨ok_rg F4 T2,m4,k4,b4⟩
 have C_are_posts:CalF l.prog w K mg base 2 "are_posts" ["many","numbers"] spPg f8 _:=⟨ok_pg F8 T C_rises,m8,k8,b8⟩
 have C_is_tuple_of:CalF l.prog w K mg base 1 "is_tuple_of" ["thing","many"] spIt f3 _:=⟨ok_it F3 T,m3,k3,b3⟩
 have C_is_number:CalF l.prog w K mg base 1 "is_number" ["thing"] spNu f1 _:=⟨ok_nu F1 T,m1,k1,b1⟩
 have C_are_numbers:CalF l.prog w K mg base 2 "are_numbers" ["things"] (spAn K) f2 _:=⟨ok_an F2 T2 C_is_number,m2,k2,b2⟩
 have C_is_tie:CalF l.prog w K mg base 3 "is_tie" ["thing","many"] spTg f5 _:=⟨ok_tg F5 C_is_tuple_of C_are_numbers,m5,k5,b5⟩
 have C_web_ahead:CalX l.prog w K mg base (CXB l.prog w xC) 4 "web_ahead" ["rows"] spWa f7 _:=⟨ok_wa F7 T T2 GB0 C_numbers_behind C_are_posts C_is_tie,m7,k7,b7⟩
 have C_web_from:CalX l.prog w K mg base (CXB l.prog w xC) 5 "web_from" ["text"] spWf f6 _:=⟨ok_wf F6 T GB0 C_web_ahead,m6,k6,b6⟩
 have C__law_told:CalF l.prog w K mg base 6 "_law_told" ["_law_text_here"] spTo f23 _:=⟨ok_to F23 T GB0 GC0 C_web_from,m23,k23,b23⟩
 have C__law_numbers:CalF l.prog w K mg base 1 "_law_numbers" ["_law_words"] spLn f21 _:=⟨ok_ln F21 T,m21,k21,b21⟩
 have C__law_read:CalF l.prog w K mg base 2 "_law_read" ["_law_rows"] spRd f22 _:=⟨ok_rd F22 T T2 T3 C__law_numbers,m22,k22,b22⟩
 exact ok_law F26 T TK C__law_box C__law_with_posts C__law_text C__law_bent C__law_same C__law_told C__law_read
theorem walk{l:PySem.W.OpenLaw}{q:Program}{loose:List Str}{XP:(Str->Option Value)->Heap->Prop}{YP:World->Heap->Prop}{d:DefRec}{K:Params->PySem.W.Frag}(hn:l.most=some 63)(hdf:d.params.defaults=[])(hY:∀ (w:World) (h:Heap),YP w h->(K w.params).In h)
  (F:∀ (w:World) (mg:Str->Option Value) (fa:Addr) (h:Heap),(K w.params).In h->h.Ns mainGlobals mg->mg d.name=some (.ref fa)->∃ fd:FuncData,(∀ (s:Shared) (u:Value),BindsTo s fd ⟨[u],[]⟩ [("_law_script",u)])/\∀ base:Heap,(K w.params).In base->base.Ns mainGlobals mg->FnOk l.prog w (K w.params) mg base CX0 7 fa fd ["_law_script"] (spLaw (K w.params))) :
  PySem.W.WalkO q loose XP YP l.row.toRowW d [] (fun f vs=>PySem.call f vs) :=
 L2.walk_of (n:=63) (k:=7) (x:="_law_script") (CX:=fun _=>CX0) (sp:=fun w=>spLaw (K w.params)) hn (by decide) hdf ⟨rfl,by decide,by decide,rfl⟩ hY F (fun _ _ a ns hl _ hS=>⟨a,ns,rfl,hS,hl,fun _=>rfl⟩) fun _ _ _ _ _ z=>z
end K75
open PySem PySem.W PyProof.Rows
set_option maxRecDepth 100000 in
set_option maxHeartbeats 0 in
def PySem.W.Fast.tw508298910433894723 : PySem.Program := PySem.Challenge.pw_partedweb_k75_texts_of_no_web
theorem PySem.W.Fast.te508298910433894723 : PySem.Challenge.pw_partedweb_k75_texts_of_no_web = PySem.W.Fast.tw508298910433894723 := rfl
theorem PySem.Challenge.cw_partedweb_k75_texts_of_no_web_holds : PySem.Challenge.rw_partedweb_k75_texts_of_no_web.Holds := by
  w_on; o_law; k_head; (case hw => w_witness2)
  k_fill
  refine K75.walk (l := PySem.Challenge.rw_partedweb_k75_texts_of_no_web) rfl rfl (fun w h Y => PySem.W.kIn_of Y) ?F
  case F =>
    intro w mg fa h KX G hmg
    refine' K75.all_mk KX G hmg ?a1 ?l1 ?c1 ?k1 ?a2 ?l2 ?c2 ?k2 ?a3 ?l3 ?c3 ?k3 ?a4 ?l4 ?c4 ?k4 ?a5 ?l5 ?c5 ?k5 ?a6 ?l6 ?c6 ?k6 ?a7 ?l7 ?c7 ?k7 ?a8 ?l8 ?c8 ?k8 ?a9 ?l9 ?c9 ?k9 ?a10 ?l10 ?c10 ?k10 ?a11 ?l11 ?c11 ?k11 ?a12 ?l12 ?c12 ?k12 ?a13 ?l13 ?c13 ?k13 ?a14 ?l14 ?c14 ?k14 ?a15 ?l15 ?c15 ?k15 ?a16 ?l16 ?c16 ?k16 ?a17 ?l17 ?c17 ?k17 ?a18 ?l18 ?c18 ?k18 ?a19 ?l19 ?c19 ?k19 ?a20 ?l20 ?c20 ?k20 ?a21 ?l21 ?c21 ?k21 ?a22 ?l22 ?c22 ?k22 ?a23 ?l23 ?c23 ?k23 ?a24 ?l24 ?c24 ?k24 ?a25 ?l25 ?c25 ?k25 ?a26 ?l26 ?c26 ?k26 ?gs0 ?xc1 ?xc2 ?xc3 ?xc4 ?xc5 ?xo1 ?xo2 ?xo3 ?xo4 ?xo5 ?xo6 ?xo7 ?xl1 ?xl2 ?xl3 ?xp1 ?xp2 ?xp3 ?xp4 ?xp5 ?xp6 ?xp7 ?xq1 ?xq2 ?xq3 ?xq4 ?xq5 ?z1 ?z2 ?z3 ?z4 ?z5 ?z6 ?z7 ?z8 ?z9 ?z10 ?z11 ?z12 ?z13 ?z14 ?z15 ?z16 ?z17 ?z18 ?z19
    (case a1 => k_is); (case l1 => k_is); (case c1 => k_is); (case k1 => k_is); (case a2 => k_is); (case l2 => k_is)
    (case c2 => k_is); (case k2 => k_is); (case a3 => k_is); (case l3 => k_is); (case c3 => k_is); (case k3 => k_is)
    (case a4 => k_is); (case l4 => k_is); (case c4 => k_is); (case k4 => k_is); (case a5 => k_is); (case l5 => k_is)
    (case c5 => k_is); (case k5 => k_is); (case a6 => k_is); (case l6 => k_is); (case c6 => k_is); (case k6 => k_is)
    (case a7 => k_is); (case l7 => k_is); (case c7 => k_is); (case k7 => k_is); (case a8 => k_is); (case l8 => k_is)
    (case c8 => k_is); (case k8 => k_is); (case a9 => k_is); (case l9 => k_is); (case c9 => k_is); (case k9 => k_is)
    (case a10 => k_is); (case l10 => k_is); (case c10 => k_is); (case k10 => k_is); (case a11 => k_is); (case l11 => k_is)
    (case c11 => k_is); (case k11 => k_is); (case a12 => k_is); (case l12 => k_is); (case c12 => k_is); (case k12 => k_is)
    (case a13 => k_is); (case l13 => k_is); (case c13 => k_is); (case k13 => k_is); (case a14 => k_is); (case l14 => k_is)
    (case c14 => k_is); (case k14 => k_is); (case a15 => k_is); (case l15 => k_is); (case c15 => k_is); (case k15 => k_is)
    (case a16 => k_is); (case l16 => k_is); (case c16 => k_is); (case k16 => k_is); (case a17 => k_is); (case l17 => k_is)
    (case c17 => k_is); (case k17 => k_is); (case a18 => k_is); (case l18 => k_is); (case c18 => k_is); (case k18 => k_is)
    (case a19 => k_is); (case l19 => k_is); (case c19 => k_is); (case k19 => k_is); (case a20 => k_is); (case l20 => k_is)
    (case c20 => k_is); (case k20 => k_is); (case a21 => k_is); (case l21 => k_is); (case c21 => k_is); (case k21 => k_is)
    (case a22 => k_is); (case l22 => k_is); (case c22 => k_is); (case k22 => k_is); (case a23 => k_is); (case l23 => k_is)
    (case c23 => k_is); (case k23 => k_is); (case a24 => k_is); (case l24 => k_is); (case c24 => k_is); (case k24 => k_is)
    (case a25 => k_is); (case l25 => k_is); (case c25 => k_is); (case k25 => k_is); (case a26 => k_is); (case l26 => k_is)
    (case c26 => k_is); (case k26 => k_is); (case gs0 => k_is); (case xc1 => first | k_is | kernel_rfl); (case xc2 => first | k_is | kernel_rfl); (case xc3 => first | k_is | kernel_rfl)
    (case xc4 => first | k_is | kernel_rfl); (case xc5 => first | k_is | kernel_rfl); (case xo1 => first | k_is | kernel_rfl); (case xo2 => first | k_is | kernel_rfl); (case xo3 => first | k_is | kernel_rfl); (case xo4 => first | k_is | kernel_rfl)
    (case xo5 => first | k_is | kernel_rfl); (case xo6 => first | k_is | kernel_rfl); (case xo7 => first | k_is | kernel_rfl); (case xl1 => first | k_is | kernel_rfl); (case xl2 => first | k_is | kernel_rfl); (case xl3 => first | k_is | kernel_rfl)
    (case xp1 => first | k_is | kernel_rfl); (case xp2 => first | k_is | kernel_rfl); (case xp3 => first | k_is | kernel_rfl); (case xp4 => first | k_is | kernel_rfl); (case xp5 => first | k_is | kernel_rfl); (case xp6 => first | k_is | kernel_rfl)
    (case xp7 => first | k_is | kernel_rfl); (case xq1 => first | k_is | kernel_rfl); (case xq2 => first | k_is | kernel_rfl); (case xq3 => first | k_is | kernel_rfl); (case xq4 => first | k_is | kernel_rfl); (case xq5 => first | k_is | kernel_rfl)
    (case z1 => k_is); (case z2 => k_is); (case z3 => k_is); (case z4 => k_is); (case z5 => k_is); (case z6 => k_is)
    (case z7 => k_is); (case z8 => k_is); (case z9 => k_is); (case z10 => k_is); (case z11 => k_is); (case z12 => k_is)
    (case z13 => k_is); (case z14 => k_is); (case z15 => k_is); (case z16 => k_is); (case z17 => k_is); (case z18 => k_is)
    (case z19 => k_is)
#print axioms PySem.Challenge.cw_partedweb_k75_texts_of_no_web_holds
