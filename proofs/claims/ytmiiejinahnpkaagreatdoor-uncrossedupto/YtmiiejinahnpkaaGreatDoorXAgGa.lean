import Derived.Test.YtmiiejinahnpkaaGreatDoorXEgEh
namespace Go.Proofs.YtmiiejinahnpkaaGreatDoor
section
structure Gd (m:Mk):Prop where
 len:m.all.length<=1048576
 seq:m.seq<=4294967295
 ref:m.ref<=4294967295
 price: ∀o∈m.all,o.price<=4294967295
 side: ∀o∈m.all,o.side=1\/o.side=2
 sum: ∀s,zba m.all s<=1000000000
theorem zk5 (ph:Nat)(l:List Od)(s p:Nat):dep ph l s p<=zba l s:=by
 induction l with
 |nil=>exact nr
 |cons a l ih=>
  unfold dep zba at *
  simp only[List.filter_cons]
  by_cases h:zdq ph s p a=true
  .have hs:(a.side==s)=true:=by
    unfold zdq at h
    simp only[Bool.and_eq_true] at h
    exact h.2.2
   rw[if_pos h,if_pos hs]
   simp only[List.map_cons,List.sum_cons]
   omega
  .rw[if_neg h]
   split
   .simp only[List.map_cons,List.sum_cons]
    omega
   .exact ih
variable {m:Mk}
theorem Gd.bds (h:Gd m):Bds m.phase m.ref m.all:=by
 refine⟨h.len,fun s p=>llt (zk5 _ _ _ _) (llt (h.sum s) (by omega)),fun p hp=>?_⟩
 unfold cnd at hp
 simp only[List.mem_cons,List.mem_map,List.mem_filter] at hp
 rcases hp with rfl|⟨o,ho,rfl⟩
 .exact h.ref
 .exact h.price o ho.1
theorem Gd.tell (h:Gd m)(e:Nat->Int):Gd (zax m e):=⟨h.len,by simp only[zax];omega,h.ref,h.price,h.side,h.sum⟩
theorem Gd.phase (h:Gd m)(p:Nat):Gd {m with phase:=p}:=⟨h.len,h.seq,h.ref,h.price,h.side,h.sum⟩
theorem Gd.time (h:Gd m)(p:Nat):Gd {m with time:=p}:=⟨h.len,h.seq,h.ref,h.price,h.side,h.sum⟩
theorem Gd.out (h:Gd m)(p:List (Nat->Int)):Gd {m with out:=p}:=⟨h.len,h.seq,h.ref,h.price,h.side,h.sum⟩
theorem Gd.setRef (h:Gd m)(p:Nat)(hp:p<=4294967295):Gd {m with ref:=p}:=⟨h.len,h.seq,hp,h.price,h.side,h.sum⟩
theorem zkd (l:List Od)(i r:Nat)(o:Od)(h:o∈zaf l i r): ∃a∈l,a.id=o.id/\a.side=o.side/\a.typ=o.typ/\a.price=o.price:=by
 unfold zaf at h
 induction l generalizing i with
 |nil=>simp at h
 |cons a l ih=>
  cases i with
  |zero=>
   simp only[List.modify_zero_cons,List.mem_cons] at h
   rcases h with rfl|h
   .exact⟨a,by simp,rfl,rfl,rfl,rfl⟩
   .exact⟨o,by simp[h],rfl,rfl,rfl,rfl⟩
  |succ i=>
   simp only[List.modify_succ_cons,List.mem_cons] at h
   rcases h with rfl|h
   .exact⟨o,by simp,rfl,rfl,rfl,rfl⟩
   .obtain ⟨b,hb,e⟩:=ih i h
    exact⟨b,by simp[hb],e⟩
theorem sumIn_setRest (l:List Od)(i r s:Nat)(h:r<=(nth l i).rest):zba (zaf l i r) s<=zba l s:=by
 unfold zaf
 induction l generalizing i with
 |nil=>simp[zba]
 |cons a l ih=>
  cases i with
  |zero=>
   have h':r<=a.rest:=h
   unfold zba
   simp only[List.modify_zero_cons,List.filter_cons]
   split
   .simp only[List.map_cons,List.sum_cons]
    omega
   .exact nr
  |succ i=>
   have:=ih i h
   unfold zba at *
   simp only[List.modify_succ_cons,List.filter_cons]
   split
   .simp only[List.map_cons,List.sum_cons]
    omega
   .exact this
theorem Gd.setRest (h:Gd m)(i r:Nat)(hr:r<=(nth m.all i).rest):Gd {m with all:=zaf m.all i r}:=by
 refine⟨by simpa [zaw] using h.len,h.seq,h.ref,fun o ho=>?_,fun o ho=>?_,fun s=>llt (sumIn_setRest _ _ _ _ hr) (h.sum s)⟩
 .obtain ⟨a,ha,_,_,_,e⟩:=zkd _ _ _ _ ho
  rw[←e]
  exact h.price a ha
 .obtain ⟨a,ha,_,e,_,_⟩:=zkd _ _ _ _ ho
  rw[←e]
  exact h.side a ha
theorem Gd.cancel (h:Gd m)(i:Nat):Gd (zav m i):=(h.tell _).setRest i 0 (Nat.zero_le _)
theorem Gd.trade (h:Gd m)(i k n p:Nat)(hp:p<=4294967295):Gd (za3 m i k n p):=by
 unfold za3
 dsimp only
 refine Gd.tell ?_ _
 exact((h.setRest i _ (Nat.sub_le _ _)).setRest k _ (Nat.sub_le _ _)).setRef p hp
theorem Gd.indicate (h:Gd m)(kind:Nat):Gd (zah m kind):=h.tell _
theorem Gd.reject (h:Gd m)(id why:Nat):Gd (zbh m id why):=h.tell _
theorem mem_le_sum (l:List Nat)(x:Nat)(h:x∈l):x<=l.sum:=by
 induction l with
 |nil=>simp at h
 |cons a l ih=>
  simp only[List.mem_cons] at h
  simp only[List.sum_cons]
  rcases h with rfl|h
  .omega
  .have:=ih h
   omega
theorem zfo (h:Gd m)(i:Nat)(hi:i<m.all.length):(nth m.all i).rest<=1000000000:=by
 have hm:nth m.all i∈m.all:=by unfold nth;simp[List.getD,hi]
 refine llt ?_ (h.sum (nth m.all i).side)
 unfold zba
 have:(nth m.all i).rest∈((m.all.filter fun a=>a.side==(nth m.all i).side).map Od.rest):=List.mem_map.2 ⟨_,List.mem_filter.2 ⟨hm,by simp⟩,rfl⟩
 exact mem_le_sum _ _ this
theorem zdp (l:List Od)(id n:Nat):zas l id n= -1\/ ∃k:Nat,zas l id n=k/\k<n/\(nth l k).id=id/\0<(nth l k).rest:=by
 induction n with
 |zero=>exact .inl rfl
 |succ n ih=>
  unfold zas
  split
  .rename_i h
   exact .inr ⟨n,rfl,by omega,h.1,h.2⟩
  .rcases ih with h|⟨b,h,hb,h2⟩
   .exact .inl h
   .exact .inr ⟨b,h,by omega,h2⟩
end
section
theorem za8 (ph:Nat)(l:List Od)(s n:Nat):za0 ph l s n= -1\/ ∃b:Nat,za0 ph l s n=b/\b<n/\bk ph (nth l b)=true/\(nth l b).side=s:=by
 induction n with
 |zero=>exact .inl rfl
 |succ n ih=>
  rw[ze8]
  split
  .rename_i h
   simp only[Bool.and_eq_true,beq_iff_eq] at h
   exact .inr ⟨n,rfl,by omega,h.1,h.2.1⟩
  .rcases ih with h|⟨b,h,hb,h2⟩
   .exact .inl h
   .exact .inr ⟨b,h,by omega,h2⟩
theorem zeb {ph:Nat}{o:Od}(h:bk ph o=true):0<o.rest:=by
 unfold bk at h
 simp only[Bool.and_eq_true,decide_eq_true_eq] at h
 exact h.1
theorem zhi (m:Mk)(i k n p:Nat)(hi:i<m.all.length)(hik:i≠k):(za3 m i k n p).all=zaf (zaf m.all i ((nth m.all i).rest-n)) k ((nth m.all k).rest-n):=by
 have:nth (zaf m.all i ((nth m.all i).rest-n)) k=nth m.all k:=by rw[zbs _ _ _ _ hi,if_neg (fun e=>hik e.symm)]
 unfold za3
 dsimp only[zax]
 rw[this]
theorem zff (m:Mk)(i k n p j:Nat)(hi:i<m.all.length)(hk:k<m.all.length)(hik:i≠k):nth (za3 m i k n p).all j=if j=i\/j=k then {nth m.all j with rest:=(nth m.all j).rest-n} else nth m.all j:=by
 rw[zhi m i k n p hi hik,zbs _ _ _ _ (by rw[zaw];exact hk)]
 by_cases h1:j=k
 .subst h1
  rw[if_pos rfl,if_pos (.inr rfl),zbs _ _ _ _ hi,if_neg (fun e=>hik e.symm)]
 .rw[if_neg h1,zbs _ _ _ _ hi]
  by_cases h2:j=i
  .subst h2
   rw[if_pos rfl,if_pos (.inl rfl)]
  .rw[if_neg h2,if_neg (fun h=>h.elim h2 h1)]
theorem zd1 (m:Mk)(i k n p:Nat):(za3 m i k n p).all.length=m.all.length:=by
 unfold za3
 simp[zax,zaw]
theorem zf4 (m:Mk)(i k n p:Nat):(za3 m i k n p).out.length=m.out.length+1:=by
 unfold za3
 simp[zax]
theorem meetM_out (o:Od)(k f:Nat)(m:Mk):m.out.length<=(zbd o k f m).out.length:=by
 induction f generalizing m with
 |zero=>exact nr
 |succ f ih=>
  unfold zbd
  dsimp only
  split
  .exact nr
  .split
   .exact nr
   .split
    .exact nr
    .refine llt ?_ (ih _)
     split<;>rw[zf4]<;>omega
theorem zen (o:Od)(k f:Nat)(m:Mk)(h:(nth m.all k).rest=0):zbd o k f m=m:=by
 cases f with
 |zero=>rfl
 |succ f=>
  unfold zbd
  rw[if_pos h]
theorem zfh (o:Od)(k f:Nat)(m:Mk)(h:za0 m.phase m.all (3-o.side) m.all.length= -1):zbd o k f m=m:=by
 cases f with
 |zero=>rfl
 |succ f=>
  unfold zbd
  split
  .rfl
  .dsimp only
   rw[h,if_pos (by omega)]
theorem zeu (o:Od)(k f j:Nat)(m:Mk)(h:za0 m.phase m.all (3-o.side) m.all.length=j)(ht:tk o (nth m.all j).price=false):zbd o k f m=m:=by
 cases f with
 |zero=>rfl
 |succ f=>
  unfold zbd
  split
  .rfl
  .dsimp only
   rw[h,if_neg (by omega),Int.toNat_natCast,ht,if_pos (by simp)]
theorem zem (o:Od)(k f j:Nat)(m:Mk)(hr:(nth m.all k).rest≠0)(h:za0 m.phase m.all (3-o.side) m.all.length=j)(ht:tk o (nth m.all j).price=true):
  zbd o k (f+1) m=zbd o k f (if o.side=1 then za3 m k j (min (nth m.all k).rest (nth m.all j).rest) (nth m.all j).price else za3 m j k (min (nth m.all k).rest (nth m.all j).rest) (nth m.all j).price):=by
 conv=>lhs;unfold zbd
 rw[if_neg hr]
 dsimp only
 rw[h,if_neg (by omega),Int.toNat_natCast,ht,if_neg (by simp)]
end
section
theorem zjz (ph:Nat)(a:Od)(l:List Od)(s p:Nat):dep ph (a::l) s p=(if zdq ph s p a then a.rest else 0)+dep ph l s p:=by
 unfold dep
 rw[List.filter_cons]
 split<;>simp
theorem inDep_rest (ph s p:Nat)(a:Od)(r:Nat)(h:zdq ph s p a=true)(hr:0<r):zdq ph s p {a with rest:=r}=true:=by
 unfold zdq bk wt tk pl at *
 simp only[Bool.and_eq_true,decide_eq_true_eq] at *
 exact⟨⟨hr,h.1.2⟩,h.2⟩
theorem zk4 (ph:Nat)(l:List Od)(i n s p:Nat):dep ph l s p<=dep ph (zaf l i ((nth l i).rest-n)) s p+n:=by
 unfold zaf
 induction l generalizing i with
 |nil=>simp[dep]
 |cons a l ih=>
  cases i with
  |zero=>
   simp only[List.modify_zero_cons,zjz]
   have e:(nth (a::l) 0).rest=a.rest:=rfl
   rw[e]
   by_cases h:zdq ph s p a=true
   .rw[if_pos h]
    by_cases h2:0<a.rest-n
    .rw[if_pos (inDep_rest ph s p a _ h h2)]
     omega
    .have:(if zdq ph s p {a with rest:=a.rest-n}=true then ({a with rest:=a.rest-n}:Od).rest else 0)≥0:=Nat.zero_le _
     omega
   .rw[if_neg h]
    omega
  |succ i=>
   have:=ih i
   simp only[List.modify_succ_cons,zjz]
   have e:(nth (a::l) (i+1)).rest=(nth l i).rest:=rfl
   rw[e]
   omega
theorem dep_other (ph:Nat)(l:List Od)(i r s p:Nat)(h:(nth l i).side≠s):dep ph (zaf l i r) s p=dep ph l s p:=by
 unfold zaf
 induction l generalizing i with
 |nil=>simp
 |cons a l ih=>
  cases i with
  |zero=>
   have h':a.side≠s:=h
   have f: ∀r',zdq ph s p {a with rest:=r'}=false:=fun r'=>by
    unfold zdq
    simp[h']
   simp only[List.modify_zero_cons,zjz,f]
   rfl
  |succ i=>
   simp only[List.modify_succ_cons,zjz]
   rw[ih i h]
theorem zc8 (m:Mk)(a b n q s p:Nat)(ha:a<m.all.length)(_hb:b<m.all.length)(hab:(nth m.all a).side≠(nth m.all b).side)(hs:s=(nth m.all a).side\/s=(nth m.all b).side):
  dep m.phase m.all s p<=dep m.phase (za3 m a b n q).all s p+n:=by
 have hne:a≠b:=fun e=>hab (by rw[e])
 rw[zhi m a b n q ha hne]
 have hnb:nth (zaf m.all a ((nth m.all a).rest-n)) b=nth m.all b:=by rw[zbs _ _ _ _ ha,if_neg (fun e=>hne e.symm)]
 rcases hs with rfl|rfl
 .rw[dep_other _ _ b _ _ _ (by rw[hnb];exact fun e=>hab e.symm)]
  exact zk4 _ _ _ _ _ _
 .have h1:=zk4 m.phase (zaf m.all a ((nth m.all a).rest-n)) b n (nth m.all b).side p
  rw[hnb] at h1
  rw[dep_other _ _ a _ _ _ hab] at h1
  exact h1
theorem firstOf_none (ph:Nat)(l:List Od)(s n:Nat)(h:za0 ph l s n= -1): ∀i,i<n-> ¬(bk ph (nth l i)=true/\(nth l i).side=s):=by
 induction n with
 |zero=>intro i hi;omega
 |succ n ih=>
  rw[ze8] at h
  split at h
  .omega
  .rename_i hc
   intro i hi
   by_cases e:i=n
   .subst e
    intro hh
    rw[h] at hc
    simp[hh.1,hh.2] at hc
   .exact ih h i (by omega)
theorem zfz (ph:Nat)(l:List Od)(s p:Nat)(h:za0 ph l s l.length= -1):dep ph l s p=0:=by
 have hn:=firstOf_none ph l s l.length h
 unfold dep
 have:l.filter (zdq ph s p)=[]:=by
  refine List.filter_eq_nil_iff.2 fun o ho hd=>?_
  obtain ⟨i,hi,e⟩:=List.mem_iff_getElem.1 ho
  have:nth l i=o:=by unfold nth;simp[List.getD,hi,e]
  unfold zdq at hd
  simp only[Bool.and_eq_true,beq_iff_eq] at hd
  exact hn i hi ⟨by rw[this];exact hd.1,by rw[this];exact hd.2.2⟩
 rw[this]
 rfl
theorem price_left (ph R:Nat)(l:List Od)(h:zcn ph R l≠0):zdf ph R l∈zcp ph R l:=by
 have hp:=zjv ph R l h
 unfold zdf
 generalize zcp ph R l=D at *
 cases D with
 |nil=>simp at hp
 |cons x D=>
  simp only[List.headD_cons,List.tail_cons]
  rcases zic ((x::D).all (zea ph l)) ((x::D).all (zc1 ph l)) R x D with e|e
  .rw[e];exact List.mem_cons_self
  .exact List.mem_cons_of_mem _ e
theorem ze0 (ph R:Nat)(l:List Od):(zal ph R l).2.1<=dep ph l 1 (zal ph R l).1/\(zal ph R l).2.1<=dep ph l 2 (zal ph R l).1/\((zal ph R l).1=0\/(zal ph R l).1∈cnd ph R l):=by
 unfold zal
 split
 .exact⟨Nat.zero_le _,Nat.zero_le _,.inl rfl⟩
 .rename_i h
  have hm:=price_left ph R l h
  have hv:vof ph l (zdf ph R l)=zcn ph R l:=by
   unfold zcp zcz at hm
   have:=(List.mem_filter.1 hm).2
   simp only[decide_eq_true_eq] at this
   exact this.1
  refine⟨?_,?_,.inr (left_sub ph R l _ hm)⟩
  .rw[←hv];exact Nat.min_le_left _ _
  .rw[←hv];exact Nat.min_le_right _ _
theorem zex (p f v a b:Nat)(m:Mk)(hv:v≠0)(ha:za0 m.phase m.all 1 m.all.length=a)(hb:za0 m.phase m.all 2 m.all.length=b):
  zbg p (f+1) v m=zbg p f (v-min v (min (nth m.all a).rest (nth m.all b).rest)) (za3 m a b (min v (min (nth m.all a).rest (nth m.all b).rest)) p):=by
 conv=>lhs;unfold zbg
 rw[if_neg hv]
 dsimp only
 rw[ha,hb,Int.toNat_natCast,Int.toNat_natCast]
theorem zey (p f:Nat)(m:Mk):zbg p f 0 m=m:=by
 cases f with
 |zero=>rfl
 |succ f=>unfold zbg;rw[if_pos rfl]
theorem ziq (p f v:Nat)(m:Mk):m.out.length<=(zbg p f v m).out.length:=by
 induction f generalizing v m with
 |zero=>exact nr
 |succ f ih=>
  unfold zbg
  split
  .exact nr
  .refine llt ?_ (ih _ _)
   rw[zf4]
   omega
theorem cancel_out (m:Mk)(i:Nat):(zav m i).out.length=m.out.length+1:=by simp[zav,zax]
theorem zir (m:Mk)(i:Nat):(zav m i).all.length=m.all.length:=by simp[zav,zax,zaw]
theorem zcg (n:Nat)(m:Mk):(zai n m).all.length=m.all.length/\(zai n m).phase=m.phase/\m.out.length<=(zai n m).out.length/\(Gd m->Gd (zai n m)):=by
 induction n with
 |zero=>exact⟨rfl,rfl,nr,id⟩
 |succ n ih=>
  unfold zai
  dsimp only
  split
  .exact⟨by rw[zir];exact ih.1,ih.2.1,by rw[cancel_out];have:=ih.2.2.1;omega,fun h=>(ih.2.2.2 h).cancel n⟩
  .exact ih
theorem zkb (n k:Nat)(m:Mk)(h:n<=k):(zai n m).out.length<=(zai k m).out.length:=by
 induction k with
 |zero=>
      have:n=0:=by omega
      rw[this]
      exact nr
 |succ k ih=>
  by_cases e:n=k+1
  .rw[e]
   exact nr
  .refine llt (ih (by omega)) ?_
   conv=>rhs;unfold zai
   dsimp only
   split
   .rw[cancel_out];omega
   .exact nr
end
section
structure okOd (o:Od):Prop where
 side:o.side=1\/o.side=2
 plain:pl o=true->o.price=0
 priced:pl o=false->1<=o.price
 price:o.price<=1000000
def lim (o:Od):Nat:=if o.price≠0 then o.price else if o.side=1 then 9223372036854775807 else 0
def tkP (o:Od) (p:Nat):Bool:=if o.side=1 then decide (p<=lim o) else decide (lim o<=p)
theorem tkP_eq {o:Od}(h:okOd o)(p:Nat)(hp:p<=9223372036854775807):tkP o p=tk o p:=by
 unfold tkP tk lim
 cases hpl:pl o with
 |true=>
  have:=h.plain hpl
  rcases h.side with hs|hs<;>simp[hs,this,hp]
 |false=>
  have:=h.priced hpl
  have h0:o.price≠0:=by omega
  simp[h0]
variable {a b:Od}
theorem zda (ha:okOd a)(hb:okOd b)(sa:a.side=1)(sb:b.side=1)(i k:Nat):zcy a b i k=true↔(lim b<lim a\/(lim a=lim b/\i<k)):=by
 unfold zcy lim
 have pa:=ha.price
 have pb:=hb.price
 cases hpa:pl a<;>cases hpb:pl b
 .have h1:=ha.priced hpa
  have h2:=hb.priced hpb
  by_cases e:a.price=b.price
  .simp[e,show b.price≠0 by omega]
  .simp[sa,e,show b.price≠0 by omega,show a.price≠0 by omega]
 .have h1:=ha.priced hpa
  have h2:=hb.plain hpb
  simp[sb,h2,show a.price≠0 by omega]
  omega
 .have h1:=ha.plain hpa
  have h2:=hb.priced hpb
  simp[sa,h1,show b.price≠0 by omega]
  omega
 .have h1:=ha.plain hpa
  have h2:=hb.plain hpb
  simp[sa,sb,h1,h2]
theorem zcr (ha:okOd a)(hb:okOd b)(sa:a.side=2)(sb:b.side=2)(i k:Nat):zcy a b i k=true↔(lim a<lim b\/(lim a=lim b/\i<k)):=by
 unfold zcy lim
 have pa:=ha.price
 have pb:=hb.price
 cases hpa:pl a<;>cases hpb:pl b
 .have h1:=ha.priced hpa
  have h2:=hb.priced hpb
  by_cases e:a.price=b.price
  .simp[e,show b.price≠0 by omega]
  .simp[sa,e,show b.price≠0 by omega,show a.price≠0 by omega]
 .have h1:=ha.priced hpa
  have h2:=hb.plain hpb
  simp[sb,h2,show a.price≠0 by omega]
 .have h1:=ha.plain hpa
  have h2:=hb.priced hpb
  simp[sa,h1,show b.price≠0 by omega]
  omega
 .have h1:=ha.plain hpa
  have h2:=hb.plain hpb
  simp[sa,sb,h1,h2]
def zdm (l:List Od):Prop:= ∀i,i<l.length->okOd (nth l i)
theorem ahead_not (ha:okOd a)(hb:okOd b)(hs:a.side=b.side)(i k:Nat)(h:zcy a b i k=true)(h2:zcy b a k i=true):False:=by
 rcases ha.side with s|s
 .rw[zda ha hb s (by omega)] at h
  rw[zda hb ha (by omega) s] at h2
  omega
 .rw[zcr ha hb s (by omega)] at h
  rw[zcr hb ha (by omega) s] at h2
  omega
theorem zlg {c:Od}(ha:okOd a)(hb:okOd b)(hc:okOd c)(h1:a.side=b.side)(h2:b.side=c.side)(i j k:Nat)(h:zcy a b i j=true)(h':zcy b c j k=true):zcy a c i k=true:=by
 rcases ha.side with s|s
 .rw[zda ha hb s (by omega)] at h
  rw[zda hb hc (by omega) (by omega)] at h'
  rw[zda ha hc s (by omega)]
  omega
 .rw[zcr ha hb s (by omega)] at h
  rw[zcr hb hc (by omega) (by omega)] at h'
  rw[zcr ha hc s (by omega)]
  omega
theorem ahead_total (ha:okOd a)(hb:okOd b)(hs:a.side=b.side)(i k:Nat)(hik:i≠k)(h:zcy a b i k=false):zcy b a k i=true:=by
 have hn: ¬zcy a b i k=true:=by rw[h];simp
 rcases ha.side with s|s
 .rw[zda ha hb s (by omega)] at hn
  rw[zda hb ha (by omega) s]
  omega
 .rw[zcr ha hb s (by omega)] at hn
  rw[zcr hb ha (by omega) s]
  omega
structure Qd (l:List Od) (s:Nat) (q:List Nat):Prop where
 srt:q.Pairwise fun i k=>zcy (nth l i) (nth l k) i k=true
 inn: ∀i∈q,i<l.length/\(nth l i).side=s
 has: ∀i,i<l.length->(nth l i).side=s->0<(nth l i).rest->i∈q
theorem ahead_irr (a:Od)(i:Nat):zcy a a i i=false:=by
 unfold zcy
 simp
variable {q:List Nat} {l:List Od} {s:Nat}
theorem Qd.nodup (h:Qd l s q):q.Nodup:=by
 refine List.Pairwise.imp ?_ h.srt
 intro a b hab e
 subst e
 rw[ahead_irr] at hab
 cases hab
theorem firstOf_best (ph:Nat)(l:List Od)(s:Nat)(hok:zdm l)(n:Nat)(hn:n<=l.length): ∀j,j<n->bk ph (nth l j)=true->(nth l j).side=s-> ∃b:Nat,za0 ph l s n=b/\b<n/\bk ph (nth l b)=true/\(nth l b).side=s/\(j=b\/zcy (nth l b) (nth l j) b j=true):=by
 induction n with
 |zero=>intro j hj;omega
 |succ n ih=>
  intro j hj hb hs
  have ihn:=ih (by omega)
  rw[ze8]
  rcases za8 ph l s n with h0|⟨b,hb0,hbn,hbb,hbs⟩
  .have hj':j=n:=by
    by_cases e:j=n
    .exact e
    .obtain ⟨b,hb1,_⟩:=ihn j (by omega) hb hs
     rw[h0] at hb1
     omega
   subst hj'
   refine⟨j,?_,by omega,hb,hs,.inl rfl⟩
   simp[h0,hb,hs]
  .rw[hb0]
   by_cases hc:bk ph (nth l n)=true/\(nth l n).side=s/\zcy (nth l n) (nth l b) n b=true
   .refine⟨n,?_,by omega,hc.1,hc.2.1,?_⟩
    .simp[hc]
    .by_cases e:j=n
     .exact .inl e
     .right
      obtain ⟨b',hb1,_,_,_,hor⟩:=ihn j (by omega) hb hs
      rw[hb0] at hb1
      obtain rfl:b=b':=by omega
      rcases hor with rfl|hor
      .exact hc.2.2
      .exact zlg (hok n (by omega)) (hok b (by omega)) (hok j (by omega)) (by omega) (by omega) n b j hc.2.2 hor
   .refine⟨b,?_,by omega,hbb,hbs,?_⟩
    .rw[if_neg]
     simp only[Bool.and_eq_true,beq_iff_eq,Bool.or_eq_true,decide_eq_true_eq,Int.toNat_natCast]
     rintro ⟨h1,h2,h3⟩
     rcases h3 with h3|h3
     .omega
     .exact hc ⟨h1,h2,h3⟩
    .by_cases e:j=n
     .subst e
      right
      have hna:zcy (nth l j) (nth l b) j b=false:=by
       cases hh:zcy (nth l j) (nth l b) j b with
       |false=>rfl
       |true=>exact absurd ⟨hb,hs,hh⟩ hc
      exact ahead_total (hok j (by omega)) (hok b (by omega)) (by omega) j b (by omega) hna
     .obtain ⟨b',hb1,_,_,_,hor⟩:=ihn j (by omega) hb hs
      rw[hb0] at hb1
      obtain rfl:b=b':=by omega
      exact hor
theorem Qd.first {pre post:List Nat}{i:Nat}(ph:Nat)(h:Qd l s (pre++i::post))(hok:zdm l)(hpre: ∀j∈pre,bk ph (nth l j)=false)(hi:bk ph (nth l i)=true):
  za0 ph l s l.length=i:=by
 obtain ⟨hil,his⟩:=h.inn i (by simp)
 obtain ⟨b,hb0,hbl,hbb,hbs,hor⟩:=firstOf_best ph l s hok l.length nr i hil hi his
 rw[hb0]
 rcases hor with rfl|hor
 .rfl
 .exfalso
  have hm:=h.has b hbl hbs (zeb hbb)
  simp only[List.mem_append,List.mem_cons] at hm
  rcases hm with hm|rfl|hm
  .rw[hpre b hm] at hbb;cases hbb
  .rw[ahead_irr] at hor;cases hor
  .have hs:=h.srt
   rw[List.pairwise_append] at hs
   have:=(List.pairwise_cons.1 hs.2.1).1 b hm
   exact ahead_not (hok i hil) (hok b hbl) (by omega) i b this hor
theorem Qd.none (ph:Nat)(h:Qd l s q)(hq: ∀j∈q,bk ph (nth l j)=false):za0 ph l s l.length= -1:=by
 rcases za8 ph l s l.length with h0|⟨b,_,hbl,hbb,hbs⟩
 .exact h0
 .have:=hq b (h.has b hbl hbs (zeb hbb))
  rw[hbb] at this
  cases this
def ze3 (f:Nat->Nat):Nat->Nat
 |0=>0
 |n+1=>ze3 f n+f n
theorem upSum_add (f g:Nat->Nat)(n:Nat):ze3 (fun i=>f i+g i) n=ze3 f n+ze3 g n:=by
 induction n with
 |zero=>rfl
 |succ n ih=>simp only[ze3,ih];omega
theorem upSum_one (a v n:Nat)(h:a<n):ze3 (fun i=>if i=a then v else 0) n=v:=by
 induction n with
 |zero=>omega
 |succ n ih=>
  simp only[ze3]
  by_cases e:a=n
  .subst e
   have: ∀m,m<=a->ze3 (fun i=>if i=a then v else 0) m=0:=by
    intro m
    induction m with
    |zero=>intro _;rfl
    |succ m ihm=>intro hm;simp only[ze3];rw[ihm (by omega),if_neg (by omega)]
   rw[this a nr]
   simp
  .rw[ih (by omega),if_neg (fun h=>e h.symm),Nat.add_zero]
theorem zep (f g:Nat->Nat)(n:Nat)(h: ∀i,i<n->f i=g i):ze3 f n=ze3 g n:=by
 induction n with
 |zero=>rfl
 |succ n ih=>
  simp only[ze3]
  rw[ih (fun i hi=>h i (by omega)),h n (by omega)]
theorem sum_upSum (f:Nat->Nat)(q:List Nat)(n:Nat)(hn:q.Nodup)(hlt: ∀i∈q,i<n):(q.map f).sum=ze3 (fun i=>if i∈q then f i else 0) n:=by
 induction q with
 |nil=>
  have: ∀m,ze3 (fun i=>if i∈([]:List Nat) then f i else 0) m=0:=by
   intro m
   induction m with
   |zero=>rfl
   |succ m ih=>simp only[ze3,ih];simp
  rw[this]
  rfl
 |cons a q ih=>
  rw[List.nodup_cons] at hn
  rw[List.map_cons,List.sum_cons,ih hn.2 (fun i hi=>hlt i (by simp[hi]))]
  have h1:=upSum_one a (f a) n (hlt a (by simp))
  rw[←h1,←upSum_add]
  refine zep _ _ n fun i _=>?_
  by_cases e:i=a
  .subst e
   simp[hn.1]
  .simp[e]
theorem zei (l:List Od)(g:Od->Nat):ze3 (fun i=>g (nth l i)) l.length=(l.map g).sum:=by
 have: ∀n,n<=l.length->ze3 (fun i=>g (nth l i)) n=((l.take n).map g).sum:=by
  intro n
  induction n with
  |zero=>intro _;rfl
  |succ n ih=>
   intro hn
   have hget:l[n]?=some (nth l n):=by unfold nth;rw[List.getD_eq_getElem?_getD,List.getElem?_eq_getElem (by omega)];rfl
   simp only[ze3]
   rw[ih (by omega),zag l n _ hget]
   simp
 have h:=this l.length nr
 rwa[List.take_length] at h
theorem zeo (l:List Od)(p:Od->Bool)(g:Od->Nat):((l.filter p).map g).sum=(l.map fun o=>if p o then g o else 0).sum:=by
 induction l with
 |nil=>rfl
 |cons a l ih=>
  rw[List.filter_cons]
  split
  .rename_i h
   simp[h,ih]
  .rename_i h
   simp[h,ih]
theorem Qd.sum (h:Qd l s q)(g:Od->Nat)(p:Od->Bool)(hp: ∀i∈q,(if p (nth l i) then g (nth l i) else 0)=g (nth l i))(hq: ∀i,i<l.length->i∉q->(if p (nth l i) then g (nth l i) else 0)=0):
  (q.map fun i=>g (nth l i)).sum=((l.filter p).map g).sum:=by
 rw[sum_upSum _ q l.length h.nodup (fun i hi=>(h.inn i hi).1),zeo,←zei l (fun o=>if p o then g o else 0)]
 refine zep _ _ _ fun i hi=>?_
 by_cases e:i∈q
 .rw[if_pos e,hp i e]
 .rw[if_neg e,hq i hi e]
theorem Qd.total (h:Qd l s q):(q.map fun i=>(nth l i).rest).sum=zba l s:=by
 unfold zba
 refine h.sum Od.rest (fun a=>a.side==s) (fun i hi=>?_) (fun i hi hq=>?_)
 .simp[(h.inn i hi).2]
 .by_cases e:(nth l i).side=s
  .have:(nth l i).rest=0:=by
    by_cases h0:0<(nth l i).rest
    .exact absurd (h.has i hi e h0) hq
    .omega
   simp[this]
  .simp[e]
def qdep (ph:Nat) (l:List Od) (p:Nat):List Nat->Nat
 |[]=>0
 |i::q=>if bk ph (nth l i) then (if tkP (nth l i) p then (nth l i).rest+qdep ph l p q else 0) else qdep ph l p q
theorem takes_down (ha:okOd a)(hb:okOd b)(hs:a.side=b.side)(i k p:Nat)(h:zcy a b i k=true)(ht:tkP a p=false):tkP b p=false:=by
 unfold tkP at *
 rcases ha.side with s|s
 .rw[zda ha hb s (by omega)] at h
  rw[if_pos s] at ht
  rw[if_pos (by omega)]
  simp only[decide_eq_false_iff_not] at *
  omega
 .rw[zcr ha hb s (by omega)] at h
  rw[if_neg (by omega)] at ht
  rw[if_neg (by omega)]
  simp only[decide_eq_false_iff_not] at *
  omega
theorem qdep_sum (ph:Nat)(l:List Od)(p:Nat)(q:List Nat)(hok:zdm l)(s:Nat)(hs:q.Pairwise fun i k=>zcy (nth l i) (nth l k) i k=true)(hin: ∀i∈q,i<l.length/\(nth l i).side=s):
  qdep ph l p q=(q.map fun i=>if bk ph (nth l i)&&tkP (nth l i) p then (nth l i).rest else 0).sum:=by
 induction q with
 |nil=>rfl
 |cons i q ih=>
  rw[List.pairwise_cons] at hs
  have ihq:=ih hs.2 (fun j hj=>hin j (by simp[hj]))
  simp only[qdep,List.map_cons,List.sum_cons]
  by_cases hb:bk ph (nth l i)=true
  .by_cases ht:tkP (nth l i) p=true
   .simp[hb,ht,ihq]
   .have ht':tkP (nth l i) p=false:=by simpa using ht
    have:(q.map fun i=>if bk ph (nth l i)&&tkP (nth l i) p then (nth l i).rest else 0)=q.map fun _=>0:=by
     refine List.map_congr_left fun j hj=>?_
     have:=takes_down (hok i (hin i (by simp)).1) (hok j (hin j (by simp[hj])).1) (by rw[(hin i (by simp)).2,(hin j (by simp[hj])).2]) i j p (hs.1 j hj) ht'
     simp[this]
    rw[this]
    have hz: ∀L:List Nat,(L.map fun _=>0).sum=0:=by
     intro L
     induction L with
     |nil=>rfl
     |cons a L ih=>simp[ih]
    rw[hz]
    simp[hb,ht']
  .simp[hb,ihq]
theorem Qd.deps (h:Qd l s q)(hok:zdm l)(ph p:Nat)(hp:p<=9223372036854775807):qdep ph l p q=dep ph l s p:=by
 rw[qdep_sum ph l p q hok s h.srt h.inn]
 have hd:dep ph l s p=((l.filter (zdq ph s p)).map Od.rest).sum:=rfl
 rw[hd,sum_upSum _ q l.length h.nodup (fun i hi=>(h.inn i hi).1),zeo,←zei l (fun o=>if zdq ph s p o then o.rest else 0)]
 refine zep _ _ _ fun i hi=>?_
 by_cases e:i∈q
 .rw[if_pos e]
  unfold zdq
  rw[←tkP_eq (hok i hi) p hp]
  simp[(h.inn i e).2]
 .rw[if_neg e]
  by_cases e2:(nth l i).side=s
  .have:bk ph (nth l i)=false:=by
    cases hb:bk ph (nth l i) with
    |false=>rfl
    |true=>exact absurd (h.has i hi e2 (zeb hb)) e
   unfold zdq
   simp[this]
  .unfold zdq
   simp[e2]
end
section
theorem zdn (l:List Od)(o:Od)(j:Nat)(h:j<l.length):nth (l++[o]) j=nth l j:=by
 unfold nth
 rw[List.getD_eq_getElem?_getD,List.getD_eq_getElem?_getD,List.getElem?_append_left h]
theorem zc2 (l:List Od)(o:Od):nth (l++[o]) l.length=o:=by
 unfold nth
 simp[List.getD_eq_getElem?_getD]
theorem zcc (l:List Od)(i r j:Nat):(nth (zaf l i r) j).id=(nth l j).id/\(nth (zaf l i r) j).side=(nth l j).side/\(nth (zaf l i r) j).typ=(nth l j).typ/\(nth (zaf l i r) j).price=(nth l j).price:=by
 by_cases hi:i<l.length
 .rw[zbs _ _ _ _ hi]
  split
  .rename_i e
   subst e
   exact⟨rfl,rfl,rfl,rfl⟩
  .exact⟨rfl,rfl,rfl,rfl⟩
 .have:zaf l i r=l:=by
   unfold zaf
   rw[List.modify_eq_self (by omega)]
  rw[this]
  exact⟨rfl,rfl,rfl,rfl⟩
theorem zhr (l:List Od)(i r j:Nat)(hi:i<l.length):(nth (zaf l i r) j).rest=if j=i then r else (nth l j).rest:=by
 rw[zbs _ _ _ _ hi]
 split<;>rfl
variable {a b o:Od}
theorem zlh {a' b':Od}(h1:a'.side=a.side)(h2:a'.typ=a.typ)(h3:a'.price=a.price)(k2:b'.typ=b.typ)(k3:b'.price=b.price)(i k:Nat):zcy a' b' i k=zcy a b i k:=by
 unfold zcy pl
 rw[h1,h2,h3,k2,k3]
theorem okOd.shape (h:okOd a)(h1:b.side=a.side)(h2:b.typ=a.typ)(h3:b.price=a.price):okOd b:=by
 have e:pl b=pl a:=by unfold pl;rw[h2]
 exact⟨by rw[h1];exact h.side,by rw[e,h3];exact h.plain,by rw[e,h3];exact h.priced,by rw[h3];exact h.price⟩
variable {l:List Od}
theorem zdm.setRest (h:zdm l)(i r:Nat):zdm (zaf l i r):=fun j hj=>by
 obtain ⟨_,h1,h2,h3⟩:=zcc l i r j
 exact(h j (by simpa [zaw] using hj)).shape h1 h2 h3
theorem zdm.push (h:zdm l){o:Od}(ho:okOd o):zdm (l++[o]):=fun j hj=>by
 simp only[List.length_append,List.length_cons,List.length_nil] at hj
 by_cases e:j<l.length
 .rw[zdn l o j e]
  exact h j e
 .obtain rfl:j=l.length:=by omega
  rw[zc2]
  exact ho
variable {q:List Nat} {s:Nat}
theorem Qd.setRest (h:Qd l s q)(i r:Nat)(hi:i<l.length)(hr:r<=(nth l i).rest):Qd (zaf l i r) s q:=by
 refine⟨h.srt.imp ?_,fun j hj=>?_,fun j hj hs hp=>?_⟩
 .intro a b hab
  obtain ⟨_,a1,a2,a3⟩:=zcc l i r a
  obtain ⟨_,_,b2,b3⟩:=zcc l i r b
  rw[zlh a1 a2 a3 b2 b3]
  exact hab
 .rw[zaw,(zcc l i r j).2.1]
  exact h.inn j hj
 .rw[zaw] at hj
  rw[(zcc l i r j).2.1] at hs
  rw[zhr l i r j hi] at hp
  refine h.has j hj hs ?_
  split at hp
  .rename_i e
   subst e
   omega
  .exact hp
theorem Qd.drop (h:Qd l s q):Qd l s (q.filter fun i=>decide ((nth l i).rest≠0)):=
 ⟨h.srt.sublist List.filter_sublist,fun i hi=>h.inn i (List.mem_filter.1 hi).1,fun i hi hs hp=>List.mem_filter.2 ⟨h.has i hi hs hp,by simp;omega⟩⟩
theorem drop_live (l:List Od)(q:List Nat): ∀i∈q.filter (fun i=>decide ((nth l i).rest≠0)),0<(nth l i).rest:=by
 intro i hi
 have:=(List.mem_filter.1 hi).2
 simp only[decide_eq_true_eq] at this
 omega
theorem Qd.add {a b:List Nat}(h:Qd l o.side (a++b))(hok:zdm l)(ho:okOd o)(ha: ∀j∈a,tkP (nth l j) (lim o)=true)(hb: ∀j b',b=j::b'->tkP (nth l j) (lim o)=false):
  Qd (l++[o]) o.side (a++l.length::b):=by
 have hin: ∀j∈a++b,j<l.length/\(nth l j).side=o.side:=h.inn
 have hsb: ∀j∈b,zcy o (nth l j) l.length j=true:=by
  cases b with
  |nil=>intro j hj;cases hj
  |cons x b=>
   have hx:=hb x b rfl
   obtain ⟨hxl,hxs⟩:=hin x (by simp)
   have hox:zcy o (nth l x) l.length x=true:=by
    unfold tkP at hx
    rcases ho.side with s|s
    .rw[zda ho (hok x hxl) s (by omega)]
     rw[if_pos (by omega)] at hx
     simp only[decide_eq_false_iff_not] at hx
     omega
    .rw[zcr ho (hok x hxl) s (by omega)]
     rw[if_neg (by omega)] at hx
     simp only[decide_eq_false_iff_not] at hx
     omega
   intro j hj
   simp only[List.mem_cons] at hj
   rcases hj with rfl|hj
   .exact hox
   .obtain ⟨hjl,hjs⟩:=hin j (by simp[hj])
    have hs:=h.srt
    rw[List.pairwise_append] at hs
    exact zlg ho (hok x hxl) (hok j hjl) (by omega) (by omega) _ x j hox ((List.pairwise_cons.1 hs.2.1).1 j hj)
 have hsa: ∀j∈a,zcy (nth l j) o j l.length=true:=by
  intro j hj
  obtain ⟨hjl,hjs⟩:=hin j (by simp[hj])
  have:=ha j hj
  unfold tkP at this
  rcases ho.side with s|s
  .rw[zda (hok j hjl) ho (by omega) s]
   rw[if_pos (by omega)] at this
   simp only[decide_eq_true_eq] at this
   omega
  .rw[zcr (hok j hjl) ho (by omega) s]
   rw[if_neg (by omega)] at this
   simp only[decide_eq_true_eq] at this
   omega
 have hn: ∀j∈a++b,nth (l++[o]) j=nth l j:=fun j hj=>zdn l o j (hin j hj).1
 have hs:=h.srt
 rw[List.pairwise_append] at hs
 refine⟨?_,fun i hi=>?_,fun i hi hsd hp=>?_⟩
 .rw[List.pairwise_append]
  refine⟨?_,?_,?_⟩
  .refine List.Pairwise.imp_of_mem ?_ hs.1
   intro x y hx hy hxy
   rw[hn x (by simp[hx]),hn y (by simp[hy])]
   exact hxy
  .rw[List.pairwise_cons]
   refine⟨fun j hj=>?_,?_⟩
   .rw[zc2,hn j (by simp[hj])]
    exact hsb j hj
   .refine List.Pairwise.imp_of_mem ?_ hs.2.1
    intro x y hx hy hxy
    rw[hn x (by simp[hx]),hn y (by simp[hy])]
    exact hxy
  .intro x hx y hy
   rw[hn x (by simp[hx])]
   simp only[List.mem_cons] at hy
   rcases hy with rfl|hy
   .rw[zc2]
    exact hsa x hx
   .rw[hn y (by simp[hy])]
    exact hs.2.2 x hx y hy
 .simp only[List.mem_append,List.mem_cons] at hi
  rcases hi with hi|rfl|hi
  .rw[hn i (by simp[hi])]
   have:=hin i (by simp[hi])
   exact⟨by simp;omega,this.2⟩
  .rw[zc2]
   exact⟨by simp,rfl⟩
  .rw[hn i (by simp[hi])]
   have:=hin i (by simp[hi])
   exact⟨by simp;omega,this.2⟩
 .simp only[List.length_append,List.length_cons,List.length_nil] at hi
  by_cases e:i<l.length
  .rw[zdn l o i e] at hsd hp
   have:=h.has i e hsd hp
   simp only[List.mem_append] at this
   simp only[List.mem_append,List.mem_cons]
   rcases this with h1|h1
   .exact .inl h1
   .exact .inr (.inr h1)
  .obtain rfl:i=l.length:=by omega
   simp
theorem Qd.other (h:Qd l s q)(hs:o.side≠s):Qd (l++[o]) s q:=by
 have hn: ∀j∈q,nth (l++[o]) j=nth l j:=fun j hj=>zdn l o j (h.inn j hj).1
 refine⟨List.Pairwise.imp_of_mem (fun hx hy hxy=>by rw[hn _ hx,hn _ hy];exact hxy) h.srt,fun i hi=>?_,fun i hi hsd hp=>?_⟩
 .rw[hn i hi]
  have:=h.inn i hi
  exact⟨by simp;omega,this.2⟩
 .simp only[List.length_append,List.length_cons,List.length_nil] at hi
  by_cases e:i<l.length
  .rw[zdn l o i e] at hsd hp
   exact h.has i e hsd hp
  .obtain rfl:i=l.length:=by omega
   rw[zc2] at hsd
   exact absurd hsd hs
def oneId (l:List Od):Prop:= ∀i j,i<l.length->j<l.length->(nth l i).id=(nth l j).id->i=j
theorem liveAt_here (l:List Od)(id i n:Nat)(h1:oneId l)(hi:i<n)(hn:n<=l.length)(hid:(nth l i).id=id)(hr:0<(nth l i).rest):zas l id n=i:=by
 induction n with
 |zero=>omega
 |succ n ih=>
  unfold zas
  by_cases e:i=n
  .subst e
   rw[if_pos ⟨hid,hr⟩]
  .rw[if_neg,ih (by omega) (by omega)]
   rintro ⟨h2,_⟩
   exact e (h1 i n (by omega) (by omega) (by rw[hid,h2]))
theorem liveAt_nowhere (l:List Od)(id n:Nat)(h: ∀i,i<n->(nth l i).id=id->(nth l i).rest=0):zas l id n= -1:=by
 induction n with
 |zero=>rfl
 |succ n ih=>
  unfold zas
  rw[if_neg,ih (fun i hi=>h i (by omega))]
  rintro ⟨h2,h3⟩
  have:=h n (by omega) h2
  omega
theorem ones {α:Type}(l:List α):(l.map fun _=>1).sum=l.length:=by
 induction l with
 |nil=>rfl
 |cons a l ih=>simp only[List.map_cons,List.sum_cons,List.length_cons,ih];omega
theorem live_count {q1 q2:List Nat}(h1:Qd l 1 q1)(h2:Qd l 2 q2)(l1: ∀i∈q1,0<(nth l i).rest)(l2: ∀i∈q2,0<(nth l i).rest)(hok:zdm l):q1.length+q2.length=zap l:=by
 have e1:q1.length=((l.filter fun o=>decide (0<o.rest)&&o.side==1).map fun _=>1).sum:=by
  rw[←h1.sum (fun _=>1) (fun o=>decide (0<o.rest)&&o.side==1)]
  .exact(ones q1).symm
  .intro i hi
   have a:=l1 i hi
   have b:=(h1.inn i hi).2
   simp[a,b]
  .intro i hi hq
   have: ¬(0<(nth l i).rest/\(nth l i).side=1):=fun h=>hq (h1.has i hi h.2 h.1)
   rw[if_neg (by simpa using this)]
 have e2:q2.length=((l.filter fun o=>decide (0<o.rest)&&o.side==2).map fun _=>1).sum:=by
  rw[←h2.sum (fun _=>1) (fun o=>decide (0<o.rest)&&o.side==2)]
  .exact(ones q2).symm
  .intro i hi
   have a:=l2 i hi
   have b:=(h2.inn i hi).2
   simp[a,b]
  .intro i hi hq
   have: ¬(0<(nth l i).rest/\(nth l i).side=2):=fun h=>hq (h2.has i hi h.2 h.1)
   rw[if_neg (by simpa using this)]
 have e3:zap l=((l.filter fun o=>decide (0<o.rest)).map fun _=>1).sum:=(ones _).symm
 rw[e1,e2,e3,zeo,zeo,zeo,←zei,←zei,←zei,←upSum_add]
 refine zep _ _ _ fun i hi=>?_
 rcases (hok i hi).side with s|s<;>simp[s]
end
section
open Go.RowKit
def obc (o:Od) (wt:Bool) (t:Nat):Array Value:= #[.int .i64 o.id,.int .i64 o.side,.int .i64 o.typ,.int .i64 o.price,.int .i64 o.rest,.bool wt,.int .i64 t]
def OB (w:World) (E:Nat) (o:Od) (wt:Bool) (t:Nat):Prop:=w.heap[E]?=some (.cells (obc o wt t) 108 (0,0))
structure OBc (w:World) (E:Nat) (o:Od) (wt:Bool) (t:Nat):Prop where
 c0:w.cell? ⟨E,0,none⟩=some (.int .i64 o.id)
 c1:w.cell? ⟨E,1,none⟩=some (.int .i64 o.side)
 c2:w.cell? ⟨E,2,none⟩=some (.int .i64 o.typ)
 c3:w.cell? ⟨E,3,none⟩=some (.int .i64 o.price)
 c4:w.cell? ⟨E,4,none⟩=some (.int .i64 o.rest)
 c5:w.cell? ⟨E,5,none⟩=some (.bool wt)
 c6:w.cell? ⟨E,6,none⟩=some (.int .i64 t)
theorem OB.c {w:World}{E:Nat}{o:Od}{wt:Bool}{t:Nat}(h:OB w E o wt t):OBc w E o wt t:=by
 constructor<;>(rw[cell_of_row w E _ _ _ (0,0) h];rfl)
theorem zit (E:Nat)(o:Od)(w:World)(R:EW)(c1:w.cell? ⟨E,1,none⟩=some (.int .i64 o.side))(c3:w.cell? ⟨E,3,none⟩=some (.int .i64 o.price))(hR:R (.returned (.int .i64 (lim o))) w):
  Calls Tryz.prog 187 #[.pointer (some ⟨E,0,none⟩)] w R:=by
 unfold lim at hR
 by_cases h0:o.price=0
 .rw[if_neg (by simp[h0])] at hR
  have f0:((o.price:Int)==0)=true:=by simp[h0]
  by_cases h1:o.side=1
  .rw[if_pos h1] at hR
   have f1:((o.side:Int)==1)=true:=by simp[h1]
   have hfin:Hid (R (.returned (.int .i64 9223372036854775807)) w):=zci hR (by simp)
   clear hR
   go_enter Tryz.func187,Tryz.ntmps187
   go_wp2
   exact hfin.o
  .rw[if_neg h1] at hR
   have f1:((o.side:Int)==1)=false:=by simp;omega
   have hfin:Hid (R (.returned (.int .i64 0)) w):=zci hR (by simp)
   clear hR
   go_enter Tryz.func187,Tryz.ntmps187
   go_wp2
   exact hfin.o
 .rw[if_pos h0] at hR
  have f0:((o.price:Int)==0)=false:=by simp;omega
  have hfin:Hid (R (.returned (.int .i64 o.price)) w):=hR
  clear hR
  go_enter Tryz.func187,Tryz.ntmps187
  go_wp2
  exact hfin.o
theorem zis (E:Nat)(o:Od)(p:Nat)(w:World)(R:EW)(c1:w.cell? ⟨E,1,none⟩=some (.int .i64 o.side))(c3:w.cell? ⟨E,3,none⟩=some (.int .i64 o.price))(hR:R (.returned (.bool (tkP o p))) w):
  Calls Tryz.prog 186 #[.pointer (some ⟨E,0,none⟩),.int .i64 p] w R:=by
 unfold tkP at hR
 by_cases h1:o.side=1
 .rw[if_pos h1] at hR
  have f1:((o.side:Int)==1)=true:=by simp[h1]
  have hfin:Hid (R (.returned (.bool (decide (p<=lim o)))) w):=hR
  clear hR
  go_enter Tryz.func186,Tryz.ntmps186
  go_wp2_with (go_at_call 187;refine zit E o _ _ c1 c3 ?_)
  exact hfin.o
 .rw[if_neg h1] at hR
  have f1:((o.side:Int)==1)=false:=by simp;omega
  have hfin:Hid (R (.returned (.bool (decide (lim o<=p)))) w):=hR
  clear hR
  go_enter Tryz.func186,Tryz.ntmps186
  go_wp2_with (go_at_call 187;refine zit E o _ _ c1 c3 ?_)
  exact hfin.o
theorem zhy (E:Nat)(wt:Bool)(r:Nat)(w:World)(R:EW)(c4:w.cell? ⟨E,4,none⟩=some (.int .i64 r))(c5:w.cell? ⟨E,5,none⟩=some (.bool wt))(hR:R (.returned (.bool (!wt&&decide (0<r)))) w):
  Calls Tryz.prog 219 #[.pointer (some ⟨E,0,none⟩)] w R:=by
 cases wt with
 |true=>
  have hfin:Hid (R (.returned (.bool false)) w):=hR
  clear hR
  go_enter Tryz.func219,Tryz.ntmps219
  go_wp2
  exact hfin.o
 |false=>
  have hfin:Hid (R (.returned (.bool (decide (0<r)))) w):=zam hR (by simp)
  clear hR
  go_enter Tryz.func219,Tryz.ntmps219
  go_wp2
  exact hfin.o
end
