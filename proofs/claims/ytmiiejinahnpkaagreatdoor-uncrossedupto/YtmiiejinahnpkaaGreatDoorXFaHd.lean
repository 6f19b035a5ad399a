import Derived.Test.YtmiiejinahnpkaaGreatDoorXGbHb
set_option maxRecDepth 8000
set_option maxHeartbeats 1000000
namespace Go.Proofs.YtmiiejinahnpkaaGreatDoor
section
def zd9 (f:Nat->Int) (l:List Nat):Int:=l.foldl (fun a p=>if f p<a then f p else a) 9223372036854775807
def za5 (f:Nat->Int) (l:List Nat):List Nat:=l.filter fun p=>decide (f p=zd9 f l)
theorem zgo (f:Nat->Int)(l:List Nat)(x:Nat):zd9 f (l++[x])=if f x<zd9 f l then f x else zd9 f l:=by
 unfold zd9
 rw[List.foldl_append]
 rfl
theorem zhs (f:Nat->Int)(l:List Nat):zd9 f l<=9223372036854775807/\ ∀p∈l,zd9 f l<=f p:=by
 unfold zd9
 refine zd7 _ (fun a l=>a<=9223372036854775807/\ ∀p∈l,a<=f p) _ ⟨Int.le_refl _,by simp⟩ ?_ l
 intro a l x ⟨h1,h2⟩
 split
 .rename_i h
  refine⟨by omega,fun p hp=>?_⟩
  simp only[List.mem_append,List.mem_singleton] at hp
  rcases hp with hp|rfl
  .have:=h2 p hp
   omega
  .omega
 .rename_i h
  refine⟨h1,fun p hp=>?_⟩
  simp only[List.mem_append,List.mem_singleton] at hp
  rcases hp with hp|rfl
  .exact h2 p hp
  .omega
theorem lowOf_at (f:Nat->Int)(l:List Nat)(h: ∀p∈l,f p<=9223372036854775807)(hn:l≠[]): ∃p∈l,f p=zd9 f l:=by
 have key:zd9 f l=9223372036854775807\/ ∃p∈l,f p=zd9 f l:=by
  unfold zd9
  refine zd7 _ (fun a l=>a=9223372036854775807\/ ∃p∈l,f p=a) _ (.inl rfl) ?_ l
  intro a l x h1
  split
  .exact .inr ⟨x,by simp,rfl⟩
  .rcases h1 with h1|⟨p,hp,e⟩
   .exact .inl h1
   .exact .inr ⟨p,by simp[hp],e⟩
 rcases key with e|h1
 .cases l with
  |nil=>exact absurd rfl hn
  |cons a l=>
   refine⟨a,by simp,?_⟩
   have h2:=(zhs f (a::l)).2 a (by simp)
   have h3:=h a (by simp)
   omega
 .exact h1
theorem zim (f:Nat->Int)(l:List Nat)(x:Nat)(h:f x<zd9 f l):za5 f (l++[x])=[x]:=by
 unfold za5
 rw[zgo,if_pos h,List.filter_append]
 have:l.filter (fun p=>decide (f p=f x))=[]:=by
  refine List.filter_eq_nil_iff.2 fun p hp=>?_
  have:=(zhs f l).2 p hp
  simp only[decide_eq_true_eq]
  omega
 rw[this]
 simp
theorem zik (f:Nat->Int)(l:List Nat)(x:Nat)(h:f x=zd9 f l):za5 f (l++[x])=za5 f l++[x]:=by
 unfold za5
 rw[zgo,if_neg (by omega),List.filter_append]
 simp[h]
theorem zil (f:Nat->Int)(l:List Nat)(x:Nat)(h:zd9 f l<f x):za5 f (l++[x])=za5 f l:=by
 unfold za5
 rw[zgo,if_neg (by omega),List.filter_append]
 have:decide (f x=zd9 f l)=false:=by simp;omega
 simp[this]
theorem zg3 (f:Nat->Int)(l:List Nat)(h: ∀p∈l,f p<=9223372036854775807)(p:Nat):p∈za5 f l↔p∈l/\ ∀q∈l,f p<=f q:=by
 unfold za5
 simp only[List.mem_filter,decide_eq_true_eq]
 constructor
 .rintro ⟨h1,h2⟩
  exact⟨h1,fun q hq=>by rw[h2];exact(zhs f l).2 q hq⟩
 .rintro ⟨h1,h2⟩
  refine⟨h1,?_⟩
  obtain ⟨q,hq,e⟩:=lowOf_at f l h (fun e=>by rw[e] at h1;cases h1)
  have:=h2 q hq
  have:=(zhs f l).2 p h1
  omega
theorem zgp (f:Nat->Int)(l:List Nat)(h: ∀p∈l,f p<=9223372036854775807)(hn:l≠[]):za5 f l≠[]:=by
 obtain ⟨q,hq,e⟩:=lowOf_at f l h hn
 intro e2
 have:q∈za5 f l:=by unfold za5;simp[hq,e]
 rw[e2] at this
 cases this
theorem zk6 (ph:Nat)(l:List Od)(p q:Nat)(h:p<=q):dep ph l 1 q<=dep ph l 1 p:=by
 unfold dep
 induction l with
 |nil=>exact nr
 |cons a l ih=>
  rw[List.filter_cons,List.filter_cons]
  have:zdq ph 1 q a=true->zdq ph 1 p a=true:=by
   unfold zdq tk
   simp only[Bool.and_eq_true,beq_iff_eq,Bool.or_eq_true]
   rintro ⟨h1,h2,h3⟩
   rw[if_pos h3] at *
   simp only[decide_eq_true_eq] at *
   exact⟨h1,h2.imp id (fun h2=>llt h h2),h3⟩
  by_cases hq:zdq ph 1 q a=true
  .rw[if_pos hq,if_pos (this hq)]
   simp only[List.map_cons,List.sum_cons]
   omega
  .rw[if_neg hq]
   split
   .simp only[List.map_cons,List.sum_cons]
    omega
   .exact ih
theorem zhv (ph:Nat)(l:List Od)(p q:Nat)(h:p<=q):dep ph l 2 p<=dep ph l 2 q:=by
 unfold dep
 induction l with
 |nil=>exact nr
 |cons a l ih=>
  rw[List.filter_cons,List.filter_cons]
  have:zdq ph 2 p a=true->zdq ph 2 q a=true:=by
   unfold zdq tk
   simp only[Bool.and_eq_true,beq_iff_eq,Bool.or_eq_true]
   rintro ⟨h1,h2,h3⟩
   rw[if_neg (by omega)] at *
   simp only[decide_eq_true_eq] at *
   exact⟨h1,h2.imp id (fun h2=>llt h2 h),h3⟩
  by_cases hq:zdq ph 2 p a=true
  .rw[if_pos hq,if_pos (this hq)]
   simp only[List.map_cons,List.sum_cons]
   omega
  .rw[if_neg hq]
   split
   .simp only[List.map_cons,List.sum_cons]
    omega
   .exact ih
theorem pick_most (R p:Nat)(L:List Nat):zcb true false R p L∈p::L/\ ∀q∈p::L,q<=zcb true false R p L:=by
 unfold zcb
 refine zd7 _ (fun a l=>a∈p::l/\ ∀q∈p::l,q<=a) p ⟨by simp,by simp⟩ ?_ L
 intro a l x ⟨h1,h2⟩
 simp only[List.mem_cons,List.mem_append,List.not_mem_nil,or_false,Bool.true_and,Bool.false_and,Bool.not_true,Bool.or_false,decide_eq_true_eq] at *
 split
 .rename_i h
  refine⟨by simp,fun q hq=>?_⟩
  rcases hq with rfl|hq|rfl
  .have:=h2 q (.inl rfl);omega
  .have:=h2 q (.inr hq);omega
  .exact nr
 .rename_i h
  refine⟨by rcases h1 with h1|h1<;>simp[h1],fun q hq=>?_⟩
  rcases hq with rfl|hq|rfl
  .exact h2 q (.inl rfl)
  .exact h2 q (.inr hq)
  .omega
theorem pick_least (R p:Nat)(L:List Nat):zcb false true R p L∈p::L/\ ∀q∈p::L,zcb false true R p L<=q:=by
 unfold zcb
 refine zd7 _ (fun a l=>a∈p::l/\ ∀q∈p::l,a<=q) p ⟨by simp,by simp⟩ ?_ L
 intro a l x ⟨h1,h2⟩
 simp only[List.mem_cons,List.mem_append,List.not_mem_nil,or_false,Bool.true_and,Bool.false_and,Bool.not_true,Bool.or_false,Bool.and_false,Bool.false_or,decide_eq_true_eq] at *
 split
 .rename_i h
  refine⟨by simp,fun q hq=>?_⟩
  rcases hq with rfl|hq|rfl
  .have:=h2 q (.inl rfl);omega
  .have:=h2 q (.inr hq);omega
  .exact nr
 .rename_i h
  refine⟨by rcases h1 with h1|h1<;>simp[h1],fun q hq=>?_⟩
  rcases hq with rfl|hq|rfl
  .exact h2 q (.inl rfl)
  .exact h2 q (.inr hq)
  .omega
theorem pick_near (R p:Nat)(L:List Nat):zcb false false R p L∈p::L/\ ∀q∈p::L,gp (zcb false false R p L) R<=gp q R:=by
 unfold zcb
 refine zd7 _ (fun a l=>a∈p::l/\ ∀q∈p::l,gp a R<=gp q R) p ⟨by simp,by simp⟩ ?_ L
 intro a l x ⟨h1,h2⟩
 simp only[List.mem_cons,List.mem_append,List.not_mem_nil,or_false,Bool.true_and,Bool.false_and,Bool.not_false,Bool.false_or,zi6,Bool.or_eq_true,Bool.and_eq_true,decide_eq_true_eq] at *
 split
 .rename_i h
  refine⟨by simp,fun q hq=>?_⟩
  rcases hq with rfl|hq|rfl
  .have:=h2 q (.inl rfl);omega
  .have:=h2 q (.inr hq);omega
  .exact nr
 .rename_i h
  refine⟨by rcases h1 with h1|h1<;>simp[h1],fun q hq=>?_⟩
  rcases hq with rfl|hq|rfl
  .exact h2 q (.inl rfl)
  .exact h2 q (.inr hq)
  .omega
theorem near_one (D S:Nat->Nat)(hD: ∀p q,p<=q->D q<=D p)(hS: ∀p q,p<=q->S p<=S q)(M O a b R:Nat)(h1:min (D a) (S a)=M)(h2:min (D b) (S b)=M)
  (g1:gp (D a) (S a)=O)(g2:gp (D b) (S b)=O)(hM:min (D R) (S R)<=M)(hO:min (D R) (S R)=M->O<=gp (D R) (S R))(hab:a<=R)(hRb:R<=b):
  min (D R) (S R)=M/\gp (D R) (S R)=O:=by
 have d1:=hD a R hab
 have d2:=hD R b hRb
 have s1:=hS a R hab
 have s2:=hS R b hRb
 have e:min (D R) (S R)=M:=by omega
 have o:=hO e
 refine⟨e,?_⟩
 unfold gp at *
 split at g1<;>split at g2<;>split at o<;>split<;>omega
theorem gp_int (a b:Nat):(gp a b:Int)=max ((a:Int)-b) ((b:Int)-a):=by
 unfold gp
 split<;>omega
def sur (D S:Nat->Nat) (p:Nat):Int:=(D p:Int)-(S p:Int)
def zjb (D S:Nat->Nat) (R lo hi:Nat) (L:List Nat):Nat:=
 if 0<sur D S hi then hi else if sur D S lo<0 then lo else (za5 (fun p=>max ((p:Int)-R) ((R:Int)-p)) L).headD 0
theorem choose_same (ph R:Nat)(l:List Od)(L:List Nat)(hm:zcn ph R l≠0)(hL: ∀p,p∈L↔p∈zcp ph R l)(hbd: ∀p∈L,p<=4294967295)(hR:R<=4294967295)(lo hi:Nat)
  (hlo:lo∈L/\ ∀q∈L,lo<=q)(hhi:hi∈L/\ ∀q∈L,q<=hi):zjb (dep ph l 1) (dep ph l 2) R lo hi L=zdf ph R l:=by
 have hp:=zjv ph R l hm
 have hmem: ∀p,p∈zcp ph R l->p∈cnd ph R l/\vof ph l p=zcn ph R l/\(gof ph l p:Int)=oddAt ph R l:=by
  intro p h
  unfold zcp zcz at h
  simpa [List.mem_filter] using h
 have hmem2: ∀p,p∈cnd ph R l->vof ph l p=zcn ph R l->(gof ph l p:Int)=oddAt ph R l->p∈zcp ph R l:=by
  intro p h1 h2 h3
  unfold zcp zcz
  simp[List.mem_filter,h1,h2,h3]
 have hmax:=(zg2 (vof ph l) (cnd ph R l)).2
 have hodd: ∀p∈cnd ph R l,vof ph l p=zcn ph R l->oddAt ph R l<=(gof ph l p:Int):=by
  rcases zif (vof ph l) (gof ph l) (zcn ph R l) (cnd ph R l) with ⟨_,h2⟩|⟨_,h2⟩
  .intro p h1 h3
   exact absurd h3 (h2 p h1)
  .exact h2
 have hRc:R∈cnd ph R l:=by simp[cnd]
 unfold zdf
 generalize hX:zcp ph R l=X at *
 cases X with
 |nil=>simp at hp
 |cons x X=>
  simp only[List.headD_cons,List.tail_cons]
  have hbuys:(x::X).all (zea ph l)=true↔0<sur (dep ph l 1) (dep ph l 2) hi:=by
   rw[List.all_eq_true]
   constructor
   .intro h
    have:=h hi ((hL hi).1 hhi.1)
    unfold zea at this
    simp only[decide_eq_true_eq] at this
    unfold sur
    omega
   .intro h p hp1
    have h1:=hhi.2 p ((hL p).2 hp1)
    have h2:=zk6 ph l p hi h1
    have h3:=zhv ph l p hi h1
    unfold sur at h
    unfold zea
    simp only[decide_eq_true_eq]
    omega
  have hsells:(x::X).all (zc1 ph l)=true↔sur (dep ph l 1) (dep ph l 2) lo<0:=by
   rw[List.all_eq_true]
   constructor
   .intro h
    have:=h lo ((hL lo).1 hlo.1)
    unfold zc1 at this
    simp only[decide_eq_true_eq] at this
    unfold sur
    omega
   .intro h p hp1
    have h1:=hlo.2 p ((hL p).2 hp1)
    have h2:=zk6 ph l lo p h1
    have h3:=zhv ph l lo p h1
    unfold sur at h
    unfold zc1
    simp only[decide_eq_true_eq]
    omega
  unfold zjb
  by_cases hb:0<sur (dep ph l 1) (dep ph l 2) hi
  .rw[if_pos hb]
   have hns: ¬sur (dep ph l 1) (dep ph l 2) lo<0:=by
    have h1:=hhi.2 lo hlo.1
    have h2:=zk6 ph l lo hi h1
    have h3:=zhv ph l lo hi h1
    unfold sur at *
    omega
   rw[hbuys.2 hb,Bool.eq_false_iff.2 (fun e=>hns (hsells.1 e))]
   obtain ⟨k1,k2⟩:=pick_most R x X
   have a1:=hhi.2 _ ((hL _).2 k1)
   have a2:=k2 _ ((hL _).1 hhi.1)
   omega
  .rw[if_neg hb,Bool.eq_false_iff.2 (fun e=>hb (hbuys.1 e))]
   by_cases hs:sur (dep ph l 1) (dep ph l 2) lo<0
   .rw[if_pos hs,hsells.2 hs]
    obtain ⟨k1,k2⟩:=pick_least R x X
    have a1:=hlo.2 _ ((hL _).2 k1)
    have a2:=k2 _ ((hL _).1 hlo.1)
    omega
   .rw[if_neg hs,Bool.eq_false_iff.2 (fun e=>hs (hsells.1 e))]
    obtain ⟨k1,k2⟩:=pick_near R x X
    have hle: ∀p∈L,max ((p:Int)-R) ((R:Int)-p)<=9223372036854775807:=by
     intro p hp1
     have:=hbd p hp1
     omega
    have hne:=zgp (fun p:Nat=>max ((p:Int)-R) ((R:Int)-p)) L hle (fun e=>by have:=hlo.1;rw[e] at this;cases this)
    have hin:=zg3 (fun p:Nat=>max ((p:Int)-R) ((R:Int)-p)) L hle
    generalize za5 (fun p:Nat=>max ((p:Int)-R) ((R:Int)-p)) L=Z at *
    cases Z with
    |nil=>exact absurd rfl hne
    |cons z Z=>
     simp only[List.headD_cons]
     obtain ⟨z1,z2⟩:=(hin z).1 (by simp)
     generalize zcb false false R x X=y at *
     have y1:=(hL y).2 k1
     have zy:=z2 y y1
     have yz:=k2 z ((hL z).1 z1)
     have g1:=gp_int z R
     have g2:=gp_int y R
     have hzy:gp z R=gp y R:=by omega
     by_cases e:z=y
     .exact e
     .exfalso
      obtain ⟨zc,zv,zg⟩:=hmem z ((hL z).1 z1)
      obtain ⟨yc,yv,yg⟩:=hmem y k1
      have hRM:=hmax R hRc
      have hRO:=hodd R hRc
      have key:vof ph l R=zcn ph R l/\gof ph l R=gof ph l z:=by
       by_cases hlt:z<y
       .have hzR:z<=R/\R<=y:=by omega
        exact near_one (dep ph l 1) (dep ph l 2) (zk6 ph l) (zhv ph l) (zcn ph R l) (gof ph l z) z y R zv yv rfl (by show gof ph l y=_;omega) hRM (fun h=>by have:=hRO h;show gof ph l z<=gof ph l R;omega) hzR.1 hzR.2
       .have hzR:y<=R/\R<=z:=by omega
        exact near_one (dep ph l 1) (dep ph l 2) (zk6 ph l) (zhv ph l) (zcn ph R l) (gof ph l z) y z R yv zv (by show gof ph l y=_;omega) rfl hRM (fun h=>by have:=hRO h;show gof ph l z<=gof ph l R;omega) hzR.1 hzR.2
      have hR1:=hmem2 R hRc key.1 (by rw[key.2];exact zg)
      have:=k2 R hR1
      have g3:=gp_int R R
      omega
def wide1 (D S:Nat->Nat) (C:List Nat):List Nat:=za5 (fun p=> -((min (D p) (S p):Nat):Int)) C
def zj4 (D S:Nat->Nat) (C:List Nat):List Nat:=za5 (fun p=>max (sur D S p-0) (0-sur D S p)) (wide1 D S C)
theorem zkp (ph R:Nat)(l:List Od)(C:List Nat)(hC: ∀p,p∈C↔p∈cnd ph R l)(p:Nat):
  p∈wide1 (dep ph l 1) (dep ph l 2) C↔p∈cnd ph R l/\vof ph l p=zcn ph R l:=by
 unfold wide1
 rw[zg3 _ _ (fun q _=>by omega)]
 obtain ⟨h1,h2⟩:=zg2 (vof ph l) (cnd ph R l)
 constructor
 .rintro ⟨a,b⟩
  have a':=(hC p).1 a
  refine⟨a',?_⟩
  have h3:=h2 p a'
  rcases h1 with h1|⟨q,hq,e⟩
  .show vof ph l p=zdo (vof ph l) (cnd ph R l)
   omega
  .have h4:=b q ((hC q).2 hq)
   show vof ph l p=zdo (vof ph l) (cnd ph R l)
   have e1:vof ph l p=min (dep ph l 1 p) (dep ph l 2 p):=rfl
   have e2:vof ph l q=min (dep ph l 1 q) (dep ph l 2 q):=rfl
   omega
 .rintro ⟨a,b⟩
  refine⟨(hC p).2 a,fun q hq=>?_⟩
  have h3:=h2 q ((hC q).1 hq)
  have e1:vof ph l p=min (dep ph l 1 p) (dep ph l 2 p):=rfl
  have e2:vof ph l q=min (dep ph l 1 q) (dep ph l 2 q):=rfl
  have e3:zcn ph R l=zdo (vof ph l) (cnd ph R l):=rfl
  omega
theorem wide1_ne (ph R:Nat)(l:List Od)(C:List Nat)(hC: ∀p,p∈C↔p∈cnd ph R l):wide1 (dep ph l 1) (dep ph l 2) C≠[]:=by
 unfold wide1
 refine zgp _ _ (fun q _=>by omega) (fun e=>?_)
 have:=(hC R).2 (by simp[cnd])
 rw[e] at this
 cases this
theorem mem_wide2 (ph R:Nat)(l:List Od)(C:List Nat)(hC: ∀p,p∈C↔p∈cnd ph R l)(hd: ∀s p,dep ph l s p<=1000000000)(p:Nat):
  p∈zj4 (dep ph l 1) (dep ph l 2) C↔p∈zcp ph R l:=by
 unfold zj4
 rw[zg3 _ _ (fun q _=>by have:=hd 1 q;have:=hd 2 q;unfold sur;omega)]
 simp only[zkp ph R l C hC]
 have hg: ∀q,(gof ph l q:Int)=max (sur (dep ph l 1) (dep ph l 2) q-0) (0-sur (dep ph l 1) (dep ph l 2) q):=by
  intro q
  unfold gof sur
  rw[gp_int]
  omega
 have hl:p∈zcp ph R l↔p∈cnd ph R l/\vof ph l p=zcn ph R l/\(gof ph l p:Int)=oddAt ph R l:=by
  unfold zcp zcz
  simp[List.mem_filter]
 rw[hl]
 rcases zif (vof ph l) (gof ph l) (zcn ph R l) (cnd ph R l) with ⟨_,h2⟩|⟨⟨z,hz,z1,z2⟩,h2⟩
 .constructor
  .rintro ⟨⟨a,b⟩,_⟩
   exact absurd b (h2 p a)
  .rintro ⟨a,b,_⟩
   exact absurd b (h2 p a)
 .constructor
  .rintro ⟨⟨a,b⟩,c⟩
   refine⟨a,b,?_⟩
   have h3:=c z ⟨hz,z1⟩
   rw[←hg,←hg] at h3
   have h4:=h2 p a b
   show _=zfc (vof ph l) (gof ph l) (zcn ph R l) (cnd ph R l)
   omega
  .rintro ⟨a,b,c⟩
   refine⟨⟨a,b⟩,fun q hq=>?_⟩
   rw[←hg,←hg,c]
   exact h2 q hq.1 hq.2
theorem call_none (ph R:Nat)(l:List Od)(C:List Nat)(hC: ∀p,p∈C↔p∈cnd ph R l)(x:Nat)(hx:x∈wide1 (dep ph l 1) (dep ph l 2) C)(h0:min (dep ph l 1 x) (dep ph l 2 x)=0):zal ph R l=(0,0,0):=by
 have h:=((zkp ph R l C hC x).1 hx).2
 unfold zal
 rw[if_pos]
 rw[←h]
 exact h0
theorem call_some (ph R:Nat)(l:List Od)(C:List Nat)(hC: ∀p,p∈C↔p∈cnd ph R l)(hd: ∀s p,dep ph l s p<=1000000000)(hbd: ∀p∈C,p<=4294967295)(x:Nat)(hx:x∈wide1 (dep ph l 1) (dep ph l 2) C)
  (h0:min (dep ph l 1 x) (dep ph l 2 x)≠0)(lo hi:Nat)
  (hlo:lo∈zj4 (dep ph l 1) (dep ph l 2) C/\ ∀q∈zj4 (dep ph l 1) (dep ph l 2) C,lo<=q)(hhi:hi∈zj4 (dep ph l 1) (dep ph l 2) C/\ ∀q∈zj4 (dep ph l 1) (dep ph l 2) C,q<=hi)(p:Nat)
  (hp:p=zjb (dep ph l 1) (dep ph l 2) R lo hi (zj4 (dep ph l 1) (dep ph l 2) C)):
  zal ph R l=(p,min (dep ph l 1 p) (dep ph l 2 p),sur (dep ph l 1) (dep ph l 2) p):=by
 have h:=((zkp ph R l C hC x).1 hx).2
 have hm:zcn ph R l≠0:=by rw[←h];exact h0
 have hin: ∀q∈zj4 (dep ph l 1) (dep ph l 2) C,q<=4294967295:=by
  intro q hq
  have:=(mem_wide2 ph R l C hC hd q).1 hq
  exact hbd q ((hC q).2 (left_sub ph R l q this))
 have e:=choose_same ph R l (zj4 (dep ph l 1) (dep ph l 2) C) hm (mem_wide2 ph R l C hC hd) hin (hbd R ((hC R).2 (by simp[cnd]))) lo hi hlo hhi
 rw[←hp] at e
 subst e
 unfold zal
 rw[if_neg hm]
 have hl:zdf ph R l∈zcp ph R l:=by
  have hp:=zjv ph R l hm
  unfold zdf
  generalize zcp ph R l=X at *
  cases X with
  |nil=>simp at hp
  |cons x X=>
   simp only[List.headD_cons,List.tail_cons]
   rcases zic ((x::X).all (zea ph l)) ((x::X).all (zc1 ph l)) R x X with h|h
   .rw[h];simp
   .exact List.mem_cons_of_mem _ h
 have hv:vof ph l (zdf ph R l)=zcn ph R l:=by
  unfold zcp zcz at hl
  simp only[List.mem_filter,decide_eq_true_eq] at hl
  exact hl.2.1
 rw[←hv]
 rfl
end
section
open Go.RowKit Go.Shelf
theorem zgx (K:Nat)(s:Nat)(w:World)(R:EW)(hR: ∀w',Itr w' w.heap.size (w.heap.size+1) K s->Below w.heap.size w w'->R (.returned (itv w.heap.size (w.heap.size+1))) w'):
  Calls Tryz.prog 212 #[.pointer (some ⟨K,0,none⟩),.int .i64 (s:Nat)] w R:=by
 have HR:=zl hR
 clear hR
 go_enter Tryz.func212,Tryz.ntmps212
 go_wp2_with fail
 refine HR.o _ ⟨?_,?_⟩ ((br.alloc nr _).alloc (by simp) _)
 .exact((Vb.new w _ _).alloc _).cell
 .simp
theorem zj2 (K:Nat)(w:World)(R:EW)(hR: ∀w',Itr w' w.heap.size (w.heap.size+1) K 1->Below w.heap.size w w'->R (.returned (itv w.heap.size (w.heap.size+1))) w'):
  Calls Tryz.prog 191 #[.pointer (some ⟨K,0,none⟩)] w R:=by
 have HR:=zl hR
 clear hR
 go_enter Tryz.func191,Tryz.ntmps191
 go_wp2_with fail
 refine zgx K 1 _ _ ?_
 intro w' h1 h2
 have hfin:=zl (HR.o w' h1 h2)
 clear h1 h2 HR
 unfold itv at *
 go_wp2_with fail
 exact hfin.o
theorem zh0 (K:Nat)(w:World)(R:EW)(hR: ∀w',Itr w' w.heap.size (w.heap.size+1) K 2->Below w.heap.size w w'->R (.returned (itv w.heap.size (w.heap.size+1))) w'):
  Calls Tryz.prog 192 #[.pointer (some ⟨K,0,none⟩)] w R:=by
 have HR:=zl hR
 clear hR
 go_enter Tryz.func192,Tryz.ntmps192
 go_wp2_with fail
 refine zgx K 2 _ _ ?_
 intro w' h1 h2
 have hfin:=zl (HR.o w' h1 h2)
 clear h1 h2 HR
 unfold itv at *
 go_wp2_with fail
 exact hfin.o
def dfv (Bo:Nat):Value:= .func (.func 211) #[] #[.pointer (some ⟨Bo,0,none⟩)]
theorem zkf (Bb Bs:Nat)(w:World)(R:EW)(hR: ∀w',w'.cell? ⟨w.heap.size,0,none⟩=some (itv Bb Bs)->Below w.heap.size w w'->R (.returned (dfv w.heap.size)) w'):
  Calls Tryz.prog 190 #[itv Bb Bs] w R:=by
 have HR:=zl hR
 clear hR
 unfold itv at *
 unfold dfv at *
 go_enter Tryz.func190,Tryz.ntmps190
 go_wp2_with fail
 exact HR.o _ (Vb.new w _ _).cell (br.alloc nr _)
def Meas (w:World) (g:Nat) (lb:Array Value) (D:Nat->Prop) (f:Nat->Int):Prop:=
 ∀W,Below w.heap.size w W-> ∀p:Nat,D p-> ∀R:EW,(∀W',Below W.heap.size W W'->R (.returned (.int .i64 (f p))) W')->Calls Tryz.prog g (#[.int .i64 (p:Nat)]++lb) W R
variable {D:Nat->Prop}
theorem Meas.ext {w w1:World}{g:Nat}{lb:Array Value}{f:Nat->Int}(h:Meas w g lb D f)(hb:Below w.heap.size w w1):Meas w1 g lb D f:=
 fun W hW p hp R hR=>h W (zad hb hW) p hp R hR
theorem deps_meas (b:Bk)(ph:Nat)(l:List Od)(s:Nat)(hs:isSd s)(Bo Bb Bs:Nat)(w:World)(h:BKs w b ph l)(hI:Itr w Bb Bs b.K s)(ho:w.cell? ⟨Bo,0,none⟩=some (itv Bb Bs))(hok:zdm l)
  (hq:Qd l s (b.q s))(hsum:zba l s<=1000000000):Meas w 211 #[.pointer (some ⟨Bo,0,none⟩)] (fun p=>p<=4294967295) (fun p=>(dep ph l s p:Nat)):=by
 intro W hW p hp R hR
 refine restsAt1_any b ph l s hs Bo Bb Bs p W R (h.ext hW) (hI.ext hW) (zaa hW ho) hq hsum ?_
 rw[hq.deps hok ph p (by omega)]
 exact hR
theorem zja (x y:Int)(w:World)(R:EW)(hx: -10000000000<=x)(hx':x<=10000000000)(hy: -10000000000<=y)(hy':y<=10000000000)(hR:R (.returned (.int .i64 (max (x-y) (y-x)))) w):
  Calls Tryz.prog 199 #[.int .i64 x,.int .i64 y] w R:=by
 have HR:=zl hR
 clear hR
 go_enter Tryz.func199,Tryz.ntmps199
 go_wp2_with fail
 all_goals
  refine zci HR.o ?_
  congr 1
  omega
theorem two_meas {W:World}{B1 B2:Nat}{d s:Nat->Nat}(h1:Meas W 211 #[.pointer (some ⟨B1,0,none⟩)] D (fun p=>(d p:Nat)))(h2:Meas W 211 #[.pointer (some ⟨B2,0,none⟩)] D (fun p=>(s p:Nat)))
  (Bx:Nat)(f:Nat->Nat)(hf:(Bx=B1/\f=d)\/(Bx=B2/\f=s))(W1:World)(hb:Below W.heap.size W W1)(p:Nat)(hp:D p)(R:EW)(hR: ∀W',Below W1.heap.size W1 W'->R (.returned (.int .i64 ((f p:Nat):Int))) W'):
  Calls Tryz.prog 211 #[.int .i64 (p:Nat),.pointer (some ⟨Bx,0,none⟩)] W1 R:=by
 rcases hf with ⟨rfl,rfl⟩|⟨rfl,rfl⟩
 .exact h1 W1 hb p hp R hR
 .exact h2 W1 hb p hp R hR
theorem volume_meas (B5 B6 B1 B2:Nat)(D:Nat->Prop)(d s:Nat->Nat)(w:World)(c5:w.cell? ⟨B5,0,none⟩=some (dfv B1))(c6:w.cell? ⟨B6,0,none⟩=some (dfv B2))
  (h1:Meas w 211 #[.pointer (some ⟨B1,0,none⟩)] D (fun p=>(d p:Nat)))(h2:Meas w 211 #[.pointer (some ⟨B2,0,none⟩)] D (fun p=>(s p:Nat))):
  Meas w 193 #[.pointer (some ⟨B5,0,none⟩),.pointer (some ⟨B6,0,none⟩)] D (fun p=>(min (d p) (s p):Nat)):=by
 intro W hW p hp R hR
 have HR:=zl hR
 have H1:=zl (h1.ext hW)
 have H2:=zl (h2.ext hW)
 have c5':=zaa hW c5
 have c6':=zaa hW c6
 clear hR h1 h2 c5 c6 hW
 unfold dfv at *
 show Calls Tryz.prog 193 #[.int .i64 (p:Nat),.pointer (some ⟨B5,0,none⟩),.pointer (some ⟨B6,0,none⟩)] W R
 go_enter Tryz.func193,Tryz.ntmps193
 go_wp2_with fail
 go_region_held3 (fun w'=>w'.cell? ⟨B5,0,none⟩=some (Value.func (Fn.func 211) #[] #[Value.pointer (some ⟨B1,0,none⟩)])/\w'.cell? ⟨B6,0,none⟩=some (Value.func (Fn.func 211) #[] #[Value.pointer (some ⟨B2,0,none⟩)])/\Below W.heap.size W w') (first|assumption|exact⟨c5',c6',br.drew⟩) (first|(go_at_call 211;obtain ⟨hq1,hq2,hq3⟩:(_/\_/\Below W.heap.size W _):=(by assumption);refine two_meas H1.o H2.o _ _ (by first|exact .inl ⟨rfl,rfl⟩|exact .inr ⟨rfl,rfl⟩) _ hq3 p hp _ ?_;intro wq hbq;have hQ:=And.intro (zaa hbq hq1) (And.intro (zaa hbq hq2) (zad hq3 hbq));clear hq1 hq2 hq3 hbq))
 have hfin:Hid (R (.returned (.int .i64 ((min (d p) (s p):Nat):Int))) wq):=HR.o _ hQ.2.2
 clear HR H1 H2 hQ
 go_wp2_with fail
 all_goals
  refine zci hfin.o ?_
  congr 1
  omega
theorem surplus_meas (B5 B6 B1 B2:Nat)(D:Nat->Prop)(d s:Nat->Nat)(w:World)(c5:w.cell? ⟨B5,0,none⟩=some (dfv B1))(c6:w.cell? ⟨B6,0,none⟩=some (dfv B2))(hd: ∀p,d p<=1000000000)(hs: ∀p,s p<=1000000000)
  (h1:Meas w 211 #[.pointer (some ⟨B1,0,none⟩)] D (fun p=>(d p:Nat)))(h2:Meas w 211 #[.pointer (some ⟨B2,0,none⟩)] D (fun p=>(s p:Nat))):
  Meas w 194 #[.pointer (some ⟨B5,0,none⟩),.pointer (some ⟨B6,0,none⟩)] D (sur d s):=by
 intro W hW p hp R hR
 have HR:=zl hR
 have H1:=zl (h1.ext hW)
 have H2:=zl (h2.ext hW)
 have hdp:=hd p
 have hsp:=hs p
 have c5':=zaa hW c5
 have c6':=zaa hW c6
 clear hR h1 h2 c5 c6 hW hd hs
 unfold dfv at *
 show Calls Tryz.prog 194 #[.int .i64 (p:Nat),.pointer (some ⟨B5,0,none⟩),.pointer (some ⟨B6,0,none⟩)] W R
 go_enter Tryz.func194,Tryz.ntmps194
 go_wp2_with fail
 go_region_held3 (fun w'=>w'.cell? ⟨B5,0,none⟩=some (Value.func (Fn.func 211) #[] #[Value.pointer (some ⟨B1,0,none⟩)])/\w'.cell? ⟨B6,0,none⟩=some (Value.func (Fn.func 211) #[] #[Value.pointer (some ⟨B2,0,none⟩)])/\Below W.heap.size W w') (first|assumption|exact⟨c5',c6',br.drew⟩) (first|(go_at_call 211;obtain ⟨hq1,hq2,hq3⟩:(_/\_/\Below W.heap.size W _):=(by assumption);refine two_meas H1.o H2.o _ _ (by first|exact .inl ⟨rfl,rfl⟩|exact .inr ⟨rfl,rfl⟩) _ hq3 p hp _ ?_;intro wq hbq;have hQ:=And.intro (zaa hbq hq1) (And.intro (zaa hbq hq2) (zad hq3 hbq));clear hq1 hq2 hq3 hbq))
 have hfin:Hid (R (.returned (.int .i64 (sur d s p))) wq):=HR.o _ hQ.2.2
 clear HR H1 H2 hQ
 go_wp2_with fail
 refine zci hfin.o ?_
 unfold sur
 first|rfl|(congr 1;rw[zjw _ (by omega) (by omega)])|(congr 1;simp;omega)
theorem negvol_meas (B7 B5 B6:Nat)(D:Nat->Prop)(f:Nat->Nat)(w:World)(c7:w.cell? ⟨B7,0,none⟩=some (.func (.func 193) #[] #[.pointer (some ⟨B5,0,none⟩),.pointer (some ⟨B6,0,none⟩)]))(hf: ∀p,f p<=1000000000)
  (h1:Meas w 193 #[.pointer (some ⟨B5,0,none⟩),.pointer (some ⟨B6,0,none⟩)] D (fun p=>(f p:Nat))):
  Meas w 197 #[.pointer (some ⟨B7,0,none⟩)] D (fun p=> -((f p:Nat):Int)):=by
 intro W hW p hp R hR
 have HR:=zl hR
 have H1:=zl (h1.ext hW)
 have hfp:=hf p
 have c7':=zaa hW c7
 clear hR h1 c7 hW hf
 show Calls Tryz.prog 197 #[.int .i64 (p:Nat),.pointer (some ⟨B7,0,none⟩)] W R
 go_enter Tryz.func197,Tryz.ntmps197
 go_wp2_with fail
 refine H1.o _ br p hp _ ?_
 intro W' hb
 have hfin:Hid (R (.returned (.int .i64 (-((f p:Nat):Int)))) W'):=HR.o _ hb
 clear HR H1 hb
 dsimp only
 go_wp2_with fail
 exact hfin.o
theorem odd_meas (B8 B5 B6:Nat)(D:Nat->Prop)(f:Nat->Int)(w:World)(c8:w.cell? ⟨B8,0,none⟩=some (.func (.func 194) #[] #[.pointer (some ⟨B5,0,none⟩),.pointer (some ⟨B6,0,none⟩)]))(hf: ∀p,-1000000000<=f p/\f p<=1000000000)
  (h1:Meas w 194 #[.pointer (some ⟨B5,0,none⟩),.pointer (some ⟨B6,0,none⟩)] D f):
  Meas w 198 #[.pointer (some ⟨B8,0,none⟩)] D (fun p=>max (f p-0) (0-f p)):=by
 intro W hW p hp R hR
 have HR:=zl hR
 have H1:=zl (h1.ext hW)
 have hfp:=hf p
 have c8':=zaa hW c8
 clear hR h1 c8 hW hf
 show Calls Tryz.prog 198 #[.int .i64 (p:Nat),.pointer (some ⟨B8,0,none⟩)] W R
 go_enter Tryz.func198,Tryz.ntmps198
 go_wp2_with fail
 refine H1.o _ br p hp _ ?_
 intro W' hb
 have hfin:Hid (R (.returned (.int .i64 (max (f p-0) (0-f p)))) W'):=HR.o _ hb
 clear HR H1 hb
 go_wp2_with fail
 refine zja _ _ _ _ (by omega) (by omega) (by omega) (by omega) ?_
 go_wp2_with fail
 exact zci hfin.o (by simp)
theorem near_meas (B5 ref:Nat)(w:World)(c5:w.cell? ⟨B5,0,none⟩=some (.int .i64 (ref:Nat)))(hr:ref<=4294967295):
  Meas w 215 #[.pointer (some ⟨B5,0,none⟩)] (fun p=>p<=4294967295) (fun p=>max ((p:Int)-ref) ((ref:Int)-p)):=by
 intro W hW p hp R hR
 have HR:=zl hR
 have c5':=zaa hW c5
 have hp':p<=4294967295:=hp
 clear hR c5 hW hp
 show Calls Tryz.prog 215 #[.int .i64 (p:Nat),.pointer (some ⟨B5,0,none⟩)] W R
 go_enter Tryz.func215,Tryz.ntmps215
 go_wp2_with fail
 refine zja _ _ _ _ (by omega) (by omega) (by omega) (by omega) ?_
 go_wp2_with fail
 exact HR.o _ br
end
section
open Go.RowKit Go.Shelf
def nv (p:Nat):Value:= .int .i64 (p:Nat)
theorem Tryz.infoInt:(Tryz.prog.info? 3).map (fun i=>(i.zero,i.size,i.bytes))=some (some (.int .i64 0),1,8):=by kernel_rfl
theorem zih {w:World}{v:Value}{ps:List Nat}{B:Nat}(h:w.ownsRow B 3 1 v ps.length (ps.map nv)): ∃a cap,v= .slice a ps.length cap/\ ∀k,k<ps.length-> ∃g,a=some ⟨g,0,none⟩/\w.cell? ⟨g,k,none⟩=some (.int .i64 (qat ps k:Nat)):=by
 rcases h.2 with ⟨h1,h2⟩|⟨g,cap,cur,h1,h2,h3,h4,h5,h6,h7⟩
 .exact⟨none,0,by rw[h1,h2],fun k hk=>by omega⟩
 .refine⟨_,cap,h1,fun k hk=>⟨g,rfl,?_⟩⟩
  rw[cell_of_row w g k cur 3 (0,0) h3]
  have hq:(ps.map nv)[k]?=some (.int .i64 (qat ps k:Nat)):=by
   unfold qat nv
   simp[List.getD_eq_getElem?_getD,hk]
  rw[←h7,List.getElem?_take] at hq
  split at hq
  .simpa using hq
  .cases hq
theorem zkr (g:Nat)(lb:Array Value)(eg: ∀args w,(callFunc g args).run Tryz.prog w= .ok (.enter g args) w)(D:Nat->Prop)(f:Nat->Int)(v:Value)(ps:List Nat)(B:Nat)(w:World)(R:EW)(hf:Meas w g lb D f)(hD: ∀p∈ps,D p)
  (hb: ∀p∈ps,-9223372036854775808<=f p/\f p<=9223372036854775807)(hn:ps.length<=4194304)(h:w.ownsRow B 3 1 v ps.length (ps.map nv))
  (hR: ∀v' w',Below w.heap.size w w'->w'.ownsRow w.heap.size 3 1 v' (za5 f ps).length ((za5 f ps).map nv)->R (.returned v') w'):
  Calls Tryz.prog 195 #[v,.func (.func g) #[] lb] w R:=by
 have HR:=zl hR
 have HF:=zl hf
 have HD:=zl hD
 have HB:=zl hb
 obtain ⟨a,cap,rfl,hc⟩:=zih h
 have HC:=zl hc
 clear hR hf hD hb h hc
 go_enter Tryz.func195,Tryz.ntmps195
 go_wp2_with fail
 go_loopw [5,6,12] (fun kept low i wr=> ∃k:Nat,k<=ps.length/\i= .int .i64 k/\low= .int .i64 (zd9 f (ps.take k))/\Below w.heap.size w wr/\wr.ownsRow w.heap.size 3 1 kept (za5 f (ps.take k)).length ((za5 f (ps.take k)).map nv)) (fun _ _ i _=>ps.length-(intOf i).toNat)
 case atStart=>exact⟨0,Nat.zero_le _,rfl,rfl,br,World.ownsRow_nil _ _ _ _⟩
 case round=>
  obtain ⟨k,hk,rfl,rfl,hBr,hown⟩:=hrel
  by_cases hlt:k<ps.length
  .obtain ⟨ga,rfl,hcell⟩:=HC.o k hlt
   have hx:qat ps k∈ps:=zbk ps k hlt
   have hcell':=zaa hBr hcell
   have hsn:=zag ps k (qat ps k) (zfa ps k hlt)
   generalize qat ps k=x at *
   have hbx:=HB.o x hx
   have hlow:=zgo f (ps.take k) x
   have hlb:=(zhs f (ps.take k)).1
   have HS:=zl hsn
   have HL:=zl hlow
   have HO:Hid _:=hown
   have HBr:=zl hBr
   have hsz:w.heap.size<=wr.heap.size:=hBr.size
   clear hsn hlow hown hBr hcell
   go_wp2_with fail
   refine HF.o _ HBr.o x (HD.o x hx) _ ?_
   intro W' hbW
   have HO':Hid (W'.ownsRow w.heap.size 3 1 u5 (za5 f (ps.take k)).length ((za5 f (ps.take k)).map nv)):=zbe HO.o hbW
   have HBW:Hid (Below w.heap.size w W'):=HBr.o.trans (hbW.mono hsz)
   have hsz':w.heap.size<=W'.heap.size:=HBW.o.size
   have hcnt:(za5 f (ps.take k)).length<=4194304:=by
    have:=List.length_filter_le (fun p=>decide (f p=zd9 f (ps.take k))) (ps.take k)
    unfold za5
    have:=List.length_take_le k ps
    omega
   clear HO HBr hbW hcell' hsz
   generalize hfx:f x=fx at *
   have HX:=zl hfx
   generalize hlo:zd9 f (ps.take k)=lo at *
   have HLo:=zl hlo
   clear hfx hlo
   by_cases hl1:fx<lo
   .have E1:Hid (zd9 f (ps.take (k+1))=fx):=(by rw[HS.o,HL.o,if_pos hl1]:zd9 f (ps.take (k+1))=fx)
    have E2:Hid (za5 f (ps.take (k+1))=[x]):=(by rw[HS.o,zim _ _ _ (by rw[HX.o,HLo.o];exact hl1)]:za5 f (ps.take (k+1))=[x])
    have hnil:W'.ownsRow w.heap.size 3 1 (.slice none 0 0) 0 []:=World.ownsRow_nil _ _ _ _
    go_wp2_with (first|(at_builtin;go_must (refine za7 w.heap.size 1 8 0 _ _ _ hnil hsz' Tryz.infoInt rfl (by decide) rfl ?c2 ?c3 (by decide) _ _ 26 Tryz.underlying26 rfl rfl rfl rfl ?_))|go_in)
    case c2=>rfl
    case c3=>omega
    intro v1 w1 hG1
    have G:=zl (hG1.own)
    have GB:=zl (HBW.o.trans (hG1.below hsz' (fun g e=>by cases e)))
    clear hG1 hnil
    go_wp2_with fail
    go_roundw
    case rel=>exact⟨k+1,by omega,by go_num,by rw[E1.out],GB.out,by rw[E2.out];exact G.out⟩
    case measure=>simp[intOf];omega
   .by_cases hl2:fx=lo
    .have E1:Hid (zd9 f (ps.take (k+1))=lo):=(by rw[HS.o,HL.o,if_neg hl1]:zd9 f (ps.take (k+1))=lo)
     have E2:Hid (za5 f (ps.take (k+1))=za5 f (ps.take k)++[x]):=(by rw[HS.o,zik _ _ _ (by rw[HX.o,HLo.o];exact hl2)]:za5 f (ps.take (k+1))=za5 f (ps.take k)++[x])
     subst hl2
     go_wp2_with (first|(at_builtin;go_must (refine za7 w.heap.size 1 8 (za5 f (ps.take k)).length _ _ _ HO'.o hsz' Tryz.infoInt rfl (by decide) rfl ?c2 ?c3 (by decide) _ _ 26 Tryz.underlying26 rfl rfl rfl rfl ?_))|go_in)
     case c2=>rfl
     case c3=>omega
     intro v1 w1 hG1
     have G:=zl (hG1.own)
     have GB:=zl (HBW.o.trans (hG1.below hsz' (fun g e=>(HO'.o.lt g e).1)))
     clear hG1
     go_wp2_with fail
     go_roundw
     case rel=>exact⟨k+1,by omega,by go_num,by rw[E1.out],GB.out,by rw[E2.out];simpa [nv] using G.out⟩
     case measure=>simp[intOf];omega
    .have E1:Hid (zd9 f (ps.take (k+1))=lo):=(by rw[HS.o,HL.o,if_neg hl1]:zd9 f (ps.take (k+1))=lo)
     have E2:Hid (za5 f (ps.take (k+1))=za5 f (ps.take k)):=(by rw[HS.o,zil _ _ _ (by rw[HX.o,HLo.o];omega)]:za5 f (ps.take (k+1))=za5 f (ps.take k))
     have hl3:(fx==lo)=false:=by simp;omega
     go_wp2_with fail
     go_roundw
     case rel=>exact⟨k+1,by omega,by go_num,by rw[E1.out],HBW.o,by rw[E2.out];exact HO'.o⟩
     case measure=>simp[intOf];omega
  .obtain rfl:k=ps.length:=by omega
   rw[List.take_length] at hown
   have hfin:Hid (R (.returned u5) wr):=HR.o _ _ hBr hown
   clear hown hBr
   go_wp2_with fail
   exact hfin.o
theorem slMin_row (v:Value)(ps:List Nat)(B:Nat)(w:World)(R:EW)(hn:ps.length<=4194304)(hne:0<ps.length)(h:w.ownsRow B 3 1 v ps.length (ps.map nv))(hbd: ∀p∈ps,p<=4294967295)
  (hR: ∀m:Nat,m∈ps->(∀q∈ps,m<=q)->R (.returned (.int .i64 (m:Nat))) w):
  Calls Tryz.prog 213 #[v] w R:=by
 have HR:=zl hR
 have HB:=zl hbd
 obtain ⟨a,cap,rfl,hc⟩:=zih h
 have HC:=zl hc
 obtain ⟨g,rfl,c0⟩:=hc 0 hne
 have h1n:(1:Int)<=(ps.length:Int):=by omega
 clear hR hbd h hc
 go_enter Tryz.func213,Tryz.ntmps213
 go_wp2_with fail
 go_loop [3,4] (fun t i=> ∃k m:Nat,1<=k/\k<=ps.length/\i= .int .i64 k/\t= .int .i64 m/\m∈ps.take k/\ ∀q∈ps.take k,m<=q) (fun _ i=>ps.length-(intOf i).toNat)
 case atStart=>
  have e:=zag ps 0 (qat ps 0) (zfa ps 0 hne)
  simp only[List.take_zero,List.nil_append,Nat.zero_add] at e
  exact⟨1,qat ps 0,by omega,by omega,rfl,rfl,by rw[e];simp,by rw[e];simp⟩
 case round=>
  obtain ⟨k,m,hk1,hk,rfl,rfl,hm,hall⟩:=hrel
  have HM:=zl2 hm hall
  clear hm hall
  by_cases hlt:k<ps.length
  .obtain ⟨g',hg',hcell⟩:=HC.o k hlt
   simp only[Option.some.injEq,Addr.mk.injEq] at hg'
   obtain ⟨rfl,_,_⟩:=hg'
   have HS:Hid (ps.take (k+1)=ps.take k++[qat ps k]):=zag ps k (qat ps k) (zfa ps k hlt)
   have hx:=HB.o _ (zbk ps k hlt)
   have hmb:=HB.o m (List.mem_of_mem_take HM.o.1)
   generalize qat ps k=x at *
   clear c0
   by_cases hc:(x:Int)<m
   .go_wp2_with fail
    go_round
    case rel=>
     refine⟨k+1,x,by omega,by omega,by go_num,by first|rfl|simp,?_,?_⟩
     .rw[HS.o];simp
     .rw[HS.o]
      intro q hq
      simp only[List.mem_append,List.mem_singleton] at hq
      rcases hq with hq|rfl
      .have:=HM.o.2 q hq;omega
      .omega
    case measure=>simp[intOf];omega
   .go_wp2_with fail
    go_round
    case rel=>
     refine⟨k+1,m,by omega,by omega,by go_num,by first|rfl|simp,?_,?_⟩
     .rw[HS.o];simp[HM.o.1]
     .rw[HS.o]
      intro q hq
      simp only[List.mem_append,List.mem_singleton] at hq
      rcases hq with hq|rfl
      .have:=HM.o.2 q hq;omega
      .omega
    case measure=>simp[intOf];omega
  .obtain rfl:k=ps.length:=by omega
   have hM:=HM.o
   rw[List.take_length] at hM
   have hfin:=zl (HR.o m hM.1 hM.2)
   clear hM
   go_wp2_with fail
   exact hfin.o
theorem slMax_row (v:Value)(ps:List Nat)(B:Nat)(w:World)(R:EW)(hn:ps.length<=4194304)(hne:0<ps.length)(h:w.ownsRow B 3 1 v ps.length (ps.map nv))(hbd: ∀p∈ps,p<=4294967295)
  (hR: ∀m:Nat,m∈ps->(∀q∈ps,q<=m)->R (.returned (.int .i64 (m:Nat))) w):
  Calls Tryz.prog 214 #[v] w R:=by
 have HR:=zl hR
 have HB:=zl hbd
 obtain ⟨a,cap,rfl,hc⟩:=zih h
 have HC:=zl hc
 obtain ⟨g,rfl,c0⟩:=hc 0 hne
 have h1n:(1:Int)<=(ps.length:Int):=by omega
 clear hR hbd h hc
 go_enter Tryz.func214,Tryz.ntmps214
 go_wp2_with fail
 go_loop [3,4] (fun t i=> ∃k m:Nat,1<=k/\k<=ps.length/\i= .int .i64 k/\t= .int .i64 m/\m∈ps.take k/\ ∀q∈ps.take k,q<=m) (fun _ i=>ps.length-(intOf i).toNat)
 case atStart=>
  have e:=zag ps 0 (qat ps 0) (zfa ps 0 hne)
  simp only[List.take_zero,List.nil_append,Nat.zero_add] at e
  exact⟨1,qat ps 0,by omega,by omega,rfl,rfl,by rw[e];simp,by rw[e];simp⟩
 case round=>
  obtain ⟨k,m,hk1,hk,rfl,rfl,hm,hall⟩:=hrel
  have HM:=zl2 hm hall
  clear hm hall
  by_cases hlt:k<ps.length
  .obtain ⟨g',hg',hcell⟩:=HC.o k hlt
   simp only[Option.some.injEq,Addr.mk.injEq] at hg'
   obtain ⟨rfl,_,_⟩:=hg'
   have HS:Hid (ps.take (k+1)=ps.take k++[qat ps k]):=zag ps k (qat ps k) (zfa ps k hlt)
   have hx:=HB.o _ (zbk ps k hlt)
   have hmb:=HB.o m (List.mem_of_mem_take HM.o.1)
   generalize qat ps k=x at *
   clear c0
   by_cases hc:(m:Int)<x
   .go_wp2_with fail
    go_round
    case rel=>
     refine⟨k+1,x,by omega,by omega,by go_num,by first|rfl|simp,?_,?_⟩
     .rw[HS.o];simp
     .rw[HS.o]
      intro q hq
      simp only[List.mem_append,List.mem_singleton] at hq
      rcases hq with hq|rfl
      .have:=HM.o.2 q hq;omega
      .omega
    case measure=>simp[intOf];omega
   .go_wp2_with fail
    go_round
    case rel=>
     refine⟨k+1,m,by omega,by omega,by go_num,by first|rfl|simp,?_,?_⟩
     .rw[HS.o];simp[HM.o.1]
     .rw[HS.o]
      intro q hq
      simp only[List.mem_append,List.mem_singleton] at hq
      rcases hq with hq|rfl
      .have:=HM.o.2 q hq;omega
      .omega
    case measure=>simp[intOf];omega
  .obtain rfl:k=ps.length:=by omega
   have hM:=HM.o
   rw[List.take_length] at hM
   have hfin:=zl (HR.o m hM.1 hM.2)
   clear hM
   go_wp2_with fail
   exact hfin.o
theorem choose_row (g:Nat)(lb:Array Value)(eg: ∀args w,(callFunc g args).run Tryz.prog w= .ok (.enter g args) w)(d s:Nat->Nat)(v:Value)(ps:List Nat)(B ref:Nat)(w:World)(R:EW)(hf:Meas w g lb (fun p=>p<=4294967295) (sur d s))
  (hb: ∀p,-1000000000<=sur d s p/\sur d s p<=1000000000)(hn:ps.length<=4194304)(hne:0<ps.length)(h:w.ownsRow B 3 1 v ps.length (ps.map nv))(hbd: ∀p∈ps,p<=4294967295)(href:ref<=4294967295)
  (hR: ∀lo hi w',(lo∈ps/\ ∀q∈ps,lo<=q)->(hi∈ps/\ ∀q∈ps,q<=hi)->Below w.heap.size w w'->R (.returned (.int .i64 (zjb d s ref lo hi ps:Nat))) w'):
  Calls Tryz.prog 200 #[v,.func (.func g) #[] lb,.int .i64 (ref:Nat)] w R:=by
 have HR:=zl hR
 have hb0:=zac w (.cells #[.int .i64 (ref:Nat)] 3)
 have HF:=zl (hf.ext hb0)
 have HB:=zl hbd
 have HBs:=zl hb
 have HO:Hid ((w.alloc (.cells #[.int .i64 (ref:Nat)] 3)).ownsRow B 3 1 v ps.length (ps.map nv)):=zbe h hb0
 have HB0:=zl hb0
 have HN:Hid (Meas (w.alloc (.cells #[.int .i64 (ref:Nat)] 3)) 215 #[.pointer (some ⟨w.heap.size,0,none⟩)] (fun p=>p<=4294967295) (fun p=>max ((p:Int)-ref) ((ref:Int)-p))):=near_meas w.heap.size ref _ (Vb.new w _ _).cell href
 obtain ⟨a,cap,rfl,_⟩:=zih h
 clear hR hf hb hbd hb0 h
 go_enter Tryz.func200,Tryz.ntmps200
 go_wp2_with fail
 generalize w.alloc (.cells #[.int .i64 (ref:Nat)] 3)=W1 at *
 refine slMin_row _ ps B _ _ hn hne HO.o HB.o ?_
 intro lo hlo1 hlo2
 have HLo:=zl2 hlo1 hlo2
 clear hlo1 hlo2
 go_wp2_with fail
 refine slMax_row _ ps B _ _ hn hne HO.o HB.o ?_
 intro hi hhi1 hhi2
 have HHi:=zl2 hhi1 hhi2
 clear hhi1 hhi2
 go_wp2_with fail
 refine HF.o _ br hi (HB.o hi HHi.o.1) _ ?_
 intro W2 hb2
 have hs2:=HBs.o hi
 have HR':Hid (∀w',Below w.heap.size w w'->R (.returned (.int .i64 (zjb d s ref lo hi ps:Nat))) w'):=fun w' hb=>HR.o lo hi w' HLo.o HHi.o hb
 have HB2:Hid (Below w.heap.size w W2):=zad HB0.o hb2
 have Hb2:=zl hb2
 unfold zjb at HR'
 clear hb2 HR
 by_cases hpos:0<sur d s hi
 .rw[if_pos hpos] at HR'
  generalize sur d s hi=sh at *
  go_wp2_with fail
  exact HR'.o _ HB2.o
 .rw[if_neg hpos] at HR'
  generalize sur d s hi=sh at *
  go_wp2_with fail
  refine HF.o _ Hb2.o lo (HB.o lo HLo.o.1) _ ?_
  intro W3 hb3
  have hs3:=HBs.o lo
  have HB3:Hid (Below w.heap.size w W3):=zad HB2.o hb3
  have Hb3:Hid (Below W1.heap.size W1 W3):=zad Hb2.o hb3
  clear hb3 HB2 Hb2
  by_cases hneg:sur d s lo<0
  .rw[if_pos hneg] at HR'
   generalize sur d s lo=sl at *
   go_wp2_with fail
   exact HR'.o _ HB3.o
  .rw[if_neg hneg] at HR'
   generalize sur d s lo=sl at *
   go_wp2_with fail
   refine zkr 215 #[.pointer (some ⟨w.heap.size,0,none⟩)] (enters_of Tryz.func215 (by kernel_rfl) rfl) (fun p=>p<=4294967295) (fun p=>max ((p:Int)-ref) ((ref:Int)-p)) _ ps B _ _ (HN.o.ext Hb3.o) HB.o (fun p hp=>by have:=HB.o p hp;omega) hn (zbe HO.o Hb3.o) ?_
   intro v' W4 hb4 hown4
   have hne4:=zgp (fun p:Nat=>max ((p:Int)-ref) ((ref:Int)-p)) ps (fun p hp=>by have:=HB.o p hp;omega) (fun e=>by rw[e] at hne;simp at hne)
   obtain ⟨a4,cap4,rfl,hc4⟩:=zih hown4
   have HB4:Hid (Below w.heap.size w W4):=zad HB3.o hb4
   clear hb4 hown4
   generalize za5 (fun p:Nat=>max ((p:Int)-ref) ((ref:Int)-p)) ps=L4 at *
   have hlen:0<L4.length:=by
    cases L4 with
    |nil=>exact absurd rfl hne4
    |cons a l=>simp
   obtain ⟨g4,rfl,c4⟩:=hc4 0 hlen
   have e4:qat L4 0=L4.headD 0:=by
    cases L4 with
    |nil=>rfl
    |cons a l=>rfl
   rw[e4] at c4
   clear hc4 e4
   generalize L4.headD 0=h4 at *
   go_wp2_with fail
   exact HR'.o _ HB4.o
end
