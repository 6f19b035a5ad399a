import Derived.Test.YtmiiejinahnpkaaGreatDoorXNsNt
import Derived.Test.YtmiiejinahnpkaaGreatDoorNj
namespace Go.Proofs.YtmiiejinahnpkaaGreatDoor
section
theorem dep_sub (ph:Nat)(l:List Od)(s p q:Nat)(h: ∀o∈l,zdq ph s p o=true->zdq ph s q o=true):dep ph l s p<=dep ph l s q:=by
 induction l with
 |nil=>exact nr
 |cons a l ih=>
  rw[zjz,zjz]
  have h1:=ih (fun o ho=>h o (List.mem_cons_of_mem _ ho))
  by_cases hp:zdq ph s p a=true
  .rw[if_pos hp,if_pos (h a List.mem_cons_self hp)]
   omega
  .rw[if_neg hp]
   omega
theorem mem_cnd {ph R:Nat}{l:List Od}{o:Od}(ho:o∈l)(h:inCnd ph o=true):o.price∈cnd ph R l:=
 List.mem_cons_of_mem _ (List.mem_map_of_mem (List.mem_filter.2 ⟨ho,h⟩))
theorem vof_up {ph R p:Nat}{l:List Od}(h:p∉cnd ph R l):vof ph l p<=vof ph l (p+1):=by
 have h1:dep ph l 1 p<=dep ph l 1 (p+1):=dep_sub ph l 1 p (p+1) fun o ho hd=>by
  unfold zdq tk at hd ⊢
  simp only[Bool.and_eq_true,beq_iff_eq,Bool.or_eq_true] at hd ⊢
  obtain ⟨h1,h2,h3⟩:=hd
  rw[if_pos h3] at h2 ⊢
  refine⟨h1,?_,h3⟩
  by_cases hp:pl o=true
  .exact .inl hp
  .right
   have:o.price≠p:=fun e=>h (e▸mem_cnd ho (by unfold inCnd;simp[h1,hp]))
   rcases h2 with h2|h2
   .exact absurd h2 hp
   .simp only[decide_eq_true_eq] at h2 ⊢
    omega
 have h2:=zhv ph l p (p+1) (Nat.le_succ _)
 unfold vof
 omega
theorem vof_down {ph R p:Nat}{l:List Od}(h:p+1∉cnd ph R l):vof ph l (p+1)<=vof ph l p:=by
 have h1:dep ph l 2 (p+1)<=dep ph l 2 p:=dep_sub ph l 2 (p+1) p fun o ho hd=>by
  unfold zdq tk at hd ⊢
  simp only[Bool.and_eq_true,beq_iff_eq,Bool.or_eq_true] at hd ⊢
  obtain ⟨h1,h2,h3⟩:=hd
  rw[if_neg (by omega)] at h2 ⊢
  refine⟨h1,?_,h3⟩
  by_cases hp:pl o=true
  .exact .inl hp
  .right
   have:o.price≠p+1:=fun e=>h (e▸mem_cnd ho (by unfold inCnd;simp[h1,hp]))
   rcases h2 with h2|h2
   .exact absurd h2 hp
   .simp only[decide_eq_true_eq] at h2 ⊢
    omega
 have h2:=zk6 ph l p (p+1) (Nat.le_succ _)
 unfold vof
 omega
theorem most_all (ph R:Nat)(l:List Od)(p:Nat):vof ph l p<=zcn ph R l:=by
 have hc: ∀p∈cnd ph R l,vof ph l p<=zcn ph R l:=(zg2 (vof ph l) (cnd ph R l)).2
 have hR:R∈cnd ph R l:=List.mem_cons_self
 have up: ∀d p,p+d=R->vof ph l p<=zcn ph R l:=by
  intro d
  induction d with
  |zero=>intro p hp;exact hc p (by rw[show p=R by omega];exact hR)
  |succ d ih=>
   intro p hp
   by_cases h:p∈cnd ph R l
   .exact hc p h
   .exact llt (vof_up h) (ih (p+1) (by omega))
 have down: ∀d,vof ph l (R+d)<=zcn ph R l:=by
  intro d
  induction d with
  |zero=>exact hc R hR
  |succ d ih=>
   by_cases h:R+d+1∈cnd ph R l
   .exact hc _ h
   .exact llt (vof_down h) ih
 by_cases h:p<=R
 .exact up (R-p) p (by omega)
 .have:=down (p-R)
  rwa[show R+(p-R)=p by omega] at this
theorem dep_less (ph:Nat)(l:List Od)(i n s q:Nat)(hi:i<l.length)(hd:zdq ph s q (nth l i)=true)(hn:n<=(nth l i).rest):dep ph (zaf l i ((nth l i).rest-n)) s q+n<=dep ph l s q:=by
 unfold zaf
 induction l generalizing i with
 |nil=>simp at hi
 |cons a l ih=>
  cases i with
  |zero=>
   have e:nth (a::l) 0=a:=rfl
   rw[e] at hd hn ⊢
   simp only[List.modify_zero_cons,zjz]
   rw[if_pos hd]
   split
   .show a.rest-n+_+n<=_
    omega
   .omega
  |succ i=>
   have e:nth (a::l) (i+1)=nth l i:=rfl
   rw[e] at hd hn ⊢
   have:=ih i (by simpa using hi) hd hn
   simp only[List.modify_succ_cons,zjz]
   omega
theorem dep_mem (ph:Nat)(l:List Od)(i s q:Nat)(hi:i<l.length)(hd:zdq ph s q (nth l i)=true):(nth l i).rest<=dep ph l s q:=by
 have:=dep_less ph l i (nth l i).rest s q hi hd nr
 omega
theorem dep_some (ph:Nat)(l:List Od)(s q:Nat)(h:0<dep ph l s q): ∃j,j<l.length/\zdq ph s q (nth l j)=true:=by
 induction l with
 |nil=>simp[dep] at h
 |cons a l ih=>
  rw[zjz] at h
  by_cases ha:zdq ph s q a=true
  .exact⟨0,by simp,ha⟩
  .rw[if_neg ha] at h
   obtain ⟨j,hj,hd⟩:=ih (by omega)
   exact⟨j+1,by simpa using hj,hd⟩
theorem inDep_iff {ph s q:Nat}{o:Od}:zdq ph s q o=true↔bk ph o=true/\tk o q=true/\o.side=s:=by
 unfold zdq
 simp[Bool.and_eq_true]
theorem tk_same {a b:Od}(h1:b.side=a.side)(h2:b.typ=a.typ)(h3:b.price=a.price)(q:Nat):tk b q=tk a q:=by
 unfold tk pl
 rw[h1,h2,h3]
theorem bk_shape {ph:Nat}{a b:Od}(h2:b.typ=a.typ)(hb:bk ph b=true)(hr:b.rest<=a.rest):bk ph a=true:=by
 unfold bk wt at *
 rw[h2] at hb
 simp only[Bool.and_eq_true,decide_eq_true_eq] at *
 exact⟨by omega,hb.2⟩
theorem bk_live {ph:Nat}{a b:Od}(h2:b.typ=a.typ)(hb:bk ph a=true)(hr:0<b.rest):bk ph b=true:=by
 unfold bk wt at *
 rw[h2]
 simp only[Bool.and_eq_true,decide_eq_true_eq] at *
 exact⟨hr,hb.2⟩
theorem ahead_tk {a b:Od}(ha:okOd a)(hb:okOd b)(hs:a.side=b.side)(i k q:Nat)(h:zcy a b i k=true)(hq:q<=9223372036854775807)(ht:tk b q=true):tk a q=true:=by
 rw[←tkP_eq ha q hq]
 rw[←tkP_eq hb q hq] at ht
 unfold tkP at *
 rcases ha.side with s|s
 .rw[zda ha hb s (by omega)] at h
  rw[if_pos s]
  rw[if_pos (by omega)] at ht
  simp only[decide_eq_true_eq] at *
  omega
 .rw[zcr ha hb s (by omega)] at h
  rw[if_neg (by omega)]
  rw[if_neg (by omega)] at ht
  simp only[decide_eq_true_eq] at *
  omega
structure Xd (m m':Mk) (p v:Nat):Prop where
 cut:Cut m.all m'.all
 phase:m'.phase=m.phase
 vol: ∀s q,s=1\/s=2->(∀j,j<m.all.length->(nth m'.all j).rest<(nth m.all j).rest->(nth m.all j).side=s->tk (nth m.all j) q=true)->dep m.phase m'.all s q+v<=dep m.phase m.all s q
 pri: ∀i k,i<m.all.length->k<m.all.length->(nth m.all i).side=(nth m.all k).side->bk m.phase (nth m.all i)=true->zcy (nth m.all i) (nth m.all k) i k=true->(nth m'.all k).rest<(nth m.all k).rest->(nth m'.all i).rest=0
 bkk: ∀k,k<m.all.length->(nth m'.all k).rest<(nth m.all k).rest->bk m.phase (nth m.all k)=true/\tk (nth m.all k) p=true
theorem Xd.refl (m:Mk)(p:Nat):Xd m m p 0:=⟨Cut.refl _,rfl,fun _ _ _ _=>nr,fun _ _ _ _ _ _ _ h=>absurd h (Nat.lt_irrefl _),fun _ _ h=>absurd h (Nat.lt_irrefl _)⟩
theorem first_takes {ph:Nat}{l:List Od}{s p:Nat}(hok:zdm l)(hp:p<=9223372036854775807)(hd:0<dep ph l s p): ∃a:Nat,za0 ph l s l.length=a/\a<l.length/\bk ph (nth l a)=true/\(nth l a).side=s/\tk (nth l a) p=true:=by
 obtain ⟨j,hj,hdj⟩:=dep_some ph l s p hd
 obtain ⟨h1,h2,h3⟩:=inDep_iff.1 hdj
 obtain ⟨b,e,hb,hbb,hbs,hor⟩:=firstOf_best ph l s hok l.length nr j hj h1 h3
 refine⟨b,e,hb,hbb,hbs,?_⟩
 rcases hor with rfl|hor
 .exact h2
 .exact ahead_tk (hok b hb) (hok j hj) (by omega) b j p hor hp h2
theorem cross_xd (p f v:Nat)(m:Mk)(hok:zdm m.all)(hp:p<=9223372036854775807)(hf:v<=f)(d1:v<=dep m.phase m.all 1 p)(d2:v<=dep m.phase m.all 2 p):Xd m (zbg p f v m) p v:=by
 induction f generalizing m v with
 |zero=>
  obtain rfl:v=0:=by omega
  exact Xd.refl m p
 |succ f ih=>
  by_cases hv:v=0
  .subst hv
   rw[zey]
   exact Xd.refl m p
  .obtain ⟨a,ea,ha,ba,sa,ta⟩:=first_takes (ph:=m.phase) (s:=1) hok hp (by omega)
   obtain ⟨b,eb,hb,bb,sb,tb⟩:=first_takes (ph:=m.phase) (s:=2) hok hp (by omega)
   rw[zex p f v a b m hv ea eb]
   have ra:=zeb ba
   have rb:=zeb bb
   obtain ⟨n,hn⟩: ∃n,n=min v (min (nth m.all a).rest (nth m.all b).rest):=⟨_,rfl⟩
   rw[←hn]
   have hab:a≠b:=fun e=>by rw[e] at sa;omega
   have hnth:=fun j=>zff m a b n p j ha hb hab
   have hall:=zhi m a b n p ha hab
   have hcut:Cut m.all (za3 m a b n p).all:=by
    rw[hall]
    refine(Cut.setRest m.all a _ ha (Nat.sub_le _ _)).trans (Cut.setRest _ b _ (by rw[zaw];exact hb) ?_)
    rw[zbs _ _ _ _ ha,if_neg (fun e=>hab e.symm)]
    exact Nat.sub_le _ _
   have hph:(za3 m a b n p).phase=m.phase:=rfl
   have dd: ∀s q,s=1\/s=2->dep m.phase m.all s q<=dep m.phase (za3 m a b n p).all s q+n:=fun s q hs=>zc8 m a b n p s q ha hb (by omega) (by omega)
   have d1':=dd 1 p (.inl rfl)
   have d2':=dd 2 p (.inr rfl)
   have X:=ih (v-n) (za3 m a b n p) (hcut.ok hok) (by omega) (by rw[hph];omega) (by rw[hph];omega)
   generalize zbg p f (v-n) (za3 m a b n p)=M at X ⊢
   generalize za3 m a b n p=m1 at *
   have hlen:=hcut.len
   have r1a:(nth m1.all a).rest=(nth m.all a).rest-n:=by rw[hnth,if_pos (.inl rfl)]
   have r1b:(nth m1.all b).rest=(nth m.all b).rest-n:=by rw[hnth,if_pos (.inr rfl)]
   have ro: ∀k,k≠a->k≠b->(nth m1.all k).rest=(nth m.all k).rest:=fun k h1 h2=>by rw[hnth,if_neg (by omega)]
   refine⟨hcut.trans X.cut,X.phase.trans hph,fun s q hs hpr=>?_,fun i k hi hk hsd hbi hah hlt=>?_,fun k hk hlt=>?_⟩
   .have h1:=X.vol s q hs fun j hj hlt hsj=>by
     rw[tk_same (hcut.side j) (hcut.typ j) (hcut.price j)]
     refine hpr j (by omega) (lll hlt (hcut.rest j)) ?_
     rw[←hcut.side j]
     exact hsj
    have h2:dep m.phase m1.all s q+n<=dep m.phase m.all s q:=by
     rw[hall]
     rcases hs with rfl|rfl
     .rw[dep_other _ _ _ _ _ _ (by rw[zbs _ _ _ _ ha,if_neg (fun e=>hab e.symm)];omega)]
      refine dep_less _ _ _ _ _ _ ha (inDep_iff.2 ⟨ba,?_,sa⟩) (by omega)
      have:=X.cut.rest a
      exact hpr a ha (by omega) sa
     .have e:nth (zaf m.all a ((nth m.all a).rest-n)) b=nth m.all b:=by rw[zbs _ _ _ _ ha,if_neg (fun e=>hab e.symm)]
      have h3:=dep_less m.phase (zaf m.all a ((nth m.all a).rest-n)) b n 2 q (by rw[zaw];exact hb) (by
       rw[e]
       have:=X.cut.rest b
       exact inDep_iff.2 ⟨bb,hpr b hb (by omega) sb,sb⟩) (by rw[e];omega)
      rw[e,dep_other m.phase m.all a ((nth m.all a).rest-n) 2 q (by omega)] at h3
      exact h3
    rw[hph] at h1
    omega
   .by_cases h1:(nth M.all k).rest<(nth m1.all k).rest
    .by_cases h2:0<(nth m1.all i).rest
     .refine X.pri i k (by omega) (by omega) (by rw[hcut.side,hcut.side];exact hsd) (by rw[hph];exact bk_live (hcut.typ i) hbi h2) ?_ h1
      rw[zlh (hcut.side i) (hcut.typ i) (hcut.price i) (hcut.typ k) (hcut.price k)]
      exact hah
     .have:=X.cut.rest i
      omega
    .exfalso
     have hkab:k=a\/k=b:=by
      by_cases e1:k=a
      .exact .inl e1
      .by_cases e2:k=b
       .exact .inr e2
       .have:=ro k e1 e2
        omega
     have key: ∀s:Nat,za0 m.phase m.all s m.all.length=k->(nth m.all k).side=s->False:=by
      intro s hfs hks
      obtain ⟨b',e',hb',_,hbs',hor⟩:=firstOf_best m.phase m.all s hok m.all.length nr i hi hbi (by omega)
      rw[hfs] at e'
      obtain rfl:k=b':=by omega
      rcases hor with rfl|hor
      .rw[ahead_irr] at hah
       cases hah
      .exact ahead_not (hok i hi) (hok k hk) hsd i k hah hor
     rcases hkab with rfl|rfl
     .exact key 1 ea sa
     .exact key 2 eb sb
   .by_cases h1:(nth M.all k).rest<(nth m1.all k).rest
    .obtain ⟨q1,q2⟩:=X.bkk k (by omega) h1
     rw[hph] at q1
     refine⟨bk_shape (hcut.typ k) q1 (hcut.rest k),?_⟩
     rw[←tk_same (hcut.side k) (hcut.typ k) (hcut.price k)]
     exact q2
    .by_cases e1:k=a
     .subst e1
      exact⟨ba,ta⟩
     .by_cases e2:k=b
      .subst e2
       exact⟨bb,tb⟩
      .have:=ro k e1 e2
       omega
theorem xd_apart {m m':Mk}{p v R:Nat}(hok:zdm m.all)(X:Xd m m' p v)(hv:v=zcn m.phase R m.all)(i j:Nat)(hi:i<m.all.length)(hj:j<m.all.length)(bi:bk m.phase (nth m'.all i)=true)(bj:bk m.phase (nth m'.all j)=true)
  (si:(nth m.all i).side=1)(sj:(nth m.all j).side=2):(nth m.all i).price<(nth m.all j).price:=by
 refine Nat.lt_of_not_le fun hle=>?_
 have hq:(nth m.all i).price<=9223372036854775807:=llt (hok i hi).price (by decide)
 have key: ∀s x,s=1\/s=2->x<m.all.length->bk m.phase (nth m'.all x)=true->(nth m.all x).side=s->tk (nth m.all x) (nth m.all i).price=true->v+1<=dep m.phase m.all s (nth m.all i).price:=by
  intro s x hs hx bx sx tx
  have rx:=zeb bx
  have bx0:=bk_shape (X.cut.typ x) bx (X.cut.rest x)
  have h1:=X.vol s (nth m.all i).price hs fun k hk hlt hsk=>by
   by_cases e:k=x
   .subst e
    exact tx
   .cases ha:zcy (nth m.all x) (nth m.all k) x k with
    |true=>
     have:=X.pri x k hx hk (by omega) bx0 ha hlt
     omega
    |false=>exact ahead_tk (hok k hk) (hok x hx) (by omega) k x _ (ahead_total (hok x hx) (hok k hk) (by omega) x k (fun e'=>e e'.symm) ha) hq tx
  have h2:=dep_mem m.phase m'.all x s (nth m.all i).price (by rw[X.cut.len];exact hx) (inDep_iff.2 ⟨bx,by rw[tk_same (X.cut.side x) (X.cut.typ x) (X.cut.price x)];exact tx,by rw[X.cut.side];exact sx⟩)
  omega
 have k1:=key 1 i (.inl rfl) hi bi si (by unfold tk;simp[si])
 have k2:=key 2 j (.inr rfl) hj bj sj (by unfold tk;simp[sj,hle])
 have:=most_all m.phase R m.all (nth m.all i).price
 unfold vof at this
 omega
end
section
theorem live_shown {l:List Od}{j:Nat}(hj:j<l.length)(hr:0<(nth l j).rest): ∃i,i<(zfg l).length/\nth (zfg l) i=nth l j:=⟨_,shown_at l j hj hr⟩
theorem shown_from {l:List Od}{i:Nat}(hi:i<(zfg l).length): ∃j,j<l.length/\0<(nth l j).rest/\nth (zfg l) i=nth l j:=by
 obtain ⟨h1,h2⟩:=List.mem_filter.1 (zg1 hi)
 obtain ⟨j,hj,e⟩:=mem_nth h1
 exact⟨j,hj,by rw[e];simpa using h2,e.symm⟩
end
