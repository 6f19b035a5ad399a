import Derived.Test.YtmiiejinahnpkaaGreatDoorXNsNt
import Derived.Test.YtmiiejinahnpkaaGreatDoorNj
namespace Go.Proofs.YtmiiejinahnpkaaGreatDoor
section
theorem dep_sub (ph:Nat)(l:List Od)(s p q:Nat)(h: ∀o∈l,zdq ph s p o=true->zdq ph s q o=true):dep ph l s p<=dep ph l s q:=by
 induction l with
 |nil=>exact nr
 |cons a l ih=>
  rw[zjz,zjz]
  have h1:=ih (fun o ho=>h o (List.mem_cons_of_mem _ ho))
  by_cases hp:zdq ph s p a=true
  .rw[if_pos hp,if_pos (h a List.mem_cons_self hp)]
   omega
  .rw[if_neg hp]
   omega
theorem mem_cnd {ph R:Nat}{l:List Od}{o:Od}(ho:o∈l)(h:inCnd ph o=true):o.price∈cnd ph R l:=
 List.mem_cons_of_mem _ (List.mem_map_of_mem (List.mem_filter.2 ⟨ho,h⟩))
theorem vof_up {ph R p:Nat}{l:List Od}(h:p∉cnd ph R l):vof ph l p<=vof ph l (p+1):=by
 have h1:dep ph l 1 p<=dep ph l 1 (p+1):=dep_sub ph l 1 p (p+1) fun o ho hd=>by
  unfold zdq tk at hd ⊢
  simp only[Bool.and_eq_true,beq_iff_eq,Bool.or_eq_true] at hd ⊢
  obtain ⟨h1,h2,h3⟩:=hd
  rw[if_pos h3] at h2 ⊢
  refine⟨h1,?_,h3⟩
  by_cases hp:pl o=true
  .exact .inl hp
  .right
   have:o.price≠p:=fun e=>h (e▸mem_cnd ho (by unfold inCnd;simp[h1,hp]))
   rcases h2 with h2|h2
   .exact absurd h2 hp
   .simp only[decide_eq_true_eq] at h2 ⊢
    omega
 have h2:=zhv ph l p (p+1) (Nat.le_succ _)
 unfold vof
 omega
theorem vof_down {ph R p:Nat}{l:List Od}(h:p+1∉cnd ph R l):vof ph l (p+1)<=vof ph l p:=by
 have h1:dep ph l 2 (p+1)<=dep ph l 2 p:=dep_sub ph l 2 (p+1) p fun o ho hd=>by
  unfold zdq tk at hd ⊢
  simp only[Bool.and_eq_true,beq_iff_eq,Bool.or_eq_true] at hd ⊢
  obtain ⟨h1,h2,h3⟩:=hd
  rw[if_neg (by omega)] at h2 ⊢
  refine⟨h1,?_,h3⟩
  by_cases hp:pl o=true
  .exact .inl hp
  .right
   have:o.price≠p+1:=fun e=>h (e▸mem_cnd ho (by unfold inCnd;simp[h1,hp]))
   rcases h2 with h2|h2
   .exact absurd h2 hp
   .simp only[decide_eq_true_eq] at h2 ⊢
    omega
 have h2:=zk6 ph l p (p+1) (Nat.le_succ _)
 unfold vof
 omega
theorem most_all (ph R:Nat)(l:List Od)(p:Nat):vof ph l p<=zcn ph R l:=by
 have hc: ∀p∈cnd ph R l,vof ph l p<=zcn ph R l:=(zg2 (vof ph l) (cnd ph R l)).2
 have hR:R∈cnd ph R l:=List.mem_cons_self
 have up: ∀d p,p+d=R->vof ph l p<=zcn ph R l:=by
  intro d
  induction d with
  |zero=>intro p hp;exact hc p (by rw[show p=R by omega];exact hR)
  |succ d ih=>
   intro p hp
   by_cases h:p∈cnd ph R l
   .exact hc p h
   .exact llt (vof_up h) (ih (p+1) (by omega))
 have down: ∀d,vof ph l (R+d)<=zcn ph R l:=by
  intro d
  induction d with
  |zero=>exact hc R hR
  |succ d ih=>
   by_cases h:R+d+1∈cnd ph R l
   .exact hc _ h
   .exact llt (vof_down h) ih
 by_cases h:p<=R
 .exact up (R-p) p (by omega)
 .have:=down (p-R)
  rwa[show R+(p-R)=p by omega] at this
theorem dep_less (ph:Nat)(l:List Od)(i n s q:Nat)(hi:i<l.length)(hd:zdq ph s q (nth l i)=true)(hn:n<=(nth l i).rest):dep ph (zaf l i ((nth l i).rest-n)) s q+n<=dep ph l s q:=by
 unfold zaf
 induction l generalizing i with
 |nil=>simp at hi
 |cons a l ih=>
  cases i with
  |zero=>
   have e:nth (a::l) 0=a:=rfl
   rw[e] at hd hn ⊢
   simp only[List.modify_zero_cons,zjz]
   rw[if_pos hd]
   split
   .show a.rest-n+_+n<=_
    omega
   .omega
  |succ i=>
   have e:nth (a::l) (i+1)=nth l i:=rfl
   rw[e] at hd hn ⊢
   have:=ih i (by simpa using hi) hd hn
   simp only[List.modify_succ_cons,zjz]
   omega
theorem dep_mem (ph:Nat)(l:List Od)(i s q:Nat)(hi:i<l.length)(hd:zdq ph s q (nth l i)=true):(nth l i).rest<=dep ph l s q:=by
 have:=dep_less ph l i (nth l i).rest s q hi hd nr
 omega
theorem dep_some (ph:Nat)(l:List Od)(s q:Nat)(h:0<dep ph l s q): ∃j,j<l.length/\zdq ph s q (nth l j)=true:=by
 induction l with
 |nil=>simp[dep] at h
 |cons a l ih=>
  rw[zjz] at h
  by_cases ha:zdq ph s q a=true
  .exact⟨0,by simp,ha⟩
  .rw[if_neg ha] at h
   obtain ⟨j,hj,hd⟩:=ih (by omega)
   exact⟨j+1,by simpa using hj,hd⟩
theorem inDep_iff {ph s q:Nat}{o:Od}:zdq ph s q o=true↔bk ph o=true/\tk o q=true/\o.side=s:=by
 unfold zdq
 simp[Bool.and_eq_true]
theorem tk_same {a b:Od}(h1:b.side=a.side)(h2:b.typ=a.typ)(h3:b.price=a.price)(q:Nat):tk b q=tk a q:=by
 unfold tk pl
 rw[h1,h2,h3]
theorem bk_shape {ph:Nat}{a b:Od}(h2:b.typ=a.typ)(hb:bk ph b=true)(hr:b.rest<=a.rest):bk ph a=true:=by
 unfold bk wt at *
 rw[h2] at hb
 simp only[Bool.and_eq_true,decide_eq_true_eq] at *
 exact⟨by omega,hb.2⟩
theorem bk_live {ph:Nat}{a b:Od}(h2:b.typ=a.typ)(hb:bk ph a=true)(hr:0<b.rest):bk ph b=true:=by
 unfold bk wt at *
 rw[h2]
 simp only[Bool.and_eq_true,decide_eq_true_eq] at *
 exact⟨hr,hb.2⟩
theorem ahead_tk {a b:Od}(ha:okOd a)(hb:okOd b)(hs:a.side=b.side)(i k q:Nat)(h:zcy a b i k=true)(hq:q<=9223372036854775807)(ht:tk b q=true):tk a q=true:=by
 rw[←tkP_eq ha q hq]
 rw[←tkP_eq hb q hq] at ht
 unfold tkP at *
 rcases ha.side with s|s
 .rw[zda ha hb s (by omega)] at h
  rw[if_pos s]
  rw[if_pos (by omega)] at ht
  simp only[decide_eq_true_eq] at *
  omega
 .rw[zcr ha hb s (by omega)] at h
  rw[if_neg (by omega)]
  rw[if_neg (by omega)] at ht
  simp only[decide_eq_true_eq] at *
  omega
structure Xd (m m':Mk) (p v:Nat):Prop where
 cut:Cut m.all m'.all
 phase:m'.phase=m.phase
 vol: ∀s q,s=1\/s=2->(∀j,j<m.all.length->(nth m'.all j).rest<(nth m.all j).rest->(nth m.all j).side=s->tk (nth m.all j) q=true)->dep m.phase m'.all s q+v<=dep m.phase m.all s q
 pri: ∀i k,i<m.all.length->k<m.all.length->(nth m.all i).side=(nth m.all k).side->bk m.phase (nth m.all i)=true->zcy (nth m.all i) (nth m.all k) i k=true->(nth m'.all k).rest<(nth m.all k).rest->(nth m'.all i).rest=0
 bkk: ∀k,k<m.all.length->(nth m'.all k).rest<(nth m.all k).rest->bk m.phase (nth m.all k)=true/\tk (nth m.all k) p=true
theorem Xd.refl (m:Mk)(p:Nat):Xd m m p 0:=⟨Cut.refl _,rfl,fun _ _ _ _=>nr,fun _ _ _ _ _ _ _ h=>absurd h (Nat.lt_irrefl _),fun _ _ h=>absurd h (Nat.lt_irrefl _)⟩
theorem first_takes {ph:Nat}{l:List Od}{s p:Nat}(hok:zdm l)(hp:p<=9223372036854775807)(hd:0<dep ph l s p): ∃a:Nat,za0 ph l s l.length=a/\a<l.length/\bk ph (nth l a)=true/\(nth l a).side=s/\tk (nth l a) p=true:=by
 obtain ⟨j,hj,hdj⟩:=dep_some ph l s p hd
 obtain ⟨h1,h2,h3⟩:=inDep_iff.1 hdj
 obtain ⟨b,e,hb,hbb,hbs,hor⟩:=firstOf_best ph l s hok l.length nr j hj h1 h3
 refine⟨b,e,hb,hbb,hbs,?_⟩
 rcases hor with rfl|hor
 .exact h2
 .exact ahead_tk (hok b hb) (hok j hj) (by omega) b j p hor hp h2
theorem cross_xd (p f v:Nat)(m:Mk)(hok:zdm m.all)(hp:p<=9223372036854775807)(hf:v<=f)(d1:v<=dep m.phase m.all 1 p)(d2:v<=dep m.phase m.all 2 p):Xd m (zbg p f v m) p v:=by
 induction f generalizing m v with
 |zero=>
  obtain rfl:v=0:=by omega
  exact Xd.refl m p
 |succ f ih=>
  by_cases hv:v=0
  .subst hv
   rw[zey]
   exact Xd.refl m p
  .obtain ⟨a,ea,ha,ba,sa,ta⟩:=first_takes (ph:=m.phase) (s:=1) hok hp (by omega)
   obtain ⟨b,eb,hb,bb,sb,tb⟩:=first_takes (ph:=m.phase) (s:=2) hok hp (by omega)
   rw[zex p f v a b m hv ea eb]
   have ra:=zeb ba
   have rb:=zeb bb
   obtain ⟨n,hn⟩: ∃n,n=min v (min (nth m.all a).rest (nth m.all b).rest):=⟨_,rfl⟩
   rw[←hn]
   have hab:a≠b:=fun e=>by rw[e] at sa;omega
   have hnth:=fun j=>zff m a b n p j ha hb hab
   have hall:=zhi m a b n p ha hab
   have hcut:Cut m.all (za3 m a b n p).all:=by
    rw[hall]
    refine(Cut.setRest m.all a _ ha (Nat.sub_le _ _)).trans (Cut.setRest _ b _ (by rw[zaw];exact hb) ?_)
    rw[zbs _ _ _ _ ha,if_neg (fun e=>hab e.symm)]
    exact Nat.sub_le _ _
   have hph:(za3 m a b n p).phase=m.phase:=rfl
   have dd: ∀s q,s=1\/s=2->dep m.phase m.all s q<=dep m.phase (za3 m a b n p).all s q+n:=fun s q hs=>zc8 m a b n p s q ha hb (by omega) (by omega)
   have d1':=dd 1 p (.inl rfl)
   have d2':=dd 2 p (.inr rfl)
   have X:=ih (v-n) (za3 m a b n p) (hcut.ok hok) (by omega) (by rw[hph];omega) (by rw[hph];omega)
   generalize zbg p f (v-n) (za3 m a b n p)=M at X ⊢
   generalize za3 m a b n p=m1 at *
   have hlen:=hcut.len
   have r1a:(nth m1.all a).rest=(nth m.all a).rest-n:=by rw[hnth,if_pos (.inl rfl)]
   have r1b:(nth m1.all b).rest=(nth m.all b).rest-n:=by rw[hnth,if_pos (.inr rfl)]
   have ro: ∀k,k≠a->k≠b->(nth m1.all k).rest=(nth m.all k).rest:=fun k h1 h2=>by rw[hnth,if_neg (by omega)]
   refine⟨hcut.trans X.cut,X.phase.trans hph,fun s q hs hpr=>?_,fun i k hi hk hsd hbi hah hlt=>?_,fun k hk hlt=>?_⟩
   .have h1:=X.vol s q hs fun j hj hlt hsj=>by
     rw[tk_same (hcut.side j) (hcut.typ j) (hcut.price j)]
     refine hpr j (by omega) (lll hlt (hcut.rest j)) ?_
     rw[←hcut.side j]
     exact hsj
    have h2:dep m.phase m1.all s q+n<=dep m.phase m.all s q:=by
     rw[hall]
     rcases hs with rfl|rfl
     .rw[dep_other _ _ _ _ _ _ (by rw[zbs _ _ _ _ ha,if_neg (fun e=>hab e.symm)];omega)]
      refine dep_less _ _ _ _ _ _ ha (inDep_iff.2 ⟨ba,?_,sa⟩) (by omega)
      have:=X.cut.rest a
      exact hpr a ha (by omega) sa
     .have e:nth (zaf m.all a ((nth m.all a).rest-n)) b=nth m.all b:=by rw[zbs _ _ _ _ ha,if_neg (fun e=>hab e.symm)]
      have h3:=dep_less m.phase (zaf m.all a ((nth m.all a).rest-n)) b n 2 q (by rw[zaw];exact hb) (by
       rw[e]
       have:=X.cut.rest b
       exact inDep_iff.2 ⟨bb,hpr b hb (by omega) sb,sb⟩) (by rw[e];omega)
      rw[e,dep_other m.phase m.all a ((nth m.all a).rest-n) 2 q (by omega)] at h3
      exact h3
    rw[hph] at h1
    omega
   .by_cases h1:(nth M.all k).rest<(nth m1.all k).rest
    .by_cases h2:0<(nth m1.all i).rest
     .refine X.pri i k (by omega) (by omega) (by rw[hcut.side,hcut.side];exact hsd) (by rw[hph];exact bk_live (hcut.typ i) hbi h2) ?_ h1
      rw[zlh (hcut.side i) (hcut.typ i) (hcut.price i) (hcut.typ k) (hcut.price k)]
      exact hah
     .have:=X.cut.rest i
      omega
    .exfalso
     have hkab:k=a\/k=b:=by
      by_cases e1:k=a
      .exact .inl e1
      .by_cases e2:k=b
       .exact .inr e2
       .have:=ro k e1 e2
        omega
     have key: ∀s:Nat,za0 m.phase m.all s m.all.length=k->(nth m.all k).side=s->False:=by
      intro s hfs hks
      obtain ⟨b',e',hb',_,hbs',hor⟩:=firstOf_best m.phase m.all s hok m.all.length nr i hi hbi (by omega)
      rw[hfs] at e'
      obtain rfl:k=b':=by omega
      rcases hor with rfl|hor
      .rw[ahead_irr] at hah
       cases hah
      .exact ahead_not (hok i hi) (hok k hk) hsd i k hah hor
     rcases hkab with rfl|rfl
     .exact key 1 ea sa
     .exact key 2 eb sb
   .by_cases h1:(nth M.all k).rest<(nth m1.all k).rest
    .obtain ⟨q1,q2⟩:=X.bkk k (by omega) h1
     rw[hph] at q1
     refine⟨bk_shape (hcut.typ k) q1 (hcut.rest k),?_⟩
     rw[←tk_same (hcut.side k) (hcut.typ k) (hcut.price k)]
     exact q2
    .by_cases e1:k=a
     .subst e1
      exact⟨ba,ta⟩
     .by_cases e2:k=b
      .subst e2
       exact⟨bb,tb⟩
      .have:=ro k e1 e2
       omega
theorem xd_apart {m m':Mk}{p v R:Nat}(hok:zdm m.all)(X:Xd m m' p v)(hv:v=zcn m.phase R m.all)(i j:Nat)(hi:i<m.all.length)(hj:j<m.all.length)(bi:bk m.phase (nth m'.all i)=true)(bj:bk m.phase (nth m'.all j)=true)
  (si:(nth m.all i).side=1)(sj:(nth m.all j).side=2):(nth m.all i).price<(nth m.all j).price:=by
 refine Nat.lt_of_not_le fun hle=>?_
 have hq:(nth m.all i).price<=9223372036854775807:=llt (hok i hi).price (by decide)
 have key: ∀s x,s=1\/s=2->x<m.all.length->bk m.phase (nth m'.all x)=true->(nth m.all x).side=s->tk (nth m.all x) (nth m.all i).price=true->v+1<=dep m.phase m.all s (nth m.all i).price:=by
  intro s x hs hx bx sx tx
  have rx:=zeb bx
  have bx0:=bk_shape (X.cut.typ x) bx (X.cut.rest x)
  have h1:=X.vol s (nth m.all i).price hs fun k hk hlt hsk=>by
   by_cases e:k=x
   .subst e
    exact tx
   .cases ha:zcy (nth m.all x) (nth m.all k) x k with
    |true=>
     have:=X.pri x k hx hk (by omega) bx0 ha hlt
     omega
    |false=>exact ahead_tk (hok k hk) (hok x hx) (by omega) k x _ (ahead_total (hok x hx) (hok k hk) (by omega) x k (fun e'=>e e'.symm) ha) hq tx
  have h2:=dep_mem m.phase m'.all x s (nth m.all i).price (by rw[X.cut.len];exact hx) (inDep_iff.2 ⟨bx,by rw[tk_same (X.cut.side x) (X.cut.typ x) (X.cut.price x)];exact tx,by rw[X.cut.side];exact sx⟩)
  omega
 have k1:=key 1 i (.inl rfl) hi bi si (by unfold tk;simp[si])
 have k2:=key 2 j (.inr rfl) hj bj sj (by unfold tk;simp[sj,hle])
 have:=most_all m.phase R m.all (nth m.all i).price
 unfold vof at this
 omega
end
section
def Ap (m:Mk):Prop:=m.phase=1-> ∀i j,i<m.all.length->j<m.all.length->bk 1 (nth m.all i)=true->bk 1 (nth m.all j)=true->(nth m.all i).side=1->(nth m.all j).side=2->(nth m.all i).price<(nth m.all j).price
theorem Ap.cut {m m':Mk}(h:Ap m)(hc:Cut m.all m'.all)(hp:m'.phase=m.phase):Ap m':=fun e i j hi hj bi bj si sj=>by
 rw[hc.price,hc.price]
 exact h (hp.symm.trans e) i j (by rw[←hc.len];exact hi) (by rw[←hc.len];exact hj) (bk_shape (hc.typ i) bi (hc.rest i)) (bk_shape (hc.typ j) bj (hc.rest j)) (by rw[←hc.side];exact si) (by rw[←hc.side];exact sj)
theorem lim_price {o:Od}(h:okOd o)(hp:pl o=false):lim o=o.price:=by
 have:=h.priced hp
 unfold lim
 rw[if_pos (by omega)]
theorem ahead_price {a b:Od}(ha:okOd a)(hb:okOd b)(pa:pl a=false)(pb:pl b=false)(hs:a.side=b.side)(i k:Nat)(h:zcy a b i k=true):(a.side=1->b.price<=a.price)/\(a.side=2->a.price<=b.price):=by
 have la:=lim_price ha pa
 have lb:=lim_price hb pb
 refine⟨fun s=>?_,fun s=>?_⟩
 .rw[zda ha hb s (by omega)] at h
  omega
 .rw[zcr ha hb s (by omega)] at h
  omega
theorem trade_cut (m:Mk)(i k n p:Nat)(hi:i<m.all.length)(hk:k<m.all.length):Cut m.all (za3 m i k n p).all:=
 (Cut.setRest m.all i ((nth m.all i).rest-n) hi (Nat.sub_le _ _)).trans (Cut.setRest _ k ((nth (zaf m.all i ((nth m.all i).rest-n)) k).rest-n) (by rw[zaw];exact hk) (Nat.sub_le _ _))
theorem meet_end (o:Od)(k f:Nat)(m:Mk)(hk:k<m.all.length)(hs:o.side=(nth m.all k).side)(hf:(nth m.all k).rest<=f):
  (nth (zbd o k f m).all k).rest=0\/za0 (zbd o k f m).phase (zbd o k f m).all (3-o.side) (zbd o k f m).all.length= -1\/ ∃j:Nat,za0 (zbd o k f m).phase (zbd o k f m).all (3-o.side) (zbd o k f m).all.length=j/\tk o (nth (zbd o k f m).all j).price=false:=by
 induction f generalizing m with
 |zero=>exact .inl (by show (nth m.all k).rest=0;omega)
 |succ f ih=>
  by_cases hr:(nth m.all k).rest=0
  .rw[zen o k (f+1) m hr]
   exact .inl hr
  .rcases za8 m.phase m.all (3-o.side) m.all.length with e|⟨j,e,hj,bj,sj⟩
   .rw[zfh o k (f+1) m e]
    exact .inr (.inl e)
   .cases ht:tk o (nth m.all j).price with
    |false=>
     rw[zeu o k (f+1) j m e ht]
     exact .inr (.inr ⟨j,e,ht⟩)
    |true=>
     rw[zem o k f j m hr e ht]
     have rj:=bk_rest bj
     have hjk:j≠k:=fun e=>by rw[e,←hs] at sj;omega
     split
     .refine ih _ (by rw[zd1];exact hk) (by rw[(trade_cut m k j _ _ hk hj).side];exact hs) ?_
      rw[zff m k j _ _ k hk hj (fun e=>hjk e.symm),if_pos (.inl rfl)]
      show (nth m.all k).rest-_<=f
      omega
     .refine ih _ (by rw[zd1];exact hk) (by rw[(trade_cut m j k _ _ hj hk).side];exact hs) ?_
      rw[zff m j k _ _ k hj hk hjk,if_pos (.inr rfl)]
      show (nth m.all k).rest-_<=f
      omega
def Pri (L:List Od):Nat->List (Nat->Int)->Prop
 |_,[]=>True
 |last,e::E=>(e 0≠3/\Pri L last E)\/(e 0=3/\ ∃k,k<L.length/\wt 1 (nth L k)=false/\
   ((((nth L k).id:Int)=e 4/\ ∀j,j<L.length->((nth L j).id:Int)≠e 5)\/(((nth L k).id:Int)=e 5/\ ∀j,j<L.length->((nth L j).id:Int)≠e 4))/\
   ((nth L k).price:Int)=e 7/\(last=0\/(((nth L k).side=2->last<=(nth L k).price)/\((nth L k).side=1->(nth L k).price<=last)))/\Pri L (nth L k).price E)
theorem Pri.none {L:List Od}{E:List (Nat->Int)}(h: ∀e∈E,e 0≠3)(last:Nat):Pri L last E:=by
 induction E generalizing last with
 |nil=>trivial
 |cons e E ih=>exact .inl ⟨h e List.mem_cons_self,ih (fun x hx=>h x (List.mem_cons_of_mem _ hx)) last⟩
theorem Pri.app {L:List Od}{E F:List (Nat->Int)}{last:Nat}(h:Pri L last E)(hF: ∀e∈F,e 0≠3):Pri L last (E++F):=by
 induction E generalizing last with
 |nil=>exact Pri.none hF last
 |cons e E ih=>
  rcases h with ⟨h1,h2⟩|⟨h1,k,a,b,c,d,g,h2⟩
  .exact .inl ⟨h1,ih h2⟩
  .exact .inr ⟨h1,k,a,b,c,d,g,ih h2⟩
def Nt3 (m m':Mk):Prop:= ∃E,m'.out=m.out++E/\ ∀e∈E,e 0≠3
theorem Nt3.refl (m:Mk):Nt3 m m:=⟨[],by simp,by simp⟩
theorem Nt3.trans {a b c:Mk}(h:Nt3 a b)(k:Nt3 b c):Nt3 a c:=by
 obtain ⟨E,h1,h2⟩:=h
 obtain ⟨F,k1,k2⟩:=k
 refine⟨E++F,by rw[k1,h1,List.append_assoc],fun e he=>?_⟩
 rcases List.mem_append.1 he with he|he
 .exact h2 e he
 .exact k2 e he
theorem Nt3.tell (m:Mk)(e:Nat->Int)(h:e 0≠3):Nt3 m (zax m e):=⟨[toldM m e],rfl,fun x hx=>by rw[List.mem_singleton.1 hx];exact h⟩
theorem Nt3.cancel (m:Mk)(i:Nat):Nt3 m (zav m i):=⟨[toldM m (mkev 4 0 (nth m.all i).id 0 0 0 (nth m.all i).rest 0 0 0)],rfl,fun x hx=>by rw[List.mem_singleton.1 hx];show (4:Int)≠3;decide⟩
theorem Nt3.indicate (m:Mk):Nt3 m (zah m 6):=Nt3.tell m _ (by show (6:Int)≠3;decide)
theorem Nt3.reject (m:Mk)(id why:Nat):Nt3 m (zbh m id why):=Nt3.tell m _ (by show (2:Int)≠3;decide)
theorem Nt3.change (m:Mk)(id:Nat)(by_:Int):Nt3 m (zbv m id by_):=by
 unfold zbv
 dsimp only
 split
 .exact Nt3.reject m _ _
 .split
  .exact Nt3.reject m _ _
  .have key: ∀M,Nt3 m M->Nt3 m (if M.phase=0\/M.phase=2 then zah M 6 else M):=fun M hM=>by
    split
    .exact hM.trans (Nt3.indicate M)
    .exact hM
   refine key _ ?_
   split
   .exact Nt3.cancel m _
   .exact⟨[_],rfl,fun x hx=>by rw[List.mem_singleton.1 hx];show (5:Int)≠3;decide⟩
theorem meet_pri (o:Od)(k f:Nat)(m:Mk)(L:List Od)(hok:zdm m.all)(hp:m.phase=1)(hk:k<m.all.length)(hs:o.side=(nth m.all k).side)(hpl: ∀j,j<m.all.length->j≠k->0<(nth m.all j).rest->pl (nth m.all j)=false)
  (hL: ∀j,j<m.all.length->j≠k->0<(nth m.all j).rest-> ∃i,i<L.length/\(nth L i).id=(nth m.all j).id/\(nth L i).side=(nth m.all j).side/\(nth L i).typ=(nth m.all j).typ/\(nth L i).price=(nth m.all j).price)
  (hLk: ∀i,i<L.length->(nth L i).id≠(nth m.all k).id)(last:Nat)
  (hlast:last=0\/ ∀j,j<m.all.length->bk 1 (nth m.all j)=true->(nth m.all j).side=3-o.side->(o.side=1->last<=(nth m.all j).price)/\(o.side=2->(nth m.all j).price<=last)):
  ∃E,(zbd o k f m).out=m.out++E/\Pri L last E:=by
 induction f generalizing m last with
 |zero=>exact⟨[],by simp[zbd],trivial⟩
 |succ f ih=>
  by_cases hr:(nth m.all k).rest=0
  .rw[zen o k (f+1) m hr]
   exact⟨[],by simp,trivial⟩
  .rcases za8 m.phase m.all (3-o.side) m.all.length with e|⟨j,e,hj,bj,sj⟩
   .rw[zfh o k (f+1) m e]
    exact⟨[],by simp,trivial⟩
   .cases ht:tk o (nth m.all j).price with
    |false=>
     rw[zeu o k (f+1) j m e ht]
     exact⟨[],by simp,trivial⟩
    |true=>
     rw[zem o k f j m hr e ht]
     have rj:=bk_rest bj
     have hjk:j≠k:=fun e=>by rw[e,←hs] at sj;omega
     have hpj:=hpl j hj hjk rj
     obtain ⟨i,hi,i1,i2,i3,i4⟩:=hL j hj hjk rj
     have hwt:wt 1 (nth L i)=false:=by
      have hb:=bj
      unfold bk at hb
      rw[hp] at hb
      simp only[Bool.and_eq_true,Bool.not_eq_true'] at hb
      unfold wt at *
      rw[i3]
      exact hb.2
     have hnext: ∀M:Mk,Cut m.all M.all->M.phase=m.phase-> ∀x,x<M.all.length->bk 1 (nth M.all x)=true->(nth M.all x).side=3-o.side->(o.side=1->(nth m.all j).price<=(nth M.all x).price)/\(o.side=2->(nth M.all x).price<=(nth m.all j).price):=by
      intro M hc hph x hx bx sx
      rw[hc.side] at sx
      rw[hc.len] at hx
      rw[hc.price]
      have bx0:=bk_shape (hc.typ x) bx (hc.rest x)
      obtain ⟨b,e',hb,bb,sb,hor⟩:=firstOf_best m.phase m.all (3-o.side) hok m.all.length nr x hx (by rw[hp];exact bx0) sx
      rw[e] at e'
      obtain rfl:j=b:=by omega
      rcases hor with rfl|hor
      .exact⟨fun _=>nr,fun _=>nr⟩
      .have hxk:x≠k:=fun e=>by rw[e,←hs] at sx;omega
       have:=ahead_price (hok j hj) (hok x hx) hpj (hpl x hx hxk (bk_rest bx0)) (by omega) j x hor
       exact⟨fun s=>this.2 (by omega),fun s=>this.1 (by omega)⟩
     have key: ∀(M:Mk) (ev:Nat->Int),Cut m.all M.all->M.phase=m.phase->M.out=m.out++[ev]->ev 0=3->ev 7=((nth m.all j).price:Int)->((ev 4=((nth m.all j).id:Int)/\ev 5=((nth m.all k).id:Int))\/(ev 5=((nth m.all j).id:Int)/\ev 4=((nth m.all k).id:Int)))->
       ∃E,(zbd o k f M).out=m.out++E/\Pri L last E:=by
      intro M ev hc hph ho h0 h7 h45
      obtain ⟨E,e1,e2⟩:=ih M (hc.ok hok) (hph.trans hp) (by rw[hc.len];exact hk) (by rw[hc.side];exact hs)
       (fun q hq hqk hqr=>by rw[pl_typ (hc.typ q)];exact hpl q (by rw[←hc.len];exact hq) hqk (lll hqr (hc.rest q)))
       (fun q hq hqk hqr=>by rw[hc.id,hc.side,hc.typ,hc.price];exact hL q (by rw[←hc.len];exact hq) hqk (lll hqr (hc.rest q)))
       (fun q hq=>by rw[hc.id];exact hLk q hq) (nth m.all j).price (.inr (hnext M hc hph))
      refine⟨ev::E,by rw[e1,ho];simp,.inr ⟨h0,i,hi,hwt,?_,by rw[i4,h7],?_,by rw[i4];exact e2⟩⟩
      .rcases h45 with ⟨q1,q2⟩|⟨q1,q2⟩
       .exact .inl ⟨by rw[i1,q1],fun x hx=>by rw[q2];have:=hLk x hx;omega⟩
       .exact .inr ⟨by rw[i1,q1],fun x hx=>by rw[q2];have:=hLk x hx;omega⟩
      .rcases hlast with h|h
       .exact .inl h
       .right
        have:=h j hj (by rw[←hp];exact bj) sj
        rw[i2,i4]
        exact⟨fun s=>this.1 (by omega),fun s=>this.2 (by omega)⟩
     split
     .have hc:=trade_cut m k j (min (nth m.all k).rest (nth m.all j).rest) (nth m.all j).price hk hj
      refine key _ _ hc rfl rfl rfl rfl (.inr ⟨?_,?_⟩)
      .exact congrArg (fun x:Nat=>(x:Int)) (hc.id j)
      .exact congrArg (fun x:Nat=>(x:Int)) (hc.id k)
     .have hc:=trade_cut m j k (min (nth m.all k).rest (nth m.all j).rest) (nth m.all j).price hj hk
      refine key _ _ hc rfl rfl rfl rfl (.inl ⟨?_,?_⟩)
      .exact congrArg (fun x:Nat=>(x:Int)) (hc.id j)
      .exact congrArg (fun x:Nat=>(x:Int)) (hc.id k)
theorem live_shown {l:List Od}{j:Nat}(hj:j<l.length)(hr:0<(nth l j).rest): ∃i,i<(zfg l).length/\nth (zfg l) i=nth l j:=⟨_,shown_at l j hj hr⟩
theorem shown_from {l:List Od}{i:Nat}(hi:i<(zfg l).length): ∃j,j<l.length/\0<(nth l j).rest/\nth (zfg l) i=nth l j:=by
 obtain ⟨h1,h2⟩:=List.mem_filter.1 (zg1 hi)
 obtain ⟨j,hj,e⟩:=mem_nth h1
 exact⟨j,hj,by rw[e];simpa using h2,e.symm⟩
theorem enter_ap {c:Cf}{m:Mk}{o:Od}(h:Iv m)(ha:Ap m)(ht:1<=o.typ/\o.typ<=4)(hs:o.side=1\/o.side=2):Ap (zce c m o)/\(m.phase=1-> ∃E,(zce c m o).out=m.out++E/\Pri (zfg m.all) 0 E):=by
 have fin: ∀M,Nt3 m M->m.phase=1-> ∃E,M.out=m.out++E/\Pri (zfg m.all) 0 E:=fun M hM _=>by
  obtain ⟨E,h1,h2⟩:=hM
  exact⟨E,h1,Pri.none h2 0⟩
 unfold zce
 by_cases hr:zbc c m o≠0
 .rw[if_pos hr]
  exact⟨ha.cut (Cut.refl _) rfl,fin _ (Nt3.reject m _ _)⟩
 .rw[if_neg hr]
  have hr0:zbc c m o=0:=by omega
  obtain ⟨ho,hid,hrest,-,-,-⟩:=zet ht hs hr0
  have hmoo:=refused_moo hr0
  have key: ∀m2:Mk,m2.all=m.all++[o]->m2.phase=m.phase->Nt3 m m2->
    Ap (if m2.phase≠1 then zah m2 6 else if wt m2.phase o then m2 else let m3:=zbd o m.all.length o.rest m2;if o.typ=2/\0<(nth m3.all m.all.length).rest then zav m3 m.all.length else m3)/\
    (m.phase=1-> ∃E,(if m2.phase≠1 then zah m2 6 else if wt m2.phase o then m2 else let m3:=zbd o m.all.length o.rest m2;if o.typ=2/\0<(nth m3.all m.all.length).rest then zav m3 m.all.length else m3).out=m.out++E/\Pri (zfg m.all) 0 E):=by
   intro m2 hall hph hn2
   have hlen:m2.all.length=m.all.length+1:=by rw[hall];simp
   have hk:nth m2.all m.all.length=o:=by rw[hall,nth_last,if_pos rfl]
   have hne: ∀j,j≠m.all.length->nth m2.all j=nth m.all j:=fun j hj=>by rw[hall,nth_last,if_neg hj]
   have hok:zdm m2.all:=fun j hj=>by
    by_cases e:j=m.all.length
    .rw[e,hk];exact ho
    .rw[hne j e];exact h.ok j (by omega)
   by_cases hp:m2.phase≠1
   .rw[if_pos hp]
    exact⟨fun e=>absurd e hp,fun e=>absurd (hph.trans e) hp⟩
   .rw[if_neg hp]
    have hp2:m2.phase=1:=by omega
    have hp1:m.phase=1:=by rw[←hph];omega
    by_cases hw:wt m2.phase o=true
    .rw[if_pos hw]
     refine⟨fun _ i j hi hj bi bj si sj=>?_,fin _ hn2⟩
     have hb: ∀x,x<m2.all.length->bk 1 (nth m2.all x)=true->x≠m.all.length:=fun x _ bx e=>by
      rw[e,hk] at bx
      rw[hp2] at hw
      unfold bk at bx
      rw[hw] at bx
      simp at bx
     have ei:=hb i hi bi
     have ej:=hb j hj bj
     rw[hne i ei] at bi si ⊢
     rw[hne j ej] at bj sj ⊢
     exact ha hp1 i j (by omega) (by omega) bi bj si sj
    .rw[if_neg hw]
     have hplr: ∀j,j<m2.all.length->j≠m.all.length->0<(nth m2.all j).rest->pl (nth m2.all j)=false:=fun j hj hjk hjr=>by rw[hne j hjk] at hjr ⊢;exact h.tr hp1 j (by omega) hjr
     have hm:=Trd.meet o m.all.length o.rest m2 (by omega) (fun j hj=>llt (hok j hj).price (by decide))
     have he:=meet_end o m.all.length o.rest m2 (by omega) (by rw[hk]) (by rw[hk];exact nr)
     have hpr:=meet_pri o m.all.length o.rest m2 (zfg m.all) hok hp2 (by omega) (by rw[hk]) hplr
      (fun j hj hjk hjr=>by
       rw[hne j hjk] at hjr ⊢
       obtain ⟨i,hi,e⟩:=live_shown (by omega) hjr
       exact⟨i,hi,by rw[e],by rw[e],by rw[e],by rw[e]⟩)
      (fun i hi=>by
       obtain ⟨j,hj,_,e⟩:=shown_from hi
       rw[e,hk]
       exact hid j hj) 0 (.inl rfl)
     dsimp only
     generalize zbd o m.all.length o.rest m2=m3 at hm he hpr ⊢
     have hph3:m3.phase=1:=hm.phase.trans hp2
     have hc:=hm.cut
     have hlen3:=hc.len
     have base: ∀M:Mk,Cut m3.all M.all->M.phase=1->(0<(nth M.all m.all.length).rest->o.typ≠2)->Ap M:=by
      intro M hcM hpM hty _ i j hi hj bi bj si sj
      have hcc:=hc.trans hcM
      have pcs: ∀x,(nth M.all x).price=(nth m2.all x).price:=fun x=>hcc.price x
      rw[hcc.side] at si sj
      rw[hcc.len] at hi hj
      have bi2:=bk_shape (hcc.typ i) bi (hcc.rest i)
      have bj2:=bk_shape (hcc.typ j) bj (hcc.rest j)
      have bi3:=bk_shape (hcM.typ i) bi (hcM.rest i)
      have bj3:=bk_shape (hcM.typ j) bj (hcM.rest j)
      rw[pcs,pcs]
      have opl:0<(nth M.all m.all.length).rest->pl o=false:=fun hr=>by
       have t2:=hty hr
       have t3:o.typ≠3:=fun e=>by have:=hmoo e;omega
       unfold pl
       simp[t2,t3]
      have other: ∀x,x<m2.all.length->bk 1 (nth m3.all x)=true->(nth m2.all x).side=3-o.side->0<(nth M.all m.all.length).rest-> ∃y,y<m2.all.length/\(nth m2.all y).side=3-o.side/\tk o (nth m2.all y).price=false/\pl (nth m2.all y)=false/\pl (nth m2.all x)=false/\(x=y\/zcy (nth m2.all y) (nth m2.all x) y x=true):=by
       intro x hx bx sx hr
       have hxk:x≠m.all.length:=fun e=>by rw[e,hk] at sx;omega
       have hr3:0<(nth m3.all m.all.length).rest:=lll hr (hcM.rest _)
       have bx2:=bk_shape (hc.typ x) bx (hc.rest x)
       obtain ⟨y,ey,hy,by_,sy,hor⟩:=firstOf_best m3.phase m3.all (3-o.side) (hc.ok hok) m3.all.length nr x (by omega) (by rw[hph3];exact bx) (by rw[hc.side];exact sx)
       rw[hph3] at by_
       have hyk:y≠m.all.length:=fun e=>by rw[e,hc.side,hk] at sy;omega
       have by2:=bk_shape (hc.typ y) by_ (hc.rest y)
       rcases he with e0|e0|⟨y',e0,e1⟩
       .omega
       .rw[ey] at e0
        omega
       .rw[ey] at e0
        obtain rfl:y=y':=by omega
        refine⟨y,by omega,by rw[←hc.side];exact sy,by rw[←hc.price];exact e1,hplr y (by omega) hyk (bk_rest by2),hplr x hx hxk (bk_rest bx2),?_⟩
        rcases hor with e|hor
        .exact .inl e
        .right
         rw[zlh (hc.side y) (hc.typ y) (hc.price y) (hc.typ x) (hc.price x)] at hor
         exact hor
      by_cases ei:i=m.all.length
      .have hr:0<(nth M.all m.all.length).rest:=by rw[←ei];exact bk_rest bi
       have so:o.side=1:=by rw[ei,hk] at si;exact si
       obtain ⟨y,hy,sy,ty,py,pj,hor⟩:=other j hj bj3 (by omega) hr
       rw[ei,hk]
       have h1:o.price<(nth m2.all y).price:=by
        unfold tk at ty
        rw[opl hr,if_pos so] at ty
        simpa using ty
       rcases hor with rfl|hor
       .exact h1
       .have:=(ahead_price (hok y hy) (hok j hj) py pj (by omega) y j hor).2 (by omega)
        omega
      .by_cases ej:j=m.all.length
       .have hr:0<(nth M.all m.all.length).rest:=by rw[←ej];exact bk_rest bj
        have so:o.side=2:=by rw[ej,hk] at sj;exact sj
        obtain ⟨y,hy,sy,ty,py,pi,hor⟩:=other i hi bi3 (by omega) hr
        rw[ej,hk]
        have h1:(nth m2.all y).price<o.price:=by
         unfold tk at ty
         rw[opl hr,if_neg (by omega)] at ty
         simpa using ty
        rcases hor with rfl|hor
        .exact h1
        .have:=(ahead_price (hok y hy) (hok i hi) py pi (by omega) y i hor).1 (by omega)
         omega
       .rw[hne i ei] at bi2 si ⊢
        rw[hne j ej] at bj2 sj ⊢
        exact ha hp1 i j (by omega) (by omega) bi2 bj2 si sj
     have evs: ∀M,Nt3 m3 M-> ∃E,M.out=m.out++E/\Pri (zfg m.all) 0 E:=fun M hM=>by
      obtain ⟨E1,a1,a2⟩:=hn2
      obtain ⟨E2,b1,b2⟩:=hpr
      obtain ⟨E3,c1,c2⟩:=hM
      refine⟨E1++(E2++E3),by rw[c1,b1,a1];simp[List.append_assoc],?_⟩
      have h23:=b2.app c2
      clear a1
      induction E1 with
      |nil=>exact h23
      |cons e E1 ih=>exact .inl ⟨a2 e List.mem_cons_self,ih (fun x hx=>a2 x (List.mem_cons_of_mem _ hx))⟩
     by_cases ht2:o.typ=2/\0<(nth m3.all m.all.length).rest
     .rw[if_pos ht2]
      refine⟨base (zav m3 m.all.length) (Cut.setRest m3.all _ 0 (by omega) (Nat.zero_le _)) hph3 (fun hr=>?_),fun _=>evs _ (Nt3.cancel m3 _)⟩
      exfalso
      have:nth (zav m3 m.all.length).all m.all.length={nth m3.all m.all.length with rest:=0}:=by
       show nth (zaf m3.all m.all.length 0) m.all.length=_
       rw[zbs _ _ _ _ (by omega),if_pos rfl]
      rw[this] at hr
      exact absurd hr (Nat.lt_irrefl _)
     .rw[if_neg ht2]
      exact⟨base m3 (Cut.refl _) hph3 (fun hr e=>ht2 ⟨e,hr⟩),fun _=>evs _ (Nt3.refl m3)⟩
  exact key _ rfl rfl ⟨[_],rfl,fun x hx=>by rw[List.mem_singleton.1 hx];show (1:Int)≠3;decide⟩
theorem cross_phase (p f v:Nat)(m:Mk):(zbg p f v m).phase=m.phase:=by
 induction f generalizing v m with
 |zero=>rfl
 |succ f ih=>
  unfold zbg
  split
  .rfl
  .exact ih _ _
theorem tail_phase (m:Mk):(tailM m).phase=m.phase+1:=by
 unfold tailM
 dsimp only
 have h: ∀M:Mk,(if M.phase=2 then zah M 6 else M).phase=M.phase:=fun M=>by split<;>rfl
 rw[h,(zcg _ _).2.1]
 rfl
theorem turn_ph (m:Mk):(zbj m).phase=m.phase+1:=by
 rw[turn_tail,tail_phase]
 split
 .rw[cross_phase];rfl
 .rfl
theorem turns_ph (c:Cf)(t f:Nat)(m:Mk):m.phase<=(za2 c t f m).phase:=by
 induction f generalizing m with
 |zero=>exact nr
 |succ f ih=>
  unfold za2
  split
  .have:=ih (zbj m)
   rw[turn_ph] at this
   omega
  .exact nr
theorem turn_ap {m:Mk}(h:Iv m):Ap (zbj m):=by
 intro hp
 have hp0:m.phase=0:=by rw[turn_ph] at hp;omega
 rw[turn_tail,if_pos (by omega)]
 obtain ⟨c1,c2,c3⟩:=ze0 m.phase m.ref m.all
 have hpr:(zal m.phase m.ref m.all).1<=9223372036854775807:=by
  rcases c3 with e|e
  .rw[e];decide
  .exact llt (cnd_range h _ e).2 (by decide)
 have X:=cross_xd (zal m.phase m.ref m.all).1 (zal m.phase m.ref m.all).2.1 (zal m.phase m.ref m.all).2.1 (zah m 7) h.ok hpr nr c1 c2
 have hv:(zal m.phase m.ref m.all).2.1=zcn m.phase m.ref m.all:=by
  unfold zal
  split
  .rename_i e
   exact e.symm
  .rfl
 have A:=fun i j hi hj bi bj si sj=>xd_apart (m:=zah m 7) (R:=m.ref) h.ok X hv i j hi hj bi bj si sj
 generalize zbg (zal m.phase m.ref m.all).1 (zal m.phase m.ref m.all).2.1 (zal m.phase m.ref m.all).2.1 (zah m 7)=M at X A ⊢
 have hMp:M.phase=0:=X.phase.trans hp0
 have hMc:Cut m.all M.all:=X.cut
 clear X
 have A2: ∀M':Mk,Cut M.all M'.all-> ∀i j,i<M'.all.length->j<M'.all.length->bk 1 (nth M'.all i)=true->bk 1 (nth M'.all j)=true->(nth M'.all i).side=1->(nth M'.all j).side=2->(nth M'.all i).price<(nth M'.all j).price:=by
  intro M' hc i j hi hj bi bj si sj
  have hcc:=hMc.trans hc
  rw[hcc.price,hcc.price]
  have b0: ∀x:Od,bk 1 x=bk 0 x:=fun x=>by unfold bk wt;simp
  rw[hcc.len] at hi hj
  rw[hcc.side] at si sj
  have e0:(zah m 7).phase=0:=hp0
  refine A i j hi hj ?_ ?_ si sj
  .rw[e0,←b0]
   exact bk_shape (hc.typ i) bi (hc.rest i)
  .rw[e0,←b0]
   exact bk_shape (hc.typ j) bj (hc.rest j)
 refine A2 _ ?_
 unfold tailM
 dsimp only
 have hsw: ∀m3:Mk,m3.all=M.all->Cut M.all (zai m3.all.length m3).all:=fun m3 e=>by
  have key: ∀n,n<=m3.all.length->Cut m3.all (zai n m3).all:=by
   intro n
   induction n with
   |zero=>exact fun _=>Cut.refl _
   |succ n ih=>
    intro hn
    have hc:=ih (by omega)
    unfold zai
    dsimp only
    split
    .exact hc.trans (Cut.setRest _ n 0 (by rw[hc.len];omega) (Nat.zero_le _))
    .exact hc
  have:=key _ nr
  rw[e] at this ⊢
  exact this
 split
 .exact hsw (zax {M with phase:=M.phase+1} _) rfl
 .exact hsw (zax {M with phase:=M.phase+1} _) rfl
theorem turns_ap (c:Cf)(t f:Nat)(m:Mk)(h:Iv m)(ha:Ap m):Ap (za2 c t f m):=by
 induction f generalizing m with
 |zero=>exact ha
 |succ f ih=>
  unfold za2
  split
  .exact ih _ (turn_au h).2 (turn_ap h)
  .exact ha
theorem send_ap (c:Cf)(m:Mk)(X:Nat->Nat)(n:Nat)(h:Iv m)(ha:Ap m):Ap (zaz c m X n)/\(m.phase=1->(zaz c m X n).phase=1->Pri (zfg m.all) 0 (zaz c m X n).out):=by
 have h0:Iv {m with out:=[]}:=⟨h.one,h.ok,h.ref,h.tr⟩
 have a0:Ap {m with out:=[]}:=ha
 have fin: ∀M,Nt3 {m with out:=[]} M->Pri (zfg m.all) 0 M.out:=fun M hM=>by
  obtain ⟨E,e1,e2⟩:=hM
  rw[e1]
  exact Pri.none e2 0
 have chg: ∀id by_,Ap (zbv {m with out:=[]} id by_)/\(m.phase=1->(zbv {m with out:=[]} id by_).phase=1->Pri (zfg m.all) 0 (zbv {m with out:=[]} id by_).out):=fun id by_=>by
  have q:=change_au h0 id by_
  exact⟨a0.cut q.cut q.phase,fun _ _=>fin _ (Nt3.change _ _ _)⟩
 unfold zaz
 dsimp only
 generalize (if 0<n then X 0 else 0)=kk
 split
 .rename_i hk
  obtain ⟨r1,r2⟩:=enter_ap (c:=c) h0 a0 (o:=⟨num4 X 1,X 5,X 6,num4 X 11,num4 X 7⟩) ⟨hk.2.2.2.2.1,hk.2.2.2.2.2⟩ (by show X 5=1\/X 5=2;have:=hk.2.2.1;have:=hk.2.2.2.1;omega)
  refine⟨r1,fun hp _=>?_⟩
  obtain ⟨E,e1,e2⟩:=r2 hp
  rw[e1]
  exact e2
 .split
  .exact chg _ _
  .split
   .exact chg _ _
   .split
    .unfold zdu
     split
     .exact⟨a0,fun _ _=>trivial⟩
     .refine⟨turns_ap c (num4 X 1) 3 {m with out:=[],time:=num4 X 1} ⟨h.one,h.ok,h.ref,h.tr⟩ ha,fun hp hq=>?_⟩
      have hs: ¬(({m with out:=[],time:=num4 X 1}:Mk).phase<3/\zb3 c ({m with out:=[],time:=num4 X 1}:Mk).phase<=num4 X 1):=fun hc=>by
       have e:=turns_go c (num4 X 1) 2 {m with out:=[],time:=num4 X 1} hc.1 hc.2
       rw[e] at hq
       have:=turns_ph c (num4 X 1) 2 (zbj {m with out:=[],time:=num4 X 1})
       rw[turn_ph,hq] at this
       have:m.phase+1<=1:=this
       omega
      rw[zgi c (num4 X 1) 3 _ hs]
      trivial
    .exact⟨a0.cut (Cut.refl _) rfl,fun _ _=>fin _ (Nt3.reject _ _ _)⟩
theorem Ap.new (c:Cf):Ap (newM c):=fun e=>by cases e
end
