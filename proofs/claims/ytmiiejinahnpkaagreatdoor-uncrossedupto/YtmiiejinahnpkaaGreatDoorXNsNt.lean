import Derived.Test.YtmiiejinahnpkaaGreatDoorXNfNg
import Derived.Test.YtmiiejinahnpkaaGreatDoorXKnKo
namespace Go.Proofs.YtmiiejinahnpkaaGreatDoor
section
structure Bo where
 ids:List Nat
 rests:List Nat
 seq:Nat
def Takes (B:Bo) (id n:Int) (i:Nat) (B':Bo):Prop:=
 i<B.ids.length/\i<B.rests.length/\((B.ids.getD i 0:Nat):Int)=id/\(∀j,j<i->((B.ids.getD j 0:Nat):Int)≠id)/\0<n/\n<=((B.rests.getD i 0:Nat):Int)/\B'={B with rests:=B.rests.set i (B.rests.getD i 0-n.toNat)}
def Note (B:Bo) (e:Nat->Int) (B':Bo):Prop:=
 e 1=(((B.seq+1)%4294967296:Nat):Int)/\
 ((e 0=1/\(∀j,j<B.ids.length->((B.ids.getD j 0:Nat):Int)≠e 2)/\0<e 6/\0<=e 2/\B'=⟨B.ids++[(e 2).toNat],B.rests++[(e 6).toNat],(B.seq+1)%4294967296⟩)\/
  (e 0=3/\ ∃B1 i k,Takes {B with seq:=(B.seq+1)%4294967296} (e 4) (e 6) i B1/\Takes B1 (e 5) (e 6) k B'/\e 4≠e 5/\1<=e 7/\e 7<=1000000)\/
  (e 0=4/\ ∃i,Takes {B with seq:=(B.seq+1)%4294967296} (e 2) (e 6) i B'/\((B.rests.getD i 0:Nat):Int)=e 6)\/
  (e 0=5/\ ∃i,Takes {B with seq:=(B.seq+1)%4294967296} (e 2) (e 6) i B'/\e 6<((B.rests.getD i 0:Nat):Int))\/
  ((e 0≠1/\e 0≠3/\e 0≠4/\e 0≠5)/\B'={B with seq:=(B.seq+1)%4294967296}))
def Notes:Bo->List (Nat->Int)->Bo->Prop
 |B,[],B'=>B=B'
 |B,e::E,B'=> ∃B1,Note B e B1/\Notes B1 E B'
theorem Notes.app {B B1 B2:Bo}{E F:List (Nat->Int)}(h:Notes B E B1)(k:Notes B1 F B2):Notes B (E++F) B2:=by
 induction E generalizing B with
 |nil=>cases h;exact k
 |cons e E ih=>
  obtain ⟨C,h1,h2⟩:=h
  exact⟨C,h1,ih h2⟩
def bOf (m:Mk):Bo:=⟨m.all.map Od.id,m.all.map Od.rest,m.seq⟩
def Au (m m':Mk):Prop:= ∃E,m'.out=m.out++E/\Notes (bOf m) E (bOf m')
theorem Au.refl (m:Mk):Au m m:=⟨[],by simp,rfl⟩
theorem Au.trans {a b c:Mk}(h:Au a b)(k:Au b c):Au a c:=by
 obtain ⟨E,h1,h2⟩:=h
 obtain ⟨F,k1,k2⟩:=k
 exact⟨E++F,by rw[k1,h1,List.append_assoc],h2.app k2⟩
theorem Au.of {m m' m'':Mk}(h:Au m m')(ho:m''.out=m'.out)(ha:m''.all=m'.all)(hs:m''.seq=m'.seq):Au m m'':=by
 obtain ⟨E,h1,h2⟩:=h
 refine⟨E,by rw[ho,h1],?_⟩
 rw[show bOf m''=bOf m' by simp[bOf,ha,hs]]
 exact h2
theorem Au.into {m m' m'':Mk}(h:Au m' m'')(ho:m'.out=m.out)(ha:m'.all=m.all)(hs:m'.seq=m.seq):Au m m'':=by
 obtain ⟨E,h1,h2⟩:=h
 refine⟨E,by rw[h1,ho],?_⟩
 rw[show bOf m=bOf m' by simp[bOf,ha,hs]]
 exact h2
theorem Au.tell (m:Mk)(e:Nat->Int)(h:e 0≠1/\e 0≠3/\e 0≠4/\e 0≠5):Au m (zax m e):=
 ⟨[toldM m e],rfl,_,⟨rfl,.inr (.inr (.inr (.inr ⟨h,rfl⟩)))⟩,rfl⟩
theorem Au.indicate (m:Mk)(k:Nat)(h:k=6\/k=7):Au m (zah m k):=by
 unfold zah
 refine Au.tell m _ ?_
 rcases h with rfl|rfl
 .show (6:Int)≠1/\(6:Int)≠3/\(6:Int)≠4/\(6:Int)≠5
  decide
 .show (7:Int)≠1/\(7:Int)≠3/\(7:Int)≠4/\(7:Int)≠5
  decide
theorem Au.reject (m:Mk)(id why:Nat):Au m (zbh m id why):=by
 refine Au.tell m _ ?_
 show (2:Int)≠1/\(2:Int)≠3/\(2:Int)≠4/\(2:Int)≠5
 decide
theorem ids_get (l:List Od)(j:Nat)(h:j<l.length):(l.map Od.id).getD j 0=(nth l j).id:=by
 simp[nth,List.getD,h]
theorem rests_get (l:List Od)(j:Nat)(h:j<l.length):(l.map Od.rest).getD j 0=(nth l j).rest:=by
 simp[nth,List.getD,h]
theorem setRest_ids (l:List Od)(i r:Nat):(zaf l i r).map Od.id=l.map Od.id:=by
 apply List.ext_getElem?
 intro j
 simp only[List.getElem?_map,zaf,List.getElem?_modify]
 by_cases h:i=j
 .subst h;cases l[i]?<;>simp
 .simp only[if_neg h];cases l[j]?<;>rfl
theorem setRest_rests (l:List Od)(i r:Nat):(zaf l i r).map Od.rest=(l.map Od.rest).set i r:=by
 apply List.ext_getElem?
 intro j
 simp only[List.getElem?_map,zaf,List.getElem?_modify,List.getElem?_set]
 by_cases h:i=j
 .subst h
  by_cases hi:i<l.length
  .simp[hi]
  .simp[hi]
 .simp only[if_neg h];cases l[j]?<;>rfl
theorem takes_set {l:List Od}(h1:oneId l){i n s:Nat}(hi:i<l.length)(hn:0<n)(hr:n<=(nth l i).rest):
  Takes ⟨l.map Od.id,l.map Od.rest,s⟩ (((nth l i).id:Nat):Int) ((n:Nat):Int) i ⟨(zaf l i ((nth l i).rest-n)).map Od.id,(zaf l i ((nth l i).rest-n)).map Od.rest,s⟩:=by
 refine⟨by simpa using hi,by simpa using hi,by rw[ids_get l i hi],fun j hj=>?_,by omega,by rw[rests_get l i hi];omega,?_⟩
 .rw[ids_get l j (by omega)]
  intro e
  have:=h1 j i (by omega) hi (by omega)
  omega
 .rw[setRest_ids,setRest_rests,rests_get l i hi,Int.toNat_natCast]
theorem oneId_ids {l l':List Od}(h:oneId l)(e:l'.map Od.id=l.map Od.id):oneId l':=by
 have hl:l'.length=l.length:=by simpa using congrArg List.length e
 intro i j hi hj hij
 rw[hl] at hi hj
 refine h i j hi hj ?_
 have e1:=ids_get l' i (by omega)
 have e2:=ids_get l' j (by omega)
 have e3:=ids_get l i hi
 have e4:=ids_get l j hj
 rw[e] at e1 e2
 omega
theorem Au.cancel (m:Mk)(i:Nat)(h1:oneId m.all)(hi:i<m.all.length)(hr:0<(nth m.all i).rest):Au m (zav m i):=by
 refine⟨[toldM m (mkev 4 0 (nth m.all i).id 0 0 0 (nth m.all i).rest 0 0 0)],rfl,bOf (zav m i),⟨rfl,.inr (.inr (.inl ⟨rfl,i,?_,?_⟩))⟩,rfl⟩
 .have:=takes_set (s:=(m.seq+1)%4294967296) h1 hi hr nr
  rw[Nat.sub_self] at this
  exact this
 .show (((m.all.map Od.rest).getD i 0:Nat):Int)=(((nth m.all i).rest:Nat):Int)
  rw[rests_get m.all i hi]
theorem Au.trade (m:Mk)(i k n p:Nat)(h1:oneId m.all)(hi:i<m.all.length)(hk:k<m.all.length)(hik:i≠k)(hn:0<n)(hri:n<=(nth m.all i).rest)(hrk:n<=(nth m.all k).rest)(hp:1<=p/\p<=1000000):Au m (za3 m i k n p):=by
 have hk':k<(zaf m.all i ((nth m.all i).rest-n)).length:=by rw[zaw];exact hk
 have hnk:nth (zaf m.all i ((nth m.all i).rest-n)) k=nth m.all k:=by rw[zbs _ _ _ _ hi,if_neg (fun e=>hik e.symm)]
 have h1':=oneId_ids h1 (setRest_ids m.all i ((nth m.all i).rest-n))
 have t1:=takes_set (s:=(m.seq+1)%4294967296) h1 hi hn hri
 have t2:=takes_set (s:=(m.seq+1)%4294967296) h1' hk' hn (by rw[hnk];exact hrk)
 have hid: ∀j,j<m.all.length->(nth (zaf (zaf m.all i ((nth m.all i).rest-n)) k ((nth (zaf m.all i ((nth m.all i).rest-n)) k).rest-n)) j).id=(nth m.all j).id:=by
  intro j hj
  rw[←ids_get _ j (by rw[zaw,zaw];exact hj),setRest_ids,setRest_ids,ids_get _ j hj]
 refine⟨[toldM {m with all:=zaf (zaf m.all i ((nth m.all i).rest-n)) k ((nth (zaf m.all i ((nth m.all i).rest-n)) k).rest-n),ref:=p} (mkev 3 0 0 0 (nth (zaf (zaf m.all i ((nth m.all i).rest-n)) k ((nth (zaf m.all i ((nth m.all i).rest-n)) k).rest-n)) i).id (nth (zaf (zaf m.all i ((nth m.all i).rest-n)) k ((nth (zaf m.all i ((nth m.all i).rest-n)) k).rest-n)) k).id n p 0 0)],rfl,bOf (za3 m i k n p),⟨rfl,.inr (.inl ⟨rfl,⟨(zaf m.all i ((nth m.all i).rest-n)).map Od.id,(zaf m.all i ((nth m.all i).rest-n)).map Od.rest,(m.seq+1)%4294967296⟩,i,k,?_,?_,?_,?_,?_⟩)⟩,rfl⟩
 .have:=t1
  rw[←hid i hi] at this
  exact this
 .have e:(nth (zaf m.all i ((nth m.all i).rest-n)) k).id=(nth (zaf (zaf m.all i ((nth m.all i).rest-n)) k ((nth (zaf m.all i ((nth m.all i).rest-n)) k).rest-n)) k).id:=by rw[hid k hk,hnk]
  have:=t2
  rw[e] at this
  exact this
 .show (((nth _ i).id:Nat):Int)≠(((nth _ k).id:Nat):Int)
  rw[hid i hi,hid k hk]
  intro e
  exact hik (h1 i k hi hk (by omega))
 .show (1:Int)<=(p:Int)
  omega
 .show (p:Int)<=1000000
  omega
end
section
structure Aq (m m':Mk):Prop where
 au:Au m m'
 cut:Cut m.all m'.all
 phase:m'.phase=m.phase
 ref:1<=m.ref/\m.ref<=1000000->1<=m'.ref/\m'.ref<=1000000
theorem Aq.refl (m:Mk):Aq m m:=⟨Au.refl m,Cut.refl _,rfl,id⟩
theorem Aq.trans {a b c:Mk}(h:Aq a b)(k:Aq b c):Aq a c:=⟨h.au.trans k.au,h.cut.trans k.cut,k.phase.trans h.phase,fun x=>k.ref (h.ref x)⟩
theorem Aq.trade (m:Mk)(i k n p:Nat)(h1:oneId m.all)(hi:i<m.all.length)(hk:k<m.all.length)(hik:i≠k)(hn:0<n)(hri:n<=(nth m.all i).rest)(hrk:n<=(nth m.all k).rest)(hp:1<=p/\p<=1000000):Aq m (za3 m i k n p):=
 ⟨Au.trade m i k n p h1 hi hk hik hn hri hrk hp,(Trd.trade m i k n p hi hk (by omega)).cut,rfl,fun _=>hp⟩
theorem Aq.cancel (m:Mk)(i:Nat)(h1:oneId m.all)(hi:i<m.all.length)(hr:0<(nth m.all i).rest):Aq m (zav m i):=
 ⟨Au.cancel m i h1 hi hr,Cut.setRest m.all i 0 hi (Nat.zero_le _),rfl,id⟩
theorem bk_rest {ph:Nat}{o:Od}(h:bk ph o=true):0<o.rest:=by
 unfold bk at h
 simp only[Bool.and_eq_true,decide_eq_true_eq] at h
 exact h.1
theorem Aq.cross (p f v:Nat)(m:Mk)(h1:oneId m.all)(hp:v≠0->1<=p/\p<=1000000)(d1:v<=dep m.phase m.all 1 p)(d2:v<=dep m.phase m.all 2 p):Aq m (zbg p f v m):=by
 induction f generalizing m v with
 |zero=>exact Aq.refl m
 |succ f ih=>
  by_cases hv:v=0
  .rw[hv,zey]
   exact Aq.refl m
  .rcases za8 m.phase m.all 1 m.all.length with e|⟨a,ea,ha,ba,sa⟩
   .have:=zfz m.phase m.all 1 p e
    omega
   .rcases za8 m.phase m.all 2 m.all.length with e|⟨b,eb,hb,bb,sb⟩
    .have:=zfz m.phase m.all 2 p e
     omega
    .rw[zex p f v a b m hv ea eb]
     have ra:=bk_rest ba
     have rb:=bk_rest bb
     have hab:a≠b:=fun e=>by rw[e,sb] at sa;omega
     have ht:=Aq.trade m a b (min v (min (nth m.all a).rest (nth m.all b).rest)) p h1 ha hb hab (by omega) (by omega) (by omega) (hp hv)
     refine ht.trans (ih _ _ (ht.cut.one h1) (fun _=>hp hv) ?_ ?_)
     .have:=zc8 m a b (min v (min (nth m.all a).rest (nth m.all b).rest)) p 1 p ha hb (by omega) (.inl sa.symm)
      rw[ht.phase]
      omega
     .have:=zc8 m a b (min v (min (nth m.all a).rest (nth m.all b).rest)) p 2 p ha hb (by omega) (.inr sb.symm)
      rw[ht.phase]
      omega
theorem Aq.sweep (n:Nat)(m:Mk)(h1:oneId m.all)(hn:n<=m.all.length):Aq m (zai n m):=by
 induction n with
 |zero=>exact Aq.refl m
 |succ n ih=>
  have h:=ih (by omega)
  unfold zai
  dsimp only
  split
  .rename_i hc
   exact h.trans (Aq.cancel _ n (h.cut.one h1) (by rw[h.cut.len];omega) hc.1)
  .exact h
theorem Aq.meet (o:Od)(k f:Nat)(m:Mk)(h1:oneId m.all)(hok:zdm m.all)(hk:k<m.all.length)(hs:o.side=(nth m.all k).side)(_hso:o.side=1\/o.side=2)(hpl: ∀j,j<m.all.length->j≠k->0<(nth m.all j).rest->pl (nth m.all j)=false):Aq m (zbd o k f m):=by
 induction f generalizing m with
 |zero=>exact Aq.refl m
 |succ f ih=>
  by_cases hr:(nth m.all k).rest=0
  .rw[zen o k (f+1) m hr]
   exact Aq.refl m
  .rcases za8 m.phase m.all (3-o.side) m.all.length with e|⟨j,e,hj,bj,sj⟩
   .rw[zfh o k (f+1) m e]
    exact Aq.refl m
   .cases ht:tk o (nth m.all j).price with
    |false=>
     rw[zeu o k (f+1) j m e ht]
     exact Aq.refl m
    |true=>
     rw[zem o k f j m hr e ht]
     have rj:=bk_rest bj
     have hjk:j≠k:=fun e=>by rw[e,←hs] at sj;omega
     have hpj:=hpl j hj hjk rj
     have hp:1<=(nth m.all j).price/\(nth m.all j).price<=1000000:=⟨(hok j hj).priced hpj,(hok j hj).price⟩
     have pl_typ: ∀a b:Od,a.typ=b.typ->pl a=pl b:=fun a b h=>by unfold pl;rw[h]
     have key: ∀M,Aq m M->Aq m (zbd o k f M):=fun M hM=>hM.trans (ih M (hM.cut.one h1) (hM.cut.ok hok) (by rw[hM.cut.len];exact hk) (by rw[hM.cut.side];exact hs)
      (fun q hq hqk hqr=>by rw[pl_typ _ _ (hM.cut.typ q)];exact hpl q (by rw[←hM.cut.len];exact hq) hqk (lll hqr (hM.cut.rest q))))
     split
     .exact key _ (Aq.trade m k j _ _ h1 hk hj (fun e=>hjk e.symm) (by omega) (by omega) (by omega) hp)
     .exact key _ (Aq.trade m j k _ _ h1 hj hk hjk (by omega) (by omega) (by omega) hp)
structure Iv (m:Mk):Prop where
 one:oneId m.all
 ok:zdm m.all
 ref:1<=m.ref/\m.ref<=1000000
 tr:m.phase=1-> ∀j,j<m.all.length->0<(nth m.all j).rest->pl (nth m.all j)=false
theorem pl_typ {a b:Od}(h:a.typ=b.typ):pl a=pl b:=by unfold pl;rw[h]
theorem Iv.aq {m m':Mk}(h:Iv m)(k:Aq m m'):Iv m':=
 ⟨k.cut.one h.one,k.cut.ok h.ok,k.ref h.ref,fun hp j hj hr=>by rw[pl_typ (k.cut.typ j)];exact h.tr (by rw[←k.phase];exact hp) j (by rw[←k.cut.len];exact hj) (lll hr (k.cut.rest j))⟩
theorem Aq.tell (m:Mk)(e:Nat->Int)(h:e 0≠1/\e 0≠3/\e 0≠4/\e 0≠5):Aq m (zax m e):=⟨Au.tell m e h,Cut.refl _,rfl,id⟩
theorem Aq.indicate (m:Mk)(k:Nat)(h:k=6\/k=7):Aq m (zah m k):=⟨Au.indicate m k h,Cut.refl _,rfl,id⟩
theorem Aq.reject (m:Mk)(id why:Nat):Aq m (zbh m id why):=⟨Au.reject m id why,Cut.refl _,rfl,fun h=>h⟩
theorem nth_last (l:List Od)(o:Od)(j:Nat):nth (l++[o]) j=if j=l.length then o else nth l j:=by
 unfold nth
 by_cases h:j<l.length
 .rw[if_neg (by omega)]
  simp[List.getD,List.getElem?_append_left h]
 .by_cases e:j=l.length
  .rw[if_pos e,e]
   simp[List.getD]
  .rw[if_neg e]
   simp[List.getD,List.getElem?_eq_none (show (l++[o]).length<=j by simp;omega),List.getElem?_eq_none (Nat.le_of_not_lt h)]
theorem Au.accept (m:Mk)(o:Od)(hn: ∀j,j<m.all.length->(nth m.all j).id≠o.id)(hr:0<o.rest):
  Au m {zax m (mkev 1 0 o.id 0 0 0 o.rest 0 0 0) with all:=(zax m (mkev 1 0 o.id 0 0 0 o.rest 0 0 0)).all++[o]}:=by
 refine⟨[toldM m (mkev 1 0 o.id 0 0 0 o.rest 0 0 0)],rfl,_,⟨rfl,.inl ⟨rfl,fun j hj=>?_,?_,?_,rfl⟩⟩,?_⟩
 .have hj':j<m.all.length:=by simpa [bOf] using hj
  show (((m.all.map Od.id).getD j 0:Nat):Int)≠((o.id:Nat):Int)
  rw[ids_get m.all j hj']
  have:=hn j hj'
  omega
 .show (0:Int)<((o.rest:Nat):Int)
  omega
 .show (0:Int)<=((o.id:Nat):Int)
  omega
 .show (⟨m.all.map Od.id++[((o.id:Nat):Int).toNat],m.all.map Od.rest++[((o.rest:Nat):Int).toNat],(m.seq+1)%4294967296⟩:Bo)=bOf _
  simp[bOf,zax]
theorem refused_moo {c:Cf}{m:Mk}{o:Od}(h:zbc c m o=0):o.typ=3->m.phase=0:=by
 intro ht
 unfold zbc at h
 by_cases hp:m.phase=0
 .exact hp
 .exfalso
  split at h
  .cases h
  .split at h
   .cases h
   .split at h
    .cases h
    .rw[if_pos (.inr ⟨ht,hp⟩)] at h
     cases h
theorem enter_au {c:Cf}{m:Mk}{o:Od}(h:Iv m)(ht:1<=o.typ/\o.typ<=4)(hs:o.side=1\/o.side=2):Au m (zce c m o)/\Iv (zce c m o):=by
 unfold zce
 by_cases hr:zbc c m o≠0
 .rw[if_pos hr]
  exact⟨(Aq.reject m _ _).au,h.aq (Aq.reject m _ _)⟩
 .rw[if_neg hr]
  have hr0:zbc c m o=0:=by omega
  obtain ⟨ho,hid,hrest,-,-,-⟩:=zet ht hs hr0
  have hmoo:=refused_moo hr0
  have ha:=Au.accept m o hid hrest
  have key: ∀m2:Mk,m2.all=m.all++[o]->m2.phase=m.phase->m2.ref=m.ref->Au m m2->
    Au m (if m2.phase≠1 then zah m2 6 else if wt m2.phase o then m2 else let m3:=zbd o m.all.length o.rest m2;if o.typ=2/\0<(nth m3.all m.all.length).rest then zav m3 m.all.length else m3)/\
    Iv (if m2.phase≠1 then zah m2 6 else if wt m2.phase o then m2 else let m3:=zbd o m.all.length o.rest m2;if o.typ=2/\0<(nth m3.all m.all.length).rest then zav m3 m.all.length else m3):=by
   intro m2 hall hph hrf ha
   have hlen:m2.all.length=m.all.length+1:=by rw[hall];simp
   have hk:nth m2.all m.all.length=o:=by rw[hall,nth_last,if_pos rfl]
   have hne: ∀j,j≠m.all.length->nth m2.all j=nth m.all j:=fun j hj=>by rw[hall,nth_last,if_neg hj]
   have h1:oneId m2.all:=by rw[hall];exact h.one.push hid
   have hok:zdm m2.all:=fun j hj=>by
    by_cases e:j=m.all.length
    .rw[e,hk];exact ho
    .rw[hne j e];exact h.ok j (by omega)
   by_cases hp:m2.phase≠1
   .rw[if_pos hp]
    have q:=Aq.indicate m2 6 (.inl rfl)
    have i2:Iv m2:=⟨h1,hok,by rw[hrf];exact h.ref,fun e=>absurd e hp⟩
    exact⟨ha.trans q.au,i2.aq q⟩
   .rw[if_neg hp]
    have hp1:m.phase=1:=by rw[←hph];omega
    by_cases hw:wt m2.phase o=true
    .rw[if_pos hw]
     refine⟨ha,⟨h1,hok,by rw[hrf];exact h.ref,fun _ j hj hjr=>?_⟩⟩
     by_cases e:j=m.all.length
     .rw[e,hk]
      unfold wt at hw
      unfold pl
      simp only[Bool.and_eq_true,beq_iff_eq] at hw
      simp[hw.1]
     .rw[hne j e] at hjr ⊢
      exact h.tr hp1 j (by omega) hjr
    .rw[if_neg hw]
     have hm:=Aq.meet o m.all.length o.rest m2 h1 hok (by omega) (by rw[hk]) hs (fun j hj hjk hjr=>by rw[hne j hjk] at hjr ⊢;exact h.tr hp1 j (by omega) hjr)
     dsimp only
     generalize zbd o m.all.length o.rest m2=m3 at hm ⊢
     have hc1:=hm.cut.one h1
     have base: ∀j,j<m3.all.length->j≠m.all.length->0<(nth m3.all j).rest->pl (nth m3.all j)=false:=fun j hj hjk hjr=>by
      rw[pl_typ (hm.cut.typ j),hne j hjk]
      have hle:=hm.cut.rest j
      rw[hne j hjk] at hle
      exact h.tr hp1 j (by rw[hm.cut.len] at hj;omega) (by omega)
     have hpk:pl (nth m3.all m.all.length)=pl o:=by rw[pl_typ (hm.cut.typ _),hk]
     by_cases ht2:o.typ=2/\0<(nth m3.all m.all.length).rest
     .rw[if_pos ht2]
      have q:=Aq.cancel m3 m.all.length hc1 (by rw[hm.cut.len];omega) ht2.2
      refine⟨(ha.trans hm.au).trans q.au,⟨q.cut.one hc1,q.cut.ok (hm.cut.ok hok),q.ref (hm.ref (by rw[hrf];exact h.ref)),fun _ j hj hjr=>?_⟩⟩
      by_cases e:j=m.all.length
      .exfalso
       subst e
       have:nth (zav m3 m.all.length).all m.all.length={nth m3.all m.all.length with rest:=0}:=by
        show nth (zaf m3.all m.all.length 0) m.all.length=_
        rw[zbs _ _ _ _ (by rw[hm.cut.len];omega),if_pos rfl]
       rw[this] at hjr
       exact absurd hjr (Nat.lt_irrefl _)
      .rw[pl_typ (q.cut.typ j)]
       exact base j (by rw[←q.cut.len];exact hj) e (lll hjr (q.cut.rest j))
     .rw[if_neg ht2]
      refine⟨ha.trans hm.au,⟨hc1,hm.cut.ok hok,hm.ref (by rw[hrf];exact h.ref),fun _ j hj hjr=>?_⟩⟩
      by_cases e:j=m.all.length
      .subst e
       rw[hpk]
       have t2:o.typ≠2:=fun e=>ht2 ⟨e,hjr⟩
       have t3:o.typ≠3:=fun e=>by have:=hmoo e;omega
       unfold pl
       simp[t2,t3]
      .exact base j hj e hjr
  exact key _ rfl rfl rfl ha
theorem Aq.reduce (m:Mk)(i n:Nat)(h1:oneId m.all)(hi:i<m.all.length)(hn:0<n)(hr:n<(nth m.all i).rest):
  Aq m (zax {m with all:=zaf m.all i ((nth m.all i).rest-n)} (mkev 5 0 (nth m.all i).id 0 0 0 n 0 0 0)):=by
 refine⟨⟨[toldM m (mkev 5 0 (nth m.all i).id 0 0 0 n 0 0 0)],rfl,bOf (zax {m with all:=zaf m.all i ((nth m.all i).rest-n)} (mkev 5 0 (nth m.all i).id 0 0 0 n 0 0 0)),⟨rfl,.inr (.inr (.inr (.inl ⟨rfl,i,?_,?_⟩)))⟩,rfl⟩,Cut.setRest m.all i _ hi (Nat.sub_le _ _),rfl,id⟩
 .exact takes_set (s:=(m.seq+1)%4294967296) h1 hi hn (by omega)
 .show ((n:Nat):Int)<(((m.all.map Od.rest).getD i 0:Nat):Int)
  rw[rests_get m.all i hi]
  omega
theorem change_au {m:Mk}(h:Iv m)(id:Nat)(by_:Int):Aq m (zbv m id by_):=by
 unfold zbv
 dsimp only
 rcases zdp m.all id m.all.length with e|⟨k,e,hk,hid,hr⟩
 .rw[e,if_pos (by decide)]
  exact Aq.reject m _ _
 .rw[e,if_neg (by omega),Int.toNat_natCast]
  by_cases hb:by_=0
  .rw[if_pos hb]
   exact Aq.reject m _ _
  .rw[if_neg hb]
   have key: ∀M,Aq m M->Aq m (if M.phase=0\/M.phase=2 then zah M 6 else M):=fun M hM=>by
    split
    .exact hM.trans (Aq.indicate M 6 (.inl rfl))
    .exact hM
   refine key _ ?_
   split
   .exact Aq.cancel m k h.one hk hr
   .rename_i hc
    have hn:((by_.toNat:Nat):Int)=by_:=by omega
    have:=Aq.reduce m k by_.toNat h.one hk (by omega) (by omega)
    rw[hn,hid] at this
    exact this
theorem sweep_clear (n:Nat)(m:Mk)(hn:n<=m.all.length)(hp:m.phase=1): ∀j,j<n->0<(nth (zai n m).all j).rest->pl (nth (zai n m).all j)=false:=by
 induction n with
 |zero=>intro j hj;omega
 |succ n ih=>
  have hf:=zcg n m
  intro j hj
  unfold zai
  dsimp only
  split
  .rename_i hc
   have hs: ∀q,nth (zav (zai n m) n).all q=if q=n then {nth (zai n m).all n with rest:=0} else nth (zai n m).all q:=fun q=>zbs _ _ _ _ (by rw[hf.1];omega)
   rw[hs j]
   by_cases e:j=n
   .rw[if_pos e]
    intro hr
    exact absurd hr (Nat.lt_irrefl _)
   .rw[if_neg e]
    exact ih (by omega) j (by omega)
  .rename_i hc
   by_cases e:j=n
   .subst e
    intro hr
    cases hpl:pl (nth (zai j m).all j) with
    |false=>rfl
    |true=>exact absurd ⟨hr,.inr ⟨by rw[hf.2.1];exact hp,hpl⟩⟩ hc
   .exact ih (by omega) j (by omega)
theorem cnd_range {m:Mk}(h:Iv m): ∀p∈cnd m.phase m.ref m.all,1<=p/\p<=1000000:=by
 intro p hp
 unfold cnd at hp
 rcases List.mem_cons.1 hp with e|hp
 .rw[e];exact h.ref
 .obtain ⟨o,ho,rfl⟩:=List.mem_map.1 hp
  obtain ⟨hm,hc⟩:=List.mem_filter.1 ho
  obtain ⟨i,hi,e⟩:=List.mem_iff_getElem.1 hm
  have en:nth m.all i=o:=by unfold nth;simp[List.getD,hi,e]
  have hok:=h.ok i hi
  rw[en] at hok
  unfold inCnd at hc
  simp only[Bool.and_eq_true,Bool.not_eq_true'] at hc
  exact⟨hok.priced hc.2,hok.price⟩
def tailM (m1:Mk):Mk:=
 let m3:=zax {m1 with phase:=m1.phase+1} (mkev 8 0 0 0 0 0 0 0 0 ((m1.phase+1:Nat):Int))
 let m4:=zai m3.all.length m3
 if m4.phase=2 then zah m4 6 else m4
theorem turn_tail (m:Mk):zbj m=tailM (if m.phase≠1 then zbg (zal m.phase m.ref m.all).1 (zal m.phase m.ref m.all).2.1 (zal m.phase m.ref m.all).2.1 (zah m 7) else m):=rfl
theorem turn_au {m:Mk}(h:Iv m):Au m (zbj m)/\Iv (zbj m):=by
 have key: ∀m1:Mk,Aq m m1->Au m (tailM m1)/\Iv (tailM m1):=by
  intro m1 hq
  have i1:=h.aq hq
  unfold tailM
  dsimp only
  generalize hm3:zax {m1 with phase:=m1.phase+1} (mkev 8 0 0 0 0 0 0 0 0 ((m1.phase+1:Nat):Int))=m3
  have a3:Au m1 m3:=by
   rw[←hm3]
   exact(Au.tell {m1 with phase:=m1.phase+1} _ (by show (8:Int)≠1/\(8:Int)≠3/\(8:Int)≠4/\(8:Int)≠5;decide)).into rfl rfl rfl
  have e3:m3.all=m1.all:=by rw[←hm3];rfl
  have r3:m3.ref=m1.ref:=by rw[←hm3];rfl
  have o3:oneId m3.all:=by rw[e3];exact i1.one
  have q4:=Aq.sweep m3.all.length m3 o3 nr
  have i4:Iv (zai m3.all.length m3):=⟨q4.cut.one o3,q4.cut.ok (by rw[e3];exact i1.ok),q4.ref (by rw[r3];exact i1.ref),fun hp j hj hr=>sweep_clear m3.all.length m3 nr (by rw[←q4.phase];exact hp) j (by rw[←q4.cut.len];exact hj) hr⟩
  have a4:=(hq.au.trans a3).trans q4.au
  generalize zai m3.all.length m3=m4 at a4 i4 ⊢
  split
  .have q:=Aq.indicate m4 6 (.inl rfl)
   exact⟨a4.trans q.au,i4.aq q⟩
  .exact⟨a4,i4⟩
 rw[turn_tail]
 refine key _ ?_
 split
 .have qi:=Aq.indicate m 7 (.inr rfl)
  obtain ⟨c1,c2,c3⟩:=ze0 m.phase m.ref m.all
  have hrange:(zal m.phase m.ref m.all).2.1≠0->1<=(zal m.phase m.ref m.all).1/\(zal m.phase m.ref m.all).1<=1000000:=by
   intro hv
   unfold zal at hv ⊢
   split at hv
   .exact absurd rfl hv
   .rename_i hne
    rw[if_neg hne]
    exact cnd_range h _ (left_sub _ _ _ _ (price_left _ _ _ hne))
  exact qi.trans (Aq.cross _ _ _ (zah m 7) h.one hrange c1 c2)
 .exact Aq.refl m
theorem turns_au (c:Cf)(t f:Nat)(m:Mk)(h:Iv m):Au m (za2 c t f m)/\Iv (za2 c t f m):=by
 induction f generalizing m with
 |zero=>exact⟨Au.refl m,h⟩
 |succ f ih=>
  unfold za2
  split
  .obtain ⟨a1,i1⟩:=turn_au h
   obtain ⟨a2,i2⟩:=ih _ i1
   exact⟨a1.trans a2,i2⟩
  .exact⟨Au.refl m,h⟩
theorem send_au (c:Cf)(m:Mk)(X:Nat->Nat)(n:Nat)(h:Iv m):Notes (bOf m) (zaz c m X n).out (bOf (zaz c m X n))/\Iv (zaz c m X n):=by
 have h0:Iv {m with out:=[]}:=⟨h.one,h.ok,h.ref,h.tr⟩
 have fin: ∀M,Au {m with out:=[]} M/\Iv M->Notes (bOf m) M.out (bOf M)/\Iv M:=by
  rintro M ⟨⟨E,e1,e2⟩,i⟩
  rw[show ({m with out:=[]}:Mk).out=[] from rfl,List.nil_append] at e1
  rw[e1]
  exact⟨e2,i⟩
 refine fin _ ?_
 have aq: ∀M,Aq {m with out:=[]} M->Au {m with out:=[]} M/\Iv M:=fun M q=>⟨q.au,h0.aq q⟩
 unfold zaz
 dsimp only
 generalize (if 0<n then X 0 else 0)=kk
 split
 .rename_i hk
  exact enter_au h0 ⟨hk.2.2.2.2.1,hk.2.2.2.2.2⟩ (by show X 5=1\/X 5=2;have:=hk.2.2.1;have:=hk.2.2.2.1;omega)
 .split
  .exact aq _ (change_au h0 _ _)
  .split
   .exact aq _ (change_au h0 _ _)
   .split
    .unfold zdu
     split
     .exact⟨Au.refl _,h0⟩
     .obtain ⟨a,i⟩:=turns_au c (num4 X 1) 3 {m with out:=[],time:=num4 X 1} ⟨h.one,h.ok,h.ref,h.tr⟩
      exact⟨a.into rfl rfl rfl,i⟩
    .exact aq _ (Aq.reject _ _ _)
theorem Iv.new {c:Cf}(h:1<=c.ref/\c.ref<=1000000):Iv (newM c):=⟨fun i j hi=>absurd hi (by simp[newM]),fun i hi=>absurd hi (by simp[newM]),h,fun _ j hj=>absurd hj (by simp[newM])⟩
end
