import Derived.Test.YtmiiejinahnpkaaGreatDoorXKsKv
import Derived.Test.YtmiiejinahnpkaaGreatDoorEm
namespace Go.Proofs.YtmiiejinahnpkaaGreatDoor
section
def okE (e:Nat->Int):Prop:=fits e=true/\ ∀j,-9223372036854775808<=e j/\e j<=9223372036854775807
theorem zi5 (s k i r b e q p u h:Int)(hs:0<=s/\s<=4294967295)(hi:0<=i/\i<=4294967295)(hr:0<=r/\r<=4294967295)(hb:0<=b/\b<=4294967295)(he:0<=e/\e<=4294967295)(hq:0<=q/\q<=4294967295)(hp:0<=p/\p<=4294967295)(hu: -9223372036854775808<=u/\u<=9223372036854775807)(hh:0<=h/\h<=4294967295)
  (hk:1<=k/\k<=8)(hf:fits (fun j=>if j=1 then s else mkev k 0 i r b e q p u h j)=true):okE (fun j=>if j=1 then s else mkev k 0 i r b e q p u h j):=by
 refine⟨hf,fun j=>?_⟩
 by_cases h1:j=1
 .simp only[if_pos h1]
  omega
 .simp only[if_neg h1]
  unfold mkev
  split<;>omega
theorem okE1 (s i q:Int)(hs:0<=s/\s<=4294967295)(hi:0<=i/\i<=4294967295)(hq:0<=q/\q<=4294967295):okE (fun j=>if j=1 then s else mkev 1 0 i 0 0 0 q 0 0 0 j):=by
 refine zi5 s 1 i 0 0 0 q 0 0 0 hs hi ⟨by decide,by decide⟩ ⟨by decide,by decide⟩ ⟨by decide,by decide⟩ hq ⟨by decide,by decide⟩ ⟨by decide,by decide⟩ ⟨by decide,by decide⟩ ⟨by decide,by decide⟩ ?_
 simp[fits,isK,isN,lay,mkev,List.range,List.range.loop]
 omega
theorem okE2 (s i r:Int)(hs:0<=s/\s<=4294967295)(hi:0<=i/\i<=4294967295)(hr:0<=r/\r<=4294967295):okE (fun j=>if j=1 then s else mkev 2 0 i r 0 0 0 0 0 0 j):=by
 refine zi5 s 2 i r 0 0 0 0 0 0 hs hi hr ⟨by decide,by decide⟩ ⟨by decide,by decide⟩ ⟨by decide,by decide⟩ ⟨by decide,by decide⟩ ⟨by decide,by decide⟩ ⟨by decide,by decide⟩ ⟨by decide,by decide⟩ ?_
 simp[fits,isK,isN,lay,mkev,List.range,List.range.loop]
 omega
theorem okE3 (s b e q p:Int)(hs:0<=s/\s<=4294967295)(hb:0<=b/\b<=4294967295)(he:0<=e/\e<=4294967295)(hq:0<=q/\q<=4294967295)(hp:0<=p/\p<=4294967295):okE (fun j=>if j=1 then s else mkev 3 0 0 0 b e q p 0 0 j):=by
 refine zi5 s 3 0 0 b e q p 0 0 hs ⟨by decide,by decide⟩ ⟨by decide,by decide⟩ hb he hq hp ⟨by decide,by decide⟩ ⟨by decide,by decide⟩ ⟨by decide,by decide⟩ ?_
 simp[fits,isK,isN,lay,mkev,List.range,List.range.loop]
 omega
theorem okE4 (s i q:Int)(hs:0<=s/\s<=4294967295)(hi:0<=i/\i<=4294967295)(hq:0<=q/\q<=4294967295):okE (fun j=>if j=1 then s else mkev 4 0 i 0 0 0 q 0 0 0 j):=by
 refine zi5 s 4 i 0 0 0 q 0 0 0 hs hi ⟨by decide,by decide⟩ ⟨by decide,by decide⟩ ⟨by decide,by decide⟩ hq ⟨by decide,by decide⟩ ⟨by decide,by decide⟩ ⟨by decide,by decide⟩ ⟨by decide,by decide⟩ ?_
 simp[fits,isK,isN,lay,mkev,List.range,List.range.loop]
 omega
theorem okE5 (s i q:Int)(hs:0<=s/\s<=4294967295)(hi:0<=i/\i<=4294967295)(hq:0<=q/\q<=4294967295):okE (fun j=>if j=1 then s else mkev 5 0 i 0 0 0 q 0 0 0 j):=by
 refine zi5 s 5 i 0 0 0 q 0 0 0 hs hi ⟨by decide,by decide⟩ ⟨by decide,by decide⟩ ⟨by decide,by decide⟩ hq ⟨by decide,by decide⟩ ⟨by decide,by decide⟩ ⟨by decide,by decide⟩ ⟨by decide,by decide⟩ ?_
 simp[fits,isK,isN,lay,mkev,List.range,List.range.loop]
 omega
theorem okE6 (s q p u:Int)(hs:0<=s/\s<=4294967295)(hq:0<=q/\q<=4294967295)(hp:0<=p/\p<=4294967295)(hu: -9223372036854775808<=u/\u<=9223372036854775807):okE (fun j=>if j=1 then s else mkev 6 0 0 0 0 0 q p u 0 j):=by
 refine zi5 s 6 0 0 0 0 q p u 0 hs ⟨by decide,by decide⟩ ⟨by decide,by decide⟩ ⟨by decide,by decide⟩ ⟨by decide,by decide⟩ hq hp hu ⟨by decide,by decide⟩ ⟨by decide,by decide⟩ ?_
 simp[fits,isK,isN,lay,mkev,List.range,List.range.loop]
 omega
theorem okE7 (s q p u:Int)(hs:0<=s/\s<=4294967295)(hq:0<=q/\q<=4294967295)(hp:0<=p/\p<=4294967295)(hu: -9223372036854775808<=u/\u<=9223372036854775807):okE (fun j=>if j=1 then s else mkev 7 0 0 0 0 0 q p u 0 j):=by
 refine zi5 s 7 0 0 0 0 q p u 0 hs ⟨by decide,by decide⟩ ⟨by decide,by decide⟩ ⟨by decide,by decide⟩ ⟨by decide,by decide⟩ hq hp hu ⟨by decide,by decide⟩ ⟨by decide,by decide⟩ ?_
 simp[fits,isK,isN,lay,mkev,List.range,List.range.loop]
 omega
theorem okE8 (s h:Int)(hs:0<=s/\s<=4294967295)(hh:0<=h/\h<=4294967295):okE (fun j=>if j=1 then s else mkev 8 0 0 0 0 0 0 0 0 h j):=by
 refine zi5 s 8 0 0 0 0 0 0 0 h hs ⟨by decide,by decide⟩ ⟨by decide,by decide⟩ ⟨by decide,by decide⟩ ⟨by decide,by decide⟩ ⟨by decide,by decide⟩ ⟨by decide,by decide⟩ ⟨by decide,by decide⟩ hh ⟨by decide,by decide⟩ ?_
 simp[fits,isK,isN,lay,mkev,List.range,List.range.loop]
 omega
structure Fm (m:Mk):Prop where
 gd:Gd m
 ids: ∀j,(nth m.all j).id<=4294967295
 out: ∀e∈m.out,okE e
variable {m:Mk}
theorem Fm.tell (h:Fm m)(e:Nat->Int)(he: ∀s:Int,0<=s/\s<=4294967295->okE (fun j=>if j=1 then s else e j)):Fm (zax m e):=by
 refine⟨h.gd.tell e,h.ids,fun x hx=>?_⟩
 simp only[zax,List.mem_append,List.mem_singleton] at hx
 rcases hx with hx|rfl
 .exact h.out x hx
 .exact he _ (by omega)
theorem Fm.all (h:Fm m)(l:List Od)(hc:Cut m.all l):Fm {m with all:=l}:=⟨h.gd.cut hc h.gd.seq h.gd.ref,fun j=>by show (nth l j).id<=_;rw[hc.id];exact h.ids j,h.out⟩
theorem Fm.rest (h:Fm m)(j:Nat):(nth m.all j).rest<=1000000000:=by
 by_cases e:j<m.all.length
 .exact zfo h.gd j e
 .unfold nth
  rw[List.getD_eq_getElem?_getD,List.getElem?_eq_none (by omega)]
  exact Nat.zero_le _
theorem Fm.reject (h:Fm m)(id why:Nat)(hi:id<=4294967295)(hw:why<=4294967295):Fm (zbh m id why):=h.tell _ fun s hs=>okE2 s id why hs (by omega) (by omega)
theorem Fm.callb (h:Fm m):(zal m.phase m.ref m.all).1<=4294967295/\(zal m.phase m.ref m.all).2.1<=1000000000/\ -1000000000<=(zal m.phase m.ref m.all).2.2/\(zal m.phase m.ref m.all).2.2<=1000000000:=by
 obtain ⟨h1,h2,h3⟩:=ze0 m.phase m.ref m.all
 refine⟨?_,llt h1 (llt (zk5 _ _ _ _) (h.gd.sum 1)),?_⟩
 .rcases h3 with e|e
  .rw[e];omega
  .exact h.gd.bds.cnd _ e
 .unfold zal
  split
  .exact⟨by decide,by decide⟩
  .have d1:=llt (zk5 m.phase m.all 1 (zdf m.phase m.ref m.all)) (h.gd.sum 1)
   have d2:=llt (zk5 m.phase m.all 2 (zdf m.phase m.ref m.all)) (h.gd.sum 2)
   dsimp only
   omega
theorem Fm.indicate (h:Fm m)(k:Nat)(hk:k=6\/k=7):Fm (zah m k):=by
 obtain ⟨h1,h2,h3,h4⟩:=h.callb
 refine h.tell _ fun s hs=>?_
 rcases hk with rfl|rfl
 .exact okE6 s _ _ _ hs (by omega) (by omega) (by omega)
 .exact okE7 s _ _ _ hs (by omega) (by omega) (by omega)
theorem Fm.cancel (h:Fm m)(i:Nat)(hi:i<m.all.length):Fm (zav m i):=by
 have h1:=h.ids i
 have h2:=h.rest i
 refine(h.tell (mkev 4 0 (nth m.all i).id 0 0 0 (nth m.all i).rest 0 0 0) fun s hs=>okE4 s _ _ hs (by omega) (by omega)).all _ ?_
 exact Cut.setRest m.all i 0 hi (Nat.zero_le _)
theorem Fm.setRef (h:Fm m)(p:Nat)(hp:p<=4294967295):Fm {m with ref:=p}:=⟨h.gd.setRef p hp,h.ids,h.out⟩
theorem Fm.phase (h:Fm m)(p:Nat):Fm {m with phase:=p}:=⟨h.gd.phase p,h.ids,h.out⟩
theorem Fm.time (h:Fm m)(p:Nat):Fm {m with time:=p}:=⟨h.gd.time p,h.ids,h.out⟩
theorem Fm.trade (h:Fm m)(i k n p:Nat)(hi:i<m.all.length)(hk:k<m.all.length)(hn:n<=4294967295)(hp:p<=4294967295):Fm (za3 m i k n p):=by
 unfold za3
 dsimp only
 have hc1:=Cut.setRest m.all i ((nth m.all i).rest-n) hi (Nat.sub_le _ _)
 have hc2:=Cut.setRest (zaf m.all i ((nth m.all i).rest-n)) k ((nth (zaf m.all i ((nth m.all i).rest-n)) k).rest-n) (by rw[zaw];exact hk) (Nat.sub_le _ _)
 have h2:Fm {m with all:=zaf (zaf m.all i ((nth m.all i).rest-n)) k ((nth (zaf m.all i ((nth m.all i).rest-n)) k).rest-n),ref:=p}:=(h.all _ (hc1.trans hc2)).setRef p hp
 have e1:=h2.ids i
 have e2:=h2.ids k
 exact h2.tell _ fun s hs=>okE3 s _ _ _ _ hs (by dsimp only at e1;omega) (by dsimp only at e2;omega) (by omega) (by omega)
theorem Fm.meet (o:Od)(k f:Nat){m:Mk}(h:Fm m)(hk:k<m.all.length):Fm (zbd o k f m):=by
 induction f generalizing m with
 |zero=>exact h
 |succ f ih=>
  by_cases hr:(nth m.all k).rest=0
  .rw[zen o k (f+1) m hr]
   exact h
  .rcases za8 m.phase m.all (3-o.side) m.all.length with e|⟨j,e,hj,_,_⟩
   .rw[zfh o k (f+1) m e]
    exact h
   .cases ht:tk o (nth m.all j).price with
    |false=>
     rw[zeu o k (f+1) j m e ht]
     exact h
    |true=>
     rw[zem o k f j m hr e ht]
     have hp:=h.gd.price _ (zg1 hj)
     have hr1:=h.rest k
     split
     .exact ih (h.trade k j _ _ hk hj (by omega) hp) (by rw[zd1];exact hk)
     .exact ih (h.trade j k _ _ hj hk (by omega) hp) (by rw[zd1];exact hk)
theorem Fm.cross (p f v:Nat){m:Mk}(h:Fm m)(hp:p<=4294967295)(hv:v<=4294967295)(h1:v<=dep m.phase m.all 1 p)(h2:v<=dep m.phase m.all 2 p):Fm (zbg p f v m):=by
 induction f generalizing m v with
 |zero=>exact h
 |succ f ih=>
  by_cases hv0:v=0
  .rw[hv0,zey]
   exact h
  .rcases za8 m.phase m.all 1 m.all.length with e|⟨a,ea,ha,ba,sa⟩
   .have:=zfz m.phase m.all 1 p e
    omega
   .rcases za8 m.phase m.all 2 m.all.length with e|⟨b,eb,hb,bb,sb⟩
    .have:=zfz m.phase m.all 2 p e
     omega
    .rw[zex p f v a b m hv0 ea eb]
     have ht:=Trd.trade m a b (min v (min (nth m.all a).rest (nth m.all b).rest)) p ha hb hp
     refine ih _ (h.trade a b _ p ha hb (by omega) hp) (by omega) ?_ ?_
     .have:=zc8 m a b (min v (min (nth m.all a).rest (nth m.all b).rest)) p 1 p ha hb (by omega) (.inl sa.symm)
      rw[ht.phase]
      omega
     .have:=zc8 m a b (min v (min (nth m.all a).rest (nth m.all b).rest)) p 2 p ha hb (by omega) (.inr sb.symm)
      rw[ht.phase]
      omega
theorem Fm.sweep (n:Nat){m:Mk}(h:Fm m)(hn:n<=m.all.length):Fm (zai n m):=by
 induction n with
 |zero=>exact h
 |succ n ih=>
  unfold zai
  dsimp only
  have h1:=ih (by omega)
  split
  .exact h1.cancel n (by rw[(zcg n m).1];omega)
  .exact h1
theorem Fm.uncross (h:Fm m):Fm (zbu m):=by
 obtain ⟨h1,h2,h3⟩:=ze0 m.phase m.ref m.all
 obtain ⟨b1,b2,_,_⟩:=h.callb
 exact Fm.cross _ _ _ (h.indicate 7 (.inr rfl)) b1 (by omega) h1 h2
theorem Fm.turned (h:Fm m)(ph:Nat)(hp:ph<=4294967295):Fm (zbm m ph):=(h.phase ph).tell _ fun s hs=>okE8 s ph hs (by omega)
theorem Fm.turn (h:Fm m)(hp:m.phase<=2):Fm (zbj m):=by
 have:m.phase=0\/m.phase=1\/m.phase=2:=by omega
 rcases this with e|e|e
 .rw[zhg h.gd e]
  exact(h.uncross.turned 1 (by omega)).sweep _ nr
 .rw[zjp e]
  exact(h.turned 2 (by omega)).indicate 6 (.inl rfl)
 .rw[zjo h.gd e]
  exact(h.uncross.turned 3 (by omega)).sweep _ nr
theorem Fm.turns (c:Cf)(t f:Nat){m:Mk}(h:Fm m):Fm (za2 c t f m):=by
 induction f generalizing m with
 |zero=>exact h
 |succ f ih=>
  unfold za2
  split
  .rename_i hh
   exact ih (h.turn (by omega))
  .exact h
theorem Fm.tick (c:Cf)(t:Nat){m:Mk}(h:Fm m):Fm (zdu c m t):=by
 unfold zdu
 split
 .exact h
 .exact Fm.turns c t 3 (h.time t)
theorem Fm.change (id:Nat)(by_:Int){m:Mk}(h:Fm m)(hi:id<=4294967295)(hb:by_<=4294967295):Fm (zbv m id by_):=by
 unfold zbv
 dsimp only
 split
 .exact h.reject _ _ hi (by omega)
 .rename_i hk
  split
  .exact h.reject _ _ hi (by omega)
  .rename_i hb0
   have hil:(zas m.all id m.all.length).toNat<m.all.length:=by
    rcases zdp m.all id m.all.length with e|⟨k,e,hk',_⟩
    .omega
    .rw[e];simpa using hk'
   have key:Fm (if by_<0\/((nth m.all (zas m.all id m.all.length).toNat).rest:Int)<=by_ then zav m (zas m.all id m.all.length).toNat
     else zax {m with all:=zaf m.all (zas m.all id m.all.length).toNat ((nth m.all (zas m.all id m.all.length).toNat).rest-by_.toNat)} (mkev 5 0 id 0 0 0 by_ 0 0 0)):=by
    split
    .exact h.cancel _ hil
    .rename_i hn
     exact(h.all _ (Cut.setRest m.all _ _ hil (Nat.sub_le _ _))).tell _ fun s hs=>okE5 s id by_ hs (by omega) (by omega)
   generalize (if by_<0\/((nth m.all (zas m.all id m.all.length).toNat).rest:Int)<=by_ then zav m (zas m.all id m.all.length).toNat else zax {m with all:=zaf m.all (zas m.all id m.all.length).toNat ((nth m.all (zas m.all id m.all.length).toNat).rest-by_.toNat)} (mkev 5 0 id 0 0 0 by_ 0 0 0))=m1 at *
   split
   .exact key.indicate 6 (.inl rfl)
   .exact key
theorem Fm.enter (c:Cf)(o:Od){m:Mk}(h:Fm m)(hi:o.id<=4294967295)(hq:o.rest<=4294967295)(hp:o.price<=4294967295)(hs:o.side=1\/o.side=2)(hl:m.all.length<=1048575)(hct:c.total<=1000000000):Fm (zce c m o):=by
 unfold zce
 by_cases hr:zbc c m o=0
 .rw[if_neg (by omega)]
  have ht:o.rest+zba m.all o.side<=1000000000:=by
   by_cases e:c.total<o.rest+zba m.all o.side
   .exfalso
    unfold zbc at hr
    repeat' split at hr
    all_goals first|(exact absurd hr (by decide))|(rename_i h8;exact h8 e)
   .omega
  have h1:=h.tell (mkev 1 0 o.id 0 0 0 o.rest 0 0 0) fun s hs=>okE1 s _ _ hs (by omega) (by omega)
  have h2:Fm {zax m (mkev 1 0 o.id 0 0 0 o.rest 0 0 0) with all:=(zax m (mkev 1 0 o.id 0 0 0 o.rest 0 0 0)).all++[o]}:=by
   refine⟨h1.gd.push o hl hp hs ht,fun j=>?_,h1.out⟩
   show (nth (m.all++[o]) j).id<=4294967295
   by_cases e:j<m.all.length
   .rw[zdn m.all o j e]
    exact h.ids j
   .by_cases e2:j=m.all.length
    .rw[e2,zc2]
     exact hi
    .unfold nth
     rw[List.getD_eq_getElem?_getD,List.getElem?_eq_none (by simp;omega)]
     exact Nat.zero_le _
  have hlen:m.all.length<(m.all++[o]).length:=by simp
  dsimp only
  split
  .exact h2.indicate 6 (.inl rfl)
  .split
   .exact h2
   .have h3:=Fm.meet o m.all.length o.rest h2 hlen
    split
    .refine h3.cancel _ ?_
     have:=(Trd.meet o m.all.length o.rest _ hlen fun j hj=>h2.gd.price _ (zg1 hj)).cut.len
     rw[this]
     exact hlen
    .exact h3
 .rw[if_pos hr]
  refine h.reject _ _ hi ?_
  unfold zbc
  repeat' split
  all_goals omega
theorem Fm.send (c:Cf)(m:Mk)(X:Nat->Nat)(n:Nat)(hg:Gd m)(hi: ∀j,(nth m.all j).id<=4294967295)(hX: ∀i,X i<=255)(hl:m.all.length<=1048575)(hct:c.total<=1000000000):Fm (zaz c m X n):=by
 have h0:Fm {m with out:=[]}:=⟨hg.out [],hi,fun e he=>by cases he⟩
 unfold zaz
 dsimp only
 generalize (if 0<n then X 0 else 0)=k
 split
 .rename_i h1
  exact h0.enter c _ (zct X 1 hX) (zct X 7 hX) (zct X 11 hX) (by show X 5=1\/X 5=2;omega) hl hct
 .split
  .exact h0.change _ _ (zct X 1 hX) (by omega)
  .split
   .have:=zct X 5 hX
    exact h0.change _ _ (zct X 1 hX) (by omega)
   .split
    .exact h0.tick c _
    .exact h0.reject 0 1 (by omega) (by omega)
end
section
theorem obey_new (c:Cf)(m:Mk)(id sd ty q p t:Nat)(hty:1<=ty/\ty<=4)(hsd:isSd sd)(hg:Gd m)(hph:m.phase<=3)(hp:p<=4294967295):zjh c m 1 id sd ty q p t=zce c m ⟨id,sd,ty,p,q⟩:=by
 have hre:zcv c m 1 id sd ty q p=zbc c m ⟨id,sd,ty,p,q⟩:=by
  unfold zcv
  rw[if_pos rfl]
 unfold zjh zce
 rw[hre]
 by_cases hr:zbc c m ⟨id,sd,ty,p,q⟩=0
 .have h3:=(zet (c:=c) (m:=m) (o:=⟨id,sd,ty,p,q⟩) hty hsd hr).2.2.2.2.2
  rw[if_neg (by omega),if_neg (by omega),if_neg (by omega)]
  have hph1:=zhx m 1 id sd ty q p hg (fun _=>hsd) (.inl rfl) hp
  have hch:zcx m 1 id sd ty q p=zbr m ⟨id,sd,ty,p,q⟩:=by
   unfold zcx
   rw[if_neg (by omega),if_neg (by omega)]
  rw[hch] at hph1 ⊢
  dsimp only
  change zbw (zbr m ⟨id,sd,ty,p,q⟩)=if (zbl m ⟨id,sd,ty,p,q⟩).phase≠1 then zah (zbl m ⟨id,sd,ty,p,q⟩) 6
   else if wt (zbl m ⟨id,sd,ty,p,q⟩).phase ⟨id,sd,ty,p,q⟩=true then zbl m ⟨id,sd,ty,p,q⟩
   else if ty=2/\0<(nth (zbd ⟨id,sd,ty,p,q⟩ m.all.length q (zbl m ⟨id,sd,ty,p,q⟩)).all m.all.length).rest then zav (zbd ⟨id,sd,ty,p,q⟩ m.all.length q (zbl m ⟨id,sd,ty,p,q⟩)) m.all.length else zbd ⟨id,sd,ty,p,q⟩ m.all.length q (zbl m ⟨id,sd,ty,p,q⟩)
  have ha:(zbl m ⟨id,sd,ty,p,q⟩).phase=m.phase:=rfl
  have hn:nth (zbl m ⟨id,sd,ty,p,q⟩).all m.all.length=⟨id,sd,ty,p,q⟩:=zc2 _ _
  rw[ha]
  by_cases h1:m.phase=1
  .unfold zbw
   rw[hph1,if_neg (by omega),if_neg (by omega)]
   unfold zbr
   rw[if_pos h1]
   unfold zhe
   rw[hn,ha]
  .unfold zbw
   rw[hph1,if_pos (by omega),if_pos h1]
   unfold zbr
   rw[if_neg h1]
 .rw[if_pos hr,if_pos hr]
theorem obey_cancel (c:Cf)(m:Mk)(id:Nat):zjh c m 2 id 0 0 0 0 0=zbv m id (-1):=by
 have hre:zcv c m 2 id 0 0 0 0=if zas m.all id m.all.length<0 then 3 else 0:=by
  unfold zcv
  rw[if_neg (by omega),if_pos rfl]
 unfold zjh zbv
 rw[hre]
 dsimp only
 by_cases hl:zas m.all id m.all.length<0
 .rw[if_pos hl,if_pos (by omega),if_pos hl]
 .rw[if_neg hl,if_neg (by omega),if_neg (by omega),if_neg hl,if_neg (by omega)]
  have hch:zcx m 2 id 0 0 0 0=zav m (zas m.all id m.all.length).toNat:=by
   unfold zcx
   rw[if_pos rfl]
  rw[hch]
  have hx:(if (-1:Int)<0\/((nth m.all (zas m.all id m.all.length).toNat).rest:Int)<= -1 then zav m (zas m.all id m.all.length).toNat else zax {m with all:=zaf m.all (zas m.all id m.all.length).toNat ((nth m.all (zas m.all id m.all.length).toNat).rest-(-1:Int).toNat)} (mkev 5 0 id 0 0 0 (-1) 0 0 0))=zav m (zas m.all id m.all.length).toNat:=if_pos (.inl (by omega))
  rw[hx]
  rfl
theorem obey_reduce (c:Cf)(m:Mk)(id q:Nat):zjh c m 3 id 0 0 q 0 0=zbv m id q:=by
 have hre:zcv c m 3 id 0 0 q 0=if zas m.all id m.all.length<0 then 3 else if q=0 then 4 else 0:=by
  unfold zcv
  rw[if_neg (by omega),if_neg (by omega),if_pos rfl]
 unfold zjh zbv
 rw[hre]
 dsimp only
 by_cases hl:zas m.all id m.all.length<0
 .rw[if_pos hl,if_pos (by omega),if_pos hl]
 .rw[if_neg hl,if_neg hl]
  by_cases hq:q=0
  .rw[if_pos hq,if_pos (by omega),if_pos (by omega)]
  .rw[if_neg hq,if_neg (by omega),if_neg (by omega),if_neg (by omega)]
   have hch:zcx m 3 id 0 0 q 0=ze9 m (zas m.all id m.all.length).toNat q:=by
    unfold zcx
    rw[if_neg (by omega),if_pos rfl]
   rw[hch]
   have hid:(nth m.all (zas m.all id m.all.length).toNat).id=id:=by
    rcases zdp m.all id m.all.length with e|⟨k,e,_,h2,_⟩
    .omega
    .rw[e];simpa using h2
   have hred:ze9 m (zas m.all id m.all.length).toNat q=if (q:Int)<0\/((nth m.all (zas m.all id m.all.length).toNat).rest:Int)<=(q:Int) then zav m (zas m.all id m.all.length).toNat
     else zax {m with all:=zaf m.all (zas m.all id m.all.length).toNat ((nth m.all (zas m.all id m.all.length).toNat).rest-(q:Int).toNat)} (mkev 5 0 id 0 0 0 q 0 0 0):=by
    unfold ze9
    by_cases hr:(nth m.all (zas m.all id m.all.length).toNat).rest<=q
    .rw[if_pos hr,if_pos (.inr (by omega))]
    .rw[if_neg hr,if_neg (by omega),hid]
     rfl
   rw[←hred]
   rfl
theorem obey_tick (c:Cf)(m:Mk)(t:Nat):zjh c m 4 0 0 0 0 0 t=zdu c m t:=by
 have hre:zcv c m 4 0 0 0 0 0=0:=by
  unfold zcv
  rw[if_neg (by omega),if_neg (by omega),if_neg (by omega)]
 unfold zjh
 rw[hre,if_neg (by omega),if_pos rfl]
end
