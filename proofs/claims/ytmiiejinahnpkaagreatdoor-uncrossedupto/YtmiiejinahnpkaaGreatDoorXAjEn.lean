import Derived.Test.YtmiiejinahnpkaaGreatDoorXKuKw
import Derived.Test.YtmiiejinahnpkaaGreatDoorXKyKz
set_option maxRecDepth 8000
set_option maxHeartbeats 2000000
namespace Go.Proofs.YtmiiejinahnpkaaGreatDoor
section
theorem zfx (a:Od)(l:List Od):zap (a::l)=(if 0<a.rest then 1 else 0)+zap l:=by
 unfold zap
 rw[List.filter_cons]
 by_cases h:0<a.rest
 .simp[h];omega
 .simp[h]
theorem zb9 (l:List Od)(i r:Nat)(hr:r<=(nth l i).rest):zap (zaf l i r)<=zap l:=by
 unfold zaf
 induction l generalizing i with
 |nil=>simp
 |cons a l ih=>
  cases i with
  |zero=>
   have h':r<=a.rest:=hr
   simp only[List.modify_zero_cons,zfx]
   split<;>split<;>omega
  |succ i=>
   have:=ih i hr
   simp only[List.modify_succ_cons,zfx]
   omega
theorem zg6 (l:List Od)(i:Nat)(hi:i<l.length)(h:0<(nth l i).rest):zap (zaf l i 0)+1=zap l:=by
 unfold zaf
 induction l generalizing i with
 |nil=>simp at hi
 |cons a l ih=>
  cases i with
  |zero=>
   have h':0<a.rest:=h
   simp only[List.modify_zero_cons,zfx]
   simp[h']
   omega
  |succ i=>
   have:=ih i (by simpa using hi) h
   simp only[List.modify_succ_cons,zfx]
   omega
def load (m:Mk):Nat:=m.out.length+zap m.all
theorem zht (m:Mk)(e:Nat->Int):load (zax m e)=load m+1:=by
 unfold load zax
 simp
 omega
theorem zeg (m:Mk)(k:Nat):load (zah m k)=load m+1:=zht m _
theorem zg4 (m:Mk)(i k:Nat):load (zbh m i k)=load m+1:=zht m _
theorem zg5 (m:Mk)(i:Nat)(hi:i<m.all.length)(h:0<(nth m.all i).rest):load (zav m i)=load m:=by
 have:=zg6 m.all i hi h
 unfold load zav zax
 simp
 omega
theorem zij (m:Mk)(i k n p:Nat)(hi:i<m.all.length)(hk:k<m.all.length)(hik:i≠k):load (za3 m i k n p)<=load m+1/\((0<(nth m.all i).rest/\n=(nth m.all i).rest)\/(0<(nth m.all k).rest/\n=(nth m.all k).rest)->load (za3 m i k n p)<=load m):=by
 have ho:=zf4 m i k n p
 have ha:=zhi m i k n p hi hik
 have hnk:nth (zaf m.all i ((nth m.all i).rest-n)) k=nth m.all k:=by rw[zbs _ _ _ _ hi,if_neg (fun e=>hik e.symm)]
 have h1:=zb9 m.all i ((nth m.all i).rest-n) (Nat.sub_le _ _)
 have h2:=zb9 (zaf m.all i ((nth m.all i).rest-n)) k ((nth m.all k).rest-n) (by rw[hnk];exact Nat.sub_le _ _)
 unfold load
 rw[ho,ha]
 refine⟨by omega,fun h=>?_⟩
 rcases h with ⟨h3,h4⟩|⟨h3,h4⟩
 .have:=zg6 m.all i hi h3
  rw[h4,Nat.sub_self] at h1 h2
  rw[h4,Nat.sub_self]
  omega
 .have hz:=zg6 (zaf m.all i ((nth m.all i).rest-n)) k (by rw[zaw];exact hk) (by rw[hnk];exact h3)
  rw[show (nth m.all k).rest-n=0 by omega]
  omega
theorem load_cross (p f v:Nat)(m:Mk)(hp:p<=4294967295)(hg:Gd m)(h1:v<=dep m.phase m.all 1 p)(h2:v<=dep m.phase m.all 2 p):load (zbg p f v m)<=load m+if v=0 then 0 else 1:=by
 induction f generalizing v m with
 |zero=>
  show load m<=_
  split<;>omega
 |succ f ih=>
  by_cases hv:v=0
  .subst hv
   rw[zey]
   simp
  .rcases za8 m.phase m.all 1 m.all.length with e1|⟨a,e1,ha,ba,sa⟩
   .exact absurd (zfz m.phase m.all 1 p e1) (by omega)
   .rcases za8 m.phase m.all 2 m.all.length with e2|⟨b,e2,hb,bb,sb⟩
    .exact absurd (zfz m.phase m.all 2 p e2) (by omega)
    .rw[zex p f v a b m hv e1 e2,if_neg hv]
     have hne:a≠b:=fun e=>by rw[e,sb] at sa;omega
     have hab:(nth m.all a).side≠(nth m.all b).side:=by rw[sa,sb];decide
     have d1:=zc8 m a b (min v (min (nth m.all a).rest (nth m.all b).rest)) p 1 p ha hb hab (.inl sa.symm)
     have d2:=zc8 m a b (min v (min (nth m.all a).rest (nth m.all b).rest)) p 2 p ha hb hab (.inr sb.symm)
     have ra:=zeb ba
     have rb:=zeb bb
     obtain ⟨l1,l2⟩:=zij m a b (min v (min (nth m.all a).rest (nth m.all b).rest)) p ha hb hne
     have:=ih (v-min v (min (nth m.all a).rest (nth m.all b).rest)) (za3 m a b (min v (min (nth m.all a).rest (nth m.all b).rest)) p) (hg.trade _ _ _ _ hp) (by show _<=dep m.phase _ 1 p;omega) (by show _<=dep m.phase _ 2 p;omega)
     by_cases hz:v-min v (min (nth m.all a).rest (nth m.all b).rest)=0
     .rw[if_pos hz] at this
      omega
     .rw[if_neg hz] at this
      have:=l2 (by omega)
      omega
theorem load_sweep (n:Nat)(m:Mk)(hn:n<=m.all.length):load (zai n m)=load m:=by
 induction n with
 |zero=>rfl
 |succ n ih=>
  rw[zfl]
  split
  .rename_i h
   rw[zg5 _ n (by rw[(zcg n m).1];omega) h.1]
   exact ih (by omega)
  .exact ih (by omega)
theorem zi7 (m:Mk):load (zc0 m)<=load m+2:=by
 unfold zc0
 dsimp only
 have h1:=load_sweep (zax {m with phase:=m.phase+1} (mkev 8 0 0 0 0 0 0 0 0 (m.phase+1))).all.length (zax {m with phase:=m.phase+1} (mkev 8 0 0 0 0 0 0 0 0 (m.phase+1))) nr
 have h2:load (zax {m with phase:=m.phase+1} (mkev 8 0 0 0 0 0 0 0 0 (m.phase+1)))=load m+1:=zht _ _
 split
 .rw[zeg];omega
 .omega
theorem load_turn (m:Mk)(hg:Gd m):load (zbj m)<=load m+4:=by
 rw[zhh]
 split
 .have hc:=ze0 m.phase m.ref m.all
  have hp:(zal m.phase m.ref m.all).1<=4294967295:=by
   rcases hc.2.2 with e|e
   .rw[e];omega
   .exact hg.bds.cnd _ e
  have h1:=zi7 (zbg (zal m.phase m.ref m.all).1 (zal m.phase m.ref m.all).2.1 (zal m.phase m.ref m.all).2.1 (zah m 7))
  have h2:=load_cross (zal m.phase m.ref m.all).1 (zal m.phase m.ref m.all).2.1 (zal m.phase m.ref m.all).2.1 (zah m 7) hp (hg.indicate 7) hc.1 hc.2.1
  have h3:=zeg m 7
  split at h2<;>omega
 .have:=zi7 m
  omega
theorem load_turns (c:Cf)(t f:Nat)(m:Mk)(hg:Gd m):load (za2 c t f m)<=load m+4 * f:=by
 induction f generalizing m with
 |zero=>exact nr
 |succ f ih=>
  unfold za2
  split
  .rename_i h
   have h1:=ih (zbj m) ((zfj m (by omega)).2.2.2.1 hg)
   have h2:=load_turn m hg
   omega
  .omega
theorem load_tick (c:Cf)(m:Mk)(t:Nat)(hg:Gd m):load (zdu c m t)<=load m+12:=by
 unfold zdu
 split
 .omega
 .exact load_turns c t 3 {m with time:=t} (hg.time t)
end
section
theorem zkq (l:List Od)(o:Od):zap (l++[o])=zap l+if 0<o.rest then 1 else 0:=by
 unfold zap
 rw[List.filter_append,List.length_append]
 congr 1
 by_cases h:0<o.rest<;>simp[h]
theorem meet_facts (o:Od)(k f:Nat)(m:Mk)(_ho:o.side=1\/o.side=2)(hk:k<m.all.length)(hs:(nth m.all k).side=o.side)(hg:Gd m):
  load (zbd o k f m)<=load m/\zap (zbd o k f m).all<=zap m.all/\Gd (zbd o k f m)/\(zbd o k f m).all.length=m.all.length/\(zbd o k f m).phase=m.phase/\(zbd o k f m).time=m.time:=by
 induction f generalizing m with
 |zero=>exact⟨nr,nr,hg,rfl,rfl,rfl⟩
 |succ f ih=>
  by_cases hr:(nth m.all k).rest=0
  .rw[zen o k (f+1) m hr]
   exact⟨nr,nr,hg,rfl,rfl,rfl⟩
  .rcases za8 m.phase m.all (3-o.side) m.all.length with e|⟨j,e,hj,bj,sj⟩
   .rw[zfh o k (f+1) m e]
    exact⟨nr,nr,hg,rfl,rfl,rfl⟩
   .cases ht:tk o (nth m.all j).price with
    |false=>
     rw[zeu o k (f+1) j m e ht]
     exact⟨nr,nr,hg,rfl,rfl,rfl⟩
    |true=>
     rw[zem o k f j m hr e ht]
     have hne:k≠j:=fun h=>by rw[h,sj] at hs;omega
     have rj:=zeb bj
     have hpr:(nth m.all j).price<=4294967295:=hg.price _ (by unfold nth;simp[List.getD,hj])
     have key: ∀M:Mk,load M<=load m->M.out.length=m.out.length+1->Gd M->M.all.length=m.all.length->M.phase=m.phase->M.time=m.time->(nth M.all k).side=o.side->load (zbd o k f M)<=load m/\zap (zbd o k f M).all<=zap m.all/\Gd (zbd o k f M)/\(zbd o k f M).all.length=m.all.length/\(zbd o k f M).phase=m.phase/\(zbd o k f M).time=m.time:=by
      intro M q1 q2 q3 q4 q5 q6 q7
      obtain ⟨z1,z2,z3,z4,z5,z6⟩:=ih M (by rw[q4];exact hk) q7 q3
      refine⟨by omega,?_,z3,by rw[z4,q4],by rw[z5,q5],by rw[z6,q6]⟩
      unfold load at q1
      omega
     split
     .obtain ⟨_,l2⟩:=zij m k j (min (nth m.all k).rest (nth m.all j).rest) (nth m.all j).price hk hj hne
      refine key _ (l2 (by omega)) (zf4 _ _ _ _ _) (hg.trade _ _ _ _ hpr) (zd1 _ _ _ _ _) rfl rfl ?_
      rw[zff m k j _ _ k hk hj hne,if_pos (.inl rfl)]
      exact hs
     .obtain ⟨_,l2⟩:=zij m j k (min (nth m.all k).rest (nth m.all j).rest) (nth m.all j).price hj hk hne.symm
      refine key _ (l2 (by omega)) (zf4 _ _ _ _ _) (hg.trade _ _ _ _ hpr) (zd1 _ _ _ _ _) rfl rfl ?_
      rw[zff m j k _ _ k hj hk hne.symm,if_pos (.inr rfl)]
      exact hs
structure Lf (c:Cf) (m m':Mk):Prop where
 load:load m'<=load m+12
 gd:Gd m'
 phase:m'.phase<=3
 len:m'.all.length<=m.all.length+1
 live:zap m'.all<=c.orders
theorem zhd (m:Mk)(i:Nat):zap (zav m i).all<=zap m.all:=zb9 m.all i 0 (Nat.zero_le _)
theorem enter_leaves (c:Cf)(m:Mk)(o:Od)(hg:Gd m)(hph:m.phase<=3)(hl:m.all.length<=1048575)(hct:c.total<=1000000000)(hlv:zap m.all<=c.orders)(hos:o.side=1\/o.side=2):Lf c m (zce c m o):=by
 by_cases hr:zbc c m o=0
 .obtain ⟨r1,r2,r3,_,_,_,r7,_,_⟩:=refused0 hr
  have hG2:Gd {zax m (mkev 1 0 o.id 0 0 0 o.rest 0 0 0) with all:=m.all++[o]}:=(hg.tell _).push o hl (by omega) hos (llt r1 hct)
  have hC:zce c m o=(let m2:={zax m (mkev 1 0 o.id 0 0 0 o.rest 0 0 0) with all:=m.all++[o]}
    if m.phase≠1 then zah m2 6 else if wt m.phase o then m2 else
     let m3:=zbd o m.all.length o.rest m2
     if o.typ=2/\0<(nth m3.all m.all.length).rest then zav m3 m.all.length else m3):=by
   unfold zce
   rw[if_neg (by simp[hr])]
   rfl
  have hlo:load {zax m (mkev 1 0 o.id 0 0 0 o.rest 0 0 0) with all:=m.all++[o]}=load m+2:=by
   unfold load
   simp only[zkq,if_pos r2]
   simp[zax]
   omega
  have hli:zap (m.all++[o])<=c.orders:=by rw[zkq,if_pos r2];omega
  obtain ⟨M2,e2⟩: ∃M2,({zax m (mkev 1 0 o.id 0 0 0 o.rest 0 0 0) with all:=m.all++[o]}:Mk)=M2:=⟨_,rfl⟩
  have ea:M2.all=m.all++[o]:=by rw[←e2]
  have ep:M2.phase=m.phase:=by rw[←e2];rfl
  have hlen:M2.all.length=m.all.length+1:=by rw[ea];simp
  have hnk:nth M2.all m.all.length=o:=by rw[ea];simp[nth]
  rw[e2] at hG2 hlo hC
  rw[←ea] at hli
  rw[hC]
  dsimp only
  split
  .exact⟨by rw[zeg,hlo];omega,hG2.indicate 6,by show M2.phase<=3;omega,by show M2.all.length<=_;omega,hli⟩
  .split
   .exact⟨by rw[hlo];omega,hG2,by omega,by omega,hli⟩
   .obtain ⟨z1,z2,z3,z4,z5,z6⟩:=meet_facts o m.all.length o.rest M2 hos (by omega) (by rw[hnk]) hG2
    split
    .rename_i hc
     refine⟨?_,z3.cancel _,by show (zbd _ _ _ _).phase<=3;rw[z5];omega,by rw[zir,z4,hlen];omega,llt (zhd _ _) (llt z2 hli)⟩
     rw[zg5 _ _ (by rw[z4,hlen];omega) hc.2]
     omega
    .exact⟨by omega,z3,by rw[z5];omega,by rw[z4,hlen];omega,llt z2 hli⟩
 .have hC:zce c m o=zbh m o.id (zbc c m o):=by
   unfold zce
   rw[if_pos hr]
  rw[hC]
  exact⟨by rw[zg4];omega,hg.reject _ _,hph,by show m.all.length<=_;omega,hlv⟩
theorem zhw (c:Cf)(m:Mk)(id:Nat)(by_:Int)(hg:Gd m)(hph:m.phase<=3)(hlv:zap m.all<=c.orders):Lf c m (zbv m id by_):=by
 have rej: ∀w,Lf c m (zbh m id w):=fun w=>⟨by rw[zg4];omega,hg.reject _ _,hph,by show m.all.length<=_;omega,hlv⟩
 rcases zdp m.all id m.all.length with hL|⟨k,hL,hkn,_,hkr⟩
 .have:zbv m id by_=zbh m id 3:=by
   unfold zbv
   dsimp only
   rw[hL,if_pos (by omega)]
  rw[this]
  exact rej 3
 .unfold zbv
  dsimp only
  rw[hL,if_neg (by omega),Int.toNat_natCast]
  split
  .exact rej 4
  .have key: ∀m1:Mk,load m1<=load m+1->Gd m1->m1.phase=m.phase->m1.all.length=m.all.length->zap m1.all<=zap m.all->Lf c m (if m1.phase=0\/m1.phase=2 then zah m1 6 else m1):=by
    intro m1 q1 q2 q3 q4 q5
    split
    .exact⟨by rw[zeg];omega,q2.indicate 6,by show m1.phase<=3;omega,by show m1.all.length<=_;omega,llt q5 hlv⟩
    .exact⟨by omega,q2,by omega,by omega,llt q5 hlv⟩
   split
   .exact key _ (by rw[zg5 m k hkn hkr];omega) (hg.cancel k) rfl (zir _ _) (zhd _ _)
   .refine key _ ?_ ((hg.setRest k _ (Nat.sub_le _ _)).tell _) rfl (zaw _ _ _) (zb9 _ _ _ (Nat.sub_le _ _))
    rw[zht]
    have:=zb9 m.all k ((nth m.all k).rest-by_.toNat) (Nat.sub_le _ _)
    unfold load
    simp only
    omega
theorem trade_live (m:Mk)(i k n p:Nat):zap (za3 m i k n p).all<=zap m.all:=by
 have h1:=zb9 m.all i ((nth m.all i).rest-n) (Nat.sub_le _ _)
 have h2:=zb9 (zaf m.all i ((nth m.all i).rest-n)) k ((nth (zaf m.all i ((nth m.all i).rest-n)) k).rest-n) (Nat.sub_le _ _)
 exact llt h2 h1
theorem cross_live (p f v:Nat)(m:Mk):zap (zbg p f v m).all<=zap m.all:=by
 induction f generalizing v m with
 |zero=>exact nr
 |succ f ih=>
  unfold zbg
  split
  .exact nr
  .exact llt (ih _ _) (trade_live _ _ _ _ _)
theorem sweep_live (n:Nat)(m:Mk):zap (zai n m).all<=zap m.all:=by
 induction n with
 |zero=>exact nr
 |succ n ih=>
  rw[zfl]
  split
  .exact llt (zhd _ _) ih
  .exact ih
theorem turn_live (m:Mk):zap (zbj m).all<=zap m.all:=by
 have te: ∀m:Mk,zap (zc0 m).all<=zap m.all:=by
  intro m
  unfold zc0
  dsimp only
  have h:=sweep_live (zax {m with phase:=m.phase+1} (mkev 8 0 0 0 0 0 0 0 0 (m.phase+1))).all.length (zax {m with phase:=m.phase+1} (mkev 8 0 0 0 0 0 0 0 0 (m.phase+1)))
  split
  .exact h
  .exact h
 rw[zhh]
 split
 .exact llt (te _) (cross_live _ _ _ (zah m 7))
 .exact te m
theorem turns_leaves (c:Cf)(t f:Nat)(m:Mk)(hg:Gd m)(hph:m.phase<=3):Gd (za2 c t f m)/\(za2 c t f m).phase<=3/\(za2 c t f m).all.length=m.all.length/\zap (za2 c t f m).all<=zap m.all:=by
 induction f generalizing m with
 |zero=>exact⟨hg,hph,rfl,nr⟩
 |succ f ih=>
  unfold za2
  split
  .rename_i h
   obtain ⟨e1,_,_,e4,e5⟩:=zfj m (by omega)
   obtain ⟨z1,z2,z3,z4⟩:=ih (zbj m) (e4 hg) (by omega)
   exact⟨z1,z2,by rw[z3,e5],llt z4 (turn_live m)⟩
  .exact⟨hg,hph,rfl,nr⟩
theorem tick_leaves (c:Cf)(m:Mk)(t:Nat)(hg:Gd m)(hph:m.phase<=3)(hlv:zap m.all<=c.orders):Lf c m (zdu c m t):=by
 have hl:=load_tick c m t hg
 by_cases ht:t<=m.time
 .have e:zdu c m t=m:=by unfold zdu;rw[if_pos ht]
  rw[e] at hl ⊢
  exact⟨hl,hg,hph,by omega,hlv⟩
 .have e:zdu c m t=za2 c t 3 {m with time:=t}:=by unfold zdu;rw[if_neg ht]
  obtain ⟨z1,z2,z3,z4⟩:=turns_leaves c t 3 {m with time:=t} (hg.time t) hph
  rw[e] at hl ⊢
  exact⟨hl,z1,z2,by rw[z3];exact Nat.le_succ _,llt z4 hlv⟩
theorem zfm (c:Cf)(m:Mk)(X:Nat->Nat)(n:Nat)(hg:Gd m)(hph:m.phase<=3)(hl:m.all.length<=1048575)(hct:c.total<=1000000000)(hlv:zap m.all<=c.orders):
  Lf c {m with out:=[]} (zaz c m X n)/\(zaz c m X n).out.length<=c.orders+12:=by
 have h:Lf c {m with out:=[]} (zaz c m X n):=by
  have hg':Gd {m with out:=[]}:=hg.out []
  unfold zaz
  dsimp only
  generalize (if 0<n then X 0 else 0)=kk
  split
  .rename_i h
   exact enter_leaves c _ ⟨num4 X 1,X 5,X 6,num4 X 11,num4 X 7⟩ hg' hph hl hct hlv (by show X 5=1\/X 5=2;omega)
  .split
   .exact zhw c _ _ _ hg' hph hlv
   .split
    .exact zhw c _ _ _ hg' hph hlv
    .split
     .exact tick_leaves c _ _ hg' hph hlv
     .exact⟨by rw[zg4];omega,hg'.reject _ _,hph,Nat.le_succ _,hlv⟩
 refine⟨h,?_⟩
 have h1:=h.load
 have h2:load {m with out:=[]}=zap m.all:=by simp[load]
 rw[h2] at h1
 unfold load at h1
 omega
end
section
open Go.RowKit
attribute [local go_sem↓] Go.wp_at_zero Go.wp_at_succ
theorem zko (Y:Nat->Nat)(i:Nat):nb (fun j=>(Y j:Int)) i 4=((num4 Y i:Nat):Int):=by
 simp only[nb,num4,Nat.add_zero]
 omega
theorem pSend_any (P:Nat)(b:Bk)(c:Cf)(m:Mk)(a:Option Addr)(N cc:Nat)(Y:Nat->Nat)(w0 w:World)(R:EW)(h:PS w P b c m m.seq)
  (hL:zcq w0)(hb0:Below w0.heap.size w0 w)(hlow0: ∀g,Own P b g->w0.heap.size<=g)(hN:N<=1048576)(hcap:N<=cc)(hx:zgh w a N Y)(hY: ∀i,Y i<=255)(hal:0<N-> ∀g o,a=some ⟨g,o,none⟩->g<w.heap.size)
  (hl:m.all.length<=1048575)(hct:c.total<=1000000000)(hlv:zap m.all<=c.orders)(hco:c.orders<=1000000)
  (hR: ∀b' v w',PS w' P b' c (zaz c m Y N) (zaz c m Y N).seq->Mv P w b w' b'->w'.ownsRow w.heap.size 5 1 v (zao (zaz c m Y N).out).length ((zao (zaz c m Y N).out).map bv)->(∀g,Own P b' g->v.ownBlock≠some g)->R (.returned v) w'):
  Calls Tryz.prog 31 #[.pointer (some ⟨P,0,none⟩),.slice a N cc] w R:=by
 have HR:=zl hR
 have hmf: ∀(fn:Fn) (first cap:Array Value) (w:World),(Instr.makeFunc fn first cap).run Tryz.prog w= .ok (.func fn first cap) w:=fun _ _ _ _=>rfl
 have HP:=zl h
 have HP0:Hid (PS w P b c {m with out:=[]} m.seq):=⟨⟨h.pm.blk,h.pm.book,h.pm.own⟩,h.pv.keep rfl h.pv.gd.seq h.pv.gd.ref,h.ph⟩
 have HL:=zl hL
 have HW0:=zl hb0
 have Hlow0:=zl hlow0
 have HX:Hid (BsAt w a N (fun j=>(Y j:Int))):=hx
 have HY:=zl hY
 have Hal:=zl hal
 have hlP:=h.ltP
 have v0:Var ((w.alloc (.cells #[.pointer (some ⟨P,0,none⟩)] 54)).alloc (.cells #[.slice none 0 0] 31)) w.heap.size (.pointer (some ⟨P,0,none⟩)):=(Var.new w _ _).alloc _
 have v1:Var ((w.alloc (.cells #[.pointer (some ⟨P,0,none⟩)] 54)).alloc (.cells #[.slice none 0 0] 31)) (w.heap.size+1) (.slice none 0 0):=by have:=Var.new (w.alloc (.cells #[.pointer (some ⟨P,0,none⟩)] 54)) (.slice none 0 0) 31;simpa using this
 have hB2:Below w.heap.size w ((w.alloc (.cells #[.pointer (some ⟨P,0,none⟩)] 54)).alloc (.cells #[.slice none 0 0] 31)):=(br.alloc nr _).alloc (by simp) _
 have hS2:((w.alloc (.cells #[.pointer (some ⟨P,0,none⟩)] 54)).alloc (.cells #[.slice none 0 0] 31)).heap.size=w.heap.size+2:=by simp
 clear hR h hL hb0 hlow0 hx hY hal
 go_enter_defers Tryz.func31,Tryz.ntmps31
 go_wp2_with fail
 generalize (w.alloc (.cells #[.pointer (some ⟨P,0,none⟩)] 54)).alloc (.cells #[.slice none 0 0] 31)=W2 at *
 refine zh1 a N cc _ _ ?_
 intro w3 hr3 hb3
 rw[hS2] at hr3 ⊢
 have V0:=zl (v0.ext hb3)
 have V1:=zl (v1.ext hb3)
 have HB3:Hid (Below w.heap.size w w3):=zad hB2 hb3
 have hs3:w.heap.size+3<=w3.heap.size:=hr3.lt
 have HRd:Hid (Rd w3 w3 (w.heap.size+2) a N cc (fun j=>(Y j:Int)) 0):=⟨hr3,HX.o.below (zad hB2 hb3) nr,⟨rfl,rfl,rfl,nr,fun _ _ _=>rfl⟩,hr3.lt,hcap,hN,fun i _=>(by have:=HY.o i;omega),fun h0 g o e=>(by have:=Hal.o h0 g o e;exact⟨by omega,by omega⟩)⟩
 clear v0 v1 hB2 hb3 hr3 hS2
 go_wp2_with fail
 rename_i K1 hK1 K0 hK0
 have hseq:=HP.o.pv.gd.seq
 obtain ⟨hlf,hlen⟩:=zfm c m Y N HP.o.pv.gd HP.o.ph hl hct hlv
 have hFm:=Fm.send c m Y N HP.o.pv.gd HP.o.pv.idl HY.o hl hct
 have hNm:=Nm.send c m Y N hseq
 have Hlen:=zl hlen
 have HFm:=zl hFm
 have HNm:=zl hNm
 clear hlf hlen hFm hNm
 have HGO:Hid (∀k id sd ty q p t:Nat,(k=1\/k=2\/k=3\/k=4)->(k=1->1<=ty/\ty<=4)->(k=1->isSd sd)->id<=4294967295->q<=4294967295->p<=4294967295->t<=4294967295->zaz c m Y N=zjh c {m with out:=[]} k id sd ty q p t-> ∀w4,w3.grownBy w4 (some (w.heap.size+2))->
   K0 {tmps:= #[.pointer (some ⟨P,0,none⟩),.slice a N cc,.pointer (some ⟨w.heap.size,0,none⟩),undef,.pointer (some ⟨w.heap.size+1,0,none⟩),undef,.func (.func 56) #[] #[.pointer (some ⟨w.heap.size,0,none⟩),.pointer (some ⟨w.heap.size+1,0,none⟩)],.slice a N cc,.pointer (some ⟨w.heap.size+2,0,none⟩),cmv k id sd ty q p t,undef,undef,undef,undef,undef],defers:=[{target:= .fn (.func 56) #[.pointer (some ⟨w.heap.size,0,none⟩),.pointer (some ⟨w.heap.size+1,0,none⟩)],args:= #[]}]} w4):=by
  intro k id sd ty q p t hk hty hsd hid hq hp ht hso w4 hg4
  have hso':=zl hso
  have u0:=V0.o.grown hg4 (by simp)
  have u1:=V1.o.grown hg4 (by simp)
  have hbw4:Below w.heap.size w w4:=zcl HB3.o hg4 (by omega)
  have hs4:w.heap.size+3<=w4.heap.size:=llt hs3 hg4.size
  have hbA:Below w4.heap.size w4 (w4.alloc (.cells #[.int .i64 (k:Nat),.int .i64 (id:Nat),.int .i64 (sd:Nat),.int .i64 (ty:Nat),.int .i64 (q:Nat),.int .i64 (p:Nat),.int .i64 (t:Nat)] 113)).drew:=(zac w4 _).drew
  have U0:=(u0.ext hbA).cell
  obtain ⟨y0,y1,y2,y3,y4,y5,y6⟩:=zc9 (World.alloc_heap_new w4 (.cells #[.int .i64 (k:Nat),.int .i64 (id:Nat),.int .i64 (sd:Nat),.int .i64 (ty:Nat),.int .i64 (q:Nat),.int .i64 (p:Nat),.int .i64 (t:Nat)] 113))
  have hT:(w4.alloc (.cells #[.int .i64 (k:Nat),.int .i64 (id:Nat),.int .i64 (sd:Nat),.int .i64 (ty:Nat),.int .i64 (q:Nat),.int .i64 (p:Nat),.int .i64 (t:Nat)] 113)).drew.cell? ⟨w.heap.size,0,none⟩=some (.pointer (some ⟨P,0,none⟩))/\(w4.alloc (.cells #[.int .i64 (k:Nat),.int .i64 (id:Nat),.int .i64 (sd:Nat),.int .i64 (ty:Nat),.int .i64 (q:Nat),.int .i64 (p:Nat),.int .i64 (t:Nat)] 113)).drew.cell? ⟨w4.heap.size,0,none⟩=some (.int .i64 (k:Nat))/\(w4.alloc (.cells #[.int .i64 (k:Nat),.int .i64 (id:Nat),.int .i64 (sd:Nat),.int .i64 (ty:Nat),.int .i64 (q:Nat),.int .i64 (p:Nat),.int .i64 (t:Nat)] 113)).drew.cell? ⟨w4.heap.size,1,none⟩=some (.int .i64 (id:Nat))/\(w4.alloc (.cells #[.int .i64 (k:Nat),.int .i64 (id:Nat),.int .i64 (sd:Nat),.int .i64 (ty:Nat),.int .i64 (q:Nat),.int .i64 (p:Nat),.int .i64 (t:Nat)] 113)).drew.cell? ⟨w4.heap.size,2,none⟩=some (.int .i64 (sd:Nat))/\(w4.alloc (.cells #[.int .i64 (k:Nat),.int .i64 (id:Nat),.int .i64 (sd:Nat),.int .i64 (ty:Nat),.int .i64 (q:Nat),.int .i64 (p:Nat),.int .i64 (t:Nat)] 113)).drew.cell? ⟨w4.heap.size,3,none⟩=some (.int .i64 (ty:Nat))/\(w4.alloc (.cells #[.int .i64 (k:Nat),.int .i64 (id:Nat),.int .i64 (sd:Nat),.int .i64 (ty:Nat),.int .i64 (q:Nat),.int .i64 (p:Nat),.int .i64 (t:Nat)] 113)).drew.cell? ⟨w4.heap.size,4,none⟩=some (.int .i64 (q:Nat))/\(w4.alloc (.cells #[.int .i64 (k:Nat),.int .i64 (id:Nat),.int .i64 (sd:Nat),.int .i64 (ty:Nat),.int .i64 (q:Nat),.int .i64 (p:Nat),.int .i64 (t:Nat)] 113)).drew.cell? ⟨w4.heap.size,5,none⟩=some (.int .i64 (p:Nat))/\(w4.alloc (.cells #[.int .i64 (k:Nat),.int .i64 (id:Nat),.int .i64 (sd:Nat),.int .i64 (ty:Nat),.int .i64 (q:Nat),.int .i64 (p:Nat),.int .i64 (t:Nat)] 113)).drew.cell? ⟨w4.heap.size,6,none⟩=some (.int .i64 (t:Nat)):=⟨U0,y0,y1,y2,y3,y4,y5,y6⟩
  have HbA:Hid (Below w.heap.size w (w4.alloc (.cells #[.int .i64 (k:Nat),.int .i64 (id:Nat),.int .i64 (sd:Nat),.int .i64 (ty:Nat),.int .i64 (q:Nat),.int .i64 (p:Nat),.int .i64 (t:Nat)] 113)).drew):=zad hbw4 hbA
  have U1:=zl (u1.ext hbA)
  have hsA:w.heap.size+3<=(w4.alloc (.cells #[.int .i64 (k:Nat),.int .i64 (id:Nat),.int .i64 (sd:Nat),.int .i64 (ty:Nat),.int .i64 (q:Nat),.int .i64 (p:Nat),.int .i64 (t:Nat)] 113)).drew.heap.size:=llt hs4 hbA.size
  refine hK0 _ _ ?_
  clear hK0 u0 u1 U0 y0 y1 y2 y3 y4 y5 y6 hbA hso
  unfold cmv
  go_wp2_with fail
  refine wp_normal ?_
  refine zbq 4 5 (fun W=>W.cell? ⟨w.heap.size,0,none⟩=some (.pointer (some ⟨P,0,none⟩))/\W.cell? ⟨w4.heap.size,0,none⟩=some (.int .i64 (k:Nat))/\W.cell? ⟨w4.heap.size,1,none⟩=some (.int .i64 (id:Nat))/\W.cell? ⟨w4.heap.size,2,none⟩=some (.int .i64 (sd:Nat))/\W.cell? ⟨w4.heap.size,3,none⟩=some (.int .i64 (ty:Nat))/\W.cell? ⟨w4.heap.size,4,none⟩=some (.int .i64 (q:Nat))/\W.cell? ⟨w4.heap.size,5,none⟩=some (.int .i64 (p:Nat))/\W.cell? ⟨w4.heap.size,6,none⟩=some (.int .i64 (t:Nat))) (fun _=>True) zco ?_
  refine U_take1 (v:=?v0) 0 rfl (by kernel_rfl) (by kernel_rfl) (by kernel_rfl) (by kernel_rfl) (by kernel_rfl) (by kernel_rfl) (by kernel_rfl) (by kernel_rfl) (fun _ _ _ h=>h) (Or.inl ⟨by rfl,?hy0⟩) ⟨fun _=>hT,fun _=>trivial⟩ ?_
  case hy0=>(rintro w' ⟨⟨z0,z1,z2,z3,z4,z5,z6,z7⟩,_⟩;go_simp;with_reducible rfl)
  refine zbt (v:=?v1) 1 [3,4] rfl (by kernel_rfl) (by kernel_rfl) (by kernel_rfl) (by kernel_rfl) (by kernel_rfl) (by kernel_rfl) (by kernel_rfl) (fun _ _ _ h=>h) (Or.inl ⟨by rfl,?hy1⟩) ⟨fun _=>hT,fun _=>trivial⟩ ?_
  case hy1=>(rintro w' ⟨⟨z0,z1,z2,z3,z4,z5,z6,z7⟩,_⟩;go_simp;with_reducible rfl)
  refine zbt (v:=?v2) 2 [3,4] rfl (by kernel_rfl) (by kernel_rfl) (by kernel_rfl) (by kernel_rfl) (by kernel_rfl) (by kernel_rfl) (by kernel_rfl) (fun _ _ _ h=>h) (Or.inl ⟨by rfl,?hy2⟩) ⟨fun _=>hT,fun _=>trivial⟩ ?_
  case hy2=>(rintro w' ⟨⟨z0,z1,z2,z3,z4,z5,z6,z7⟩,_⟩;go_simp;with_reducible rfl)
  generalize (w4.alloc (.cells #[.int .i64 (k:Nat),.int .i64 (id:Nat),.int .i64 (sd:Nat),.int .i64 (ty:Nat),.int .i64 (q:Nat),.int .i64 (p:Nat),.int .i64 (t:Nat)] 113)).drew=A at *
  generalize w4.heap.size=nC at *
  refine za1 3 (by kernel_rfl) rfl (fun K' hK=>?_)
  go_simp
  have hpsA:=HP0.o.ext HbA.o
  refine pobey_any P b c {m with out:=[]} m.seq k id sd ty q p t _ _ hpsA hk hty hsd hid hq hp ht hl hct ?_
  intro b' v E w5 hps5 hmv5 hev5 hown5 hou5
  rw[←hso'.out] at hps5 hou5
  have hou5:outs (zaz c m Y N)=E:=hou5
  have hEl:Hid (E.length=(zaz c m Y N).out.length):=by show E.length=(zaz c m Y N).out.length;rw[←hou5];simp[outs]
  have Hou5:=zl hou5
  clear hou5
  have hnotH: ∀g,w.heap.size<=g->g<A.heap.size-> ¬Own P b g:=fun g h1 _ e=>by have:=HP.o.lt e;omega
  have hsame: ∀g,w.heap.size<=g->g<A.heap.size->w5.heap[g]?=A.heap[g]?:=fun g h1 h2=>hmv5.tch.blk g h2 (hnotH g h1 h2)
  have hcell: ∀(g i:Nat) (x:Value),w.heap.size<=g->A.cell? ⟨g,i,none⟩=some x->w5.cell? ⟨g,i,none⟩=some x:=fun g i x h1 h2=>(World.cell?_of_block (a:=⟨g,i,none⟩) (hsame g h1 (zab h2))).trans h2
  obtain ⟨z0,z1,z2,z3,z4,z5,z6,z7⟩:=hT
  have hT5:w5.cell? ⟨w.heap.size,0,none⟩=some (.pointer (some ⟨P,0,none⟩))/\w5.cell? ⟨nC,0,none⟩=some (.int .i64 (k:Nat))/\w5.cell? ⟨nC,1,none⟩=some (.int .i64 (id:Nat))/\w5.cell? ⟨nC,2,none⟩=some (.int .i64 (sd:Nat))/\w5.cell? ⟨nC,3,none⟩=some (.int .i64 (ty:Nat))/\w5.cell? ⟨nC,4,none⟩=some (.int .i64 (q:Nat))/\w5.cell? ⟨nC,5,none⟩=some (.int .i64 (p:Nat))/\w5.cell? ⟨nC,6,none⟩=some (.int .i64 (t:Nat)):=
   ⟨hcell _ _ _ nr z0,hcell _ _ _ (by omega) z1,hcell _ _ _ (by omega) z2,hcell _ _ _ (by omega) z3,hcell _ _ _ (by omega) z4,hcell _ _ _ (by omega) z5,hcell _ _ _ (by omega) z6,hcell _ _ _ (by omega) z7⟩
  refine hK.o _ _ ⟨fun _=>hT5,fun _=>trivial⟩ ?_
  clear hK K' z0 z1 z2 z3 z4 z5 z6 z7 hT5 hcell
  have t1:Var w5 (w.heap.size+1) (.slice none 0 0):=by
   have hb:=hsame (w.heap.size+1) (by omega) (by omega)
   exact⟨(World.cell?_of_block (a:=⟨w.heap.size+1,0,none⟩) hb).trans U1.out.cell,(World.frozen?_of_block (a:=⟨w.heap.size+1,0,none⟩) hb).trans U1.out.free,lll U1.out.lt hmv5.tch.size⟩
  have hmvw:Mv P w b w5 b':=(Mv.of HbA.o).trans hmv5
  have hbw0:Below w0.heap.size w0 w5:=⟨hmvw.tch.os.trans HW0.o.os,hmvw.tch.tape.trans HW0.o.tape,hmvw.tch.output.trans HW0.o.output,llt HW0.o.size hmvw.tch.size,fun g hg=>(hmvw.tch.blk g (lll hg HW0.o.size) (fun e=>by have:=Hlow0.o g e;omega)).trans (HW0.o.block g hg)⟩
  have hsz5:w.heap.size+3<=w5.heap.size:=llt hsA hmv5.tch.size
  have hget: ∀i,i<E.length-> ∃e∈(zaz c m Y N).out,E.getD i ev0=bare e:=by
   intro i hi
   rw[←Hou5.o] at hi ⊢
   have hi':i<(zaz c m Y N).out.length:=by simpa [outs] using hi
   refine⟨(zaz c m Y N).out[i],List.getElem_mem hi',?_⟩
   unfold outs
   simp[List.getD_eq_getElem?_getD,hi']
  obtain ⟨va,vc,rfl⟩:=zae hev5
  refine za1 4 (by kernel_rfl) rfl (fun K' hK=>?_)
  go_simp
  refine ptell_any P b'.K c {zaz c m Y N with seq:=m.seq} E _ A.heap.size w0 _ _ hps5.pm.blk hev5 (hown5 P (.inl rfl)) HL.o hbw0 (Hlow0.o P (.inl rfl)) hseq (fun i hi=>?_) (fun i j=>?_) (by have:=Hlen.o;have:=hEl.out;omega) ?_
  .obtain ⟨e,he,h2⟩:=hget i hi
   rw[h2]
   show 1<=e 0/\e 0<=8
   have:=(HFm.o.out e he).1
   simp only[fits,Bool.and_eq_true,isK,decide_eq_true_eq] at this
   exact this.1.1.1
  .by_cases hi:i<E.length
   .obtain ⟨e,he,h2⟩:=hget i hi
    rw[h2]
    unfold bare
    split
    .decide
    .exact(HFm.o.out e he).2 j
   .rw[List.getD_eq_getElem?_getD,List.getElem?_eq_none (by omega)]
    show-9223372036854775808<=(0:Int)/\(0:Int)<=9223372036854775807
    decide
  intro tv w6 hb6 hrow6 ht6
  refine hK.o _ _ ⟨fun h=>absurd h (by decide),fun _=>trivial⟩ ?_
  clear hK K'
  have hbytes:numb m.seq E=(zaz c m Y N).out:=by rw[←Hou5.o];exact HNm.o.out.symm
  have hsq:(m.seq+E.length)%4294967296=(zaz c m Y N).seq:=by rw[hEl.out];exact HNm.o.seq.symm
  have hb6:w6.heap[P]?=some (.cells (pmc c {zaz c m Y N with seq:=(m.seq+E.length)%4294967296} b'.K) 104 (0,0)):=hb6
  have hrow6:w6.ownsRow w5.heap.size 5 1 tv (zao (numb m.seq E)).length ((zao (numb m.seq E)).map bv):=hrow6
  rw[hsq] at hb6
  rw[hbytes] at hrow6
  have hnP: ∀g,b'.F g->g≠P:=fun g hg e=>hps5.pm.own (e▸hg)
  have hps6:PS w6 P b' c (zaz c m Y N) (zaz c m Y N).seq:=⟨⟨hb6,hps5.pm.book.keep fun g hg=>ht6.blk g (hps5.pm.book.lt hg) (hnP g hg),hps5.pm.own⟩,hps5.pv,hps5.ph⟩
  have hmv6:Mv P w b w6 b':=hmvw.trans ⟨ht6.own fun g hg=> .inl hg,fun g hg=> .inl hg⟩
  have t6:Var w6 (w.heap.size+1) (.slice none 0 0):=by
   have hb:=ht6.blk (w.heap.size+1) t1.lt (by omega)
   exact⟨(World.cell?_of_block (a:=⟨w.heap.size+1,0,none⟩) hb).trans t1.cell,(World.frozen?_of_block (a:=⟨w.heap.size+1,0,none⟩) hb).trans t1.free,lll t1.lt ht6.size⟩
  have hb'F: ∀g,Own P b' g->g≠w.heap.size+1:=fun g hg e=>by
   rcases hg with e1|e1
   .omega
   .rcases hmv5.bf g e1 with e2|e2
    .have:=HP.o.pm.book.lt e2
     omega
    .omega
  obtain ⟨ta,tc,rfl⟩:=zae hrow6
  generalize hln:(zao (zaz c m Y N).out).length=ln at *
  have t7:=t6.set (.slice ta ln tc)
  have hfin:R (.returned (.slice ta ln tc)) (w6.setCell ⟨w.heap.size+1,0,none⟩ (.slice ta ln tc)):=by
   refine HR.o b' _ _ (hps6.keep fun g hg=>bhs w6 ⟨w.heap.size+1,0,none⟩ _ g (hb'F g hg)) ⟨?_,hmv6.bf⟩ ?_ ?_
   .exact⟨hmv6.tch.os,hmv6.tch.tape,hmv6.tch.output,llt hmv6.tch.size (by simp[World.setCell]),fun g hg hn=>(bhs w6 ⟨w.heap.size+1,0,none⟩ _ g (by show g≠w.heap.size+1;omega)).trans (hmv6.tch.blk g hg hn)⟩
   .exact zid (zb6 hrow6 fun g hg=>bhs w6 ⟨w.heap.size+1,0,none⟩ _ g (by show g≠w.heap.size+1;have:=(hrow6.lt g hg).1;omega)) (by omega)
   .intro g hg e
    have h1:=(hrow6.lt g e).1
    have h2:=hps5.lt hg
    omega
  have c6:=t6.cell
  have f6:=t6.free
  refine za1 5 (by kernel_rfl) rfl (fun K' hK=>?_)
  go_simp
  refine hK.o _ _ ⟨fun h=>absurd h (by decide),fun h=>absurd h (by decide)⟩ ?_
  clear hK K'
  refine zch (by kernel_rfl) ?_
  have HFIN:=zl hfin
  have d7:=t7.cell
  clear hfin hps6 hmv6 t6 t7 hrow6 hb6 ht6 hps5 hmv5 hev5 hown5 hmvw hbw0 hsame hnotH hget t1 c6 f6 hpsA
  generalize w6.setCell ⟨w.heap.size+1,0,none⟩ (.slice ta ln tc)=Z at *
  go_wp2_with fail
  refine leaves_cons (f:=56) (args:= #[.pointer (some ⟨w.heap.size,0,none⟩),.pointer (some ⟨w.heap.size+1,0,none⟩)]) (by simp) (by simp[go_sem]) ?_
  refine(send_idle _ _ _).mono ?_
  rintro e u' w'' ⟨rfl,rfl,rfl⟩
  simp[Leaves,settle,results,Tryz.results31,go_sem,d7]
  exact HFIN.o
 clear hK0 hK1
 have hph3:=HP.o.ph
 have hgd0:=HP0.o.pv.gd
 refine pCommand_any (w.heap.size+2) a N cc (fun j=>(Y j:Int)) w3 _ HRd.o ?_ ?_ ?_ ?_ ?_
 .intro hno e w4 hg4
  have u0:=V0.o.grown hg4 (by simp)
  have u1:=V1.o.grown hg4 (by simp)
  have hbw4:Below w.heap.size w w4:=zcl HB3.o hg4 (by omega)
  have hps4:=HP.o.ext hbw4
  have hbw0:Below w0.heap.size w0 w4:=HW0.o.trans (hbw4.mono HW0.o.size)
  have hsr:zaz c m Y N=zbh {m with out:=[]} 0 1:=by
   unfold zaz
   dsimp only
   by_cases hN0:0<N
   .rw[if_pos hN0]
    have hno': ¬((Y 0=1/\N=15/\(1<=Y 5/\Y 5<=2)/\1<=Y 6/\Y 6<=4)\/(Y 0=2/\N=5)\/(Y 0=3/\N=9)\/(Y 0=4/\N=5)):=fun hh=>hno ⟨hN0,by
     dsimp only
     omega⟩
    rw[if_neg (by omega),if_neg (by omega),if_neg (by omega),if_neg (by omega)]
   .rw[if_neg hN0,if_neg (by omega),if_neg (by omega),if_neg (by omega),if_neg (by omega)]
  have hP1:w.heap.size+1≠P:=by omega
  show Leaves Tryz.prog Tryz.f31 _ R [{target:= .fn (.func 56) #[.pointer (some ⟨w.heap.size,0,none⟩),.pointer (some ⟨w.heap.size+1,0,none⟩)],args:= #[]}] (.panicking [{v:=zkz e,recovered:=false}]) w4
  refine leaves_cons (f:=56) (args:= #[.pointer (some ⟨w.heap.size,0,none⟩),.pointer (some ⟨w.heap.size+1,0,none⟩)]) (by simp) (by simp[go_sem]) ?_
  refine(send_panicking w.heap.size (w.heap.size+1) P b.K c {m with seq:=m.seq} e _ w0 w4 hP1 u0.cell u1.cell u1.free hps4.pm.blk HL.o hbw0 (Hlow0.o P (.inl rfl)) hseq).mono ?_
  rintro en u' w7 ⟨rfl,rfl,v,hc7,hb7,hrow7,ht7⟩
  have hnP: ∀g,b.F g-> ¬(g=P\/g=w.heap.size+1):=fun g hg e=>by
   rcases e with e|e
   .exact hps4.pm.own (e▸hg)
   .have:=HP.o.pm.book.lt hg
    omega
  have hout:(zaz c m Y N).out=numb m.seq noneE:=by
   rw[hsr]
   rfl
  have hsq:(zaz c m Y N).seq=(m.seq+1)%4294967296:=by
   rw[hsr]
   rfl
  have hfin:R (.returned v) w7:=by
   refine HR.o b v w7 ?_ ⟨?_,fun g hg=> .inl hg⟩ ?_ ?_
   .rw[hsq,hsr]
    exact⟨⟨hb7,hps4.pm.book.keep fun g hg=>ht7.blk g (hps4.pm.book.lt hg) (hnP g hg),hps4.pm.own⟩,hps4.pv.keep rfl (by simp only[zbh,zax];omega) HP.o.pv.gd.ref,hph3⟩
   .refine⟨ht7.os.trans hbw4.os,ht7.tape.trans hbw4.tape,ht7.output.trans hbw4.output,llt hbw4.size ht7.size,fun g hg hn=>(ht7.blk g (lll hg hbw4.size) (fun e=>?_)).trans (hbw4.block g hg)⟩
    rcases e with e|e
    .exact hn (.inl e)
    .omega
   .rw[hout]
    exact zid hrow7 hbw4.size
   .intro g hg e
    have h1:=(hrow7.lt g e).1
    have h2:=hps4.lt hg
    omega
  simp[Leaves,settle,results,Tryz.results31,go_sem,hc7]
  exact hfin
 .rintro ⟨h0,hN15,h5,h6⟩ w4 hg4
  have hv:cmi 1 (nb (fun j=>(Y j:Int)) 1 4) ((fun j=>(Y j:Int)) 5) ((fun j=>(Y j:Int)) 6) (nb (fun j=>(Y j:Int)) 7 4) (nb (fun j=>(Y j:Int)) 11 4) 0=cmv 1 (num4 Y 1) (Y 5) (Y 6) (num4 Y 7) (num4 Y 11) 0:=by
   unfold cmi cmv
   rw[zko,zko,zko]
   rfl
  rw[hv]
  have hty:1<=Y 6/\Y 6<=4:=by omega
  have hsd:isSd (Y 5):=by unfold isSd;omega
  refine HGO.o 1 (num4 Y 1) (Y 5) (Y 6) (num4 Y 7) (num4 Y 11) 0 (.inl rfl) (fun _=>hty) (fun _=>hsd) (zct Y 1 HY.o) (zct Y 7 HY.o) (zct Y 11 HY.o) (by omega) ?_ w4 hg4
  rw[sendM_new c m Y N ⟨by omega,hN15,by omega,by omega,by omega,by omega⟩]
  exact(obey_new c {m with out:=[]} (num4 Y 1) (Y 5) (Y 6) (num4 Y 7) (num4 Y 11) 0 hty hsd hgd0 hph3 (zct Y 11 HY.o)).symm
 .rintro ⟨h0,hN5⟩ w4 hg4
  have hv:cmi 2 (nb (fun j=>(Y j:Int)) 1 4) 0 0 0 0 0=cmv 2 (num4 Y 1) 0 0 0 0 0:=by
   unfold cmi cmv
   rw[zko]
   rfl
  rw[hv]
  refine HGO.o 2 (num4 Y 1) 0 0 0 0 0 (.inr (.inl rfl)) (fun h=>by omega) (fun h=>by omega) (zct Y 1 HY.o) (by omega) (by omega) (by omega) ?_ w4 hg4
  rw[zi1 c m Y N ⟨by omega,hN5⟩]
  exact(obey_cancel c {m with out:=[]} (num4 Y 1)).symm
 .rintro ⟨h0,hN9⟩ w4 hg4
  have hv:cmi 3 (nb (fun j=>(Y j:Int)) 1 4) 0 0 (nb (fun j=>(Y j:Int)) 5 4) 0 0=cmv 3 (num4 Y 1) 0 0 (num4 Y 5) 0 0:=by
   unfold cmi cmv
   rw[zko,zko]
   rfl
  rw[hv]
  refine HGO.o 3 (num4 Y 1) 0 0 (num4 Y 5) 0 0 (.inr (.inr (.inl rfl))) (fun h=>by omega) (fun h=>by omega) (zct Y 1 HY.o) (zct Y 5 HY.o) (by omega) (by omega) ?_ w4 hg4
  rw[zi0 c m Y N ⟨by omega,hN9⟩]
  exact(obey_reduce c {m with out:=[]} (num4 Y 1) (num4 Y 5)).symm
 .rintro ⟨h0,hN5⟩ w4 hg4
  have hv:cmi 4 0 0 0 0 0 (nb (fun j=>(Y j:Int)) 1 4)=cmv 4 0 0 0 0 0 (num4 Y 1):=by
   unfold cmi cmv
   rw[zko]
   rfl
  rw[hv]
  refine HGO.o 4 0 0 0 0 0 (num4 Y 1) (.inr (.inr (.inr rfl))) (fun h=>by omega) (fun h=>by omega) (by omega) (by omega) (by omega) (zct Y 1 HY.o) ?_ w4 hg4
  rw[sendM_tick c m Y N ⟨by omega,hN5⟩]
  exact(obey_tick c {m with out:=[]} (num4 Y 1)).symm
end
section
open Go.RowKit
def shc (ph:Nat) (o:Od):List Value:=[.int .i64 o.id,.int .i64 o.side,.int .i64 o.typ,.int .i64 o.price,.int .i64 o.rest,.bool (wt ph o)]
def zfg (l:List Od):List Od:=l.filter fun o=>decide (0<o.rest)
def shcs (ph:Nat) (l:List Od):List Value:=(zfg l).flatMap (shc ph)
theorem shown_take (l:List Od)(k:Nat)(h:k<l.length):zfg (l.take (k+1))=zfg (l.take k)++if 0<(nth l k).rest then [nth l k] else []:=by
 rw[zag l k (nth l k) (by simp[nth,h])]
 unfold zfg
 rw[List.filter_append]
 by_cases hc:0<(nth l k).rest<;>simp[hc]
theorem Tryz.infoShown:(Tryz.prog.info? 89).map (fun i=>(i.zero,i.size,i.bytes))=some (some (.agg #[.int .i64 0,.int .i64 0,.int .i64 0,.int .i64 0,.int .i64 0,.bool false]),6,48):=by kernel_rfl
theorem rOrders_any (B ph ref:Nat)(a:Option Addr)(cap:Nat)(l:List Od)(w:World)(R:EW)(h:RV w B ph ref a cap l)(hn:l.length<=1048576)
  (hR: ∀v w',Below w.heap.size w w'->w'.ownsRow w.heap.size 89 6 v (zfg l).length (shcs ph l)->R (.returned v) w'):
  Calls Tryz.prog 74 #[.pointer (some ⟨B,0,none⟩)] w R:=by
 have HR:=zl hR
 have HV:=zl h
 clear hR h
 go_enter Tryz.func74,Tryz.ntmps74
 go_wp2_with fail
 go_loopw [3,4,5,6] (fun v i _ _ wr=> ∃k:Nat,k<=l.length/\i= .int .i64 k/\Below w.heap.size w wr/\wr.ownsRow w.heap.size 89 6 v (zfg (l.take k)).length (shcs ph (l.take k))) (fun _ i _ _ _=>l.length-(intOf i).toNat)
 case atStart=>exact⟨0,Nat.zero_le _,rfl,br,World.ownsRow_nil _ _ _ _⟩
 case round=>
  obtain ⟨k,hk,rfl,hb,hown⟩:=hrel
  have HB:=zl hb
  have HW:=zl hown
  have HVr:=zl (HV.o.ext hb)
  have ha:=HVr.o.ha
  clear hb hown
  by_cases hkn:k<l.length
  .obtain ⟨g,rfl,c0,c1,c2,c3,c4⟩:=HVr.o.at k hkn
   have HS:Hid (zfg (l.take (k+1))=zfg (l.take k)++if 0<(nth l k).rest then [nth l k] else []):=shown_take l k hkn
   have hlen:(zfg (l.take k)).length<=k:=llt (List.length_filter_le _ _) (by simp;omega)
   have HSC:Hid (shcs ph (l.take k)=(zfg (l.take k)).flatMap (shc ph)):=rfl
   generalize zfg (l.take k)=D at *
   generalize shcs ph (l.take k)=DC at *
   generalize nth l k=O at *
   have hO:=OdAt.new wr O 171
   have hb0:=OdAt.of wr O
   have HO:=zl hO
   have HB0:=zl hb0
   clear hO hb0
   by_cases hr:0<O.rest
   .rw[if_pos hr] at HS
    have fr:(0:Int)<O.rest:=by omega
    go_wp2_with fail
    generalize wr.alloc (.cells #[.int .i64 O.id,.int .i64 O.side,.int .i64 O.typ,.int .i64 O.price,.int .i64 O.rest] 171)=W0 at *
    refine Waits_of O _ (by rfl) B ph _ _ (HVr.o.ext HB0.o).hp ?_
    intro w1 hb1
    have HB1:Hid (Below w.heap.size w w1):=zad HB.o (zad HB0.o hb1)
    have HW1:Hid (w1.ownsRow w.heap.size 89 6 u3 D.length DC):=zbe (zbe HW.o HB0.o) hb1
    have HO1:=zl (HO.o.ext hb1)
    obtain ⟨q0,q1,q2,q3,q4⟩:=HO1.o
    have hz1:=HB1.o.size
    clear hb1 c0 c1 c2 c3 c4 ha HW HO HB0 HVr
    have HWt:Hid (shc ph O=[.int .i64 O.id,.int .i64 O.side,.int .i64 O.typ,.int .i64 O.price,.int .i64 O.rest,.bool (wt ph O)]):=rfl
    generalize wt ph O=wo at *
    go_wp2_with (at_builtin;go_must (refine za7 w.heap.size 6 48 D.length _ _ _ HW1.o hz1 Tryz.infoShown rfl (by decide) rfl ?c2 ?c3 (by decide) _ _ 64 Tryz.underlying64 rfl rfl rfl rfl ?_))
    case c2=>simp[Value.oneCell']
    case c3=>omega
    intro v3 w3 hg3
    have HB3:=zl (HB1.o.grown hg3.grown hz1 fun q hq=>(HW1.o.lt q hq).1)
    have HW3:Hid (w3.ownsRow w.heap.size 89 6 v3 (zfg (l.take (k+1))).length (shcs ph (l.take (k+1)))):=by
     have:=hg3.own
     unfold shcs
     rw[HS.o,List.length_append,List.flatMap_append,←HSC.o]
     simp only[List.length_cons,List.length_nil,List.flatMap_cons,List.flatMap_nil,List.append_nil,HWt.o]
     exact this
    clear hg3
    go_wp2_with fail
    go_roundw
    case rel=>exact⟨k+1,by omega,by go_num,HB3.o,HW3.o⟩
    case measure=>simp[intOf];omega
   .rw[if_neg hr,List.append_nil] at HS
    have fr: ¬(0:Int)<O.rest:=by omega
    go_wp2_with fail
    go_roundw
    case rel=>exact⟨k+1,by omega,by go_num,zad HB.o HB0.o,by unfold shcs;rw[HS.o,←HSC.o];exact zbe HW.o HB0.o⟩
    case measure=>simp[intOf];omega
  .have hk':k=l.length:=by omega
   subst hk'
   rw[List.take_length] at HW
   have hfin:Hid (R (.returned u3) wr):=HR.o _ _ HB.o HW.o
   go_wp2_with fail
   exact hfin.o
theorem rLook_any (B:Nat)(c:Cf)(m:Mk)(vA vO:Value)(w:World)(R:EW)(h:RM w B c m vA vO)
  (hR: ∀w',Below w.heap.size w w'->R (.returned (.agg #[.int .i64 m.phase,.int .i64 m.time,.int .i64 m.ref,.int .i64 m.seq])) w'):
  Calls Tryz.prog 37 #[.pointer (some ⟨B,0,none⟩)] w R:=by
 have HR:=zl hR
 have c6:=h.cells 6 _ rfl
 have c7:=h.cells 7 _ rfl
 have c8:=h.cells 8 _ rfl
 have c9:=h.cells 9 _ rfl
 clear hR h
 have hb:=zac w (.cells #[.int .i64 0,.int .i64 0,.int .i64 0,.int .i64 0] 67)
 have d6:(w.alloc (.cells #[.int .i64 0,.int .i64 0,.int .i64 0,.int .i64 0] 67)).drew.cell? ⟨B,6,none⟩=some (.int .i64 (m.phase:Nat)):=zaa hb.drew c6
 have d7:(w.alloc (.cells #[.int .i64 0,.int .i64 0,.int .i64 0,.int .i64 0] 67)).drew.cell? ⟨B,7,none⟩=some (.int .i64 (m.time:Nat)):=zaa hb.drew c7
 have d8:(w.alloc (.cells #[.int .i64 0,.int .i64 0,.int .i64 0,.int .i64 0] 67)).drew.cell? ⟨B,8,none⟩=some (.int .i64 (m.ref:Nat)):=zaa hb.drew c8
 have d9:(w.alloc (.cells #[.int .i64 0,.int .i64 0,.int .i64 0,.int .i64 0] 67)).drew.cell? ⟨B,9,none⟩=some (.int .i64 (m.seq:Nat)):=zaa hb.drew c9
 clear hb
 go_enter Tryz.func37,Tryz.ntmps37
 go_wp2_with fail
 refine wp_region_still_tail 17 (by kernel_rfl) (by kernel_rfl) ?_
 simp only[List.take_succ_cons,List.take_zero,List.drop_succ_cons,List.drop_zero]
 change wpStill _ _ (w.alloc (.cells #[.int .i64 0,.int .i64 0,.int .i64 0,.int .i64 0] 67)).drew (fun a'=>wpList _ _ _ _ a' (w.alloc (.cells #[.int .i64 0,.int .i64 0,.int .i64 0,.int .i64 0] 67)).drew) _ _
 repeat still_step
 refine wpStill_nil ?_
 go_wp2_with fail
 refine bodyPost_ret (v:= .agg #[.int .i64 m.phase,.int .i64 m.time,.int .i64 m.ref,.int .i64 m.seq]) (by simp[results,Tryz.results37,go_sem]) rfl (HR.o _ ?_)
 exact(zac _ _).drew
def cfOk (x:Nat->Int):Prop:=1<=x 0/\x 0<=1000000/\1<=x 4/\x 4<=24/\1<=x 5/\x 5<=1000000000/\0<x 1/\x 1<x 2/\x 2<x 3/\x 3<=1000000
def cfOf (x:Nat->Int):Cf:=⟨(x 0).toNat,(x 1).toNat,(x 2).toNat,(x 3).toNat,(x 4).toNat,(x 5).toNat⟩
def cfx (x:Nat->Int):Value:= .agg #[.int .i64 (x 0),.int .i64 (x 1),.int .i64 (x 2),.int .i64 (x 3),.int .i64 (x 4),.int .i64 (x 5)]
theorem rNew_any (x:Nat->Int)(w:World)(R:EW)
  (hR1: ¬cfOk x-> ∀w',Below w.heap.size w w'->R (.returned (.tuple #[.pointer none,.int .i64 1])) w')
  (hR2:cfOk x-> ∀B w',Below w.heap.size w w'->w.heap.size<=B->RM w' B (cfOf x) (newM (cfOf x)) (.slice none 0 0) (.slice none 0 0)->R (.returned (.tuple #[.pointer (some ⟨B,0,none⟩),.int .i64 0])) w'):
  Calls Tryz.prog 45 #[cfx x] w R:=by
 have HR1:=zl hR1
 have HR2:=zl hR2
 clear hR1 hR2
 unfold cfx
 by_cases hok:cfOk x
 .obtain ⟨k0,k1,k2,k3,k4,k5,k6,k7,k8,k9⟩:=hok
  have e0:(((x 0).toNat:Nat):Int)=x 0:=by omega
  have e1:(((x 1).toNat:Nat):Int)=x 1:=by omega
  have e2:(((x 2).toNat:Nat):Int)=x 2:=by omega
  have e3:(((x 3).toNat:Nat):Int)=x 3:=by omega
  have e4:(((x 4).toNat:Nat):Int)=x 4:=by omega
  have e5:(((x 5).toNat:Nat):Int)=x 5:=by omega
  have hfin:Hid (∀(W:World),Below w.heap.size w W-> ∀B,W.heap.size=B->R (.returned (.tuple #[.pointer (some ⟨B,0,none⟩),.int .i64 0])) (W.alloc (.cells #[.int .i64 (x 0),.int .i64 (x 1),.int .i64 (x 2),.int .i64 (x 3),.int .i64 (x 4),.int .i64 (x 5),.int .i64 0,.int .i64 0,.int .i64 (x 0),.int .i64 0,.slice none 0 0,.slice none 0 0] 127))):=by
   intro W hb B hB
   subst hB
   refine HR2.o ⟨k0,k1,k2,k3,k4,k5,k6,k7,k8,k9⟩ W.heap.size _ (zad hb (zac _ _)) hb.size ⟨?_,World.ownsRow_nil _ _ _ _,World.ownsRow_nil _ _ _ _,by simp[Value.ownBlock],by simp[Value.ownBlock],by simp[Value.ownBlock]⟩
   rw[heap_alloc_new]
   simp only[cfOf,newM,e0,e1,e2,e3,e4,e5]
   rfl
  clear e0 e1 e2 e3 e4 e5 HR1 HR2
  go_enter Tryz.func45,Tryz.ntmps45
  go_wp2_with fail
  exact hfin.o _ (zac _ _) _ (by simp)
 .have hfin:=zl (HR1.o hok)
  have HK:=zl hok
  clear hok HR1 HR2
  go_enter Tryz.func45,Tryz.ntmps45
  go_wp2_with fail
  all_goals first|exact hfin.o _ (zac _ _)|(exfalso;apply HK.o;unfold cfOk;simp_all;omega)|(exfalso;apply HK.o;unfold cfOk;simp_all;done)|trace_state
end
