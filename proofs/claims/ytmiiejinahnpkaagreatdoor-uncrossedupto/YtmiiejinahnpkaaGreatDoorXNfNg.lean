import Derived.Test.YtmiiejinahnpkaaGreatDoorXEaAe
namespace Go.Proofs.YtmiiejinahnpkaaGreatDoor
section
def Pre (m m':Mk):Prop:= ∃E,m'.out=m.out++E
theorem Pre.refl (m:Mk):Pre m m:=⟨[],by simp⟩
theorem Pre.trans {a b c:Mk}(h:Pre a b)(k:Pre b c):Pre a c:=by
 obtain ⟨E,h⟩:=h
 obtain ⟨F,k⟩:=k
 exact⟨E++F,by rw[k,h,List.append_assoc]⟩
theorem Pre.tell (m:Mk)(e:Nat->Int):Pre m (zax m e):=⟨_,rfl⟩
variable {m:Mk}
theorem Pre.of {m' m'':Mk}(h:Pre m m')(k:m''.out=m'.out):Pre m m'':=by
 obtain ⟨E,h⟩:=h
 exact⟨E,by rw[k,h]⟩
theorem Pre.indicate (m:Mk)(k:Nat):Pre m (zah m k):=Pre.tell _ _
theorem Pre.cancel (m:Mk)(i:Nat):Pre m (zav m i):=(Pre.tell m _).of rfl
theorem Pre.trade (m:Mk)(i k n p:Nat):Pre m (za3 m i k n p):=⟨_,rfl⟩
theorem Pre.meet (o:Od)(k f:Nat)(m:Mk):Pre m (zbd o k f m):=by
 induction f generalizing m with
 |zero=>exact Pre.refl m
 |succ f ih=>
  unfold zbd
  split
  .exact Pre.refl m
  .dsimp only
   split
   .exact Pre.refl m
   .split
    .exact Pre.refl m
    .refine Pre.trans ?_ (ih _)
     split
     .exact Pre.trade ..
     .exact Pre.trade ..
theorem Pre.cross (p f v:Nat)(m:Mk):Pre m (zbg p f v m):=by
 induction f generalizing m v with
 |zero=>exact Pre.refl m
 |succ f ih=>
  unfold zbg
  split
  .exact Pre.refl m
  .exact(Pre.trade ..).trans (ih _ _)
theorem Pre.sweep (n:Nat)(m:Mk):Pre m (zai n m):=by
 induction n with
 |zero=>exact Pre.refl m
 |succ n ih=>
  unfold zai
  dsimp only
  split
  .exact ih.trans (Pre.cancel ..)
  .exact ih
def toldM (m:Mk) (e:Nat->Int):Nat->Int:=fun j=>if j=1 then (((m.seq+1)%4294967296:Nat):Int) else e j
theorem Pre.first {M:Mk}{e:Nat->Int}(h:Pre (zax m e) M): ∃E,M.out=m.out++toldM m e::E:=by
 obtain ⟨E,h⟩:=h
 exact⟨E,by rw[h,zax,List.append_assoc];rfl⟩
theorem turn_first (m:Mk): ∃e,(e 0=7\/e 0=8)/\ ∃E,(zbj m).out=m.out++e::E:=by
 have key: ∀m1:Mk,Pre (zax {m1 with phase:=m1.phase+1} (mkev 8 0 0 0 0 0 0 0 0 (m1.phase+1:Nat))) (
   let m2:={m1 with phase:=m1.phase+1}
   let m3:=zax m2 (mkev 8 0 0 0 0 0 0 0 0 m2.phase)
   let m4:=zai m3.all.length m3
   if m4.phase=2 then zah m4 6 else m4):=by
  intro m1
  dsimp only
  split
  .exact(Pre.sweep ..).trans (Pre.indicate ..)
  .exact Pre.sweep ..
 by_cases h:m.phase≠1
 .obtain ⟨c,hc⟩: ∃c,c=zal m.phase m.ref m.all:=⟨_,rfl⟩
  have h1:Pre (zax m (mkev 7 0 0 0 0 0 c.2.1 c.1 c.2.2 0)) (zbg c.1 c.2.1 c.2.1 (zah m 7)):=by
   rw[hc]
   exact Pre.cross ..
  have h2:=h1.trans ((show Pre _ _ from ⟨[_],rfl⟩).trans (key _))
  obtain ⟨E,hE⟩:=h2.first
  refine⟨toldM m (mkev 7 0 0 0 0 0 c.2.1 c.1 c.2.2 0),.inl rfl,E,?_⟩
  rw[←hE,zbj,if_pos h,hc]
 .obtain ⟨E,hE⟩:=(key m).first
  refine⟨toldM {m with phase:=m.phase+1} (mkev 8 0 0 0 0 0 0 0 0 (m.phase+1:Nat)),.inr rfl,E,?_⟩
  rw[zbj,if_neg h]
  exact hE
theorem Pre.turn (m:Mk):Pre m (zbj m):=by
 obtain ⟨e,-,E,h⟩:=turn_first m
 exact⟨_,h⟩
theorem Pre.turns (c:Cf)(t f:Nat)(m:Mk):Pre m (za2 c t f m):=by
 induction f generalizing m with
 |zero=>exact Pre.refl m
 |succ f ih=>
  unfold za2
  split
  .exact(Pre.turn m).trans (ih _)
  .exact Pre.refl m
theorem enter_first (c:Cf)(m:Mk)(o:Od):zce c m o=zbh m o.id (zbc c m o)\/Pre (zax m (mkev 1 0 o.id 0 0 0 o.rest 0 0 0)) (zce c m o):=by
 unfold zce
 by_cases hr:zbc c m o≠0
 .rw[if_pos hr]
  exact .inl rfl
 .rw[if_neg hr]
  refine .inr ?_
  have h0:Pre (zax m (mkev 1 0 o.id 0 0 0 o.rest 0 0 0)) {zax m (mkev 1 0 o.id 0 0 0 o.rest 0 0 0) with all:=(zax m (mkev 1 0 o.id 0 0 0 o.rest 0 0 0)).all++[o]}:=⟨[],by simp⟩
  dsimp only
  split
  .exact h0.trans (Pre.indicate ..)
  .split
   .exact h0
   .split
    .exact(h0.trans (Pre.meet ..)).trans (Pre.cancel ..)
    .exact h0.trans (Pre.meet ..)
theorem change_first (m:Mk)(id:Nat)(by_:Int):(∃why,zbv m id by_=zbh m id why)\/ ∃e,(e 0=4\/e 0=5)/\ ∃E,(zbv m id by_).out=m.out++e::E:=by
 unfold zbv
 dsimp only
 split
 .exact .inl ⟨_,rfl⟩
 .split
  .exact .inl ⟨_,rfl⟩
  .refine .inr ?_
   have key: ∀M:Mk,(∃e,(e 0=4\/e 0=5)/\ ∃E,M.out=m.out++e::E)-> ∃e,(e 0=4\/e 0=5)/\ ∃E,(if M.phase=0\/M.phase=2 then zah M 6 else M).out=m.out++e::E:=by
    rintro M ⟨e,he,E,h⟩
    split
    .obtain ⟨F,hF⟩:=Pre.indicate M 6
     exact⟨e,he,E++F,by rw[hF,h];simp⟩
    .exact⟨e,he,E,h⟩
   refine key _ ?_
   split
   .exact⟨toldM m (mkev 4 0 _ 0 0 0 _ 0 0 0),.inl rfl,[],rfl⟩
   .exact⟨toldM m (mkev 5 0 _ 0 0 0 _ 0 0 0),.inr rfl,[],rfl⟩
theorem send_first (c:Cf)(m:Mk)(X:Nat->Nat)(n:Nat):
  ((zaz c m X n).out=[]/\(n=5/\X 0=4)/\(zaz c m X n).all=m.all/\(zaz c m X n).phase=m.phase/\(zaz c m X n).ref=m.ref/\(zaz c m X n).seq=m.seq)\/
  (∃e,(zaz c m X n).out=[e]/\e 0=2/\ ¬(n=5/\X 0=4)/\(zaz c m X n).all=m.all/\(zaz c m X n).phase=m.phase/\(zaz c m X n).ref=m.ref/\(zaz c m X n).time=m.time/\(zaz c m X n).seq=(m.seq+1)%4294967296)\/
  (∃e E,(zaz c m X n).out=e::E/\e 0≠2):=by
 have rej: ∀id why,¬(n=5/\X 0=4)-> ∀M,M=zbh {m with out:=[]} id why->(∃e,M.out=[e]/\e 0=2/\ ¬(n=5/\X 0=4)/\M.all=m.all/\M.phase=m.phase/\M.ref=m.ref/\M.time=m.time/\M.seq=(m.seq+1)%4294967296):=by
  rintro id why h M rfl
  exact⟨_,rfl,rfl,h,rfl,rfl,rfl,rfl,rfl⟩
 unfold zaz
 dsimp only
 have hk0: ∀v:Nat,v≠0->(if 0<n then X 0 else 0)=v->X 0=v:=by
  intro v hv h
  split at h
  .exact h
  .omega
 have chg: ∀id by_,¬(n=5/\X 0=4)->((∃e,(zbv {m with out:=[]} id by_).out=[e]/\e 0=2/\ ¬(n=5/\X 0=4)/\(zbv {m with out:=[]} id by_).all=m.all/\(zbv {m with out:=[]} id by_).phase=m.phase/\(zbv {m with out:=[]} id by_).ref=m.ref/\(zbv {m with out:=[]} id by_).time=m.time/\(zbv {m with out:=[]} id by_).seq=(m.seq+1)%4294967296)\/(∃e E,(zbv {m with out:=[]} id by_).out=e::E/\e 0≠2)):=by
  intro id by_ hn
  rcases change_first {m with out:=[]} id by_ with ⟨why,h⟩|⟨e,he,E,h⟩
  .exact .inl (rej _ _ hn _ h)
  .exact .inr ⟨e,E,h,by omega⟩
 by_cases h1:(if 0<n then X 0 else 0)=1/\n=15/\1<=X 5/\X 5<=2/\1<=X 6/\X 6<=4
 .rw[if_pos h1]
  have hn: ¬(n=5/\X 0=4):=by have:=h1.2.1;omega
  rcases enter_first c {m with out:=[]} ⟨num4 X 1,X 5,X 6,num4 X 11,num4 X 7⟩ with h|h
  .exact .inr (.inl (rej _ _ hn _ h))
  .obtain ⟨E,h⟩:=h.first
   exact .inr (.inr ⟨_,E,h,by show (1:Int)≠2;decide⟩)
 .rw[if_neg h1]
  by_cases h2:(if 0<n then X 0 else 0)=2/\n=5
  .rw[if_pos h2]
   have:=hk0 2 (by decide) h2.1
   exact .inr (chg _ _ (by omega))
  .rw[if_neg h2]
   by_cases h3:(if 0<n then X 0 else 0)=3/\n=9
   .rw[if_pos h3]
    have:=h3.2
    exact .inr (chg _ _ (by omega))
   .rw[if_neg h3]
    by_cases hk:(if 0<n then X 0 else 0)=4/\n=5
    .rw[if_pos hk]
     have h4:=hk0 4 (by decide) hk.1
     unfold zdu
     split
     .exact .inl ⟨rfl,⟨hk.2,h4⟩,rfl,rfl,rfl,rfl⟩
     .unfold za2
      split
      .refine .inr (.inr ?_)
       obtain ⟨e,he,E,h⟩:=turn_first {m with out:=[],time:=num4 X 1}
       obtain ⟨F,hF⟩:=Pre.turns c (num4 X 1) 2 (zbj {m with out:=[],time:=num4 X 1})
       exact⟨e,E++F,by rw[hF,h];rfl,by omega⟩
      .exact .inl ⟨rfl,⟨hk.2,h4⟩,rfl,rfl,rfl,rfl⟩
    .rw[if_neg hk]
     refine .inr (.inl (rej _ _ ?_ _ rfl))
     rintro ⟨h5,h4⟩
     rw[if_pos (by omega)] at hk
     exact hk ⟨h4,h5⟩
end
section
def shiftM (A:List (Nat->Int)) (t:Nat) (m:Mk):Mk:={m with out:=A++m.out,time:=t}
theorem shift_tell (A:List (Nat->Int))(t:Nat)(m:Mk)(e:Nat->Int):zax (shiftM A t m) e=shiftM A t (zax m e):=by
 simp[zax,shiftM]
theorem shift_indicate (A:List (Nat->Int))(t:Nat)(m:Mk)(k:Nat):zah (shiftM A t m) k=shiftM A t (zah m k):=by
 unfold zah
 exact shift_tell A t m _
theorem shift_cancel (A:List (Nat->Int))(t:Nat)(m:Mk)(i:Nat):zav (shiftM A t m) i=shiftM A t (zav m i):=by
 simp[zav,zax,shiftM]
theorem shift_trade (A:List (Nat->Int))(t:Nat)(m:Mk)(i k n p:Nat):za3 (shiftM A t m) i k n p=shiftM A t (za3 m i k n p):=by
 simp[za3,zax,shiftM]
theorem shift_cross (A:List (Nat->Int))(t p f v:Nat)(m:Mk):zbg p f v (shiftM A t m)=shiftM A t (zbg p f v m):=by
 induction f generalizing v m with
 |zero=>rfl
 |succ f ih=>
  unfold zbg
  by_cases h:v=0
  .rw[if_pos h,if_pos h]
  .rw[if_neg h,if_neg h]
   dsimp only
   rw[shift_trade,ih]
   rfl
theorem shift_sweep (A:List (Nat->Int))(t n:Nat)(m:Mk):zai n (shiftM A t m)=shiftM A t (zai n m):=by
 induction n with
 |zero=>rfl
 |succ n ih=>
  unfold zai
  dsimp only
  rw[ih,shift_cancel]
  exact(apply_ite (shiftM A t) _ _ _).symm
def endMK (m2:Mk):Mk:=
 let m3:=zax m2 (mkev 8 0 0 0 0 0 0 0 0 m2.phase)
 let m4:=zai m3.all.length m3
 if m4.phase=2 then zah m4 6 else m4
theorem turn_end (m:Mk):zbj m=(let m1:=if m.phase≠1 then zbg (zal m.phase m.ref m.all).1 (zal m.phase m.ref m.all).2.1 (zal m.phase m.ref m.all).2.1 (zah m 7) else m;endMK {m1 with phase:=m1.phase+1}):=rfl
theorem shift_end (A:List (Nat->Int))(t:Nat)(m2:Mk):endMK (shiftM A t m2)=shiftM A t (endMK m2):=by
 unfold endMK
 dsimp only
 rw[show zax (shiftM A t m2) (mkev 8 0 0 0 0 0 0 0 0 (shiftM A t m2).phase)=shiftM A t (zax m2 (mkev 8 0 0 0 0 0 0 0 0 m2.phase)) from shift_tell ..]
 generalize zax m2 (mkev 8 0 0 0 0 0 0 0 0 m2.phase)=m3
 rw[show (shiftM A t m3).all.length=m3.all.length from rfl,shift_sweep,shift_indicate]
 exact(apply_ite (shiftM A t) _ _ _).symm
theorem shift_turn (A:List (Nat->Int))(t:Nat)(m:Mk):zbj (shiftM A t m)=shiftM A t (zbj m):=by
 rw[turn_end,turn_end]
 dsimp only
 by_cases h:m.phase≠1
 .rw[if_pos h,if_pos (show (shiftM A t m).phase≠1 from h),shift_indicate]
  rw[show zbg (zal (shiftM A t m).phase (shiftM A t m).ref (shiftM A t m).all).1 (zal (shiftM A t m).phase (shiftM A t m).ref (shiftM A t m).all).2.1 (zal (shiftM A t m).phase (shiftM A t m).ref (shiftM A t m).all).2.1 (shiftM A t (zah m 7))=shiftM A t (zbg (zal m.phase m.ref m.all).1 (zal m.phase m.ref m.all).2.1 (zal m.phase m.ref m.all).2.1 (zah m 7)) from shift_cross ..]
  generalize zbg (zal m.phase m.ref m.all).1 (zal m.phase m.ref m.all).2.1 (zal m.phase m.ref m.all).2.1 (zah m 7)=m1
  exact shift_end A t {m1 with phase:=m1.phase+1}
 .rw[if_neg h,if_neg (show ¬(shiftM A t m).phase≠1 from h)]
  exact shift_end A t {m with phase:=m.phase+1}
theorem shift_turns (A:List (Nat->Int))(t:Nat)(c:Cf)(s f:Nat)(m:Mk):za2 c s f (shiftM A t m)=shiftM A t (za2 c s f m):=by
 induction f generalizing m with
 |zero=>rfl
 |succ f ih=>
  unfold za2
  by_cases h:m.phase<3/\zb3 c m.phase<=s
  .rw[if_pos h,if_pos (show (shiftM A t m).phase<3/\zb3 c (shiftM A t m).phase<=s from h),shift_turn,ih]
  .rw[if_neg h,if_neg (show ¬((shiftM A t m).phase<3/\zb3 c (shiftM A t m).phase<=s) from h)]
theorem cross_phaseK (p f v:Nat)(m:Mk):(zbg p f v m).phase=m.phase:=by
 induction f generalizing v m with
 |zero=>rfl
 |succ f ih=>
  unfold zbg
  split
  .rfl
  .dsimp only
   rw[ih]
   rfl
theorem sweep_phaseK (n:Nat)(m:Mk):(zai n m).phase=m.phase:=by
 induction n with
 |zero=>rfl
 |succ n ih=>
  unfold zai
  dsimp only
  split
  .exact ih
  .exact ih
theorem turn_phaseK (m:Mk):(zbj m).phase=m.phase+1:=by
 unfold zbj
 dsimp only
 have key: ∀m4:Mk,(if m4.phase=2 then zah m4 6 else m4).phase=m4.phase:=by
  intro m4
  split<;>rfl
 rw[key,sweep_phaseK]
 show (if m.phase≠1 then _ else m).phase+1=_
 split
 .rw[cross_phaseK];rfl
 .rfl
theorem turns_timeK (c:Cf)(s f:Nat)(m:Mk):(za2 c s f m).time=m.time:=by
 have ht: ∀m,(zbj m).time=m.time:=fun m=>by
  have:=shift_turn [] m.time m
  have h0:shiftM [] m.time m=m:=rfl
  rw[h0] at this
  rw[this]
  rfl
 induction f generalizing m with
 |zero=>rfl
 |succ f ih=>
  unfold za2
  split
  .rw[ih,ht]
  .rfl
theorem turns_absorb (c:Cf)(s t:Nat)(hst:s<=t)(k F:Nat)(m:Mk)(hF:3<=F+m.phase):za2 c t F (za2 c s k m)=za2 c t F m:=by
 have fuel: ∀(F:Nat) (m:Mk),3<=F+m.phase->za2 c t (F+1) m=za2 c t F m:=by
  intro F
  induction F with
  |zero=>
   intro m h
   unfold za2
   rw[if_neg (by omega)]
  |succ F ih=>
   intro m h
   rw[za2]
   conv=>rhs;rw[za2]
   split
   .exact ih _ (by rw[turn_phaseK];omega)
   .rfl
 induction k generalizing F m with
 |zero=>rfl
 |succ k ih=>
  rw[za2]
  split
  .rename_i h
   cases F with
   |zero=>omega
   |succ F=>
    rw[fuel F _ ?_,ih F _ (by rw[turn_phaseK];omega)]
    .conv=>rhs;rw[za2]
     rw[if_pos ⟨h.1,llt h.2 hst⟩]
    .have hp: ∀(k:Nat) (m:Mk),m.phase<=(za2 c s k m).phase:=by
      intro k
      induction k with
      |zero=>intro m;exact nr
      |succ k ih=>
       intro m
       rw[za2]
       split
       .exact llt (by rw[turn_phaseK];omega) (ih _)
       .exact nr
     have:=hp k (zbj m)
     rw[turn_phaseK] at this
     omega
  .rfl
theorem tick_again (c:Cf)(m:Mk)(s t:Nat)(hst:s<=t):
  let m1:=zdu c {m with out:=[]} s
  let m2:=zdu c {m1 with out:=[]} t
  {m2 with out:=m1.out++m2.out}=zdu c {m with out:=[]} t:=by
 dsimp only
 by_cases hs:s<=m.time
 .rw[show zdu c {m with out:=[]} s={m with out:=[]} from if_pos hs]
  rfl
 .have e1:zdu c {m with out:=[]} s=za2 c s 3 {m with out:=[],time:=s}:=if_neg hs
  have ht1:(zdu c {m with out:=[]} s).time=s:=by rw[e1,turns_timeK]
  have e3:zdu c {m with out:=[]} t=za2 c t 3 {m with out:=[],time:=t}:=if_neg (show ¬t<=m.time by omega)
  generalize hm1:zdu c {m with out:=[]} s=m1 at *
  by_cases hts:t<=s
  .obtain rfl:s=t:=by omega
   rw[show zdu c {m1 with out:=[]} s={m1 with out:=[]} from if_pos (by rw[show ({m1 with out:=[]}:Mk).time=m1.time from rfl,ht1];exact hts),e3,←e1]
   simp
  .rw[show zdu c {m1 with out:=[]} t=za2 c t 3 {m1 with out:=[],time:=t} from if_neg (by rw[show ({m1 with out:=[]}:Mk).time=m1.time from rfl,ht1];exact hts),e3]
   have h1:=shift_turns m1.out t c t 3 {m1 with out:=[],time:=t}
   have h2:shiftM m1.out t {m1 with out:=[],time:=t}=shiftM [] t m1:=by simp[shiftM]
   have h3:za2 c t 3 (shiftM [] t m1)=za2 c t 3 {m with out:=[],time:=t}:=by
    rw[e1,←shift_turns,turns_absorb c s t hst 3 3 _ (by omega)]
    rfl
   rw[h2,h3] at h1
   rw[h1]
   have h4:=turns_timeK c t 3 {m1 with out:=[],time:=t}
   generalize za2 c t 3 {m1 with out:=[],time:=t}=m2 at *
   cases m2
   simp only at h4
   simp[shiftM,h4]
end
