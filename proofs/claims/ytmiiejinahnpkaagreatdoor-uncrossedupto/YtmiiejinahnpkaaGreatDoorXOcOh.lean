import Derived.Test.YtmiiejinahnpkaaGreatDoorXOaOb
import Derived.Test.YtmiiejinahnpkaaGreatDoorXNkNl
set_option maxRecDepth 8000
set_option maxHeartbeats 4000000
namespace Go.Proofs.YtmiiejinahnpkaaGreatDoor
section
def Xe (ph:Nat) (L:List Od) (p:Nat):List Nat->List (Nat->Int)->List Nat->Nat->Prop
 |r,[],r',s=>r'=r/\s=0
 |r,e::E,r',s=> ∃a b n s',a<L.length/\b<L.length/\a≠b/\e 0=3/\e 4=((nth L a).id:Int)/\e 5=((nth L b).id:Int)/\e 6=((n:Nat):Int)/\e 7=(p:Int)/\
   zdq ph 1 p (nth L a)=true/\zdq ph 2 p (nth L b)=true/\n<=r.getD a 0/\n<=r.getD b 0/\s=n+s'/\Xe ph L p ((r.set a (r.getD a 0-n)).set b (r.getD b 0-n)) E r' s'
theorem set_getD (r:List Nat)(a x i:Nat)(ha:a<r.length):(r.set a x).getD i 0=if i=a then x else r.getD i 0:=by
 simp only[List.getD,List.getElem?_set]
 by_cases h:i=a
 .subst h
  simp[ha]
 .rw[if_neg (fun e=>h e.symm),if_neg h]
theorem cross_xe (ph p f v:Nat)(m:Mk)(L:List Od)(φ:Nat->Nat)(r:List Nat)(hph:m.phase=ph)(hok:zdm m.all)(hp:p<=9223372036854775807)(hf:v<=f)(d1:v<=dep m.phase m.all 1 p)(d2:v<=dep m.phase m.all 2 p)
  (hφ: ∀i,i<L.length->φ i<m.all.length/\(nth L i).id=(nth m.all (φ i)).id/\(nth L i).side=(nth m.all (φ i)).side/\(nth L i).typ=(nth m.all (φ i)).typ/\(nth L i).price=(nth m.all (φ i)).price/\0<(nth L i).rest)
  (hs: ∀k,k<m.all.length->0<(nth m.all k).rest-> ∃i,i<L.length/\φ i=k)(hinj: ∀i j,i<L.length->j<L.length->φ i=φ j->i=j)
  (hl:r.length=L.length)(hr: ∀i,i<L.length->r.getD i 0=(nth m.all (φ i)).rest):
  ∃T r',(zbg p f v m).out=m.out++T/\Xe ph L p r T r' v/\r'.length=L.length/\ ∀i,i<L.length->r'.getD i 0=(nth (zbg p f v m).all (φ i)).rest:=by
 induction f generalizing m v r with
 |zero=>
  obtain rfl:v=0:=by omega
  exact⟨[],r,by simp[zbg],⟨rfl,rfl⟩,hl,hr⟩
 |succ f ih=>
  by_cases hv:v=0
  .subst hv
   rw[zey]
   exact⟨[],r,by simp,⟨rfl,rfl⟩,hl,hr⟩
  .obtain ⟨a,ea,ha,ba,sa,ta⟩:=first_takes (ph:=m.phase) (s:=1) hok hp (by omega)
   obtain ⟨b,eb,hb,bb,sb,tb⟩:=first_takes (ph:=m.phase) (s:=2) hok hp (by omega)
   rw[zex p f v a b m hv ea eb]
   have ra:=zeb ba
   have rb:=zeb bb
   obtain ⟨ia,hia,eia⟩:=hs a ha ra
   obtain ⟨ib,hib,eib⟩:=hs b hb rb
   obtain ⟨n,hn⟩: ∃n,n=min v (min (nth m.all a).rest (nth m.all b).rest):=⟨_,rfl⟩
   rw[←hn]
   have hab:a≠b:=fun e=>by rw[e] at sa;omega
   have hiab:ia≠ib:=fun e=>hab (by rw[←eia,←eib,e])
   have hnth:=fun j=>zff m a b n p j ha hb hab
   have hall:=zhi m a b n p ha hab
   have hcut:Cut m.all (za3 m a b n p).all:=by
    rw[hall]
    refine(Cut.setRest m.all a _ ha (Nat.sub_le _ _)).trans (Cut.setRest _ b _ (by rw[zaw];exact hb) ?_)
    rw[zbs _ _ _ _ ha,if_neg (fun e=>hab e.symm)]
    exact Nat.sub_le _ _
   have hph1:(za3 m a b n p).phase=m.phase:=rfl
   have dd: ∀s q,s=1\/s=2->dep m.phase m.all s q<=dep m.phase (za3 m a b n p).all s q+n:=fun s q hs=>zc8 m a b n p s q ha hb (by omega) (by omega)
   have d1':=dd 1 p (.inl rfl)
   have d2':=dd 2 p (.inr rfl)
   have ra':=hr ia hia
   have rb':=hr ib hib
   rw[eia] at ra'
   rw[eib] at rb'
   obtain ⟨T,r',t1,t2,t3,t4⟩:=ih (v-n) (za3 m a b n p) ((r.set ia (r.getD ia 0-n)).set ib (r.getD ib 0-n)) (hph1.trans hph) (hcut.ok hok) (by omega) (by rw[hph1];omega) (by rw[hph1];omega)
    (fun i hi=>by rw[hcut.len,hcut.id,hcut.side,hcut.typ,hcut.price];exact hφ i hi)
    (fun k hk hkr=>hs k (by rw[←hcut.len];exact hk) (lll hkr (hcut.rest k))) (by simpa using hl)
    (fun i hi=>by
     rw[set_getD _ _ _ _ (by simpa [hl] using hib),set_getD _ _ _ _ (by rw[hl];exact hia),hnth]
     by_cases e1:i=ib
     .subst e1
      rw[if_pos rfl,if_pos (.inr eib),rb',eib]
     .rw[if_neg e1]
      by_cases e2:i=ia
      .subst e2
       rw[if_pos rfl,if_pos (.inl eia),ra',eia]
      .rw[if_neg e2,if_neg,hr i hi]
       rintro (e|e)
       .exact e2 (hinj i ia hi hia (e.trans eia.symm))
       .exact e1 (hinj i ib hi hib (e.trans eib.symm)))
   obtain ⟨-,a1,a2,a3,a4,a5⟩:=hφ ia hia
   obtain ⟨-,b1,b2,b3,b4,b5⟩:=hφ ib hib
   rw[eia] at a1 a2 a3 a4
   rw[eib] at b1 b2 b3 b4
   have ho:(za3 m a b n p).out=m.out++[toldM {m with all:=zaf (zaf m.all a ((nth m.all a).rest-n)) b ((nth (zaf m.all a ((nth m.all a).rest-n)) b).rest-n),ref:=p} (mkev 3 0 0 0 (nth (zaf (zaf m.all a ((nth m.all a).rest-n)) b ((nth (zaf m.all a ((nth m.all a).rest-n)) b).rest-n)) a).id (nth (zaf (zaf m.all a ((nth m.all a).rest-n)) b ((nth (zaf m.all a ((nth m.all a).rest-n)) b).rest-n)) b).id n p 0 0)]:=rfl
   refine⟨_::T,r',by rw[t1,ho,List.append_assoc];rfl,⟨ia,ib,n,v-n,hia,hib,hiab,rfl,?_,?_,rfl,rfl,?_,?_,by omega,by omega,by omega,t2⟩,t3,t4⟩
   .rw[a1]
    exact congrArg (fun x:Nat=>(x:Int)) (hcut.id a)
   .rw[b1]
    exact congrArg (fun x:Nat=>(x:Int)) (hcut.id b)
   .refine inDep_iff.2 ⟨bk_live a3 (by rw[←hph];exact ba) a5,by rw[tk_same a2 a3 a4];exact ta,by omega⟩
   .refine inDep_iff.2 ⟨bk_live b3 (by rw[←hph];exact bb) b5,by rw[tk_same b2 b3 b4];exact tb,by omega⟩
theorem shown_ix (l:List Od): ∃φ:Nat->Nat,(∀i,i<(zfg l).length->φ i<l.length/\nth (zfg l) i=nth l (φ i)/\0<(nth l (φ i)).rest)/\(∀k,k<l.length->0<(nth l k).rest-> ∃i,i<(zfg l).length/\φ i=k)/\ ∀i j,i<j->j<(zfg l).length->φ i<φ j:=by
 have e:(zbi l).map (nth l)=zfg l:=shown_live l
 have hlen:(zfg l).length=(zbi l).length:=by rw[←e];simp
 refine⟨fun i=>(zbi l).getD i 0,fun i hi=>?_,fun k hk hr=>?_,fun i j hij hj=>?_⟩
 .rw[hlen] at hi
  have hm:(zbi l).getD i 0∈zbi l:=by simp[List.getD,hi]
  obtain ⟨h1,h2⟩:=(zel l _).1 hm
  refine⟨h1,?_,h2⟩
  rw[←e]
  have hd:nth l ((zbi l)[i])=nth l ((zbi l).getD i 0):=by simp[List.getD,hi]
  rw[←hd]
  conv=>lhs;unfold nth
  simp[List.getD,hi]
  rfl
 .obtain ⟨i,hi,e'⟩:=List.getElem_of_mem ((zel l k).2 ⟨hk,hr⟩)
  exact⟨i,by rw[hlen];exact hi,by simp[List.getD,hi,e']⟩
 .rw[hlen] at hj
  have:=List.pairwise_iff_getElem.1 (zeh l) i j (by omega) hj hij
  have e1:(zbi l).getD i 0=(zbi l)[i]:=by simp[List.getD,show i<(zbi l).length by omega]
  have e2:(zbi l).getD j 0=(zbi l)[j]:=by simp[List.getD,hj]
  show (zbi l).getD i 0<(zbi l).getD j 0
  rw[e1,e2]
  exact this
theorem ahead_ix (a b:Od)(i k i' k':Nat)(h:i<k↔i'<k'):zcy a b i k=zcy a b i' k':=by
 unfold zcy
 simp only[h]
theorem call_vol (m:Mk):(zal m.phase m.ref m.all).2.1=zcn m.phase m.ref m.all:=by
 unfold zal
 split
 .rename_i e
  exact e.symm
 .rfl
theorem call_out {m:Mk}(h:Iv m)(hp:m.phase≠1): ∃e T e8 F r',(zbj m).out=m.out++e::(T++e8::F)/\e8 0=8/\e 0=7/\e 6=((zcn m.phase m.ref m.all:Nat):Int)/\e 7=(((zal m.phase m.ref m.all).1:Nat):Int)/\e 8=(zal m.phase m.ref m.all).2.2/\
  (((zal m.phase m.ref m.all).1=0/\zcn m.phase m.ref m.all=0/\(zal m.phase m.ref m.all).2.2=0)\/
   (1<=(zal m.phase m.ref m.all).1/\(zal m.phase m.ref m.all).1<=1000000/\zcn m.phase m.ref m.all=vof m.phase m.all (zal m.phase m.ref m.all).1/\zcn m.phase m.ref m.all≠0/\
    (zal m.phase m.ref m.all).2.2=(dep m.phase m.all 1 (zal m.phase m.ref m.all).1:Int)-(dep m.phase m.all 2 (zal m.phase m.ref m.all).1:Int)))/\
  Xe m.phase (zfg m.all) (zal m.phase m.ref m.all).1 ((zfg m.all).map Od.rest) T r' (zcn m.phase m.ref m.all)/\r'.length=(zfg m.all).length/\
  ∀i k,i<(zfg m.all).length->k<(zfg m.all).length->(nth (zfg m.all) i).side=(nth (zfg m.all) k).side->wt m.phase (nth (zfg m.all) i)=false->zcy (nth (zfg m.all) i) (nth (zfg m.all) k) i k=true->r'.getD k 0<(nth (zfg m.all) k).rest->r'.getD i 0=0:=by
 obtain ⟨c1,c2,c3⟩:=ze0 m.phase m.ref m.all
 have hpr:(zal m.phase m.ref m.all).1<=9223372036854775807:=by
  rcases c3 with e|e
  .rw[e];decide
  .exact llt (cnd_range h _ e).2 (by decide)
 obtain ⟨φ,p1,p2,p3⟩:=shown_ix m.all
 have hinj: ∀i j,i<(zfg m.all).length->j<(zfg m.all).length->φ i=φ j->i=j:=fun i j hi hj e=>by
  rcases Nat.lt_trichotomy i j with h|h|h
  .have:=p3 i j h hj;omega
  .exact h
  .have:=p3 j i h hi;omega
 have X:=cross_xd (zal m.phase m.ref m.all).1 (zal m.phase m.ref m.all).2.1 (zal m.phase m.ref m.all).2.1 (zah m 7) h.ok hpr nr c1 c2
 obtain ⟨T,r',t1,t2,t3,t4⟩:=cross_xe m.phase (zal m.phase m.ref m.all).1 (zal m.phase m.ref m.all).2.1 (zal m.phase m.ref m.all).2.1 (zah m 7) (zfg m.all) φ ((zfg m.all).map Od.rest) rfl h.ok hpr nr c1 c2
  (fun i hi=>by
   obtain ⟨q1,q2,q3⟩:=p1 i hi
   refine⟨q1,?_,?_,?_,?_,?_⟩
   .rw[q2];rfl
   .rw[q2];rfl
   .rw[q2];rfl
   .rw[q2];rfl
   .rw[q2];exact q3) (fun k hk hr=>p2 k hk hr) hinj (by simp) (fun i hi=>by rw[rests_get _ i hi,(p1 i hi).2.1];rfl)
 rw[turn_tail,if_pos hp]
 rw[call_vol] at t2
 generalize zbg (zal m.phase m.ref m.all).1 (zal m.phase m.ref m.all).2.1 (zal m.phase m.ref m.all).2.1 (zah m 7)=M at X t1 t4 ⊢
 have htail: ∃e8 F,(tailM M).out=M.out++e8::F/\e8 0=8:=by
  have key:Pre (zax {M with phase:=M.phase+1} (mkev 8 0 0 0 0 0 0 0 0 ((M.phase+1:Nat):Int))) (tailM M):=by
   unfold tailM
   dsimp only
   split
   .exact(Pre.sweep _ _).trans (Pre.indicate _ _)
   .exact Pre.sweep _ _
  obtain ⟨F,e⟩:=key.first
  exact⟨_,F,e,rfl⟩
 obtain ⟨e8,F,u1,u2⟩:=htail
 have o7:(zah m 7).out=m.out++[toldM m (mkev 7 0 0 0 0 0 (zal m.phase m.ref m.all).2.1 (zal m.phase m.ref m.all).1 (zal m.phase m.ref m.all).2.2 0)]:=rfl
 refine⟨_,T,e8,F,r',by rw[u1,t1,o7];simp[List.append_assoc];rfl,u2,rfl,?_,rfl,rfl,?_,t2,t3,fun i k hi hk hsd hwi hah hlt=>?_⟩
 .rw[←call_vol];rfl
 .by_cases h0:zcn m.phase m.ref m.all=0
  .left
   refine⟨?_,h0,?_⟩
   .unfold zal;rw[if_pos h0]
   .unfold zal;rw[if_pos h0]
  .right
   have hl:=price_left m.phase m.ref m.all h0
   have e1:(zal m.phase m.ref m.all).1=zdf m.phase m.ref m.all:=by unfold zal;rw[if_neg h0]
   have e2:(zal m.phase m.ref m.all).2.2=(dep m.phase m.all 1 (zdf m.phase m.ref m.all):Int)-(dep m.phase m.all 2 (zdf m.phase m.ref m.all):Int):=by unfold zal;rw[if_neg h0]
   have hr:=cnd_range h _ (left_sub _ _ _ _ hl)
   rw[e1,e2]
   refine⟨hr.1,hr.2,?_,h0,rfl⟩
   unfold zcp zcz at hl
   have:=(List.mem_filter.1 hl).2
   simp only[decide_eq_true_eq] at this
   exact this.1.symm
 .obtain ⟨i1,i2,i3⟩:=p1 i hi
  obtain ⟨k1,k2,k3⟩:=p1 k hk
  rw[t4 i hi]
  rw[t4 k hk,k2] at hlt
  rw[i2,k2] at hsd hah
  rw[i2] at hwi
  have hik:i<k↔φ i<φ k:=by
   constructor
   .exact fun x=>p3 i k x hk
   .intro x
    rcases Nat.lt_trichotomy i k with h|h|h
    .exact h
    .rw[h] at x;omega
    .have:=p3 k i h hi;omega
  rw[ahead_ix _ _ i k (φ i) (φ k) hik] at hah
  exact X.pri (φ i) (φ k) i1 k1 hsd (by show bk m.phase (nth m.all (φ i))=true;unfold bk;rw[hwi];simp[i3]) hah hlt
def Tm (c:Cf) (m:Mk):Prop:=m.phase<3->m.time<zb3 c m.phase
theorem meet_pt (o:Od)(k f:Nat)(m:Mk):(zbd o k f m).phase=m.phase/\(zbd o k f m).time=m.time:=by
 induction f generalizing m with
 |zero=>exact⟨rfl,rfl⟩
 |succ f ih=>
  unfold zbd
  dsimp only
  split
  .exact⟨rfl,rfl⟩
  .split
   .exact⟨rfl,rfl⟩
   .split
    .exact⟨rfl,rfl⟩
    .split
     .exact ih _
     .exact ih _
theorem enter_pt (c:Cf)(m:Mk)(o:Od):(zce c m o).phase=m.phase/\(zce c m o).time=m.time:=by
 unfold zce
 dsimp only
 split
 .exact⟨rfl,rfl⟩
 .split
  .exact⟨rfl,rfl⟩
  .split
   .exact⟨rfl,rfl⟩
   .split
    .exact meet_pt o _ _ _
    .exact meet_pt o _ _ _
theorem change_pt (m:Mk)(id:Nat)(by_:Int):(zbv m id by_).phase=m.phase/\(zbv m id by_).time=m.time:=by
 unfold zbv
 dsimp only
 split
 .exact⟨rfl,rfl⟩
 .split
  .exact⟨rfl,rfl⟩
  .have key: ∀M:Mk,M.phase=m.phase->M.time=m.time->(if M.phase=0\/M.phase=2 then zah M 6 else M).phase=m.phase/\(if M.phase=0\/M.phase=2 then zah M 6 else M).time=m.time:=fun M h1 h2=>by
    split
    .exact⟨h1,h2⟩
    .exact⟨h1,h2⟩
   refine key _ ?_ ?_
   .split<;>rfl
   .split<;>rfl
theorem turns_tm (c:Cf)(t f:Nat)(m:Mk)(hf:3<=f+m.phase)(ht:m.time=t):Tm c (za2 c t f m):=by
 have key: ∀f (m:Mk),3<=f+m.phase->(za2 c t f m).phase<3->t<zb3 c (za2 c t f m).phase:=by
  intro f
  induction f with
  |zero=>intro m hf h;exact absurd h (by show ¬m.phase<3;omega)
  |succ f ih=>
   intro m hf
   rw[za2]
   split
   .exact ih _ (by rw[turn_phaseK];omega)
   .rename_i hc
    intro h
    exact Nat.lt_of_not_le fun hle=>hc ⟨h,hle⟩
 intro h
 rw[turns_timeK,ht]
 exact key f m hf h
theorem send_tm (c:Cf)(m:Mk)(X:Nat->Nat)(n:Nat)(h:Tm c m):Tm c (zaz c m X n):=by
 have keep: ∀M:Mk,M.phase=m.phase/\M.time=m.time->Tm c M:=fun M ⟨e1,e2⟩=>by unfold Tm;rw[e1,e2];exact h
 unfold zaz
 dsimp only
 generalize (if 0<n then X 0 else 0)=kk
 split
 .exact keep _ (enter_pt c _ _)
 .split
  .exact keep _ (change_pt _ _ _)
  .split
   .exact keep _ (change_pt _ _ _)
   .split
    .unfold zdu
     split
     .exact keep _ ⟨rfl,rfl⟩
     .exact turns_tm c _ 3 _ (by omega) rfl
    .exact keep _ ⟨rfl,rfl⟩
theorem tick_turn (c:Cf)(m:Mk)(h:Tm c m)(hp:m.phase<3)(hn:m.phase+1<3->zb3 c m.phase<zb3 c (m.phase+1)):zdu c m (zb3 c m.phase)=zbj {m with time:=zb3 c m.phase}:=by
 have ht:=h hp
 unfold zdu
 rw[if_neg (by omega)]
 generalize hM:({m with time:=zb3 c m.phase}:Mk)=M
 have hMp:M.phase=m.phase:=by rw[←hM]
 rw[za2,if_pos ⟨by omega,by rw[hMp];exact nr⟩]
 have hs: ¬((zbj M).phase<3/\zb3 c (zbj M).phase<=zb3 c m.phase):=by
  rw[turn_phaseK,hMp]
  rintro ⟨q1,q2⟩
  have:=hn q1
  omega
 rw[za2,if_neg hs]
end
section
open Go.RowKit Go.Shelf
theorem kFind_any (a:Option Addr)(c ph:Nat)(L:List Od)(id v:Int)(w:World)(R:EW)(hn:L.length<=1048576)(h:OrdsAt w a ph L)
  (hv:(∃k:Nat,v=k/\k<L.length/\((nth L k).id:Int)=id/\ ∀j,j<k->((nth L j).id:Int)≠id)\/(v= -1/\ ∀j,j<L.length->((nth L j).id:Int)≠id))
  (hR:R (.returned (.int .i64 v)) w):Calls Tryz.prog 55 #[.slice a L.length c,.int .i64 id] w R:=by
 have HR:=zl hR
 have HO:=zl h
 have HV:=zl hv
 obtain ⟨n,hnn⟩: ∃y,y=L.length:=⟨_,rfl⟩
 have HN:=zl (hnn.symm)
 rw[←hnn] at hn
 rw[←hnn]
 clear hR h hv hnn
 go_enter Tryz.func55,Tryz.ntmps55
 go_wp2_with fail
 go_loop [5] (fun t=> ∃i:Nat,i<=n/\t= .int .i64 i/\ ∀j,j<i->((nth L j).id:Int)≠id) (fun t=>n-(intOf t).toNat)
 case atStart=>exact⟨0,Nat.zero_le _,rfl,fun j hj=>absurd hj (Nat.not_lt_zero _)⟩
 case round=>
  obtain ⟨i,hi,rfl,hne⟩:=hrel
  have HNe:=zl hne
  clear hne
  by_cases hlt:i<n
  .obtain ⟨g,o,rfl,x0,-⟩:=HO.o i (by rw[HN.o];exact hlt)
   obtain ⟨q,hq⟩: ∃y,y=(nth L i).id:=⟨_,rfl⟩
   rw[←hq] at x0
   have HQ:=zl (hq.symm)
   have hi0:(0:Int)<=(i:Int):=by omega
   have hi1:(i:Int)<(n:Int):=by omega
   clear hq
   by_cases he:(q:Int)=id
   .have hb:((q:Int)==id)=true:=by simpa using he
    have hvi:v=(i:Int):=by
     rcases HV.o with ⟨k,e,hk,e1,e2⟩|⟨-,e2⟩
     .have h1: ¬i<k:=fun hh=>e2 i hh (by rw[HQ.o];exact he)
      have h2: ¬k<i:=fun hh=>HNe.o k hh e1
      omega
     .exact absurd (by rw[HQ.o];exact he) (e2 i (by rw[HN.o];exact hlt))
    subst hvi
    go_wp2_with fail
    exact HR.o
   .have hb:((q:Int)==id)=false:=by simpa using he
    go_wp2_with fail
    go_round
    case rel=>
     refine⟨i+1,by omega,by go_num,fun j hj=>?_⟩
     by_cases e:j=i
     .subst e
      rw[HQ.o]
      exact he
     .exact HNe.o j (by omega)
    case measure=>simp only[intOf];omega
  .have hin:i=n:=by omega
   have hvi:v= -1:=by
    rcases HV.o with ⟨k,e,hk,e1,e2⟩|⟨e,-⟩
    .exact absurd e1 (HNe.o k (by rw[HN.o] at hk;omega))
    .exact e
   subst hvi
   subst hin
   go_wp2_with fail
   exact HR.o
theorem kFind_at (a:Option Addr)(c ph t:Nat)(L:List Od)(id v:Int)(w:World)(R:EW)(ht:L.length=t)(hn:L.length<=1048576)(h:OrdsAt w a ph L)
  (hv:(∃k:Nat,v=k/\k<L.length/\((nth L k).id:Int)=id/\ ∀j,j<k->((nth L j).id:Int)≠id)\/(v= -1/\ ∀j,j<L.length->((nth L j).id:Int)≠id))
  (hR:R (.returned (.int .i64 v)) w):Calls Tryz.prog 55 #[.slice a t c,.int .i64 id] w R:=by
 subst ht
 exact kFind_any a c ph L id v w R hn h hv hR
end
section
open Go.RowKit Go.Shelf
def shv (o:Od) (b:Bool):Value:= .agg #[.int .i64 o.id,.int .i64 o.side,.int .i64 o.typ,.int .i64 o.price,.int .i64 o.rest,.bool b]
theorem kPlain_any (o:Od)(b:Bool)(w:World)(R:EW)(hR: ∀w',Below w.heap.size w w'->R (.returned (.bool (pl o))) w'):Calls Tryz.prog 98 #[shv o b] w R:=by
 obtain ⟨oi,os,t,op,or⟩:=o
 have HR:Hid (∀w',Below w.heap.size w w'->R (.returned (.bool (t==2||t==3))) w'):=hR
 have HB:Hid (∀ob,Below w.heap.size w (w.alloc ob)):=fun ob=>zac w ob
 clear hR
 unfold shv
 go_enter Tryz.func98,Tryz.ntmps98
 by_cases h2:t=2
 .subst h2
  go_wp2_with fail
  exact zam (HR.o _ (HB.o _)) (by simp)
 .have b2:((t:Int)==2)=false:=by simp;omega
  by_cases h3:t=3
  .subst h3
   go_wp2_with fail
   exact zam (HR.o _ (HB.o _)) (by simp)
  .have b3:((t:Int)==3)=false:=by simp;omega
   go_wp2_with fail
   exact zam (HR.o _ (HB.o _)) (by simp[h2,h3])
theorem kTakes_any (o:Od)(b:Bool)(p:Nat)(w:World)(R:EW)(hs:o.side=1\/o.side=2)(hR: ∀w',Below w.heap.size w w'->R (.returned (.bool (tk o p))) w'):Calls Tryz.prog 65 #[shv o b,.int .i64 (p:Nat)] w R:=by
 have HR:=zl hR
 obtain ⟨W,hW⟩: ∃y,y=w.alloc (.cells #[.int .i64 o.id,.int .i64 o.side,.int .i64 o.typ,.int .i64 o.price,.int .i64 o.rest,.bool b] 89):=⟨_,rfl⟩
 have HB:Hid (Below w.heap.size w W):=by rw[hW];exact zac w _
 have HG:Hid (W.heap[w.heap.size]?=some (.cells #[.int .i64 o.id,.int .i64 o.side,.int .i64 o.typ,.int .i64 o.price,.int .i64 o.rest,.bool b] 89 (0,0))):=by rw[hW];exact heap_alloc_new w _
 clear hR
 unfold shv
 go_enter Tryz.func65,Tryz.ntmps65
 go_wp2_with fail
 rw[←hW]
 clear hW
 refine kPlain_any o b W _ ?_
 intro w2 hb2
 have HB2:Hid (Below w.heap.size w w2):=HB.o.trans (hb2.mono HB.o.size)
 have c1:w2.cell? ⟨w.heap.size,1,none⟩=some (.int .i64 o.side):=cell_of_row w2 _ 1 _ _ (0,0) (zau hb2 HG.o)
 have c3:w2.cell? ⟨w.heap.size,3,none⟩=some (.int .i64 o.price):=cell_of_row w2 _ 3 _ _ (0,0) (zau hb2 HG.o)
 clear hb2 HG HB
 have HT:Hid (tk o p=(pl o||(if o.side=1 then decide (p<=o.price) else decide (o.price<=p)))):=rfl
 generalize tk o p=T at *
 generalize pl o=x at *
 generalize o.price=q at *
 generalize o.side=s at *
 have hfin:Hid (∀y w',(y=(x||(if s=1 then decide (p<=q) else decide (q<=p))))->Below w.heap.size w w'->R (.returned (.bool y)) w'):=fun y w' e hb=>by
  have:=HR.o w' hb
  rw[HT.o,←e] at this
  exact this
 clear HR HT
 cases x with
 |true=>
  go_wp2_with fail
  exact hfin.o _ _ (by simp) HB2.o
 |false=>
  rcases hs with rfl|rfl
  .by_cases hp:p<=q
   .have hp':(p:Int)<=(q:Int):=by omega
    go_wp2_with fail
    exact hfin.o _ _ (by simp[hp]) HB2.o
   .have hp': ¬(p:Int)<=(q:Int):=by omega
    go_wp2_with fail
    exact hfin.o _ _ (by simp[hp]) HB2.o
  .by_cases hp:q<=p
   .have hp':(q:Int)<=(p:Int):=by omega
    go_wp2_with fail
    exact hfin.o _ _ (by simp[hp]) HB2.o
   .have hp': ¬(q:Int)<=(p:Int):=by omega
    go_wp2_with fail
    exact hfin.o _ _ (by simp[hp]) HB2.o
def Liv (L:List Od):Prop:= ∀i,i<L.length->0<(nth L i).rest/\okOd (nth L i)
theorem inDep_live {ph s p:Nat}{o:Od}(h:0<o.rest):zdq ph s p o=(tk o p&&(!wt ph o&&o.side==s)):=by
 unfold zdq bk
 rw[show decide (0<o.rest)=true by simpa using h]
 cases tk o p<;>cases wt ph o<;>simp
theorem kDepth_any (a:Option Addr)(c ph:Nat)(L:List Od)(s p:Nat)(w:World)(R:EW)(hn:L.length<=1048576)(h:OrdsAt w a ph L)(hl:Liv L)(hd:dep ph L s p<=1000000000)
  (hR: ∀w',Below w.heap.size w w'->R (.returned (.int .i64 (dep ph L s p:Nat))) w'):Calls Tryz.prog 64 #[.slice a L.length c,.int .i64 (s:Nat),.int .i64 (p:Nat)] w R:=by
 have HR:=zl hR
 have HO:=zl h
 have HL:Hid (Liv L/\dep ph L s p<=1000000000):=⟨hl,hd⟩
 obtain ⟨n,hnn⟩: ∃y,y=L.length:=⟨_,rfl⟩
 have HN:=zl (hnn.symm)
 rw[←hnn] at hn
 rw[←hnn]
 clear hR h hl hd hnn
 go_enter Tryz.func64,Tryz.ntmps64
 go_wp2_with fail
 go_loopw [7,8,9] (fun t u _ wr=> ∃i:Nat,i<=n/\t= .int .i64 (dep ph (L.take i) s p:Nat)/\u= .int .i64 i/\Below w.heap.size w wr) (fun _ u _ _=>n-(intOf u).toNat)
 case atStart=>exact⟨0,Nat.zero_le _,by simp[dep],rfl,br⟩
 case round=>
  obtain ⟨i,hi,rfl,rfl,hbr⟩:=hrel
  have HBr:=zl hbr
  clear hbr
  by_cases hlt:i<n
  .have hil:i<L.length:=by rw[HN.o];exact hlt
   obtain ⟨g,o,rfl,x0,x1,x2,x3,x4,x5⟩:=(HO.o.ext HBr.o) i hil
   obtain ⟨q,hq⟩: ∃y,y=nth L i:=⟨_,rfl⟩
   obtain ⟨b,hb⟩: ∃y,y=wt ph (nth L i):=⟨_,rfl⟩
   have hlive:=HL.o.1 i hil
   have hdt:=dep_take ph L s p i hil
   have hdl:=llt (dep_take_le ph L s p (i+1)) HL.o.2
   rw[inDep_live hlive.1,←hb] at hdt
   rw[←hq] at x0 x1 x2 x3 x4 hlive hdt
   rw[←hb] at x5
   obtain ⟨D,hD⟩: ∃y,y=dep ph (L.take i) s p:=⟨_,rfl⟩
   rw[←hD] at hdt
   rw[←hD]
   have HD:=zl hdt
   have hside:q.side=1\/q.side=2:=hlive.2.side
   have hrest:q.rest<=4294967295\/(tk q p&&(!b&&q.side==s))=false:=by
    by_cases e:(tk q p&&(!b&&q.side==s))=true
    .left
     rw[if_pos e] at hdt
     omega
    .right
     simpa using e
   have hDb:D<=1000000000:=by rw[hdt] at hdl;omega
   have hi0:(0:Int)<=(i:Int):=by omega
   have hi1:(i:Int)<(n:Int):=by omega
   clear hq hb hD hdt hdl hil hlive
   go_wp2_with fail
   refine kTakes_any q b p wr _ hside ?_
   intro w2 hb2
   have HB2:Hid (Below w.heap.size w w2):=HBr.o.trans (hb2.mono HBr.o.size)
   have y1:=zaa hb2 x1
   have y4:=zaa hb2 x4
   have y5:=zaa hb2 x5
   clear x0 x1 x2 x3 x4 x5 hb2
   generalize tk q p=T at *
   generalize q.side=e at *
   generalize q.rest=r at *
   cases T with
   |false=>
    have HD0:Hid (dep ph (L.take (i+1)) s p=D):=show dep ph (L.take (i+1)) s p=D from (by have:=HD.o;simpa using this)
    clear hrest
    go_wp2_with fail
    go_roundw
    case rel=>exact⟨i+1,by omega,by rw[HD0.o],by go_num,HB2.o⟩
    case measure=>simp only[intOf];omega
   |true=>
    cases b with
    |true=>
     have HD0:Hid (dep ph (L.take (i+1)) s p=D):=show dep ph (L.take (i+1)) s p=D from (by have:=HD.o;simpa using this)
     clear hrest
     go_wp2_with fail
     go_roundw
     case rel=>exact⟨i+1,by omega,by rw[HD0.o],by go_num,HB2.o⟩
     case measure=>simp only[intOf];omega
    |false=>
     by_cases hes:e=s
     .subst hes
      have HD0:Hid (dep ph (L.take (i+1)) e p=D+r):=show dep ph (L.take (i+1)) e p=D+r from (by have:=HD.o;simpa using this)
      have hr:r<=4294967295:=by simpa using hrest
      clear hrest hside
      go_wp2_with fail
      go_roundw
      case rel=>exact⟨i+1,by omega,by rw[HD0.o];go_num,by go_num,HB2.o⟩
      case measure=>simp only[intOf];omega
     .have bes:((e:Int)==(s:Int))=false:=by simp;omega
      have HD0:Hid (dep ph (L.take (i+1)) s p=D):=show dep ph (L.take (i+1)) s p=D from (by have:=HD.o;simpa [hes] using this)
      clear hrest hside
      go_wp2_with fail
      go_roundw
      case rel=>exact⟨i+1,by omega,by rw[HD0.o],by go_num,HB2.o⟩
      case measure=>simp only[intOf];omega
  .have hin:i=n:=by omega
   subst hin
   have hfin:Hid (R (.returned (.int .i64 (dep ph (L.take i) s p:Nat))) wr):=by
    have:=HR.o wr HBr.o
    rw[show L.take i=L by rw[←HN.o];exact List.take_length]
    exact this
   go_wp2_with fail
   exact hfin.o
theorem kDepth_at (a:Option Addr)(c ph t:Nat)(L:List Od)(s p:Nat)(w:World)(R:EW)(ht:L.length=t)(hn:L.length<=1048576)(h:OrdsAt w a ph L)(hl:Liv L)(hd:dep ph L s p<=1000000000)(S:Int)(hS:S=(s:Int))
  (hR: ∀w',Below w.heap.size w w'->R (.returned (.int .i64 (dep ph L s p:Nat))) w'):Calls Tryz.prog 64 #[.slice a t c,.int .i64 S,.int .i64 (p:Nat)] w R:=by
 subst ht
 subst hS
 exact kDepth_any a c ph L s p w R hn h hl hd hR
theorem kVolume_any (a:Option Addr)(c ph t:Nat)(L:List Od)(p:Nat)(w:World)(R:EW)(ht:L.length=t)(hn:L.length<=1048576)(h:OrdsAt w a ph L)(hl:Liv L)(hd: ∀s p,dep ph L s p<=1000000000)
  (hR: ∀w',Below w.heap.size w w'->R (.returned (.int .i64 (vof ph L p:Nat))) w'):Calls Tryz.prog 62 #[.slice a t c,.int .i64 (p:Nat)] w R:=by
 have HR:=zl hR
 have HO:=zl h
 have HL:Hid (L.length=t/\L.length<=1048576/\Liv L/\ ∀s p,dep ph L s p<=1000000000):=⟨ht,hn,hl,hd⟩
 clear hR h hl hd hn ht
 go_enter Tryz.func62,Tryz.ntmps62
 go_wp2_with fail
 refine kDepth_at a c ph t L 1 p w _ HL.o.1 HL.o.2.1 HO.o HL.o.2.2.1 (HL.o.2.2.2 1 p) 1 rfl ?_
 intro w2 hb2
 have HB2:=zl hb2
 clear hb2
 go_wp2_with fail
 refine kDepth_at a c ph t L 2 p w2 _ HL.o.1 HL.o.2.1 (HO.o.ext HB2.o) HL.o.2.2.1 (HL.o.2.2.2 2 p) 2 rfl ?_
 intro w3 hb3
 have HB3:Hid (Below w.heap.size w w3):=HB2.o.trans (hb3.mono HB2.o.size)
 clear hb3
 have HV:Hid (∀y w',y=vof ph L p->Below w.heap.size w w'->R (.returned (.int .i64 (y:Nat))) w'):=fun y w' e hb=>by rw[e];exact HR.o w' hb
 have HVd:Hid (vof ph L p=min (dep ph L 1 p) (dep ph L 2 p)):=rfl
 generalize dep ph L 1 p=D at *
 generalize dep ph L 2 p=S at *
 by_cases hlt:D<S
 .have h':(D:Int)<(S:Int):=by omega
  go_wp2_with fail
  exact HV.o D _ (by rw[HVd.o];omega) HB3.o
 .have h': ¬(D:Int)<(S:Int):=by omega
  go_wp2_with fail
  exact HV.o S _ (by rw[HVd.o];omega) HB3.o
theorem dep_shown (ph:Nat)(l:List Od)(s p:Nat):dep ph (zfg l) s p=dep ph l s p:=by
 induction l with
 |nil=>rfl
 |cons a l ih=>
  rw[zjz]
  unfold zfg
  rw[List.filter_cons]
  by_cases h:0<a.rest
  .rw[if_pos (by simpa using h),zjz]
   unfold zfg at ih
   rw[ih]
  .rw[if_neg (by simpa using h),if_neg (by unfold zdq bk;simp[h])]
   unfold zfg at ih
   rw[ih]
   omega
theorem vof_shown (ph:Nat)(l:List Od)(p:Nat):vof ph (zfg l) p=vof ph l p:=by
 unfold vof
 rw[dep_shown,dep_shown]
theorem kAhead_any (a:Option Addr)(c ph t:Nat)(L:List Od)(i k:Nat)(w:World)(R:EW)(ht:L.length=t)(h:OrdsAt w a ph L)(hl:Liv L)(hi:i<L.length)(hk:k<L.length)
  (hR: ∀w',Below w.heap.size w w'->R (.returned (.bool (zcy (nth L i) (nth L k) i k))) w'):Calls Tryz.prog 66 #[.slice a t c,.int .i64 (i:Nat),.int .i64 (k:Nat)] w R:=by
 have HR:Hid (∀y w',y=zcy (nth L i) (nth L k) i k->Below w.heap.size w w'->R (.returned (.bool y)) w'):=fun y w' e hb=>by rw[e];exact hR w' hb
 have HO:=zl h
 have HA:Hid (zcy (nth L i) (nth L k) i k=if pl (nth L i) !=pl (nth L k) then pl (nth L i) else if !pl (nth L i)&&(nth L i).price !=(nth L k).price then (if (nth L i).side=1 then decide ((nth L k).price<(nth L i).price) else decide ((nth L i).price<(nth L k).price)) else decide (i<k)):=rfl
 have hsd:=(hl i hi).2.side
 have hit:(i:Int)<(t:Int):=by omega
 have hkt:(k:Int)<(t:Int):=by omega
 have hi0:(0:Int)<=(i:Int):=by omega
 have hk0:(0:Int)<=(k:Int):=by omega
 obtain ⟨g,o,rfl,x0,x1,x2,x3,x4,x5⟩:=h i hi
 obtain ⟨g',o',e',y0,y1,y2,y3,y4,y5⟩:=h k hk
 injection e' with e'
 injection e' with e1 e2
 subst e1
 subst e2
 generalize nth L i=I at *
 generalize nth L k=K at *
 generalize wt ph I=bi at *
 generalize wt ph K=bk' at *
 clear hR h hl hi hk
 go_enter Tryz.func66,Tryz.ntmps66
 go_wp2_with fail
 refine kPlain_any I bi w _ ?_
 intro w2 hb2
 have HB2:=zl hb2
 have y0:=zaa hb2 y0
 have y1:=zaa hb2 y1
 have y2:=zaa hb2 y2
 have y3:=zaa hb2 y3
 have y4:=zaa hb2 y4
 have y5:=zaa hb2 y5
 have x1:=zaa hb2 x1
 have x3:=zaa hb2 x3
 clear hb2
 go_wp2_with fail
 refine kPlain_any K bk' w2 _ ?_
 intro w3 hb3
 have HB3:Hid (Below w.heap.size w w3):=HB2.o.trans (hb3.mono HB2.o.size)
 have y3:=zaa hb3 y3
 have x1:=zaa hb3 x1
 have x3:=zaa hb3 x3
 clear hb3 HB2
 generalize pl I=X at *
 generalize pl K=Y at *
 generalize I.price=p at *
 generalize K.price=q at *
 generalize I.side=s at *
 cases X with
 |true=>
  cases Y with
  |true=>
   go_wp2_with fail
   go_quiet (fail)
   have HB4:Hid (Below w.heap.size w (w3.drewN nq)):=HB3.o.trans ((below_drewN br _).mono HB3.o.size)
   change (w3.drewN nq).cell? _=_ at y3 x1 x3
   generalize w3.drewN nq=W at *
   by_cases hik:i<k
   .have h':(i:Int)<(k:Int):=by omega
    go_wp2_with fail
    exact HR.o _ _ (by rw[HA.o];simp[hik]) HB4.o
   .have h': ¬(i:Int)<(k:Int):=by omega
    go_wp2_with fail
    exact HR.o _ _ (by rw[HA.o];simp[hik]) HB4.o
  |false=>
   go_wp2_with fail
   exact HR.o _ _ (by rw[HA.o];simp) HB3.o
 |false=>
  cases Y with
  |true=>
   go_wp2_with fail
   exact HR.o _ _ (by rw[HA.o];simp) HB3.o
  |false=>
   by_cases hpq:p=q
   .subst hpq
    have bpp:((p:Int) !=(p:Int))=false:=by simp
    go_wp2_with fail
    go_quiet (fail)
    have HB4:Hid (Below w.heap.size w (w3.drewN nq)):=HB3.o.trans ((below_drewN br _).mono HB3.o.size)
    change (w3.drewN nq).cell? _=_ at y3 x1 x3
    generalize w3.drewN nq=W at *
    by_cases hik:i<k
    .have h':(i:Int)<(k:Int):=by omega
     go_wp2_with fail
     exact HR.o _ _ (by rw[HA.o];simp[hik]) HB4.o
    .have h': ¬(i:Int)<(k:Int):=by omega
     go_wp2_with fail
     exact HR.o _ _ (by rw[HA.o];simp[hik]) HB4.o
   .have bpq:((p:Int) !=(q:Int))=true:=by simp;omega
    go_wp2_with fail
    go_quiet (fail)
    have HB4:Hid (Below w.heap.size w (w3.drewN nq)):=HB3.o.trans ((below_drewN br _).mono HB3.o.size)
    change (w3.drewN nq).cell? _=_ at y3 x1 x3
    generalize w3.drewN nq=W at *
    rcases hsd with rfl|rfl
    .by_cases hlt:q<p
     .have h':(q:Int)<(p:Int):=by omega
      go_wp2_with fail
      go_quiet (fail)
      have HB5:Hid (Below w.heap.size w (W.drewN nq)):=HB4.o.trans ((below_drewN br _).mono HB4.o.size)
      generalize W.drewN nq=V at *
      go_wp2_with fail
      exact HR.o _ _ (by rw[HA.o];simp[hpq,hlt];try omega) HB5.o
     .have h': ¬(q:Int)<(p:Int):=by omega
      go_wp2_with fail
      go_quiet (fail)
      have HB5:Hid (Below w.heap.size w (W.drewN nq)):=HB4.o.trans ((below_drewN br _).mono HB4.o.size)
      generalize W.drewN nq=V at *
      go_wp2_with fail
      exact HR.o _ _ (by rw[HA.o];simp[hpq,hlt];try omega) HB5.o
    .by_cases hlt:q<p
     .have h':(q:Int)<(p:Int):=by omega
      go_wp2_with fail
      go_quiet (fail)
      have HB5:Hid (Below w.heap.size w (W.drewN nq)):=HB4.o.trans ((below_drewN br _).mono HB4.o.size)
      generalize W.drewN nq=V at *
      go_wp2_with fail
      exact HR.o _ _ (by rw[HA.o];simp[hpq];omega) HB5.o
     .have h': ¬(q:Int)<(p:Int):=by omega
      go_wp2_with fail
      go_quiet (fail)
      have HB5:Hid (Below w.heap.size w (W.drewN nq)):=HB4.o.trans ((below_drewN br _).mono HB4.o.size)
      generalize W.drewN nq=V at *
      go_wp2_with fail
      exact HR.o _ _ (by rw[HA.o];simp[hpq];omega) HB5.o
end
section
open Go.RowKit Go.Shelf
theorem step_moreR {P:Program}{ops:Array Oper}{o:Oper}{a:Act}{K:Act->World->Prop}{Q:Exit->Act->World->Prop}{E:Prop}{W:World}{arr:Array Value}{e:TypeId}
  (B size bytes n m:Nat)(v:Value)(xs:List Value)(z:Value)(hown:W.ownsRow B e size v n xs)(hB:B<=W.heap.size)
  (hinfo:(P.info? e).map (fun i=>(i.zero,i.size,i.bytes))=some (some z,size,bytes))(hzs:z.cells.size=size)(hsz:0<size)(harr:arr.size=m * size)
  (h1: ∀u∈arr.toList,u.oneCell'=true)(hm:0<m)(hn:n+m<=1073741824)(hby:bytes<=256)
  (s y:Operand)(t:TypeId)(ht:P.underlying t=some (.slice e))(hgd:o.guard=none)(ho:o.op= .call {callee:= .builtin .append,args:= #[s,y],argTypes:= #[t,t]})
  (hs:a.eval s=v)(hy:a.eval y= .slice (some ⟨W.heap.size,0,none⟩) m m)
  (h: ∀v' w',Grew B e size W v w' v' (n+m) (xs++arr.toList)->K (a.put o.dst v') w'):
  if Region.wanted o (yielded ops a.tmps)=true then Oper.wp P o a (W.alloc (.cells arr e)) K Q else E:=by
 obtain ⟨i0,hi,hz0,hz1,hz2⟩:=info_parts hinfo
 refine step_append_lies _ hgd s y t ho B e i0 z size bytes ht hi hz0 hz1 hz2 hzs hsz v n xs hs (hown.alloc _) ⟨W.heap.size,0,none⟩ m m arr.toList hy (by simp[harr])
  (World.news_of_block (heap_alloc_new W _)) h1 hm (by unfold maxLen;omega) ?_ (by simp;omega) (W.heap.size+1) (by simp) ?_
 .exact llt (Nat.mul_le_mul hn hby) (by decide)
 .intro g cap w1 hown1 hgrow hat _
  exact h _ _ (Grew.of_lies _ hown1 hgrow hat)
theorem kBest_any (a:Option Addr)(c ph t:Nat)(L:List Od)(ref V:Nat)(w:World)(R:EW)(ht:L.length=t)(hn:L.length<=1048576)(h:OrdsAt w a ph L)(hl:Liv L)(hd: ∀s p,dep ph L s p<=1000000000)(hr:ref<=1000001)(hv: ∀p,vof ph L p<=V)
  (hR: ∀w',Below w.heap.size w w'->R (.returned (.bool true)) w'):Calls Tryz.prog 63 #[.slice a t c,.int .i64 (ref:Nat),.int .i64 (V:Nat)] w R:=by
 have HR:=zl hR
 have HO:=zl h
 have HL:Hid (L.length=t/\L.length<=1048576/\Liv L/\(∀s p,dep ph L s p<=1000000000)/\ ∀p,vof ph L p<=V):=⟨ht,hn,hl,hd,hv⟩
 have hn':t<=1048576:=by omega
 clear hR h hl hd hv hn ht
 go_enter Tryz.func63,Tryz.ntmps63
 go_wp2_with fail
 have hrow0:(w.alloc (.cells #[.int .i64 1,.int .i64 1000000,.int .i64 (ref:Nat)] 3)).ownsRow w.heap.size 3 1 (.slice (some ⟨w.heap.size,0,none⟩) 3 3) 3 ([1,1000000,ref].map fun x=>iv (x:Nat)):=
  ⟨rfl,.inr ⟨w.heap.size,3,_,rfl,nr,heap_alloc_new w _,nr,by decide,rfl,rfl⟩⟩
 go_loopw [7,8,9] (fun v7 u _ wr=> ∃(i:Nat) (xs:List Nat),i<=t/\u= .int .i64 i/\Below w.heap.size w wr/\wr.ownsRow w.heap.size 3 1 v7 xs.length (xs.map fun x=>iv (x:Nat))/\xs.length<=3+3 * i/\ ∀x∈xs,x<=1000001) (fun _ u _ _=>t-(intOf u).toNat)
 case atStart=>exact⟨0,[1,1000000,ref],Nat.zero_le _,rfl,zac w _,hrow0,nr,fun x hx=>by simp at hx;omega⟩
 case round=>
  clear hrow0
  obtain ⟨i,xs,hi,rfl,hbr,hrow,hlx,hx⟩:=hrel
  have HBr:=zl hbr
  have HX:=zl hrow
  have HXs:=zl hx
  clear hbr hrow hx
  by_cases hlt:i<t
  .have hil:i<L.length:=by rw[HL.o.1];exact hlt
   obtain ⟨g,o,rfl,x0,x1,x2,x3,x4,x5⟩:=(HO.o.ext HBr.o) i hil
   have hlive:=HL.o.2.2.1 i hil
   obtain ⟨q,hq⟩: ∃y,y=nth L i:=⟨_,rfl⟩
   obtain ⟨b,hb⟩: ∃y,y=wt ph (nth L i):=⟨_,rfl⟩
   rw[←hb] at x5
   rw[←hq] at x0 x1 x2 x3 x4 hlive
   have hi0:(0:Int)<=(i:Int):=by omega
   have hi1:(i:Int)<(t:Int):=by omega
   clear hq hb hil
   go_wp2_with fail
   refine kPlain_any q b wr _ ?_
   intro w2 hb2
   have HB2:Hid (Below w.heap.size w w2):=HBr.o.trans (hb2.mono HBr.o.size)
   have HX2:Hid (w2.ownsRow w.heap.size 3 1 u7 xs.length (xs.map fun x=>iv (x:Nat))):=zbe HX.o hb2
   have y3:=zaa hb2 x3
   have hpr:pl q=false->1<=q.price/\q.price<=1000000:=fun h=>⟨hlive.2.priced h,hlive.2.price⟩
   clear x0 x1 x2 x3 x4 x5 hb2 hlive HX
   generalize pl q=Q at *
   generalize q.price=p at *
   cases Q with
   |true=>
    go_wp2_with fail
    go_roundw
    case rel=>exact⟨i+1,xs,by omega,by go_num,HB2.o,HX2.o,by omega,HXs.o⟩
    case measure=>simp only[intOf];omega
   |false=>
    obtain ⟨hp1,hp2⟩:=hpr rfl
    clear hpr
    obtain ⟨av,cv,ev⟩:=zar HX2.o
    subst ev
    go_wp2_with fail
    have HXd:Hid (w2.drew.ownsRow w.heap.size 3 1 (.slice av xs.length cv) xs.length (xs.map fun x=>iv (x:Nat))):=World.ownsRow.drew HX2.o
    have hws:w.heap.size<=w2.heap.size:=HB2.o.size
    have hlx2:xs.length+3<=1073741824:=by omega
    have KEY:Hid (∀v4 w4 (A B:Value),A= .int .i64 ((p:Int)-1)->B= .int .i64 ((p:Int)+1)->Grew w.heap.size 3 1 w2.drew (.slice av xs.length cv) w4 v4 (xs.length+3) ((xs.map fun x=>iv (x:Nat))++[A,.int .i64 (p:Int),B])->Hid (Below w.heap.size w w4/\w4.ownsRow w.heap.size 3 1 v4 (xs++[p-1,p,p+1]).length ((xs++[p-1,p,p+1]).map fun x=>iv (x:Nat)))):=fun v4 w4 A B eA eB hG=>by
     subst eA
     subst eB
     have hG':=hG.undrewR
     refine⟨HB2.o.trans (hG'.below hws fun g hg=>(HX2.o.lt g hg).1),?_⟩
     have:=hG.own
     rw[List.length_append,List.map_append]
     rw[show ([p-1,p,p+1].map fun x:Nat=>iv (x:Nat))=[.int .i64 ((p:Int)-1),.int .i64 (p:Int),.int .i64 ((p:Int)+1)] by
      simp[iv]
      omega]
     exact this
    clear HX2 HB2
    go_region_law (refine step_moreR w.heap.size 1 8 xs.length 3 _ _ _ HXd.o hws Tryz.infoInt rfl (by decide) rfl (by simp[Value.oneCell']) (by decide) hlx2 (by decide) _ _ 26 Tryz.underlying26 rfl rfl rfl rfl ?_;intro v4 w4 hG4;have HG4:=KEY.out v4 w4 _ _ (congrArg _ (IntWalk.i64_in _ (by omega))) (congrArg _ (IntWalk.i64_in _ (by omega))) hG4;clear hG4)
    all_goals
     go_wp2_with fail
     go_roundw
     case rel=>exact⟨i+1,xs++[p-1,p,p+1],by omega,by go_num,HG4.o.1,HG4.o.2,by simp;omega,fun x hx=>by
      rcases List.mem_append.1 hx with hx|hx
      .exact HXs.o x hx
      .simp at hx
       omega⟩
     case measure=>simp only[intOf];omega
  .have hin:i=t:=by omega
   subst hin
   obtain ⟨av,cv,ev⟩:=zar HX.o
   subst ev
   have HB0:Hid (Below w.heap.size w wr):=HBr.o
   have HX0:Hid (wr.ownsRow w.heap.size 3 1 (.slice av xs.length cv) xs.length (xs.map fun x=>iv (x:Nat))):=HX.o
   obtain ⟨m,hm⟩: ∃y,y=xs.length:=⟨_,rfl⟩
   have HM:=zl (hm.symm)
   have hm2:m<=4194304:=by omega
   rw[←hm] at HX0
   rw[←hm]
   clear HX hm HBr
   go_wp2_with fail
   go_loopw [10,11] (fun u _ wq=> ∃j:Nat,j<=m/\u= .int .i64 j/\Below wr.heap.size wr wq) (fun u _ _=>m-(intOf u).toNat)
   case atStart=>exact⟨0,Nat.zero_le _,rfl,br⟩
   case round=>
    obtain ⟨j,hj,rfl,hbq⟩:=hrel
    have HXq:Hid (wr.ownsRow w.heap.size 3 1 (.slice av m cv) m (xs.map fun x=>iv (x:Nat))):=zbe HX0.o hbq
    have HBq:Hid (Below w.heap.size w wr):=HB0.o.trans (hbq.mono HB0.o.size)
    have HBs:Hid (∀w9,Below wr.heap.size wr w9->Below _ _ w9):=fun w9 hb=>hbq.trans (hb.mono hbq.size)
    clear hbq
    by_cases hlt2:j<m
    .obtain ⟨y,hy⟩: ∃y,y=xs.getD j 0:=⟨_,rfl⟩
     have hjx:j<xs.length:=by rw[HM.o];exact hlt2
     have hy1:y<=1000001:=by rw[hy];exact HXs.o _ (by simp[List.getD,hjx])
     obtain ⟨g,cap,e,-,-,-,hc,-⟩:=own_cellsK HXq.o j (iv ((xs.getD j 0:Nat):Int)) (by simp[List.getD,hjx])
     simp only[Value.slice.injEq] at e
     obtain ⟨rfl,-,rfl⟩:=e
     rw[←hy] at hc
     change wr.cell? ⟨g,j,none⟩=some (.int .i64 (y:Nat)) at hc
     have hj0:(0:Int)<=(j:Int):=by omega
     have hj1:(j:Int)<(m:Int):=by omega
     clear hy hjx
     go_wp2_with fail
     refine kVolume_any a c ph i L y wr _ HL.o.1 HL.o.2.1 (HO.o.ext HBq.o) HL.o.2.2.1 HL.o.2.2.2.1 ?_
     intro w5 hb5
     have HB5:=HBs.o w5 hb5
     have HB5h:=zl HB5
     have hc5:=zaa hb5 hc
     have hvv: ¬(V:Int)<((vof ph L y:Nat):Int):=by have:=HL.o.2.2.2.2 y;omega
     generalize vof ph L y=T at *
     clear hb5 hc HXq HBs HB5
     by_cases h1:1<=y
     .have h1':(1:Int)<=(y:Int):=by omega
      by_cases h2:y<=1000000
      .have h2':(y:Int)<=1000000:=by omega
       go_wp2_with fail
       go_roundw
       case rel=>exact⟨j+1,by omega,by go_num,HB5h.o⟩
       case measure=>simp only[intOf];omega
      .have h2': ¬(y:Int)<=1000000:=by omega
       go_wp2_with fail
       go_roundw
       case rel=>exact⟨j+1,by omega,by go_num,HB5h.o⟩
       case measure=>simp only[intOf];omega
     .have h1': ¬(1:Int)<=(y:Int):=by omega
      go_wp2_with fail
      go_roundw
      case rel=>exact⟨j+1,by omega,by go_num,HB5h.o⟩
      case measure=>simp only[intOf];omega
    .have hjm:j=m:=by omega
     subst hjm
     have hfin:=zl (HR.o wr HBq.o)
     go_wp2_with fail
     exact hfin.o
end
