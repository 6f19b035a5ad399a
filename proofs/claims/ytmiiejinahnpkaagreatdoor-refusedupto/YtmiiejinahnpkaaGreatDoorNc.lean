import Derived.Test.YtmiiejinahnpkaaGreatDoorXAjEn
import Derived.Test.YtmiiejinahnpkaaGreatDoorNa
import Derived.Test.YtmiiejinahnpkaaGreatDoorNb
set_option maxRecDepth 8000
set_option maxHeartbeats 1000000
namespace Go.Proofs.YtmiiejinahnpkaaGreatDoor
open Go.RowKit Go.Shelf
def evAt (E:List (Nat->Int)) (q:Nat):Nat->Int:=E.getD q fun _=>0
theorem allbytes_ev (E:List (Nat->Int)):za6 (evAt E) E.length=zao E:=by
 have h:(List.range E.length).map (evAt E)=E:=by
  apply List.ext_getElem?
  intro i
  by_cases h:i<E.length
  .simp[evAt,h,List.getD]
  .rw[List.getElem?_eq_none (by simpa using h),List.getElem?_eq_none (by omega)]
 unfold za6 zao
 conv=>rhs;rw[←h,List.flatMap_map]
def byteAt (l:List Int) (i:Nat):Int:=l.getD i 0
theorem lies_self (l:List Int):LiesAt (byteAt l) 0 l:=fun i _=>by rw[Nat.zero_add];rfl
variable {E:List (Nat->Int)}
theorem evAt_ok (h: ∀e∈E,okE e):(∀q,q<E.length->fits (evAt E q)=true)/\ ∀q j,-9223372036854775808<=evAt E q j/\evAt E q j<=9223372036854775807:=by
 refine⟨fun q hq=>?_,fun q j=>?_⟩
 .have:=h E[q] (List.getElem_mem hq)
  simpa [evAt,List.getD,hq] using this.1
 .by_cases hq:q<E.length
  .have:=(h E[q] (List.getElem_mem hq)).2 j
   simpa [evAt,List.getD,hq] using this
  .simp[evAt,List.getD,List.getElem?_eq_none (Nat.le_of_not_lt hq)]
theorem evbytes_byte (E:List (Nat->Int)): ∀i,i<(zao E).length->0<=byteAt (zao E) i/\byteAt (zao E) i<=255:=by
 have hb: ∀V n,∀x∈be V n,0<=x/\x<=255:=by
  intro V n
  induction n with
  |zero=>intro x hx;simp[be] at hx
  |succ n ih=>
   intro x hx
   simp only[be,List.mem_cons] at hx
   rcases hx with rfl|hx
   .omega
   .exact ih x hx
 have he: ∀x∈zao E,0<=x/\x<=255:=by
  intro x hx
  obtain ⟨e,_,hx⟩:=List.mem_flatMap.1 hx
  simp only[zdr,List.mem_append,List.mem_flatMap] at hx
  rcases hx with (hx|hx)|⟨f,_,hx⟩
  .exact hb _ _ x hx
  .exact hb _ _ x hx
  .exact hb _ _ x hx
 intro i hi
 have:=he (zao E)[i] (List.getElem_mem hi)
 simpa [byteAt,List.getD,hi] using this
theorem dcells_ev (h: ∀e∈E,okE e):zbp (byteAt (zao E)) E.length=evcs E:=by
 obtain ⟨h1,h2⟩:=evAt_ok h
 have hl:LiesAt (byteAt (zao E)) 0 (za6 (evAt E) E.length):=by rw[allbytes_ev];exact lies_self _
 obtain ⟨-,hg⟩:=lies_good (evAt E) _ E.length h1 (fun q=>h2 q 8) hl
 unfold zbp evcs
 have:(List.range E.length).map (fun q=>(List.range 10).map fun j=>iv (dev (byteAt (zao E)) (pos (byteAt (zao E)) q) j))=E.map evc:=by
  apply List.ext_getElem?
  intro q
  by_cases hq:q<E.length
  .simp only[List.getElem?_map,List.getElem?_range hq,Option.map_some,List.getElem?_eq_getElem hq,Option.some.injEq,evc]
   apply List.map_congr_left
   intro j hj
   rw[(hg q hq).2 j (by simpa using hj)]
   simp[evAt,List.getD,hq]
  .rw[List.getElem?_eq_none (by simpa using hq),List.getElem?_eq_none (by simpa using hq)]
 rw[List.flatMap_def,this,List.flatMap_def]
theorem read_ev (h: ∀e∈E,okE e){i:Nat}(hi: ∀q,q<i->good (byteAt (zao E)) (zao E).length q):
  (∀k,pos (byteAt (zao E)) i<(zao E).length->isK (byteAt (zao E) (pos (byteAt (zao E)) i))=k->(k=false\/(zao E).length<pos (byteAt (zao E)) i+elen (byteAt (zao E) (pos (byteAt (zao E)) i)))->False)/\
   (pos (byteAt (zao E)) i=(zao E).length->i=E.length):=by
 obtain ⟨h1,h2⟩:=evAt_ok h
 have hl:LiesAt (byteAt (zao E)) 0 (za6 (evAt E) E.length):=by rw[allbytes_ev];exact lies_self _
 obtain ⟨hp,hg⟩:=lies_good (evAt E) _ E.length h1 (fun q=>h2 q 8) hl
 rw[allbytes_ev] at hp hg
 have hne: ¬good (byteAt (zao E)) (zao E).length E.length:=fun hh=>by have:=hh.1;omega
 refine⟨fun k hlt hk hor=>?_,fun he=>?_⟩
 .have hni: ¬good (byteAt (zao E)) (zao E).length i:=fun hh=>by
   rcases hor with rfl|hor
   .have:=hh.2.1;rw[hk] at this;cases this
   .have:=hh.2.2;omega
  have:=first_unique _ _ i E.length hi (fun q hq=>(hg q hq).1) hni hne
  subst this
  omega
 .exact first_unique _ _ i E.length hi (fun q hq=>(hg q hq).1) (fun hh=>by have:=hh.1;omega) hne
variable {xs:List Value} {B c n size:Nat} {e:TypeId} {w:World}
theorem own_cellsK {base:Nat}{v:Value}(h:w.ownsRow base e size v n xs)(i:Nat)(u:Value)(hu:xs[i]?=some u):
  ∃g cap,v= .slice (some ⟨g,0,none⟩) n cap/\base<=g/\g<w.heap.size/\n<=cap/\w.cell? ⟨g,i,none⟩=some u/\w.frozen? ⟨g,i,none⟩=false:=by
 rcases h.2 with ⟨_,h0⟩|⟨g,cap,cur,hv,hb,hg,hnc,_,_,htake⟩
 .have:=h.1
  rw[h0] at this
  have:xs=[]:=List.eq_nil_of_length_eq_zero (by simpa using this)
  rw[this] at hu
  simp at hu
 .refine⟨g,cap,hv,hb,(gsi.1 hg).1,hnc,?_,?_⟩
  .rw[cell_of_row w g i cur e (0,0) hg]
   rw[←htake,List.getElem?_take] at hu
   split at hu
   .simpa using hu
   .cases hu
  .simp[World.frozen?,hg]
variable {a:Option Addr}
theorem bsAt_own {l:List Int}(h:w.ownsRow B 5 1 (.slice a n c) n (l.map bv)):BsAt w a n (byteAt l):=by
 intro i hi
 have hl:l.length=n:=by have:=h.1;simpa using this
 obtain ⟨g,cap,e,-,-,-,hc,-⟩:=own_cellsK h i (bv (byteAt l i)) (by simp[byteAt,List.getD,show i<l.length by omega])
 injection e with e1
 exact⟨g,0,e1,by rw[Nat.zero_add];exact hc⟩
theorem evsAt_own (h:w.ownsRow B 42 10 (.slice a E.length c) E.length (evcs E)):ze1 w a E.length (evAt E):=by
 intro i hi
 have hx: ∀j,j<10->(evcs E)[i * 10+j]?=some (iv (evAt E i j)):=by
  intro j hj
  have key: ∀(L:List (Nat->Int)) (i:Nat),i<L.length->(L.flatMap evc)[i * 10+j]?=some (iv (evAt L i j)):=by
   intro L
   induction L with
   |nil=>intro i hi;simp at hi
   |cons x L ih=>
    intro i hi
    rw[List.flatMap_cons]
    cases i with
    |zero=>
     rw[List.getElem?_append_left (by simp[evc];omega)]
     simp[evc,evAt,hj]
    |succ i=>
     rw[List.getElem?_append_right (by simp[evc];omega)]
     have:=ih i (by simpa using hi)
     rw[show (i+1) * 10+j-(evc x).length=i * 10+j by simp[evc];omega,this]
     rfl
  exact key E i hi
 obtain ⟨g,cap,e,-⟩:=own_cellsK h _ _ (hx 0 (by decide))
 injection e with e1
 refine⟨g,0,e1,fun j hj=>?_⟩
 obtain ⟨g',cap',e',-,-,-,hc,-⟩:=own_cellsK h _ _ (hx j hj)
 injection e' with e2
 rw[e1] at e2
 injection e2 with e2
 injection e2 with e2
 subst e2
 rw[Nat.zero_add]
 exact hc
theorem own_cap (h:w.ownsRow B e size (.slice a n c) n xs):n<=c:=by
 rcases h.2 with ⟨e1,e2⟩|⟨g,c',cur,e1,_,_,e4,_⟩
 .rw[e2];exact Nat.zero_le _
 .cases e1;exact e4
theorem Tch.low {F:Nat->Prop}{w':World}(h:Tch F w w')(hb:B<=w.heap.size)(hF: ∀g,F g->B<=g):Below B w w':=
 ⟨h.os,h.tape,h.output,h.size,fun k hk=>h.blk k (lll hk hb) fun e=>absurd (hF k e) (by omega)⟩
theorem kSent_any (P:Nat)(b:Bk)(c:Cf)(m:Mk)(a:Option Addr)(N cc:Nat)(Y:Nat->Nat)(w0 w:World)(R:EW)(h:PS w P b c m m.seq)
  (hL:zcq w0)(hb0:Below w0.heap.size w0 w)(hlow0: ∀g,Own P b g->w0.heap.size<=g)(hN:N<=1048576)(hcap:N<=cc)(hx:zgh w a N Y)(hY: ∀i,Y i<=255)(hal:0<N-> ∀g o,a=some ⟨g,o,none⟩->g<w.heap.size)
  (hl:m.all.length<=1048575)(hct:c.total<=1000000000)(hlv:zap m.all<=c.orders)(hco:c.orders<=24)(hok: ∀e∈(zaz c m Y N).out,okE e)(hle:(zaz c m Y N).out.length<=36)
  (hR: ∀b' v w',PS w' P b' c (zaz c m Y N) (zaz c m Y N).seq->Mv P w b w' b'->Evs w' w.heap.size v (zaz c m Y N).out->(∀g,Own P b' g->v.ownBlock≠some g)->R (.returned (.tuple #[v,.bool true])) w'):
  Calls Tryz.prog 23 #[.pointer (some ⟨P,0,none⟩),.slice a N cc] w R:=by
 have HR:=zl hR
 have HP:=zl h
 have HL:=zl3 hL hb0 hlow0
 have HX:=zl3 hx hY hal
 obtain ⟨E,hE⟩:=xq ((zaz c m Y N).out)
 rw[←hE] at hok hle
 have HE:=zl (hE.symm)
 have HOK:Hid (∀e∈E,okE e):=hok
 have hbl:=zk2 E
 clear hR h hL hb0 hlow0 hx hY hal hE hok
 go_enter Tryz.func23,Tryz.ntmps23
 go_wp2_with fail
 refine pSend_any P b c m a N cc Y w0 w _ HP.o HL.o.1 HL.o.2.1 HL.o.2.2 hN hcap HX.o.1 HX.o.2.1 HX.o.2.2 hl hct hlv (by omega) ?_
 intro b1 v1 w1 hP1 hM1 hv1 hs1
 rw[HE.o] at hv1
 have HP1:=zl hP1
 have HM1:=zl hM1
 have HS1:=zl hs1
 have HV1:=zl hv1
 have hz1:w.heap.size<=w1.heap.size:=hM1.tch.size
 obtain ⟨v2,w2,hj,hG⟩:=bytes_join (n:=0) (xs:=[]) 31 (World.ownsRow_nil w1 w1.heap.size 5 1) (own_base hv1 (Nat.zero_le _)) (by omega) nr
 have hb2:Below w1.heap.size w1 w2:=hG.below nr (fun g hg=>by simp[Value.ownBlock] at hg)
 have HB2:=zl hb2
 have HV2:Hid (w2.ownsRow w1.heap.size 5 1 v2 (zao E).length ((zao E).map bv)):=by have:=hG.own;simpa [Hid] using this
 obtain ⟨a1,c1,e1⟩:=zar hv1
 subst e1
 obtain ⟨a2,c2,e2⟩:=zar HV2.o
 subst e2
 clear hP1 hM1 hv1 hs1 hG hb2
 go_wp2_with (at_builtin;refine Lib.wpList_append_run _ rfl _ _ _ _ rfl _ _ rfl rfl _ _ hj ?_)
 clear hj
 have hb02:Below w0.heap.size w0 w2:=(HL.o.2.1.trans (HM1.o.tch.low HL.o.2.1.size HL.o.2.2)).trans (HB2.o.mono (llt HL.o.2.1.size hz1))
 have HL2:Hid (zcq w2):=zcq.below HL.o.1 hb02 nr
 have hc1:=own_cap HV1.o
 have HV12:Hid (BsAt w2 a1 (zao E).length (byteAt (zao E))):=bsAt_own (zbe HV1.o HB2.o)
 clear hb02
 refine Decode_any a1 (zao E).length c1 (byteAt (zao E)) w2 _ HL2.o (by omega) hc1 HV12.o (evbytes_byte E) ?_ ?_ ?_
 .intro i w' hg h1 h2 _
  exact((read_ev HOK.o hg).1 _ h1 h2 (.inl rfl)).elim
 .intro i w' hg h1 h2 h3 _
  exact((read_ev HOK.o hg).1 _ h1 h2 (.inr h3)).elim
 .intro i v3 w3 hg h1 hb3 hv3
  obtain rfl:=(read_ev HOK.o hg).2 h1
  rw[dcells_ev HOK.o] at hv3
  have HB3:=zl hb3
  have HV3:=zl hv3
  obtain ⟨a3,c3,e3⟩:=zar hv3
  subst e3
  have HL3:Hid (zcq w3):=zcq.below HL2.o hb3 nr
  clear hg h1 hb3 hv3
  go_wp2_with fail
  refine Encode_any a3 E.length c3 (evAt E) w3 _ HL3.o (by omega) (evsAt_own HV3.o) (evAt_ok HOK.o).2 ?_ ?_
  .intro i w' hi _ hf _
   rw[(evAt_ok HOK.o).1 i hi] at hf
   cases hf
  .intro v4 w4 _ hb4 hv4
   rw[allbytes_ev] at hv4
   obtain ⟨a4,c4,e4⟩:=zar hv4
   subst e4
   have HB4:=zl hb4
   have HV4:Hid (BsAt w4 a4 (zao E).length (byteAt (zao E))):=bsAt_own hv4
   have HV24:Hid (BsAt w4 a2 (zao E).length (byteAt (zao E))):=bsAt_own (zbe (zbe HV2.o HB3.o) hb4)
   clear hb4 hv4
   go_wp2_with fail
   refine kSame_any a4 a2 _ c4 _ c2 (byteAt (zao E)) (byteAt (zao E)) w4 _ (by omega) (by omega) HV4.o HV24.o ?_
   intro w5 hb5
   have hdec:decide ((zao E).length=(zao E).length/\ ∀i,i<(zao E).length->byteAt (zao E) i=byteAt (zao E) i)=true:=by simp
   rw[hdec]
   have hfin:Hid (R (.returned (.tuple #[.slice a3 E.length c3,.bool true])) w5):=by
    have hb25:Below w2.heap.size w2 w5:=HB3.o.trans ((HB4.o.mono HB3.o.size).trans (hb5.mono (llt HB3.o.size HB4.o.size)))
    have hb35:Below w3.heap.size w3 w5:=HB4.o.trans (hb5.mono HB4.o.size)
    have hb15:Below w1.heap.size w1 w5:=HB2.o.trans (hb25.mono HB2.o.size)
    refine HR.o b1 _ w5 (HP1.o.ext hb15) (HM1.o.trans (Mv.of hb15)) ?_ (fun g hg e=>?_)
    .rw[HE.o]
     exact zbe (own_base HV3.o (llt hz1 HB2.o.size)) hb35
    .have q1:=(HV3.o.lt g e).1
     have q2:=HP1.o.lt hg
     have:=HB2.o.size
     omega
   clear hb5 hdec
   go_wp2_with fail
   exact hfin.o
