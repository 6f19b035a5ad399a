import Derived.Test.YtmiiejinahnpkaaGreatDoorXAfEe
set_option maxRecDepth 8000
set_option maxHeartbeats 2000000
namespace Go.Proofs.YtmiiejinahnpkaaGreatDoor
open Go.RowKit
structure Bds (ph ref:Nat) (l:List Od):Prop where
 len:l.length<=1048576
 dep: ∀s p,dep ph l s p<=1000000000000
 cnd: ∀p∈cnd ph ref l,p<=4294967295
theorem zby (B:Nat)(c:Cf)(m:Mk)(vA vO:Value)(kind:Nat)(F:Nat->Prop)(N:Nat)(w:World)(R:EW)(h:RM w B c m vA vO)(hF:Ft F N B vA vO)(hN:N<=w.heap.size)(hs:m.seq<=4294967295)(ho:m.out.length<=1048576)(hB:Bds m.phase m.ref m.all)
  (hR: ∀vO' w',RM w' B c (zah m kind) vA vO'->Ft F N B vA vO'->Tch F w w'->R (.returned (.tuple #[.int .i64 ((zal m.phase m.ref m.all).1:Nat),.int .i64 ((zal m.phase m.ref m.all).2.1:Nat)])) w'):
  Calls Tryz.prog 141 #[.pointer (some ⟨B,0,none⟩),.int .i64 kind] w R:=by
 have HR:=zl hR
 have HM:=zl h
 have HF:=zl hF
 obtain ⟨a,cap,hv,rfl⟩:=h.rv
 have HV:=zl hv
 have HB:=zl hB
 clear hR h hF hv hB
 go_enter Tryz.func141,Tryz.ntmps141
 go_wp2_with fail
 refine Call_any B m.phase m.ref a cap m.all _ _ HV.o HB.o.len HB.o.dep HB.o.cnd ?_
 intro w1 hb1
 have HM1:=zl (HM.o.ext hb1)
 have HB1:=zl hb1
 have hN1:N<=w1.heap.size:=llt hN hb1.size
 have HI:Hid (zah m kind=zax m (mkev kind 0 0 0 0 0 (zal m.phase m.ref m.all).2.1 (zal m.phase m.ref m.all).1 (zal m.phase m.ref m.all).2.2 0)):=rfl
 generalize (zal m.phase m.ref m.all).1=p at *
 generalize (zal m.phase m.ref m.all).2.1=v at *
 generalize (zal m.phase m.ref m.all).2.2=s at *
 clear hb1 HM HV
 go_wp2_with fail
 refine zf5 B c m _ vO (mkev kind 0 0 0 0 0 v p s 0) _ (by rfl) F N _ _ (by exact HM1.o) HF.o (by exact hN1) hs ho ?_
 intro vO' w' h1 h2 h3
 have hfin:Hid (R (.returned (.tuple #[.int .i64 (p:Nat),.int .i64 (v:Nat)])) w'):=HR.o vO' w' (by rw[HI.o];exact h1) h2 ((Tch.of HB1.o).trans h3)
 clear h1 h2 h3
 go_wp2_with fail
 first|exact hfin.o|(go_ret2;exact hfin.o)|(go_ret3;exact hfin.o)
theorem odcs_set (l:List Od)(i r:Nat)(h:i<l.length):odcs (zaf l i r)=(odcs l).set (i * 5+4) (.int .i64 (r:Nat)):=by
 unfold zaf
 induction l generalizing i with
 |nil=>simp at h
 |cons a l ih=>
  cases i with
  |zero=>simp[odcs,odc,List.modify]
  |succ i=>
   have:=ih i (by simpa using h)
   simp only[odcs,List.modify_succ_cons,List.flatMap_cons] at *
   rw[this,List.set_append_right _ _ (by simp[odc];omega)]
   congr 2
   simp[odc]
   omega
theorem zaw (l:List Od)(i r:Nat):(zaf l i r).length=l.length:=by simp[zaf]
variable {c:Cf} {m:Mk} {B cap g n:Nat} {vA vO:Value} {w:World}
theorem RM.ownA (h:RM w B c m vA vO)(i:Nat)(hi:i<m.all.length): ∃g cap,vA= .slice (some ⟨g,0,none⟩) m.all.length cap/\(∀k,w.frozen? ⟨g,k,none⟩=false)/\g<w.heap.size:=by
 rcases h.all.2 with ⟨h1,h2⟩|⟨g,cap,cur,h1,h2,h3,h4,h5,h6,h7⟩
 .omega
 .exact⟨g,cap,h1,fun k=>by simp[World.frozen?,h3],(gsi.1 h3).1⟩
theorem RM.setRest (h:RM w B c m (.slice (some ⟨g,0,none⟩) n cap) vO)(hn:m.all.length=n)(i r:Nat)(hi:i<n):
  RM (w.setCell ⟨g,i * 5+4,none⟩ (.int .i64 (r:Nat))) B c {m with all:=zaf m.all i r} (.slice (some ⟨g,0,none⟩) n cap) vO:=by
 subst hn
 have hgB:g≠B:=fun e=>h.sepA (by rw[e];rfl)
 refine⟨?_,?_,?_,h.sepA,h.sepO,h.sep⟩
 .rw[bhs _ _ _ _ (fun e=>hgB e.symm)]
  exact h.blk
 .have:=own_setR h.all g (i * 5+4) (.int .i64 (r:Nat)) rfl
  rw[←odcs_set m.all i r hi] at this
  simpa [zaw] using this
 .exact zb1 h.out g _ _ (h.sep g rfl)
theorem RM.freeA (h:RM w B c m (.slice (some ⟨g,0,none⟩) n cap) vO)(k:Nat):w.frozen? ⟨g,k,none⟩=false:=by
 rcases h.all.2 with ⟨h1,h2⟩|⟨g',cap',cur,h1,h2,h3,h4,h5,h6,h7⟩
 .cases h1
 .simp only[Value.slice.injEq,Option.some.injEq,Addr.mk.injEq,and_true] at h1
  rw[h1.1]
  simp[World.frozen?,h3]
variable {F:Nat->Prop}
theorem Tch.undrew {w':World}(h:Tch F w.drew w'):Tch F w w':=(Tch.of br.drew).trans h
theorem zd8 {k:Nat}{x:Value}(hg:F g):Tch F w (w.setCell ⟨g,k,none⟩ x):=
 ⟨rfl,rfl,rfl,by simp[World.setCell],fun q _ hn=>bhs w ⟨g,k,none⟩ x q (fun e=>hn (by rw[e];exact hg))⟩
def SeeOd (w:World) (B g n cap i:Nat) (o:Od):Prop:=
 w.cell? ⟨B,10,none⟩=some (.slice (some ⟨g,0,none⟩) n cap)/\w.cell? ⟨g,i * 5,none⟩=some (.int .i64 o.id)/\w.cell? ⟨g,i * 5+1,none⟩=some (.int .i64 o.side)/\w.cell? ⟨g,i * 5+2,none⟩=some (.int .i64 o.typ)/\w.cell? ⟨g,i * 5+3,none⟩=some (.int .i64 o.price)/\w.cell? ⟨g,i * 5+4,none⟩=some (.int .i64 o.rest)
theorem RM.see (h:RM w B c m (.slice (some ⟨g,0,none⟩) n cap) vO)(hn:m.all.length=n)(i:Nat)(hi:i<n):SeeOd w B g n cap i (nth m.all i):=by
 subst hn
 obtain ⟨a,cap',hv,e⟩:=h.rv
 simp only[Value.slice.injEq,true_and] at e
 obtain ⟨rfl,rfl⟩:=e
 obtain ⟨g',e,c0,c1,c2,c3,c4⟩:=hv.at i hi
 simp only[Option.some.injEq,Addr.mk.injEq,and_true] at e
 subst e
 exact⟨hv.ha,c0,c1,c2,c3,c4⟩
theorem RM.drew (h:RM w B c m vA vO):RM w.drew B c m vA vO:=h.ext br.drew
theorem zdj (B:Nat)(c:Cf)(m:Mk)(vA vO:Value)(i:Nat)(F:Nat->Prop)(N:Nat)(w:World)(R:EW)(h:RM w B c m vA vO)(hF:Ft F N B vA vO)(hN:N<=w.heap.size)(hs:m.seq<=4294967295)(ho:m.out.length<=1048576)(hi:i<m.all.length)(_hn:m.all.length<=1048576)
  (hR: ∀vO' w',RM w' B c (zav m i) vA vO'->Ft F N B vA vO'->Tch F w w'->R (.returned (.tuple #[])) w'):
  Calls Tryz.prog 146 #[.pointer (some ⟨B,0,none⟩),.int .i64 i] w R:=by
 have HR:=zl hR
 have HM:=zl h
 obtain ⟨g,cap,rfl,hfz,hg⟩:=h.ownA i hi
 have HF:Hid (Ft F N B (.slice (some ⟨g,0,none⟩) m.all.length cap) vO):=hF
 have HS:Hid (SeeOd w B g m.all.length cap i (nth m.all i)):=h.see rfl i hi
 obtain ⟨n,hnn⟩:=xq m.all.length
 have HC:Hid (zav m i={zax m (mkev 4 0 (nth m.all i).id 0 0 0 (nth m.all i).rest 0 0 0) with all:=zaf m.all i 0}):=rfl
 obtain ⟨O,hO⟩:=xq (nth m.all i)
 rw[←hO] at HS HC
 rw[←hnn] at HS HF HM hi _hn
 have HO:=zl hO
 have HNN:=zl hnn
 clear hR h hF hO hnn
 go_enter Tryz.func146,Tryz.ntmps146
 go_wp2_with fail
 go_region_held3 (fun w'=>w'.cell? ⟨B,10,none⟩=some (.slice (some ⟨g,0,none⟩) n cap)/\w'.cell? ⟨g,i * 5,none⟩=some (.int .i64 (O.id:Nat))/\w'.cell? ⟨g,i * 5+4,none⟩=some (.int .i64 (O.rest:Nat))) (first|assumption|exact⟨HS.o.1,HS.o.2.1,HS.o.2.2.2.2.2⟩) (first|(go_at_call 140;refine zf5 B c m (.slice (some ⟨g,0,none⟩) n cap) vO (mkev 4 0 O.id 0 0 0 O.rest 0 0 0) _ (by rfl) F N _ _ (by exact HM.o.drew) HF.o (by exact hN) hs ho ?_;intro vO' w' h1 h2 h3;have hS1:=h1.see HNN.o.symm i hi;rw[show nth (zax m (mkev 4 0 O.id 0 0 0 O.rest 0 0 0)).all i=O from HO.o.symm] at hS1;have hS2:_/\_/\_:=⟨hS1.1,hS1.2.1,hS1.2.2.2.2.2⟩))
 have hM2:=h1.setRest HNN.o.symm i 0 hi
 have hfin:Hid (R (.returned (.tuple #[])) (w'.setCell ⟨g,i * 5+4,none⟩ (.int .i64 (0:Nat)))):=HR.o vO' _ (by rw[HC.o,←HNN.o];exact hM2) (by rw[←HNN.o];exact h2) (h3.undrew.trans (zd8 (h2.a g rfl)))
 have hfz':=h1.freeA (i * 5+4)
 obtain ⟨k1,k2,k3⟩:=hS2
 clear h1 h2 h3 hM2 HM HR HC HS hS1 k2
 go_wp2_with fail
 go_end0
 exact hfin.o
theorem RM.setRef (h:RM w B c m vA vO)(s:Nat):RM (w.setCell ⟨B,8,none⟩ (.int .i64 (s:Nat))) B c {m with ref:=s} vA vO:=
 ⟨zbb h.blk,zb1 h.all B 8 _ h.sepA,zb1 h.out B 8 _ h.sepO,h.sepA,h.sepO,h.sep⟩
theorem zbs (l:List Od)(i j r:Nat)(hi:i<l.length):nth (zaf l i r) j=if j=i then {nth l i with rest:=r} else nth l j:=by
 unfold nth zaf
 by_cases h:j=i
 .subst h
  simp[List.getD,hi]
 .rw[if_neg h]
  simp only[List.getD]
  rw[List.getElem?_modify]
  simp[Ne.symm h]
theorem zj7 (B:Nat)(c:Cf)(m:Mk)(vA vO:Value)(i k x p:Nat)(F:Nat->Prop)(N:Nat)(w:World)(R:EW)(h:RM w B c m vA vO)(hF:Ft F N B vA vO)(hN:N<=w.heap.size)(hs:m.seq<=4294967295)(ho:m.out.length<=1048576)(hi:i<m.all.length)(hk:k<m.all.length)(_hn:m.all.length<=1048576)
  (hside:(nth m.all i).side=1)(hik:i≠k)(hx:x<=(nth m.all i).rest)(hy:x<=(nth m.all k).rest)(hbi:(nth m.all i).rest<=4294967295)(hbk:(nth m.all k).rest<=4294967295)
  (hR: ∀vO' w',RM w' B c (za3 m i k x p) vA vO'->Ft F N B vA vO'->Tch F w w'->R (.returned (.tuple #[])) w'):
  Calls Tryz.prog 144 #[.pointer (some ⟨B,0,none⟩),.int .i64 i,.int .i64 k,.int .i64 x,.int .i64 p] w R:=by
 have HR:=zl hR
 obtain ⟨g,cap,rfl,hfz,hg⟩:=h.ownA i hi
 obtain ⟨n,hnn⟩: ∃n,m.all.length=n:=⟨_,rfl⟩
 rw[hnn] at h hF hi hk _hn
 have HF:Hid (Ft F N B (.slice (some ⟨g,0,none⟩) n cap) vO):=hF
 obtain ⟨a0,a1,a2,a3,a4,a5⟩:=h.see hnn i hi
 obtain ⟨_,b1,b2,b3,b4,b5⟩:=h.see hnn k hk
 have HM:Hid (RM w B c m (.slice (some ⟨g,0,none⟩) n cap) vO):=h
 have HNN:=zl hnn
 have hfi:=h.freeA (i * 5+4)
 rw[hnn] at HR
 obtain ⟨r,hr⟩: ∃r,(nth m.all i).rest=r:=⟨_,rfl⟩
 obtain ⟨q,hq⟩: ∃q,(nth m.all k).rest=q:=⟨_,rfl⟩
 rw[hr] at a5 hx hbi
 rw[hq] at b5 hy hbk
 rw[hside] at a2
 have HRI:=zl hr
 have HRK:=zl hq
 clear hR h hF hnn hr hq
 go_enter Tryz.func144,Tryz.ntmps144
 go_wp2_with fail
 have hw1:IntKind.i64.wrap ((r:Int)-x)=((r-x:Nat):Int):=by rw[IntKind.wrap_i64];omega
 have hw2:IntKind.i64.wrap ((q:Int)-x)=((q-x:Nat):Int):=by rw[IntKind.wrap_i64];omega
 go_cut [] (fun wx=>RM wx B c {m with all:=zaf m.all i (r-x)} (.slice (some ⟨g,0,none⟩) n cap) vO/\Tch F w wx)
 case first=>
  go_region_law (fail)
  all_goals
   go_wp2_with fail
   go_meet
   exact⟨(HM.o.setRest HNN.o i (r-x) hi).drew,(zd8 (HF.o.a g rfl)).trans (Tch.of br.drew)⟩
 case rest=>
  obtain ⟨hM1,hT1⟩:=hcut
  have HL1:Hid ((zaf m.all i (r-x)).length=n):=(zaw _ _ _).trans HNN.o
  have HNK:Hid (nth (zaf m.all i (r-x)) k=nth m.all k):=by
   show _=_
   rw[zbs _ _ _ _ (by rw[HNN.o];exact hi),if_neg (fun e=>hik e.symm)]
  obtain ⟨d0,d1,d2,d3,d4,d5⟩:=hM1.see HL1.o k hk
  rw[show nth ({m with all:=zaf m.all i (r-x)}:Mk).all k=nth m.all k from HNK.o,HRK.o] at d5
  have hfk:=hM1.freeA (k * 5+4)
  have HM1:=zl hM1
  have HT1:=zl hT1
  obtain ⟨w1,hw1'⟩:=xq wc
  subst hw1'
  clear hM1 hT1 a0 a1 a2 a3 a4 a5 b1 b2 b3 b4 b5 hfi hfz HM d1 d2 d3 d4 hw1
  go_wp2_with fail
  go_cut [] (fun wx=>RM wx B c {m with all:=zaf (zaf m.all i (r-x)) k (q-x)} (.slice (some ⟨g,0,none⟩) n cap) vO/\Tch F w wx)
  case first=>
   go_region_law (fail)
   all_goals
    go_wp2_with fail
    go_meet
    exact⟨(HM1.o.setRest HL1.o k (q-x) hk).drew,HT1.o.trans ((zd8 (HF.o.a g rfl)).trans (Tch.of br.drew))⟩
  case rest=>
   obtain ⟨hM2,hT2⟩:=hcut
   have HL2:Hid ((zaf (zaf m.all i (r-x)) k (q-x)).length=n):=(zaw _ _ _).trans HL1.o
   have hT3:Tch F w (wc.setCell ⟨B,8,none⟩ (.int .i64 (p:Nat))):=hT2.trans (zd8 HF.o.b)
   have hM3:=hM2.setRef p
   have hf8:=hM2.free 8
   have hc8:=hM2.cells 8 _ rfl
   have hN3:N<=(wc.setCell ⟨B,8,none⟩ (.int .i64 (p:Nat))).heap.size:=llt hN hT3.size
   have HD:Hid (za3 m i k x p=zax {m with all:=zaf (zaf m.all i (r-x)) k (q-x),ref:=p} (mkev 3 0 0 0 (nth (zaf (zaf m.all i (r-x)) k (q-x)) i).id (nth (zaf (zaf m.all i (r-x)) k (q-x)) k).id x p 0 0)):=by
    show _=_
    unfold za3
    dsimp only
    rw[HRI.o,HNK.o,HRK.o]
   have HS1:=hM3.see HL2.o i hi
   have HS2:=hM3.see HL2.o k hk
   generalize zaf (zaf m.all i (r-x)) k (q-x)=L at *
   have HM3:=zl hM3
   have HT3:=zl hT3
   clear hM2 hT2 hM3 hT3 HM1 HT1 d0 d5 hfk hw2
   go_wp2_with fail
   generalize wc.setCell ⟨B,8,none⟩ (.int .i64 (p:Nat))=W at *
   obtain ⟨I,hI⟩: ∃I,nth L i=I:=⟨_,rfl⟩
   obtain ⟨J,hJ⟩: ∃J,nth L k=J:=⟨_,rfl⟩
   rw[show nth ({m with all:=L,ref:=p}:Mk).all i=I from hI] at HS1
   rw[show nth ({m with all:=L,ref:=p}:Mk).all k=J from hJ] at HS2
   have HI:=zl hI
   have HJ:=zl hJ
   have HSI:=zl HS1
   have HSJ:=zl HS2
   clear hI hJ HS1 HS2 hf8 hc8
   go_region_held3 (fun w'=>w'.cell? ⟨B,10,none⟩=some (.slice (some ⟨g,0,none⟩) n cap)/\w'.cell? ⟨g,i * 5,none⟩=some (.int .i64 (I.id:Nat))/\w'.cell? ⟨g,k * 5,none⟩=some (.int .i64 (J.id:Nat))) (first|assumption|exact⟨HSI.o.1,HSI.o.2.1,HSJ.o.2.1⟩) (first|(go_at_call 140;refine zf5 B c {m with all:=L,ref:=p} (.slice (some ⟨g,0,none⟩) n cap) vO (mkev 3 0 0 0 I.id J.id x p 0 0) _ (by rfl) F N _ _ (by exact HM3.o.drew) HF.o (by exact hN3) hs ho ?_;intro vO' w' h1 h2 h3;have hS1:=h1.see HL2.o i hi;have hS2:=h1.see HL2.o k hk;rw[show nth (zax {m with all:=L,ref:=p} (mkev 3 0 0 0 I.id J.id x p 0 0)).all i=I from HI.o] at hS1;rw[show nth (zax {m with all:=L,ref:=p} (mkev 3 0 0 0 I.id J.id x p 0 0)).all k=J from HJ.o] at hS2;have hS3:_/\_/\_:=⟨hS1.1,hS1.2.1,hS2.2.1⟩))
   have hfin:Hid (R (.returned (.tuple #[])) w'):=HR.o vO' _ (by rw[HD.o,HI.o,HJ.o];exact h1) h2 (HT3.o.trans h3.undrew)
   clear h1 h2 h3 hS1 hS2 hS3
   go_end0
   exact hfin.o
theorem trade_sell (B:Nat)(c:Cf)(m:Mk)(vA vO:Value)(i k x p:Nat)(F:Nat->Prop)(N:Nat)(w:World)(R:EW)(h:RM w B c m vA vO)(hF:Ft F N B vA vO)(hN:N<=w.heap.size)(hs:m.seq<=4294967295)(ho:m.out.length<=1048576)(hi:i<m.all.length)(hk:k<m.all.length)(hn:m.all.length<=1048576)
  (hside:(nth m.all i).side=1)(hsk:(nth m.all k).side=2)(hx:x<=(nth m.all i).rest)(hy:x<=(nth m.all k).rest)(hbi:(nth m.all i).rest<=4294967295)(hbk:(nth m.all k).rest<=4294967295)
  (hR: ∀vO' w',RM w' B c (za3 m i k x p) vA vO'->Ft F N B vA vO'->Tch F w w'->R (.returned (.tuple #[])) w'):
  Calls Tryz.prog 144 #[.pointer (some ⟨B,0,none⟩),.int .i64 k,.int .i64 i,.int .i64 x,.int .i64 p] w R:=by
 have HR:=zl hR
 have hik:i≠k:=fun e=>by rw[e,hsk] at hside;omega
 obtain ⟨g,cap,rfl,hfz,hg⟩:=h.ownA i hi
 obtain ⟨a0,a1,a2,a3,a4,a5⟩:=h.see rfl k hk
 rw[hsk] at a2
 have HM:Hid (RM w B c m (.slice (some ⟨g,0,none⟩) m.all.length cap) vO):=h
 have HF:Hid (Ft F N B (.slice (some ⟨g,0,none⟩) m.all.length cap) vO):=hF
 have HA:Hid (i<m.all.length/\(nth m.all i).side=1/\x<=(nth m.all i).rest/\x<=(nth m.all k).rest/\(nth m.all i).rest<=4294967295/\(nth m.all k).rest<=4294967295):=⟨hi,hside,hx,hy,hbi,hbk⟩
 clear hR h hF hside hx hy hbi hbk hsk a1 a3 a4 a5
 go_enter Tryz.func144,Tryz.ntmps144
 go_wp2_with fail
 refine zj7 B c m _ vO i k x p F N _ _ HM.o HF.o hN hs ho HA.o.1 hk hn HA.o.2.1 hik HA.o.2.2.1 HA.o.2.2.2.1 HA.o.2.2.2.2.1 HA.o.2.2.2.2.2 ?_
 intro vO' w' h1 h2 h3
 have hfin:=zl (HR.o vO' w' h1 h2 h3)
 clear h1 h2 h3 HM HF HA HR
 go_wp2_with fail
 go_end0
 exact hfin.o
