import Derived.Test.YtmiiejinahnpkaaGreatDoorXAgGa
import Derived.StillTailTactics
set_option maxRecDepth 8000
set_option maxHeartbeats 4000000
namespace Go.Proofs.YtmiiejinahnpkaaGreatDoor
open Go.RowKit
variable {c:Cf} {m:Mk} {B:Nat} {vA vO:Value} {w:World}
theorem RM.setPhase (h:RM w B c m vA vO)(s:Nat):RM (w.setCell ⟨B,6,none⟩ (.int .i64 (s:Nat))) B c {m with phase:=s} vA vO:=
 ⟨zbb h.blk,zb1 h.all B 6 _ h.sepA,zb1 h.out B 6 _ h.sepO,h.sepA,h.sepO,h.sep⟩
theorem RM.setTime (h:RM w B c m vA vO)(s:Nat):RM (w.setCell ⟨B,7,none⟩ (.int .i64 (s:Nat))) B c {m with time:=s} vA vO:=
 ⟨zbb h.blk,zb1 h.all B 7 _ h.sepA,zb1 h.out B 7 _ h.sepO,h.sepA,h.sepO,h.sep⟩
theorem zfl (n:Nat)(m:Mk):zai (n+1) m=if 0<(nth (zai n m).all n).rest/\((zai n m).phase=3\/((zai n m).phase=1/\pl (nth (zai n m).all n)=true)) then zav (zai n m) n else zai n m:=rfl
def zc0 (m1:Mk):Mk:=
 let m3:=zax {m1 with phase:=m1.phase+1} (mkev 8 0 0 0 0 0 0 0 0 (m1.phase+1))
 let m4:=zai m3.all.length m3
 if m4.phase=2 then zah m4 6 else m4
theorem zhh (m:Mk):zbj m=zc0 (if m.phase≠1 then zbg (zal m.phase m.ref m.all).1 (zal m.phase m.ref m.all).2.1 (zal m.phase m.ref m.all).2.1 (zah m 7) else m):=rfl
theorem zd6 (m:Mk)(k:Nat):(zah m k).out.length=m.out.length+1:=by simp[zah,zax]
theorem zeq (m:Mk):m.out.length+1<=(zc0 m).out.length:=by
 unfold zc0
 dsimp only
 have h:=(zcg (zax {m with phase:=m.phase+1} (mkev 8 0 0 0 0 0 0 0 0 (m.phase+1))).all.length (zax {m with phase:=m.phase+1} (mkev 8 0 0 0 0 0 0 0 0 (m.phase+1)))).2.2.1
 have e:(zax {m with phase:=m.phase+1} (mkev 8 0 0 0 0 0 0 0 0 (m.phase+1))).out.length=m.out.length+1:=by simp[zax]
 split
 .rw[zd6];omega
 .omega
theorem turn_any (B:Nat)(c:Cf)(m:Mk)(vA vO:Value)(F:Nat->Prop)(N:Nat)(w:World)(R:EW)(h:RM w B c m vA vO)(hF:Ft F N B vA vO)(hN:N<=w.heap.size)(hg:Gd m)(hph:m.phase<=2)(hoo:(zbj m).out.length<=1000000)
  (hR: ∀vO' w',RM w' B c (zbj m) vA vO'->Ft F N B vA vO'->Tch F w w'->R (.returned (.tuple #[])) w'):
  Calls Tryz.prog 147 #[.pointer (some ⟨B,0,none⟩)] w R:=by
 have HR:=zl hR
 have HM:=zl h
 have HF:=zl hF
 have HG:=zl hg
 have HOO:=zl hoo
 have p6:=h.cells 6 _ rfl
 clear hR h hF hg hoo
 go_enter Tryz.func147,Tryz.ntmps147
 by_cases hp1:m.phase=1
 .have fp:((m.phase:Int) !=1)=false:=by simp[hp1]
  have HTE:Hid (zbj m=zc0 m):=by rw[zhh,if_neg (by simp[hp1])];rfl
  clear hp1
  have HMx:Hid (RM w B c m vA vO):=HM.o
  have HTx:Hid (Tch F w w):=Tch.refl _ _
  have HFx:Hid (Ft F N B vA vO):=HF.o
  have HGx:Hid (Gd m):=HG.o
  have HPx:=zl hph
  have HOx:Hid (m.out.length<=1048576):=by
   have h1:=HOO.o
   have h2:=zeq m
   rw[HTE.o] at h1
   show _<=_
   omega
  have f6:=HMx.o.free 6
  have p6x:=HMx.o.cells 6 _ rfl
  have hM3:=HMx.o.setPhase (m.phase+1)
  have hT3:Tch F w (w.setCell ⟨B,6,none⟩ (.int .i64 ((m.phase+1:Nat):Int))):=HTx.o.trans (zd8 HFx.o.b)
  have hN3x:N<=(w.setCell ⟨B,6,none⟩ (.int .i64 ((m.phase+1:Nat):Int))).heap.size:=llt hN hT3.size
  have HM3:=zl hM3
  have HT3:=zl hT3
  clear hM3 hT3
  go_wp2_with fail
  refine zf5 B c {m with phase:=m.phase+1} vA vO (mkev 8 0 0 0 0 0 0 0 0 (m.phase+1)) _ (by rfl) F N _ _ (by exact HM3.o) HFx.o (by exact hN3x) HGx.o.seq HOx.o ?_
  intro vO4 w4 h1 h2 h3
  have HT4:=zl (HT3.o.trans h3)
  have HF4:=zl h2
  obtain ⟨M3,hM3⟩: ∃M3,zax {m with phase:=m.phase+1} (mkev 8 0 0 0 0 0 0 0 0 (m.phase+1))=M3:=⟨_,rfl⟩
  have HG4:Hid (Gd M3):=by rw[←hM3];exact(HGx.o.phase _).tell _
  have HP4:Hid (M3.phase<=3):=by rw[←hM3];exact Nat.succ_le_succ HPx.o
  have HE4:Hid (zbj m=if (zai M3.all.length M3).phase=2 then zah (zai M3.all.length M3) 6 else zai M3.all.length M3):=by rw[HTE.o,←hM3];rfl
  rw[hM3] at h1
  have HM4:=zl h1
  have HO4:Hid ((zai M3.all.length M3).out.length<=1000000):=by
   have h4:=HOO.o
   rw[HE4.o] at h4
   show _<=_
   split at h4
   .rw[zd6] at h4;omega
   .exact h4
  clear h1 h2 h3 hM3 HM3 HT3 HMx HTx HFx HGx HPx HOx f6 p6x hN3x HTE
  go_wp2_with fail
  go_loopw [7,8] (fun i _ wr=> ∃(k:Nat) (vOx:Value),k<=M3.all.length/\i= .int .i64 (k:Nat)/\RM wr B c (zai k M3) vA vOx/\Ft F N B vA vOx/\Tch F w wr) (fun i _ _=>M3.all.length-(intOf i).toNat)
  case atStart=>exact⟨0,vO4,Nat.zero_le _,rfl,HM4.o,HF4.o,HT4.o⟩
  case round=>
   obtain ⟨k,vOx,hk,rfl,hMr,hFr,hTr⟩:=hrel
   obtain ⟨sl,sp,_,sg⟩:=zcg k M3
   have HMr:=zl hMr
   have HFr:=zl hFr
   have HTr:=zl hTr
   have hNr:N<=wr.heap.size:=llt hN hTr.size
   have HGr:Hid (Gd (zai k M3)):=sg HG4.o
   have hlen:=HG4.o.len
   have HOr:Hid ((zai k M3).out.length<=1048576):=by
    have h1:=zkb k M3.all.length M3 hk
    have h2:=HO4.o
    show _<=_
    omega
   have HSp:=zl sp
   have HSl:=zl sl
   have p6:wr.cell? ⟨B,6,none⟩=some (.int .i64 (M3.phase:Nat)):=by rw[←sp];exact hMr.cells 6 _ rfl
   obtain ⟨a',cap',hv,e⟩:=hMr.rv
   rw[sl] at e
   have ha:=hv.ha
   rw[sl] at ha
   by_cases hkn:k<M3.all.length
   .obtain ⟨g,rfl,c0,c1,c2,c3,c4⟩:=hv.at k (by rw[sl];exact hkn)
    have HS:=zfl k M3
    rw[sp] at HS
    clear hMr hFr hTr hv sl sp sg
    generalize hS:zai k M3=S at *
    obtain ⟨O,hO⟩: ∃O,nth S.all k=O:=⟨_,rfl⟩
    rw[hO] at c0 c1 c2 c3 c4 HS
    have HO:=zl hO
    have HS':=zl HS
    have HSk:=zl hS
    clear hO HS hS
    go_wp2_with fail
    refine zfr O _ (by rfl) _ _ ?_
    intro w5 hb5
    have HM5:=zl (HMr.o.ext hb5)
    have HT5:Hid (Tch F w w5):=HTr.o.trans (Tch.of hb5)
    have hN5:N<=w5.heap.size:=llt hNr hb5.size
    replace c4:=zaa hb5 c4
    replace p6:=zaa hb5 p6
    replace ha:=zaa hb5 ha
    clear hb5 HMr HTr c0 c1 c2 c3
    by_cases hc:0<O.rest/\(M3.phase=3\/(M3.phase=1/\pl O=true))
    .rw[if_pos hc] at HS'
     have fr:(0:Int)<O.rest:=by omega
     have hph3:(((M3.phase:Int)==3)=true)\/(((M3.phase:Int)==3)=false/\((M3.phase:Int)==1)=true/\pl O=true):=by
      rcases hc.2 with h|⟨h,h'⟩
      .exact .inl (by simp[h])
      .exact .inr ⟨by simp[h],by simp[h],h'⟩
     clear hc
     rcases hph3 with f3|⟨f3,f1,fx⟩
     .go_wp2_with fail
      refine zdj B c S vA vOx k F N _ _ HM5.o HFr.o hN5 HGr.o.seq HOr.o (by rw[HSl.o];exact hkn) (by rw[HSl.o];exact hlen) ?_
      intro vO6 w6 h1 h2 h3
      have HZ:=zl h1
      have HFZ:=zl h2
      have HTZ:=zl (HT5.o.trans h3)
      clear h1 h2 h3
      go_wp2_with fail
      go_roundw
      case rel=>exact⟨k+1,vO6,by omega,by go_num,by rw[HS'.o];exact HZ.o,HFZ.o,HTZ.o⟩
      case measure=>simp[intOf];omega
     .rw[fx]
      go_wp2_with fail
      refine zdj B c S vA vOx k F N _ _ HM5.o HFr.o hN5 HGr.o.seq HOr.o (by rw[HSl.o];exact hkn) (by rw[HSl.o];exact hlen) ?_
      intro vO6 w6 h1 h2 h3
      have HZ:=zl h1
      have HFZ:=zl h2
      have HTZ:=zl (HT5.o.trans h3)
      clear h1 h2 h3
      go_wp2_with fail
      go_roundw
      case rel=>exact⟨k+1,vO6,by omega,by go_num,by rw[HS'.o];exact HZ.o,HFZ.o,HTZ.o⟩
      case measure=>simp[intOf];omega
    .rw[if_neg hc] at HS'
     by_cases hr:0<O.rest
     .have fr:(0:Int)<O.rest:=by omega
      have hph3:((M3.phase:Int)==3)=false/\(((M3.phase:Int)==1)=false\/(((M3.phase:Int)==1)=true/\pl O=false)):=by
       have h3:M3.phase≠3:=fun h=>hc ⟨hr,.inl h⟩
       refine⟨by simp;omega,?_⟩
       by_cases h1:M3.phase=1
       .refine .inr ⟨by simp[h1],?_⟩
        cases hx:pl O with
        |false=>rfl
        |true=>exact absurd ⟨hr,.inr ⟨h1,hx⟩⟩ hc
       .exact .inl (by simp;omega)
      clear hc
      obtain ⟨f3,f1|⟨f1,fx⟩⟩:=hph3
      .have HZ:Hid (RM w5 B c S vA vOx):=HM5.o
       have HFZ:Hid (Ft F N B vA vOx):=HFr.o
       have HTZ:Hid (Tch F w w5):=HT5.o
       go_wp2_with fail
       go_roundw
       case rel=>exact⟨k+1,vOx,by omega,by go_num,by rw[HS'.o];exact HZ.o,HFZ.o,HTZ.o⟩
       case measure=>simp[intOf];omega
      .rw[fx]
       have HZ:Hid (RM w5 B c S vA vOx):=HM5.o
       have HFZ:Hid (Ft F N B vA vOx):=HFr.o
       have HTZ:Hid (Tch F w w5):=HT5.o
       go_wp2_with fail
       go_roundw
       case rel=>exact⟨k+1,vOx,by omega,by go_num,by rw[HS'.o];exact HZ.o,HFZ.o,HTZ.o⟩
       case measure=>simp[intOf];omega
     .have fr: ¬(0:Int)<O.rest:=by omega
      clear hc
      have HZ:Hid (RM w5 B c S vA vOx):=HM5.o
      have HFZ:Hid (Ft F N B vA vOx):=HFr.o
      have HTZ:Hid (Tch F w w5):=HT5.o
      go_wp2_with fail
      go_roundw
      case rel=>exact⟨k+1,vOx,by omega,by go_num,by rw[HS'.o];exact HZ.o,HFZ.o,HTZ.o⟩
      case measure=>simp[intOf];omega
   .have hk':k=M3.all.length:=by omega
    subst hk'
    have HEE:Hid (zbj m=if M3.phase=2 then zah (zai M3.all.length M3) 6 else zai M3.all.length M3):=by
     have:=HE4.o
     rw[HSp.o] at this
     exact this
    clear hMr hFr hTr hv sl sp sg e HE4
    generalize zai M3.all.length M3=S at *
    by_cases h2:M3.phase=2
    .rw[if_pos h2] at HEE
     have f2:((M3.phase:Int)==2)=true:=by simp[h2]
     clear h2
     go_wp2_with fail
     refine zby B c S vA vOx 6 F N _ _ HMr.o HFr.o hNr HGr.o.seq HOr.o HGr.o.bds ?_
     intro vO' w' h1 h2 h3
     have hfin:=zl (HR.o vO' w' (by rw[HEE.o];exact h1) h2 (HTr.o.trans h3))
     clear h1 h2 h3
     go_wp2_with fail
     go_end0
     exact hfin.o
    .rw[if_neg h2] at HEE
     have f2:((M3.phase:Int)==2)=false:=by simp;omega
     have hfin:=zl (HR.o vOx wr (by rw[HEE.o];exact HMr.o) HFr.o HTr.o)
     clear h2
     go_wp2_with fail
     go_end0
     exact hfin.o
 .have fp:((m.phase:Int) !=1)=true:=by simp;omega
  have HTE:Hid (zbj m=zc0 (zbg (zal m.phase m.ref m.all).1 (zal m.phase m.ref m.all).2.1 (zal m.phase m.ref m.all).2.1 (zah m 7))):=by rw[zhh,if_pos hp1];rfl
  have HO0:Hid (m.out.length<=1048576):=by
   have h1:=HOO.o
   rw[HTE.o] at h1
   have h2:=zeq (zbg (zal m.phase m.ref m.all).1 (zal m.phase m.ref m.all).2.1 (zal m.phase m.ref m.all).2.1 (zah m 7))
   have h3:=ziq (zal m.phase m.ref m.all).1 (zal m.phase m.ref m.all).2.1 (zal m.phase m.ref m.all).2.1 (zah m 7)
   rw[zd6] at h3
   show _<=_
   omega
  go_wp2_with fail
  refine zby B c m vA vO 7 F N _ _ HM.o HF.o hN HG.o.seq HO0.o HG.o.bds ?_
  intro vO1 w1 h1 h2 h3
  have HG1:=zl (HG.o.indicate 7)
  have hcs:=ze0 m.phase m.ref m.all
  have hcn:(zal m.phase m.ref m.all).1<=4294967295:=by
   rcases hcs.2.2 with e|e
   .rw[e];omega
   .exact HG.o.bds.cnd _ e
  have HI:Hid ((zah m 7).all=m.all/\(zah m 7).phase=m.phase):=⟨rfl,rfl⟩
  generalize zah m 7=M0 at *
  generalize (zal m.phase m.ref m.all).1=p at *
  generalize (zal m.phase m.ref m.all).2.1=v0 at *
  have HM1:=zl h1
  have HF1:=zl h2
  have HT1:=zl h3
  have HV0:Hid (v0<=dep M0.phase M0.all 1 p/\v0<=dep M0.phase M0.all 2 p):=by rw[HI.o.1,HI.o.2];exact⟨hcs.1,hcs.2.1⟩
  clear h1 h2 h3 hcs
  go_wp2_with fail
  go_loopw [3,4,5,6] (fun vv _ _ _ wr=> ∃(f v:Nat) (M:Mk) (vOx:Value),vv= .int .i64 (v:Nat)/\zbg p v0 v0 M0=zbg p f v M/\v<=f/\v<=dep M.phase M.all 1 p/\v<=dep M.phase M.all 2 p/\RM wr B c M vA vOx/\Ft F N B vA vOx/\Tch F w wr/\Gd M/\M.phase=m.phase) (fun vv _ _ _ _=>(intOf vv).toNat)
  case atStart=>exact⟨v0,v0,M0,vO1,rfl,rfl,nr,HV0.o.1,HV0.o.2,HM1.o,HF1.o,HT1.o,HG1.o,HI.o.2⟩
  case round=>
   obtain ⟨f,v,M,vOx,rfl,hcr,hvf,hv1,hv2,hMr,hFr,hTr,hGr,hMp⟩:=hrel
   have HCr:=zl hcr
   have HMr:=zl hMr
   have HFr:=zl hFr
   have HTr:=zl hTr
   have HGr:=zl hGr
   have HMp:=zl hMp
   have HVd:=zl2 hv1 hv2
   have hNr:N<=wr.heap.size:=llt hN hTr.size
   have HOr:Hid (M.out.length+1<=1000000):=by
    have h1:=HOO.o
    rw[HTE.o,hcr] at h1
    have h2:=zeq (zbg p f v M)
    have h3:=ziq p f v M
    show _<=_
    omega
   clear hcr hMr hFr hTr hGr hMp hv1 hv2
   by_cases hv0:v=0
   .subst hv0
    have HTE':Hid (zbj m=zc0 M):=by rw[HTE.o,HCr.o,zey];rfl
    clear HTE
    have HTE:Hid (zbj m=zc0 M):=HTE'.o
    have HMx:Hid (RM wr B c M vA vOx):=HMr.o
    have HTx:Hid (Tch F w wr):=HTr.o
    have HFx:Hid (Ft F N B vA vOx):=HFr.o
    have HGx:Hid (Gd M):=HGr.o
    have HPx:Hid (M.phase<=2):=by rw[HMp.o];exact hph
    have HOx:Hid (M.out.length<=1048576):=by have:=HOr.o;show _<=_;omega
    clear HMr HTr HFr HGr HVd HCr HTE' HOr HM1 HT1 HF1 HG1 HM HF hp1
    obtain ⟨WX,hWX⟩:=xq wr
    subst hWX
    have hphx:M.phase<=2:=HPx.o
    have f6:=HMx.o.free 6
    have p6x:=HMx.o.cells 6 _ rfl
    have hM3:=HMx.o.setPhase (M.phase+1)
    have hT3:Tch F w (WX.setCell ⟨B,6,none⟩ (.int .i64 ((M.phase+1:Nat):Int))):=HTx.o.trans (zd8 HFx.o.b)
    have hN3x:N<=(WX.setCell ⟨B,6,none⟩ (.int .i64 ((M.phase+1:Nat):Int))).heap.size:=llt hN hT3.size
    have HM3:=zl hM3
    have HT3:=zl hT3
    clear hM3 hT3
    go_wp2_with fail
    refine zf5 B c {M with phase:=M.phase+1} vA vOx (mkev 8 0 0 0 0 0 0 0 0 (M.phase+1)) _ (by rfl) F N _ _ (by exact HM3.o) HFx.o (by exact hN3x) HGx.o.seq HOx.o ?_
    intro vO4 w4 h1 h2 h3
    have HT4:=zl (HT3.o.trans h3)
    have HF4:=zl h2
    obtain ⟨M3,hM3⟩: ∃M3,zax {M with phase:=M.phase+1} (mkev 8 0 0 0 0 0 0 0 0 (M.phase+1))=M3:=⟨_,rfl⟩
    have HG4:Hid (Gd M3):=by rw[←hM3];exact(HGx.o.phase _).tell _
    have HP4:Hid (M3.phase<=3):=by rw[←hM3];exact Nat.succ_le_succ HPx.o
    have HE4:Hid (zbj m=if (zai M3.all.length M3).phase=2 then zah (zai M3.all.length M3) 6 else zai M3.all.length M3):=by rw[HTE.o,←hM3];rfl
    rw[hM3] at h1
    have HM4:=zl h1
    have HO4:Hid ((zai M3.all.length M3).out.length<=1000000):=by
     have h4:=HOO.o
     rw[HE4.o] at h4
     show _<=_
     split at h4
     .rw[zd6] at h4;omega
     .exact h4
    clear h1 h2 h3 hM3 HM3 HT3 HMx HTx HFx HGx HPx HOx f6 p6x hN3x HTE
    go_wp2_with fail
    go_loopw [7,8] (fun i _ wr=> ∃(k:Nat) (vOx:Value),k<=M3.all.length/\i= .int .i64 (k:Nat)/\RM wr B c (zai k M3) vA vOx/\Ft F N B vA vOx/\Tch F w wr) (fun i _ _=>M3.all.length-(intOf i).toNat)
    case atStart=>exact⟨0,vO4,Nat.zero_le _,rfl,HM4.o,HF4.o,HT4.o⟩
    case round=>
     obtain ⟨k,vOx,hk,rfl,hMr,hFr,hTr⟩:=hrel
     obtain ⟨sl,sp,_,sg⟩:=zcg k M3
     have HMr:=zl hMr
     have HFr:=zl hFr
     have HTr:=zl hTr
     have hNr:N<=wr.heap.size:=llt hN hTr.size
     have HGr:Hid (Gd (zai k M3)):=sg HG4.o
     have hlen:=HG4.o.len
     have HOr:Hid ((zai k M3).out.length<=1048576):=by
      have h1:=zkb k M3.all.length M3 hk
      have h2:=HO4.o
      show _<=_
      omega
     have HSp:=zl sp
     have HSl:=zl sl
     have p6:wr.cell? ⟨B,6,none⟩=some (.int .i64 (M3.phase:Nat)):=by rw[←sp];exact hMr.cells 6 _ rfl
     obtain ⟨a',cap',hv,e⟩:=hMr.rv
     rw[sl] at e
     have ha:=hv.ha
     rw[sl] at ha
     by_cases hkn:k<M3.all.length
     .obtain ⟨g,rfl,c0,c1,c2,c3,c4⟩:=hv.at k (by rw[sl];exact hkn)
      have HS:=zfl k M3
      rw[sp] at HS
      clear hMr hFr hTr hv sl sp sg
      generalize hS:zai k M3=S at *
      obtain ⟨O,hO⟩: ∃O,nth S.all k=O:=⟨_,rfl⟩
      rw[hO] at c0 c1 c2 c3 c4 HS
      have HO:=zl hO
      have HS':=zl HS
      have HSk:=zl hS
      clear hO HS hS
      go_wp2_with fail
      refine zfr O _ (by rfl) _ _ ?_
      intro w5 hb5
      have HM5:=zl (HMr.o.ext hb5)
      have HT5:Hid (Tch F w w5):=HTr.o.trans (Tch.of hb5)
      have hN5:N<=w5.heap.size:=llt hNr hb5.size
      replace c4:=zaa hb5 c4
      replace p6:=zaa hb5 p6
      replace ha:=zaa hb5 ha
      clear hb5 HMr HTr c0 c1 c2 c3
      by_cases hc:0<O.rest/\(M3.phase=3\/(M3.phase=1/\pl O=true))
      .rw[if_pos hc] at HS'
       have fr:(0:Int)<O.rest:=by omega
       have hph3:(((M3.phase:Int)==3)=true)\/(((M3.phase:Int)==3)=false/\((M3.phase:Int)==1)=true/\pl O=true):=by
        rcases hc.2 with h|⟨h,h'⟩
        .exact .inl (by simp[h])
        .exact .inr ⟨by simp[h],by simp[h],h'⟩
       clear hc
       rcases hph3 with f3|⟨f3,f1,fx⟩
       .go_wp2_with fail
        refine zdj B c S vA vOx k F N _ _ HM5.o HFr.o hN5 HGr.o.seq HOr.o (by rw[HSl.o];exact hkn) (by rw[HSl.o];exact hlen) ?_
        intro vO6 w6 h1 h2 h3
        have HZ:=zl h1
        have HFZ:=zl h2
        have HTZ:=zl (HT5.o.trans h3)
        clear h1 h2 h3
        go_wp2_with fail
        go_roundw
        case rel=>exact⟨k+1,vO6,by omega,by go_num,by rw[HS'.o];exact HZ.o,HFZ.o,HTZ.o⟩
        case measure=>simp[intOf];omega
       .rw[fx]
        go_wp2_with fail
        refine zdj B c S vA vOx k F N _ _ HM5.o HFr.o hN5 HGr.o.seq HOr.o (by rw[HSl.o];exact hkn) (by rw[HSl.o];exact hlen) ?_
        intro vO6 w6 h1 h2 h3
        have HZ:=zl h1
        have HFZ:=zl h2
        have HTZ:=zl (HT5.o.trans h3)
        clear h1 h2 h3
        go_wp2_with fail
        go_roundw
        case rel=>exact⟨k+1,vO6,by omega,by go_num,by rw[HS'.o];exact HZ.o,HFZ.o,HTZ.o⟩
        case measure=>simp[intOf];omega
      .rw[if_neg hc] at HS'
       by_cases hr:0<O.rest
       .have fr:(0:Int)<O.rest:=by omega
        have hph3:((M3.phase:Int)==3)=false/\(((M3.phase:Int)==1)=false\/(((M3.phase:Int)==1)=true/\pl O=false)):=by
         have h3:M3.phase≠3:=fun h=>hc ⟨hr,.inl h⟩
         refine⟨by simp;omega,?_⟩
         by_cases h1:M3.phase=1
         .refine .inr ⟨by simp[h1],?_⟩
          cases hx:pl O with
          |false=>rfl
          |true=>exact absurd ⟨hr,.inr ⟨h1,hx⟩⟩ hc
         .exact .inl (by simp;omega)
        clear hc
        obtain ⟨f3,f1|⟨f1,fx⟩⟩:=hph3
        .have HZ:Hid (RM w5 B c S vA vOx):=HM5.o
         have HFZ:Hid (Ft F N B vA vOx):=HFr.o
         have HTZ:Hid (Tch F w w5):=HT5.o
         go_wp2_with fail
         go_roundw
         case rel=>exact⟨k+1,vOx,by omega,by go_num,by rw[HS'.o];exact HZ.o,HFZ.o,HTZ.o⟩
         case measure=>simp[intOf];omega
        .rw[fx]
         have HZ:Hid (RM w5 B c S vA vOx):=HM5.o
         have HFZ:Hid (Ft F N B vA vOx):=HFr.o
         have HTZ:Hid (Tch F w w5):=HT5.o
         go_wp2_with fail
         go_roundw
         case rel=>exact⟨k+1,vOx,by omega,by go_num,by rw[HS'.o];exact HZ.o,HFZ.o,HTZ.o⟩
         case measure=>simp[intOf];omega
       .have fr: ¬(0:Int)<O.rest:=by omega
        clear hc
        have HZ:Hid (RM w5 B c S vA vOx):=HM5.o
        have HFZ:Hid (Ft F N B vA vOx):=HFr.o
        have HTZ:Hid (Tch F w w5):=HT5.o
        go_wp2_with fail
        go_roundw
        case rel=>exact⟨k+1,vOx,by omega,by go_num,by rw[HS'.o];exact HZ.o,HFZ.o,HTZ.o⟩
        case measure=>simp[intOf];omega
     .have hk':k=M3.all.length:=by omega
      subst hk'
      have HEE:Hid (zbj m=if M3.phase=2 then zah (zai M3.all.length M3) 6 else zai M3.all.length M3):=by
       have:=HE4.o
       rw[HSp.o] at this
       exact this
      clear hMr hFr hTr hv sl sp sg e HE4
      generalize zai M3.all.length M3=S at *
      by_cases h2:M3.phase=2
      .rw[if_pos h2] at HEE
       have f2:((M3.phase:Int)==2)=true:=by simp[h2]
       clear h2
       go_wp2_with fail
       refine zby B c S vA vOx 6 F N _ _ HMr.o HFr.o hNr HGr.o.seq HOr.o HGr.o.bds ?_
       intro vO' w' h1 h2 h3
       have hfin:=zl (HR.o vO' w' (by rw[HEE.o];exact h1) h2 (HTr.o.trans h3))
       clear h1 h2 h3
       go_wp2_with fail
       go_end0
       exact hfin.o
      .rw[if_neg h2] at HEE
       have f2:((M3.phase:Int)==2)=false:=by simp;omega
       have hfin:=zl (HR.o vOx wr (by rw[HEE.o];exact HMr.o) HFr.o HTr.o)
       clear h2
       go_wp2_with fail
       go_end0
       exact hfin.o
   .have fv:(0:Int)<v:=by omega
    obtain ⟨a',cap',hv,rfl⟩:=HMr.o.rv
    have HVr:=zl hv
    rcases za8 M.phase M.all 1 M.all.length with hF1|⟨a,hF1,ha,hab,has⟩
    .exact absurd (zfz M.phase M.all 1 p hF1) (by have:=HVd.o;omega)
    rcases za8 M.phase M.all 2 M.all.length with hF2|⟨b,hF2,hb,hbb,hbs⟩
    .exact absurd (zfz M.phase M.all 2 p hF2) (by have:=HVd.o;omega)
    have HA:=zl3 hF1 hab has
    have HBb:=zl3 hF2 hbb hbs
    clear hv hF1 hF2 hab has hbb hbs
    go_wp2_with fail
    refine zkw B M.phase M.ref _ cap' M.all 1 _ _ HVr.o HGr.o.len ?_
    rw[HA.o.1]
    intro w2 hb2
    have HV2:=zl (HVr.o.ext hb2)
    have HM2:=zl (HMr.o.ext hb2)
    have HT2:Hid (Tch F w w2):=HTr.o.trans (Tch.of hb2)
    have hN2:N<=w2.heap.size:=llt hNr hb2.size
    clear hb2 HVr HMr HTr
    go_wp2_with fail
    refine zkw B M.phase M.ref _ cap' M.all 2 _ _ HV2.o HGr.o.len ?_
    rw[HBb.o.1]
    intro w3 hb3
    have HV3:=zl (HV2.o.ext hb3)
    have HM3:=zl (HM2.o.ext hb3)
    have HT3:Hid (Tch F w w3):=HT2.o.trans (Tch.of hb3)
    have hN3:N<=w3.heap.size:=llt hN2 hb3.size
    clear hb3 HV2 HM2 HT2
    obtain ⟨g,rfl,_,_,_,_,s5⟩:=HV3.o.at a ha
    obtain ⟨g',e,_,_,_,_,t5⟩:=HV3.o.at b hb
    simp only[Option.some.injEq,Addr.mk.injEq,and_true] at e
    subst e
    have hA:=HV3.o.ha
    have fa0:(0:Int)<=a:=by omega
    have fa1:(a:Int)<M.all.length:=by omega
    have fb0:(0:Int)<=b:=by omega
    have fb1:(b:Int)<M.all.length:=by omega
    go_wp2_with fail
    go_quiet ((go_at_call 145;exact Calls.quiet_of_same (zga _ _ _ _ ⟨rfl,rfl⟩)))
    have HM4:Hid (RM (w3.drewN nq) B c M (.slice (some ⟨g,0,none⟩) M.all.length cap') vOx):=HM3.o.ext (below_drewN br _)
    have HT4:Hid (Tch F w (w3.drewN nq)):=HT3.o.trans (Tch.of (below_drewN br _))
    have hN4:N<=(w3.drewN nq).heap.size:=llt hN3 (below_drewN br nq:Below w3.heap.size w3 (w3.drewN nq)).size
    generalize w3.drewN nq=w4 at *
    have hvb:v<=1000000000:=llt HVd.o.1 (llt (zk5 _ _ _ _) (HGr.o.sum 1))
    have hra:=zfo HGr.o a ha
    have hrb:=zfo HGr.o b hb
    have hpa:=zeb HA.o.2.1
    have hpb:=zeb HBb.o.2.1
    have HNX:Hid (zbg p f v M=zbg p (f-1) (v-min v (min (nth M.all a).rest (nth M.all b).rest)) (za3 M a b (min v (min (nth M.all a).rest (nth M.all b).rest)) p)):=by
     have:=zex p (f-1) v a b M hv0 HA.o.1 HBb.o.1
     rw[show f-1+1=f from by omega] at this
     exact this
    have hd1:=zc8 M a b (min v (min (nth M.all a).rest (nth M.all b).rest)) p 1 p ha hb (by rw[HA.o.2.2,HBb.o.2.2];decide) (.inl HA.o.2.2.symm)
    have hd2:=zc8 M a b (min v (min (nth M.all a).rest (nth M.all b).rest)) p 2 p ha hb (by rw[HA.o.2.2,HBb.o.2.2];decide) (.inr HBb.o.2.2.symm)
    have HD:Hid (v-min v (min (nth M.all a).rest (nth M.all b).rest)<=dep M.phase (za3 M a b (min v (min (nth M.all a).rest (nth M.all b).rest)) p).all 1 p/\v-min v (min (nth M.all a).rest (nth M.all b).rest)<=dep M.phase (za3 M a b (min v (min (nth M.all a).rest (nth M.all b).rest)) p).all 2 p):=by
     have:=HVd.o
     exact⟨by omega,by omega⟩
    obtain ⟨n,hn⟩: ∃n,min v (min (nth M.all a).rest (nth M.all b).rest)=n:=⟨_,rfl⟩
    rw[hn] at HNX HD ⊢
    have hn1:0<n:=by omega
    have hn2:n<=v:=by omega
    have HNa:Hid (n<=(nth M.all a).rest/\n<=(nth M.all b).rest):=by exact⟨by omega,by omega⟩
    clear hn hd1 hd2 HM3 HT3 HV3 s5 t5 hA hpa hpb
    go_wp2_with fail
    refine zj7 B c M _ vOx a b n p F N _ _ HM4.o HFr.o hN4 HGr.o.seq (by have:=HOr.o;omega) ha hb HGr.o.len HA.o.2.2 (fun e=>by have h1:=HA.o.2.2;have h2:=HBb.o.2.2;rw[e] at h1;omega) HNa.o.1 HNa.o.2 (by omega) (by omega) ?_
    intro vO5 w5 h1 h2 h3
    have HM5:=zl h1
    have HF5:=zl h2
    have HT5:=zl (HT4.o.trans h3)
    clear h1 h2 h3
    go_wp2_with fail
    go_roundw
    case rel=>exact⟨f-1,v-n,za3 M a b n p,vO5,by go_num,by rw[HCr.o];exact HNX.o,by omega,HD.o.1,HD.o.2,HM5.o,HF5.o,HT5.o,HGr.o.trade _ _ _ _ hcn,HMp.o⟩
    case measure=>simp[intOf];omega
