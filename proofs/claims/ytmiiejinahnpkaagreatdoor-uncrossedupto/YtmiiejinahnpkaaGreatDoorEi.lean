import Derived.Test.YtmiiejinahnpkaaGreatDoorXAgGa
set_option maxRecDepth 8000
set_option maxHeartbeats 2000000
namespace Go.Proofs.YtmiiejinahnpkaaGreatDoor
open Go.RowKit
theorem liveAt_succ (l:List Od)(id n:Nat):zas l id (n+1)=if (nth l n).id=id/\0<(nth l n).rest then (n:Int) else zas l id n:=rfl
theorem change_any (B:Nat)(c:Cf)(m:Mk)(vA vO:Value)(id:Nat)(by_:Int)(F:Nat->Prop)(N:Nat)(w:World)(R:EW)(h:RM w B c m vA vO)(hF:Ft F N B vA vO)(hN:N<=w.heap.size)(hg:Gd m)(ho:m.out.length<=1000)(hb1:by_= -1\/ ∃k:Nat,by_=k/\k<=4294967295)(_hid:id<=4294967295)
  (hR: ∀vO' w',RM w' B c (zbv m id by_) vA vO'->Ft F N B vA vO'->Tch F w w'->R (.returned (.tuple #[])) w'):
  Calls Tryz.prog 105 #[.pointer (some ⟨B,0,none⟩),.int .i64 id,.int .i64 by_] w R:=by
 have HR:=zl hR
 have HM:=zl h
 have HF:=zl hF
 have HG:=zl hg
 obtain ⟨a,cap,hv,rfl⟩:=h.rv
 have HV:=zl hv
 have hn:=hg.len
 clear hR h hF hg hv
 go_enter Tryz.func105,Tryz.ntmps105
 go_wp2_with fail
 go_loopw [6,7] (fun q i wr=> ∃k:Nat,k<=m.all.length/\i= .int .i64 k/\q= .int .i64 (zas m.all id k)/\Below w.heap.size w wr) (fun _ i _=>m.all.length-(intOf i).toNat)
 case atStart=>exact⟨0,Nat.zero_le _,rfl,rfl,br⟩
 case round=>
  obtain ⟨k,hk,rfl,rfl,hb⟩:=hrel
  have HB:=zl hb
  have HVr:=zl (HV.o.ext hb)
  have ha:=HVr.o.ha
  clear hb
  by_cases hkn:k<m.all.length
  .obtain ⟨g,rfl,c0,c1,c2,c3,c4⟩:=HVr.o.at k hkn
   have HS:Hid (zas m.all id (k+1)=if (nth m.all k).id=id/\0<(nth m.all k).rest then (k:Int) else zas m.all id k):=liveAt_succ _ _ _
   generalize zas m.all id k=q at *
   generalize nth m.all k=O at *
   by_cases h1:O.id=id
   .have f1:((O.id:Int)==id)=true:=by simp[h1]
    by_cases h2:0<O.rest
    .rw[if_pos ⟨h1,h2⟩] at HS
     have f2:(0:Int)<O.rest:=by omega
     go_wp2_with fail
     exact⟨⟨k+1,by omega,by go_num,by rw[HS.o],HB.o⟩,by simp[intOf];omega⟩
    .rw[if_neg (fun h=>h2 h.2)] at HS
     have f2: ¬(0:Int)<O.rest:=by omega
     go_wp2_with fail
     exact⟨⟨k+1,by omega,by go_num,by rw[HS.o],HB.o⟩,by simp[intOf];omega⟩
   .rw[if_neg (fun h=>h1 h.1)] at HS
    have f1:((O.id:Int)==id)=false:=by simp;omega
    go_wp2_with fail
    exact⟨⟨k+1,by omega,by go_num,by rw[HS.o],HB.o⟩,by simp[intOf];omega⟩
  .have hk':k=m.all.length:=by omega
   subst hk'
   have hN1:N<=wr.heap.size:=llt hN HB.o.size
   have HMr:=zl (HM.o.ext HB.o)
   rcases zdp m.all id m.all.length with hL|⟨k,hL,hkn,hki,hkr⟩
   .have HC:Hid (zbv m id by_=zbh m id 3):=by
     show _=_
     unfold zbv
     dsimp only
     rw[hL,if_pos (by omega)]
    rw[hL]
    clear hL
    go_wp2_with fail
    refine zbz B c m _ vO id 3 F N _ _ HMr.o HF.o hN1 HG.o.seq (by omega) ?_
    intro vO' w' h1 h2 h3
    have hfin:Hid (R (.returned (.tuple #[])) w'):=HR.o vO' w' (by rw[HC.o];exact h1) h2 ((Tch.of HB.o).trans h3)
    clear h1 h2 h3
    go_wp2_with fail
    go_end0
    exact hfin.o
   .have HC0:Hid (zbv m id by_=if by_=0 then zbh m id 4 else
      let m1:=if by_<0\/((nth m.all k).rest:Int)<=by_ then zav m k else zax {m with all:=zaf m.all k ((nth m.all k).rest-by_.toNat)} (mkev 5 0 id 0 0 0 by_ 0 0 0)
      if m.phase=0\/m.phase=2 then zah m1 6 else m1):=by
     show _=_
     unfold zbv
     dsimp only
     rw[hL,if_neg (by omega)]
     have hph:(if by_<0\/((nth m.all k).rest:Int)<=by_ then zav m k else zax {m with all:=zaf m.all k ((nth m.all k).rest-by_.toNat)} (mkev 5 0 id 0 0 0 by_ 0 0 0)).phase=m.phase:=by split<;>rfl
     simp only[Int.toNat_natCast,hph]
    rw[hL]
    clear hL
    by_cases hb0:by_=0
    .have HC:Hid (zbv m id by_=zbh m id 4):=by rw[HC0.o,if_pos hb0];rfl
     have fb:(by_==0)=true:=by simp[hb0]
     go_wp2_with fail
     refine zbz B c m _ vO id 4 F N _ _ HMr.o HF.o hN1 HG.o.seq (by omega) ?_
     intro vO' w' h1 h2 h3
     have hfin:Hid (R (.returned (.tuple #[])) w'):=HR.o vO' w' (by rw[HC.o];exact h1) h2 ((Tch.of HB.o).trans h3)
     clear h1 h2 h3
     go_wp2_with fail
     go_end0
     exact hfin.o
    .rw[if_neg hb0] at HC0
     have fb:(by_==0)=false:=by simp[hb0]
     obtain ⟨g,cap',e,hfz,hgl⟩:=HMr.o.ownA k hkn
     simp only[Value.slice.injEq,true_and] at e
     obtain ⟨rfl,-⟩:=e
     obtain ⟨d0,d1,d2,d3,d4,d5⟩:=HMr.o.see rfl k hkn
     have hrl:=zfo HG.o k hkn
     by_cases hcan:by_<0\/((nth m.all k).rest:Int)<=by_
     .simp only[if_pos hcan] at HC0
      by_cases hneg:by_<0
      .have fn:decide (by_<0)=true:=by simp[hneg]
       clear hcan hki hkr
       go_wp2_with fail
       refine zdj B c m _ vO k F N _ _ HMr.o HF.o hN1 HG.o.seq (by omega) hkn hn ?_
       intro vO1 w1 h1 h2 h3
       obtain ⟨M1,hM1⟩:=xq (zav m k)
       have HPh:Hid (M1.phase=m.phase):=by rw[hM1];rfl
       have HG1:Hid (Gd M1):=by rw[hM1];exact HG.o.cancel k
       have HO1:Hid (M1.out.length<=1048576):=by
        show _<=_
        rw[hM1]
        simp only[zav,zax,List.length_append,List.length_cons,List.length_nil]
        omega
       rw[←hM1] at h1 HC0
       clear hM1
       have hP1:w1.cell? ⟨B,6,none⟩=some (.int .i64 (m.phase:Nat)):=by rw[←HPh.o];exact h1.cells 6 _ rfl
       have hN2:N<=w1.heap.size:=llt hN1 h3.size
       have HM1:=zl h1
       have HF1:=zl h2
       have HT1:Hid (Tch F w w1):=(Tch.of HB.o).trans h3
       clear h1 h2 h3 d0 d1 d2 d3 d4 d5 hfz HMr HVr HV HM
       by_cases hp:m.phase=0\/m.phase=2
       .rw[if_pos hp] at HC0
        have hp':(m.phase=0/\((m.phase:Int)==0)=true)\/(m.phase=2/\((m.phase:Int)==0)=false/\((m.phase:Int)==2)=true):=by
         rcases hp with h|h
         .exact .inl ⟨h,by simp[h]⟩
         .exact .inr ⟨h,by simp[h],by simp[h]⟩
        clear hp
        rcases hp' with ⟨hp,f0⟩|⟨hp,f0,f2⟩
        .clear hp
         go_wp2_with fail
         refine zby B c M1 _ vO1 6 F N _ _ HM1.o HF1.o hN2 HG1.o.seq HO1.o HG1.o.bds ?_
         intro vO' w' h1 h2 h3
         have hfin:=zl (HR.o vO' w' (by rw[HC0.o];exact h1) h2 (HT1.o.trans h3))
         clear h1 h2 h3
         go_wp2_with fail
         go_end0
         exact hfin.o
        .clear hp
         go_wp2_with fail
         refine zby B c M1 _ vO1 6 F N _ _ HM1.o HF1.o hN2 HG1.o.seq HO1.o HG1.o.bds ?_
         intro vO' w' h1 h2 h3
         have hfin:=zl (HR.o vO' w' (by rw[HC0.o];exact h1) h2 (HT1.o.trans h3))
         clear h1 h2 h3
         go_wp2_with fail
         go_end0
         exact hfin.o
       .rw[if_neg hp] at HC0
        have f0:((m.phase:Int)==0)=false:=by simp;omega
        have f2:((m.phase:Int)==2)=false:=by simp;omega
        have hfin:=zl (HR.o vO1 w1 (by rw[HC0.o];exact HM1.o) HF1.o HT1.o)
        clear hp
        go_wp2_with fail
        go_end0
        exact hfin.o
      .have hge:((nth m.all k).rest:Int)<=by_:=by omega
       clear hcan hki hkr
       go_wp2_with fail
       refine zdj B c m _ vO k F N _ _ HMr.o HF.o hN1 HG.o.seq (by omega) hkn hn ?_
       intro vO1 w1 h1 h2 h3
       obtain ⟨M1,hM1⟩:=xq (zav m k)
       have HPh:Hid (M1.phase=m.phase):=by rw[hM1];rfl
       have HG1:Hid (Gd M1):=by rw[hM1];exact HG.o.cancel k
       have HO1:Hid (M1.out.length<=1048576):=by
        show _<=_
        rw[hM1]
        simp only[zav,zax,List.length_append,List.length_cons,List.length_nil]
        omega
       rw[←hM1] at h1 HC0
       clear hM1
       have hP1:w1.cell? ⟨B,6,none⟩=some (.int .i64 (m.phase:Nat)):=by rw[←HPh.o];exact h1.cells 6 _ rfl
       have hN2:N<=w1.heap.size:=llt hN1 h3.size
       have HM1:=zl h1
       have HF1:=zl h2
       have HT1:Hid (Tch F w w1):=(Tch.of HB.o).trans h3
       clear h1 h2 h3 d0 d1 d2 d3 d4 d5 hfz HMr HVr HV HM
       by_cases hp:m.phase=0\/m.phase=2
       .rw[if_pos hp] at HC0
        have hp':(m.phase=0/\((m.phase:Int)==0)=true)\/(m.phase=2/\((m.phase:Int)==0)=false/\((m.phase:Int)==2)=true):=by
         rcases hp with h|h
         .exact .inl ⟨h,by simp[h]⟩
         .exact .inr ⟨h,by simp[h],by simp[h]⟩
        clear hp
        rcases hp' with ⟨hp,f0⟩|⟨hp,f0,f2⟩
        .clear hp
         go_wp2_with fail
         refine zby B c M1 _ vO1 6 F N _ _ HM1.o HF1.o hN2 HG1.o.seq HO1.o HG1.o.bds ?_
         intro vO' w' h1 h2 h3
         have hfin:=zl (HR.o vO' w' (by rw[HC0.o];exact h1) h2 (HT1.o.trans h3))
         clear h1 h2 h3
         go_wp2_with fail
         go_end0
         exact hfin.o
        .clear hp
         go_wp2_with fail
         refine zby B c M1 _ vO1 6 F N _ _ HM1.o HF1.o hN2 HG1.o.seq HO1.o HG1.o.bds ?_
         intro vO' w' h1 h2 h3
         have hfin:=zl (HR.o vO' w' (by rw[HC0.o];exact h1) h2 (HT1.o.trans h3))
         clear h1 h2 h3
         go_wp2_with fail
         go_end0
         exact hfin.o
       .rw[if_neg hp] at HC0
        have f0:((m.phase:Int)==0)=false:=by simp;omega
        have f2:((m.phase:Int)==2)=false:=by simp;omega
        have hfin:=zl (HR.o vO1 w1 (by rw[HC0.o];exact HM1.o) HF1.o HT1.o)
        clear hp
        go_wp2_with fail
        go_end0
        exact hfin.o
     .simp only[if_neg hcan] at HC0
      have hneg: ¬by_<0:=fun h=>hcan (.inl h)
      have hge: ¬((nth m.all k).rest:Int)<=by_:=fun h=>hcan (.inr h)
      clear hcan
      obtain ⟨n,rfl⟩: ∃n:Nat,by_=n:=⟨by_.toNat,by omega⟩
      rw[Int.toNat_natCast] at HC0
      obtain ⟨r,hr⟩: ∃r,(nth m.all k).rest=r:=⟨_,rfl⟩
      rw[hr] at HC0 hge hkr d5 hrl
      have HRr:=zl hr
      have hw1:IntKind.i64.wrap ((r:Int)-n)=((r-n:Nat):Int):=by rw[IntKind.wrap_i64];omega
      have hfk:=hfz (k * 5+4)
      clear hr hki hfz
      go_wp2_with fail
      go_cut [] (fun wx=>RM wx B c {m with all:=zaf m.all k (r-n)} (.slice (some ⟨g,0,none⟩) m.all.length cap) vO/\Tch F wr wx)
      case first=>
       go_region_law (fail)
       all_goals
        go_wp2_with fail
        go_meet
        exact⟨(HMr.o.setRest rfl k (r-n) hkn).drew,(zd8 (HF.o.a g rfl)).trans (Tch.of br.drew)⟩
      case rest=>
       obtain ⟨hMc,hTc⟩:=hcut
       have HMc:=zl hMc
       have HTc:=zl hTc
       have hNc:N<=wc.heap.size:=llt hN1 hTc.size
       have HGc:Hid (Gd {m with all:=zaf m.all k (r-n)}):=HG.o.setRest k _ (by rw[HRr.o];omega)
       clear hMc hTc d0 d1 d2 d3 d4 d5 HMr HVr HV HM hfk hw1
       go_wp2_with fail
       refine zf5 B c {m with all:=zaf m.all k (r-n)} _ vO (mkev 5 0 id 0 0 0 n 0 0 0) _ (by rfl) F N _ _ (by exact HMc.o) HF.o (by exact hNc) HG.o.seq (by exact llt ho (by omega)) ?_
       intro vO1 w1 h1 h2 h3
       obtain ⟨M1,hM1⟩:=xq (zax {m with all:=zaf m.all k (r-n)} (mkev 5 0 id 0 0 0 n 0 0 0))
       have HPh:Hid (M1.phase=m.phase):=by rw[hM1];rfl
       have HG1:Hid (Gd M1):=by rw[hM1];exact HGc.o.tell _
       have HO1:Hid (M1.out.length<=1048576):=by
        show _<=_
        rw[hM1]
        simp only[zax,List.length_append,List.length_cons,List.length_nil]
        omega
       rw[←hM1] at h1 HC0
       clear hM1
       have hP1:w1.cell? ⟨B,6,none⟩=some (.int .i64 (m.phase:Nat)):=by rw[←HPh.o];exact h1.cells 6 _ rfl
       have hN2:N<=w1.heap.size:=llt hNc h3.size
       have HM1:=zl h1
       have HF1:=zl h2
       have HT1:Hid (Tch F w w1):=(Tch.of HB.o).trans (HTc.o.trans h3)
       clear h1 h2 h3
       by_cases hp:m.phase=0\/m.phase=2
       .rw[if_pos hp] at HC0
        have hp':(m.phase=0/\((m.phase:Int)==0)=true)\/(m.phase=2/\((m.phase:Int)==0)=false/\((m.phase:Int)==2)=true):=by
         rcases hp with h|h
         .exact .inl ⟨h,by simp[h]⟩
         .exact .inr ⟨h,by simp[h],by simp[h]⟩
        clear hp
        rcases hp' with ⟨hp,f0⟩|⟨hp,f0,f2⟩
        .clear hp
         go_wp2_with fail
         refine zby B c M1 _ vO1 6 F N _ _ HM1.o HF1.o hN2 HG1.o.seq HO1.o HG1.o.bds ?_
         intro vO' w' h1 h2 h3
         have hfin:=zl (HR.o vO' w' (by rw[HC0.o];exact h1) h2 (HT1.o.trans h3))
         clear h1 h2 h3
         go_wp2_with fail
         go_end0
         exact hfin.o
        .clear hp
         go_wp2_with fail
         refine zby B c M1 _ vO1 6 F N _ _ HM1.o HF1.o hN2 HG1.o.seq HO1.o HG1.o.bds ?_
         intro vO' w' h1 h2 h3
         have hfin:=zl (HR.o vO' w' (by rw[HC0.o];exact h1) h2 (HT1.o.trans h3))
         clear h1 h2 h3
         go_wp2_with fail
         go_end0
         exact hfin.o
       .rw[if_neg hp] at HC0
        have f0:((m.phase:Int)==0)=false:=by simp;omega
        have f2:((m.phase:Int)==2)=false:=by simp;omega
        have hfin:=zl (HR.o vO1 w1 (by rw[HC0.o];exact HM1.o) HF1.o HT1.o)
        clear hp
        go_wp2_with fail
        go_end0
        exact hfin.o
