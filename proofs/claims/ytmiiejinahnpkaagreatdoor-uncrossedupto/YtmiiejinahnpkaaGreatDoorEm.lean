import Derived.Test.YtmiiejinahnpkaaGreatDoorEl
import Derived.Test.YtmiiejinahnpkaaGreatDoorEi
set_option maxRecDepth 8000
set_option maxHeartbeats 4000000
namespace Go.Proofs.YtmiiejinahnpkaaGreatDoor
open Go.RowKit
def zgh (w:World) (a:Option Addr) (n:Nat) (X:Nat->Nat):Prop:= ∀i,i<n-> ∃b o,a=some ⟨b,o,none⟩/\w.cell? ⟨b,o+i,none⟩=some (.int .u8 (X i:Nat))
variable {w:World}
theorem zgh.tch {F:Nat->Prop}{w':World}{a:Option Addr}{n:Nat}{X:Nat->Nat}(h:zgh w a n X)(hT:Tch F w w')(ha:0<n-> ∀b o,a=some ⟨b,o,none⟩-> ¬F b):zgh w' a n X:=by
 intro i hi
 obtain ⟨b,o,e,hc⟩:=h i hi
 exact⟨b,o,e,(World.cell?_of_block (w:=w) (w':=w') (a:=⟨b,o+i,none⟩) (hT.blk b (zab hc) (ha (by omega) b o e))).trans hc⟩
theorem zkn (a:Option Addr)(n c:Nat)(X:Nat->Nat)(A:Int)(at_:Nat)(hA:A=at_)(w:World)(R:EW)(hn:n<=1048576)(hat:at_+4<=n)(hx:zgh w a n X)(hb: ∀i,X i<=255)(hR:R (.returned (.int .i64 (num4 X at_:Nat))) w):
  Calls Tryz.prog 104 #[.slice a n c,.int .i64 A] w R:=by
 subst hA
 refine number_any a n c (fun i=>(X i:Int)) at_ w R (by omega) hat hx (fun i _=>⟨by omega,by have:=hb i;omega⟩) ?_
 have:(((((X at_:Int) * 256+X (at_+1)) * 256+X (at_+2)) * 256+X (at_+3)):Int)=(num4 X at_:Nat):=by unfold num4;omega
 rw[this]
 exact hR
theorem zct (X:Nat->Nat)(i:Nat)(h: ∀i,X i<=255):num4 X i<=4294967295:=by
 unfold num4
 have h0:=h i
 have h1:=h (i+1)
 have h2:=h (i+2)
 have h3:=h (i+3)
 omega
theorem RM.clearOut {B:Nat}{c:Cf}{m:Mk}{vA vO:Value}(h:RM w B c m vA vO):RM (w.setCell ⟨B,11,none⟩ (.slice none 0 0)) B c {m with out:=[]} vA (.slice none 0 0):=
 ⟨zbb h.blk,zb1 h.all B 11 _ h.sepA,World.ownsRow_nil _ _ _ _,h.sepA,by simp[Value.ownBlock],fun g _=>by simp[Value.ownBlock]⟩
theorem zdl (c:Cf)(m:Mk)(X:Nat->Nat)(n:Nat)(hn:0<n)(h1: ¬(X 0=1/\n=15/\1<=X 5/\X 5<=2/\1<=X 6/\X 6<=4))(h2: ¬(X 0=2/\n=5))(h3: ¬(X 0=3/\n=9))(h4: ¬(X 0=4/\n=5)):zaz c m X n=zbh {m with out:=[]} 0 1:=by
 unfold zaz
 simp only[if_pos hn]
 rw[if_neg h1,if_neg h2,if_neg h3,if_neg h4]
theorem sendM_new (c:Cf)(m:Mk)(X:Nat->Nat)(n:Nat)(h1:X 0=1/\n=15/\1<=X 5/\X 5<=2/\1<=X 6/\X 6<=4):zaz c m X n=zce c {m with out:=[]} ⟨num4 X 1,X 5,X 6,num4 X 11,num4 X 7⟩:=by
 unfold zaz
 simp only[if_pos (show 0<n by omega)]
 rw[if_pos h1]
theorem zi1 (c:Cf)(m:Mk)(X:Nat->Nat)(n:Nat)(h2:X 0=2/\n=5):zaz c m X n=zbv {m with out:=[]} (num4 X 1) (-1):=by
 unfold zaz
 simp only[if_pos (show 0<n by omega)]
 rw[if_neg (by omega),if_pos h2]
theorem zi0 (c:Cf)(m:Mk)(X:Nat->Nat)(n:Nat)(h3:X 0=3/\n=9):zaz c m X n=zbv {m with out:=[]} (num4 X 1) (num4 X 5):=by
 unfold zaz
 simp only[if_pos (show 0<n by omega)]
 rw[if_neg (by omega),if_neg (by omega),if_pos h3]
theorem sendM_tick (c:Cf)(m:Mk)(X:Nat->Nat)(n:Nat)(h4:X 0=4/\n=5):zaz c m X n=zdu c {m with out:=[]} (num4 X 1):=by
 unfold zaz
 simp only[if_pos (show 0<n by omega)]
 rw[if_neg (by omega),if_neg (by omega),if_neg (by omega),if_pos h4]
theorem enter_of (B:Nat)(c:Cf)(m:Mk)(vA vO:Value)(o:Od)(V:Value)(hV:V=odv o)(F:Nat->Prop)(N:Nat)(w:World)(R:EW)(h:RM w B c m vA vO)(hF:Ft F N B vA vO)(hN:N<=w.heap.size)(hg:Gd m)(hl:m.all.length<=1048575)(hct:c.total<=1000000000)(ho:m.out.length<=1000)(hoo:(zce c m o).out.length<=1000000)(hor:o.rest<=4294967295)(hos:o.side=1\/o.side=2)
  (hR: ∀vA' vO' w',RM w' B c (zce c m o) vA' vO'->Ft F N B vA' vO'->Tch F w w'->R (.returned (.tuple #[])) w'):
  Calls Tryz.prog 103 #[.pointer (some ⟨B,0,none⟩),V] w R:=by
 subst hV
 exact enter_any B c m vA vO o F N w R h hF hN hg hl hct ho hoo hor hos hR
theorem rSend_any (B:Nat)(c:Cf)(m:Mk)(vA vO:Value)(a:Option Addr)(n cap:Nat)(X:Nat->Nat)(F:Nat->Prop)(N:Nat)(w:World)(R:EW)(h:RM w B c m vA vO)(hF:Ft F N B vA vO)(hN:N<=w.heap.size)(hg:Gd m)(hph:m.phase<=3)(hl:m.all.length<=1048575)(hct:c.total<=1000000000)
  (hn:n<=1048576)(hx:zgh w a n X)(hX: ∀i,X i<=255)(ha:0<n-> ∀b o,a=some ⟨b,o,none⟩-> ¬F b)(hoo:(zaz c m X n).out.length<=1000000)
  (hR: ∀vA' vO' w',RM w' B c (zaz c m X n) vA' vO'->Ft F N B vA' vO'->Tch F w w'->R (.returned vO') w'):
  Calls Tryz.prog 71 #[.pointer (some ⟨B,0,none⟩),.slice a n cap] w R:=by
 have HR0:=zl hR
 have hT1:Tch F w (w.setCell ⟨B,11,none⟩ (.slice none 0 0)):=zd8 hF.b
 have HM:=zl (h.clearOut)
 have HF:Hid (Ft F N B vA (.slice none 0 0)):=⟨hF.up,hF.b,hF.a,fun g hg=>by simp[Value.ownBlock] at hg⟩
 have HG:=zl (hg.out [])
 have HX:=zl (hx.tch hT1 ha)
 have hN1:N<=(w.setCell ⟨B,11,none⟩ (.slice none 0 0)).heap.size:=llt hN hT1.size
 have HR:Hid (∀vA' vO' w',RM w' B c (zaz c m X n) vA' vO'->Ft F N B vA' vO'->Tch F (w.setCell ⟨B,11,none⟩ (.slice none 0 0)) w'->R (.returned vO') w'):=fun vA' vO' w' q1 q2 q3=>hR vA' vO' w' q1 q2 (hT1.trans q3)
 have c11:=h.cells 11 _ rfl
 have f11:=h.free 11
 have HOO:=zl hoo
 have HA:=zl ha
 have HX2:=zl hX
 have hM1:(⟨m.phase,m.time,m.ref,m.seq,m.all,[]⟩:Mk).phase=m.phase:=rfl
 clear h hF hg hx hR HR0 hT1 hN hoo ha
 go_enter Tryz.func71,Tryz.ntmps71
 by_cases hn0:n=0
 .subst hn0
  have HS:Hid (zaz c m X 0=zbh {m with out:=[]} 0 1):=by
   show _=_
   unfold zaz
   simp
  go_wp2_with fail
  generalize w.setCell ⟨B,11,none⟩ (.slice none 0 0)=W at *
  refine zbz B c {m with out:=[]} vA _ 0 1 F N _ _ HM.o HF.o hN1 HG.o.seq (by simp) ?_
  intro vO' w' h1 h2 h3
  have hfin:=zl (HR.o vA vO' w' (by rw[HS.o];exact h1) h2 h3)
  have e11:=h1.cells 11 _ rfl
  clear h1 h2 h3
  go_wp2_with fail
  exact hfin.o
 .obtain ⟨b,o,rfl,x0⟩:=HX.o 0 (by omega)
  rw[Nat.add_zero] at x0
  have hn1:(0:Int)<n:=by omega
  have hX0:=hX 0
  by_cases hk1:X 0=1
  .by_cases hn15:n=15
   .have n15:((n:Int)==15)=true:=by simp;omega
    have n5':(5:Int)<n:=by omega
    have n6':(6:Int)<n:=by omega
    obtain ⟨b',o',e',x5⟩:=HX.o 5 (by omega)
    simp only[Option.some.injEq,Addr.mk.injEq,and_true] at e'
    obtain ⟨rfl,rfl⟩:=e'
    obtain ⟨b',o',e',x6⟩:=HX.o 6 (by omega)
    simp only[Option.some.injEq,Addr.mk.injEq,and_true] at e'
    obtain ⟨rfl,rfl⟩:=e'
    have hX5:=hX 5
    have hX6:=hX 6
    by_cases c1:1<=X 5
    .have c1':(1:Int)<=X 5:=by omega
     by_cases c2:X 5<=2
     .have c2':(X 5:Int)<=2:=by omega
      by_cases c3:1<=X 6
      .have c3':(1:Int)<=X 6:=by omega
       by_cases c4:X 6<=4
       .have c4':(X 6:Int)<=4:=by omega
        have HS:Hid (zaz c m X n=zce c {m with out:=[]} ⟨num4 X 1,X 5,X 6,num4 X 11,num4 X 7⟩):=sendM_new c m X n ⟨hk1,hn15,c1,c2,c3,c4⟩
        have k1:((X 0:Int)==1)=true:=by simp;omega
        have k2:((X 0:Int)==2)=false:=by simp;omega
        have k3:((X 0:Int)==3)=false:=by simp;omega
        have k4:((X 0:Int)==4)=false:=by simp;omega
        have hge:15<=n:=by omega
        clear hk1 hn15
        go_wp2_with fail
        generalize w.setCell ⟨B,11,none⟩ (.slice none 0 0)=W at *
        refine wp_region_still_tail 16 (by kernel_rfl) (by kernel_rfl) ?_
        simp only[List.take_succ_cons,List.take_zero,List.drop_succ_cons,List.drop_zero]
        have HM2:=zl (HM.o.drew)
        have HXb:Hid (zgh W.drew (some ⟨b,o,none⟩) n X):=fun i hi=>HX.o i hi
        have HT2:Hid (Tch F W W.drew):=Tch.of br.drew
        have hN2:N<=W.drew.heap.size:=hN1
        have y5:W.drew.cell? ⟨b,o+5,none⟩=some (.int .u8 (X 5:Nat)):=x5
        have y6:W.drew.cell? ⟨b,o+6,none⟩=some (.int .u8 (X 6:Nat)):=x6
        have hn1':1+4<=n:=by omega
        have hn7':7+4<=n:=by omega
        have hn11':11+4<=n:=by omega
        change wpStill _ _ W.drew (fun a'=>wpList _ _ _ _ a' W.drew) _ _
        generalize W.drew=W2 at *
        clear x0 x5 x6 c11 f11 HX HM hN1
        repeat still_step
        still_call (zkn _ n cap X _ 1 (by rfl) _ _ hn hn1' HXb.o HX2.o ⟨rfl,rfl⟩)
        repeat still_step
        still_call (zkn _ n cap X _ 7 (by rfl) _ _ hn hn7' HXb.o HX2.o ⟨rfl,rfl⟩)
        repeat still_step
        still_call (zkn _ n cap X _ 11 (by rfl) _ _ hn hn11' HXb.o HX2.o ⟨rfl,rfl⟩)
        repeat still_step
        refine wpStill_nil ?_
        have HOT:Hid ((zce c {m with out:=[]} ⟨num4 X 1,X 5,X 6,num4 X 11,num4 X 7⟩).out.length<=1000000):=by rw[←HS.o];exact HOO.o
        go_wp2_with fail
        refine enter_of B c {m with out:=[]} vA _ ⟨num4 X 1,X 5,X 6,num4 X 11,num4 X 7⟩ _ (by rfl) F N _ _ HM2.o HF.o hN2 HG.o hl hct (by simp) HOT.o (zct X 7 HX2.o) (by show X 5=1\/X 5=2;omega) ?_
        intro vA' vO' w' h1 h2 h3
        have hfin:=zl (HR.o vA' vO' w' (by rw[HS.o];exact h1) h2 (HT2.o.trans h3))
        have e11:=h1.cells 11 _ rfl
        clear h1 h2 h3
        go_wp2_with fail
        exact hfin.o
       .have c4': ¬(X 6:Int)<=4:=by omega
        have k1:((X 0:Int)==1)=true:=by simp;omega
        have k2:((X 0:Int)==2)=false:=by simp;omega
        have k3:((X 0:Int)==3)=false:=by simp;omega
        have k4:((X 0:Int)==4)=false:=by simp;omega
        have HS:Hid (zaz c m X n=zbh {m with out:=[]} 0 1):=zdl c m X n (by omega) (by omega) (by omega) (by omega) (by omega)
        clear hk1 hn15 c1 c2 c3 c4
        go_wp2_with fail
        generalize w.setCell ⟨B,11,none⟩ (.slice none 0 0)=W at *
        refine zbz B c {m with out:=[]} vA _ 0 1 F N _ _ HM.o HF.o hN1 HG.o.seq (by simp) ?_
        intro vO' w' h1 h2 h3
        have hfin:=zl (HR.o vA vO' w' (by rw[HS.o];exact h1) h2 h3)
        have e11:=h1.cells 11 _ rfl
        clear h1 h2 h3
        go_wp2_with fail
        exact hfin.o
      .have c3': ¬(1:Int)<=X 6:=by omega
       have k1:((X 0:Int)==1)=true:=by simp;omega
       have k2:((X 0:Int)==2)=false:=by simp;omega
       have k3:((X 0:Int)==3)=false:=by simp;omega
       have k4:((X 0:Int)==4)=false:=by simp;omega
       have HS:Hid (zaz c m X n=zbh {m with out:=[]} 0 1):=zdl c m X n (by omega) (by omega) (by omega) (by omega) (by omega)
       clear hk1 hn15 c1 c2 c3
       go_wp2_with fail
       generalize w.setCell ⟨B,11,none⟩ (.slice none 0 0)=W at *
       refine zbz B c {m with out:=[]} vA _ 0 1 F N _ _ HM.o HF.o hN1 HG.o.seq (by simp) ?_
       intro vO' w' h1 h2 h3
       have hfin:=zl (HR.o vA vO' w' (by rw[HS.o];exact h1) h2 h3)
       have e11:=h1.cells 11 _ rfl
       clear h1 h2 h3
       go_wp2_with fail
       exact hfin.o
     .have c2': ¬(X 5:Int)<=2:=by omega
      have k1:((X 0:Int)==1)=true:=by simp;omega
      have k2:((X 0:Int)==2)=false:=by simp;omega
      have k3:((X 0:Int)==3)=false:=by simp;omega
      have k4:((X 0:Int)==4)=false:=by simp;omega
      have HS:Hid (zaz c m X n=zbh {m with out:=[]} 0 1):=zdl c m X n (by omega) (by omega) (by omega) (by omega) (by omega)
      clear hk1 hn15 c1 c2
      go_wp2_with fail
      generalize w.setCell ⟨B,11,none⟩ (.slice none 0 0)=W at *
      refine zbz B c {m with out:=[]} vA _ 0 1 F N _ _ HM.o HF.o hN1 HG.o.seq (by simp) ?_
      intro vO' w' h1 h2 h3
      have hfin:=zl (HR.o vA vO' w' (by rw[HS.o];exact h1) h2 h3)
      have e11:=h1.cells 11 _ rfl
      clear h1 h2 h3
      go_wp2_with fail
      exact hfin.o
    .have c1': ¬(1:Int)<=X 5:=by omega
     have k1:((X 0:Int)==1)=true:=by simp;omega
     have k2:((X 0:Int)==2)=false:=by simp;omega
     have k3:((X 0:Int)==3)=false:=by simp;omega
     have k4:((X 0:Int)==4)=false:=by simp;omega
     have HS:Hid (zaz c m X n=zbh {m with out:=[]} 0 1):=zdl c m X n (by omega) (by omega) (by omega) (by omega) (by omega)
     clear hk1 hn15 c1
     go_wp2_with fail
     generalize w.setCell ⟨B,11,none⟩ (.slice none 0 0)=W at *
     refine zbz B c {m with out:=[]} vA _ 0 1 F N _ _ HM.o HF.o hN1 HG.o.seq (by simp) ?_
     intro vO' w' h1 h2 h3
     have hfin:=zl (HR.o vA vO' w' (by rw[HS.o];exact h1) h2 h3)
     have e11:=h1.cells 11 _ rfl
     clear h1 h2 h3
     go_wp2_with fail
     exact hfin.o
   .have n15:((n:Int)==15)=false:=by simp;omega
    have k1:((X 0:Int)==1)=true:=by simp;omega
    have k2:((X 0:Int)==2)=false:=by simp;omega
    have k3:((X 0:Int)==3)=false:=by simp;omega
    have k4:((X 0:Int)==4)=false:=by simp;omega
    have HS:Hid (zaz c m X n=zbh {m with out:=[]} 0 1):=zdl c m X n (by omega) (by omega) (by omega) (by omega) (by omega)
    clear hk1 hn15
    go_wp2_with fail
    generalize w.setCell ⟨B,11,none⟩ (.slice none 0 0)=W at *
    refine zbz B c {m with out:=[]} vA _ 0 1 F N _ _ HM.o HF.o hN1 HG.o.seq (by simp) ?_
    intro vO' w' h1 h2 h3
    have hfin:=zl (HR.o vA vO' w' (by rw[HS.o];exact h1) h2 h3)
    have e11:=h1.cells 11 _ rfl
    clear h1 h2 h3
    go_wp2_with fail
    exact hfin.o
  .by_cases hk2:X 0=2
   .by_cases hn5:n=5
    .have HS:Hid (zaz c m X n=zbv {m with out:=[]} (num4 X 1) (-1)):=zi1 c m X n ⟨hk2,hn5⟩
     have n5:((n:Int)==5)=true:=by simp;omega
     have k1:((X 0:Int)==1)=false:=by simp;omega
     have k2:((X 0:Int)==2)=true:=by simp;omega
     have k3:((X 0:Int)==3)=false:=by simp;omega
     have k4:((X 0:Int)==4)=false:=by simp;omega
     have hnn:1+4<=n:=by omega
     clear hk1 hk2 hn5
     go_wp2_with fail
     refine zkn _ n cap X _ 1 (by rfl) _ _ hn hnn HX.o HX2.o ?_
     have hid:=zct X 1 HX2.o
     generalize num4 X 1=id at *
     go_wp2_with fail
     generalize w.setCell ⟨B,11,none⟩ (.slice none 0 0)=W at *
     refine change_any B c {m with out:=[]} vA _ id (-1) F N _ _ HM.o HF.o hN1 HG.o (by simp) (.inl rfl) hid ?_
     intro vO' w' h1 h2 h3
     have hfin:=zl (HR.o vA vO' w' (by rw[HS.o];exact h1) h2 h3)
     have e11:=h1.cells 11 _ rfl
     clear h1 h2 h3
     go_wp2_with fail
     exact hfin.o
    .have n5:((n:Int)==5)=false:=by simp;omega
     have k1:((X 0:Int)==1)=false:=by simp;omega
     have k2:((X 0:Int)==2)=true:=by simp;omega
     have k3:((X 0:Int)==3)=false:=by simp;omega
     have k4:((X 0:Int)==4)=false:=by simp;omega
     have HS:Hid (zaz c m X n=zbh {m with out:=[]} 0 1):=zdl c m X n (by omega) (by omega) (by omega) (by omega) (by omega)
     clear hk1 hk2 hn5
     go_wp2_with fail
     generalize w.setCell ⟨B,11,none⟩ (.slice none 0 0)=W at *
     refine zbz B c {m with out:=[]} vA _ 0 1 F N _ _ HM.o HF.o hN1 HG.o.seq (by simp) ?_
     intro vO' w' h1 h2 h3
     have hfin:=zl (HR.o vA vO' w' (by rw[HS.o];exact h1) h2 h3)
     have e11:=h1.cells 11 _ rfl
     clear h1 h2 h3
     go_wp2_with fail
     exact hfin.o
   .by_cases hk3:X 0=3
    .by_cases hn9:n=9
     .have HS:Hid (zaz c m X n=zbv {m with out:=[]} (num4 X 1) (num4 X 5)):=zi0 c m X n ⟨hk3,hn9⟩
      have n9:((n:Int)==9)=true:=by simp;omega
      have k1:((X 0:Int)==1)=false:=by simp;omega
      have k2:((X 0:Int)==2)=false:=by simp;omega
      have k3:((X 0:Int)==3)=true:=by simp;omega
      have k4:((X 0:Int)==4)=false:=by simp;omega
      have hnn:1+4<=n:=by omega
      have hnm:5+4<=n:=by omega
      clear hk1 hk2 hk3 hn9
      go_wp2_with fail
      refine zkn _ n cap X _ 1 (by rfl) _ _ hn hnn HX.o HX2.o ?_
      go_wp2_with fail
      refine zkn _ n cap X _ 5 (by rfl) _ _ hn hnm HX.o HX2.o ?_
      have hid:=zct X 1 HX2.o
      have hqt:=zct X 5 HX2.o
      generalize num4 X 1=id at *
      generalize num4 X 5=qt at *
      go_wp2_with fail
      generalize w.setCell ⟨B,11,none⟩ (.slice none 0 0)=W at *
      refine change_any B c {m with out:=[]} vA _ id (qt:Int) F N _ _ HM.o HF.o hN1 HG.o (by simp) (.inr ⟨qt,rfl,hqt⟩) hid ?_
      intro vO' w' h1 h2 h3
      have hfin:=zl (HR.o vA vO' w' (by rw[HS.o];exact h1) h2 h3)
      have e11:=h1.cells 11 _ rfl
      clear h1 h2 h3
      go_wp2_with fail
      exact hfin.o
     .have n9:((n:Int)==9)=false:=by simp;omega
      have k1:((X 0:Int)==1)=false:=by simp;omega
      have k2:((X 0:Int)==2)=false:=by simp;omega
      have k3:((X 0:Int)==3)=true:=by simp;omega
      have k4:((X 0:Int)==4)=false:=by simp;omega
      have HS:Hid (zaz c m X n=zbh {m with out:=[]} 0 1):=zdl c m X n (by omega) (by omega) (by omega) (by omega) (by omega)
      clear hk1 hk2 hk3 hn9
      go_wp2_with fail
      generalize w.setCell ⟨B,11,none⟩ (.slice none 0 0)=W at *
      refine zbz B c {m with out:=[]} vA _ 0 1 F N _ _ HM.o HF.o hN1 HG.o.seq (by simp) ?_
      intro vO' w' h1 h2 h3
      have hfin:=zl (HR.o vA vO' w' (by rw[HS.o];exact h1) h2 h3)
      have e11:=h1.cells 11 _ rfl
      clear h1 h2 h3
      go_wp2_with fail
      exact hfin.o
    .by_cases hk4:X 0=4
     .by_cases hn5:n=5
      .have HS:Hid (zaz c m X n=zdu c {m with out:=[]} (num4 X 1)):=sendM_tick c m X n ⟨hk4,hn5⟩
       have n5:((n:Int)==5)=true:=by simp;omega
       have k1:((X 0:Int)==1)=false:=by simp;omega
       have k2:((X 0:Int)==2)=false:=by simp;omega
       have k3:((X 0:Int)==3)=false:=by simp;omega
       have k4:((X 0:Int)==4)=true:=by simp;omega
       have hnn:1+4<=n:=by omega
       clear hk1 hk2 hk3 hk4 hn5
       go_wp2_with fail
       refine zkn _ n cap X _ 1 (by rfl) _ _ hn hnn HX.o HX2.o ?_
       have HOT:Hid ((zdu c {m with out:=[]} (num4 X 1)).out.length<=1000000):=by rw[←HS.o];exact HOO.o
       generalize num4 X 1=t at *
       go_wp2_with fail
       generalize w.setCell ⟨B,11,none⟩ (.slice none 0 0)=W at *
       refine tick_any B c {m with out:=[]} vA _ t F N _ _ HM.o HF.o hN1 HG.o hph HOT.o ?_
       intro vO' w' h1 h2 h3
       have hfin:=zl (HR.o vA vO' w' (by rw[HS.o];exact h1) h2 h3)
       have e11:=h1.cells 11 _ rfl
       clear h1 h2 h3
       go_wp2_with fail
       exact hfin.o
      .have n5:((n:Int)==5)=false:=by simp;omega
       have k1:((X 0:Int)==1)=false:=by simp;omega
       have k2:((X 0:Int)==2)=false:=by simp;omega
       have k3:((X 0:Int)==3)=false:=by simp;omega
       have k4:((X 0:Int)==4)=true:=by simp;omega
       have HS:Hid (zaz c m X n=zbh {m with out:=[]} 0 1):=zdl c m X n (by omega) (by omega) (by omega) (by omega) (by omega)
       clear hk1 hk2 hk3 hk4 hn5
       go_wp2_with fail
       generalize w.setCell ⟨B,11,none⟩ (.slice none 0 0)=W at *
       refine zbz B c {m with out:=[]} vA _ 0 1 F N _ _ HM.o HF.o hN1 HG.o.seq (by simp) ?_
       intro vO' w' h1 h2 h3
       have hfin:=zl (HR.o vA vO' w' (by rw[HS.o];exact h1) h2 h3)
       have e11:=h1.cells 11 _ rfl
       clear h1 h2 h3
       go_wp2_with fail
       exact hfin.o
     .have k1:((X 0:Int)==1)=false:=by simp;omega
      have k2:((X 0:Int)==2)=false:=by simp;omega
      have k3:((X 0:Int)==3)=false:=by simp;omega
      have k4:((X 0:Int)==4)=false:=by simp;omega
      have HS:Hid (zaz c m X n=zbh {m with out:=[]} 0 1):=zdl c m X n (by omega) (by omega) (by omega) (by omega) (by omega)
      clear hk1 hk2 hk3 hk4
      go_wp2_with fail
      generalize w.setCell ⟨B,11,none⟩ (.slice none 0 0)=W at *
      refine zbz B c {m with out:=[]} vA _ 0 1 F N _ _ HM.o HF.o hN1 HG.o.seq (by simp) ?_
      intro vO' w' h1 h2 h3
      have hfin:=zl (HR.o vA vO' w' (by rw[HS.o];exact h1) h2 h3)
      have e11:=h1.cells 11 _ rfl
      clear h1 h2 h3
      go_wp2_with fail
      exact hfin.o
