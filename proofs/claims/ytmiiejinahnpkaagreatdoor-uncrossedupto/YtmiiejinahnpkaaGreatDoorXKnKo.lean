import Derived.Test.YtmiiejinahnpkaaGreatDoorXKjKm
set_option maxRecDepth 8000
set_option maxHeartbeats 1000000
namespace Go.Proofs.YtmiiejinahnpkaaGreatDoor
section
open Go.RowKit Go.Shelf Go.Lib
variable {m:Mk}
theorem uncross_trd (hg:Gd m):Trd (zah m 7) (zbu m):=by
 obtain ⟨h1,h2,h3⟩:=ze0 m.phase m.ref m.all
 refine Trd.cross _ _ _ _ ?_ h1 h2
 rcases h3 with e|e
 .rw[e];omega
 .exact hg.bds.cnd _ e
theorem zec (hg:Gd m):(zbu m).phase=m.phase:=(uncross_trd hg).phase
theorem rfield0 (x0 x1 x2 x3 x4 x5 x6:Value)(w:World):(Instr.field 160 (.agg #[x0,x1,x2,x3,x4,x5,x6]) 0).run Tryz.prog w= .ok x0 w:=by kernel_rfl
theorem rfield1 (x0 x1 x2 x3 x4 x5 x6:Value)(w:World):(Instr.field 160 (.agg #[x0,x1,x2,x3,x4,x5,x6]) 1).run Tryz.prog w= .ok x1 w:=by kernel_rfl
theorem rfield2 (x0 x1 x2 x3 x4 x5 x6:Value)(w:World):(Instr.field 160 (.agg #[x0,x1,x2,x3,x4,x5,x6]) 2).run Tryz.prog w= .ok x2 w:=by kernel_rfl
theorem rfield3 (x0 x1 x2 x3 x4 x5 x6:Value)(w:World):(Instr.field 160 (.agg #[x0,x1,x2,x3,x4,x5,x6]) 3).run Tryz.prog w= .ok x3 w:=by kernel_rfl
theorem rfield4 (x0 x1 x2 x3 x4 x5 x6:Value)(w:World):(Instr.field 160 (.agg #[x0,x1,x2,x3,x4,x5,x6]) 4).run Tryz.prog w= .ok x4 w:=by kernel_rfl
theorem rfield5 (x0 x1 x2 x3 x4 x5 x6:Value)(w:World):(Instr.field 160 (.agg #[x0,x1,x2,x3,x4,x5,x6]) 5).run Tryz.prog w= .ok x5 w:=by kernel_rfl
theorem rfield6 (x0 x1 x2 x3 x4 x5 x6:Value)(w:World):(Instr.field 160 (.agg #[x0,x1,x2,x3,x4,x5,x6]) 6).run Tryz.prog w= .ok x6 w:=by kernel_rfl
def zbm (m:Mk) (ph:Nat):Mk:=zax {m with phase:=ph} (mkev 8 0 0 0 0 0 0 0 0 ph)
theorem zgz (m:Mk)(ph:Nat):outs (zbm m ph)=outs m++[mkev 8 0 0 0 0 0 0 0 0 ph]:=zf9 _ _ _ _ _ _ _ _ _ _
def endM (m:Mk):Mk:=if (zai (zbm m (m.phase+1)).all.length (zbm m (m.phase+1))).phase=2 then zah (zai (zbm m (m.phase+1)).all.length (zbm m (m.phase+1))) 6 else zai (zbm m (m.phase+1)).all.length (zbm m (m.phase+1))
theorem zh4 (m:Mk):zbj m=endM (if m.phase≠1 then zbu m else m):=rfl
theorem end_two (m:Mk)(h:m.phase=1):endM m=zah (zbm m 2) 6:=by
 unfold endM
 rw[zer,if_pos (by show m.phase+1=2;omega),sweep_two _ _ (by show m.phase+1=2;omega),h]
theorem end_other (m:Mk)(h:m.phase≠1):endM m=zai (zbm m (m.phase+1)).all.length (zbm m (m.phase+1)):=by
 unfold endM
 rw[zer,if_neg (by show ¬m.phase+1=2;omega)]
theorem zhg (hg:Gd m)(h:m.phase=0):zbj m=zai (zbm (zbu m) 1).all.length (zbm (zbu m) 1):=by
 have hp:=zec hg
 rw[zh4,if_pos (by omega),end_other _ (by omega),hp,h]
theorem zjo (hg:Gd m)(h:m.phase=2):zbj m=zai (zbm (zbu m) 3).all.length (zbm (zbu m) 3):=by
 have hp:=zec hg
 rw[zh4,if_pos (by omega),end_other _ (by omega),hp,h]
theorem zjp (h:m.phase=1):zbj m=zah (zbm m 2) 6:=by
 rw[zh4,if_neg (by omega),end_two _ h]
theorem wt_zero (o:Od):wt 1 o=wt 0 o:=by unfold wt;simp
theorem wt_two (o:Od):wt 3 o=wt 2 o:=by unfold wt;simp
theorem PS.turned {w:World}{P:Nat}{b:Bk}{c:Cf}{s0 ph:Nat}(h:PS w P b c m s0)(hw: ∀o,wt ph o=wt m.phase o)(hp:ph<=3):PS (w.setCell ⟨P,6,none⟩ (.int .i64 (ph:Nat))) P b c (zbm m ph) s0:=by
 refine⟨⟨blk_phase (m:={m with seq:=s0}) h.pm.blk ph,?_,h.pm.own⟩,?_,hp⟩
 .refine BKs.keep (h.pm.book.wait hw) fun g hg=>bhs w ⟨P,6,none⟩ _ g fun e=>h.pm.own (by rw[show P=g from e.symm];exact hg)
 .exact h.pv.keep rfl (by simp only[zbm,zax];omega) h.pv.gd.ref
theorem pturn0_any (P:Nat)(b:Bk)(c:Cf)(m:Mk)(s0:Nat)(w:World)(R:EW)(h:PS w P b c m s0)(hph:m.phase=0)
  (hR: ∀b' v E w',PS w' P b' c (zbj m) s0->(∀g,b'.F g->b.F g)->Tch (Own P b) w w'->Evs w' w.heap.size v E->outs (zbj m)=outs m++E->E.length<=1002000000->R (.returned v) w'):
  Calls Tryz.prog 118 #[.pointer (some ⟨P,0,none⟩)] w R:=by
 have HR:=zl hR
 have HP:=zl h
 have Hph:=zl hph
 have c6:=h.pm.cells 6 (.int .i64 (m.phase:Nat)) rfl
 rw[hph] at c6
 have hlP:=h.ltP
 clear hR h hph
 go_enter Tryz.func118,Tryz.ntmps118
 go_wp2_with fail
 refine zdw P _ _ c6 ?_
 intro w1 hb1
 have HP1:=zl (HP.o.ext hb1)
 have Hb1:=zl hb1
 clear hb1 c6
 unfold zay fnv
 have f5:=rfield5 (.func (.func 123) #[] #[]) (.func (.func 124) #[] #[]) (.func (.func 125) #[] #[]) (.func (.func 126) #[] #[]) (.func (.func 127) #[] #[]) (.func (.func 128) #[] #[]) (.func (.func 129) #[] #[])
 have e5:=enters_of Tryz.func128 (by kernel_rfl) rfl
 go_wp2_with fail
 refine zi4 P b c m s0 _ _ HP1.o ?_
 intro b2 v2 E2 w2 hps2 hbf2 ht2 hev2 hou2 hel2
 have hp2:(zbu m).phase=0:=by rw[zec HP.o.pv.gd,Hph.o]
 have hps3:=hps2.turned (ph:=1) (by intro o;rw[hp2];exact wt_zero o) (by omega)
 have c6:=hps2.pm.cells 6 (.int .i64 ((zbu m).phase:Nat)) rfl
 rw[hp2] at c6
 have q6:=hps2.pm.free 6
 have hlP2:=hps2.ltP
 have HPS3:=zl hps3
 have Hbf2:=zl hbf2
 have hlow: ∀g,Own P b g->g<w.heap.size:=fun g hg=>HP.o.lt hg
 have Hlow:=zl hlow
 have hw1:=Hb1.o.size
 have Ht3:Hid (Tch (Own P b) w (w2.setCell ⟨P,6,none⟩ (.int .i64 (1:Nat)))):=((Tch.of Hb1.o).trans ht2).trans (ze6 (.inl rfl))
 have Hev3:Hid (Evs (w2.setCell ⟨P,6,none⟩ (.int .i64 (1:Nat))) w1.heap.size v2 E2):=hev2.keep fun g hg hl=>bhs w2 ⟨P,6,none⟩ _ g (by show g≠P;omega)
 have Hou2:=zl hou2
 have d6:(w2.setCell ⟨P,6,none⟩ (.int .i64 (1:Nat))).cell? ⟨P,6,none⟩=some (.int .i64 1):=World.cell?_setCell_same _ _ _ c6
 obtain ⟨ea,ec,rfl⟩:=zae hev2
 have hs12:=ht2.size
 clear hps2 hps3 hbf2 ht2 hev2 hou2 hlow hp2 f5 e5
 generalize hW:w2.setCell ⟨P,6,none⟩ (.int .i64 (1:Nat))=W at *
 go_wp2_with (first|(at_builtin;refine Shut.out ?_)|go_in)
 refine⟨?_⟩
 have hW':w2.setCell ⟨P,6,none⟩ (.int .i64 1)=W:=hW
 rw[hW']
 have hsW:w2.heap.size=W.heap.size:=by rw[←hW];simp[World.setCell]
 have hszW:w1.heap.size<=W.heap.size:=by have:=Hev3.o;rw[←hsW];exact hs12
 clear hW hW' c6 q6
 refine za7 w1.heap.size 10 80 E2.length (.slice ea E2.length ec) (evcs E2) _ Hev3.o hszW Tryz.infoEventR rfl (by decide) rfl ?_ (by omega) (by decide) _ _ 32 Tryz.underlying32 rfl rfl rfl ?_ ?_
 .exact zhc (mkev 8 0 0 0 0 0 0 0 0 1)
 .simp[Act.eval,hsW]
 intro v4 w4 hG
 have hev4:Evs w4 w1.heap.size v4 (E2++[mkev 8 0 0 0 0 0 0 0 0 1]):=Evs.push hG
 have hps4:PS w4 P b2 c (zbm (zbu m) 1) s0:=HPS3.o.grown hG.grown Hev3.o fun g hg=>by
  rcases hg with e|e
  .omega
  .have:=Hlow.o g (.inr (Hbf2.o g e));omega
 have h45:W.heap.size<=w4.heap.size:=hG.grown.size
 have ht4:Tch (Own P b) w w4:=zdh _ w Ht3.o hG.grown Hev3.o hw1
 have c6:=hps4.pm.cells 6 (.int .i64 (1:Nat)) rfl
 have HPS4:=zl hps4
 have Hev4:=zl hev4
 have Ht4:=zl ht4
 clear hG hev4 hps4 ht4 HPS3 Hev3 Ht3 d6
 generalize hE4:E2++[mkev 8 0 0 0 0 0 0 0 0 1]=E4 at *
 have hel4:E4.length<=1000000002:=by rw[←hE4];simp;omega
 obtain ⟨a4,k4,rfl⟩:=zae Hev4.o
 go_wp2_with fail
 refine zde P _ _ c6 ?_
 intro w5 hb5
 have h45:W.heap.size<=w5.heap.size:=llt h45 hb5.size
 have HPS5:=zl (HPS4.o.ext hb5)
 have Hev5:=zl (Hev4.o.ext hb5)
 have Ht5:Hid (Tch (Own P b) w w5):=Ht4.o.trans (Tch.of hb5)
 clear hb5 c6 HPS4 Hev4 Ht4
 unfold zay fnv
 have f6:=rfield6 (.func (.func 130) #[] #[]) (.func (.func 131) #[] #[]) (.func (.func 125) #[] #[]) (.func (.func 132) #[] #[]) (.func (.func 129) #[] #[]) (.func (.func 129) #[] #[]) (.func (.func 133) #[] #[])
 have e6:=enters_of Tryz.func133 (by kernel_rfl) rfl
 go_wp2_with fail
 refine pcancelWP_any P b2 c (zbm (zbu m) 1) s0 _ _ HPS5.o rfl ?_
 intro b6 v6 E6 w6 hps6 hbf6 ht6 hev6 hou6 hel6
 have hlow2: ∀g,Own P b2 g->g<w.heap.size:=fun g hg=>by
  rcases hg with e|e
  .exact e▸hlP
  .exact Hlow.o g (.inr (Hbf2.o g e))
 have hev6':Evs w6 w1.heap.size (.slice a4 E4.length k4) E4:=Hev5.o.keep fun g hg hl=>ht6.blk g hl fun e=>by have:=hlow2 g e;omega
 have ht6':Tch (Own P b) w w6:=Ht5.o.trans (ht6.own fun g hg=>by
  rcases hg with e|e
  .exact .inl e
  .exact .inr (Hbf2.o g e))
 have hs6:w1.heap.size<=w6.heap.size:=llt (llt hszW h45) ht6.size
 obtain ⟨vj,wj,hj,hjE,hjg⟩:=zd0 32 hev6' (hev6.low (Nat.zero_le _)) (by omega) hs6
 have hfin:Hid (R (.returned vj) wj):=by
  refine HR.o b6 vj (E4++E6) wj ?_ (fun g hg=>Hbf2.o g (hbf6 g hg)) (zdh _ w ht6' hjg hev6' hw1) (hjE.low hw1) ?_ (by simp;omega)
  .rw[zhg HP.o.pv.gd Hph.o]
   refine hps6.grown hjg hev6' fun g hg=>?_
   have:g<w.heap.size:=by
    rcases hg with e|e
    .exact e▸hlP
    .exact hlow2 g (.inr (hbf6 g e))
   omega
  .rw[zhg HP.o.pv.gd Hph.o,hou6,zgz,Hou2.o,←hE4]
   simp[List.append_assoc]
 obtain ⟨a6,k6,rfl⟩:=zae hev6
 clear hps6 hbf6 ht6 hev6 hou6 hev6' ht6' hjE hjg HPS5 Hev5 Ht5 f6 e6
 go_wp2_with (at_builtin;refine wpList_append_run _ rfl _ _ _ _ rfl _ _ rfl rfl _ _ hj ?_)
 exact hfin.o
theorem pturn2_any (P:Nat)(b:Bk)(c:Cf)(m:Mk)(s0:Nat)(w:World)(R:EW)(h:PS w P b c m s0)(hph:m.phase=2)
  (hR: ∀b' v E w',PS w' P b' c (zbj m) s0->(∀g,b'.F g->b.F g)->Tch (Own P b) w w'->Evs w' w.heap.size v E->outs (zbj m)=outs m++E->E.length<=1002000000->R (.returned v) w'):
  Calls Tryz.prog 118 #[.pointer (some ⟨P,0,none⟩)] w R:=by
 have HR:=zl hR
 have HP:=zl h
 have Hph:=zl hph
 have c6:=h.pm.cells 6 (.int .i64 (m.phase:Nat)) rfl
 rw[hph] at c6
 have hlP:=h.ltP
 clear hR h hph
 go_enter Tryz.func118,Tryz.ntmps118
 go_wp2_with fail
 refine zdd P _ _ c6 ?_
 intro w1 hb1
 have HP1:=zl (HP.o.ext hb1)
 have Hb1:=zl hb1
 clear hb1 c6
 unfold zay fnv
 have f5:=rfield5 (.func (.func 134) #[] #[]) (.func (.func 131) #[] #[]) (.func (.func 135) #[] #[]) (.func (.func 126) #[] #[]) (.func (.func 127) #[] #[]) (.func (.func 128) #[] #[]) (.func (.func 136) #[] #[])
 have e5:=enters_of Tryz.func128 (by kernel_rfl) rfl
 go_wp2_with fail
 refine zi4 P b c m s0 _ _ HP1.o ?_
 intro b2 v2 E2 w2 hps2 hbf2 ht2 hev2 hou2 hel2
 have hp2:(zbu m).phase=2:=by rw[zec HP.o.pv.gd,Hph.o]
 have hps3:=hps2.turned (ph:=3) (by intro o;rw[hp2];exact wt_two o) (by omega)
 have c6:=hps2.pm.cells 6 (.int .i64 ((zbu m).phase:Nat)) rfl
 rw[hp2] at c6
 have q6:=hps2.pm.free 6
 have hlP2:=hps2.ltP
 have HPS3:=zl hps3
 have Hbf2:=zl hbf2
 have hlow: ∀g,Own P b g->g<w.heap.size:=fun g hg=>HP.o.lt hg
 have Hlow:=zl hlow
 have hw1:=Hb1.o.size
 have Ht3:Hid (Tch (Own P b) w (w2.setCell ⟨P,6,none⟩ (.int .i64 (3:Nat)))):=((Tch.of Hb1.o).trans ht2).trans (ze6 (.inl rfl))
 have Hev3:Hid (Evs (w2.setCell ⟨P,6,none⟩ (.int .i64 (3:Nat))) w1.heap.size v2 E2):=hev2.keep fun g hg hl=>bhs w2 ⟨P,6,none⟩ _ g (by show g≠P;omega)
 have Hou2:=zl hou2
 have d6:(w2.setCell ⟨P,6,none⟩ (.int .i64 (3:Nat))).cell? ⟨P,6,none⟩=some (.int .i64 3):=World.cell?_setCell_same _ _ _ c6
 obtain ⟨ea,ec,rfl⟩:=zae hev2
 have hs12:=ht2.size
 clear hps2 hps3 hbf2 ht2 hev2 hou2 hlow hp2 f5 e5
 generalize hW:w2.setCell ⟨P,6,none⟩ (.int .i64 (3:Nat))=W at *
 go_wp2_with (first|(at_builtin;refine Shut.out ?_)|go_in)
 refine⟨?_⟩
 have hW':w2.setCell ⟨P,6,none⟩ (.int .i64 3)=W:=hW
 rw[hW']
 have hsW:w2.heap.size=W.heap.size:=by rw[←hW];simp[World.setCell]
 have hszW:w1.heap.size<=W.heap.size:=by have:=Hev3.o;rw[←hsW];exact hs12
 clear hW hW' c6 q6
 refine za7 w1.heap.size 10 80 E2.length (.slice ea E2.length ec) (evcs E2) _ Hev3.o hszW Tryz.infoEventR rfl (by decide) rfl ?_ (by omega) (by decide) _ _ 32 Tryz.underlying32 rfl rfl rfl ?_ ?_
 .exact zhc (mkev 8 0 0 0 0 0 0 0 0 3)
 .simp[Act.eval,hsW]
 intro v4 w4 hG
 have hev4:Evs w4 w1.heap.size v4 (E2++[mkev 8 0 0 0 0 0 0 0 0 3]):=Evs.push hG
 have hps4:PS w4 P b2 c (zbm (zbu m) 3) s0:=HPS3.o.grown hG.grown Hev3.o fun g hg=>by
  rcases hg with e|e
  .omega
  .have:=Hlow.o g (.inr (Hbf2.o g e));omega
 have h45:W.heap.size<=w4.heap.size:=hG.grown.size
 have ht4:Tch (Own P b) w w4:=zdh _ w Ht3.o hG.grown Hev3.o hw1
 have c6:=hps4.pm.cells 6 (.int .i64 (3:Nat)) rfl
 have HPS4:=zl hps4
 have Hev4:=zl hev4
 have Ht4:=zl ht4
 clear hG hev4 hps4 ht4 HPS3 Hev3 Ht3 d6
 generalize hE4:E2++[mkev 8 0 0 0 0 0 0 0 0 3]=E4 at *
 have hel4:E4.length<=1000000002:=by rw[←hE4];simp;omega
 obtain ⟨a4,k4,rfl⟩:=zae Hev4.o
 go_wp2_with fail
 refine zfq P _ _ c6 ?_
 intro w5 hb5
 have h45:W.heap.size<=w5.heap.size:=llt h45 hb5.size
 have HPS5:=zl (HPS4.o.ext hb5)
 have Hev5:=zl (Hev4.o.ext hb5)
 have Ht5:Hid (Tch (Own P b) w w5):=Ht4.o.trans (Tch.of hb5)
 clear hb5 c6 HPS4 Hev4 Ht4
 unfold zay fnv
 have f6:=rfield6 (.func (.func 137) #[] #[]) (.func (.func 135) #[] #[]) (.func (.func 135) #[] #[]) (.func (.func 126) #[] #[]) (.func (.func 129) #[] #[]) (.func (.func 129) #[] #[]) (.func (.func 138) #[] #[])
 have e6:=enters_of Tryz.func138 (by kernel_rfl) rfl
 go_wp2_with fail
 refine pcancelAll_any P b2 c (zbm (zbu m) 3) s0 _ _ HPS5.o rfl ?_
 intro b6 v6 E6 w6 hps6 hbf6 ht6 hev6 hou6 hel6
 have hlow2: ∀g,Own P b2 g->g<w.heap.size:=fun g hg=>by
  rcases hg with e|e
  .exact e▸hlP
  .exact Hlow.o g (.inr (Hbf2.o g e))
 have hev6':Evs w6 w1.heap.size (.slice a4 E4.length k4) E4:=Hev5.o.keep fun g hg hl=>ht6.blk g hl fun e=>by have:=hlow2 g e;omega
 have ht6':Tch (Own P b) w w6:=Ht5.o.trans (ht6.own fun g hg=>by
  rcases hg with e|e
  .exact .inl e
  .exact .inr (Hbf2.o g e))
 have hs6:w1.heap.size<=w6.heap.size:=llt (llt hszW h45) ht6.size
 obtain ⟨vj,wj,hj,hjE,hjg⟩:=zd0 32 hev6' (hev6.low (Nat.zero_le _)) (by omega) hs6
 have hfin:Hid (R (.returned vj) wj):=by
  refine HR.o b6 vj (E4++E6) wj ?_ (fun g hg=>Hbf2.o g (hbf6 g hg)) (zdh _ w ht6' hjg hev6' hw1) (hjE.low hw1) ?_ (by simp;omega)
  .rw[zjo HP.o.pv.gd Hph.o]
   refine hps6.grown hjg hev6' fun g hg=>?_
   have:g<w.heap.size:=by
    rcases hg with e|e
    .exact e▸hlP
    .exact hlow2 g (.inr (hbf6 g e))
   omega
  .rw[zjo HP.o.pv.gd Hph.o,hou6,zgz,Hou2.o,←hE4]
   simp[List.append_assoc]
 obtain ⟨a6,k6,rfl⟩:=zae hev6
 clear hps6 hbf6 ht6 hev6 hou6 hev6' ht6' hjE hjg HPS5 Hev5 Ht5 f6 e6
 go_wp2_with (at_builtin;refine wpList_append_run _ rfl _ _ _ _ rfl _ _ rfl rfl _ _ hj ?_)
 exact hfin.o
theorem pturn1_any (P:Nat)(b:Bk)(c:Cf)(m:Mk)(s0:Nat)(w:World)(R:EW)(h:PS w P b c m s0)(hph:m.phase=1)
  (hR: ∀b' v E w',PS w' P b' c (zbj m) s0->(∀g,b'.F g->b.F g)->Tch (Own P b) w w'->Evs w' w.heap.size v E->outs (zbj m)=outs m++E->E.length<=1002000000->R (.returned v) w'):
  Calls Tryz.prog 118 #[.pointer (some ⟨P,0,none⟩)] w R:=by
 have HR:=zl hR
 have HP:=zl h
 have Hph:=zl hph
 have c6:=h.pm.cells 6 (.int .i64 (m.phase:Nat)) rfl
 rw[hph] at c6
 have hlP:=h.ltP
 clear hR h hph
 go_enter Tryz.func118,Tryz.ntmps118
 go_wp2_with fail
 refine zde P _ _ c6 ?_
 intro w1 hb1
 have HP1:=zl (HP.o.ext hb1)
 have Hb1:=zl hb1
 clear hb1 c6
 unfold zay fnv
 have f5:=rfield5 (.func (.func 130) #[] #[]) (.func (.func 131) #[] #[]) (.func (.func 125) #[] #[]) (.func (.func 132) #[] #[]) (.func (.func 129) #[] #[]) (.func (.func 129) #[] #[]) (.func (.func 133) #[] #[])
 have e5:=enters_of Tryz.func129 (by kernel_rfl) rfl
 go_wp2_with fail
 refine zfb _ _ _ ?_
 have c6:=HP1.o.pm.cells 6 (.int .i64 (m.phase:Nat)) rfl
 rw[Hph.o] at c6
 have q6:=HP1.o.pm.free 6
 have hlP2:=HP1.o.ltP
 have hw1:=Hb1.o.size
 have hne: ∀g,b.F g->g≠P:=fun g hg e=>HP1.o.pm.own (e▸hg)
 have HPM3:Hid (PM (w1.setCell ⟨P,6,none⟩ (.int .i64 (2:Nat))) P b c {zbm m 2 with seq:=s0} 1):=by
  refine⟨blk_phase (m:={m with seq:=s0}) HP1.o.pm.blk 2,?_,HP1.o.pm.own⟩
  have hB:=HP1.o.pm.book
  rw[Hph.o] at hB
  exact hB.keep fun g hg=>bhs w1 ⟨P,6,none⟩ _ g (hne g hg)
 have HV:Hid (Pv b (zbm m 2)):=HP1.o.pv.keep rfl (by simp only[zbm,zax];omega) HP1.o.pv.gd.ref
 have hlow: ∀g,Own P b g->g<w.heap.size:=fun g hg=>HP.o.lt hg
 have Hlow:=zl hlow
 have Ht3:Hid (Tch (Own P b) w (w1.setCell ⟨P,6,none⟩ (.int .i64 (2:Nat)))):=(Tch.of Hb1.o).trans (ze6 (.inl rfl))
 have d6:(w1.setCell ⟨P,6,none⟩ (.int .i64 (2:Nat))).cell? ⟨P,6,none⟩=some (.int .i64 2):=World.cell?_setCell_same _ _ _ c6
 clear hlow f5 e5 hne
 generalize hW:w1.setCell ⟨P,6,none⟩ (.int .i64 (2:Nat))=W at *
 go_wp2_with (first|(at_builtin;refine Shut.out ?_)|go_in)
 refine⟨?_⟩
 have hW':w1.setCell ⟨P,6,none⟩ (.int .i64 2)=W:=hW
 rw[hW']
 have hsW:w1.heap.size=W.heap.size:=by rw[←hW];simp[World.setCell]
 have hszW:w1.heap.size<=W.heap.size:=Nat.le_of_eq hsW
 clear hW hW' c6 q6
 have Hev3:Hid (Evs W w1.heap.size (.slice none 0 0) []):=Evs.nil _ _
 refine za7 w1.heap.size 10 80 0 (.slice none 0 0) [] _ Hev3.o hszW Tryz.infoEventR rfl (by decide) rfl ?_ (by omega) (by decide) _ _ 32 Tryz.underlying32 rfl rfl rfl ?_ ?_
 .exact zhc (mkev 8 0 0 0 0 0 0 0 0 2)
 .simp[Act.eval,hsW]
 intro v4 w4 hG
 have hev4:Evs w4 w1.heap.size v4 ([]++[mkev 8 0 0 0 0 0 0 0 0 2]):=Evs.push (E:=[]) hG
 have hk4: ∀g,Own P b g->w4.heap[g]?=W.heap[g]?:=fun g hg=>hG.grown.block g (by have:=Hlow.o g hg;omega) (by simp[Value.ownBlock])
 have hpm4:PM w4 P b c {zbm m 2 with seq:=s0} 1:=⟨(hk4 P (.inl rfl)).trans HPM3.o.blk,HPM3.o.book.keep fun g hg=>hk4 g (.inr hg),HPM3.o.own⟩
 have h45:W.heap.size<=w4.heap.size:=hG.grown.size
 have ht4:Tch (Own P b) w w4:=zdh _ w Ht3.o hG.grown Hev3.o hw1
 have c6:=hpm4.cells 6 (.int .i64 (2:Nat)) rfl
 have HPM4:=zl hpm4
 have Hev4:=zl hev4
 have Ht4:=zl ht4
 clear hG hev4 hpm4 ht4 HPM3 Hev3 Ht3 d6 hk4
 generalize hE4:[]++[mkev 8 0 0 0 0 0 0 0 0 2]=E4 at *
 have hel4:E4.length<=1000000002:=by rw[←hE4];simp
 obtain ⟨a4,k4,rfl⟩:=zae Hev4.o
 go_wp2_with fail
 refine zdd P _ _ c6 ?_
 intro w5 hb5
 have h45:W.heap.size<=w5.heap.size:=llt h45 hb5.size
 have HPM5:=zl (HPM4.o.ext hb5)
 have Hev5:=zl (Hev4.o.ext hb5)
 have Ht5:Hid (Tch (Own P b) w w5):=Ht4.o.trans (Tch.of hb5)
 clear hb5 c6 HPM4 Hev4 Ht4
 unfold zay fnv
 have f6:=rfield6 (.func (.func 134) #[] #[]) (.func (.func 131) #[] #[]) (.func (.func 135) #[] #[]) (.func (.func 126) #[] #[]) (.func (.func 127) #[] #[]) (.func (.func 128) #[] #[]) (.func (.func 136) #[] #[])
 have e6:=enters_of Tryz.func136 (by kernel_rfl) rfl
 go_wp2_with fail
 refine prelease_any P b c (zbm m 2) s0 1 _ _ HPM5.o HV.o rfl ?_
 intro v6 w6 hps6 ht6 hev6
 have hev6':Evs w6 w1.heap.size (.slice a4 E4.length k4) E4:=Hev5.o.keep fun g hg hl=>ht6.blk g hl fun e=>by have:=Hlow.o g e;omega
 have ht6':Tch (Own P b) w w6:=Ht5.o.trans ht6
 have hs6:w1.heap.size<=w6.heap.size:=llt (llt hszW h45) ht6.size
 obtain ⟨vj,wj,hj,hjE,hjg⟩:=zd0 32 hev6' (hev6.low (Nat.zero_le _)) (by simp;omega) hs6
 have hfin:Hid (R (.returned vj) wj):=by
  refine HR.o b vj (E4++[zgy 6 (zbm m 2)]) wj ?_ (fun g hg=>hg) (zdh _ w ht6' hjg hev6' hw1) (hjE.low hw1) ?_ (by simp;omega)
  .rw[zjp Hph.o]
   refine(hps6.tell _).grown hjg hev6' fun g hg=>?_
   have:=Hlow.o g hg
   omega
  .rw[zjp Hph.o,zef,zgz,←hE4]
   simp[List.append_assoc]
 obtain ⟨a6,k6,rfl⟩:=zae hev6
 clear hps6 ht6 hev6 hev6' ht6' hjE hjg HPM5 Hev5 Ht5 f6 e6
 simp only[List.length_cons,List.length_nil,Nat.zero_add] at hj
 go_wp2_with (at_builtin;refine wpList_append_run _ rfl _ _ _ _ rfl _ _ rfl rfl _ _ hj ?_)
 exact hfin.o
theorem zki (P:Nat)(b:Bk)(c:Cf)(m:Mk)(s0:Nat)(w:World)(R:EW)(h:PS w P b c m s0)(hph:m.phase<=2)
  (hR: ∀b' v E w',PS w' P b' c (zbj m) s0->(∀g,b'.F g->b.F g)->Tch (Own P b) w w'->Evs w' w.heap.size v E->outs (zbj m)=outs m++E->E.length<=1002000000->R (.returned v) w'):
  Calls Tryz.prog 118 #[.pointer (some ⟨P,0,none⟩)] w R:=by
 have:m.phase=0\/m.phase=1\/m.phase=2:=by omega
 rcases this with e|e|e
 .exact pturn0_any P b c m s0 w R h e hR
 .exact pturn1_any P b c m s0 w R h e hR
 .exact pturn2_any P b c m s0 w R h e hR
end
section
open Go.RowKit Go.Shelf Go.Lib
variable {m:Mk}
theorem zh5 (hg:Gd m)(h:m.phase<=2):(zbj m).phase=m.phase+1:=by
 have:m.phase=0\/m.phase=1\/m.phase=2:=by omega
 rcases this with e|e|e
 .rw[zhg hg e,zer,e];rfl
 .rw[zjp e,e];rfl
 .rw[zjo hg e,zer,e];rfl
theorem turns_go (c:Cf)(t f:Nat)(m:Mk)(h:m.phase<3)(hn:zb3 c m.phase<=t):za2 c t (f+1) m=za2 c t f (zbj m):=by
 conv=>lhs;unfold za2
 rw[if_pos ⟨h,hn⟩]
theorem zgi (c:Cf)(t f:Nat)(m:Mk)(h: ¬(m.phase<3/\zb3 c m.phase<=t)):za2 c t f m=m:=by
 cases f with
 |zero=>rfl
 |succ f=>
  unfold za2
  rw[if_neg h]
def cfv (c:Cf):Value:= .agg #[.int .i64 c.ref,.int .i64 c.opn,.int .i64 c.cls,.int .i64 c.fin,.int .i64 c.orders,.int .i64 c.total]
theorem prl1_any (c:Cf)(w:World)(R:EW)(hR: ∀w',Below w.heap.size w w'->R (.returned (.int .i64 (c.opn:Nat))) w'):Calls Tryz.prog 123 #[cfv c] w R:=by
 have HR:=zl hR
 clear hR
 unfold cfv
 go_enter Tryz.func123,Tryz.ntmps123
 go_wp2_with fail
 exact HR.o _ (zac _ _)
theorem prl2_any (c:Cf)(w:World)(R:EW)(hR: ∀w',Below w.heap.size w w'->R (.returned (.int .i64 (c.cls:Nat))) w'):Calls Tryz.prog 130 #[cfv c] w R:=by
 have HR:=zl hR
 clear hR
 unfold cfv
 go_enter Tryz.func130,Tryz.ntmps130
 go_wp2_with fail
 exact HR.o _ (zac _ _)
theorem prl3_any (c:Cf)(w:World)(R:EW)(hR: ∀w',Below w.heap.size w w'->R (.returned (.int .i64 (c.fin:Nat))) w'):Calls Tryz.prog 134 #[cfv c] w R:=by
 have HR:=zl hR
 clear hR
 unfold cfv
 go_enter Tryz.func134,Tryz.ntmps134
 go_wp2_with fail
 exact HR.o _ (zac _ _)
theorem prl4_any (c:Cf)(w:World)(R:EW)(hR: ∀w',Below w.heap.size w w'->R (.returned (.int .i64 9223372036854775807)) w'):Calls Tryz.prog 137 #[cfv c] w R:=by
 have HR:=zl hR
 clear hR
 unfold cfv
 go_enter Tryz.func137,Tryz.ntmps137
 go_wp2_with fail
 exact HR.o _ (zac _ _)
def phOf (W:World) (P:Nat):Nat:=match W.cell? ⟨P,6,none⟩ with|some (.int _ n)=>n.toNat|_=>0
theorem PS.phOf_eq {w:World}{P:Nat}{b:Bk}{c:Cf}{s0:Nat}(h:PS w P b c m s0):phOf w P=m.phase:=by
 unfold phOf
 rw[h.pm.cells 6 (.int .i64 (m.phase:Nat)) rfl]
 simp
theorem ptick_any (P:Nat)(b:Bk)(c:Cf)(m:Mk)(s0 t:Nat)(w:World)(R:EW)(h:PS w P b c m s0)(ht:t<=4294967295)
  (hR: ∀b' v E w',PS w' P b' c (zdu c m t) s0->(∀g,b'.F g->b.F g)->Tch (Own P b) w w'->Evs w' w.heap.size v E->outs (zdu c m t)=outs m++E->E.length<=3006000000->R (.returned v) w'):
  Calls Tryz.prog 95 #[.pointer (some ⟨P,0,none⟩),.int .i64 (t:Nat)] w R:=by
 have HR:=zl hR
 have HP:=zl h
 have c7:=h.pm.cells 7 (.int .i64 (m.time:Nat)) rfl
 have q7:=h.pm.free 7
 have hlP:=h.ltP
 clear hR h
 unfold zdu at HR
 by_cases htm:t<=m.time
 .have htm':(t:Int)<=(m.time:Int):=by omega
  simp only[if_pos htm] at HR
  have hfin:Hid (R (.returned (.slice none 0 0)) w):=HR.o b _ [] w HP.o (fun _ h=>h) (Tch.refl _ _) (Evs.nil _ _) (by simp) (by simp)
  clear HR HP
  go_enter Tryz.func95,Tryz.ntmps95
  go_wp2_with fail
  exact hfin.o
 .have htm': ¬((t:Int)<=(m.time:Int)):=by omega
  simp only[if_neg htm] at HR
  have hb7:=blk_time (m:={m with seq:=s0}) HP.o.pm.blk t
  have hps0:PS (w.setCell ⟨P,7,none⟩ (.int .i64 (t:Nat))) P b c {m with time:=t} s0:=by
   refine⟨⟨hb7,?_,HP.o.pm.own⟩,HP.o.pv.keep rfl HP.o.pv.gd.seq HP.o.pv.gd.ref,HP.o.ph⟩
   exact HP.o.pm.book.keep fun g hg=>bhs w ⟨P,7,none⟩ _ g fun e=>HP.o.pm.own (by rw[show P=g from e.symm];exact hg)
  have HPS0:=zl hps0
  have Ht0:Hid (Tch (Own P b) w (w.setCell ⟨P,7,none⟩ (.int .i64 (t:Nat)))):=ze6 (.inl rfl)
  have hs0:(w.setCell ⟨P,7,none⟩ (.int .i64 (t:Nat))).heap.size=w.heap.size:=by simp[World.setCell]
  have hlow: ∀g,Own P b g->g<w.heap.size:=fun g hg=>HP.o.lt hg
  have Hlow:=zl hlow
  clear hps0 hb7 hlow
  go_enter Tryz.func95,Tryz.ntmps95
  go_wp2_with fail
  generalize w.setCell ⟨P,7,none⟩ (.int .i64 (t:Nat))=W at *
  clear c7 q7
  generalize hm0:({m with time:=t}:Mk)=m0 at *
  have Ho0:Hid (outs m0=outs m):=by rw[←hm0];exact rfl
  go_loopw [5] (fun u wr=> ∃(mc:Mk) (bt:Bk) (E:List (Nat->Int)) (f:Nat),za2 c t 3 m0=za2 c t f mc/\3<=mc.phase+f/\PS wr P bt c mc s0/\(∀g,bt.F g->b.F g)/\Tch (Own P b) w wr/\Evs wr w.heap.size u E/\outs mc=outs m++E/\E.length+(3-mc.phase) * 1002000000<=3006000000) (fun _ wr=>3-phOf wr P)
  case atStart=>exact⟨m0,b,[],3,rfl,by omega,HPS0.o,fun _ h=>h,Ht0.o,Evs.nil _ _,by rw[Ho0.o];simp,by simp;omega⟩
  case round=>
   obtain ⟨mc,bt,E,f,hf,hpf,hps,hbf,htc,hev,hou,hel⟩:=hrel
   have Hf:=zl hf
   have HPS:=zl hps
   have Hbf:=zl hbf
   have Htc:=zl htc
   have Hev:=zl hev
   have Hou:=zl hou
   have hp3:=hps.ph
   have hlr:=hps.ltP
   have c0:wr.drew.cell? ⟨P,0,none⟩=some (.int .i64 (c.ref:Nat)):=hps.pm.cells 0 _ rfl
   have c1:wr.drew.cell? ⟨P,1,none⟩=some (.int .i64 (c.opn:Nat)):=hps.pm.cells 1 _ rfl
   have c2:wr.drew.cell? ⟨P,2,none⟩=some (.int .i64 (c.cls:Nat)):=hps.pm.cells 2 _ rfl
   have c3:wr.drew.cell? ⟨P,3,none⟩=some (.int .i64 (c.fin:Nat)):=hps.pm.cells 3 _ rfl
   have c4:wr.drew.cell? ⟨P,4,none⟩=some (.int .i64 (c.orders:Nat)):=hps.pm.cells 4 _ rfl
   have c5:wr.drew.cell? ⟨P,5,none⟩=some (.int .i64 (c.total:Nat)):=hps.pm.cells 5 _ rfl
   have c6:wr.drew.cell? ⟨P,6,none⟩=some (.int .i64 (mc.phase:Nat)):=hps.pm.cells 6 _ rfl
   obtain ⟨ua,uc,rfl⟩:=zae hev
   clear hf hps hbf htc hev hou
   have hcase:mc.phase=0\/mc.phase=1\/mc.phase=2\/mc.phase=3:=by omega
   rcases hcase with hph|hph|hph|hph
   .rw[hph] at c6
    have f0:=rfield0 (.func (.func 123) #[] #[]) (.func (.func 124) #[] #[]) (.func (.func 125) #[] #[]) (.func (.func 126) #[] #[]) (.func (.func 127) #[] #[]) (.func (.func 128) #[] #[]) (.func (.func 129) #[] #[])
    have e0:=enters_of Tryz.func123 (by kernel_rfl) rfl
    go_wp2_with fail
    go_region_held3 (fun w'=>(w'.cell? ⟨P,0,none⟩=some (.int .i64 (c.ref:Nat))/\w'.cell? ⟨P,1,none⟩=some (.int .i64 (c.opn:Nat))/\w'.cell? ⟨P,2,none⟩=some (.int .i64 (c.cls:Nat))/\w'.cell? ⟨P,3,none⟩=some (.int .i64 (c.fin:Nat))/\w'.cell? ⟨P,4,none⟩=some (.int .i64 (c.orders:Nat))/\w'.cell? ⟨P,5,none⟩=some (.int .i64 (c.total:Nat))/\w'.cell? ⟨P,6,none⟩=some (.int .i64 0))/\Below wr.heap.size wr w') (first|assumption|exact⟨⟨c0,c1,c2,c3,c4,c5,c6⟩,br.drew⟩) (first|(go_at_call 97;obtain ⟨⟨x0,x1,x2,x3,x4,x5,x6⟩,hq2⟩:(_/\Below wr.heap.size wr _):=(by assumption);refine zdw P _ _ x6 ?_;intro wq hbq;unfold zay fnv;have hQ:=And.intro (⟨zaa hbq x0,zaa hbq x1,zaa hbq x2,zaa hbq x3,zaa hbq x4,zaa hbq x5,zaa hbq x6⟩:(_/\_/\_/\_/\_/\_/\_)) (zad hq2 hbq);clear hq2 hbq x0 x1 x2 x3 x4 x5 x6)|(go_at_call 123;obtain ⟨⟨x0,x1,x2,x3,x4,x5,x6⟩,hq2⟩:(_/\Below wr.heap.size wr _):=(by assumption);refine prl1_any c _ _ ?_;intro wq hbq;have hQ:=And.intro (⟨zaa hbq x0,zaa hbq x1,zaa hbq x2,zaa hbq x3,zaa hbq x4,zaa hbq x5,zaa hbq x6⟩:(_/\_/\_/\_/\_/\_/\_)) (zad hq2 hbq);clear hq2 hbq x0 x1 x2 x3 x4 x5 x6))
    have hbw:Below wr.heap.size wr wq:=hQ.2
    have HPSq:=zl (HPS.o.ext hbw)
    have Htcq:Hid (Tch (Own P b) w wq):=Htc.o.trans (Tch.of hbw)
    have Hevq:=zl (Hev.o.ext hbw)
    clear hQ hbw f0 e0 c0 c1 c2 c3 c4 c5 c6
    by_cases hle:c.opn<=t
    .have hnext:zb3 c mc.phase<=t:=by rw[hph];exact hle
     obtain ⟨f',rfl⟩: ∃f',f=f'+1:=⟨f-1,by omega⟩
     have Hf2:Hid (za2 c t 3 m0=za2 c t f' (zbj mc)):=by
      show za2 c t 3 m0=za2 c t f' (zbj mc)
      rw[Hf.o]
      exact turns_go c t f' mc (by omega) hnext
     have hpt:=zh5 HPSq.o.pv.gd (by omega)
     have hmeas:phOf wr P=mc.phase:=HPS.o.phOf_eq
     go_wp2_with fail
     refine zki P bt c mc s0 _ _ HPSq.o (by omega) ?_
     intro b6 v6 E6 w6 hps6 hbf6 ht6 hev6 hou6 hel6
     have hlow2: ∀g,Own P bt g->g<w.heap.size:=fun g hg=>by
      rcases hg with e|e
      .exact e▸hlP
      .exact Hlow.o g (.inr (Hbf.o g e))
     have hev6':Evs w6 w.heap.size (.slice ua E.length uc) E:=Hevq.o.keep fun g hg hl=>ht6.blk g hl fun e=>by have:=hlow2 g e;omega
     have ht6':Tch (Own P b) w w6:=Htcq.o.trans (ht6.own fun g hg=>by
      rcases hg with e|e
      .exact .inl e
      .exact .inr (Hbf.o g e))
     have hs6:w.heap.size<=w6.heap.size:=ht6'.size
     obtain ⟨vj,wj,hj,hjE,hjg⟩:=zd0 32 hev6' (hev6.low (Nat.zero_le _)) (by omega) hs6
     have hpsj:PS wj P b6 c (zbj mc) s0:=hps6.grown hjg hev6' fun g hg=>by
      rcases hg with e|e
      .exact e▸hlP
      .exact hlow2 g (.inr (hbf6 g e))
     have hmj:phOf wj P=(zbj mc).phase:=hpsj.phOf_eq
     have HREL:Hid (∃(mc:Mk) (bt:Bk) (E:List (Nat->Int)) (f:Nat),za2 c t 3 m0=za2 c t f mc/\3<=mc.phase+f/\PS wj P bt c mc s0/\(∀g,bt.F g->b.F g)/\Tch (Own P b) w wj/\Evs wj w.heap.size vj E/\outs mc=outs m++E/\E.length+(3-mc.phase) * 1002000000<=3006000000):=by
      refine⟨zbj mc,b6,E++E6,f',Hf2.o,by omega,hpsj,fun g hg=>Hbf.o g (hbf6 g hg),zdh _ w ht6' hjg hev6' nr,hjE,by rw[hou6,Hou.o,List.append_assoc],?_⟩
      rw[List.length_append,hpt]
      omega
     have HM:Hid (3-phOf wj P<3-phOf wr P):=by
      show 3-phOf wj P<3-phOf wr P
      rw[hmj,hmeas,hpt]
      omega
     obtain ⟨a6,k6,rfl⟩:=zae hev6
     clear hps6 hbf6 ht6 hev6 hou6 hev6' ht6' hjE hjg hpsj hmj hmeas hpt
     go_wp2_with (at_builtin;refine wpList_append_run _ rfl _ _ _ _ rfl _ _ rfl rfl _ _ hj ?_)
     go_roundw
     case rel=>exact HREL.o
     case measure=>exact HM.o
    .have hnext: ¬(zb3 c mc.phase<=t):=by rw[hph];exact hle
     have hend:za2 c t 3 m0=mc:=by rw[Hf.o];exact zgi c t f mc (by intro e;exact hnext e.2)
     rw[hend] at HR
     have hfin:Hid (R (.returned (.slice ua E.length uc)) wq):=HR.o bt _ E wq HPSq.o Hbf.o Htcq.o Hevq.o Hou.o (by omega)
     clear hend HR Hev Hevq
     go_wp2_with fail
     exact hfin.o
   .rw[hph] at c6
    have f0:=rfield0 (.func (.func 130) #[] #[]) (.func (.func 131) #[] #[]) (.func (.func 125) #[] #[]) (.func (.func 132) #[] #[]) (.func (.func 129) #[] #[]) (.func (.func 129) #[] #[]) (.func (.func 133) #[] #[])
    have e0:=enters_of Tryz.func130 (by kernel_rfl) rfl
    go_wp2_with fail
    go_region_held3 (fun w'=>(w'.cell? ⟨P,0,none⟩=some (.int .i64 (c.ref:Nat))/\w'.cell? ⟨P,1,none⟩=some (.int .i64 (c.opn:Nat))/\w'.cell? ⟨P,2,none⟩=some (.int .i64 (c.cls:Nat))/\w'.cell? ⟨P,3,none⟩=some (.int .i64 (c.fin:Nat))/\w'.cell? ⟨P,4,none⟩=some (.int .i64 (c.orders:Nat))/\w'.cell? ⟨P,5,none⟩=some (.int .i64 (c.total:Nat))/\w'.cell? ⟨P,6,none⟩=some (.int .i64 1))/\Below wr.heap.size wr w') (first|assumption|exact⟨⟨c0,c1,c2,c3,c4,c5,c6⟩,br.drew⟩) (first|(go_at_call 97;obtain ⟨⟨x0,x1,x2,x3,x4,x5,x6⟩,hq2⟩:(_/\Below wr.heap.size wr _):=(by assumption);refine zde P _ _ x6 ?_;intro wq hbq;unfold zay fnv;have hQ:=And.intro (⟨zaa hbq x0,zaa hbq x1,zaa hbq x2,zaa hbq x3,zaa hbq x4,zaa hbq x5,zaa hbq x6⟩:(_/\_/\_/\_/\_/\_/\_)) (zad hq2 hbq);clear hq2 hbq x0 x1 x2 x3 x4 x5 x6)|(go_at_call 130;obtain ⟨⟨x0,x1,x2,x3,x4,x5,x6⟩,hq2⟩:(_/\Below wr.heap.size wr _):=(by assumption);refine prl2_any c _ _ ?_;intro wq hbq;have hQ:=And.intro (⟨zaa hbq x0,zaa hbq x1,zaa hbq x2,zaa hbq x3,zaa hbq x4,zaa hbq x5,zaa hbq x6⟩:(_/\_/\_/\_/\_/\_/\_)) (zad hq2 hbq);clear hq2 hbq x0 x1 x2 x3 x4 x5 x6))
    have hbw:Below wr.heap.size wr wq:=hQ.2
    have HPSq:=zl (HPS.o.ext hbw)
    have Htcq:Hid (Tch (Own P b) w wq):=Htc.o.trans (Tch.of hbw)
    have Hevq:=zl (Hev.o.ext hbw)
    clear hQ hbw f0 e0 c0 c1 c2 c3 c4 c5 c6
    by_cases hle:c.cls<=t
    .have hnext:zb3 c mc.phase<=t:=by rw[hph];exact hle
     obtain ⟨f',rfl⟩: ∃f',f=f'+1:=⟨f-1,by omega⟩
     have Hf2:Hid (za2 c t 3 m0=za2 c t f' (zbj mc)):=by
      show za2 c t 3 m0=za2 c t f' (zbj mc)
      rw[Hf.o]
      exact turns_go c t f' mc (by omega) hnext
     have hpt:=zh5 HPSq.o.pv.gd (by omega)
     have hmeas:phOf wr P=mc.phase:=HPS.o.phOf_eq
     go_wp2_with fail
     refine zki P bt c mc s0 _ _ HPSq.o (by omega) ?_
     intro b6 v6 E6 w6 hps6 hbf6 ht6 hev6 hou6 hel6
     have hlow2: ∀g,Own P bt g->g<w.heap.size:=fun g hg=>by
      rcases hg with e|e
      .exact e▸hlP
      .exact Hlow.o g (.inr (Hbf.o g e))
     have hev6':Evs w6 w.heap.size (.slice ua E.length uc) E:=Hevq.o.keep fun g hg hl=>ht6.blk g hl fun e=>by have:=hlow2 g e;omega
     have ht6':Tch (Own P b) w w6:=Htcq.o.trans (ht6.own fun g hg=>by
      rcases hg with e|e
      .exact .inl e
      .exact .inr (Hbf.o g e))
     have hs6:w.heap.size<=w6.heap.size:=ht6'.size
     obtain ⟨vj,wj,hj,hjE,hjg⟩:=zd0 32 hev6' (hev6.low (Nat.zero_le _)) (by omega) hs6
     have hpsj:PS wj P b6 c (zbj mc) s0:=hps6.grown hjg hev6' fun g hg=>by
      rcases hg with e|e
      .exact e▸hlP
      .exact hlow2 g (.inr (hbf6 g e))
     have hmj:phOf wj P=(zbj mc).phase:=hpsj.phOf_eq
     have HREL:Hid (∃(mc:Mk) (bt:Bk) (E:List (Nat->Int)) (f:Nat),za2 c t 3 m0=za2 c t f mc/\3<=mc.phase+f/\PS wj P bt c mc s0/\(∀g,bt.F g->b.F g)/\Tch (Own P b) w wj/\Evs wj w.heap.size vj E/\outs mc=outs m++E/\E.length+(3-mc.phase) * 1002000000<=3006000000):=by
      refine⟨zbj mc,b6,E++E6,f',Hf2.o,by omega,hpsj,fun g hg=>Hbf.o g (hbf6 g hg),zdh _ w ht6' hjg hev6' nr,hjE,by rw[hou6,Hou.o,List.append_assoc],?_⟩
      rw[List.length_append,hpt]
      omega
     have HM:Hid (3-phOf wj P<3-phOf wr P):=by
      show 3-phOf wj P<3-phOf wr P
      rw[hmj,hmeas,hpt]
      omega
     obtain ⟨a6,k6,rfl⟩:=zae hev6
     clear hps6 hbf6 ht6 hev6 hou6 hev6' ht6' hjE hjg hpsj hmj hmeas hpt
     go_wp2_with (at_builtin;refine wpList_append_run _ rfl _ _ _ _ rfl _ _ rfl rfl _ _ hj ?_)
     go_roundw
     case rel=>exact HREL.o
     case measure=>exact HM.o
    .have hnext: ¬(zb3 c mc.phase<=t):=by rw[hph];exact hle
     have hend:za2 c t 3 m0=mc:=by rw[Hf.o];exact zgi c t f mc (by intro e;exact hnext e.2)
     rw[hend] at HR
     have hfin:Hid (R (.returned (.slice ua E.length uc)) wq):=HR.o bt _ E wq HPSq.o Hbf.o Htcq.o Hevq.o Hou.o (by omega)
     clear hend HR Hev Hevq
     go_wp2_with fail
     exact hfin.o
   .rw[hph] at c6
    have f0:=rfield0 (.func (.func 134) #[] #[]) (.func (.func 131) #[] #[]) (.func (.func 135) #[] #[]) (.func (.func 126) #[] #[]) (.func (.func 127) #[] #[]) (.func (.func 128) #[] #[]) (.func (.func 136) #[] #[])
    have e0:=enters_of Tryz.func134 (by kernel_rfl) rfl
    go_wp2_with fail
    go_region_held3 (fun w'=>(w'.cell? ⟨P,0,none⟩=some (.int .i64 (c.ref:Nat))/\w'.cell? ⟨P,1,none⟩=some (.int .i64 (c.opn:Nat))/\w'.cell? ⟨P,2,none⟩=some (.int .i64 (c.cls:Nat))/\w'.cell? ⟨P,3,none⟩=some (.int .i64 (c.fin:Nat))/\w'.cell? ⟨P,4,none⟩=some (.int .i64 (c.orders:Nat))/\w'.cell? ⟨P,5,none⟩=some (.int .i64 (c.total:Nat))/\w'.cell? ⟨P,6,none⟩=some (.int .i64 2))/\Below wr.heap.size wr w') (first|assumption|exact⟨⟨c0,c1,c2,c3,c4,c5,c6⟩,br.drew⟩) (first|(go_at_call 97;obtain ⟨⟨x0,x1,x2,x3,x4,x5,x6⟩,hq2⟩:(_/\Below wr.heap.size wr _):=(by assumption);refine zdd P _ _ x6 ?_;intro wq hbq;unfold zay fnv;have hQ:=And.intro (⟨zaa hbq x0,zaa hbq x1,zaa hbq x2,zaa hbq x3,zaa hbq x4,zaa hbq x5,zaa hbq x6⟩:(_/\_/\_/\_/\_/\_/\_)) (zad hq2 hbq);clear hq2 hbq x0 x1 x2 x3 x4 x5 x6)|(go_at_call 134;obtain ⟨⟨x0,x1,x2,x3,x4,x5,x6⟩,hq2⟩:(_/\Below wr.heap.size wr _):=(by assumption);refine prl3_any c _ _ ?_;intro wq hbq;have hQ:=And.intro (⟨zaa hbq x0,zaa hbq x1,zaa hbq x2,zaa hbq x3,zaa hbq x4,zaa hbq x5,zaa hbq x6⟩:(_/\_/\_/\_/\_/\_/\_)) (zad hq2 hbq);clear hq2 hbq x0 x1 x2 x3 x4 x5 x6))
    have hbw:Below wr.heap.size wr wq:=hQ.2
    have HPSq:=zl (HPS.o.ext hbw)
    have Htcq:Hid (Tch (Own P b) w wq):=Htc.o.trans (Tch.of hbw)
    have Hevq:=zl (Hev.o.ext hbw)
    clear hQ hbw f0 e0 c0 c1 c2 c3 c4 c5 c6
    by_cases hle:c.fin<=t
    .have hnext:zb3 c mc.phase<=t:=by rw[hph];exact hle
     obtain ⟨f',rfl⟩: ∃f',f=f'+1:=⟨f-1,by omega⟩
     have Hf2:Hid (za2 c t 3 m0=za2 c t f' (zbj mc)):=by
      show za2 c t 3 m0=za2 c t f' (zbj mc)
      rw[Hf.o]
      exact turns_go c t f' mc (by omega) hnext
     have hpt:=zh5 HPSq.o.pv.gd (by omega)
     have hmeas:phOf wr P=mc.phase:=HPS.o.phOf_eq
     go_wp2_with fail
     refine zki P bt c mc s0 _ _ HPSq.o (by omega) ?_
     intro b6 v6 E6 w6 hps6 hbf6 ht6 hev6 hou6 hel6
     have hlow2: ∀g,Own P bt g->g<w.heap.size:=fun g hg=>by
      rcases hg with e|e
      .exact e▸hlP
      .exact Hlow.o g (.inr (Hbf.o g e))
     have hev6':Evs w6 w.heap.size (.slice ua E.length uc) E:=Hevq.o.keep fun g hg hl=>ht6.blk g hl fun e=>by have:=hlow2 g e;omega
     have ht6':Tch (Own P b) w w6:=Htcq.o.trans (ht6.own fun g hg=>by
      rcases hg with e|e
      .exact .inl e
      .exact .inr (Hbf.o g e))
     have hs6:w.heap.size<=w6.heap.size:=ht6'.size
     obtain ⟨vj,wj,hj,hjE,hjg⟩:=zd0 32 hev6' (hev6.low (Nat.zero_le _)) (by omega) hs6
     have hpsj:PS wj P b6 c (zbj mc) s0:=hps6.grown hjg hev6' fun g hg=>by
      rcases hg with e|e
      .exact e▸hlP
      .exact hlow2 g (.inr (hbf6 g e))
     have hmj:phOf wj P=(zbj mc).phase:=hpsj.phOf_eq
     have HREL:Hid (∃(mc:Mk) (bt:Bk) (E:List (Nat->Int)) (f:Nat),za2 c t 3 m0=za2 c t f mc/\3<=mc.phase+f/\PS wj P bt c mc s0/\(∀g,bt.F g->b.F g)/\Tch (Own P b) w wj/\Evs wj w.heap.size vj E/\outs mc=outs m++E/\E.length+(3-mc.phase) * 1002000000<=3006000000):=by
      refine⟨zbj mc,b6,E++E6,f',Hf2.o,by omega,hpsj,fun g hg=>Hbf.o g (hbf6 g hg),zdh _ w ht6' hjg hev6' nr,hjE,by rw[hou6,Hou.o,List.append_assoc],?_⟩
      rw[List.length_append,hpt]
      omega
     have HM:Hid (3-phOf wj P<3-phOf wr P):=by
      show 3-phOf wj P<3-phOf wr P
      rw[hmj,hmeas,hpt]
      omega
     obtain ⟨a6,k6,rfl⟩:=zae hev6
     clear hps6 hbf6 ht6 hev6 hou6 hev6' ht6' hjE hjg hpsj hmj hmeas hpt
     go_wp2_with (at_builtin;refine wpList_append_run _ rfl _ _ _ _ rfl _ _ rfl rfl _ _ hj ?_)
     go_roundw
     case rel=>exact HREL.o
     case measure=>exact HM.o
    .have hnext: ¬(zb3 c mc.phase<=t):=by rw[hph];exact hle
     have hend:za2 c t 3 m0=mc:=by rw[Hf.o];exact zgi c t f mc (by intro e;exact hnext e.2)
     rw[hend] at HR
     have hfin:Hid (R (.returned (.slice ua E.length uc)) wq):=HR.o bt _ E wq HPSq.o Hbf.o Htcq.o Hevq.o Hou.o (by omega)
     clear hend HR Hev Hevq
     go_wp2_with fail
     exact hfin.o
   .rw[hph] at c6
    have f0:=rfield0 (.func (.func 137) #[] #[]) (.func (.func 135) #[] #[]) (.func (.func 135) #[] #[]) (.func (.func 126) #[] #[]) (.func (.func 129) #[] #[]) (.func (.func 129) #[] #[]) (.func (.func 138) #[] #[])
    have e0:=enters_of Tryz.func137 (by kernel_rfl) rfl
    go_wp2_with fail
    go_region_held3 (fun w'=>(w'.cell? ⟨P,0,none⟩=some (.int .i64 (c.ref:Nat))/\w'.cell? ⟨P,1,none⟩=some (.int .i64 (c.opn:Nat))/\w'.cell? ⟨P,2,none⟩=some (.int .i64 (c.cls:Nat))/\w'.cell? ⟨P,3,none⟩=some (.int .i64 (c.fin:Nat))/\w'.cell? ⟨P,4,none⟩=some (.int .i64 (c.orders:Nat))/\w'.cell? ⟨P,5,none⟩=some (.int .i64 (c.total:Nat))/\w'.cell? ⟨P,6,none⟩=some (.int .i64 3))/\Below wr.heap.size wr w') (first|assumption|exact⟨⟨c0,c1,c2,c3,c4,c5,c6⟩,br.drew⟩) (first|(go_at_call 97;obtain ⟨⟨x0,x1,x2,x3,x4,x5,x6⟩,hq2⟩:(_/\Below wr.heap.size wr _):=(by assumption);refine zfq P _ _ x6 ?_;intro wq hbq;unfold zay fnv;have hQ:=And.intro (⟨zaa hbq x0,zaa hbq x1,zaa hbq x2,zaa hbq x3,zaa hbq x4,zaa hbq x5,zaa hbq x6⟩:(_/\_/\_/\_/\_/\_/\_)) (zad hq2 hbq);clear hq2 hbq x0 x1 x2 x3 x4 x5 x6)|(go_at_call 137;obtain ⟨⟨x0,x1,x2,x3,x4,x5,x6⟩,hq2⟩:(_/\Below wr.heap.size wr _):=(by assumption);refine prl4_any c _ _ ?_;intro wq hbq;have hQ:=And.intro (⟨zaa hbq x0,zaa hbq x1,zaa hbq x2,zaa hbq x3,zaa hbq x4,zaa hbq x5,zaa hbq x6⟩:(_/\_/\_/\_/\_/\_/\_)) (zad hq2 hbq);clear hq2 hbq x0 x1 x2 x3 x4 x5 x6))
    have hbw:Below wr.heap.size wr wq:=hQ.2
    have HPSq:=zl (HPS.o.ext hbw)
    have Htcq:Hid (Tch (Own P b) w wq):=Htc.o.trans (Tch.of hbw)
    have Hevq:=zl (Hev.o.ext hbw)
    clear hQ hbw f0 e0 c0 c1 c2 c3 c4 c5 c6
    have hbig: ¬((9223372036854775807:Int)<=(t:Int)):=by omega
    have hend:za2 c t 3 m0=mc:=by rw[Hf.o];exact zgi c t f mc (by omega)
    rw[hend] at HR
    have hfin:Hid (R (.returned (.slice ua E.length uc)) wq):=HR.o bt _ E wq HPSq.o Hbf.o Htcq.o Hevq.o Hou.o (by omega)
    clear hend HR Hev Hevq
    rw[show decide ((9223372036854775807:Int)<=(t:Int))=false from decide_eq_false hbig]
    clear hbig
    generalize (9223372036854775807:Int)=big
    go_wp2_with fail
    exact hfin.o
end
