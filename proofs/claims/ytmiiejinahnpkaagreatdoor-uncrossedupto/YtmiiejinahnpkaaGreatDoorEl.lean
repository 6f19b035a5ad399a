import Derived.Test.YtmiiejinahnpkaaGreatDoorEk
import Derived.Test.YtmiiejinahnpkaaGreatDoorEj
set_option maxRecDepth 8000
set_option maxHeartbeats 4000000
namespace Go.Proofs.YtmiiejinahnpkaaGreatDoor
open Go.RowKit
theorem zfj (m:Mk)(_h:m.phase<=2):(zbj m).phase=m.phase+1/\(zbj m).time=m.time/\m.out.length<=(zbj m).out.length/\(Gd m->Gd (zbj m))/\(zbj m).all.length=m.all.length:=by
 have tr: ∀(m:Mk) (i k n p:Nat),(za3 m i k n p).phase=m.phase/\(za3 m i k n p).time=m.time:=fun m i k n p=>⟨rfl,rfl⟩
 have cr: ∀(p f v:Nat) (m:Mk),(zbg p f v m).phase=m.phase/\(zbg p f v m).time=m.time/\(zbg p f v m).all.length=m.all.length/\(p<=4294967295->Gd m->Gd (zbg p f v m)):=by
  intro p f
  induction f with
  |zero=>intro v m;exact⟨rfl,rfl,rfl,fun _ h=>h⟩
  |succ f ih=>
   intro v m
   unfold zbg
   split
   .exact⟨rfl,rfl,rfl,fun _ h=>h⟩
   .obtain ⟨h1,h2,h3,h4⟩:=ih (v-min v (min (nth m.all (za0 m.phase m.all 1 m.all.length).toNat).rest (nth m.all (za0 m.phase m.all 2 m.all.length).toNat).rest)) (za3 m (za0 m.phase m.all 1 m.all.length).toNat (za0 m.phase m.all 2 m.all.length).toNat (min v (min (nth m.all (za0 m.phase m.all 1 m.all.length).toNat).rest (nth m.all (za0 m.phase m.all 2 m.all.length).toNat).rest)) p)
    exact⟨h1,h2,by rw[h3,zd1],fun hp hg=>h4 hp (hg.trade _ _ _ _ hp)⟩
 have sw: ∀(n:Nat) (m:Mk),(zai n m).time=m.time:=by
  intro n m
  induction n with
  |zero=>rfl
  |succ n ih=>
   unfold zai
   dsimp only
   split
   .exact ih
   .exact ih
 have te: ∀m:Mk,(zc0 m).phase=m.phase+1/\(zc0 m).time=m.time/\(Gd m->Gd (zc0 m))/\(zc0 m).all.length=m.all.length:=by
  intro m
  unfold zc0
  dsimp only
  obtain ⟨h1,h2,_,h4⟩:=zcg (zax {m with phase:=m.phase+1} (mkev 8 0 0 0 0 0 0 0 0 (m.phase+1))).all.length (zax {m with phase:=m.phase+1} (mkev 8 0 0 0 0 0 0 0 0 (m.phase+1)))
  have h5:=sw (zax {m with phase:=m.phase+1} (mkev 8 0 0 0 0 0 0 0 0 (m.phase+1))).all.length (zax {m with phase:=m.phase+1} (mkev 8 0 0 0 0 0 0 0 0 (m.phase+1)))
  split
  .exact⟨h2,h5,fun hg=>(h4 ((hg.phase _).tell _)).indicate 6,h1⟩
  .exact⟨h2,h5,fun hg=>h4 ((hg.phase _).tell _),h1⟩
 rw[zhh]
 split
 .obtain ⟨c1,c2,c3,c4⟩:=cr (zal m.phase m.ref m.all).1 (zal m.phase m.ref m.all).2.1 (zal m.phase m.ref m.all).2.1 (zah m 7)
  have co:=ziq (zal m.phase m.ref m.all).1 (zal m.phase m.ref m.all).2.1 (zal m.phase m.ref m.all).2.1 (zah m 7)
  rw[zd6] at co
  obtain ⟨t1,t2,t3,t4⟩:=te (zbg (zal m.phase m.ref m.all).1 (zal m.phase m.ref m.all).2.1 (zal m.phase m.ref m.all).2.1 (zah m 7))
  have tq:=zeq (zbg (zal m.phase m.ref m.all).1 (zal m.phase m.ref m.all).2.1 (zal m.phase m.ref m.all).2.1 (zah m 7))
  refine⟨by rw[t1,c1];rfl,by rw[t2,c2];rfl,by omega,fun hg=>t3 (c4 ?_ (hg.indicate 7)),by rw[t4,c3];rfl⟩
  rcases (ze0 m.phase m.ref m.all).2.2 with e|e
  .rw[e];omega
  .exact hg.bds.cnd _ e
 .have tq:=zeq m
  exact⟨(te m).1,(te m).2.1,by omega,(te m).2.2.1,(te m).2.2.2⟩
theorem turnsM_out (c:Cf)(t f:Nat)(m:Mk):m.out.length<=(za2 c t f m).out.length:=by
 induction f generalizing m with
 |zero=>exact nr
 |succ f ih=>
  unfold za2
  split
  .rename_i h
   exact llt (zfj m (by omega)).2.2.1 (ih _)
  .exact nr
theorem turnsM_step (c:Cf)(t f:Nat)(m:Mk)(h:m.phase<3/\zb3 c m.phase<=t):za2 c t (f+1) m=za2 c t f (zbj m):=by
 conv=>lhs;unfold za2
 rw[if_pos h]
theorem zj5 (c:Cf)(t f:Nat)(m:Mk)(h: ¬(m.phase<3/\zb3 c m.phase<=t)):za2 c t f m=m:=by
 cases f with
 |zero=>rfl
 |succ f=>unfold za2;rw[if_neg h]
theorem tick_any (B:Nat)(c:Cf)(m:Mk)(vA vO:Value)(t:Nat)(F:Nat->Prop)(N:Nat)(w:World)(R:EW)(h:RM w B c m vA vO)(hF:Ft F N B vA vO)(hN:N<=w.heap.size)(hg:Gd m)(hph:m.phase<=3)(hoo:(zdu c m t).out.length<=1000000)
  (hR: ∀vO' w',RM w' B c (zdu c m t) vA vO'->Ft F N B vA vO'->Tch F w w'->R (.returned (.tuple #[])) w'):
  Calls Tryz.prog 106 #[.pointer (some ⟨B,0,none⟩),.int .i64 t] w R:=by
 have HR:=zl hR
 have HM:=zl h
 have HF:=zl hF
 have HG:=zl hg
 have HOO:=zl hoo
 have p7:=h.cells 7 _ rfl
 have f7:=h.free 7
 clear hR h hF hg hoo
 go_enter Tryz.func106,Tryz.ntmps106
 by_cases ht:t<=m.time
 .have ft:(t:Int)<=m.time:=by omega
  have hfin:Hid (R (.returned (.tuple #[])) w):=HR.o vO w (by unfold zdu;rw[if_pos ht];exact HM.o) HF.o (Tch.refl _ _)
  go_wp2_with fail
  go_end0
  exact hfin.o
 .have ft: ¬(t:Int)<=m.time:=by omega
  have HT:Hid (zdu c m t=za2 c t 3 {m with time:=t}):=by show _=_;unfold zdu;rw[if_neg ht]
  have hM1:=HM.o.setTime t
  have HM1:=zl hM1
  have HT1:Hid (Tch F w (w.setCell ⟨B,7,none⟩ (.int .i64 (t:Nat)))):=zd8 HF.o.b
  have d1:=hM1.cells 1 _ rfl
  have d2:=hM1.cells 2 _ rfl
  have d3:=hM1.cells 3 _ rfl
  clear hM1
  go_wp2_with fail
  generalize w.setCell ⟨B,7,none⟩ (.int .i64 (t:Nat))=W at *
  refine wp_region_still_tail 15 (by kernel_rfl) (by kernel_rfl) ?_
  simp only[List.take_succ_cons,List.take_zero,List.drop_succ_cons,List.drop_zero]
  have HM2:=zl (HM1.o.drew)
  have HT2:Hid (Tch F w W.drew):=HT1.o.trans (Tch.of br.drew)
  change wpStill _ _ W.drew (fun a'=>wpList _ _ _ _ a' W.drew) _ _
  generalize W.drew=W2 at *
  clear d1 d2 d3 HM1 HT1 p7 f7
  have d1:=HM2.o.cells 1 _ rfl
  have d2:=HM2.o.cells 2 _ rfl
  have d3:=HM2.o.cells 3 _ rfl
  repeat still_step
  refine wpStill_nil ?_
  have hb3:=zac W2 (.cells #[.int .i64 (c.opn:Nat),.int .i64 (c.cls:Nat),.int .i64 (c.fin:Nat)] 3)
  have hcl: ∀i,(W2.alloc (.cells #[.int .i64 (c.opn:Nat),.int .i64 (c.cls:Nat),.int .i64 (c.fin:Nat)] 3)).cell? ⟨W2.heap.size,i,none⟩=(#[.int .i64 (c.opn:Nat),.int .i64 (c.cls:Nat),.int .i64 (c.fin:Nat)]:Array Value)[i]?:=fun i=>cell_of_row _ _ i _ _ (0,0) (heap_alloc_new W2 _)
  have HC0:Hid (∀i,i<3->(W2.alloc (.cells #[.int .i64 (c.opn:Nat),.int .i64 (c.cls:Nat),.int .i64 (c.fin:Nat)] 3)).cell? ⟨W2.heap.size,i,none⟩=some (.int .i64 (zb3 c i:Nat))):=by
   intro i hi
   rw[hcl i]
   have:i=0\/i=1\/i=2:=by omega
   rcases this with rfl|rfl|rfl<;>rfl
  have HM3:=zl (HM2.o.ext hb3)
  have HF3:Hid (Ft (fun g=>F g/\g≠W2.heap.size) (W2.heap.size+1) B vA vO):=HF.o.less (llt hN HT2.o.size) (zab (HM2.o.cells 6 _ rfl)) (fun g hg=>zgw HM2.o.all g hg) (fun g hg=>zgw HM2.o.out g hg)
  have HT3:Hid (Tch F w (W2.alloc (.cells #[.int .i64 (c.opn:Nat),.int .i64 (c.cls:Nat),.int .i64 (c.fin:Nat)] 3))):=HT2.o.trans (Tch.of hb3)
  have hs3:(W2.alloc (.cells #[.int .i64 (c.opn:Nat),.int .i64 (c.cls:Nat),.int .i64 (c.fin:Nat)] 3)).heap.size=W2.heap.size+1:=by simp
  clear hb3 hcl d1 d2 d3 HM2 HT2
  go_wp2_with fail
  generalize W2.alloc (.cells #[.int .i64 (c.opn:Nat),.int .i64 (c.cls:Nat),.int .i64 (c.fin:Nat)] 3)=W3 at *
  obtain ⟨E,hE⟩: ∃E,W2.heap.size=E:=⟨_,rfl⟩
  rw[hE] at HC0 HF3 hs3 ⊢
  have HEn:Hid (¬(fun g=>F g/\g≠E) E):=fun e=>e.2 rfl
  have HFs:Hid (∀g,(fun g=>F g/\g≠E) g->F g):=fun g hg=>hg.1
  obtain ⟨F1,hF1⟩: ∃F1,(fun g=>F g/\g≠E)=F1:=⟨_,rfl⟩
  rw[hF1] at HF3 HEn HFs
  clear hE hF1
  go_loopw [] (fun wr=> ∃(f:Nat) (M:Mk) (vOx:Value),zdu c m t=za2 c t f M/\3<=M.phase+f/\M.phase<=3/\RM wr B c M vA vOx/\Ft F1 (E+1) B vA vOx/\Tch F1 W3 wr/\Gd M) (fun wr=>3-(intOf ((wr.cell? ⟨B,6,none⟩).getD undef)).toNat)
  case atStart=>exact⟨3,{m with time:=t},vO,HT.o,by omega,hph,HM3.o,HF3.o,Tch.refl _ _,HG.o.time t⟩
  case round=>
   obtain ⟨f,M,vOx,hte,hfu,hph',hMr,hFr,hTr,hGr⟩:=hrel
   have HTe:=zl hte
   have HMr:=zl hMr
   have HFr:=zl hFr
   have HTr:=zl hTr
   have HGr:=zl hGr
   have p6:wr.cell? ⟨B,6,none⟩=some (.int .i64 (M.phase:Nat)):=hMr.cells 6 _ rfl
   have hNr:E+1<=wr.heap.size:=by rw[←hs3];exact hTr.size
   have hEb:wr.heap[E]?=W3.heap[E]?:=hTr.blk E (by omega) HEn.o
   have HP6:=zl p6
   clear hte hMr hFr hTr hGr
   by_cases hp3:M.phase<3
   .have hc:wr.cell? ⟨E,M.phase,none⟩=some (.int .i64 (zb3 c M.phase:Nat)):=(World.cell?_of_block (w:=W3) (w':=wr) (a:=⟨E,M.phase,none⟩) hEb).trans (HC0.o M.phase hp3)
    have g3:(M.phase:Int)<3:=by omega
    have HCell:=zl hc
    by_cases hnt:zb3 c M.phase<=t
    .have gn:((zb3 c M.phase:Nat):Int)<=t:=by omega
     have HSt:Hid (za2 c t f M=za2 c t (f-1) (zbj M)):=by
      have:=turnsM_step c t (f-1) M ⟨hp3,hnt⟩
      rw[show f-1+1=f from by omega] at this
      exact this
     have HOt:Hid ((zbj M).out.length<=1000000):=by
      have h1:=HOO.o
      rw[HTe.o,HSt.o] at h1
      have h2:=turnsM_out c t (f-1) (zbj M)
      show _<=_
      omega
     clear hnt hEb
     generalize zb3 c M.phase=nt at *
     go_wp2_with fail
     refine turn_any B c M vA vOx F1 (E+1) _ _ HMr.o HFr.o hNr HGr.o (by omega) HOt.o ?_
     intro vO5 w5 h1 h2 h3
     obtain ⟨e1,e2,e3,e4,e5⟩:=zfj M (by omega)
     have HX:Hid ((∃(f:Nat) (M:Mk) (vOx:Value),zdu c m t=za2 c t f M/\3<=M.phase+f/\M.phase<=3/\RM w5 B c M vA vOx/\Ft F1 (E+1) B vA vOx/\Tch F1 W3 w5/\Gd M)/\3-(intOf ((w5.cell? ⟨B,6,none⟩).getD undef)).toNat<3-(intOf ((wr.cell? ⟨B,6,none⟩).getD undef)).toNat):=by
      refine⟨⟨f-1,zbj M,vO5,by rw[HTe.o];exact HSt.o,by omega,by omega,h1,h2,HTr.o.trans h3,e4 HGr.o⟩,?_⟩
      rw[show w5.cell? ⟨B,6,none⟩=some (.int .i64 ((zbj M).phase:Nat)) from h1.cells 6 _ rfl,HP6.o]
      simp only[Option.getD_some,intOf,Int.toNat_natCast]
      omega
     clear h1 h2 h3 e1 e2 e3 e4 e5
     go_wp2_with fail
     go_roundw
     case rel=>first|exact HX.o.1|((repeat apply Exists.intro);exact⟨HX.o.1,rfl⟩)
     case measure=>exact HX.o.2
    .have gn: ¬((zb3 c M.phase:Nat):Int)<=t:=by omega
     have hfin:Hid (R (.returned (.tuple #[])) wr):=HR.o vOx wr (by rw[HTe.o,zj5 c t f M (fun h=>hnt h.2)];exact HMr.o) (HFr.o.more HFs.o HF.o.up) (HT3.o.trans (HTr.o.mono HFs.o))
     clear hnt hEb
     generalize zb3 c M.phase=nt at *
     go_wp2_with fail
     go_end0
     exact hfin.o
   .have g3: ¬(M.phase:Int)<3:=by omega
    have hfin:Hid (R (.returned (.tuple #[])) wr):=HR.o vOx wr (by rw[HTe.o,zj5 c t f M (fun h=>hp3 h.1)];exact HMr.o) (HFr.o.more HFs.o HF.o.up) (HT3.o.trans (HTr.o.mono HFs.o))
    go_wp2_with fail
    go_end0
    exact hfin.o
