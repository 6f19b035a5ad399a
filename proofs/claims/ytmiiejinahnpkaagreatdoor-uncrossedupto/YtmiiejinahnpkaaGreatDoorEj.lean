import Derived.Test.YtmiiejinahnpkaaGreatDoorXAgGa
import Derived.StillTailTactics
set_option maxRecDepth 8000
set_option maxHeartbeats 4000000
namespace Go.Proofs.YtmiiejinahnpkaaGreatDoor
open Go.RowKit
theorem Tryz.infoOrderR:(Tryz.prog.info? 171).map (fun i=>(i.zero,i.size,i.bytes))=some (some (.agg #[.int .i64 0,.int .i64 0,.int .i64 0,.int .i64 0,.int .i64 0]),5,40):=by kernel_rfl
theorem odcs_snoc (l:List Od)(o:Od):odcs (l++[o])=odcs l++odc o:=by simp[odcs]
variable {c:Cf} {m:Mk} {B E N:Nat} {o:Od} {vA vO:Value} {w w':World}
theorem RM.setAll {w1:World}{v':Value}(h:RM w B c m vA vO)(hG:Grew 0 171 5 w vA w1 v' (m.all.length+1) (odcs m.all++odc o)):
  RM (w1.setCell ⟨B,10,none⟩ v') B c {m with all:=m.all++[o]} v' vO/\w1.cell? ⟨B,10,none⟩=some vA/\w1.frozen? ⟨B,10,none⟩=false:=by
 have hB:=(gsi.1 h.blk).1
 have hBk:w1.heap[B]?=w.heap[B]?:=hG.grown.block B hB (fun e=>h.sepA e.symm)
 have hsep:v'.ownBlock≠some B:=by
  rcases hG.lies with h1|h1
  .rw[h1];exact h.sepA
  .intro e;have:=h1 B e;omega
 refine⟨⟨?_,?_,?_,hsep,h.sepO,?_⟩,?_,?_⟩
 .exact zbb (by rw[hBk];exact h.blk)
 .refine zb1 ?_ B 10 _ hsep
  have:=hG.own
  rw[←odcs_snoc] at this
  simpa using this
 .refine zb1 (own_at h.out fun g hg=>hG.grown.block g (zgw h.out g hg) fun e=>h.sep g e.symm hg) B 10 _ h.sepO
 .intro g hg hv
  rcases hG.lies with h1|h1
  .exact h.sep g (by rw[←h1];exact hg) hv
  .have:=h1 g hg
   have:=zgw h.out g hv
   omega
 .exact(World.cell?_of_block (w:=w) (w':=w1) (a:=⟨B,10,none⟩) hBk).trans (h.cells 10 _ rfl)
 .exact(World.frozen?_of_block (w:=w) (w':=w1) (a:=⟨B,10,none⟩) hBk).trans (h.free 10)
variable {F F':Nat->Prop}
theorem OdAt.tch (h:OdAt w E o)(hT:Tch F w w')(hE: ¬F E):OdAt w' E o:=by
 have hb:=hT.blk E (zab h.c0) hE
 have k: ∀i,w'.cell? ⟨E,i,none⟩=w.cell? ⟨E,i,none⟩:=fun i=>World.cell?_of_block (a:=⟨E,i,none⟩) hb
 exact⟨(k 0).trans h.c0,(k 1).trans h.c1,(k 2).trans h.c2,(k 3).trans h.c3,(k 4).trans h.c4⟩
theorem Gd.push (h:Gd m)(o:Od)(hl:m.all.length<=1048575)(hp:o.price<=4294967295)(hs:o.side=1\/o.side=2)(ht:o.rest+zba m.all o.side<=1000000000):Gd {m with all:=m.all++[o]}:=by
 refine⟨by simp;omega,h.seq,h.ref,fun a ha=>?_,fun a ha=>?_,fun s=>?_⟩
 .simp only[List.mem_append,List.mem_singleton] at ha
  rcases ha with ha|rfl
  .exact h.price a ha
  .exact hp
 .simp only[List.mem_append,List.mem_singleton] at ha
  rcases ha with ha|rfl
  .exact h.side a ha
  .exact hs
 .have:=h.sum s
  unfold zba at *
  simp only[List.filter_append,List.map_append,List.sum_append]
  by_cases hq:o.side=s
  .subst hq
   simp
   omega
  .simp[hq]
   omega
theorem refused0 (h:zbc c m o=0):o.rest+zba m.all o.side<=c.total/\0<o.rest/\o.price<=1000000/\(pl o=true->o.price=0)/\(pl o=false->1<=o.price)/\zew m.all o.id=false/\zap m.all<c.orders/\m.phase≠3/\(o.typ=3->m.phase=0):=by
 have h':(if zew m.all o.id then 2 else if o.rest=0 then 4 else if (pl o&&o.price !=0)||(!pl o&&(o.price==0||decide (1000000<o.price))) then 5 else if m.phase=3\/(o.typ=3/\m.phase≠0) then 6 else if c.orders<=zap m.all then 7 else if c.total<o.rest+zba m.all o.side then 8 else 0)=0:=h
 split at h'
 .omega
 .rename_i h1
  split at h'
  .omega
  .split at h'
   .omega
   .rename_i h3
    split at h'
    .omega
    .rename_i h4
     split at h'
     .omega
     .split at h'
      .omega
      .cases hp:pl o<;>simp[hp] at h3
       .exact⟨by omega,by omega,by omega,by simp,by intro _;omega,by simpa using h1,by omega,by omega,by omega⟩
       .exact⟨by omega,by omega,by omega,fun _=>h3,by simp,by simpa using h1,by omega,by omega,by omega⟩
theorem Tch.mono (h:Tch F' w w')(hs: ∀g,F' g->F g):Tch F w w':=⟨h.os,h.tape,h.output,h.size,fun g hg hn=>h.blk g hg fun e=>hn (hs g e)⟩
theorem Ft.less (h:Ft F N B vA vO)(hN:N<=E)(hb:B<E)(ha: ∀g,vA.ownBlock=some g->g<E)(ho: ∀g,vO.ownBlock=some g->g<E):Ft (fun g=>F g/\g≠E) (E+1) B vA vO:=
 ⟨fun g hg=>⟨h.up g (by omega),by omega⟩,⟨h.b,by omega⟩,fun g hg=>⟨h.a g hg,by have:=ha g hg;omega⟩,fun g hg=>⟨h.o g hg,by have:=ho g hg;omega⟩⟩
theorem Ft.more {N':Nat}(h:Ft F' N' B vA vO)(hs: ∀g,F' g->F g)(hup: ∀g,N<=g->F g):Ft F N B vA vO:=
 ⟨hup,hs _ h.b,fun g hg=>hs g (h.a g hg),fun g hg=>hs g (h.o g hg)⟩
theorem refused_of (B:Nat)(c:Cf)(m:Mk)(vA vO:Value)(o:Od)(V:Value)(hV:V=odv o)(w:World)(R:EW)(h:RM w B c m vA vO)(hn:m.all.length<=1048576)(hsum:zba m.all o.side<=4294967295)(hor:o.rest<=4294967295)
  (hR: ∀w',Below w.heap.size w w'->R (.returned (.int .i64 (zbc c m o:Nat))) w'):
  Calls Tryz.prog 139 #[.pointer (some ⟨B,0,none⟩),V] w R:=by subst hV;exact refused_any B c m vA vO o w R h hn hsum hor hR
theorem enter_any (B:Nat)(c:Cf)(m:Mk)(vA vO:Value)(o:Od)(F:Nat->Prop)(N:Nat)(w:World)(R:EW)(h:RM w B c m vA vO)(hF:Ft F N B vA vO)(hN:N<=w.heap.size)(hg:Gd m)(hl:m.all.length<=1048575)(hct:c.total<=1000000000)(ho:m.out.length<=1000)(hoo:(zce c m o).out.length<=1000000)(hor:o.rest<=4294967295)(hos:o.side=1\/o.side=2)
  (hR: ∀vA' vO' w',RM w' B c (zce c m o) vA' vO'->Ft F N B vA' vO'->Tch F w w'->R (.returned (.tuple #[])) w'):
  Calls Tryz.prog 103 #[.pointer (some ⟨B,0,none⟩),odv o] w R:=by
 have HR:=zl hR
 have HG:=zl hg
 have hO:=OdAt.new w o 171
 have hb0:=OdAt.of w o
 have HF:=zl hF
 have HM:=zl (h.ext hb0)
 have HO:=zl hO
 have HB0:=zl hb0
 have HF1:Hid (Ft (fun g=>F g/\g≠w.heap.size) (w.heap.size+1) B vA vO):=hF.less hN (zab (h.cells 6 _ rfl)) (fun g hg=>zgw h.all g hg) (fun g hg=>zgw h.out g hg)
 have hWs:(w.alloc (.cells #[.int .i64 o.id,.int .i64 o.side,.int .i64 o.typ,.int .i64 o.price,.int .i64 o.rest] 171)).heap.size=w.heap.size+1:=by simp
 clear hR h hg hO hb0 hF
 unfold odv
 go_enter Tryz.func103,Tryz.ntmps103
 go_wp2_with fail
 generalize w.alloc (.cells #[.int .i64 o.id,.int .i64 o.side,.int .i64 o.typ,.int .i64 o.price,.int .i64 o.rest] 171)=W at *
 have HFin:Hid (∀vA' vO' w',RM w' B c (zce c m o) vA' vO'->Ft (fun g=>F g/\g≠w.heap.size) (w.heap.size+1) B vA' vO'->Tch (fun g=>F g/\g≠w.heap.size) W w'->R (.returned (.tuple #[])) w'):=
  fun vA' vO' w' q1 q2 q3=>HR.o vA' vO' w' q1 (q2.more (fun g hg=>hg.1) HF.o.up) ((Tch.of HB0.o).trans (q3.mono fun g hg=>hg.1))
 have HEn:Hid (¬(fun g=>F g/\g≠w.heap.size) w.heap.size):=fun e=>e.2 rfl
 obtain ⟨E,hE⟩: ∃E,w.heap.size=E:=⟨_,rfl⟩
 obtain ⟨F1,hF1⟩: ∃F1,(fun g=>F g/\g≠E)=F1:=⟨_,rfl⟩
 rw[hE] at HFin HF1 hWs HO HEn
 rw[hF1] at HFin HF1 HEn
 obtain ⟨N1,hN1⟩: ∃N1,E+1=N1:=⟨_,rfl⟩
 rw[hN1] at HFin HF1 hWs
 have HWs:=zl hWs
 rw[hE]
 clear hE hF1 HB0 HR HF hN1 hWs hN
 refine refused_of B c m vA vO o _ (by rfl) _ _ HM.o HG.o.len (llt (HG.o.sum _) (by omega)) hor ?_
 intro w1 hb1
 have HM1:=zl (HM.o.ext hb1)
 have HO1:=zl (HO.o.ext hb1)
 have HT1:Hid (Tch F1 W w1):=Tch.of hb1
 have hN1:N1<=w1.heap.size:=by rw[←HWs.o];exact hb1.size
 obtain ⟨q0,q1,q2,q3,q4⟩:=HO1.o
 clear hb1 HO HM
 by_cases hr0:zbc c m o=0
 .obtain ⟨r1,r2,r3,_,_,_,_,_,_⟩:=refused0 hr0
  have HG2:Hid (Gd {zax m (mkev 1 0 o.id 0 0 0 o.rest 0 0 0) with all:=m.all++[o]}):=(HG.o.tell (mkev 1 0 o.id 0 0 0 o.rest 0 0 0)).push o hl (by omega) hos (llt r1 hct)
  have HC:Hid (zce c m o=(let m2:={zax m (mkev 1 0 o.id 0 0 0 o.rest 0 0 0) with all:=m.all++[o]}
   if m.phase≠1 then zah m2 6 else if wt m.phase o then m2 else
    let m3:=zbd o m.all.length o.rest m2
    if o.typ=2/\0<(nth m3.all m.all.length).rest then zav m3 m.all.length else m3)):=by
   show _=_
   unfold zce
   rw[if_neg (by simp[hr0])]
   rfl
  rw[hr0]
  clear hr0
  go_wp2_with fail
  refine zf5 B c m vA vO (mkev 1 0 o.id 0 0 0 o.rest 0 0 0) _ (by rfl) F1 N1 _ _ HM1.o HF1.o hN1 HG.o.seq (by omega) ?_
  intro vO1 w2 h1 h2 h3
  have HT2:=zl (HT1.o.trans h3)
  have HO2:=zl (HO1.o.tch h3 HEn.o)
  have HF2:=zl h2
  obtain ⟨M1,hM1⟩: ∃M1,zax m (mkev 1 0 o.id 0 0 0 o.rest 0 0 0)=M1:=⟨_,rfl⟩
  have HM1a:Hid (M1.all=m.all):=by rw[←hM1];rfl
  have HM1p:Hid (M1.phase=m.phase):=by rw[←hM1];rfl
  have HM1o:Hid (M1.out.length=m.out.length+1):=by
   show _=_
   rw[←hM1]
   simp[zax]
  rw[hM1] at h1 HG2 HC
  have HM2:=zl h1
  have hN2:N1<=w2.heap.size:=llt hN1 h3.size
  clear h1 h2 h3 hM1 HM1 HO1 HT1 q0 q1 q2 q3 q4
  obtain ⟨q0,q1,q2,q3,q4⟩:=HO2.o
  have c10:=HM2.o.cells 10 _ rfl
  have f10:=HM2.o.free 10
  have hB:=zab c10
  have HOw:Hid (w2.ownsRow 0 171 5 vA m.all.length (odcs m.all)):=by have:=HM2.o.all;rw[HM1a.o] at this;exact this
  obtain ⟨ao,co,rfl⟩: ∃ao co,vA= .slice ao m.all.length co:=by
   rcases HOw.o.2 with ⟨h1,h2⟩|⟨g,cap,_,h1,_⟩
   .exact⟨none,0,by rw[h1,h2]⟩
   .exact⟨_,cap,h1⟩
  have KEY: ∀v4 w4,Grew 0 171 5 w2.drew (.slice ao m.all.length co) w4 v4 (m.all.length+1) (odcs m.all++[.int .i64 o.id,.int .i64 o.side,.int .i64 o.typ,.int .i64 o.price,.int .i64 o.rest])-> ∃b2 j2,v4= .slice b2 (m.all.length+1) j2/\Hid (RM (w4.setCell ⟨B,10,none⟩ (.slice b2 (m.all.length+1) j2)) B c {M1 with all:=m.all++[o]} (.slice b2 (m.all.length+1) j2) vO1/\Ft F1 N1 B (.slice b2 (m.all.length+1) j2) vO1/\Tch F1 W (w4.setCell ⟨B,10,none⟩ (.slice b2 (m.all.length+1) j2))/\OdAt (w4.setCell ⟨B,10,none⟩ (.slice b2 (m.all.length+1) j2)) E o)/\w4.cell? ⟨B,10,none⟩=some (.slice ao m.all.length co)/\w4.frozen? ⟨B,10,none⟩=false:=by
   intro v4 w4 hG
   have hG':=hG.undrewR
   obtain ⟨b2,j2,rfl⟩: ∃ao co,v4= .slice ao (m.all.length+1) co:=by
    rcases hG.own.2 with ⟨h1,h2⟩|⟨g,cap,_,h1,_⟩
    .omega
    .exact⟨_,cap,h1⟩
   obtain ⟨z1,z2,z3⟩:=HM2.o.setAll (o:=o) (by rw[HM1a.o];exact hG')
   rw[HM1a.o] at z1
   have hT:Tch F1 w2 (w4.setCell ⟨B,10,none⟩ (.slice b2 (m.all.length+1) j2)):=by
    refine⟨hG'.grown.os,hG'.grown.tape,hG'.grown.output,by simpa [World.setCell] using hG'.grown.size,fun g hg hn=>?_⟩
    rw[bhs _ _ _ _ (fun e=>hn (by rw[e];exact HF2.o.b))]
    exact hG'.grown.block g hg fun e=>hn (HF2.o.a g e.symm)
   refine⟨b2,j2,rfl,⟨z1,?_,HT2.o.trans hT,HO2.o.tch hT HEn.o⟩,z2,z3⟩
   refine⟨HF2.o.up,HF2.o.b,fun g hg=>?_,HF2.o.o⟩
   rcases hG'.lies with h1|h1
   .exact HF2.o.a g (by rw[←h1];exact hg)
   .exact HF2.o.up g (llt hN2 (h1 g hg))
  have KEYH:=zl KEY
  clear KEY HM2 HF2 HT2 HF1 HG
  go_wp2_with fail
  go_cut [] (fun wx=> ∃b2 j2,RM wx B c {M1 with all:=m.all++[o]} (.slice b2 (m.all.length+1) j2) vO1/\Ft F1 N1 B (.slice b2 (m.all.length+1) j2) vO1/\Tch F1 W wx/\OdAt wx E o)
  case first=>
   clear HC HFin HG2
   go_region_law (refine zej 0 5 40 m.all.length _ _ _ (World.ownsRow.drew HOw.o) (Nat.zero_le _) Tryz.infoOrderR rfl (by decide) rfl (by simp[Value.oneCell']) (by omega) (by decide) _ _ 125 Tryz.underlying125 rfl rfl rfl rfl ?_;intro v4 w4 hG4;obtain ⟨b2,j2,rfl,HG4,c4,z4⟩:=KEYH.out v4 w4 hG4;clear hG4)
   all_goals
    go_wp2_with fail
    go_meet
    exact⟨b2,j2,HG4.o⟩
  case rest=>
   obtain ⟨b2,j2,h1,h2,h3,h4⟩:=hcut
   obtain ⟨M2,hM2⟩: ∃M2,({M1 with all:=m.all++[o]}:Mk)=M2:=⟨_,rfl⟩
   have HM2a:Hid (M2.all=m.all++[o]):=by rw[←hM2];rfl
   have HM2p:Hid (M2.phase=m.phase):=by rw[←hM2];exact HM1p.o
   have HM2o:Hid (M2.out.length=m.out.length+1):=by rw[←hM2];exact HM1o.o
   rw[hM2] at h1 HG2 HC
   have hNc:N1<=wc.heap.size:=by rw[←HWs.o];exact h3.size
   have HM3:=zl h1
   have HF3:=zl h2
   have HT3:=zl h3
   have HO3:=zl h4
   have p6:wc.cell? ⟨B,6,none⟩=some (.int .i64 (m.phase:Nat)):=by rw[←HM2p.o];exact h1.cells 6 _ rfl
   have p10:=h1.cells 10 _ rfl
   have hlen:(M2.all).length=m.all.length+1:=by rw[HM2a.o];simp
   clear h1 h2 h3 h4 hM2 HM1a HM1p HM1o KEYH HOw HO2 q0 q1 q2 q3 q4 c10 f10 hB hN2 hN1
   obtain ⟨q0,q1,q2,q3,q4⟩:=HO3.o
   have hE5:IntKind.i64.wrap ((m.all.length:Int)+1-1)=(m.all.length:Int):=by rw[IntKind.wrap_i64];omega
   go_wp2_with fail
   refine Waits_of o _ (by rfl) B m.phase _ _ p6 ?_
   intro w5 hb5
   have HM5:=zl (HM3.o.ext hb5)
   have HO5:=zl (HO3.o.ext hb5)
   have HT5:Hid (Tch F1 W w5):=HT3.o.trans (Tch.of hb5)
   have hN5:N1<=w5.heap.size:=llt hNc hb5.size
   have p6':=zaa hb5 p6
   clear hb5 HM3 HO3 HT3 hNc p6 p10 q0 q1 q2 q3 q4 hE5
   by_cases hp:m.phase=1
   .rw[if_neg (by simp[hp])] at HC
    have fp:((m.phase:Int) !=1)=false:=by simp[hp]
    cases hw:wt m.phase o with
    |true=>
     rw[hw,if_pos rfl] at HC
     have hfin:Hid (R (.returned (.tuple #[])) w5):=HFin.o _ vO1 w5 (by rw[HC.o];exact HM5.o) HF3.o HT5.o
     go_wp2_with fail
     go_end0
     exact hfin.o
    |false=>
     rw[hw,if_neg (by simp)] at HC
     obtain ⟨g,rfl⟩: ∃g,b2=some ⟨g,0,none⟩:=by
      obtain ⟨g,cap',e,_⟩:=HM5.o.ownA 0 (by omega)
      simp only[Value.slice.injEq] at e
      exact⟨g,e.1⟩
     have HLen:=zl hlen
     have HK0:Hid (nth M2.all m.all.length=o):=by
      show _=_
      rw[HM2a.o]
      simp[nth]
     clear hlen
     go_wp2_with fail
     go_loopw [7,8] (fun _ _ wr=> ∃(f:Nat) (M:Mk) (vOx:Value),zbd o m.all.length o.rest M2=zbd o m.all.length f M/\(nth M.all m.all.length).rest<=f/\RM wr B c M (.slice (some ⟨g,0,none⟩) (m.all.length+1) j2) vOx/\Ft F1 N1 B (.slice (some ⟨g,0,none⟩) (m.all.length+1) j2) vOx/\Tch F1 W wr/\OdAt wr E o/\Gd M/\M.phase=m.phase/\M.all.length=m.all.length+1/\(nth M.all m.all.length).side=o.side) (fun _ _ wr=>(intOf ((wr.cell? ⟨g,m.all.length * 5+4,none⟩).getD undef)).toNat)
     case atStart=>exact⟨o.rest,M2,vO1,rfl,by rw[HK0.o];exact nr,HM5.o,HF3.o,HT5.o,HO5.o,HG2.o,HM2p.o,HLen.o,by rw[HK0.o]⟩
     case round=>
      obtain ⟨f,M,vOx,hMe,hfu,hMr,hFr,hTr,hOr,hGr,hMp,hMl,hMs⟩:=hrel
      have HMe:=zl hMe
      have HMr:=zl hMr
      have HFr:=zl hFr
      have HTr:=zl hTr
      have HOr:=zl hOr
      have HGr:=zl hGr
      have HMp:=zl hMp
      have HMl:=zl hMl
      have HMs:=zl hMs
      have hNr:N1<=wr.heap.size:=by rw[←HWs.o];exact hTr.size
      have HOut:Hid (M.out.length<=1048576):=by
       have h1:=meetM_out o m.all.length f M
       have h2:(zbd o m.all.length f M).out.length<=1000001:=by
        rw[←hMe]
        have:=HC.o
        rw[this] at hoo
        split at hoo
        .simp only[zav,zax,List.length_append,List.length_cons,List.length_nil] at hoo
         omega
        .omega
       show _<=_
       omega
      have HFu:=zl hfu
      obtain ⟨s0,s1,s2,s3,s4,s5⟩:=hMr.see hMl m.all.length (by omega)
      obtain ⟨q0,q1,q2,q3,q4⟩:=hOr
      have HC0:=zl s5
      clear hMe hMr hFr hTr hGr hMp hMl hMs hfu
      by_cases hr:(nth M.all m.all.length).rest=0
      .have HEnd:Hid (zbd o m.all.length f M=M):=zen o _ f M hr
       have HC':Hid (zce c m o=M):=by
        have:=HC.o
        rw[HMe.o,HEnd.o,if_neg (by rw[hr];omega)] at this
        exact this
       have fx: ¬(0:Int)<((nth M.all m.all.length).rest:Nat):=by omega
       have hfin:Hid (R (.returned (.tuple #[])) wr):=HFin.o _ vOx wr (by rw[HC'.o];exact HMr.o) HFr.o HTr.o
       by_cases ht:o.typ=2
       .have ft:((o.typ:Int)==2)=true:=by simp[ht]
        go_wp2_with fail
        go_end0
        exact hfin.o
       .have ft:((o.typ:Int)==2)=false:=by simp;omega
        go_wp2_with fail
        go_end0
        exact hfin.o
      .have fx:(0:Int)<((nth M.all m.all.length).rest:Nat):=by omega
       have hsd:IntKind.i64.wrap (3-(o.side:Int))=((3-o.side:Nat):Int):=by rw[IntKind.wrap_i64];omega
       obtain ⟨a',cap',hv,e⟩:=HMr.o.rv
       rw[HMl.o] at e
       simp only[Value.slice.injEq,true_and] at e
       obtain ⟨rfl,rfl⟩:=e
       have HVr:=zl hv
       clear hv
       go_wp2_with fail
       refine zkw B M.phase M.ref _ j2 M.all (3-o.side) _ _ HVr.o HGr.o.len ?_
       intro w6 hb6
       have HM6:=zl (HMr.o.ext hb6)
       have HO6:=zl (HOr.o.ext hb6)
       have HT6:Hid (Tch F1 W w6):=HTr.o.trans (Tch.of hb6)
       have hN6:N1<=w6.heap.size:=llt hNr hb6.size
       clear hb6 HVr
       rcases za8 M.phase M.all (3-o.side) M.all.length with hF|⟨j,hF,hj,hjb,hjs⟩
       .have HEnd:Hid (zbd o m.all.length f M=M):=zfh o _ f M hF
        rw[hF]
        clear s0 s1 s2 s3 s4 s5 q0 q1 q2 q3 q4 hF hsd
        have HC':Hid (zce c m o=if o.typ=2/\0<(nth M.all m.all.length).rest then zav M m.all.length else M):=by
         have:=HC.o
         rw[HMe.o,HEnd.o] at this
         exact this
        obtain ⟨s0,s1,s2,s3,s4,s5⟩:=HM6.o.see HMl.o m.all.length (by omega)
        obtain ⟨q0,q1,q2,q3,q4⟩:=HO6.o
        have hfz:=HM6.o.freeA (m.all.length * 5+4)
        generalize nth M.all m.all.length=X at *
        by_cases ht:o.typ=2
        .have ft:((o.typ:Int)==2)=true:=by simp[ht]
         by_cases hx:0<X.rest
         .rw[if_pos ⟨ht,hx⟩] at HC'
          have fx:(0:Int)<X.rest:=by omega
          go_wp2_with fail
          refine zdj B c M _ vOx m.all.length F1 N1 _ _ HM6.o HFr.o hN6 HGr.o.seq HOut.o (by rw[HMl.o];omega) (by rw[HMl.o];omega) ?_
          intro vO' w' h1 h2 h3
          have hfin:Hid (R (.returned (.tuple #[])) w'):=HFin.o _ vO' w' (by rw[HC'.o];exact h1) h2 (HT6.o.trans h3)
          clear h1 h2 h3
          go_wp2_with fail
          go_end0
          exact hfin.o
         .exact absurd (by omega) hx
        .rw[if_neg (fun h=>ht h.1)] at HC'
         have ft:((o.typ:Int)==2)=false:=by simp;omega
         have hfin:Hid (R (.returned (.tuple #[])) w6):=HFin.o _ vOx w6 (by rw[HC'.o];exact HM6.o) HFr.o HT6.o
         go_wp2_with fail
         go_end0
         exact hfin.o
       .rw[hF]
        obtain ⟨t0,t1,t2,t3,t4,t5⟩:=HM6.o.see HMl.o j (by rw[←HMl.o];exact hj)
        obtain ⟨q0,q1,q2,q3,q4⟩:=HO6.o
        have fj: ¬(j:Int)<0:=by omega
        have fj0:(0:Int)<=j:=by omega
        have fj1:(j:Int)<(m.all.length:Int)+1:=by have:=HMl.o;omega
        have hjn:j<m.all.length+1:=by rw[←HMl.o];exact hj
        have hjr:=zfo HGr.o j hj
        have hkr:=zfo HGr.o m.all.length (by rw[HMl.o];omega)
        have HJ:=zl2 hjb hjs
        have HFj:Hid (za0 M.phase M.all (3-o.side) M.all.length=j):=hF
        clear hF hjb hjs s0 s1 s2 s3 s4 s5 hsd
        go_wp2_with fail
        have HS6:Hid (w6.cell? ⟨E,0,none⟩=some (.int .i64 (o.id:Nat))/\w6.cell? ⟨E,1,none⟩=some (.int .i64 (o.side:Nat))/\w6.cell? ⟨E,2,none⟩=some (.int .i64 (o.typ:Nat))/\w6.cell? ⟨E,3,none⟩=some (.int .i64 (o.price:Nat))/\w6.cell? ⟨E,4,none⟩=some (.int .i64 (o.rest:Nat))/\w6.cell? ⟨B,10,none⟩=some (.slice (some ⟨g,0,none⟩) (m.all.length+1) j2)/\w6.cell? ⟨g,j * 5+3,none⟩=some (.int .i64 ((nth M.all j).price:Nat))):=⟨q0,q1,q2,q3,q4,t0,t4⟩
        go_region_held3 (fun w'=>w'.cell? ⟨E,0,none⟩=some (.int .i64 (o.id:Nat))/\w'.cell? ⟨E,1,none⟩=some (.int .i64 (o.side:Nat))/\w'.cell? ⟨E,2,none⟩=some (.int .i64 (o.typ:Nat))/\w'.cell? ⟨E,3,none⟩=some (.int .i64 (o.price:Nat))/\w'.cell? ⟨E,4,none⟩=some (.int .i64 (o.rest:Nat))/\w'.cell? ⟨B,10,none⟩=some (.slice (some ⟨g,0,none⟩) (m.all.length+1) j2)/\w'.cell? ⟨g,j * 5+3,none⟩=some (.int .i64 ((nth M.all j).price:Nat))) (first|assumption|exact HS6.o) (first|(go_at_call 143;refine takes_of o _ (by rfl) (nth M.all j).price _ _ ?_;intro w7 hb7';have hb7:Below w6.heap.size w6 w7:=Below.trans (br.drew) hb7';clear hb7';have hS7:_/\_/\_/\_/\_/\_/\_:=⟨zaa hb7 HS6.o.1,zaa hb7 HS6.o.2.1,zaa hb7 HS6.o.2.2.1,zaa hb7 HS6.o.2.2.2.1,zaa hb7 HS6.o.2.2.2.2.1,zaa hb7 HS6.o.2.2.2.2.2.1,zaa hb7 HS6.o.2.2.2.2.2.2⟩))
        clear hS7 HS6
        have HM7:=zl (HM6.o.ext hb7)
        have HO7:=zl (HO6.o.ext hb7)
        have HT7:Hid (Tch F1 W w7):=HT6.o.trans (Tch.of hb7)
        have hN7:N1<=w7.heap.size:=llt hN6 hb7.size
        clear hb7 HM6 HO6 HT6 HMr HOr HTr t0 t1 t2 t3 t4 t5 q0 q1 q2 q3 q4
        cases htk:tk o (nth M.all j).price with
        |false=>
         have HEnd:Hid (zbd o m.all.length f M=M):=zeu o _ f j M HFj.o htk
         clear htk
         have HC':Hid (zce c m o=if o.typ=2/\0<(nth M.all m.all.length).rest then zav M m.all.length else M):=by
          have:=HC.o
          rw[HMe.o,HEnd.o] at this
          exact this
         obtain ⟨s0,s1,s2,s3,s4,s5⟩:=HM7.o.see HMl.o m.all.length (by omega)
         obtain ⟨q0,q1,q2,q3,q4⟩:=HO7.o
         have hfz:=HM7.o.freeA (m.all.length * 5+4)
         generalize nth M.all m.all.length=X at *
         by_cases ht:o.typ=2
         .have ft:((o.typ:Int)==2)=true:=by simp[ht]
          by_cases hx:0<X.rest
          .rw[if_pos ⟨ht,hx⟩] at HC'
           have fx:(0:Int)<X.rest:=by omega
           go_wp2_with fail
           refine zdj B c M _ vOx m.all.length F1 N1 _ _ HM7.o HFr.o hN7 HGr.o.seq HOut.o (by rw[HMl.o];omega) (by rw[HMl.o];omega) ?_
           intro vO' w' h1 h2 h3
           have hfin:Hid (R (.returned (.tuple #[])) w'):=HFin.o _ vO' w' (by rw[HC'.o];exact h1) h2 (HT7.o.trans h3)
           clear h1 h2 h3
           go_wp2_with fail
           go_end0
           exact hfin.o
          .exact absurd (by omega) hx
         .rw[if_neg (fun h=>ht h.1)] at HC'
          have ft:((o.typ:Int)==2)=false:=by simp;omega
          have hfin:Hid (R (.returned (.tuple #[])) w7):=HFin.o _ vOx w7 (by rw[HC'.o];exact HM7.o) HFr.o HT7.o
          go_wp2_with fail
          go_end0
          exact hfin.o
        |true=>
         have HTK:=zl htk
         clear htk
         go_wp2_with fail
         obtain ⟨s0,s1,s2,s3,s4,s5⟩:=HM7.o.see HMl.o m.all.length (by omega)
         obtain ⟨_,t1,t2,t3,t4,t5⟩:=HM7.o.see HMl.o j hjn
         refine wp_region_still_tail 28 (by kernel_rfl) (by kernel_rfl) ?_
         simp only[List.take_succ_cons,List.take_zero,List.drop_succ_cons,List.drop_zero]
         have HM8:=zl (HM7.o.drew)
         have HO8:Hid (OdAt w7.drew E o):=HO7.o.ext br.drew
         have HT8:Hid (Tch F1 W w7.drew):=HT7.o.trans (Tch.of br.drew)
         have hN8:N1<=w7.drew.heap.size:=hN7
         change wpStill _ _ w7.drew (fun a'=>wpList _ _ _ _ a' w7.drew) _ _
         generalize w7.drew=w8 at *
         clear s0 s1 s2 s3 s4 s5 t1 t2 t3 t4 t5 HM7 HO7 HT7 hN7
         obtain ⟨s0,s1,s2,s3,s4,s5⟩:=HM8.o.see HMl.o m.all.length (by omega)
         obtain ⟨_,t1,t2,t3,t4,t5⟩:=HM8.o.see HMl.o j hjn
         have fk0:(0:Int)<=(m.all.length:Int):=by omega
         have fk1:(m.all.length:Int)<(m.all.length:Int)+1:=by omega
         repeat still_step
         still_call (zga _ _ _ _ ⟨rfl,rfl⟩)
         repeat still_step
         refine wpStill_nil ?_
         have HNe:Hid (m.all.length≠j):=fun e=>by
          have h1:=HMs.o
          have h2:=HJ.o.2
          rw[e] at h1
          omega
         rcases hos with hsd1|hsd1
         .have hgo:Hid (zbd o m.all.length o.rest M2=zbd o m.all.length (f-1) (za3 M m.all.length j (min (nth M.all m.all.length).rest (nth M.all j).rest) (nth M.all j).price)):=by
           show _=_
           rw[HMe.o]
           have:=zem o m.all.length (f-1) j M hr HFj.o HTK.o
           rw[show f-1+1=f from by have:=HFu.o;omega,if_pos hsd1] at this
           exact this
          have HSd:=zl hsd1
          clear hsd1
          go_wp2_with fail
          refine zj7 B c M _ vOx m.all.length j (min (nth M.all m.all.length).rest (nth M.all j).rest) (nth M.all j).price F1 N1 _ _ HM8.o HFr.o hN8 HGr.o.seq HOut.o (by rw[HMl.o];omega) (by rw[HMl.o];omega) HGr.o.len (by rw[HMs.o];exact HSd.o) HNe.o (Nat.min_le_left _ _) (Nat.min_le_right _ _) (by omega) (by omega) ?_
          intro vO' w' h1 h2 h3
          have hK:nth (za3 M m.all.length j (min (nth M.all m.all.length).rest (nth M.all j).rest) (nth M.all j).price).all m.all.length={nth M.all m.all.length with rest:=(nth M.all m.all.length).rest-min (nth M.all m.all.length).rest (nth M.all j).rest}:=by
           rw[zff M m.all.length j _ _ m.all.length (by rw[HMl.o];omega) (by rw[HMl.o];omega) HNe.o,if_pos (.inl rfl)]
          have hLn:(za3 M m.all.length j (min (nth M.all m.all.length).rest (nth M.all j).rest) (nth M.all j).price).all.length=m.all.length+1:=by rw[zd1,HMl.o]
          have hcell:=(h1.see hLn m.all.length (by omega)).2.2.2.2.2
          rw[hK] at hcell
          have hpr:(nth M.all j).price<=4294967295:=HGr.o.price _ (by unfold nth;simp[List.getD,hj])
          have hmin:0<min (nth M.all m.all.length).rest (nth M.all j).rest:=by have:=zeb HJ.o.1;omega
          have HX:Hid ((∃(f:Nat) (M:Mk) (vOx:Value),zbd o m.all.length o.rest M2=zbd o m.all.length f M/\(nth M.all m.all.length).rest<=f/\RM w' B c M (.slice (some ⟨g,0,none⟩) (m.all.length+1) j2) vOx/\Ft F1 N1 B (.slice (some ⟨g,0,none⟩) (m.all.length+1) j2) vOx/\Tch F1 W w'/\OdAt w' E o/\Gd M/\M.phase=m.phase/\M.all.length=m.all.length+1/\(nth M.all m.all.length).side=o.side)/\(intOf ((w'.cell? ⟨g,m.all.length * 5+4,none⟩).getD undef)).toNat<(intOf ((wr.cell? ⟨g,m.all.length * 5+4,none⟩).getD undef)).toNat):=by
           refine⟨⟨f-1,za3 M m.all.length j (min (nth M.all m.all.length).rest (nth M.all j).rest) (nth M.all j).price,vO',hgo.out,by rw[hK];have:=HFu.o;simp only;omega,h1,h2,HT8.o.trans h3,HO8.o.tch h3 HEn.o,HGr.o.trade _ _ _ _ hpr,HMp.o,hLn,by rw[hK];exact HMs.o⟩,?_⟩
           rw[hcell,HC0.o]
           simp only[Option.getD_some,intOf,Int.toNat_natCast]
           omega
          clear h1 h2 h3 hK hLn hcell hgo s0 s1 s2 s3 s4 s5 t1 t2 t3 t4 t5
          go_wp2_with fail
          go_roundw
          case rel=>first|exact HX.o.1|((repeat apply Exists.intro);exact⟨HX.o.1,rfl⟩)
          case measure=>exact HX.o.2
         .have hgo:Hid (zbd o m.all.length o.rest M2=zbd o m.all.length (f-1) (za3 M j m.all.length (min (nth M.all m.all.length).rest (nth M.all j).rest) (nth M.all j).price)):=by
           show _=_
           rw[HMe.o]
           have:=zem o m.all.length (f-1) j M hr HFj.o HTK.o
           rw[show f-1+1=f from by have:=HFu.o;omega,if_neg (by omega)] at this
           exact this
          have HSd:=zl hsd1
          clear hsd1
          go_wp2_with fail
          refine trade_sell B c M _ vOx j m.all.length (min (nth M.all m.all.length).rest (nth M.all j).rest) (nth M.all j).price F1 N1 _ _ HM8.o HFr.o hN8 HGr.o.seq HOut.o (by rw[HMl.o];omega) (by rw[HMl.o];omega) HGr.o.len (by rw[HJ.o.2,HSd.o]) (by rw[HMs.o];exact HSd.o) (Nat.min_le_right _ _) (Nat.min_le_left _ _) (by omega) (by omega) ?_
          intro vO' w' h1 h2 h3
          have hK:nth (za3 M j m.all.length (min (nth M.all m.all.length).rest (nth M.all j).rest) (nth M.all j).price).all m.all.length={nth M.all m.all.length with rest:=(nth M.all m.all.length).rest-min (nth M.all m.all.length).rest (nth M.all j).rest}:=by
           rw[zff M j m.all.length _ _ m.all.length (by rw[HMl.o];omega) (by rw[HMl.o];omega) HNe.o.symm,if_pos (.inr rfl)]
          have hLn:(za3 M j m.all.length (min (nth M.all m.all.length).rest (nth M.all j).rest) (nth M.all j).price).all.length=m.all.length+1:=by rw[zd1,HMl.o]
          have hcell:=(h1.see hLn m.all.length (by omega)).2.2.2.2.2
          rw[hK] at hcell
          have hpr:(nth M.all j).price<=4294967295:=HGr.o.price _ (by unfold nth;simp[List.getD,hj])
          have hmin:0<min (nth M.all m.all.length).rest (nth M.all j).rest:=by have:=zeb HJ.o.1;omega
          have HX:Hid ((∃(f:Nat) (M:Mk) (vOx:Value),zbd o m.all.length o.rest M2=zbd o m.all.length f M/\(nth M.all m.all.length).rest<=f/\RM w' B c M (.slice (some ⟨g,0,none⟩) (m.all.length+1) j2) vOx/\Ft F1 N1 B (.slice (some ⟨g,0,none⟩) (m.all.length+1) j2) vOx/\Tch F1 W w'/\OdAt w' E o/\Gd M/\M.phase=m.phase/\M.all.length=m.all.length+1/\(nth M.all m.all.length).side=o.side)/\(intOf ((w'.cell? ⟨g,m.all.length * 5+4,none⟩).getD undef)).toNat<(intOf ((wr.cell? ⟨g,m.all.length * 5+4,none⟩).getD undef)).toNat):=by
           refine⟨⟨f-1,za3 M j m.all.length (min (nth M.all m.all.length).rest (nth M.all j).rest) (nth M.all j).price,vO',hgo.out,by rw[hK];have:=HFu.o;simp only;omega,h1,h2,HT8.o.trans h3,HO8.o.tch h3 HEn.o,HGr.o.trade _ _ _ _ hpr,HMp.o,hLn,by rw[hK];exact HMs.o⟩,?_⟩
           rw[hcell,HC0.o]
           simp only[Option.getD_some,intOf,Int.toNat_natCast]
           omega
          clear h1 h2 h3 hK hLn hcell hgo s0 s1 s2 s3 s4 s5 t1 t2 t3 t4 t5
          go_wp2_with fail
          go_roundw
          case rel=>first|exact HX.o.1|((repeat apply Exists.intro);exact⟨HX.o.1,rfl⟩)
          case measure=>exact HX.o.2
   .rw[if_pos hp] at HC
    have fp:((m.phase:Int) !=1)=true:=by simp;omega
    go_wp2_with fail
    refine zby B c M2 _ vO1 6 F1 N1 _ _ HM5.o HF3.o hN5 HG2.o.seq (by rw[HM2o.o];omega) HG2.o.bds ?_
    intro vO' w' h1 h2 h3
    have hfin:Hid (R (.returned (.tuple #[])) w'):=HFin.o _ vO' w' (by rw[HC.o];exact h1) h2 (HT5.o.trans h3)
    clear h1 h2 h3
    go_wp2_with fail
    go_end0
    exact hfin.o
 .have HC:Hid (zce c m o=zbh m o.id (zbc c m o)):=by
   show _=_
   unfold zce
   rw[if_pos hr0]
  generalize zbc c m o=why at *
  have fw:((why:Int) !=0)=true:=by simp;omega
  go_wp2_with fail
  refine zbz B c m vA vO o.id why F1 N1 _ _ HM1.o HF1.o hN1 HG.o.seq (by omega) ?_
  intro vO' w' h1 h2 h3
  have hfin:=zl (HFin.o vA vO' w' (by rw[HC.o];exact h1) h2 (HT1.o.trans h3))
  clear h1 h2 h3
  go_wp2_with fail
  go_end0
  exact hfin.o
