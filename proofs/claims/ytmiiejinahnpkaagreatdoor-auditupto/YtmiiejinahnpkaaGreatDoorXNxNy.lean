import Derived.Test.YtmiiejinahnpkaaGreatDoorXNuNw
set_option maxRecDepth 100000
set_option maxHeartbeats 4000000
namespace Go.Proofs.YtmiiejinahnpkaaGreatDoor
section
open Go.RowKit Go.Shelf
theorem kbshows_any (base Z:Nat)(B:Bo)(ai:Option Addr)(ci:Nat)(ar:Option Addr)(cr:Nat)(a:Option Addr)(cc ph:Nat)(l:List Od)(w:World)(R:EW)(h:BoAt w base Z B ai ci ar cr)(hn:B.ids.length<=1048576)
  (hi:B.ids=l.map Od.id)(hr:B.rests=l.map Od.rest)(hO:OrdsAt w a ph (zfg l))
  (hR: ∀w',Below w.heap.size w w'->R (.returned (.bool true)) w'):
  Calls Tryz.prog 25 #[.pointer (some ⟨Z,0,none⟩),.slice a (zfg l).length cc] w R:=by
 have HR:=zl hR
 have H:=zl h
 have HO:=zl hO
 obtain ⟨n,hnn⟩: ∃y,y=B.ids.length:=⟨_,rfl⟩
 have HN:Hid (B.ids.length=n/\l.length=n):=⟨hnn.symm,by rw[hnn,hi];simp⟩
 have HI:Hid (B.ids=l.map Od.id/\B.rests=l.map Od.rest):=⟨hi,hr⟩
 rw[←hnn] at hn
 obtain ⟨t,ht⟩: ∃y,y=(zfg l).length:=⟨_,rfl⟩
 have htn:t<=n:=by rw[ht,hnn,hi];simp only[List.length_map];exact List.length_filter_le _ _
 have HT:=zl (ht.symm)
 rw[←ht]
 clear hR h hO hnn hi hr ht
 go_enter Tryz.func25,Tryz.ntmps25
 go_wp2_with fail
 go_loopw [5,6] (fun u v wr=> ∃i:Nat,i<=n/\u= .int .i64 ((zfg (l.take i)).length:Nat)/\v= .int .i64 i/\Below w.heap.size w wr) (fun _ v _=>n-(intOf v).toNat)
 case atStart=>exact⟨0,Nat.zero_le _,by simp[zfg],rfl,br⟩
 case round=>
  obtain ⟨i,hi,rfl,rfl,hbr⟩:=hrel
  have HBr:=zl hbr
  have HZ:=H.o.ext hbr
  have z0:wr.cell? ⟨Z,0,none⟩=some (.slice ai n ci):=by have:=cell_of_row wr Z 0 _ _ (0,0) HZ.blk;rw[HN.o.1] at this;exact this
  have z1:wr.cell? ⟨Z,1,none⟩=some (.slice ar n cr):=by have:=cell_of_row wr Z 1 _ _ (0,0) HZ.blk;rw[HN.o.1] at this;exact this
  clear hbr
  by_cases hlt:i<n
  .have hil:i<l.length:=by rw[HN.o.2];exact hlt
   obtain ⟨g,e,hc⟩:=HZ.id (i:=i) (by rw[HN.o.1];exact hlt)
   subst e
   obtain ⟨g2,e2,hc2,-⟩:=HZ.rest (i:=i) (by rw[HN.o.1];exact hlt)
   subst e2
   rw[HI.o.1,ids_get l i hil] at hc
   rw[HI.o.2,rests_get l i hil] at hc2
   have HS:Hid (zfg (l.take (i+1))=zfg (l.take i)++if 0<(nth l i).rest then [nth l i] else []):=shown_take l i hil
   have hi0:(0:Int)<=(i:Int):=by omega
   have hi1:(i:Int)<(n:Int):=by omega
   by_cases hq:(nth l i).rest=0
   .rw[hq] at hc2
    have HS1:Hid ((zfg (l.take (i+1))).length=(zfg (l.take i)).length):=by rw[HS.o,if_neg (by omega),List.append_nil];rfl
    clear HZ HS
    obtain ⟨k,hk⟩: ∃y,y=(zfg (l.take i)).length:=⟨_,rfl⟩
    rw[←hk] at HS1
    rw[←hk]
    clear hk hq hil
    go_wp2_with fail
    go_roundw
    case rel=>exact⟨i+1,by omega,by rw[HS1.o],by go_num,HBr.o⟩
    case measure=>simp only[intOf];omega
   .have hr0:0<(nth l i).rest:=by omega
    obtain ⟨hk1,hk2⟩:=shown_at l i hil hr0
    obtain ⟨g3,o3,rfl,x0,-,-,-,x4,-⟩:=(HO.o.ext HBr.o) _ hk1
    rw[hk2] at x0 x4
    have HS1:Hid ((zfg (l.take (i+1))).length=(zfg (l.take i)).length+1):=by rw[HS.o,if_pos hr0,List.length_append];rfl
    rw[HT.o] at hk1
    obtain ⟨k,hk⟩: ∃y,y=(zfg (l.take i)).length:=⟨_,rfl⟩
    rw[←hk] at HS1 x0 x4 hk1
    rw[←hk]
    obtain ⟨r,hr⟩: ∃y,y=(nth l i).rest:=⟨_,rfl⟩
    obtain ⟨d,hd⟩: ∃y,y=(nth l i).id:=⟨_,rfl⟩
    rw[←hr] at hc2 x4 hr0
    rw[←hd] at hc x0
    have hk0:(0:Int)<=(k:Int):=by omega
    have hk1':(k:Int)<(t:Int):=by omega
    have hbr0:((r:Int)==0)=false:=by simp;omega
    clear HZ HS hk hk2 hr hd hq hil
    go_wp2_with fail
    have hkge:decide ((t:Int)<=(k:Int))=false:=by simp;omega
    have bdd:((d:Int) !=(d:Int))=false:=by simp
    have brr:((r:Int) !=(r:Int))=false:=by simp
    go_quiet (fail)
    have HBV:Hid (Below w.heap.size w (wr.drewN nq)):=HBr.o.trans ((below_drewN br _).mono HBr.o.size)
    generalize wr.drewN nq=V at *
    go_wp2_with fail
    go_roundw
    case rel=>exact⟨i+1,by omega,by rw[HS1.o];go_num,by go_num,HBV.o⟩
    case measure=>simp only[intOf];omega
  .have hin:i=n:=by omega
   subst hin
   have hfin:=zl (HR.o wr HBr.o)
   have HE:Hid ((zfg (l.take i)).length=t):=by rw[show l.take i=l by rw[←HN.o.2];exact List.take_length];exact HT.o
   rw[HE.o]
   clear HZ
   go_wp2_with fail
   exact hfin.o
end
section
open Go.RowKit Go.Shelf
structure Kb (w0 w:World) (P:Nat) (b:Bk) (c:Cf) (m:Mk) (k Z:Nat) (B:Bo) (ai:Option Addr) (ci:Nat) (ar:Option Addr) (cr:Nat):Prop where
 km:Km w0 w P b c m k
 bo:BoAt w w0.heap.size Z B ai ci ar cr
 off: ∀g,BoOwn Z (.slice ai B.ids.length ci) (.slice ar B.ids.length cr) g-> ¬Own P b g
section
variable {w0 w w':World} {P:Nat} {b b':Bk} {c:Cf} {m M:Mk} {k Z:Nat} {B B':Bo} {ai ar ai' ar':Option Addr} {ci cr ci' cr':Nat}
theorem Kb.ext (h:Kb w0 w P b c m k Z B ai ci ar cr)(hb:Below w.heap.size w w'):Kb w0 w' P b c m k Z B ai ci ar cr:=⟨h.km.ext hb,h.bo.ext hb,h.off⟩
theorem Kb.sent (h:Kb w0 w P b c m k Z B ai ci ar cr)(hk:Km w0 w' P b' c M (k+1))(hm:Mv P w b w' b'):Kb w0 w' P b' c M (k+1) Z B ai ci ar cr:=by
 refine⟨hk,h.bo.keep fun g hg=>hm.tch.blk g (h.bo.lt g hg).2 (h.off g hg),fun g hg ho=>?_⟩
 rcases ho with rfl|ho
 .exact h.off g hg (.inl rfl)
 .rcases hm.bf g ho with e|e
  .exact h.off g hg (.inr e)
  .have:=(h.bo.lt g hg).2
   omega
theorem Kb.noted (h:Kb w0 w P b c m k Z B ai ci ar cr)(hb:BoAt w' w0.heap.size Z B' ai' ci' ar' cr')(ho: ∀g,BoOwn Z (.slice ai' B'.ids.length ci') (.slice ar' B'.ids.length cr') g->BoOwn Z (.slice ai B.ids.length ci) (.slice ar B.ids.length cr) g\/w.heap.size<=g)(ht:Tch (BoOwn Z (.slice ai B.ids.length ci) (.slice ar B.ids.length cr)) w w'):Kb w0 w' P b c m k Z B' ai' ci' ar' cr':=by
 refine⟨⟨h.km.ps.keep fun g hg=>ht.blk g (h.km.ps.lt hg) fun e=>h.off g e hg,h.km.low,h.km.bel.trans (ht.low h.km.bel.size fun g hg=>(h.bo.lt g hg).1),h.km.ct,h.km.co,h.km.lv,h.km.ids,h.km.len⟩,hb,fun g hg how=>?_⟩
 rcases ho g hg with e|e
 .exact h.off g e how
 .have:=h.km.ps.lt how
  omega
end
theorem Audit_any (x:Nat->Int)(sa:Option Addr)(n cs:Nat)(A:Nat->Option Addr)(N C:Nat->Nat)(Y:Nat->Nat->Nat)(w:World)(R:EW)(hn:n<=1048575)(hL:zcq w)(hC:CmdsAt w sa n A N C Y)
  (hR: ∀w',Below w.heap.size w w'->R (.returned (.bool true)) w'):Calls Tryz.prog 7 #[cfx x,.slice sa n cs] w R:=by
 have HR:=zl hR
 have HL:=zl hL
 have HC:=zl hC
 clear hR hL hC
 unfold cfx
 go_enter Tryz.func7,Tryz.ntmps7
 go_wp2_with fail
 obtain ⟨w1,hw1⟩: ∃y,y=w.alloc (.cells #[.int .i64 (x 0),.int .i64 (x 1),.int .i64 (x 2),.int .i64 (x 3),.int .i64 (x 4),.int .i64 (x 5)] 46):=⟨_,rfl⟩
 have HB1:Hid (Below w.heap.size w w1):=by rw[hw1];exact br.alloc nr _
 rw[←hw1]
 clear hw1
 refine kOpened_any x w1 _ (zcq.below HL.o HB1.o nr) ?_ ?_
 .intro _ w2 hb2
  have hfin:Hid (R (.returned (.bool true)) w2):=HR.o w2 (HB1.o.trans (hb2.mono HB1.o.size))
  clear hb2
  go_wp2_with fail
  exact hfin.o
 .intro hok P b w2 hb2 ho2 hp2
  have HK2:Hid (Km w w2 P b (cfOf x) (newM (cfOf x)) 0):=Km.new hok (HB1.o.trans (hb2.mono HB1.o.size)) (fun g hg=>llt HB1.o.size (ho2 g hg)) hp2
  have HI2:Hid (Iv (newM (cfOf x))):=Iv.new (by
   obtain ⟨q1,q2,-⟩:=hok
   show 1<=(x 0).toNat/\(x 0).toNat<=1000000
   omega)
  generalize cfOf x=c at *
  clear hok hb2 ho2 hp2
  go_wp2_with fail
  obtain ⟨Z,hZ⟩: ∃y,y=w2.heap.size:=⟨_,rfl⟩
  obtain ⟨w3,hw3⟩: ∃y,y=w2.alloc (.cells #[.slice none 0 0,.slice none 0 0,.int .i64 0] 59):=⟨_,rfl⟩
  have HK3:Hid (Kb w w3 P b c (newM c) 0 Z (bOf (newM c)) none 0 none 0):=by
   have hb3:Below w2.heap.size w2 w3:=by rw[hw3];exact zac w2 _
   refine⟨HK2.o.ext hb3,⟨?_,?_,World.ownsRow_nil _ _ _ _,World.ownsRow_nil _ _ _ _,fun g hg=>(by cases hg),fun g hg=>(by cases hg)⟩,?_⟩
   .rw[hw3,hZ]
    exact heap_alloc_new w2 _
   .rw[hZ]
    exact HK2.o.bel.size
   .rintro g (rfl|hg|hg) ho
    .have:=HK2.o.ps.lt ho
     omega
    .cases hg
    .cases hg
  rw[←hw3,←hZ]
  clear hw3 hZ HK2
  go_loopw [6,8,9,10,11,12] (fun _ t _ _ _ _ wr=> ∃(k:Nat) (b:Bk) (m:Mk) (ai:Option Addr) (ci:Nat) (ar:Option Addr) (cr:Nat),k<=n/\t= .int .i64 k/\Kb w wr P b c m k Z (bOf m) ai ci ar cr/\Iv m) (fun _ t _ _ _ _ _=>n-(intOf t).toNat)
  case atStart=>exact⟨0,b,_,none,0,none,0,Nat.zero_le _,rfl,HK3.o,HI2.o⟩
  case round=>
   clear HK3 HI2 b
   obtain ⟨k,b,m,ai,ci,ar,cr,hk,rfl,hK,hI⟩:=hrel
   have HK:=zl hK
   have HI:=zl hI
   clear hK hI
   by_cases hlt:k<n
   .obtain ⟨g,o,rfl,hc⟩:=HC.o.cell k hlt
    have hc5:=(HK.o.km.bel.cell (zab hc)).trans hc
    have hk0:(0:Int)<=(k:Int):=by omega
    have hk1:(k:Int)<(n:Int):=by omega
    clear hc
    go_wp2_with fail
    have hlen:=HC.o.len k hlt
    have hmk:=HK.o.km.len
    have HOK:Hid ((∀e∈(zaz c m (Y k) (N k)).out,okE e)/\(zaz c m (Y k) (N k)).out.length<=36):=HK.o.km.ok (HC.o.byt k) (by omega)
    refine kSent_any P b c m (A k) (N k) (C k) (Y k) w wr _ HK.o.km.ps HL.o HK.o.km.bel HK.o.km.low hlen.1 hlen.2 ((HC.o.bs k hlt).ext HK.o.km.bel) (HC.o.byt k) (fun h0 g o e=>lll (HC.o.low k hlt h0 g o e) HK.o.km.bel.size) (by omega) HK.o.km.ct HK.o.km.lv HK.o.km.co HOK.o.1 HOK.o.2 ?_
    intro b6 v6 w6 hp6 hm6 hv6 hs6
    have HK6:Hid (Kb w w6 P b6 c (zaz c m (Y k) (N k)) (k+1) Z (bOf m) ai ci ar cr):=HK.o.sent (HK.o.km.sent (HC.o.byt k) (by omega) hp6 hm6) hm6
    have HAu:Hid (Notes (bOf m) (zaz c m (Y k) (N k)).out (bOf (zaz c m (Y k) (N k)))/\Iv (zaz c m (Y k) (N k))):=send_au c m (Y k) (N k) HI.o
    have HB0:Hid ((bOf m).seq<=4294967295/\ ∀j,(bOf m).rests.getD j 0<=4294967295):=by
     refine⟨HK.o.km.ps.pv.gd.seq,fun j=>?_⟩
     by_cases hj:j<m.all.length
     .show (m.all.map Od.rest).getD j 0<=_
      rw[rests_get _ _ hj]
      exact llt (zfo HK.o.km.ps.pv.gd j hj) (by decide)
     .show (m.all.map Od.rest).getD j 0<=_
      simp[List.getD,hj]
    have HS6:Hid (∀g,BoOwn Z (.slice ai (bOf m).ids.length ci) (.slice ar (bOf m).ids.length cr) g->g<wr.heap.size):=fun g hg=>(HK.o.bo.lt g hg).2
    generalize zaz c m (Y k) (N k)=M at *
    generalize bOf m=B at *
    obtain ⟨E,hE⟩: ∃E,E=M.out:=⟨_,rfl⟩
    unfold Evs at hv6
    rw[←hE] at hv6 HAu HOK
    obtain ⟨a6,c6,e6⟩:=zar hv6
    subst e6
    have HV6:=zl hv6
    obtain ⟨G0,hG0⟩: ∃y,y=wr.heap.size:=⟨_,rfl⟩
    rw[←hG0] at HV6 HS6
    have hE36:E.length<=36:=HOK.o.2
    clear hp6 hm6 hv6 hE hs6 HK HI hc5 hmk hG0
    go_wp2_with fail
    go_loopw [6,11] (fun _ t wq=> ∃(j:Nat) (B:Bo) (ai:Option Addr) (ci:Nat) (ar:Option Addr) (cr:Nat),j<=E.length/\t= .int .i64 j/\Kb w wq P b6 c M (k+1) Z B ai ci ar cr/\Notes B (E.drop j) (bOf M)/\B.seq<=4294967295/\(∀j,B.rests.getD j 0<=4294967295)/\wq.ownsRow G0 42 10 (.slice a6 E.length c6) E.length (evcs E)/\ ∀g,BoOwn Z (.slice ai B.ids.length ci) (.slice ar B.ids.length cr) g->(Value.slice a6 E.length c6).ownBlock≠some g) (fun _ t _=>E.length-(intOf t).toNat)
    case atStart=>
     refine⟨0,B,ai,ci,ar,cr,Nat.zero_le _,rfl,HK6.o,HAu.o.1,HB0.o.1,HB0.o.2,HV6.o,fun g hg e=>?_⟩
     have h1:=(HV6.o.lt g e).1
     have h2:=HS6.o g hg
     omega
    case round=>
     clear HK6 HB0 HV6 HS6
     obtain ⟨j,B,ai,ci,ar,cr,hj,rfl,hK,hNo,hsq,hrs,hV,hoff⟩:=hrel
     have HKq:=zl hK
     have HVq:=zl hV
     have HOff:=zl hoff
     have HB:Hid (B.seq<=4294967295/\ ∀j,B.rests.getD j 0<=4294967295):=⟨hsq,hrs⟩
     have hlM:=HKq.o.km.len
     clear hK hV hoff hsq hrs
     by_cases hje:j<E.length
     .obtain ⟨g6,o6,rfl,hc⟩:=evsAt_own HVq.o j hje
      obtain ⟨e,he⟩: ∃y,y=evAt E j:=⟨_,rfl⟩
      have hd:E.drop j=e::E.drop (j+1):=by
       rw[List.drop_eq_getElem_cons hje,he]
       simp[evAt,List.getD,hje]
      have hokE:okE e:=HOK.o.1 e (by rw[he];simp[evAt,List.getD,hje])
      rw[←he] at hc
      rw[hd] at hNo
      obtain ⟨B1,hN1,hN2⟩:=hNo
      have hBl:B.ids.length<=1048575:=by
       have h1:=Notes.len (show Notes B (e::E.drop (j+1)) (bOf M) from ⟨B1,hN1,hN2⟩)
       have h2:(bOf M).ids.length=M.all.length:=by simp[bOf]
       omega
      have HF:Hid (B1.seq<=4294967295/\B.ids.length<=B1.ids.length/\ ∀j,B1.rests.getD j 0<=4294967295):=hN1.facts HB.o.2 (fun h0=>ok_qty hokE h0)
      have HN1:Hid (Note B e B1/\Notes B1 (E.drop (j+1)) (bOf M)/\B.ids.length<=1048575):=⟨hN1,hN2,hBl⟩
      have d0:=hc 0 (by decide)
      have d1:=hc 1 (by decide)
      have d2:=hc 2 (by decide)
      have d3:=hc 3 (by decide)
      have d4:=hc 4 (by decide)
      have d5:=hc 5 (by decide)
      have d6:=hc 6 (by decide)
      have d7:=hc 7 (by decide)
      have d8:=hc 8 (by decide)
      have d9:=hc 9 (by decide)
      rw[Nat.add_zero] at d0
      have hj0:(0:Int)<=(j:Int):=by omega
      have hj1:(j:Int)<(E.length:Int):=by omega
      clear hc hd he hokE hN1 hN2 hBl hlM
      go_wp2_with fail
      refine kbnotes_any w.heap.size Z B B1 ai ci ar cr e wr _ HKq.o.bo HB.o.1 HN1.o.2.2 HB.o.2 HN1.o.1 ?_
      intro ai' ci' ar' cr' w7 hb7 ho7 ht7
      have HK7:=zl (HKq.o.noted hb7 ho7 ht7)
      have HV7:Hid (w7.ownsRow G0 42 10 (.slice (some ⟨g6,o6,none⟩) E.length c6) E.length (evcs E)):=zb6 HVq.o (fun q hq=>ht7.blk q (HVq.o.lt q hq).2 (fun e=>HOff.o q e hq))
      have HO7:Hid (∀g,BoOwn Z (.slice ai' B1.ids.length ci') (.slice ar' B1.ids.length cr') g->(Value.slice (some ⟨g6,o6,none⟩) E.length c6).ownBlock≠some g):=fun g hg e=>by
       rcases ho7 g hg with h|h
       .exact HOff.o g h e
       .have:=(HVq.o.lt g e).2
        omega
      clear hb7 ho7 ht7 d0 d1 d2 d3 d4 d5 d6 d7 d8 d9
      go_wp2_with fail
      go_roundw
      case rel=>exact⟨j+1,B1,ai',ci',ar',cr',by omega,by go_num,HK7.o,HN1.o.2.1,HF.o.1,HF.o.2.2,HV7.o,HO7.o⟩
      case measure=>simp only[intOf];omega
     .have hje':j=E.length:=by omega
      subst hje'
      have hBM:B=bOf M:=by
       rw[List.drop_length] at hNo
       exact hNo
      subst hBM
      clear hNo
      go_wp2_with fail
      refine pOrders_any P b6 c M _ wr _ HKq.o.km.ps ?_
      intro v8 w8 hb8 hv8
      obtain ⟨a8,c8,e8⟩:=zar hv8
      subst e8
      have HK8:=zl (HKq.o.ext hb8)
      have HO8:Hid (OrdsAt w8 a8 M.phase (zfg M.all)):=ordsAt_own hv8
      have hl8:(bOf M).ids.length<=1048576:=by simp only[bOf,List.length_map];omega
      clear hb8 hv8 HKq HVq HOff
      go_wp2_with fail
      refine kbshows_any w.heap.size Z (bOf M) ai ci ar cr a8 c8 M.phase M.all w8 _ HK8.o.bo hl8 rfl rfl HO8.o ?_
      intro w9 hb9
      have HK9:=zl (HK8.o.ext hb9)
      clear hb9 HK8 HO8 hl8
      go_wp2_with fail
      refine pLook_any P b6 c {M with seq:=M.seq} M.phase w9 _ HK9.o.km.ps.pm ?_
      intro w10 hb10
      rw[show lookv {M with seq:=M.seq}= .agg #[.int .i64 M.phase,.int .i64 M.time,.int .i64 M.ref,.int .i64 M.seq] from rfl]
      obtain ⟨w11,hw11⟩: ∃y,y=w10.alloc (.cells #[.int .i64 M.phase,.int .i64 M.time,.int .i64 M.ref,.int .i64 M.seq] 67):=⟨_,rfl⟩
      obtain ⟨G2,hG2⟩: ∃y,y=w10.heap.size:=⟨_,rfl⟩
      have hb11:Below w9.heap.size w9 w11:=by rw[hw11];exact hb10.alloc hb10.size _
      have HK11:=zl (HK9.o.ext hb11)
      have HG:Hid (w11.heap[G2]?=some (.cells #[.int .i64 M.phase,.int .i64 M.time,.int .i64 M.ref,.int .i64 M.seq] 67 (0,0))):=by rw[hw11,hG2];exact heap_alloc_new w10 _
      clear hb10 hb11 HK9
      go_wp2_with fail
      rw[←hw11,←hG2]
      clear hw11 hG2
      obtain ⟨s,hs⟩: ∃y,y=M.seq:=⟨_,rfl⟩
      have p3:w11.cell? ⟨G2,3,none⟩=some (.int .i64 (s:Nat)):=by rw[hs];exact cell_of_row w11 G2 3 _ _ (0,0) HG.o
      have q2:w11.cell? ⟨Z,2,none⟩=some (.int .i64 (s:Nat)):=by rw[hs];exact cell_of_row w11 Z 2 _ _ (0,0) HK11.o.bo.blk
      have bss:((s:Int) !=(s:Int))=false:=by simp
      clear hs HG
      go_quiet (fail)
      have HKV:Hid (Kb w (w11.drewN nq) P b6 c M (k+1) Z (bOf M) ai ci ar cr):=HK11.o.ext (below_drewN br _)
      generalize w11.drewN nq=V at *
      go_wp2_with fail
      go_roundw
      case rel=>exact⟨k+1,b6,M,ai,ci,ar,cr,by omega,by go_num,HKV.o,HAu.o.2⟩
      case measure=>simp only[intOf];omega
   .have hin:k=n:=by omega
    subst hin
    go_wp2_with fail
    refine pOrders_any P b c m _ wr _ HK.o.km.ps ?_
    intro v8 w8 hb8 hv8
    obtain ⟨a8,c8,e8⟩:=zar hv8
    subst e8
    have HK8:=zl (HK.o.ext hb8)
    have HO8:Hid (OrdsAt w8 a8 m.phase (zfg m.all)):=ordsAt_own hv8
    have hl8:(bOf m).ids.length<=1048576:=by have:=HK8.o.km.len;simp only[bOf,List.length_map];omega
    clear hb8 hv8 HK
    go_wp2_with fail
    refine kbshows_any w.heap.size Z (bOf m) ai ci ar cr a8 c8 m.phase m.all w8 _ HK8.o.bo hl8 rfl rfl HO8.o ?_
    intro w9 hb9
    have hfin:Hid (R (.returned (.bool true)) w9):=HR.o w9 (HK8.o.ext hb9).km.bel
    clear hb9
    go_wp2_with fail
    exact hfin.o
end
