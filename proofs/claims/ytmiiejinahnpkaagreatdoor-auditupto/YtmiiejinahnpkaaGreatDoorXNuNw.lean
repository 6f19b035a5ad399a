import Derived.Test.YtmiiejinahnpkaaGreatDoorXNsNt
import Derived.Test.YtmiiejinahnpkaaGreatDoorNk
set_option maxRecDepth 8000
set_option maxHeartbeats 2000000
namespace Go.Proofs.YtmiiejinahnpkaaGreatDoor
section
open Go.RowKit Go.Shelf
structure BoAt (w:World) (base Z:Nat) (B:Bo) (ai:Option Addr) (ci:Nat) (ar:Option Addr) (cr:Nat):Prop where
 blk:w.heap[Z]?=some (.cells #[.slice ai B.ids.length ci,.slice ar B.ids.length cr,.int .i64 (B.seq:Nat)] 59 (0,0))
 low:base<=Z
 ri:w.ownsRow base 3 1 (.slice ai B.ids.length ci) B.ids.length (B.ids.map fun x=>iv (x:Nat))
 rr:w.ownsRow base 3 1 (.slice ar B.ids.length cr) B.ids.length (B.rests.map fun x=>iv (x:Nat))
 zi: ∀g,(Value.slice ai B.ids.length ci).ownBlock=some g->g≠Z/\(Value.slice ar B.ids.length cr).ownBlock≠some g
 zr: ∀g,(Value.slice ar B.ids.length cr).ownBlock=some g->g≠Z
section
variable {w w':World} {base Z:Nat} {B:Bo} {ai ar:Option Addr} {ci cr:Nat}
theorem BoAt.ext (h:BoAt w base Z B ai ci ar cr)(hb:Below w.heap.size w w'):BoAt w' base Z B ai ci ar cr:=
 ⟨zau hb h.blk,h.low,zbe h.ri hb,zbe h.rr hb,h.zi,h.zr⟩
theorem BoAt.lenr (h:BoAt w base Z B ai ci ar cr):B.rests.length=B.ids.length:=by simpa using h.rr.1
theorem BoAt.id (h:BoAt w base Z B ai ci ar cr){i:Nat}(hi:i<B.ids.length): ∃g,ai=some ⟨g,0,none⟩/\w.cell? ⟨g,i,none⟩=some (.int .i64 ((B.ids.getD i 0:Nat):Int)):=by
 obtain ⟨g,cap,e,-,-,-,hc,-⟩:=own_cellsK h.ri i (iv ((B.ids.getD i 0:Nat):Int)) (by simp[List.getD,hi])
 injection e with e
 exact⟨g,e,hc⟩
theorem BoAt.rest (h:BoAt w base Z B ai ci ar cr){i:Nat}(hi:i<B.ids.length): ∃g,ar=some ⟨g,0,none⟩/\w.cell? ⟨g,i,none⟩=some (.int .i64 ((B.rests.getD i 0:Nat):Int))/\w.frozen? ⟨g,i,none⟩=false:=by
 have hl:=h.lenr
 obtain ⟨g,cap,e,-,-,-,hc,hf⟩:=own_cellsK h.rr i (iv ((B.rests.getD i 0:Nat):Int)) (by simp[List.getD,show i<B.rests.length by omega])
 injection e with e
 exact⟨g,e,hc,hf⟩
end
theorem kbknown_any (base Z:Nat)(B:Bo)(ai:Option Addr)(ci:Nat)(ar:Option Addr)(cr:Nat)(id:Int)(w:World)(R:EW)(h:BoAt w base Z B ai ci ar cr)(hn:B.ids.length<=1048576)
  (hR: ∀bb w',Below w.heap.size w w'->((∀j,j<B.ids.length->((B.ids.getD j 0:Nat):Int)≠id)->bb=false)->R (.returned (.bool bb)) w'):
  Calls Tryz.prog 51 #[.pointer (some ⟨Z,0,none⟩),.int .i64 id] w R:=by
 have HR:=zl hR
 have H:=zl h
 clear hR h
 obtain ⟨n,hnn⟩: ∃y,y=B.ids.length:=⟨_,rfl⟩
 have HN:=zl (hnn.symm)
 rw[←hnn] at hn
 clear hnn
 go_enter Tryz.func51,Tryz.ntmps51
 go_wp2_with fail
 go_loopw [5] (fun t wr=> ∃i:Nat,i<=n/\t= .int .i64 i/\Below w.heap.size w wr) (fun t _=>n-(intOf t).toNat)
 case atStart=>exact⟨0,Nat.zero_le _,rfl,br⟩
 case round=>
  obtain ⟨i,hi,rfl,hbr⟩:=hrel
  have HBr:=zl hbr
  have HZ:=H.o.ext hbr
  have z0:wr.cell? ⟨Z,0,none⟩=some (.slice ai n ci):=by have:=cell_of_row wr Z 0 _ _ (0,0) HZ.blk;rw[HN.o] at this;exact this
  clear hbr
  by_cases hlt:i<n
  .obtain ⟨g,e,hc⟩:=HZ.id (i:=i) (by rw[HN.o];exact hlt)
   subst e
   obtain ⟨q,hq⟩: ∃y,y=B.ids.getD i 0:=⟨_,rfl⟩
   rw[←hq] at hc
   have hi0:(0:Int)<=(i:Int):=by omega
   have hi1:(i:Int)<(n:Int):=by omega
   by_cases he:(q:Int)=id
   .have hfin:Hid (∀w',Below w.heap.size w w'->R (.returned (.bool true)) w'):=fun w' hb=>HR.o true w' hb (fun hh=>absurd (by rw[←hq];exact he) (hh i (by rw[HN.o];exact hlt)))
    have hb:((q:Int)==id)=true:=by simpa using he
    clear HZ hq
    go_wp2_with fail
    exact hfin.o _ HBr.o
   .have hb:((q:Int)==id)=false:=by simpa using he
    clear HZ hq
    go_wp2_with fail
    go_roundw
    case rel=>exact⟨i+1,by omega,by go_num,HBr.o⟩
    case measure=>simp only[intOf];omega
  .have hin:i=n:=by omega
   subst hin
   have hfin:Hid (R (.returned (.bool false)) wr):=HR.o false wr HBr.o (fun _=>rfl)
   clear HZ
   go_wp2_with fail
   exact hfin.o
theorem kbleft_any (base Z:Nat)(B:Bo)(ai:Option Addr)(ci:Nat)(ar:Option Addr)(cr:Nat)(id:Int)(p:Nat)(w:World)(R:EW)(h:BoAt w base Z B ai ci ar cr)(hn:B.ids.length<=1048576)
  (hp:p<B.ids.length)(hid:((B.ids.getD p 0:Nat):Int)=id)(hne: ∀j,j<p->((B.ids.getD j 0:Nat):Int)≠id)
  (hR:R (.returned (.int .i64 ((B.rests.getD p 0:Nat):Int))) w):
  Calls Tryz.prog 53 #[.pointer (some ⟨Z,0,none⟩),.int .i64 id] w R:=by
 have HR:=zl hR
 have H:=zl h
 have HP:Hid (p<B.ids.length/\((B.ids.getD p 0:Nat):Int)=id/\ ∀j,j<p->((B.ids.getD j 0:Nat):Int)≠id):=⟨hp,hid,hne⟩
 clear hR h hid hne
 obtain ⟨n,hnn⟩: ∃y,y=B.ids.length:=⟨_,rfl⟩
 have HN:=zl (hnn.symm)
 rw[←hnn] at hn hp
 clear hnn
 go_enter Tryz.func53,Tryz.ntmps53
 go_wp2_with fail
 go_loop [5] (fun t=> ∃i:Nat,i<=p/\t= .int .i64 i) (fun t=>n-(intOf t).toNat)
 case atStart=>exact⟨0,Nat.zero_le _,rfl⟩
 case round=>
  obtain ⟨i,hi,rfl⟩:=hrel
  have HZ:=H.o
  have z0:w.cell? ⟨Z,0,none⟩=some (.slice ai n ci):=by have:=cell_of_row w Z 0 _ _ (0,0) HZ.blk;rw[HN.o] at this;exact this
  have z1:w.cell? ⟨Z,1,none⟩=some (.slice ar n cr):=by have:=cell_of_row w Z 1 _ _ (0,0) HZ.blk;rw[HN.o] at this;exact this
  have hlt:i<n:=by omega
  obtain ⟨g,e,hc⟩:=HZ.id (i:=i) (by rw[HN.o];exact hlt)
  subst e
  obtain ⟨g2,e2,hc2,-⟩:=HZ.rest (i:=i) (by rw[HN.o];exact hlt)
  subst e2
  obtain ⟨q,hq⟩: ∃y,y=B.ids.getD i 0:=⟨_,rfl⟩
  obtain ⟨s,hs⟩: ∃y,y=B.rests.getD i 0:=⟨_,rfl⟩
  rw[←hq] at hc
  rw[←hs] at hc2
  have hi0:(0:Int)<=(i:Int):=by omega
  have hi1:(i:Int)<(n:Int):=by omega
  by_cases hip:i=p
  .subst hip
   have he:(q:Int)=id:=by rw[hq];exact HP.o.2.1
   have hb:((q:Int)==id)=true:=by simpa using he
   have hfin:Hid (R (.returned (.int .i64 (s:Nat))) w):=by rw[hs];exact HR.o
   clear HZ hq hs
   go_wp2_with fail
   exact hfin.o
  .have hb:((q:Int)==id)=false:=by have:=HP.o.2.2 i (by omega);rw[←hq] at this;simpa using this
   clear HZ hq hs
   go_wp2_with fail
   go_round
   case rel=>exact⟨i+1,by omega,by go_num⟩
   case measure=>simp only[intOf];omega
theorem kbtakes_any (base Z:Nat)(B B':Bo)(ai:Option Addr)(ci:Nat)(ar:Option Addr)(cr:Nat)(id m:Int)(p:Nat)(w:World)(R:EW)(h:BoAt w base Z B ai ci ar cr)(hn:B.ids.length<=1048576)(hr: ∀j,B.rests.getD j 0<=4294967295)(ht:Takes B id m p B')
  (hR: ∀w',BoAt w' base Z B' ai ci ar cr->Tch (fun g=>(Value.slice ar B.ids.length cr).ownBlock=some g) w w'->R (.returned (.bool true)) w'):
  Calls Tryz.prog 52 #[.pointer (some ⟨Z,0,none⟩),.int .i64 id,.int .i64 m] w R:=by
 obtain ⟨hp,hp2,hid,hne,hm0,hm1,hB⟩:=ht
 have HR:=zl hR
 have H:=zl h
 have HP:Hid (p<B.ids.length/\((B.ids.getD p 0:Nat):Int)=id/\(∀j,j<p->((B.ids.getD j 0:Nat):Int)≠id)/\B'={B with rests:=B.rests.set p (B.rests.getD p 0-m.toNat)}):=⟨hp,hid,hne,hB⟩
 have hrp:=hr p
 clear hR h hid hne hB hr hp2
 obtain ⟨n,hnn⟩: ∃y,y=B.ids.length:=⟨_,rfl⟩
 have HN:=zl (hnn.symm)
 rw[←hnn] at hn hp
 clear hnn
 go_enter Tryz.func52,Tryz.ntmps52
 go_wp2_with fail
 go_loopw [7] (fun t wr=> ∃i:Nat,i<=p/\t= .int .i64 i/\Below w.heap.size w wr) (fun t _=>n-(intOf t).toNat)
 case atStart=>exact⟨0,Nat.zero_le _,rfl,br⟩
 case round=>
  obtain ⟨i,hi,rfl,hbr⟩:=hrel
  have HBr:=zl hbr
  have HZ:=H.o.ext hbr
  have HZh:=zl HZ
  have z0:wr.cell? ⟨Z,0,none⟩=some (.slice ai n ci):=by have:=cell_of_row wr Z 0 _ _ (0,0) HZ.blk;rw[HN.o] at this;exact this
  have z1:wr.cell? ⟨Z,1,none⟩=some (.slice ar n cr):=by have:=cell_of_row wr Z 1 _ _ (0,0) HZ.blk;rw[HN.o] at this;exact this
  clear hbr
  have hlt:i<n:=by omega
  obtain ⟨g,e,hc⟩:=HZ.id (i:=i) (by rw[HN.o];exact hlt)
  obtain ⟨g2,e2,hc2,hf2⟩:=HZ.rest (i:=i) (by rw[HN.o];exact hlt)
  rw[e] at z0
  rw[e2] at z1
  obtain ⟨q,hq⟩: ∃y,y=B.ids.getD i 0:=⟨_,rfl⟩
  rw[←hq] at hc
  have hi0:(0:Int)<=(i:Int):=by omega
  have hi1:(i:Int)<(n:Int):=by omega
  by_cases hip:i=p
  .subst hip
   obtain ⟨s,hs⟩: ∃y,y=B.rests.getD i 0:=⟨_,rfl⟩
   rw[←hs] at hc2 hm1 hrp
   have he:(q:Int)=id:=by rw[hq];exact HP.o.2.1
   have hb:((q:Int)==id)=true:=by simpa using he
   have HS:=zl hs
   have HE:=zl e2
   clear HZ hq hs e e2
   go_wp2_with fail
   refine wp_region_still_tail 14 (by kernel_rfl) (by kernel_rfl) ?_
   simp only[List.take_succ_cons,List.take_zero,List.drop_succ_cons,List.drop_zero]
   change wpStill _ _ wr.drew (fun a'=>wpList _ _ _ _ a' wr.drew) _ _
   have HZd:Hid (BoAt wr.drew base Z B ai ci ar cr):=HZh.o.ext (br.drew)
   have HBd:Hid (Below w.heap.size w wr.drew):=HBr.o.trans ((br.drew).mono HBr.o.size)
   change wr.drew.cell? _=_ at z0 z1 hc hc2
   change wr.drew.frozen? _=_ at hf2
   generalize wr.drew=W at *
   have hms:(0:Int)<=(s:Int)-m:=by omega
   have hmt:(s:Int)-m<=4294967295:=by omega
   have hgz:g2≠Z:=HZd.o.zr g2 (by rw[HE.o];rfl)
   have HB1:Hid (BoAt (W.setCell ⟨g2,i,none⟩ (.int .i64 ((s:Int)-m))) base Z B' ai ci ar cr):=by
    have hB:=HP.o.2.2.2
    have hlen:B'.ids=B.ids:=by rw[hB]
    have hseq:B'.seq=B.seq:=by rw[hB]
    have hown:(Value.slice ar B.ids.length cr).ownBlock=some g2:=by rw[HE.o];rfl
    refine⟨?_,HZd.o.low,?_,?_,by rw[hlen];exact HZd.o.zi,by rw[hlen];exact HZd.o.zr⟩
    .rw[hlen,hseq,bhs W ⟨g2,i,none⟩ _ Z (fun e=>hgz e.symm)]
     exact HZd.o.blk
    .rw[hlen]
     exact zb1 HZd.o.ri g2 i _ (fun e=>(HZd.o.zi g2 e).2 hown)
    .rw[hlen]
     have:=own_setR HZd.o.rr g2 i (.int .i64 ((s:Int)-m)) hown
     rw[show B'.rests.map (fun x=>iv (x:Nat))=(B.rests.map fun x=>iv (x:Nat)).set i (.int .i64 ((s:Int)-m)) by
      rw[hB,←HS.o]
      show (B.rests.set i (s-m.toNat)).map _=_
      rw[List.map_set]
      congr 1
      show Value.int .i64 (((s-m.toNat:Nat)):Int)=_
      congr 1
      omega]
     exact this
   have HT1:Hid (Tch (fun g=>(Value.slice ar B.ids.length cr).ownBlock=some g) w (W.setCell ⟨g2,i,none⟩ (.int .i64 ((s:Int)-m)))):=by
    have hown:(Value.slice ar B.ids.length cr).ownBlock=some g2:=by rw[HE.o];rfl
    refine⟨HBd.o.os,HBd.o.tape,HBd.o.output,by simpa [World.setCell] using HBd.o.size,fun q hq hn=>?_⟩
    rw[bhs W ⟨g2,i,none⟩ _ q (fun e=>hn (by rw[hown,e]))]
    exact HBd.o.block q hq
   have HI:Hid (B'.ids.length=n):=by rw[HP.o.2.2.2];exact HN.o
   have y1:(W.setCell ⟨g2,i,none⟩ (.int .i64 ((s:Int)-m))).cell? ⟨Z,1,none⟩=some (.slice (some ⟨g2,0,none⟩) n cr):=by have:=cell_of_row _ Z 1 _ _ (0,0) HB1.o.blk;rw[HI.o,HE.o] at this;exact this
   have y2:(W.setCell ⟨g2,i,none⟩ (.int .i64 ((s:Int)-m))).cell? ⟨g2,i,none⟩=some (.int .i64 ((s:Int)-m)):=by
    obtain ⟨g3,e3,h3,-⟩:=HB1.o.rest (i:=i) (by rw[HI.o];exact hlt)
    rw[HE.o] at e3
    injection e3 with e3
    injection e3 with e3
    subst e3
    rw[h3,HP.o.2.2.2,←HS.o]
    show some (Value.int .i64 (((B.rests.set i (s-m.toNat)).getD i 0:Nat):Int))=_
    have hl:=HZd.o.lenr
    rw[show (B.rests.set i (s-m.toNat)).getD i 0=s-m.toNat by simp[List.getD,show i<B.rests.length by rw[hl,HN.o];exact hlt]]
    congr 2
    omega
   have hfin:Hid (R (.returned (.bool true)) (W.setCell ⟨g2,i,none⟩ (.int .i64 ((s:Int)-m)))):=HR.o _ HB1.o HT1.o
   repeat still_step
   refine wpStill_nil ?_
   go_wp2_with fail
   exact hfin.o
  .have hb:((q:Int)==id)=false:=by have:=HP.o.2.2.1 i (by omega);rw[←hq] at this;simpa using this
   clear HZ hq hc2 hf2
   go_wp2_with fail
   go_roundw
   case rel=>exact⟨i+1,by omega,by go_num,HBr.o⟩
   case measure=>simp only[intOf];omega
end
section
open Go.RowKit Go.Shelf
theorem BoAt.tick {w:World}{base Z:Nat}{B:Bo}{ai ar:Option Addr}{ci cr:Nat}(h:BoAt w base Z B ai ci ar cr)(s:Nat):BoAt (w.setCell ⟨Z,2,none⟩ (.int .i64 (s:Nat))) base Z {B with seq:=s} ai ci ar cr:=by
 refine⟨?_,h.low,zb1 h.ri Z 2 _ (fun e=>(h.zi Z e).1 rfl),zb1 h.rr Z 2 _ (fun e=>h.zr Z e rfl),h.zi,h.zr⟩
 have:=zbb (j:=2) (v:= .int .i64 (s:Nat)) h.blk
 exact this
theorem kbnotes_other (base Z:Nat)(B:Bo)(ai:Option Addr)(ci:Nat)(ar:Option Addr)(cr:Nat)(e:Nat->Int)(w:World)(R:EW)(h:BoAt w base Z B ai ci ar cr)(hsq:B.seq<=4294967295)
  (h1:e 1=(((B.seq+1)%4294967296:Nat):Int))(h0:e 0≠1/\e 0≠3/\e 0≠4/\e 0≠5)
  (hR: ∀w',BoAt w' base Z {B with seq:=(B.seq+1)%4294967296} ai ci ar cr->Tch (fun g=>g=Z) w w'->R (.returned (.bool true)) w'):
  Calls Tryz.prog 24 #[.pointer (some ⟨Z,0,none⟩),evv e] w R:=by
 have HR:=zl hR
 obtain ⟨s,hs⟩: ∃y,y=B.seq:=⟨_,rfl⟩
 obtain ⟨s1,hs1⟩: ∃y:Nat,y=(B.seq+1)%4294967296:=⟨_,rfl⟩
 obtain ⟨o,ho⟩: ∃o:Obj,o= .cells #[.int .i64 (e 0),.int .i64 (s1:Nat),.int .i64 (e 2),.int .i64 (e 3),.int .i64 (e 4),.int .i64 (e 5),.int .i64 (e 6),.int .i64 (e 7),.int .i64 (e 8),.int .i64 (e 9)] 42:=⟨_,rfl⟩
 have hba:=zac w o
 have HB:=zl (h.ext hba)
 have z2:(w.alloc o).cell? ⟨Z,2,none⟩=some (.int .i64 (s:Nat)):=by rw[hs];exact cell_of_row _ Z 2 _ _ (0,0) HB.o.blk
 have f2:(w.alloc o).frozen? ⟨Z,2,none⟩=false:=by simp[World.frozen?,HB.o.blk]
 have hsI:((s:Int)+1)%4294967296=(s1:Int):=by rw[hs1,hs];omega
 have he1:e 1=(s1:Int):=by rw[h1,hs1]
 have HS1:=zl hs1
 have HZw:Hid (Z<w.heap.size):=zak h.blk
 obtain ⟨k,hk⟩: ∃y,y=e 0:=⟨_,rfl⟩
 rw[←hk] at h0 ho
 obtain ⟨k1,k3,k4,k5⟩:=h0
 have b1:(k==1)=false:=by simpa using k1
 have b3:(k==3)=false:=by simpa using k3
 have b4:(k==4)=false:=by simpa using k4
 have b5:(k==5)=false:=by simpa using k5
 unfold evv
 rw[he1,←hk]
 rw[ho] at z2 f2
 have HO:=zl ho
 have hw0:(w.alloc (.cells #[.int .i64 k,.int .i64 (s1:Nat),.int .i64 (e 2),.int .i64 (e 3),.int .i64 (e 4),.int .i64 (e 5),.int .i64 (e 6),.int .i64 (e 7),.int .i64 (e 8),.int .i64 (e 9)] 42)).heap[w.heap.size]?=some (.cells #[.int .i64 k,.int .i64 (s1:Nat),.int .i64 (e 2),.int .i64 (e 3),.int .i64 (e 4),.int .i64 (e 5),.int .i64 (e 6),.int .i64 (e 7),.int .i64 (e 8),.int .i64 (e 9)] 42 (0,0)):=heap_alloc_new w _
 have HW0:Hid ((w.alloc o).heap[w.heap.size]?=some (.cells #[.int .i64 k,.int .i64 (s1:Nat),.int .i64 (e 2),.int .i64 (e 3),.int .i64 (e 4),.int .i64 (e 5),.int .i64 (e 6),.int .i64 (e 7),.int .i64 (e 8),.int .i64 (e 9)] 42 (0,0))):=by rw[ho];exact hw0
 have hs32:s<=4294967295:=by rw[hs];exact hsq
 clear hR hba h1 hs hs1 he1 hk ho hw0 h hsq
 go_enter Tryz.func24,Tryz.ntmps24
 go_wp2_with fail
 have HB1:=zl (HB.o.tick s1)
 have HW1:Hid (((w.alloc o).setCell ⟨Z,2,none⟩ (.int .i64 (s1:Nat))).heap[w.heap.size]?=some (.cells #[.int .i64 k,.int .i64 (s1:Nat),.int .i64 (e 2),.int .i64 (e 3),.int .i64 (e 4),.int .i64 (e 5),.int .i64 (e 6),.int .i64 (e 7),.int .i64 (e 8),.int .i64 (e 9)] 42 (0,0))):=by
  rw[bhs _ ⟨Z,2,none⟩ _ w.heap.size (by have:=HZw.o;show w.heap.size≠Z;omega)]
  exact HW0.o
 have HT1:Hid (Tch (fun g=>g=Z) w ((w.alloc o).setCell ⟨Z,2,none⟩ (.int .i64 (s1:Nat)))):=by
  have hb:=zac w o
  refine⟨hb.os,hb.tape,hb.output,by simp[World.setCell],fun q hq hn=>?_⟩
  rw[bhs _ ⟨Z,2,none⟩ _ q (fun e=>hn e)]
  exact hb.block q hq
 rw[←HO.o]
 generalize (w.alloc o).setCell ⟨Z,2,none⟩ (.int .i64 (s1:Nat))=W at *
 have c0:W.cell? ⟨w.heap.size,0,none⟩=some (.int .i64 k):=cell_of_row W w.heap.size 0 _ _ (0,0) HW1.o
 have c1:W.cell? ⟨w.heap.size,1,none⟩=some (.int .i64 (s1:Nat)):=cell_of_row W w.heap.size 1 _ _ (0,0) HW1.o
 have y2:W.cell? ⟨Z,2,none⟩=some (.int .i64 (s1:Nat)):=cell_of_row W Z 2 _ _ (0,0) HB1.o.blk
 have bne:((s1:Int) !=(s1:Int))=false:=by simp
 clear z2 f2 HB HW0 HO hsI
 have hfin:Hid (∀w',Below W.heap.size W w'->R (.returned (.bool true)) w'):=fun w' hb=>HR.o w' (by rw[←HS1.o];exact HB1.o.ext hb) (HT1.o.trans (Tch.of hb))
 go_quiet (fail)
 go_wp2_with fail
 exact hfin.o _ (below_drewN br _)
theorem kbnotes_cancel (base Z:Nat)(B B':Bo)(p:Nat)(ai:Option Addr)(ci:Nat)(ar:Option Addr)(cr:Nat)(e:Nat->Int)(w:World)(R:EW)(h:BoAt w base Z B ai ci ar cr)(hsq:B.seq<=4294967295)
  (h1:e 1=(((B.seq+1)%4294967296:Nat):Int))(h0:e 0=4)(hn:B.ids.length<=1048576)(hrs: ∀j,B.rests.getD j 0<=4294967295)(ht:Takes {B with seq:=(B.seq+1)%4294967296} (e 2) (e 6) p B')(hw:((B.rests.getD p 0:Nat):Int)=e 6)
  (hR: ∀w',BoAt w' base Z B' ai ci ar cr->Tch (fun g=>g=Z\/(Value.slice ar B.ids.length cr).ownBlock=some g) w w'->R (.returned (.bool true)) w'):
  Calls Tryz.prog 24 #[.pointer (some ⟨Z,0,none⟩),evv e] w R:=by
 have HR:=zl hR
 obtain ⟨s,hs⟩: ∃y,y=B.seq:=⟨_,rfl⟩
 obtain ⟨s1,hs1⟩: ∃y:Nat,y=(B.seq+1)%4294967296:=⟨_,rfl⟩
 obtain ⟨o,ho⟩: ∃o:Obj,o= .cells #[.int .i64 4,.int .i64 (s1:Nat),.int .i64 (e 2),.int .i64 (e 3),.int .i64 (e 4),.int .i64 (e 5),.int .i64 (e 6),.int .i64 (e 7),.int .i64 (e 8),.int .i64 (e 9)] 42:=⟨_,rfl⟩
 have hba:=zac w o
 have HB:=zl (h.ext hba)
 have z2:(w.alloc o).cell? ⟨Z,2,none⟩=some (.int .i64 (s:Nat)):=by rw[hs];exact cell_of_row _ Z 2 _ _ (0,0) HB.o.blk
 have f2:(w.alloc o).frozen? ⟨Z,2,none⟩=false:=by simp[World.frozen?,HB.o.blk]
 have hsI:((s:Int)+1)%4294967296=(s1:Int):=by rw[hs1,hs];omega
 have he1:e 1=(s1:Int):=by rw[h1,hs1]
 have HS1:=zl hs1
 have HZw:Hid (Z<w.heap.size):=zak h.blk
 unfold evv
 rw[he1,h0]
 rw[ho] at z2 f2
 have HO:=zl ho
 have hw0:(w.alloc (.cells #[.int .i64 4,.int .i64 (s1:Nat),.int .i64 (e 2),.int .i64 (e 3),.int .i64 (e 4),.int .i64 (e 5),.int .i64 (e 6),.int .i64 (e 7),.int .i64 (e 8),.int .i64 (e 9)] 42)).heap[w.heap.size]?=some (.cells #[.int .i64 4,.int .i64 (s1:Nat),.int .i64 (e 2),.int .i64 (e 3),.int .i64 (e 4),.int .i64 (e 5),.int .i64 (e 6),.int .i64 (e 7),.int .i64 (e 8),.int .i64 (e 9)] 42 (0,0)):=heap_alloc_new w _
 have HW0:Hid ((w.alloc o).heap[w.heap.size]?=some (.cells #[.int .i64 4,.int .i64 (s1:Nat),.int .i64 (e 2),.int .i64 (e 3),.int .i64 (e 4),.int .i64 (e 5),.int .i64 (e 6),.int .i64 (e 7),.int .i64 (e 8),.int .i64 (e 9)] 42 (0,0))):=by rw[ho];exact hw0
 have hs32:s<=4294967295:=by rw[hs];exact hsq
 have HTk:Hid (Takes {B with seq:=s1} (e 2) (e 6) p B'/\((B.rests.getD p 0:Nat):Int)=e 6/\B.ids.length<=1048576/\ ∀j,B.rests.getD j 0<=4294967295):=⟨by rw[hs1];exact ht,hw,hn,hrs⟩
 clear hR hba h1 hs hs1 he1 ho hw0 h hsq h0 ht hw hn hrs
 go_enter Tryz.func24,Tryz.ntmps24
 go_wp2_with fail
 have HB1:=zl (HB.o.tick s1)
 have HW1:Hid (((w.alloc o).setCell ⟨Z,2,none⟩ (.int .i64 (s1:Nat))).heap[w.heap.size]?=some (.cells #[.int .i64 4,.int .i64 (s1:Nat),.int .i64 (e 2),.int .i64 (e 3),.int .i64 (e 4),.int .i64 (e 5),.int .i64 (e 6),.int .i64 (e 7),.int .i64 (e 8),.int .i64 (e 9)] 42 (0,0))):=by
  rw[bhs _ ⟨Z,2,none⟩ _ w.heap.size (by have:=HZw.o;show w.heap.size≠Z;omega)]
  exact HW0.o
 have HT1:Hid (Tch (fun g=>g=Z) w ((w.alloc o).setCell ⟨Z,2,none⟩ (.int .i64 (s1:Nat)))):=by
  have hb:=zac w o
  refine⟨hb.os,hb.tape,hb.output,by simp[World.setCell],fun q hq hn=>?_⟩
  rw[bhs _ ⟨Z,2,none⟩ _ q (fun e=>hn e)]
  exact hb.block q hq
 rw[←HO.o]
 generalize (w.alloc o).setCell ⟨Z,2,none⟩ (.int .i64 (s1:Nat))=W at *
 have c0:W.cell? ⟨w.heap.size,0,none⟩=some (.int .i64 4):=cell_of_row W w.heap.size 0 _ _ (0,0) HW1.o
 have c1:W.cell? ⟨w.heap.size,1,none⟩=some (.int .i64 (s1:Nat)):=cell_of_row W w.heap.size 1 _ _ (0,0) HW1.o
 have y2:W.cell? ⟨Z,2,none⟩=some (.int .i64 (s1:Nat)):=cell_of_row W Z 2 _ _ (0,0) HB1.o.blk
 have bne:((s1:Int) !=(s1:Int))=false:=by simp
 clear z2 f2 HB HW0 HO hsI
 have c2:W.cell? ⟨w.heap.size,2,none⟩=some (.int .i64 (e 2)):=cell_of_row W w.heap.size 2 _ _ (0,0) HW1.o
 have c6:W.cell? ⟨w.heap.size,6,none⟩=some (.int .i64 (e 6)):=cell_of_row W w.heap.size 6 _ _ (0,0) HW1.o
 go_quiet (fail)
 go_wp2_with fail
 have HBn:Hid (BoAt (W.drewN nq) base Z {B with seq:=s1} ai ci ar cr):=HB1.o.ext (below_drewN br _)
 have HTn:Hid (Tch (fun g=>g=Z) w (W.drewN nq)):=HT1.o.trans (Tch.of (below_drewN br _))
 change (W.drewN nq).cell? _=_ at c2 c6
 generalize W.drewN nq=V at *
 have hwn:((((B.rests.getD p 0:Nat):Int))==e 6)=true:=by simpa using HTk.o.2.1
 go_quiet ((go_at_call 53;exact Calls.quiet_of_same (kbleft_any base Z {B with seq:=s1} ai ci ar cr (e 2) p _ _ (HBn.o.ext (below_drewN br _)) HTk.o.2.2.1 HTk.o.1.1 HTk.o.1.2.2.1 HTk.o.1.2.2.2.1 ⟨rfl,rfl⟩)))
 go_wp2_with fail
 refine kbtakes_any base Z {B with seq:=s1} B' ai ci ar cr (e 2) (e 6) p (V.drewN nq) _ (HBn.o.ext (below_drewN br _)) HTk.o.2.2.1 HTk.o.2.2.2 HTk.o.1 ?_
 intro w3 hb3 ht3
 have hfin:Hid (R (.returned (.bool true)) w3):=HR.o w3 hb3 (((HTn.o.trans (Tch.of (below_drewN br _))).widen fun _ h=> .inl h).trans (ht3.widen fun _ h=> .inr h))
 clear hb3 ht3
 go_wp2_with fail
 .exact hfin.o
 .rename_i hx
  exact absurd (by simpa [List.getD] using HTk.o.2.1) hx
theorem kbnotes_reduce (base Z:Nat)(B B':Bo)(p:Nat)(ai:Option Addr)(ci:Nat)(ar:Option Addr)(cr:Nat)(e:Nat->Int)(w:World)(R:EW)(h:BoAt w base Z B ai ci ar cr)(hsq:B.seq<=4294967295)
  (h1:e 1=(((B.seq+1)%4294967296:Nat):Int))(h0:e 0=5)(hn:B.ids.length<=1048576)(hrs: ∀j,B.rests.getD j 0<=4294967295)(ht:Takes {B with seq:=(B.seq+1)%4294967296} (e 2) (e 6) p B')(hw:e 6<((B.rests.getD p 0:Nat):Int))
  (hR: ∀w',BoAt w' base Z B' ai ci ar cr->Tch (fun g=>g=Z\/(Value.slice ar B.ids.length cr).ownBlock=some g) w w'->R (.returned (.bool true)) w'):
  Calls Tryz.prog 24 #[.pointer (some ⟨Z,0,none⟩),evv e] w R:=by
 have HR:=zl hR
 obtain ⟨s,hs⟩: ∃y,y=B.seq:=⟨_,rfl⟩
 obtain ⟨s1,hs1⟩: ∃y:Nat,y=(B.seq+1)%4294967296:=⟨_,rfl⟩
 obtain ⟨o,ho⟩: ∃o:Obj,o= .cells #[.int .i64 5,.int .i64 (s1:Nat),.int .i64 (e 2),.int .i64 (e 3),.int .i64 (e 4),.int .i64 (e 5),.int .i64 (e 6),.int .i64 (e 7),.int .i64 (e 8),.int .i64 (e 9)] 42:=⟨_,rfl⟩
 have hba:=zac w o
 have HB:=zl (h.ext hba)
 have z2:(w.alloc o).cell? ⟨Z,2,none⟩=some (.int .i64 (s:Nat)):=by rw[hs];exact cell_of_row _ Z 2 _ _ (0,0) HB.o.blk
 have f2:(w.alloc o).frozen? ⟨Z,2,none⟩=false:=by simp[World.frozen?,HB.o.blk]
 have hsI:((s:Int)+1)%4294967296=(s1:Int):=by rw[hs1,hs];omega
 have he1:e 1=(s1:Int):=by rw[h1,hs1]
 have HS1:=zl hs1
 have HZw:Hid (Z<w.heap.size):=zak h.blk
 unfold evv
 rw[he1,h0]
 rw[ho] at z2 f2
 have HO:=zl ho
 have hw0:(w.alloc (.cells #[.int .i64 5,.int .i64 (s1:Nat),.int .i64 (e 2),.int .i64 (e 3),.int .i64 (e 4),.int .i64 (e 5),.int .i64 (e 6),.int .i64 (e 7),.int .i64 (e 8),.int .i64 (e 9)] 42)).heap[w.heap.size]?=some (.cells #[.int .i64 5,.int .i64 (s1:Nat),.int .i64 (e 2),.int .i64 (e 3),.int .i64 (e 4),.int .i64 (e 5),.int .i64 (e 6),.int .i64 (e 7),.int .i64 (e 8),.int .i64 (e 9)] 42 (0,0)):=heap_alloc_new w _
 have HW0:Hid ((w.alloc o).heap[w.heap.size]?=some (.cells #[.int .i64 5,.int .i64 (s1:Nat),.int .i64 (e 2),.int .i64 (e 3),.int .i64 (e 4),.int .i64 (e 5),.int .i64 (e 6),.int .i64 (e 7),.int .i64 (e 8),.int .i64 (e 9)] 42 (0,0))):=by rw[ho];exact hw0
 have hs32:s<=4294967295:=by rw[hs];exact hsq
 have HTk:Hid (Takes {B with seq:=s1} (e 2) (e 6) p B'/\e 6<((B.rests.getD p 0:Nat):Int)/\B.ids.length<=1048576/\ ∀j,B.rests.getD j 0<=4294967295):=⟨by rw[hs1];exact ht,hw,hn,hrs⟩
 have HRl:Hid (∀g,(Value.slice ar B.ids.length cr).ownBlock=some g->g<w.heap.size):=fun g hg=>(h.rr.lt g hg).2
 clear hR hba h1 hs hs1 he1 ho hw0 h hsq h0 ht hw hn hrs
 go_enter Tryz.func24,Tryz.ntmps24
 go_wp2_with fail
 have HB1:=zl (HB.o.tick s1)
 have HW1:Hid (((w.alloc o).setCell ⟨Z,2,none⟩ (.int .i64 (s1:Nat))).heap[w.heap.size]?=some (.cells #[.int .i64 5,.int .i64 (s1:Nat),.int .i64 (e 2),.int .i64 (e 3),.int .i64 (e 4),.int .i64 (e 5),.int .i64 (e 6),.int .i64 (e 7),.int .i64 (e 8),.int .i64 (e 9)] 42 (0,0))):=by
  rw[bhs _ ⟨Z,2,none⟩ _ w.heap.size (by have:=HZw.o;show w.heap.size≠Z;omega)]
  exact HW0.o
 have HT1:Hid (Tch (fun g=>g=Z) w ((w.alloc o).setCell ⟨Z,2,none⟩ (.int .i64 (s1:Nat)))):=by
  have hb:=zac w o
  refine⟨hb.os,hb.tape,hb.output,by simp[World.setCell],fun q hq hn=>?_⟩
  rw[bhs _ ⟨Z,2,none⟩ _ q (fun e=>hn e)]
  exact hb.block q hq
 rw[←HO.o]
 generalize (w.alloc o).setCell ⟨Z,2,none⟩ (.int .i64 (s1:Nat))=W at *
 have c0:W.cell? ⟨w.heap.size,0,none⟩=some (.int .i64 5):=cell_of_row W w.heap.size 0 _ _ (0,0) HW1.o
 have c1:W.cell? ⟨w.heap.size,1,none⟩=some (.int .i64 (s1:Nat)):=cell_of_row W w.heap.size 1 _ _ (0,0) HW1.o
 have y2:W.cell? ⟨Z,2,none⟩=some (.int .i64 (s1:Nat)):=cell_of_row W Z 2 _ _ (0,0) HB1.o.blk
 have bne:((s1:Int) !=(s1:Int))=false:=by simp
 clear z2 f2 HB HW0 HO hsI
 have c2:W.cell? ⟨w.heap.size,2,none⟩=some (.int .i64 (e 2)):=cell_of_row W w.heap.size 2 _ _ (0,0) HW1.o
 have c6:W.cell? ⟨w.heap.size,6,none⟩=some (.int .i64 (e 6)):=cell_of_row W w.heap.size 6 _ _ (0,0) HW1.o
 go_quiet (fail)
 go_wp2_with fail
 have HBn:Hid (BoAt (W.drewN nq) base Z {B with seq:=s1} ai ci ar cr):=HB1.o.ext (below_drewN br _)
 have HTn:Hid (Tch (fun g=>g=Z) w (W.drewN nq)):=HT1.o.trans (Tch.of (below_drewN br _))
 change (W.drewN nq).cell? _=_ at c2 c6
 have HWV:Hid ((W.drewN nq).heap[w.heap.size]?=some (.cells #[.int .i64 5,.int .i64 (s1:Nat),.int .i64 (e 2),.int .i64 (e 3),.int .i64 (e 4),.int .i64 (e 5),.int .i64 (e 6),.int .i64 (e 7),.int .i64 (e 8),.int .i64 (e 9)] 42 (0,0))):=HW1.o
 generalize W.drewN nq=V at *
 go_wp2_with fail
 refine kbtakes_any base Z {B with seq:=s1} B' ai ci ar cr (e 2) (e 6) p V _ HBn.o HTk.o.2.2.1 HTk.o.2.2.2 HTk.o.1 ?_
 intro w3 hb3 ht3
 have HB3:=zl hb3
 have HT3:Hid (Tch (fun g=>g=Z\/(Value.slice ar B.ids.length cr).ownBlock=some g) w w3):=(HTn.o.widen fun _ h=> .inl h).trans (ht3.widen fun _ h=> .inr h)
 have hW3:w3.heap[w.heap.size]?=some (.cells #[.int .i64 5,.int .i64 (s1:Nat),.int .i64 (e 2),.int .i64 (e 3),.int .i64 (e 4),.int .i64 (e 5),.int .i64 (e 6),.int .i64 (e 7),.int .i64 (e 8),.int .i64 (e 9)] 42 (0,0)):=(ht3.blk w.heap.size (zak HWV.o) (fun e=>absurd (HRl.o _ e) (Nat.lt_irrefl _))).trans HWV.o
 have d2:w3.cell? ⟨w.heap.size,2,none⟩=some (.int .i64 (e 2)):=cell_of_row w3 w.heap.size 2 _ _ (0,0) hW3
 have hB':B'={B with seq:=s1,rests:=B.rests.set p (B.rests.getD p 0-(e 6).toNat)}:=HTk.o.1.2.2.2.2.2.2
 have HI:Hid (B'.ids=B.ids/\0<B'.rests.getD p 0):=by
  refine⟨by rw[hB'],?_⟩
  rw[hB']
  show 0<(B.rests.set p (B.rests.getD p 0-(e 6).toNat)).getD p 0
  have hpl:p<B.rests.length:=HTk.o.1.2.1
  have h1:=HTk.o.2.1
  have h2:=HTk.o.1.2.2.2.2.1
  rw[show (B.rests.set p (B.rests.getD p 0-(e 6).toNat)).getD p 0=B.rests.getD p 0-(e 6).toNat by simp[List.getD,hpl]]
  omega
 obtain ⟨s9,hs9⟩: ∃y,y=B'.rests.getD p 0:=⟨_,rfl⟩
 have hs90:(0:Int)<(s9:Int):=by have:=HI.o.2;omega
 have HS9:=zl (hs9.symm)
 have hfin:Hid (∀w',Below w3.heap.size w3 w'->R (.returned (.bool true)) w'):=fun w' hb=>HR.o w' (HB3.o.ext hb) (HT3.o.trans (Tch.of hb))
 have HL:Hid (∀n,Calls Tryz.prog 53 #[.pointer (some ⟨Z,0,none⟩),.int .i64 (e 2)] (w3.drewN n) fun v w'=>v= .returned (.int .i64 (s9:Nat))/\w'=w3.drewN n):=fun n=>by
  refine kbleft_any base Z B' ai ci ar cr (e 2) p _ _ (HB3.o.ext (below_drewN br _)) (by rw[HI.o.1];exact HTk.o.2.2.1) (by rw[HI.o.1];exact HTk.o.1.1) (by rw[HI.o.1];exact HTk.o.1.2.2.1) (by rw[HI.o.1];exact HTk.o.1.2.2.2.1) ?_
  rw[HS9.o]
  exact⟨rfl,rfl⟩
 clear hb3 ht3 hW3 hB' hs9 c2 c6
 go_wp2_with fail
 refine(HL.o 0).mono ?_
 rintro v w4 ⟨rfl,rfl⟩
 have hf:=hfin.o (w3.drewN 0) (below_drewN br _)
 have hfin2:=zl hf
 clear hf hfin
 go_wp2_with fail
 exact zam hfin2.out (by simp;omega)
end
section
open Go.RowKit Go.Shelf
theorem set_le {l:List Nat}{M:Nat}(h: ∀j,l.getD j 0<=M)(p d j:Nat):(l.set p (l.getD p 0-d)).getD j 0<=M:=by
 simp only[List.getD,List.getElem?_set]
 have:=h p
 have h2:=h j
 simp only[List.getD] at this h2
 split
 .split
  .simp;omega
  .simp
 .exact h2
theorem kbnotes_trade (base Z:Nat)(B B1 B':Bo)(p q:Nat)(ai:Option Addr)(ci:Nat)(ar:Option Addr)(cr:Nat)(e:Nat->Int)(w:World)(R:EW)(h:BoAt w base Z B ai ci ar cr)(hsq:B.seq<=4294967295)
  (h1:e 1=(((B.seq+1)%4294967296:Nat):Int))(h0:e 0=3)(hn:B.ids.length<=1048576)(hrs: ∀j,B.rests.getD j 0<=4294967295)(ht:Takes {B with seq:=(B.seq+1)%4294967296} (e 4) (e 6) p B1)(ht2:Takes B1 (e 5) (e 6) q B')(hne:e 4≠e 5)(hp1:1<=e 7)(hp2:e 7<=1000000)
  (hR: ∀w',BoAt w' base Z B' ai ci ar cr->Tch (fun g=>g=Z\/(Value.slice ar B.ids.length cr).ownBlock=some g) w w'->R (.returned (.bool true)) w'):
  Calls Tryz.prog 24 #[.pointer (some ⟨Z,0,none⟩),evv e] w R:=by
 have HR:=zl hR
 obtain ⟨s,hs⟩: ∃y,y=B.seq:=⟨_,rfl⟩
 obtain ⟨s1,hs1⟩: ∃y:Nat,y=(B.seq+1)%4294967296:=⟨_,rfl⟩
 obtain ⟨o,ho⟩: ∃o:Obj,o= .cells #[.int .i64 3,.int .i64 (s1:Nat),.int .i64 (e 2),.int .i64 (e 3),.int .i64 (e 4),.int .i64 (e 5),.int .i64 (e 6),.int .i64 (e 7),.int .i64 (e 8),.int .i64 (e 9)] 42:=⟨_,rfl⟩
 have hba:=zac w o
 have HB:=zl (h.ext hba)
 have z2:(w.alloc o).cell? ⟨Z,2,none⟩=some (.int .i64 (s:Nat)):=by rw[hs];exact cell_of_row _ Z 2 _ _ (0,0) HB.o.blk
 have f2:(w.alloc o).frozen? ⟨Z,2,none⟩=false:=by simp[World.frozen?,HB.o.blk]
 have hsI:((s:Int)+1)%4294967296=(s1:Int):=by rw[hs1,hs];omega
 have he1:e 1=(s1:Int):=by rw[h1,hs1]
 have HS1:=zl hs1
 have HZw:Hid (Z<w.heap.size):=zak h.blk
 unfold evv
 rw[he1,h0]
 rw[ho] at z2 f2
 have HO:=zl ho
 have hw0:(w.alloc (.cells #[.int .i64 3,.int .i64 (s1:Nat),.int .i64 (e 2),.int .i64 (e 3),.int .i64 (e 4),.int .i64 (e 5),.int .i64 (e 6),.int .i64 (e 7),.int .i64 (e 8),.int .i64 (e 9)] 42)).heap[w.heap.size]?=some (.cells #[.int .i64 3,.int .i64 (s1:Nat),.int .i64 (e 2),.int .i64 (e 3),.int .i64 (e 4),.int .i64 (e 5),.int .i64 (e 6),.int .i64 (e 7),.int .i64 (e 8),.int .i64 (e 9)] 42 (0,0)):=heap_alloc_new w _
 have HW0:Hid ((w.alloc o).heap[w.heap.size]?=some (.cells #[.int .i64 3,.int .i64 (s1:Nat),.int .i64 (e 2),.int .i64 (e 3),.int .i64 (e 4),.int .i64 (e 5),.int .i64 (e 6),.int .i64 (e 7),.int .i64 (e 8),.int .i64 (e 9)] 42 (0,0))):=by rw[ho];exact hw0
 have hs32:s<=4294967295:=by rw[hs];exact hsq
 have HTk:Hid (Takes {B with seq:=s1} (e 4) (e 6) p B1/\Takes B1 (e 5) (e 6) q B'/\B.ids.length<=1048576/\ ∀j,B.rests.getD j 0<=4294967295):=⟨by rw[hs1];exact ht,ht2,hn,hrs⟩
 have b45:(e 4 !=e 5)=true:=by simpa using hne
 have HRl:Hid (∀g,(Value.slice ar B.ids.length cr).ownBlock=some g->g<w.heap.size):=fun g hg=>(h.rr.lt g hg).2
 clear hR hba h1 hs hs1 he1 ho hw0 h hsq h0 ht ht2 hn hrs hne
 go_enter Tryz.func24,Tryz.ntmps24
 go_wp2_with fail
 have HB1:=zl (HB.o.tick s1)
 have HW1:Hid (((w.alloc o).setCell ⟨Z,2,none⟩ (.int .i64 (s1:Nat))).heap[w.heap.size]?=some (.cells #[.int .i64 3,.int .i64 (s1:Nat),.int .i64 (e 2),.int .i64 (e 3),.int .i64 (e 4),.int .i64 (e 5),.int .i64 (e 6),.int .i64 (e 7),.int .i64 (e 8),.int .i64 (e 9)] 42 (0,0))):=by
  rw[bhs _ ⟨Z,2,none⟩ _ w.heap.size (by have:=HZw.o;show w.heap.size≠Z;omega)]
  exact HW0.o
 have HT1:Hid (Tch (fun g=>g=Z) w ((w.alloc o).setCell ⟨Z,2,none⟩ (.int .i64 (s1:Nat)))):=by
  have hb:=zac w o
  refine⟨hb.os,hb.tape,hb.output,by simp[World.setCell],fun q hq hn=>?_⟩
  rw[bhs _ ⟨Z,2,none⟩ _ q (fun e=>hn e)]
  exact hb.block q hq
 rw[←HO.o]
 generalize (w.alloc o).setCell ⟨Z,2,none⟩ (.int .i64 (s1:Nat))=W at *
 have c0:W.cell? ⟨w.heap.size,0,none⟩=some (.int .i64 3):=cell_of_row W w.heap.size 0 _ _ (0,0) HW1.o
 have c1:W.cell? ⟨w.heap.size,1,none⟩=some (.int .i64 (s1:Nat)):=cell_of_row W w.heap.size 1 _ _ (0,0) HW1.o
 have y2:W.cell? ⟨Z,2,none⟩=some (.int .i64 (s1:Nat)):=cell_of_row W Z 2 _ _ (0,0) HB1.o.blk
 have bne:((s1:Int) !=(s1:Int))=false:=by simp
 clear z2 f2 HB HW0 HO hsI
 have c4:W.cell? ⟨w.heap.size,4,none⟩=some (.int .i64 (e 4)):=cell_of_row W w.heap.size 4 _ _ (0,0) HW1.o
 have c6:W.cell? ⟨w.heap.size,6,none⟩=some (.int .i64 (e 6)):=cell_of_row W w.heap.size 6 _ _ (0,0) HW1.o
 go_quiet (fail)
 go_wp2_with fail
 have HBn:Hid (BoAt (W.drewN nq) base Z {B with seq:=s1} ai ci ar cr):=HB1.o.ext (below_drewN br _)
 have HTn:Hid (Tch (fun g=>g=Z) w (W.drewN nq)):=HT1.o.trans (Tch.of (below_drewN br _))
 change (W.drewN nq).cell? _=_ at c4 c6
 have HWV:Hid ((W.drewN nq).heap[w.heap.size]?=some (.cells #[.int .i64 3,.int .i64 (s1:Nat),.int .i64 (e 2),.int .i64 (e 3),.int .i64 (e 4),.int .i64 (e 5),.int .i64 (e 6),.int .i64 (e 7),.int .i64 (e 8),.int .i64 (e 9)] 42 (0,0))):=HW1.o
 generalize W.drewN nq=V at *
 go_wp2_with fail
 refine kbtakes_any base Z {B with seq:=s1} B1 ai ci ar cr (e 4) (e 6) p V _ HBn.o HTk.o.2.2.1 HTk.o.2.2.2 HTk.o.1 ?_
 intro w3 hb3 ht3
 have HB3:=zl hb3
 have HT3:Hid (Tch (fun g=>g=Z\/(Value.slice ar B.ids.length cr).ownBlock=some g) w w3):=(HTn.o.widen fun _ h=> .inl h).trans (ht3.widen fun _ h=> .inr h)
 have HW3:Hid (w3.heap[w.heap.size]?=some (.cells #[.int .i64 3,.int .i64 (s1:Nat),.int .i64 (e 2),.int .i64 (e 3),.int .i64 (e 4),.int .i64 (e 5),.int .i64 (e 6),.int .i64 (e 7),.int .i64 (e 8),.int .i64 (e 9)] 42 (0,0))):=(ht3.blk w.heap.size (zak HWV.o) (fun e=>absurd (HRl.o _ e) (Nat.lt_irrefl _))).trans HWV.o
 have d5:w3.cell? ⟨w.heap.size,5,none⟩=some (.int .i64 (e 5)):=cell_of_row w3 w.heap.size 5 _ _ (0,0) HW3.o
 have d6:w3.cell? ⟨w.heap.size,6,none⟩=some (.int .i64 (e 6)):=cell_of_row w3 w.heap.size 6 _ _ (0,0) HW3.o
 have hB1:B1={B with seq:=s1,rests:=B.rests.set p (B.rests.getD p 0-(e 6).toNat)}:=HTk.o.1.2.2.2.2.2.2
 have HI:Hid (B1.ids=B.ids/\ ∀j,B1.rests.getD j 0<=4294967295):=by
  refine⟨by rw[hB1],fun j=>?_⟩
  rw[hB1]
  exact set_le HTk.o.2.2.2 p (e 6).toNat j
 clear hb3 ht3 hB1 c4 c6
 go_wp2_with fail
 refine kbtakes_any base Z B1 B' ai ci ar cr (e 5) (e 6) q w3 _ HB3.o (by rw[HI.o.1];exact HTk.o.2.2.1) HI.o.2 HTk.o.2.1 ?_
 intro w4 hb4 ht4
 rw[HI.o.1] at ht4
 have hfin:Hid (∀w',Below w4.heap.size w4 w'->R (.returned (.bool true)) w'):=fun w' hb=>HR.o w' (hb4.ext hb) ((HT3.o.trans (ht4.widen fun _ h=> .inr h)).trans (Tch.of hb))
 have hW4:w4.heap[w.heap.size]?=some (.cells #[.int .i64 3,.int .i64 (s1:Nat),.int .i64 (e 2),.int .i64 (e 3),.int .i64 (e 4),.int .i64 (e 5),.int .i64 (e 6),.int .i64 (e 7),.int .i64 (e 8),.int .i64 (e 9)] 42 (0,0)):=(ht4.blk w.heap.size (zak HW3.o) (fun e=>absurd (HRl.o _ e) (Nat.lt_irrefl _))).trans HW3.o
 have f4:w4.cell? ⟨w.heap.size,4,none⟩=some (.int .i64 (e 4)):=cell_of_row w4 w.heap.size 4 _ _ (0,0) hW4
 have f5:w4.cell? ⟨w.heap.size,5,none⟩=some (.int .i64 (e 5)):=cell_of_row w4 w.heap.size 5 _ _ (0,0) hW4
 have f7:w4.cell? ⟨w.heap.size,7,none⟩=some (.int .i64 (e 7)):=cell_of_row w4 w.heap.size 7 _ _ (0,0) hW4
 clear hb4 ht4 hW4 d5 d6
 go_wp2_with fail
 exact zam (hfin.o _ br) (by simp)
def BoOwn (Z:Nat) (vi vr:Value) (g:Nat):Prop:=g=Z\/vi.ownBlock=some g\/vr.ownBlock=some g
structure BoH (w:World) (base Z s:Nat) (vi:Value) (ni:Nat) (xi:List Value) (vr:Value) (nr:Nat) (xr:List Value):Prop where
 blk:w.heap[Z]?=some (.cells #[vi,vr,.int .i64 (s:Nat)] 59 (0,0))
 low:base<=Z
 ri:w.ownsRow base 3 1 vi ni xi
 rr:w.ownsRow base 3 1 vr nr xr
 zi: ∀g,vi.ownBlock=some g->g≠Z/\vr.ownBlock≠some g
 zr: ∀g,vr.ownBlock=some g->g≠Z
theorem BoAt.h {w:World}{base Z:Nat}{B:Bo}{ai ar:Option Addr}{ci cr:Nat}(h:BoAt w base Z B ai ci ar cr):BoH w base Z B.seq (.slice ai B.ids.length ci) B.ids.length (B.ids.map fun x=>iv (x:Nat)) (.slice ar B.ids.length cr) B.ids.length (B.rests.map fun x=>iv (x:Nat)):=⟨h.blk,h.low,h.ri,h.rr,h.zi,h.zr⟩
section
variable {w w1:World} {base Z s:Nat} {vi vr v':Value} {ni nr n':Nat} {xi xr x':List Value}
theorem BoH.pushI (h:BoH w base Z s vi ni xi vr nr xr)(hG:Grew base 3 1 w vi w1 v' n' x'):BoH (w1.setCell ⟨Z,0,none⟩ v') base Z s v' n' x' vr nr xr/\w1.cell? ⟨Z,0,none⟩=some vi/\w1.frozen? ⟨Z,0,none⟩=false/\Tch (BoOwn Z vi vr) w (w1.setCell ⟨Z,0,none⟩ v')/\ ∀g,BoOwn Z v' vr g->BoOwn Z vi vr g\/w.heap.size<=g:=by
 have hZ:=zak h.blk
 have hBk:w1.heap[Z]?=w.heap[Z]?:=hG.grown.block Z hZ (fun e=>(h.zi Z e.symm).1 rfl)
 have hz: ∀g,v'.ownBlock=some g->vi.ownBlock=some g\/w.heap.size<=g:=fun g hg=>by
  rcases hG.lies with h1|h1
  .exact .inl (by rw[←h1];exact hg)
  .exact .inr (h1 g hg)
 refine⟨⟨?_,h.low,?_,?_,?_,h.zr⟩,?_,?_,?_,?_⟩
 .have:=zbb (j:=0) (v:=v') (hBk.trans h.blk)
  exact this
 .refine zb1 hG.own Z 0 _ (fun e=>?_)
  rcases hz Z e with k|k
  .exact(h.zi Z k).1 rfl
  .omega
 .refine zb1 (own_at h.rr fun g hg=>hG.grown.block g (zgw h.rr g hg) fun e=>(h.zi g e.symm).2 hg) Z 0 _ (fun e=>h.zr Z e rfl)
 .intro g hg
  rcases hz g hg with k|k
  .exact h.zi g k
  .exact⟨by omega,fun e=>absurd (zgw h.rr g e) (by omega)⟩
 .rw[cell_of_row w1 Z 0 _ _ (0,0) (hBk.trans h.blk)];rfl
 .simp[World.frozen?,hBk.trans h.blk]
 .refine⟨hG.grown.os,hG.grown.tape,hG.grown.output,by simpa [World.setCell] using hG.grown.size,fun g hg hn=>?_⟩
  rw[bhs _ _ _ _ (fun e=>hn (.inl e))]
  exact hG.grown.block g hg fun e=>hn (.inr (.inl e.symm))
 .rintro g (k|k|k)
  .exact .inl (.inl k)
  .exact(hz g k).imp (fun x=> .inr (.inl x)) id
  .exact .inl (.inr (.inr k))
theorem BoH.pushR (h:BoH w base Z s vi ni xi vr nr xr)(hG:Grew base 3 1 w vr w1 v' n' x'):BoH (w1.setCell ⟨Z,1,none⟩ v') base Z s vi ni xi v' n' x'/\w1.cell? ⟨Z,1,none⟩=some vr/\w1.frozen? ⟨Z,1,none⟩=false/\Tch (BoOwn Z vi vr) w (w1.setCell ⟨Z,1,none⟩ v')/\ ∀g,BoOwn Z vi v' g->BoOwn Z vi vr g\/w.heap.size<=g:=by
 have hZ:=zak h.blk
 have hBk:w1.heap[Z]?=w.heap[Z]?:=hG.grown.block Z hZ (fun e=>h.zr Z e.symm rfl)
 have hz: ∀g,v'.ownBlock=some g->vr.ownBlock=some g\/w.heap.size<=g:=fun g hg=>by
  rcases hG.lies with h1|h1
  .exact .inl (by rw[←h1];exact hg)
  .exact .inr (h1 g hg)
 have hz': ∀g,v'.ownBlock=some g->g≠Z:=fun g hg=>by
  rcases hz g hg with k|k
  .exact h.zr g k
  .omega
 refine⟨⟨?_,h.low,?_,?_,?_,hz'⟩,?_,?_,?_,?_⟩
 .have:=zbb (j:=1) (v:=v') (hBk.trans h.blk)
  exact this
 .refine zb1 (own_at h.ri fun g hg=>hG.grown.block g (zgw h.ri g hg) fun e=>(h.zi g hg).2 e.symm) Z 1 _ (fun e=>(h.zi Z e).1 rfl)
 .exact zb1 hG.own Z 1 _ (fun e=>hz' Z e rfl)
 .intro g hg
  refine⟨(h.zi g hg).1,fun e=>?_⟩
  rcases hz g e with k|k
  .exact(h.zi g hg).2 k
  .have:=zgw h.ri g hg
   omega
 .rw[cell_of_row w1 Z 1 _ _ (0,0) (hBk.trans h.blk)];rfl
 .simp[World.frozen?,hBk.trans h.blk]
 .refine⟨hG.grown.os,hG.grown.tape,hG.grown.output,by simpa [World.setCell] using hG.grown.size,fun g hg hn=>?_⟩
  rw[bhs _ _ _ _ (fun e=>hn (.inl e))]
  exact hG.grown.block g hg fun e=>hn (.inr (.inr e.symm))
 .rintro g (k|k|k)
  .exact .inl (.inl k)
  .exact .inl (.inr (.inl k))
  .exact(hz g k).imp (fun x=> .inr (.inr x)) id
end
theorem kbnotes_accept (base Z:Nat)(B:Bo)(ai:Option Addr)(ci:Nat)(ar:Option Addr)(cr:Nat)(e:Nat->Int)(w:World)(R:EW)(h:BoAt w base Z B ai ci ar cr)(hsq:B.seq<=4294967295)
  (h1:e 1=(((B.seq+1)%4294967296:Nat):Int))(h0:e 0=1)(hn:B.ids.length<=1048575)(hkn: ∀j,j<B.ids.length->((B.ids.getD j 0:Nat):Int)≠e 2)(h2:0<=e 2)(h6:0<e 6)
  (hR: ∀ai' ci' ar' cr' w',BoAt w' base Z ⟨B.ids++[(e 2).toNat],B.rests++[(e 6).toNat],(B.seq+1)%4294967296⟩ ai' ci' ar' cr'->(∀g,BoOwn Z (.slice ai' (B.ids.length+1) ci') (.slice ar' (B.ids.length+1) cr') g->BoOwn Z (.slice ai B.ids.length ci) (.slice ar B.ids.length cr) g\/w.heap.size<=g)->Tch (BoOwn Z (.slice ai B.ids.length ci) (.slice ar B.ids.length cr)) w w'->R (.returned (.bool true)) w'):
  Calls Tryz.prog 24 #[.pointer (some ⟨Z,0,none⟩),evv e] w R:=by
 have HR:=zl hR
 obtain ⟨s,hs⟩: ∃y,y=B.seq:=⟨_,rfl⟩
 obtain ⟨s1,hs1⟩: ∃y:Nat,y=(B.seq+1)%4294967296:=⟨_,rfl⟩
 obtain ⟨o,ho⟩: ∃o:Obj,o= .cells #[.int .i64 1,.int .i64 (s1:Nat),.int .i64 (e 2),.int .i64 (e 3),.int .i64 (e 4),.int .i64 (e 5),.int .i64 (e 6),.int .i64 (e 7),.int .i64 (e 8),.int .i64 (e 9)] 42:=⟨_,rfl⟩
 have hba:=zac w o
 have HB:=zl (h.ext hba)
 have z2:(w.alloc o).cell? ⟨Z,2,none⟩=some (.int .i64 (s:Nat)):=by rw[hs];exact cell_of_row _ Z 2 _ _ (0,0) HB.o.blk
 have f2:(w.alloc o).frozen? ⟨Z,2,none⟩=false:=by simp[World.frozen?,HB.o.blk]
 have hsI:((s:Int)+1)%4294967296=(s1:Int):=by rw[hs1,hs];omega
 have he1:e 1=(s1:Int):=by rw[h1,hs1]
 have HS1:=zl hs1
 have HZw:Hid (Z<w.heap.size):=zak h.blk
 unfold evv
 rw[he1,h0]
 rw[ho] at z2 f2
 have HO:=zl ho
 have hw0:(w.alloc (.cells #[.int .i64 1,.int .i64 (s1:Nat),.int .i64 (e 2),.int .i64 (e 3),.int .i64 (e 4),.int .i64 (e 5),.int .i64 (e 6),.int .i64 (e 7),.int .i64 (e 8),.int .i64 (e 9)] 42)).heap[w.heap.size]?=some (.cells #[.int .i64 1,.int .i64 (s1:Nat),.int .i64 (e 2),.int .i64 (e 3),.int .i64 (e 4),.int .i64 (e 5),.int .i64 (e 6),.int .i64 (e 7),.int .i64 (e 8),.int .i64 (e 9)] 42 (0,0)):=heap_alloc_new w _
 have HW0:Hid ((w.alloc o).heap[w.heap.size]?=some (.cells #[.int .i64 1,.int .i64 (s1:Nat),.int .i64 (e 2),.int .i64 (e 3),.int .i64 (e 4),.int .i64 (e 5),.int .i64 (e 6),.int .i64 (e 7),.int .i64 (e 8),.int .i64 (e 9)] 42 (0,0))):=by rw[ho];exact hw0
 have hs32:s<=4294967295:=by rw[hs];exact hsq
 have HTk:Hid (B.ids.length<=1048575/\ ∀j,j<B.ids.length->((B.ids.getD j 0:Nat):Int)≠e 2):=⟨hn,hkn⟩
 have HRl:Hid (∀g,BoOwn Z (.slice ai B.ids.length ci) (.slice ar B.ids.length cr) g->g<w.heap.size):=fun g hg=>by
  rcases hg with rfl|hg|hg
  .exact zak h.blk
  .exact(h.ri.lt g hg).2
  .exact(h.rr.lt g hg).2
 clear hR hba h1 hs hs1 he1 ho hw0 h hsq h0 hn hkn
 go_enter Tryz.func24,Tryz.ntmps24
 go_wp2_with fail
 have HB1:=zl (HB.o.tick s1)
 have HW1:Hid (((w.alloc o).setCell ⟨Z,2,none⟩ (.int .i64 (s1:Nat))).heap[w.heap.size]?=some (.cells #[.int .i64 1,.int .i64 (s1:Nat),.int .i64 (e 2),.int .i64 (e 3),.int .i64 (e 4),.int .i64 (e 5),.int .i64 (e 6),.int .i64 (e 7),.int .i64 (e 8),.int .i64 (e 9)] 42 (0,0))):=by
  rw[bhs _ ⟨Z,2,none⟩ _ w.heap.size (by have:=HZw.o;show w.heap.size≠Z;omega)]
  exact HW0.o
 have HT1:Hid (Tch (fun g=>g=Z) w ((w.alloc o).setCell ⟨Z,2,none⟩ (.int .i64 (s1:Nat)))):=by
  have hb:=zac w o
  refine⟨hb.os,hb.tape,hb.output,by simp[World.setCell],fun q hq hn=>?_⟩
  rw[bhs _ ⟨Z,2,none⟩ _ q (fun e=>hn e)]
  exact hb.block q hq
 rw[←HO.o]
 generalize (w.alloc o).setCell ⟨Z,2,none⟩ (.int .i64 (s1:Nat))=W at *
 have c0:W.cell? ⟨w.heap.size,0,none⟩=some (.int .i64 1):=cell_of_row W w.heap.size 0 _ _ (0,0) HW1.o
 have c1:W.cell? ⟨w.heap.size,1,none⟩=some (.int .i64 (s1:Nat)):=cell_of_row W w.heap.size 1 _ _ (0,0) HW1.o
 have y2:W.cell? ⟨Z,2,none⟩=some (.int .i64 (s1:Nat)):=cell_of_row W Z 2 _ _ (0,0) HB1.o.blk
 have bne:((s1:Int) !=(s1:Int))=false:=by simp
 clear z2 f2 HB HW0 HO hsI
 have c2:W.cell? ⟨w.heap.size,2,none⟩=some (.int .i64 (e 2)):=cell_of_row W w.heap.size 2 _ _ (0,0) HW1.o
 have c6:W.cell? ⟨w.heap.size,6,none⟩=some (.int .i64 (e 6)):=cell_of_row W w.heap.size 6 _ _ (0,0) HW1.o
 go_quiet (fail)
 go_wp2_with fail
 have HBn:Hid (BoAt (W.drewN nq) base Z {B with seq:=s1} ai ci ar cr):=HB1.o.ext (below_drewN br _)
 have HTn:Hid (Tch (fun g=>g=Z) w (W.drewN nq)):=HT1.o.trans (Tch.of (below_drewN br _))
 change (W.drewN nq).cell? _=_ at c2 c6
 have HWV:Hid ((W.drewN nq).heap[w.heap.size]?=some (.cells #[.int .i64 1,.int .i64 (s1:Nat),.int .i64 (e 2),.int .i64 (e 3),.int .i64 (e 4),.int .i64 (e 5),.int .i64 (e 6),.int .i64 (e 7),.int .i64 (e 8),.int .i64 (e 9)] 42 (0,0))):=HW1.o
 generalize W.drewN nq=V at *
 go_wp2_with fail
 refine kbknown_any base Z {B with seq:=s1} ai ci ar cr (e 2) V _ HBn.o (Nat.le_succ_of_le HTk.o.1) ?_
 intro bb w3 hb3 hbb
 obtain rfl:bb=false:=hbb HTk.o.2
 have HB3:=zl (HBn.o.ext hb3)
 have HT3:Hid (Tch (fun g=>g=Z) w w3):=HTn.o.trans (Tch.of hb3)
 have HW3:Hid (w3.heap[w.heap.size]?=some (.cells #[.int .i64 1,.int .i64 (s1:Nat),.int .i64 (e 2),.int .i64 (e 3),.int .i64 (e 4),.int .i64 (e 5),.int .i64 (e 6),.int .i64 (e 7),.int .i64 (e 8),.int .i64 (e 9)] 42 (0,0))):=zau hb3 HWV.o
 have d2:w3.cell? ⟨w.heap.size,2,none⟩=some (.int .i64 (e 2)):=cell_of_row w3 w.heap.size 2 _ _ (0,0) HW3.o
 clear hb3 hbb c2 c6 HWV HTn HBn
 obtain ⟨n,hnn⟩: ∃y,y=B.ids.length:=⟨_,rfl⟩
 have HN:=zl (hnn.symm)
 have hn:n<=1048575:=by rw[hnn];exact HTk.o.1
 have HX:Hid (BoH w3 base Z s1 (.slice ai n ci) n (B.ids.map fun x=>iv (x:Nat)) (.slice ar n cr) n (B.rests.map fun x=>iv (x:Nat))):=by have:=HB3.o.h;rw[hnn];exact this
 have hbs:base<=w3.heap.size:=llt HX.o.low (Nat.le_of_lt (zak HX.o.blk))
 have z0:w3.cell? ⟨Z,0,none⟩=some (.slice ai n ci):=cell_of_row w3 Z 0 _ _ (0,0) HX.o.blk
 have HOw:=zl (HX.o.ri)
 have KEY:Hid (∀v4 w4,Grew base 3 1 w3.drew (.slice ai n ci) w4 v4 (n+1) ((B.ids.map fun x=>iv (x:Nat))++[.int .i64 (e 2)])-> ∃b2 j2,v4= .slice b2 (n+1) j2/\Hid (BoH (w4.setCell ⟨Z,0,none⟩ (.slice b2 (n+1) j2)) base Z s1 (.slice b2 (n+1) j2) (n+1) ((B.ids.map fun x=>iv (x:Nat))++[.int .i64 (e 2)]) (.slice ar n cr) n (B.rests.map fun x=>iv (x:Nat))/\Tch (BoOwn Z (.slice ai n ci) (.slice ar n cr)) w (w4.setCell ⟨Z,0,none⟩ (.slice b2 (n+1) j2))/\(∀g,BoOwn Z (.slice b2 (n+1) j2) (.slice ar n cr) g->BoOwn Z (.slice ai n ci) (.slice ar n cr) g\/w.heap.size<=g)/\(w4.setCell ⟨Z,0,none⟩ (.slice b2 (n+1) j2)).heap[w.heap.size]?=some (.cells #[.int .i64 1,.int .i64 (s1:Nat),.int .i64 (e 2),.int .i64 (e 3),.int .i64 (e 4),.int .i64 (e 5),.int .i64 (e 6),.int .i64 (e 7),.int .i64 (e 8),.int .i64 (e 9)] 42 (0,0))/\ ¬BoOwn Z (.slice b2 (n+1) j2) (.slice ar n cr) w.heap.size)/\w4.cell? ⟨Z,0,none⟩=some (.slice ai n ci)/\w4.frozen? ⟨Z,0,none⟩=false):=by
  intro v4 w4 hG
  have hG':=hG.undrewR
  obtain ⟨b2,j2,rfl⟩:=zar hG.own
  obtain ⟨q1,q2,q3,q4,q5⟩:=HX.o.pushI hG'
  have hs3:=HT3.o.size
  refine⟨b2,j2,rfl,⟨q1,(HT3.o.widen fun _ h=> .inl h).trans q4,fun g hg=>(q5 g hg).imp id (fun h=>llt hs3 h),?_,fun hh=>?_⟩,q2,q3⟩
  .refine(q4.blk w.heap.size (zak HW3.o) fun hh=>?_).trans HW3.o
   have:=HRl.o w.heap.size (by rw[HN.o];exact hh)
   omega
  .have hl:=zak HW3.o
   rcases q5 _ hh with k|k
   .have:=HRl.o w.heap.size (by rw[HN.o];exact k)
    omega
   .omega
 have KEY2:Hid (∀W b2 j2,(BoH W base Z s1 (.slice b2 (n+1) j2) (n+1) ((B.ids.map fun x=>iv (x:Nat))++[.int .i64 (e 2)]) (.slice ar n cr) n (B.rests.map fun x=>iv (x:Nat))/\Tch (BoOwn Z (.slice ai n ci) (.slice ar n cr)) w W/\(∀g,BoOwn Z (.slice b2 (n+1) j2) (.slice ar n cr) g->BoOwn Z (.slice ai n ci) (.slice ar n cr) g\/w.heap.size<=g)/\W.heap[w.heap.size]?=some (.cells #[.int .i64 1,.int .i64 (s1:Nat),.int .i64 (e 2),.int .i64 (e 3),.int .i64 (e 4),.int .i64 (e 5),.int .i64 (e 6),.int .i64 (e 7),.int .i64 (e 8),.int .i64 (e 9)] 42 (0,0))/\ ¬BoOwn Z (.slice b2 (n+1) j2) (.slice ar n cr) w.heap.size)->
   ∀v4 w4,Grew base 3 1 W.drew (.slice ar n cr) w4 v4 (n+1) ((B.rests.map fun x=>iv (x:Nat))++[.int .i64 (e 6)])-> ∃b3 j3,v4= .slice b3 (n+1) j3/\Hid (R (.returned (.bool true)) (w4.setCell ⟨Z,1,none⟩ (.slice b3 (n+1) j3)))/\w4.cell? ⟨Z,1,none⟩=some (.slice ar n cr)/\w4.frozen? ⟨Z,1,none⟩=false/\(w4.setCell ⟨Z,1,none⟩ (.slice b3 (n+1) j3)).cell? ⟨w.heap.size,6,none⟩=some (.int .i64 (e 6))):=by
  rintro W b2 j2 ⟨x1,x2,x3,x4,x5⟩ v4 w4 hG
  have hG':=hG.undrewR
  obtain ⟨b3,j3,rfl⟩:=zar hG.own
  obtain ⟨q1,q2,q3,q4,q5⟩:=x1.pushR hG'
  have hsz:=x2.size
  have hev:(w4.setCell ⟨Z,1,none⟩ (.slice b3 (n+1) j3)).heap[w.heap.size]?=some (.cells #[.int .i64 1,.int .i64 (s1:Nat),.int .i64 (e 2),.int .i64 (e 3),.int .i64 (e 4),.int .i64 (e 5),.int .i64 (e 6),.int .i64 (e 7),.int .i64 (e 8),.int .i64 (e 9)] 42 (0,0)):=by
   refine(q4.blk w.heap.size (zak x4) fun hh=>?_).trans x4
   exact x5 hh
  refine⟨b3,j3,rfl,?_,q2,q3,cell_of_row _ w.heap.size 6 _ _ (0,0) hev⟩
  refine HR.o b2 j2 b3 j3 _ ?_ ?_ ?_
  .refine⟨?_,q1.low,?_,?_,?_,?_⟩
   .have:=q1.blk
    simp only[List.length_append,List.length_cons,List.length_nil,HN.o,←HS1.o]
    exact this
   .have:=q1.ri
    simp only[List.length_append,List.length_cons,List.length_nil,HN.o,List.map_append,List.map_cons,List.map_nil]
    rw[show iv (((e 2).toNat:Nat):Int)= .int .i64 (e 2) by rw[Int.toNat_of_nonneg h2];rfl]
    exact this
   .have:=q1.rr
    simp only[List.length_append,List.length_cons,List.length_nil,HN.o,List.map_append,List.map_cons,List.map_nil]
    rw[show iv (((e 6).toNat:Nat):Int)= .int .i64 (e 6) by rw[Int.toNat_of_nonneg (Int.le_of_lt h6)];rfl]
    exact this
   .simp only[List.length_append,List.length_cons,List.length_nil,HN.o]
    exact q1.zi
   .simp only[List.length_append,List.length_cons,List.length_nil,HN.o]
    exact q1.zr
  .intro g hg
   rw[HN.o] at hg ⊢
   rcases q5 g hg with k|k
   .exact x3 g k
   .exact .inr (llt hsz k)
  .rw[HN.o]
   refine⟨q4.os.trans x2.os,q4.tape.trans x2.tape,q4.output.trans x2.output,llt x2.size q4.size,fun g hg hn=>?_⟩
   refine(q4.blk g (lll hg hsz) fun hh=>?_).trans (x2.blk g hg hn)
   rcases x3 g hh with k|k
   .exact hn k
   .omega
 have z0':=zaa (zac w3 (.cells #[.int .i64 (e 2)] 3)) z0
 clear hnn HB3
 go_wp2_with fail
 go_region_law (refine zej base 1 8 n _ _ _ (World.ownsRow.drew HOw.o) hbs Tryz.infoInt rfl (by decide) rfl (by simp[Value.oneCell']) (by omega) (by decide) _ _ 26 Tryz.underlying26 rfl rfl rfl rfl ?_;intro v4 w4 hG4;obtain ⟨b2,j2,rfl,HG4,c4,z4⟩:=KEY.out v4 w4 hG4;clear hG4)
 all_goals
  have KEY5:=KEY2.out _ _ _ HG4.o
  have hbs5:base<=(w4.setCell ⟨Z,0,none⟩ (.slice b2 (n+1) j2)).heap.size:=llt HG4.o.1.low (Nat.le_of_lt (zak HG4.o.1.blk))
  have HOw5:=zl (HG4.o.1.rr)
  have y1:(w4.setCell ⟨Z,0,none⟩ (.slice b2 (n+1) j2)).cell? ⟨Z,1,none⟩=some (.slice ar n cr):=cell_of_row _ Z 1 _ _ (0,0) HG4.o.1.blk
  have y6:(w4.setCell ⟨Z,0,none⟩ (.slice b2 (n+1) j2)).cell? ⟨w.heap.size,6,none⟩=some (.int .i64 (e 6)):=cell_of_row _ w.heap.size 6 _ _ (0,0) HG4.o.2.2.2.1
  clear HG4 KEY KEY2 HR c4 z4 z0 z0' d2 HX HOw HRl HTk HW3 HT3
  generalize w4.setCell ⟨Z,0,none⟩ (.slice b2 (n+1) j2)=W5 at *
  have HKEY5:=zl KEY5
  clear KEY5
  have y1':=zaa (zac W5 (.cells #[.int .i64 (e 6)] 3)) y1
  go_wp2_with fail
  go_region_law (refine zej base 1 8 n _ _ _ (World.ownsRow.drew HOw5.o) hbs5 Tryz.infoInt rfl (by decide) rfl (by simp[Value.oneCell']) (by omega) (by decide) _ _ 26 Tryz.underlying26 rfl rfl rfl rfl ?_;intro v6 w6 hG6;obtain ⟨b3,j3,rfl,HG6,c6,z6,u6⟩:=HKEY5.o v6 w6 hG6;clear hG6)
  all_goals
   go_wp2_with fail
   exact zam HG6.o (by simp)
theorem BoAt.keep {w w':World}{base Z:Nat}{B:Bo}{ai ar:Option Addr}{ci cr:Nat}(h:BoAt w base Z B ai ci ar cr)(hk: ∀g,BoOwn Z (.slice ai B.ids.length ci) (.slice ar B.ids.length cr) g->w'.heap[g]?=w.heap[g]?):BoAt w' base Z B ai ci ar cr:=
 ⟨(hk Z (.inl rfl)).trans h.blk,h.low,zb6 h.ri fun g hg=>hk g (.inr (.inl hg)),zb6 h.rr fun g hg=>hk g (.inr (.inr hg)),h.zi,h.zr⟩
theorem BoAt.lt {w:World}{base Z:Nat}{B:Bo}{ai ar:Option Addr}{ci cr:Nat}(h:BoAt w base Z B ai ci ar cr)(g:Nat)(hg:BoOwn Z (.slice ai B.ids.length ci) (.slice ar B.ids.length cr) g):base<=g/\g<w.heap.size:=by
 rcases hg with rfl|hg|hg
 .exact⟨h.low,zak h.blk⟩
 .exact h.ri.lt g hg
 .exact h.rr.lt g hg
theorem kbnotes_any (base Z:Nat)(B B':Bo)(ai:Option Addr)(ci:Nat)(ar:Option Addr)(cr:Nat)(e:Nat->Int)(w:World)(R:EW)(h:BoAt w base Z B ai ci ar cr)(hsq:B.seq<=4294967295)(hn:B.ids.length<=1048575)(hrs: ∀j,B.rests.getD j 0<=4294967295)(hN:Note B e B')
  (hR: ∀ai' ci' ar' cr' w',BoAt w' base Z B' ai' ci' ar' cr'->(∀g,BoOwn Z (.slice ai' B'.ids.length ci') (.slice ar' B'.ids.length cr') g->BoOwn Z (.slice ai B.ids.length ci) (.slice ar B.ids.length cr) g\/w.heap.size<=g)->Tch (BoOwn Z (.slice ai B.ids.length ci) (.slice ar B.ids.length cr)) w w'->R (.returned (.bool true)) w'):
  Calls Tryz.prog 24 #[.pointer (some ⟨Z,0,none⟩),evv e] w R:=by
 obtain ⟨h1,hk⟩:=hN
 have same: ∀{i n q s B1},Takes {B with seq:=s} i n q B1->B1.ids=B.ids:=fun h=>by rw[h.2.2.2.2.2.2]
 rcases hk with ⟨h0,hkn,h6,h2,rfl⟩|⟨h0,B1,i,k,t1,t2,hne,p1,p2⟩|⟨h0,i,t1,hw⟩|⟨h0,i,t1,hw⟩|⟨h0,rfl⟩
 .exact kbnotes_accept base Z B ai ci ar cr e w R h hsq h1 h0 hn hkn h2 h6 fun ai' ci' ar' cr' w' hb ho ht=>hR ai' ci' ar' cr' w' hb (by simpa using ho) ht
 .have e1:=same t1
  have e2:B'.ids=B.ids:=by rw[t2.2.2.2.2.2.2];exact e1
  exact kbnotes_trade base Z B B1 B' i k ai ci ar cr e w R h hsq h1 h0 (Nat.le_succ_of_le hn) hrs t1 t2 hne p1 p2 fun w' hb ht=>hR ai ci ar cr w' hb (fun g hg=> .inl (by rw[e2] at hg;exact hg)) (ht.widen fun g hg=>hg.imp id .inr)
 .have e2:=same t1
  exact kbnotes_cancel base Z B B' i ai ci ar cr e w R h hsq h1 h0 (Nat.le_succ_of_le hn) hrs t1 hw fun w' hb ht=>hR ai ci ar cr w' hb (fun g hg=> .inl (by rw[e2] at hg;exact hg)) (ht.widen fun g hg=>hg.imp id .inr)
 .have e2:=same t1
  exact kbnotes_reduce base Z B B' i ai ci ar cr e w R h hsq h1 h0 (Nat.le_succ_of_le hn) hrs t1 hw fun w' hb ht=>hR ai ci ar cr w' hb (fun g hg=> .inl (by rw[e2] at hg;exact hg)) (ht.widen fun g hg=>hg.imp id .inr)
 .exact kbnotes_other base Z B ai ci ar cr e w R h hsq h1 h0 fun w' hb ht=>hR ai ci ar cr w' hb (fun g hg=> .inl hg) (ht.widen fun g hg=> .inl hg)
theorem ok_qty {e:Nat->Int}(h:okE e)(h0:e 0=1):e 6<=4294967295:=by
 have:=h.1
 unfold fits at this
 rw[h0] at this
 simp[lay,isN] at this
 omega
theorem Note.facts {B B':Bo}{e:Nat->Int}(h:Note B e B')(hrs: ∀j,B.rests.getD j 0<=4294967295)(h6:e 0=1->e 6<=4294967295):B'.seq<=4294967295/\B.ids.length<=B'.ids.length/\ ∀j,B'.rests.getD j 0<=4294967295:=by
 have tk: ∀{B1 B2:Bo} {i n q},Takes B1 i n q B2->B1.seq<=4294967295->(∀j,B1.rests.getD j 0<=4294967295)->B2.seq<=4294967295/\B1.ids.length<=B2.ids.length/\ ∀j,B2.rests.getD j 0<=4294967295:=by
  intro B1 B2 i n q ht hs hr
  rw[ht.2.2.2.2.2.2]
  exact⟨hs,nr,fun j=>set_le hr q n.toNat j⟩
 have s1:(B.seq+1)%4294967296<=4294967295:=by omega
 rcases h.2 with ⟨h0,-,-,-,rfl⟩|⟨-,B1,i,k,t1,t2,-⟩|⟨-,i,t1,-⟩|⟨-,i,t1,-⟩|⟨-,rfl⟩
 .refine⟨s1,by simp,fun j=>?_⟩
  show (B.rests++[(e 6).toNat]).getD j 0<=_
  have h2:=hrs j
  have h3:=h6 h0
  simp only[List.getD,List.getElem?_append] at h2 ⊢
  split
  .exact h2
  .by_cases e:j-B.rests.length=0
   .rw[e];simp;omega
   .rw[List.getElem?_eq_none (by simp;omega)];simp
 .obtain ⟨a1,a2,a3⟩:=tk t1 s1 hrs
  obtain ⟨b1,b2,b3⟩:=tk t2 a1 a3
  exact⟨b1,llt a2 b2,b3⟩
 .have:=tk t1 s1 hrs
  exact this
 .have:=tk t1 s1 hrs
  exact this
 .exact⟨s1,nr,hrs⟩
theorem Notes.len {B B':Bo}{E:List (Nat->Int)}(h:Notes B E B'):B.ids.length<=B'.ids.length:=by
 induction E generalizing B with
 |nil=>cases h;exact nr
 |cons e E ih=>
  obtain ⟨B1,h1,h2⟩:=h
  refine llt ?_ (ih h2)
  have same: ∀{B1 B2:Bo} {i n q},Takes B1 i n q B2->B1.ids.length<=B2.ids.length:=fun ht=>by rw[ht.2.2.2.2.2.2];exact nr
  rcases h1.2 with ⟨-,-,-,-,rfl⟩|⟨-,B2,i,k,t1,t2,-⟩|⟨-,i,t1,-⟩|⟨-,i,t1,-⟩|⟨-,rfl⟩
  .simp
  .have h3:=same t1
   have h4:=same t2
   exact llt h3 h4
  .have h3:=same t1
   exact h3
  .have h3:=same t1
   exact h3
  .exact nr
end
