import Derived.Test.YtmiiejinahnpkaaGreatDoorXKdKh
set_option maxRecDepth 8000
set_option maxHeartbeats 1000000
namespace Go.Proofs.YtmiiejinahnpkaaGreatDoor
section
open Go.RowKit Go.Shelf
def ze9 (m:Mk) (i by_:Nat):Mk:=if (nth m.all i).rest<=by_ then zav m i else zax {m with all:=zaf m.all i ((nth m.all i).rest-by_)} (mkev 5 0 (nth m.all i).id 0 0 0 by_ 0 0 0)
def redev (m:Mk) (i by_:Nat):Nat->Int:=if (nth m.all i).rest<=by_ then zez m i else mkev 5 0 (nth m.all i).id 0 0 0 by_ 0 0 0
theorem outs_reduce (m:Mk)(i n:Nat):outs (ze9 m i n)=outs m++[redev m i n]:=by
 unfold ze9 redev
 split
 .exact zfu m i
 .exact zf9 _ _ _ _ _ _ _ _ _ _
theorem preduce_any (P:Nat)(b:Bk)(c:Cf)(m:Mk)(s0 i n:Nat)(w:World)(R:EW)(h:PS w P b c m s0)(hi: ∃s,isSd s/\i∈b.q s)(hn:0<n)
  (hR: ∀b' w',PS w' P b' c (ze9 m i n) s0->(∀g,b'.F g->b.F g)->Tch b.F w w'->R (.returned (evv (redev m i n))) w'):
  Calls Tryz.prog 121 #[.pointer (some ⟨P,0,none⟩),.pointer (some ⟨b.adr i,0,none⟩),.int .i64 (n:Nat)] w R:=by
 have HR:=zl hR
 have HP:=zl h
 have HI:=zl hi
 have hb0:=zac w (.cells zev 42)
 have hz:=World.alloc_heap_new w (.cells zev 42)
 have HP1:=zl (h.ext hb0)
 have HZ:=zl hz
 have Hb0:=zl hb0
 obtain ⟨s,hs,hq⟩:=hi
 have hO:=(h.ext hb0).pm.book.ord s hs i hq
 have e4:=hO.c.c4
 have e0:=hO.c.c0
 have q4:=hO.free 4
 have hbF:b.F (b.adr i):= .inr (.inr ⟨s,hs,.inr ⟨i,hq,rfl⟩⟩)
 have hlt:=h.pm.book.lt hbF
 have HF:=zl hbF
 have hr9:=zfo h.pv.gd i ((h.pv.qd s hs).inn i hq).1
 clear hR h hs hq hz hb0 hO hbF
 unfold zev at *
 by_cases hc:(nth m.all i).rest<=n
 .unfold ze9 redev at HR
  simp only[if_pos hc] at HR
  go_enter Tryz.func121,Tryz.ntmps121
  have hc':((nth m.all i).rest:Int)<=(n:Int):=by omega
  go_wp2_with fail
  refine zfs P b c m s0 i _ _ HP1.o HI.o ?_
  intro v' w1 hps hv ht
  have hz1:w1.heap[w.heap.size]?=some (.cells zev 42 (0,0)):=(ht.blk _ (gsi.1 HZ.o).1 (fun e=>by have:=HP.o.pm.book.lt (bt_F e);omega)).trans HZ.o
  have ht0:Tch b.F w w1:=((Tch.of Hb0.o).trans ht).widen fun g hg=>bt_F hg
  have HFin:Hid (∀w',(∀g,g<w1.heap.size->g≠w.heap.size->w'.heap[g]?=w1.heap[g]?)->Tch (fun g=>g=w.heap.size) w1 w'->R (.returned (evv (zez m i))) w'):=by
   intro w' hw hb
   refine HR.o _ w' (hps.keep fun g hg=>hw g (hps.lt hg) fun e=>?_) (fun g hg=>zbo hv hg) ?_
   .subst e
    rcases hg with e|e
    .have:=HP.o.ltP;omega
    .have:=HP.o.pm.book.lt (zbo hv e);omega
   .exact⟨hb.os.trans ht0.os,hb.tape.trans ht0.tape,hb.output.trans ht0.output,llt ht0.size hb.size,fun g hg hn=>(hb.blk g (lll hg ht0.size) (by omega)).trans (ht0.blk g hg hn)⟩
  clear hps hv ht ht0 HP HP1 HI HR HZ Hb0 HF e0 e4 q4
  generalize zez m i=e at *
  unfold evv
  go_wp2_with (first|(guard_target=~wpList _ _ _ ({dst:=none,op:=Op.store 42 _ _,type:=_,pos:=_,after:=_,guard:=none}::_) _ _;refine Shut.out ?_)|go_in)
  refine⟨?_⟩
  refine wpList_store_row rfl 42 (.tmp 6) (.tmp 16) rfl w.heap.size #[.int .i64 (e 0),.int .i64 (e 1),.int .i64 (e 2),.int .i64 (e 3),.int .i64 (e 4),.int .i64 (e 5),.int .i64 (e 6),.int .i64 (e 7),.int .i64 (e 8),.int .i64 (e 9)] rfl rfl 42 _ hz1 Tryz.sizeEvent rfl (by kernel_rfl) ?_
  have hf:Hid (R (.returned (evv e)) (w1.setRow w.heap.size #[.int .i64 (e 0),.int .i64 (e 1),.int .i64 (e 2),.int .i64 (e 3),.int .i64 (e 4),.int .i64 (e 5),.int .i64 (e 6),.int .i64 (e 7),.int .i64 (e 8),.int .i64 (e 9)])):=
   HFin.o _ (fun g _ hn=>setRow_other w1 _ g _ hn) (tch_row w1 _ _)
  have hz3:=setRow_heap w1 w.heap.size _ #[.int .i64 (e 0),.int .i64 (e 1),.int .i64 (e 2),.int .i64 (e 3),.int .i64 (e 4),.int .i64 (e 5),.int .i64 (e 6),.int .i64 (e 7),.int .i64 (e 8),.int .i64 (e 9)] _ _ hz1
  generalize w1.setRow w.heap.size #[.int .i64 (e 0),.int .i64 (e 1),.int .i64 (e 2),.int .i64 (e 3),.int .i64 (e 4),.int .i64 (e 5),.int .i64 (e 6),.int .i64 (e 7),.int .i64 (e 8),.int .i64 (e 9)]=Z at *
  obtain ⟨⟨u0,u1,u2,u3,u4,u5,u6,u7,u8,u9⟩,_⟩:=zk8 hz3
  clear hz3 hz1 HFin
  go_wp2_with fail
  refine bodyPost_ret (v:=evv e) (by simp[results,Tryz.results121,go_sem,evv,u0,u1,u2,u3,u4,u5,u6,u7,u8,u9]) rfl ?_
  exact hf.out
 .unfold ze9 redev at HR
  simp only[if_neg hc] at HR
  obtain ⟨r,hr⟩: ∃r:Nat,(nth m.all i).rest-n=r:=⟨_,rfl⟩
  rw[hr] at HR
  have hr1:((nth m.all i).rest:Int)-(n:Int)=(r:Int):=by omega
  have hps:=HP1.o.cutRest HI.o (r:=r) (by omega) (by omega) (mkev 5 0 (nth m.all i).id 0 0 0 n 0 0 0)
  have hsz:((w.alloc (.cells zev 42)).setCell ⟨b.adr i,4,none⟩ (.int .i64 (r:Nat))).heap.size=w.heap.size+1:=by simp[World.setCell]
  have hne:b.adr i≠w.heap.size:=by omega
  have hz1:((w.alloc (.cells zev 42)).setCell ⟨b.adr i,4,none⟩ (.int .i64 (r:Nat))).heap[w.heap.size]?=some (.cells zev 42 (0,0)):=(bhs _ ⟨b.adr i,4,none⟩ _ _ (fun e=>hne e.symm)).trans HZ.o
  have ht0:Tch b.F w ((w.alloc (.cells zev 42)).setCell ⟨b.adr i,4,none⟩ (.int .i64 (r:Nat))):=(Tch.of Hb0.o).trans (ze6 HF.o)
  have d0:((w.alloc (.cells zev 42)).setCell ⟨b.adr i,4,none⟩ (.int .i64 (r:Nat))).cell? ⟨b.adr i,0,none⟩=some (.int .i64 ((nth m.all i).id:Nat)):=(World.cell?_setCell_other _ _ _ _ (by simp)).trans e0
  have HFin:Hid (∀w',(∀g,g<((w.alloc (.cells zev 42)).setCell ⟨b.adr i,4,none⟩ (.int .i64 (r:Nat))).heap.size->g≠w.heap.size->w'.heap[g]?=((w.alloc (.cells zev 42)).setCell ⟨b.adr i,4,none⟩ (.int .i64 (r:Nat))).heap[g]?)->Tch (fun g=>g=w.heap.size) ((w.alloc (.cells zev 42)).setCell ⟨b.adr i,4,none⟩ (.int .i64 (r:Nat))) w'->R (.returned (evv (mkev 5 0 (nth m.all i).id 0 0 0 n 0 0 0))) w'):=by
   intro w' hw hb
   refine HR.o _ w' (hps.keep fun g hg=>hw g (hps.lt hg) fun e=>?_) (fun g hg=>hg) ?_
   .subst e
    rcases hg with e|e
    .have:=HP.o.ltP;omega
    .have:=HP.o.pm.book.lt e;omega
   .exact⟨hb.os.trans ht0.os,hb.tape.trans ht0.tape,hb.output.trans ht0.output,llt ht0.size hb.size,fun g hg hn=>(hb.blk g (lll hg ht0.size) (by omega)).trans (ht0.blk g hg hn)⟩
  clear hps ht0 HP HP1 HI HR HZ Hb0 HF hr
  have hc': ¬(((nth m.all i).rest:Int)<=(n:Int)):=by omega
  have hcomm:(w.alloc (.cells zev 42)).setCell ⟨b.adr i,4,none⟩ (.int .i64 (r:Nat))=(w.setCell ⟨b.adr i,4,none⟩ (.int .i64 (r:Nat))).alloc (.cells zev 42):=World.setCell_alloc_past _ _ _ _ hlt
  rw[hcomm] at hsz hz1 d0 HFin
  clear hcomm
  generalize nth m.all i=o at *
  unfold zev at *
  go_enter Tryz.func121,Tryz.ntmps121
  go_wp2_with (first|(guard_target=~wpList _ _ _ ({dst:=none,op:=Op.store 42 _ _,type:=_,pos:=_,after:=_,guard:=none}::_) _ _;refine Shut.out ?_)|go_in)
  refine⟨?_⟩
  generalize (w.setCell ⟨b.adr i,4,none⟩ (.int .i64 (r:Nat))).alloc (.cells #[.int .i64 0,.int .i64 0,.int .i64 0,.int .i64 0,.int .i64 0,.int .i64 0,.int .i64 0,.int .i64 0,.int .i64 0,.int .i64 0] 42)=W at *
  refine wpList_store_row rfl 42 (.tmp 6) (.tmp 33) rfl w.heap.size #[.int .i64 5,.int .i64 0,.int .i64 (o.id:Nat),.int .i64 0,.int .i64 0,.int .i64 0,.int .i64 (n:Nat),.int .i64 0,.int .i64 0,.int .i64 0] rfl rfl 42 _ hz1 Tryz.sizeEvent rfl (by kernel_rfl) ?_
  have hf:Hid (R (.returned (evv (mkev 5 0 o.id 0 0 0 n 0 0 0))) (W.setRow w.heap.size #[.int .i64 5,.int .i64 0,.int .i64 (o.id:Nat),.int .i64 0,.int .i64 0,.int .i64 0,.int .i64 (n:Nat),.int .i64 0,.int .i64 0,.int .i64 0])):=HFin.o _ (fun g _ hn=>setRow_other W _ g _ hn) (tch_row W _ _)
  have hz3:=setRow_heap W w.heap.size _ #[.int .i64 5,.int .i64 0,.int .i64 (o.id:Nat),.int .i64 0,.int .i64 0,.int .i64 0,.int .i64 (n:Nat),.int .i64 0,.int .i64 0,.int .i64 0] _ _ hz1
  generalize W.setRow w.heap.size #[.int .i64 5,.int .i64 0,.int .i64 (o.id:Nat),.int .i64 0,.int .i64 0,.int .i64 0,.int .i64 (n:Nat),.int .i64 0,.int .i64 0,.int .i64 0]=Z at *
  obtain ⟨⟨u0,u1,u2,u3,u4,u5,u6,u7,u8,u9⟩,_⟩:=zk8 hz3
  clear hz3 hz1 HFin d0 hsz e0 e4 q4
  go_wp2_with fail
  refine bodyPost_ret (v:=evv (mkev 5 0 o.id 0 0 0 n 0 0 0)) (by simp[results,Tryz.results121,go_sem,evv,mkev,u0,u1,u2,u3,u4,u5,u6,u7,u8,u9]) rfl ?_
  exact hf.out
end
section
open Go.RowKit Go.Shelf
theorem zfb (v:Value)(w:World)(R:EW)(hR:R (.returned (.slice none 0 0)) w):Calls Tryz.prog 129 #[v] w R:=by
 have HR:=zl hR
 clear hR
 go_enter Tryz.func129,Tryz.ntmps129
 go_wp2_with fail
 exact HR.o
theorem prest_any (v u:Value)(w:World)(R:EW)(hR:R (.returned (.slice none 0 0)) w):Calls Tryz.prog 126 #[v,u] w R:=by
 have HR:=zl hR
 clear hR
 go_enter Tryz.func126,Tryz.ntmps126
 go_wp2_with fail
 exact HR.o
def zhe (m:Mk) (k:Nat):Mk:=
 if wt m.phase (nth m.all k) then m
 else if (nth m.all k).typ=2/\0<(nth (zbd (nth m.all k) k (nth m.all k).rest m).all k).rest then zav (zbd (nth m.all k) k (nth m.all k).rest m) k
 else zbd (nth m.all k) k (nth m.all k).rest m
theorem pmeet_any (P:Nat)(b:Bk)(c:Cf)(m:Mk)(s0 k:Nat)(w:World)(R:EW)(h:PS w P b c m s0)(hk:k∈b.q (nth m.all k).side)(hs:isSd (nth m.all k).side)
  (hR: ∀b' v E w',PS w' P b' c (zhe m k) s0->(∀g,b'.F g->b.F g)->Tch (Own P b) w w'->Evs w' w.heap.size v E->outs (zhe m k)=outs m++E->E.length<=1048577->R (.returned v) w'):
  Calls Tryz.prog 132 #[.pointer (some ⟨P,0,none⟩),.pointer (some ⟨b.adr k,0,none⟩)] w R:=by
 have HR:=zl hR
 have HP:=zl h
 have hO:=h.pm.book.ord _ hs k hk
 have e5:=hO.c.c5
 have c10:=h.pm.cells 10 (.pointer (some ⟨b.K,0,none⟩)) rfl
 have hkl:=((h.pv.qd _ hs).inn k hk).1
 clear hR h
 unfold zhe at HR
 cases hw:wt m.phase (nth m.all k) with
 |true=>
  rw[hw] at HR e5
  simp only[if_true] at HR
  have hfin:Hid (R (.returned (.slice none 0 0)) w):=HR.o b _ [] w HP.o (fun _ h=>h) (Tch.refl _ _) (Evs.nil _ _) (by simp) (by simp)
  clear hO HR HP
  go_enter Tryz.func132,Tryz.ntmps132
  go_wp2_with fail
  exact hfin.o
 |false=>
  rw[hw] at HR e5
  simp only[Bool.false_eq_true,if_false] at HR
  have hpr: ∀j,j<m.all.length->(nth m.all j).price<=4294967295:=fun j hj=>HP.o.pv.gd.price _ (zg1 hj)
  have HT:Hid (Trd m (zbd (nth m.all k) k (nth m.all k).rest m)):=Trd.meet _ k _ m hkl hpr
  have hrest: ∀j,(nth m.all j).rest<=4294967295:=fun j=>by
   by_cases e:j<m.all.length
   .have:=zfo HP.o.pv.gd j e;omega
   .unfold nth
    rw[List.getD_eq_getElem?_getD,List.getElem?_eq_none (by omega)]
    exact Nat.zero_le _
  clear hO
  go_enter Tryz.func132,Tryz.ntmps132
  go_wp2_with fail
  refine bMeet_any b m k _ _ HP.o.pm.book HP.o.pv.ok HP.o.pv.qd hk hs hrest ?_
  intro v' tv T w1 hB hv ht hrow hout hTl hO1
  obtain ⟨m1,hm1⟩: ∃m1,zbd (nth m.all k) k (nth m.all k).rest m=m1:=⟨_,rfl⟩
  rw[hm1] at HR HT hB hout hO1
  have hblk1:w1.heap[P]?=some (.cells (pmc c {m with seq:=s0} b.K) 104 (0,0)):=(ht.blk P HP.o.ltP HP.o.pm.own).trans HP.o.pm.blk
  have Hblk1:=zl hblk1
  have Hrow:=zl hrow
  have HB:=zl hB
  have Hv:=zl hv
  have Ht:=zl ht
  have Hout:=zl hout
  have HO1:=zl hO1
  have hltP:=HP.o.ltP
  have hltE:=HP.o.pm.book.lt (g:=b.adr k) (.inr (.inr ⟨_,hs,.inr ⟨k,hk,rfl⟩⟩))
  have hPE:b.adr k≠P:=fun e=>HP.o.pm.own (e▸ .inr (.inr ⟨_,hs,.inr ⟨k,hk,rfl⟩⟩))
  clear hblk1 hB hv ht hout hO1 e5 c10 hm1
  obtain ⟨ta,tc,rfl⟩:=zae hrow
  clear hrow
  go_wp2_with fail
  refine ptrade_any P b.K c {m with seq:=s0} T _ w.heap.size _ _ Hblk1.o Hrow.o hltP (by omega) ?_
  intro ev w2 hb2 hE2 ht2
  have HPS2:=zl (HP.o.traded HT.o Hout.o HB.o Hv.o hb2 ht2)
  have hO2:OB w2 (b.adr k) (nth m1.all k) (wt m.phase (nth m1.all k)) k:=(ht2.blk _ HO1.o.lt hPE).trans HO1.o
  have e2:=hO2.c.c2
  have e4:=hO2.c.c4
  have HE2:=zl (hE2.low Ht.o.size)
  have Ht2:=zl ((Ht.o.own fun g hg=> .inr hg).trans (ht2.own fun g hg=> .inl hg))
  have hty:(nth m1.all k).typ=(nth m.all k).typ:=HT.o.cut.typ k
  rw[hty] at e2
  clear hb2 hE2 ht2 HB hO2 HO1 Hrow Hblk1 hty
  have hle:(T.map tdev).length<=1048576:=by simpa using hTl
  generalize T.map tdev=ET at *
  obtain ⟨ea,ec,rfl⟩:=zae HE2.o
  by_cases h2:(nth m.all k).typ=2
  .have h2':((nth m.all k).typ:Int)=2:=by omega
   by_cases h0:0<(nth m1.all k).rest
   .have h0':(0:Int)<((nth m1.all k).rest:Int):=by omega
    simp only[if_pos (show (nth m.all k).typ=2/\0<(nth m1.all k).rest from ⟨h2,h0⟩)] at HR
    have hk1: ∃s,isSd s/\k∈(b.dropped v' (fun j=>decide ((nth m1.all j).rest=0))).q s:=⟨_,hs,List.mem_filter.2 ⟨hk,by simp;omega⟩⟩
    have Hk1:=zl hk1
    clear hk1
    go_wp2_with fail
    refine zfs P (b.dropped v' (fun j=>decide ((nth m1.all j).rest=0))) c m1 s0 k _ _ HPS2.o Hk1.o ?_
    intro v3 w3 hps3 hv3 ht3
    have hlow: ∀g,Own P b g->g<w.heap.size:=fun g hg=>HP.o.lt hg
    have HE3:Hid (Evs w3 w.heap.size (.slice ea ET.length ec) ET):=HE2.o.keep fun g hg hl=>ht3.blk g hl fun e=>by have:=hlow g (.inr (zbo Hv.o (bt_F e)));omega
    have Ht3:Hid (Tch (Own P b) w w3):=Ht2.o.trans (ht3.own fun g hg=> .inr (zbo Hv.o (bt_F hg)))
    have HFin:Hid (∀v w',Grew w.heap.size 42 10 w3 (.slice ea ET.length ec) w' v (ET.length+1) (evcs ET++evc (zez m1 k))->R (.returned v) w'):=by
     intro v w' hG
     refine HR.o _ v (ET++[zez m1 k]) w' (hps3.grown hG.grown HE3.o ?_) (fun g hg=>zbo Hv.o (zbo hv3 hg)) (zdh _ w Ht3.o hG.grown HE3.o nr) (Evs.push hG) ?_ (by simp;omega)
     .intro g hg
      rcases hg with e|e
      .exact hlow g (.inl e)
      .exact hlow g (.inr (zbo Hv.o (zbo hv3 e)))
     .rw[zfu,Hout.o,List.append_assoc]
    have hsz3:w.heap.size<=w3.heap.size:=Ht3.o.size
    clear hps3 hv3 ht3 HR HPS2 Hk1 HE2 Ht2 Ht3 HP HT Hout Hv Ht e2 e4
    generalize zez m1 k=e at *
    unfold evv
    go_wp2_with (first|(at_builtin;refine Shut.out ?_)|go_in)
    refine⟨?_⟩
    refine za7 w.heap.size 10 80 ET.length (.slice ea ET.length ec) (evcs ET) _ HE3.o hsz3 Tryz.infoEventR rfl (by decide) rfl ?_ (by omega) (by decide) _ _ 32 Tryz.underlying32 rfl rfl rfl ?_ ?_
    .exact zhc e
    .rfl
    intro v4 w4 hG
    have hfin:=zl (HFin.o v4 w4 hG)
    clear hG HFin HE3
    go_wp2_with fail
    exact hfin.o
   .have h0': ¬((0:Int)<((nth m1.all k).rest:Int)):=by omega
    simp only[if_neg (show ¬((nth m.all k).typ=2/\0<(nth m1.all k).rest) from fun e=>h0 e.2)] at HR
    have hfin:Hid (R (.returned (.slice ea ET.length ec)) w2):=HR.o _ _ _ w2 HPS2.o (fun g hg=>zbo Hv.o hg) Ht2.o HE2.o Hout.o (by omega)
    clear HR HE2
    generalize ET.length=le at *
    go_wp2_with fail
    exact hfin.o
  .have h2': ¬(((nth m.all k).typ:Int)=2):=by omega
   simp only[if_neg (show ¬((nth m.all k).typ=2/\0<(nth m1.all k).rest) from fun e=>h2 e.1)] at HR
   have hfin:Hid (R (.returned (.slice ea ET.length ec)) w2):=HR.o _ _ _ w2 HPS2.o (fun g hg=>zbo Hv.o hg) Ht2.o HE2.o Hout.o (by omega)
   clear HR HE2
   generalize ET.length=le at *
   go_wp2_with fail
   exact hfin.o
end
section
open Go.RowKit Go.Shelf
def zbu (m:Mk):Mk:=zbg (zal m.phase m.ref m.all).1 (zal m.phase m.ref m.all).2.1 (zal m.phase m.ref m.all).2.1 (zah m 7)
theorem step_run {P:Program}{w w':World}{ops:Array Oper}{o:Oper}{a:Act}{K:Act->World->Prop}{Q:Exit->Act->World->Prop}{E:Prop}(hgd:o.guard=none)(s x:Operand)(t:TypeId)
  (ho:o.op= .call {callee:= .builtin .append,args:= #[s,x],argTypes:= #[t,t]})(vs vx:Value){v':Value}(hs:a.eval s=vs)(hx:a.eval x=vx)(hr:(Builtin.append_ #[t,t] o.type #[vs,vx]).run P w= .ok v' w')
  (h:K (a.put o.dst v') w'):if Region.wanted o (yielded ops a.tmps)=true then Oper.wp P o a w K Q else E:=by
 have hw:Region.wanted o (yielded ops a.tmps)=true:=by simp[Region.wanted,hgd]
 rw[if_pos hw]
 exact Go.Lib.wp_append_run w s x t t ho vs vx hs hx v' w' hr h
theorem zi4 (P:Nat)(b:Bk)(c:Cf)(m:Mk)(s0:Nat)(w:World)(R:EW)(h:PS w P b c m s0)
  (hR: ∀b' v E w',PS w' P b' c (zbu m) s0->(∀g,b'.F g->b.F g)->Tch (Own P b) w w'->Evs w' w.heap.size v E->outs (zbu m)=outs m++E->E.length<=1000000001->R (.returned v) w'):
  Calls Tryz.prog 128 #[.pointer (some ⟨P,0,none⟩)] w R:=by
 have HR:=zl hR
 have HP:=zl h
 have c10:=h.pm.cells 10 (.pointer (some ⟨b.K,0,none⟩)) rfl
 have c8:=h.pm.cells 8 (.int .i64 (m.ref:Nat)) rfl
 have hlP:=h.ltP
 clear hR h
 unfold zbu at HR
 have hcs:=ze0 m.phase m.ref m.all
 obtain ⟨cc,hcc⟩: ∃cc,zal m.phase m.ref m.all=cc:=⟨_,rfl⟩
 obtain ⟨p,v,u⟩:=cc
 have Hcc:=zl hcc
 rw[hcc] at HR hcs
 clear hcc
 go_enter Tryz.func128,Tryz.ntmps128
 go_wp2_with fail
 rename_i K hK0
 have HREST:Hid (∀D W,w.heap.size<=D->Below w.heap.size w W->W.heap[D]?=some (.cells #[.int .i64 (p:Nat),.int .i64 (v:Nat),.int .i64 u] 205 (0,0))->
   K {tmps:= #[.pointer (some ⟨P,0,none⟩),undef,.slice none 0 0,.pointer (some ⟨D,0,none⟩),undef,.pointer (some ⟨P,0,none⟩),.pointer (some ⟨P,0,none⟩),.pointer (some ⟨P,10,none⟩),.pointer (some ⟨b.K,0,none⟩),.pointer (some ⟨P,0,none⟩),.pointer (some ⟨P,0,none⟩),.pointer (some ⟨P,6,none⟩),.pointer (some ⟨P,8,none⟩),.int .i64 (m.ref:Nat),.agg #[.int .i64 (p:Nat),.int .i64 (v:Nat),.int .i64 u],undef,undef,undef,undef,undef,undef,undef,undef,undef,undef,undef,undef,undef],defers:=[]} W):=by
  intro D W hD hb hblk
  refine hK0 _ _ ?_
  clear hK0
  have HPW:=zl (HP.o.ext hb)
  have hblk2:=hblk
  obtain ⟨d0,d1,d2,_⟩:=zk7 hblk
  have hDl:=zab d0
  clear c10 c8
  go_wp2_with fail
  refine zho 7 (p,v,u) _ _ ?_
  intro W1 hb1
  have Hb1:Hid (Below w.heap.size w W1):=zad hb hb1
  have HP1:=zl (HPW.o.ext hb1)
  have hblk1:W1.heap[D]?=some (.cells #[.int .i64 (p:Nat),.int .i64 (v:Nat),.int .i64 u] 205 (0,0)):=zau hb1 hblk
  clear hb1 hblk hblk2 d0 d1 d2 hb HPW
  obtain ⟨e,he⟩: ∃e,mkev 7 0 0 0 0 0 (v:Int) (p:Int) u 0=e:=⟨_,rfl⟩
  rw[show ((7:Nat):Int)=7 from rfl,show (((p,v,u):Nat×Nat×Int).2.1:Int)=(v:Int) from rfl,show (((p,v,u):Nat×Nat×Int).1:Int)=(p:Int) from rfl,show ((p,v,u):Nat×Nat×Int).2.2=u from rfl,he]
  have He:Hid (zgy 7 m=e):=by
   unfold zgy
   rw[Hcc.o]
   exact he
  clear he
  have hb2:=zac W1 (.cells #[.int .i64 (e 0),.int .i64 (e 1),.int .i64 (e 2),.int .i64 (e 3),.int .i64 (e 4),.int .i64 (e 5),.int .i64 (e 6),.int .i64 (e 7),.int .i64 (e 8),.int .i64 (e 9)] 42)
  have hev:Evs (W1.alloc (.cells #[.int .i64 (e 0),.int .i64 (e 1),.int .i64 (e 2),.int .i64 (e 3),.int .i64 (e 4),.int .i64 (e 5),.int .i64 (e 6),.int .i64 (e 7),.int .i64 (e 8),.int .i64 (e 9)] 42)) w.heap.size (.slice (some ⟨W1.heap.size,0,none⟩) 1 1) [e]:=
   ⟨by simp[evcs,evc],.inr ⟨W1.heap.size,1,_,rfl,Hb1.o.size,World.alloc_heap_new W1 _,nr,by decide,rfl,by simp[evcs,evc,iv,List.range,List.range.loop]⟩⟩
  have HP2:=zl (HP1.o.ext hb2)
  have hblk2:(W1.alloc (.cells #[.int .i64 (e 0),.int .i64 (e 1),.int .i64 (e 2),.int .i64 (e 3),.int .i64 (e 4),.int .i64 (e 5),.int .i64 (e 6),.int .i64 (e 7),.int .i64 (e 8),.int .i64 (e 9)] 42)).heap[D]?=some (.cells #[.int .i64 (p:Nat),.int .i64 (v:Nat),.int .i64 u] 205 (0,0)):=zau hb2 hblk1
  have Hb2:Hid (Below w.heap.size w (W1.alloc (.cells #[.int .i64 (e 0),.int .i64 (e 1),.int .i64 (e 2),.int .i64 (e 3),.int .i64 (e 4),.int .i64 (e 5),.int .i64 (e 6),.int .i64 (e 7),.int .i64 (e 8),.int .i64 (e 9)] 42))):=Hb1.o.alloc Hb1.o.size _
  have Hev:=zl hev
  obtain ⟨d0,d1,d2,_⟩:=zk7 hblk2
  have c10:=HP2.o.pm.cells 10 (.pointer (some ⟨b.K,0,none⟩)) rfl
  clear hb2 hev hblk1 HP1 Hb1
  generalize hn1:W1.heap.size=n1 at *
  unfold evv
  go_wp2_with fail
  have HP3:Hid (PS (W1.alloc (.cells #[.int .i64 (e 0),.int .i64 (e 1),.int .i64 (e 2),.int .i64 (e 3),.int .i64 (e 4),.int .i64 (e 5),.int .i64 (e 6),.int .i64 (e 7),.int .i64 (e 8),.int .i64 (e 9)] 42)).drew P b c m s0):=HP2.o.ext br.drew
  have Hb3:=zl (Hb2.o.drew)
  have Hev3:Hid (Evs (W1.alloc (.cells #[.int .i64 (e 0),.int .i64 (e 1),.int .i64 (e 2),.int .i64 (e 3),.int .i64 (e 4),.int .i64 (e 5),.int .i64 (e 6),.int .i64 (e 7),.int .i64 (e 8),.int .i64 (e 9)] 42)).drew w.heap.size (.slice (some ⟨n1,0,none⟩) 1 1) [e]):=Hev.o.ext br.drew
  have c10':(W1.alloc (.cells #[.int .i64 (e 0),.int .i64 (e 1),.int .i64 (e 2),.int .i64 (e 3),.int .i64 (e 4),.int .i64 (e 5),.int .i64 (e 6),.int .i64 (e 7),.int .i64 (e 8),.int .i64 (e 9)] 42)).drew.cell? ⟨P,10,none⟩=some (.pointer (some ⟨b.K,0,none⟩)):=c10
  have d0':(W1.alloc (.cells #[.int .i64 (e 0),.int .i64 (e 1),.int .i64 (e 2),.int .i64 (e 3),.int .i64 (e 4),.int .i64 (e 5),.int .i64 (e 6),.int .i64 (e 7),.int .i64 (e 8),.int .i64 (e 9)] 42)).drew.cell? ⟨D,0,none⟩=some (.int .i64 (p:Nat)):=d0
  have d1':(W1.alloc (.cells #[.int .i64 (e 0),.int .i64 (e 1),.int .i64 (e 2),.int .i64 (e 3),.int .i64 (e 4),.int .i64 (e 5),.int .i64 (e 6),.int .i64 (e 7),.int .i64 (e 8),.int .i64 (e 9)] 42)).drew.cell? ⟨D,1,none⟩=some (.int .i64 (v:Nat)):=d1
  have d2':(W1.alloc (.cells #[.int .i64 (e 0),.int .i64 (e 1),.int .i64 (e 2),.int .i64 (e 3),.int .i64 (e 4),.int .i64 (e 5),.int .i64 (e 6),.int .i64 (e 7),.int .i64 (e 8),.int .i64 (e 9)] 42)).drew.cell? ⟨D,2,none⟩=some (.int .i64 u):=d2
  clear HP2 Hb2 Hev c10 d0 d1 d2 hblk2
  have hT:(W1.alloc (.cells #[.int .i64 (e 0),.int .i64 (e 1),.int .i64 (e 2),.int .i64 (e 3),.int .i64 (e 4),.int .i64 (e 5),.int .i64 (e 6),.int .i64 (e 7),.int .i64 (e 8),.int .i64 (e 9)] 42)).drew.cell? ⟨P,10,none⟩=some (.pointer (some ⟨b.K,0,none⟩))/\(W1.alloc (.cells #[.int .i64 (e 0),.int .i64 (e 1),.int .i64 (e 2),.int .i64 (e 3),.int .i64 (e 4),.int .i64 (e 5),.int .i64 (e 6),.int .i64 (e 7),.int .i64 (e 8),.int .i64 (e 9)] 42)).drew.cell? ⟨D,0,none⟩=some (.int .i64 (p:Nat))/\(W1.alloc (.cells #[.int .i64 (e 0),.int .i64 (e 1),.int .i64 (e 2),.int .i64 (e 3),.int .i64 (e 4),.int .i64 (e 5),.int .i64 (e 6),.int .i64 (e 7),.int .i64 (e 8),.int .i64 (e 9)] 42)).drew.cell? ⟨D,1,none⟩=some (.int .i64 (v:Nat))/\(W1.alloc (.cells #[.int .i64 (e 0),.int .i64 (e 1),.int .i64 (e 2),.int .i64 (e 3),.int .i64 (e 4),.int .i64 (e 5),.int .i64 (e 6),.int .i64 (e 7),.int .i64 (e 8),.int .i64 (e 9)] 42)).drew.cell? ⟨D,2,none⟩=some (.int .i64 u):=⟨c10',d0',d1',d2'⟩
  clear c10' d0' d1' d2'
  refine zbq 7 7 (fun W=>W.cell? ⟨P,10,none⟩=some (.pointer (some ⟨b.K,0,none⟩))/\W.cell? ⟨D,0,none⟩=some (.int .i64 (p:Nat))/\W.cell? ⟨D,1,none⟩=some (.int .i64 (v:Nat))/\W.cell? ⟨D,2,none⟩=some (.int .i64 u)) (fun _=>True) zco ?_
  generalize (W1.alloc (.cells #[.int .i64 (e 0),.int .i64 (e 1),.int .i64 (e 2),.int .i64 (e 3),.int .i64 (e 4),.int .i64 (e 5),.int .i64 (e 6),.int .i64 (e 7),.int .i64 (e 8),.int .i64 (e 9)] 42)).drew=W2 at *
  refine U0 (v:=?x0) 0 rfl (by kernel_rfl) (fun _ _ _ h=>h) (Or.inl ⟨by rfl,?hx0⟩) ⟨fun _=>hT,fun _=>trivial⟩ ?_
  case hx0=>(rintro w' _;go_simp;with_reducible rfl)
  refine U0 (v:=?x1) 1 rfl (by kernel_rfl) (fun _ _ _ h=>h) (Or.inl ⟨by rfl,?hx1⟩) ⟨fun _=>hT,fun _=>trivial⟩ ?_
  case hx1=>(rintro w' _;go_simp;with_reducible rfl)
  refine U0 (v:=?x2) 2 rfl (by kernel_rfl) (fun _ _ _ h=>h) (Or.inl ⟨by rfl,?hx2⟩) ⟨fun _=>hT,fun _=>trivial⟩ ?_
  case hx2=>(rintro w' _;go_simp;with_reducible rfl)
  refine U0 (v:=?x3) 3 rfl (by kernel_rfl) (fun _ _ _ h=>h) (Or.inl ⟨by rfl,?hx3⟩) ⟨fun _=>hT,fun _=>trivial⟩ ?_
  case hx3=>(rintro w' _;go_simp;with_reducible rfl)
  refine U0 (v:=?x4) 4 rfl (by kernel_rfl) (fun _ _ _ h=>h) (Or.inl ⟨by rfl,?hx4⟩) ⟨fun _=>hT,fun _=>trivial⟩ ?_
  case hx4=>(rintro w' _;go_simp;with_reducible rfl)
  refine U1 (v:=?x5) 5 rfl (by kernel_rfl) (fun _ _ _ h=>h) (Or.inl ⟨by rfl,?hx5⟩) ⟨fun _=>hT,fun _=>trivial⟩ ?_
  case hx5=>(rintro w' ⟨⟨z0,z1,z2,z3⟩,_⟩;go_simp;with_reducible rfl)
  refine U1 (v:=?x6) 6 rfl (by kernel_rfl) (fun _ _ _ h=>h) (Or.inl ⟨by rfl,?hx6⟩) ⟨fun _=>hT,fun _=>trivial⟩ ?_
  case hx6=>(rintro w' ⟨⟨z0,z1,z2,z3⟩,_⟩;go_simp;with_reducible rfl)
  clear hT
  have hrest: ∀j,(nth m.all j).rest<=4294967295:=fun j=>by
   by_cases e:j<m.all.length
   .have:=zfo HP.o.pv.gd j e;omega
   .unfold nth
    rw[List.getD_eq_getElem?_getD,List.getElem?_eq_none (by omega)]
    exact Nat.zero_le _
  have hv9:v<=1000000000:=llt hcs.1 (llt (zk5 _ _ _ _) (HP.o.pv.gd.sum 1))
  have hp9:p<=4294967295:=by
   rcases hcs.2.2 with e|e
   .omega
   .exact HP.o.pv.gd.bds.cnd p e
  refine za1 7 (by kernel_rfl) rfl (fun K' hK=>?_)
  go_simp
  refine bUncross_any b (zah m 7) p v u _ _ HP3.o.pm.book HP.o.pv.ok HP.o.pv.qd hrest hcs.1 hcs.2.1 hv9 ?_
  intro v' tv T w1 hB hv ht hrow hout hTl
  refine hK.o _ _ ⟨fun h=>absurd h (by decide),fun _=>trivial⟩ ?_
  clear hK K'
  obtain ⟨m1,hm1⟩: ∃m1,zbg p v v (zah m 7)=m1:=⟨_,rfl⟩
  have htrd:Trd (zah m 7) m1:=hm1▸Trd.cross p v v (zah m 7) hp9 hcs.1 hcs.2.1
  rw[hm1] at HR hB hout
  have hlow: ∀g,Own P b g->g<w.heap.size:=fun g hg=>HP.o.lt hg
  have hblk1:w1.heap[P]?=some (.cells (pmc c {m with seq:=s0} b.K) 104 (0,0)):=(ht.blk P HP3.o.ltP HP3.o.pm.own).trans HP3.o.pm.blk
  have Hev1:Hid (Evs w1 w.heap.size (.slice (some ⟨n1,0,none⟩) 1 1) [e]):=Hev3.o.keep fun g hg hl=>ht.blk g hl fun e'=>by have:=hlow g (.inr e');omega
  have hPI:PS W2 P b c (zah m 7) s0:=HP3.o.tell _
  have HB:=zl hB
  have hsz1:w.heap.size<=w1.heap.size:=llt Hb3.o.size ht.size
  have Ht1:Hid (Tch (Own P b) w w1):=(Tch.of Hb3.o).trans (ht.own fun g hg=> .inr hg)
  have hW2:=Hb3.o.size
  refine za1 8 (by kernel_rfl) rfl (fun K' hK=>?_)
  obtain ⟨ta,tc,rfl⟩:=zae hrow
  go_simp
  refine ptrade_any P b.K c {m with seq:=s0} T _ W2.heap.size _ _ hblk1 hrow HP3.o.ltP (by omega) ?_
  intro ev w2 hb2 hE2 ht2
  refine hK.o _ _ ⟨fun h=>absurd h (by decide),fun _=>trivial⟩ ?_
  clear hK K'
  have hps2:PS w2 P (b.dropped v' (fun j=>decide ((nth m1.all j).rest=0))) c m1 s0:=hPI.traded htrd hout HB.o hv hb2 ht2
  have hev2:Evs w2 w.heap.size (.slice (some ⟨n1,0,none⟩) 1 1) [e]:=Hev1.o.keep fun g hg hl=>ht2.blk g hl (by omega)
  have ht2':Tch (Own P b) w w2:=Ht1.o.trans (ht2.own fun g hg=> .inl hg)
  have hfit:[e].length+(T.map tdev).length<=4000000000:=by simp;omega
  obtain ⟨vj,wj,hj,hjE,hjg⟩:=zd0 32 hev2 (hE2.low (Nat.zero_le _)) hfit ht2'.size
  have hfin:Hid (R (.returned vj) wj):=by
   refine HR.o _ vj ([e]++T.map tdev) wj (hps2.grown hjg hev2 ?_) (fun g hg=>zbo hv hg) (zdh _ w ht2' hjg hev2 nr) hjE ?_ (by simp;omega)
   .intro g hg
    rcases hg with e|e
    .exact hlow g (.inl e)
    .exact hlow g (.inr (zbo hv e))
   .rw[hout,zef,He.o,List.append_assoc]
  refine za1 9 (by kernel_rfl) rfl (fun K' hK=>?_)
  refine step_run rfl _ _ 32 rfl _ _ rfl rfl hj ?_
  refine hK.o _ _ ⟨fun h=>absurd h (by decide),fun _=>trivial⟩ ?_
  clear hK K'
  refine za1 10 (by kernel_rfl) rfl (fun K' hK=>?_)
  go_simp
  refine hK.o _ _ ⟨fun h=>absurd h (by decide),fun _=>trivial⟩ ?_
  clear hK K'
  refine zch (by kernel_rfl) ?_
  clear hj hjE hjg hev2 hps2 ht2' hb2 hE2 ht2 hrow hB hblk1 hPI
  go_wp2_with fail
  exact hfin.o
 clear hK0
 have hT:w.drew.cell? ⟨P,10,none⟩=some (.pointer (some ⟨b.K,0,none⟩))/\w.drew.cell? ⟨P,8,none⟩=some (.int .i64 (m.ref:Nat)):=⟨c10,c8⟩
 have HB:Hid (BKs w.drew b m.phase m.all):=HP.o.pm.book.ext br.drew
 have hbd:Below w.heap.size w w.drew:=br.drew
 have hds:w.drew.heap.size=w.heap.size:=rfl
 clear c10 c8
 refine zbq 9 9 (fun W=>W.cell? ⟨P,10,none⟩=some (.pointer (some ⟨b.K,0,none⟩))/\W.cell? ⟨P,8,none⟩=some (.int .i64 (m.ref:Nat))) (fun _=>True) zco ?_
 refine U0 (v:=?v0) 0 rfl (by kernel_rfl) (fun _ _ _ h=>h) (Or.inl ⟨by rfl,?hy0⟩) ⟨fun _=>hT,fun _=>trivial⟩ ?_
 case hy0=>(rintro w' _;go_simp;with_reducible rfl)
 refine U0 (v:=?v1) 1 rfl (by kernel_rfl) (fun _ _ _ h=>h) (Or.inl ⟨by rfl,?hy1⟩) ⟨fun _=>hT,fun _=>trivial⟩ ?_
 case hy1=>(rintro w' _;go_simp;with_reducible rfl)
 refine U0 (v:=?v2) 2 rfl (by kernel_rfl) (fun _ _ _ h=>h) (Or.inl ⟨by rfl,?hy2⟩) ⟨fun _=>hT,fun _=>trivial⟩ ?_
 case hy2=>(rintro w' _;go_simp;with_reducible rfl)
 refine U1 (v:=?v3) 3 rfl (by kernel_rfl) (fun _ _ _ h=>h) (Or.inl ⟨by rfl,?hy3⟩) ⟨fun _=>hT,fun _=>trivial⟩ ?_
 case hy3=>(rintro w' ⟨⟨z0,z1⟩,_⟩;go_simp;with_reducible rfl)
 refine U0 (v:=?v4) 4 rfl (by kernel_rfl) (fun _ _ _ h=>h) (Or.inl ⟨by rfl,?hy4⟩) ⟨fun _=>hT,fun _=>trivial⟩ ?_
 case hy4=>(rintro w' _;go_simp;with_reducible rfl)
 refine U0 (v:=?v5) 5 rfl (by kernel_rfl) (fun _ _ _ h=>h) (Or.inl ⟨by rfl,?hy5⟩) ⟨fun _=>hT,fun _=>trivial⟩ ?_
 case hy5=>(rintro w' _;go_simp;with_reducible rfl)
 refine U0 (v:=?v6) 6 rfl (by kernel_rfl) (fun _ _ _ h=>h) (Or.inl ⟨by rfl,?hy6⟩) ⟨fun _=>hT,fun _=>trivial⟩ ?_
 case hy6=>(rintro w' _;go_simp;with_reducible rfl)
 refine U0 (v:=?v7) 7 rfl (by kernel_rfl) (fun _ _ _ h=>h) (Or.inl ⟨by rfl,?hy7⟩) ⟨fun _=>hT,fun _=>trivial⟩ ?_
 case hy7=>(rintro w' _;go_simp;with_reducible rfl)
 refine U1 (v:=?v8) 8 rfl (by kernel_rfl) (fun _ _ _ h=>h) (Or.inl ⟨by rfl,?hy8⟩) ⟨fun _=>hT,fun _=>trivial⟩ ?_
 case hy8=>(rintro w' ⟨⟨z0,z1⟩,_⟩;go_simp;with_reducible rfl)
 generalize w.drew=W0 at *
 have hkp:=HP.o.pv.kp m.phase
 have Hk:=zl hkp
 clear hkp
 refine U_two 9 10 (by kernel_rfl) rfl rfl (fun K' hK=>?_) (fun K' hK=>?_)
 .go_simp
  refine zle b m.phase m.all m.ref _ _ HB.o Hk.o.ok (Hk.o.qd 1 (.inl rfl)) (Hk.o.qd 2 (.inr rfl)) (Hk.o.sum 1 (.inl rfl)) (Hk.o.sum 2 (.inr rfl)) Hk.o.dep Hk.o.ref ?_
  intro W1 hb1
  have Hb1:Hid (Below w.heap.size w W1):=zad hbd hb1
  rw[Hcc.o]
  unfold zjk
  clear hb1 Hk HB hT
  refine hK.o _ _ ⟨fun h=>absurd h (by decide),fun _=>trivial⟩ ?_
  clear hK K'
  refine za1 10 (by kernel_rfl) rfl (fun K' hK=>?_)
  go_simp
  refine hK.o _ _ ⟨fun h=>absurd h (by decide),fun _=>trivial⟩ ?_
  clear hK K'
  refine za1 11 (by kernel_rfl) rfl (fun K' hK=>?_)
  go_simp
  refine hK.o _ _ ⟨fun h=>absurd h (by decide),fun _=>trivial⟩ ?_
  clear hK K'
  refine zch (by kernel_rfl) ?_
  exact HREST.o W1.heap.size _ Hb1.o.size (Hb1.o.alloc Hb1.o.size _) (World.alloc_heap_new W1 _)
 .go_simp
  have hbx:Below w.heap.size w (W0.alloc (.cells #[.int .i64 0,.int .i64 0,.int .i64 0] 205)):=hbd.alloc (by omega) _
  have hzx:=World.alloc_heap_new W0 (.cells #[.int .i64 0,.int .i64 0,.int .i64 0] 205)
  rw[hds] at hzx
  have HBx:Hid (BKs (W0.alloc (.cells #[.int .i64 0,.int .i64 0,.int .i64 0] 205)) b m.phase m.all):=HB.o.ext (zac _ _)
  have hTx:(W0.alloc (.cells #[.int .i64 0,.int .i64 0,.int .i64 0] 205)).cell? ⟨P,10,none⟩=some (.pointer (some ⟨b.K,0,none⟩))/\(W0.alloc (.cells #[.int .i64 0,.int .i64 0,.int .i64 0] 205)).cell? ⟨P,8,none⟩=some (.int .i64 (m.ref:Nat)):=⟨zaa (zac _ _) hT.1,zaa (zac _ _) hT.2⟩
  refine hK.o _ _ ⟨fun _=>hTx,fun _=>trivial⟩ ?_
  clear hK K' hT hTx HB
  generalize W0.alloc (.cells #[.int .i64 0,.int .i64 0,.int .i64 0] 205)=X at *
  refine za1 9 (by kernel_rfl) rfl (fun K' hK=>?_)
  go_simp
  refine zle b m.phase m.all m.ref _ _ HBx.o Hk.o.ok (Hk.o.qd 1 (.inl rfl)) (Hk.o.qd 2 (.inr rfl)) (Hk.o.sum 1 (.inl rfl)) (Hk.o.sum 2 (.inr rfl)) Hk.o.dep Hk.o.ref ?_
  intro W1 hb1
  have Hb1:Hid (Below w.heap.size w W1):=zad hbx hb1
  have hz1:W1.heap[w.heap.size]?=some (.cells #[.int .i64 0,.int .i64 0,.int .i64 0] 205 (0,0)):=zau hb1 hzx
  rw[Hcc.o]
  unfold zjk
  clear hb1 Hk HBx hzx hbx
  refine hK.o _ _ ⟨fun h=>absurd h (by decide),fun _=>trivial⟩ ?_
  clear hK K'
  refine za1 11 (by kernel_rfl) rfl (fun K' hK=>?_)
  have hz2:=set3 (a:= .int .i64 (p:Nat)) (b:= .int .i64 (v:Nat)) (c:= .int .i64 u) hz1
  obtain ⟨s0',s1',s2',sf⟩:=zk7 hz1
  have g0:=sf 0
  have g1:=sf 1
  have g2:=sf 2
  clear sf
  go_simp
  refine hK.o _ _ ⟨fun h=>absurd h (by decide),fun _=>trivial⟩ ?_
  clear hK K'
  refine zch (by kernel_rfl) ?_
  exact HREST.o w.heap.size _ nr (((Hb1.o.setCell (p:=⟨w.heap.size,0,none⟩) nr _).setCell (p:=⟨w.heap.size,1,none⟩) nr _).setCell (p:=⟨w.heap.size,2,none⟩) nr _) hz2
end
section
open Go.RowKit Go.Shelf
theorem Evs.one {w:World}{B:Nat}{v:Value}{e:Nat->Int}(h:w.ownsRow B 42 10 v 1 (evc e)):Evs w B v [e]:=by
 unfold Evs
 rw[show evcs [e]=evc e by simp[evcs]]
 exact h
theorem zf8 (P:Nat)(b:Bk)(c:Cf)(m:Mk)(s0:Nat)(w:World)(R:EW)(h:PS w P b c m s0)
  (hR: ∀v w',Evs w' w.heap.size v [zgy 6 m]->Below w.heap.size w w'->R (.returned v) w'):Calls Tryz.prog 127 #[.pointer (some ⟨P,0,none⟩)] w R:=by
 have hk:=h.pv.kp m.phase
 exact pindicate_any P b c {m with seq:=s0} m.phase w R h.pm ⟨hk.ok,hk.qd,hk.sum,hk.dep,hk.ref⟩ fun v w' h1 h2=>hR v w' (Evs.one h1) h2
theorem prelease_any (P:Nat)(b:Bk)(c:Cf)(m:Mk)(s0 ph:Nat)(w:World)(R:EW)(h:PM w P b c {m with seq:=s0} ph)(hv:Pv b m)(hph:m.phase=2)
  (hR: ∀v w',PS w' P b c m s0->Tch (Own P b) w w'->Evs w' w.heap.size v [zgy 6 m]->R (.returned v) w'):Calls Tryz.prog 136 #[.pointer (some ⟨P,0,none⟩)] w R:=by
 have HR:=zl hR
 have HP:=zl h
 have HV:=zl hv
 have c10:=h.cells 10 (.pointer (some ⟨b.K,0,none⟩)) rfl
 have hlP:=(gsi.1 h.blk).1
 have Hph:=zl hph
 clear hR h hv hph
 go_enter Tryz.func136,Tryz.ntmps136
 go_wp2_with fail
 refine bRelease_any b ph m.all _ _ HP.o.book ?_
 intro w1 hB ht
 have hps:PS w1 P b c m s0:=⟨⟨(ht.blk P hlP fun e=>HP.o.own (bo_F e)).trans HP.o.blk,hB m.phase (by have:=Hph.o;omega),HP.o.own⟩,HV.o,by have:=Hph.o;omega⟩
 have HPS:=zl hps
 have Ht:Hid (Tch (Own P b) w w1):=ht.own fun g hg=> .inr (bo_F hg)
 clear hps hB ht HP HV c10
 go_wp2_with fail
 refine zf8 P b c m s0 _ _ HPS.o ?_
 intro v w2 hev hb
 have hfin:Hid (R (.returned v) w2):=HR.o v w2 (HPS.o.ext hb) (Ht.o.trans (Tch.of hb)) (hev.low Ht.o.size)
 clear hev hb
 go_wp2_with fail
 exact hfin.o
theorem zkj (v:Value)(w:World)(R:EW)(hR:R (.returned (.bool true)) w):Calls Tryz.prog 173 #[v] w R:=by
 have HR:=zl hR
 clear hR
 go_enter Tryz.func173,Tryz.ntmps173
 go_wp2_with fail
 exact HR.o
theorem pcancelWP1_any (E:Nat)(o:Od)(f:Bool)(t:Nat)(w:World)(R:EW)(h:OB w E o f t)(hR:R (.returned (.bool (!hasP o.typ))) w):Calls Tryz.prog 170 #[.pointer (some ⟨E,0,none⟩)] w R:=by
 have HR:=zl hR
 have e2:=h.c.c2
 clear hR
 go_enter Tryz.func170,Tryz.ntmps170
 go_wp2_with fail
 refine zed o.typ _ _ ?_
 generalize hasP o.typ=bb at *
 go_wp2_with fail
 exact HR.o
theorem zf2 (gf:Nat)(pr:Od->Bool)(P:Nat)(b:Bk)(c:Cf)(m:Mk)(s0:Nat)(w:World)(R:EW)(h:PS w P b c m s0)
  (eg: ∀args w,(callFunc gf args).run Tryz.prog w= .ok (.enter gf args) w)
  (hg: ∀E o f t W (R':EW),OB W E o f t->R' (.returned (.bool (pr o))) W->Calls Tryz.prog gf #[.pointer (some ⟨E,0,none⟩)] W R')
  (hpr: ∀i,i<m.all.length->(pr (nth m.all i)=true↔(m.phase=3\/(m.phase=1/\pl (nth m.all i)=true))))
  (hR: ∀b' v E w',PS w' P b' c (zai m.all.length m) s0->(∀g,b'.F g->b.F g)->Tch (Own P b) w w'->Evs w' w.heap.size v E->outs (zai m.all.length m)=outs m++E->E.length<=1048576->R (.returned v) w'):
  Calls Tryz.prog 169 #[.pointer (some ⟨P,0,none⟩),.func (.func gf) #[] #[]] w R:=by
 have HR:=zl hR
 have HP:=zl h
 have HG:=zl hg
 have HPr:=zl hpr
 have c10:=h.pm.cells 10 (.pointer (some ⟨b.K,0,none⟩)) rfl
 have hlP:=h.ltP
 clear hR h hg hpr
 go_enter Tryz.func169,Tryz.ntmps169
 go_wp2_with fail
 refine bLive_any b m.phase m.all _ _ HP.o.pm.book HP.o.pv.ok (HP.o.pv.qd 1 (.inl rfl)) (HP.o.pv.qd 2 (.inr rfl)) (HP.o.pv.lv 1 (.inl rfl)) (HP.o.pv.lv 2 (.inr rfl)) ?_
 intro lv w1 hrow hb1
 have Hrow:=zl hrow
 have Hb1:=zl hb1
 obtain ⟨la,lc,rfl⟩:=zae hrow
 clear hrow hb1 c10
 obtain ⟨n,hn⟩: ∃n,(zbi m.all).length=n:=⟨_,rfl⟩
 rw[hn] at Hrow
 have Hn:=zl hn
 rw[hn]
 clear hn
 have hn9:n<=1048576:=by
  have h1:=HP.o.pv.gd.len
  have h2:(zbi m.all).length<=m.all.length:=by
   unfold zbi
   exact llt (List.length_filter_le _ _) (by simp)
  have:=Hn.o
  omega
 go_wp2_with fail
 go_loopw [5,7,14] (fun u _ i wr=> ∃(t:Nat) (bt:Bk) (E:List (Nat->Int)),t<=n/\i= .int .i64 t/\PS wr P bt c (zai (swAt m t) m) s0/\bt.adr=b.adr/\(∀g,bt.F g->b.F g)/\Tch (Own P b) w1 wr/\Evs wr w1.heap.size u E/\outs (zai (swAt m t) m)=outs m++E/\E.length<=t) (fun _ _ i _=>n-(intOf i).toNat)
 case atStart=>exact⟨0,b,[],Nat.zero_le _,rfl,by rw[swAt_start];exact HP.o.ext Hb1.o,rfl,fun _ h=>h,Tch.refl _ _,Evs.nil _ _,by rw[swAt_start];simp,nr⟩
 case round=>
  obtain ⟨t,bt,E,ht,rfl,hps,hadr,hbf,htc,hev,hou,hel⟩:=hrel
  have HPS:=zl hps
  have Hbf:=zl hbf
  have Htc:=zl htc
  have Hou:=zl hou
  have Hev:=zl hev
  have Hadr:=zl hadr
  have hw1:=Hb1.o.size
  clear hps hbf htc hou hadr
  by_cases htn:t<n
  .obtain ⟨i,hi⟩: ∃i,qat (zbi m.all) t=i:=⟨_,rfl⟩
   have hlt:t<(zbi m.all).length:=by rw[Hn.o];exact htn
   have hmem:i∈zbi m.all:=hi▸zbk _ t hlt
   obtain ⟨hil,hir⟩:=(zel m.all i).1 hmem
   have hsw:swAt m t=i:=by
    rw[←hi]
    unfold swAt qat
    simp[List.getD_eq_getElem?_getD,hlt]
   have hst:zai (swAt m (t+1)) m=zai (i+1) m:=by
    rw[swAt_step m t hlt]
    rw[show (zbi m.all).getD t 0=i from hi]
   rw[hsw] at HPS Hou
   have hone:=sweep_one i m hir
   have hnth:=zka i m i nr
   obtain ⟨g,cap,hv,hBg,hgl,_,hcell,_⟩:=zee Hrow.o t _ (zjt b.adr (zbi m.all) t hlt)
   rw[hi] at hcell
   cases hv
   have hno: ¬Own P b g:=fun e=>by have:=HP.o.lt e;omega
   have hc:wr.cell? ⟨g,t,none⟩=some (.pointer (some ⟨b.adr i,0,none⟩)):=(World.cell?_of_block (a:=⟨g,t,none⟩) (Htc.o.blk g hgl hno)).trans hcell
   have hsd:isSd (nth m.all i).side:=(HP.o.pv.ok i hil).side
   have hib:i∈bt.q (nth m.all i).side:=by
    refine(HPS.o.pv.qd _ hsd).has i ?_ (by rw[hnth]) (by rw[hnth];exact hir)
    rw[(zcg i m).1]
    exact hil
   have hO:=HPS.o.pm.book.ord _ hsd i hib
   rw[Hadr.o] at hO
   have HO:=zl hO
   have HI:Hid (∃s,isSd s/\i∈bt.q s):=⟨_,hsd,hib⟩
   have Hst:=zl hst
   have Hone:=zl hone
   have Hnth:=zl hnth
   have hpp:=HPr.o i hil
   have hgl2:=zab hc
   clear hcell hno hO hsw hst hone hnth hib hmem hi
   go_wp2_with fail
   refine HG.o _ _ _ _ _ _ HO.o ?_
   rw[Hnth.o]
   cases hb:pr (nth m.all i) with
   |false=>
    have hnot: ¬(m.phase=3\/(m.phase=1/\pl (nth m.all i)=true)):=fun e=>by rw[hpp.2 e] at hb;cases hb
    have Hst2:Hid (zai (swAt m (t+1)) m=zai i m):=by
     show zai (swAt m (t+1)) m=zai i m
     rw[Hst.o,Hone.o,if_neg hnot]
    clear hb hpp hc hev HO
    go_wp2_with fail
    go_roundw
    case rel=>exact⟨t+1,bt,E,by omega,by go_num,by rw[Hst2.o];exact HPS.o,Hadr.o,Hbf.o,Htc.o,Hev.o,by rw[Hst2.o];exact Hou.o,by omega⟩
    case measure=>simp[intOf];omega
   |true=>
    have Hst2:Hid (zai (swAt m (t+1)) m=zav (zai i m) i):=by
     show zai (swAt m (t+1)) m=zav (zai i m) i
     rw[Hst.o,Hone.o,if_pos (hpp.1 hb)]
    clear hb hpp hc HO
    have ha:=congrFun Hadr.o i
    go_wp2_with fail
    rw[←ha]
    refine zfs P bt c (zai i m) s0 i _ _ HPS.o HI.o ?_
    intro v3 w3 hps3 hv3 ht3
    have hlow: ∀g,bt.F g->g<w.heap.size:=fun g hg=>HP.o.lt (.inr (Hbf.o g hg))
    have hlow0:P<w.heap.size:=hlP
    have Hev3:Hid (Evs w3 w1.heap.size u5 E):=Hev.o.keep fun g hg hl=>ht3.blk g hl fun e=>by have:=hlow g (bt_F e);omega
    have Htc3:Hid (Tch (Own P b) w1 w3):=Htc.o.trans (ht3.own fun g hg=> .inr (Hbf.o g (bt_F hg)))
    have HFin:Hid (∀v w',Grew w1.heap.size 42 10 w3 u5 w' v (E.length+1) (evcs E++evc (zez (zai i m) i))-> ∃(bn:Bk) (E':List (Nat->Int)),PS w' P bn c (zai (swAt m (t+1)) m) s0/\bn.adr=b.adr/\(∀g,bn.F g->b.F g)/\Tch (Own P b) w1 w'/\Evs w' w1.heap.size v E'/\outs (zai (swAt m (t+1)) m)=outs m++E'/\E'.length<=t+1):=by
     intro v w' hG
     refine⟨bt.dropped v3 (fun j=>decide (j=i)),E++[zez (zai i m) i],?_,Hadr.o,fun g hg=>Hbf.o g (zbo hv3 hg),zdh _ w1 Htc3.o hG.grown Hev3.o nr,Evs.push hG,?_,by simp;omega⟩
     .rw[Hst2.o]
      refine hps3.grown hG.grown Hev3.o fun g hg=>?_
      rcases hg with e|e
      .omega
      .have:=hlow g (zbo hv3 e);omega
     .rw[Hst2.o,zfu,Hou.o,List.append_assoc]
    have hsz3:w1.heap.size<=w3.heap.size:=Htc3.o.size
    clear hps3 hv3 ht3 Hev hev HPS Hst2 Hst Hone Hnth HI Htc Htc3 Hou Hadr Hbf ha
    generalize zez (zai i m) i=e at *
    unfold evv
    go_wp2_with (first|(at_builtin;refine Shut.out ?_)|go_in)
    refine⟨?_⟩
    refine za7 w1.heap.size 10 80 E.length u5 (evcs E) _ Hev3.o hsz3 Tryz.infoEventR rfl (by decide) rfl ?_ (by omega) (by decide) _ _ 32 Tryz.underlying32 rfl rfl rfl ?_ ?_
    .exact zhc e
    .rfl
    intro v4 w4 hG
    have Hf:=HFin.o v4 w4 hG
    have HF:=zl Hf
    clear hG Hf HFin Hev3
    go_wp2_with fail
    go_roundw
    case rel=>
     obtain ⟨bn,E',h1,h2,h3,h4,h5,h6,h7⟩:=HF.o
     exact⟨t+1,bn,E',by omega,by go_num,h1,h2,h3,h4,h5,h6,h7⟩
    case measure=>simp[intOf];omega
  .have ht':t=n:=by omega
   subst ht'
   have hse:zai (swAt m t) m=zai m.all.length m:=by rw[←Hn.o,swAt_end]
   rw[hse] at HPS Hou
   have hn8:E.length<=1048576:=by omega
   have hfin:Hid (R (.returned u5) wr):=HR.o bt u5 E wr HPS.o Hbf.o ((Tch.of Hb1.o).trans Htc.o) (Hev.o.low hw1) Hou.o hn8
   clear hev HPS Hou
   go_wp2_with fail
   exact hfin.o
theorem pcancelWP_any (P:Nat)(b:Bk)(c:Cf)(m:Mk)(s0:Nat)(w:World)(R:EW)(h:PS w P b c m s0)(hph:m.phase=1)
  (hR: ∀b' v E w',PS w' P b' c (zai m.all.length m) s0->(∀g,b'.F g->b.F g)->Tch (Own P b) w w'->Evs w' w.heap.size v E->outs (zai m.all.length m)=outs m++E->E.length<=1048576->R (.returned v) w'):
  Calls Tryz.prog 133 #[.pointer (some ⟨P,0,none⟩)] w R:=by
 have HR:=zl hR
 have HP:=zl h
 have Hph:=zl hph
 clear hR h hph
 go_enter Tryz.func133,Tryz.ntmps133
 go_wp2_with fail
 refine zf2 170 (fun o=>!hasP o.typ) P b c m s0 _ _ HP.o (enters_of Tryz.func170 (by kernel_rfl) rfl) (fun E o f t W R' h1 h2=>pcancelWP1_any E o f t W R' h1 h2) ?_ ?_
 .intro i hi
  rw[pl_has (HP.o.pv.ty i hi),Hph.o]
  simp
 .intro b' v E w' h1 h2 h3 h4 h5 h6
  have hfin:=zl (HR.o b' v E w' h1 h2 h3 h4 h5 h6)
  clear h1 h2 h3 h4 h5 h6
  go_wp2_with fail
  exact hfin.o
theorem pcancelAll_any (P:Nat)(b:Bk)(c:Cf)(m:Mk)(s0:Nat)(w:World)(R:EW)(h:PS w P b c m s0)(hph:m.phase=3)
  (hR: ∀b' v E w',PS w' P b' c (zai m.all.length m) s0->(∀g,b'.F g->b.F g)->Tch (Own P b) w w'->Evs w' w.heap.size v E->outs (zai m.all.length m)=outs m++E->E.length<=1048576->R (.returned v) w'):
  Calls Tryz.prog 138 #[.pointer (some ⟨P,0,none⟩)] w R:=by
 have HR:=zl hR
 have HP:=zl h
 have Hph:=zl hph
 clear hR h hph
 go_enter Tryz.func138,Tryz.ntmps138
 go_wp2_with fail
 refine zf2 173 (fun _=>true) P b c m s0 _ _ HP.o (enters_of Tryz.func173 (by kernel_rfl) rfl) (fun E o f t W R' _ h2=>zkj _ W R' h2) ?_ ?_
 .intro i hi
  rw[Hph.o]
  simp
 .intro b' v E w' h1 h2 h3 h4 h5 h6
  have hfin:=zl (HR.o b' v E w' h1 h2 h3 h4 h5 h6)
  clear h1 h2 h3 h4 h5 h6
  go_wp2_with fail
  exact hfin.o
end
