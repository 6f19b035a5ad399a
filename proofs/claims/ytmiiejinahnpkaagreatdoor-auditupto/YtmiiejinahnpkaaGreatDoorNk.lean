import Derived.Test.YtmiiejinahnpkaaGreatDoorNj
import Derived.Test.YtmiiejinahnpkaaGreatDoorXNfNg
set_option maxRecDepth 100000
set_option maxHeartbeats 4000000
namespace Go.Proofs.YtmiiejinahnpkaaGreatDoor
open Go.RowKit Go.Shelf
structure CmdsAt (w:World) (sa:Option Addr) (n:Nat) (A:Nat->Option Addr) (N C:Nat->Nat) (Y:Nat->Nat->Nat):Prop where
 cell: ∀i,i<n-> ∃g o,sa=some ⟨g,o,none⟩/\w.cell? ⟨g,o+i,none⟩=some (.slice (A i) (N i) (C i))
 len: ∀i,i<n->N i<=1048576/\N i<=C i
 bs: ∀i,i<n->zgh w (A i) (N i) (Y i)
 byt: ∀i q,Y i q<=255
 low: ∀i,i<n->0<N i-> ∀g o,A i=some ⟨g,o,none⟩->g<w.heap.size
theorem zgh.ext {w w':World}{a:Option Addr}{n:Nat}{Y:Nat->Nat}(h:zgh w a n Y)(hb:Below w.heap.size w w'):zgh w' a n Y:=fun i hi=>by
 obtain ⟨g,o,e,hc⟩:=h i hi
 exact⟨g,o,e,(hb.cell (zab hc)).trans hc⟩
structure Km (w0 w:World) (P:Nat) (b:Bk) (c:Cf) (m:Mk) (k:Nat):Prop where
 ps:PS w P b c m m.seq
 low: ∀g,Own P b g->w0.heap.size<=g
 bel:Below w0.heap.size w0 w
 ct:c.total<=1000000000
 co:c.orders<=24
 lv:zap m.all<=c.orders
 ids: ∀j,(nth m.all j).id<=4294967295
 len:m.all.length<=k
theorem Km.ext {w0 w w':World}{P:Nat}{b:Bk}{c:Cf}{m:Mk}{k:Nat}(h:Km w0 w P b c m k)(hb:Below w.heap.size w w'):Km w0 w' P b c m k:=
 ⟨h.ps.ext hb,h.low,h.bel.trans (hb.mono h.bel.size),h.ct,h.co,h.lv,h.ids,h.len⟩
theorem Km.new {w0 w:World}{P:Nat}{b:Bk}{x:Nat->Int}(hok:cfOk x)(hb:Below w0.heap.size w0 w)(ho: ∀g,Own P b g->w0.heap.size<=g)(hp:PS w P b (cfOf x) (newM (cfOf x)) 0):Km w0 w P b (cfOf x) (newM (cfOf x)) 0:=by
 obtain ⟨q1,q2,q3,q4,q5,q6,q7,q8,q9,q10⟩:=hok
 exact⟨hp,ho,hb,by show (x 5).toNat<=_;omega,by show (x 4).toNat<=_;omega,by simp[newM,zap],fun j=>by simp[newM,nth,od0],by simp[newM]⟩
theorem Km.sent {w0 w w':World}{P:Nat}{b b':Bk}{c:Cf}{m:Mk}{k N:Nat}{Y:Nat->Nat}(h:Km w0 w P b c m k)(hY: ∀i,Y i<=255)(hk:k<=1048575)(hp:PS w' P b' c (zaz c m Y N) (zaz c m Y N).seq)(hm:Mv P w b w' b'):
  Km w0 w' P b' c (zaz c m Y N) (k+1):=by
 have hl:=h.len
 have hf:=Fm.send c m Y N h.ps.pv.gd h.ids hY (by omega) h.ct
 have hs:=(zfm c m Y N h.ps.pv.gd h.ps.ph (by omega) h.ct h.lv).1
 exact⟨hp,hm.low h.low h.bel.size,h.bel.trans (hm.tch.low h.bel.size h.low),h.ct,h.co,hs.live,hf.ids,llt hs.len (by show m.all.length+1<=_;omega)⟩
theorem Km.ok {w0 w:World}{P:Nat}{b:Bk}{c:Cf}{m:Mk}{k N:Nat}{Y:Nat->Nat}(h:Km w0 w P b c m k)(hY: ∀i,Y i<=255)(hk:k<=1048575):(∀e∈(zaz c m Y N).out,okE e)/\(zaz c m Y N).out.length<=36:=by
 have hl:=h.len
 have hco:=h.co
 have:=(zfm c m Y N h.ps.pv.gd h.ps.ph (by omega) h.ct h.lv).2
 exact⟨(Fm.send c m Y N h.ps.pv.gd h.ids hY (by omega) h.ct).out,by omega⟩
theorem Refused_any (x:Nat->Int)(sa:Option Addr)(n cs:Nat)(A:Nat->Option Addr)(N C:Nat->Nat)(Y:Nat->Nat->Nat)(w:World)(R:EW)(hn:n<=1048575)(hL:zcq w)(hC:CmdsAt w sa n A N C Y)
  (hR: ∀w',Below w.heap.size w w'->R (.returned (.bool true)) w'):Calls Tryz.prog 8 #[cfx x,.slice sa n cs] w R:=by
 have HR:=zl hR
 have HL:=zl hL
 have HC:=zl hC
 clear hR hL hC
 unfold cfx
 go_enter Tryz.func8,Tryz.ntmps8
 go_wp2_with fail
 obtain ⟨w1,hw1⟩:=xq (w.alloc (.cells #[.int .i64 (x 0),.int .i64 (x 1),.int .i64 (x 2),.int .i64 (x 3),.int .i64 (x 4),.int .i64 (x 5)] 46))
 have HB1:Hid (Below w.heap.size w w1):=by rw[hw1];exact br.alloc nr _
 rw[←hw1]
 clear hw1
 refine kOpened_any x w1 _ (zcq.below HL.o HB1.o nr) ?_ ?_
 .intro _ w2 hb2
  have hfin:Hid (R (.returned (.bool true)) w2):=HR.o w2 (HB1.o.trans (hb2.mono HB1.o.size))
  clear hb2
  go_wp2_with fail
  exact hfin.o
 .intro hok P b w2 hb2 ho2 hp2
  have HK2:Hid (Km w w2 P b (cfOf x) (newM (cfOf x)) 0):=Km.new hok (HB1.o.trans (hb2.mono HB1.o.size)) (fun g hg=>llt HB1.o.size (ho2 g hg)) hp2
  generalize cfOf x=c at *
  clear hok hb2 ho2 hp2
  go_wp2_with fail
  go_loopw [7,8,9,10,11,12,13,14,15] (fun t _ _ _ _ _ _ _ _ wr=> ∃(k:Nat) (b:Bk) (m:Mk),k<=n/\t= .int .i64 k/\Km w wr P b c m k) (fun t _ _ _ _ _ _ _ _ _=>n-(intOf t).toNat)
  case atStart=>exact⟨0,b,_,Nat.zero_le _,rfl,HK2.o⟩
  case round=>
   clear HK2 b
   obtain ⟨k,b,m,hk,rfl,hK⟩:=hrel
   have HK:=zl hK
   clear hK
   by_cases hlt:k<n
   .go_wp2_with fail
    refine pLook_any P b c {m with seq:=m.seq} m.phase wr _ HK.o.ps.pm ?_
    intro w3 hb3
    rw[show lookv {m with seq:=m.seq}= .agg #[.int .i64 m.phase,.int .i64 m.time,.int .i64 m.ref,.int .i64 m.seq] from rfl]
    obtain ⟨w4,hw4⟩:=xq (w3.alloc (.cells #[.int .i64 m.phase,.int .i64 m.time,.int .i64 m.ref,.int .i64 m.seq] 67))
    obtain ⟨G1,hG1⟩:=xq w3.heap.size
    have hb4:Below wr.heap.size wr w4:=by rw[hw4];exact hb3.alloc hb3.size _
    have HK4:=zl (HK.o.ext hb4)
    have HG1:Hid (w4.heap[G1]?=some (.cells #[.int .i64 m.phase,.int .i64 m.time,.int .i64 m.ref,.int .i64 m.seq] 67 (0,0))/\ ∀g,Own P b g->g<G1):=⟨by rw[hw4,hG1];exact heap_alloc_new w3 _,fun g hg=>lll (HK.o.ps.lt hg) (by rw[hG1];exact hb3.size)⟩
    clear hb3 hb4
    go_wp2_with fail
    rw[←hw4,←hG1]
    clear hw4 hG1
    refine pOrders_any P b c m _ w4 _ HK4.o.ps ?_
    intro v5 w5 hb5 hv5
    obtain ⟨a5,c5,e5⟩:=zar hv5
    subst e5
    obtain ⟨L1,hL1⟩:=xq (zfg m.all)
    have HO5:Hid (OrdsAt w5 a5 m.phase L1):=by rw[hL1];exact ordsAt_own hv5
    have HV5:Hid (w5.ownsRow w4.heap.size 89 6 (.slice a5 L1.length c5) L1.length (shcs m.phase m.all)):=by rw[hL1];exact hv5
    have HK5:=zl (HK4.o.ext hb5)
    have HG5:Hid (w5.heap[G1]?=some (.cells #[.int .i64 m.phase,.int .i64 m.time,.int .i64 m.ref,.int .i64 m.seq] 67 (0,0))/\ ∀g,Own P b g->g<G1):=⟨zau hb5 HG1.o.1,HG1.o.2⟩
    have HLo:Hid (∀g,Own P b g->g<w4.heap.size):=fun g hg=>HK4.o.ps.lt hg
    obtain ⟨g,o,rfl,hc⟩:=HC.o.cell k hlt
    have hc5:=(HK5.o.bel.cell (zab hc)).trans hc
    have HCC:Hid (∀{w':World},Below w.heap.size w w'->w'.cell? ⟨g,o+k,none⟩=some (.slice (A k) (N k) (C k))):=fun {w'} hb=>(hb.cell (zab hc)).trans hc
    rw[←hL1]
    have HL1:=zl hL1
    have hk0:(0:Int)<=(k:Int):=by omega
    have hk1:(k:Int)<(n:Int):=by omega
    clear hb5 hv5 hc hL1 HG1 HK4
    go_wp2_with fail
    have hlen:=HC.o.len k hlt
    have hmk:=HK5.o.len
    have HOK:Hid ((∀e∈(zaz c m (Y k) (N k)).out,okE e)/\(zaz c m (Y k) (N k)).out.length<=36):=HK5.o.ok (HC.o.byt k) (by omega)
    refine kSent_any P b c m (A k) (N k) (C k) (Y k) w w5 _ HK5.o.ps HL.o HK5.o.bel HK5.o.low hlen.1 hlen.2 ((HC.o.bs k hlt).ext HK5.o.bel) (HC.o.byt k) (fun h0 g o e=>lll (HC.o.low k hlt h0 g o e) HK5.o.bel.size) (by omega) HK5.o.ct HK5.o.lv HK5.o.co HOK.o.1 HOK.o.2 ?_
    intro b6 v6 w6 hp6 hm6 hv6 _
    have HK6:Hid (Km w w6 P b6 c (zaz c m (Y k) (N k)) (k+1)):=HK5.o.sent (HC.o.byt k) (by omega) hp6 hm6
    have HF:=send_first c m (Y k) (N k)
    have hsq:m.seq<=4294967295:=HK5.o.ps.pv.gd.seq
    have HO6:Hid (OrdsAt w6 a5 m.phase L1):=by
     have:=zb6 HV5.o (fun q hq=>hm6.tch.blk q (HV5.o.lt q hq).2 (fun e=>absurd (HLo.o q e) (by have:=(HV5.o.lt q hq).1;omega)))
     rw[HL1.o] at this ⊢
     exact ordsAt_own this
    have HG6:Hid (w6.heap[G1]?=some (.cells #[.int .i64 m.phase,.int .i64 m.time,.int .i64 m.ref,.int .i64 m.seq] 67 (0,0))):=(hm6.tch.blk G1 (zak HG5.o.1) (fun e=>absurd (HG5.o.2 G1 e) (by omega))).trans HG5.o.1
    generalize zaz c m (Y k) (N k)=M at *
    obtain ⟨E,hE⟩:=xq M.out
    unfold Evs at hv6
    rw[←hE] at hv6 HF
    obtain ⟨a6,c6,e6⟩:=zar hv6
    subst e6
    have HV6:=zl hv6
    have hE36:E.length<=36:=by rw[hE];exact HOK.o.2
    clear hp6 hm6 hv6 hE HOK HV5 HLo HG5 HK5 HO5
    go_wp2_with fail
    refine pLook_any P b6 c {M with seq:=M.seq} M.phase w6 _ HK6.o.ps.pm ?_
    intro w7 hb7
    rw[show lookv {M with seq:=M.seq}= .agg #[.int .i64 M.phase,.int .i64 M.time,.int .i64 M.ref,.int .i64 M.seq] from rfl]
    obtain ⟨w8,hw8⟩:=xq (w7.alloc (.cells #[.int .i64 M.phase,.int .i64 M.time,.int .i64 M.ref,.int .i64 M.seq] 67))
    obtain ⟨G2,hG2⟩:=xq w7.heap.size
    have hb8:Below w6.heap.size w6 w8:=by rw[hw8];exact hb7.alloc hb7.size _
    have HK8:=zl (HK6.o.ext hb8)
    have HH8:Hid (w8.heap[G2]?=some (.cells #[.int .i64 M.phase,.int .i64 M.time,.int .i64 M.ref,.int .i64 M.seq] 67 (0,0))):=by rw[hw8,hG2];exact heap_alloc_new w7 _
    have HG8:Hid (w8.heap[G1]?=some (.cells #[.int .i64 m.phase,.int .i64 m.time,.int .i64 m.ref,.int .i64 m.seq] 67 (0,0))):=zau hb8 HG6.o
    have HO8:=zl (HO6.o.ext hb8)
    have HV8:Hid (w8.ownsRow w5.heap.size 42 10 (.slice a6 E.length c6) E.length (evcs E)):=zbe HV6.o hb8
    have hcm:=HCC.o HK8.o.bel
    clear hb7 hb8 HV6 HO6 HG6 HK6
    rcases HF with ⟨f1,⟨hn5,hy4⟩,f2,f3,f4,f5⟩|⟨e,f1,f6,fn,f2,f3,f4,f7,f5⟩|⟨e,E',f1,f6⟩
    .subst f1
     have HFs:Hid (M.all=m.all/\M.phase=m.phase/\M.ref=m.ref/\M.seq=m.seq):=⟨f2,f3,f4,f5⟩
     clear f2 f3 f4 f5
     obtain ⟨gb,ob,hab,hcb⟩:=((HC.o.bs k hlt).ext HK8.o.bel) 0 (by omega)
     rw[hab,hn5] at hcm
     rw[Nat.add_zero] at hcb
     rw[hy4] at hcb
     rw[hw8] at hcm hcb
     have HW8:Hid (w8=w7.alloc (.cells #[.int .i64 M.phase,.int .i64 M.time,.int .i64 M.ref,.int .i64 M.seq] 67)/\G2=w7.heap.size):=⟨hw8,hG2⟩
     clear hw8 hG2
     go_wp2_with fail
     rw[←HW8.o.1,←HW8.o.2]
     clear HW8 hcm hcb
     refine pOrders_any P b6 c M _ w8 _ HK8.o.ps ?_
     intro v9 w9 hb9 hv9
     obtain ⟨a9,c9,e9⟩:=zar hv9
     subst e9
     have HO9:Hid (OrdsAt w9 a9 M.phase (zfg M.all)):=ordsAt_own hv9
     have hn9:(zfg M.all).length<=1048576:=llt (List.length_filter_le _ _) (by have:=HK8.o.len;omega)
     have hnL:L1.length<=1048576:=by rw[HL1.o];exact llt (List.length_filter_le _ _) (by omega)
     have HB9:=zl hb9
     clear hb9 hv9
     go_wp2_with fail
     refine kSameOrders_any a5 a9 c5 c9 m.phase M.phase L1 (zfg M.all) w9 _ hnL hn9 (HO8.o.ext HB9.o) HO9.o ?_
     intro bb w10 hb10 hbb
     obtain rfl:bb=true:=hbb (by rw[HL1.o,HFs.o.1]) HFs.o.2.1.symm
     have HB10:Hid (Below w8.heap.size w8 w10):=HB9.o.trans (hb10.mono HB9.o.size)
     have HK10:=zl (HK8.o.ext HB10.o)
     have p0:w10.cell? ⟨G1,0,none⟩=some (.int .i64 m.phase):=cell_of_row w10 G1 0 _ _ (0,0) (zau HB10.o HG8.o)
     have p1:w10.cell? ⟨G1,1,none⟩=some (.int .i64 m.time):=cell_of_row w10 G1 1 _ _ (0,0) (zau HB10.o HG8.o)
     have p2:w10.cell? ⟨G1,2,none⟩=some (.int .i64 m.ref):=cell_of_row w10 G1 2 _ _ (0,0) (zau HB10.o HG8.o)
     have p3:w10.cell? ⟨G1,3,none⟩=some (.int .i64 m.seq):=cell_of_row w10 G1 3 _ _ (0,0) (zau HB10.o HG8.o)
     have q0:w10.cell? ⟨G2,0,none⟩=some (.int .i64 m.phase):=by rw[cell_of_row w10 G2 0 _ _ (0,0) (zau HB10.o HH8.o),←HFs.o.2.1];rfl
     have q1:w10.cell? ⟨G2,1,none⟩=some (.int .i64 M.time):=cell_of_row w10 G2 1 _ _ (0,0) (zau HB10.o HH8.o)
     have q2:w10.cell? ⟨G2,2,none⟩=some (.int .i64 m.ref):=by rw[cell_of_row w10 G2 2 _ _ (0,0) (zau HB10.o HH8.o),←HFs.o.2.2.1];rfl
     have q3:w10.cell? ⟨G2,3,none⟩=some (.int .i64 m.seq):=by rw[cell_of_row w10 G2 3 _ _ (0,0) (zau HB10.o HH8.o),←HFs.o.2.2.2];rfl
     clear hb10 hbb hnL hn9
     obtain ⟨s,hs⟩:=xq m.seq
     have hs32:s<=4294967295:=by omega
     rw[←hs] at p3 q3
     have hsI:(s:Int)%4294967296=(s:Int):=by omega
     clear hs hsq
     go_wp2_with fail
     go_roundw
     case rel=>exact⟨k+1,b6,M,by omega,by go_num,HK10.o⟩
     case measure=>simp only[intOf];omega
    .subst f1
     have HFs:Hid (M.all=m.all/\M.phase=m.phase/\M.ref=m.ref/\M.time=m.time/\M.seq=(m.seq+1)%4294967296):=⟨f2,f3,f4,f7,f5⟩
     clear f2 f3 f4 f5 f7
     obtain ⟨g6,c6',e6,-,-,-,hke,-⟩:=own_cellsK HV8.o 0 (iv (e 0)) rfl
     injection e6 with e6
     subst e6
     rw[f6] at hke
     change w8.cell? ⟨g6,0,none⟩=some (.int .i64 2) at hke
     clear f6
     by_cases hn5:N k=5
     .have hy4: ¬Y k 0=4:=fun h=>fn ⟨hn5,h⟩
      clear fn
      obtain ⟨gb,ob,hab,hcb⟩:=((HC.o.bs k hlt).ext HK8.o.bel) 0 (by omega)
      rw[hab,hn5] at hcm
      rw[Nat.add_zero] at hcb
      obtain ⟨yb,hyb⟩:=xq (Y k 0)
      rw[←hyb] at hcb
      have hY4':((yb:Int)==4)=false:=by simp;omega
      rw[hw8] at hcm hcb hke
      clear hyb
      have HW8:Hid (w8=w7.alloc (.cells #[.int .i64 M.phase,.int .i64 M.time,.int .i64 M.ref,.int .i64 M.seq] 67)/\G2=w7.heap.size):=⟨hw8,hG2⟩
      clear hw8 hG2
      go_wp2_with fail
      rw[←HW8.o.1,←HW8.o.2]
      clear HW8 hcm hcb hke
      refine pOrders_any P b6 c M _ w8 _ HK8.o.ps ?_
      intro v9 w9 hb9 hv9
      obtain ⟨a9,c9,e9⟩:=zar hv9
      subst e9
      have HO9:Hid (OrdsAt w9 a9 M.phase (zfg M.all)):=ordsAt_own hv9
      have hn9:(zfg M.all).length<=1048576:=llt (List.length_filter_le _ _) (by have:=HK8.o.len;omega)
      have hnL:L1.length<=1048576:=by rw[HL1.o];exact llt (List.length_filter_le _ _) (by omega)
      have HB9:=zl hb9
      clear hb9 hv9
      go_wp2_with fail
      refine kSameOrders_any a5 a9 c5 c9 m.phase M.phase L1 (zfg M.all) w9 _ hnL hn9 (HO8.o.ext HB9.o) HO9.o ?_
      intro bb w10 hb10 hbb
      obtain rfl:bb=true:=hbb (by rw[HL1.o,HFs.o.1]) HFs.o.2.1.symm
      have HB10:Hid (Below w8.heap.size w8 w10):=HB9.o.trans (hb10.mono HB9.o.size)
      have HK10:=zl (HK8.o.ext HB10.o)
      have p0:w10.cell? ⟨G1,0,none⟩=some (.int .i64 m.phase):=cell_of_row w10 G1 0 _ _ (0,0) (zau HB10.o HG8.o)
      have p1:w10.cell? ⟨G1,1,none⟩=some (.int .i64 m.time):=cell_of_row w10 G1 1 _ _ (0,0) (zau HB10.o HG8.o)
      have p2:w10.cell? ⟨G1,2,none⟩=some (.int .i64 m.ref):=cell_of_row w10 G1 2 _ _ (0,0) (zau HB10.o HG8.o)
      have p3:w10.cell? ⟨G1,3,none⟩=some (.int .i64 m.seq):=cell_of_row w10 G1 3 _ _ (0,0) (zau HB10.o HG8.o)
      have q0:w10.cell? ⟨G2,0,none⟩=some (.int .i64 m.phase):=by rw[cell_of_row w10 G2 0 _ _ (0,0) (zau HB10.o HH8.o),←HFs.o.2.1];rfl
      have q1:w10.cell? ⟨G2,1,none⟩=some (.int .i64 m.time):=by rw[cell_of_row w10 G2 1 _ _ (0,0) (zau HB10.o HH8.o),←HFs.o.2.2.2.1];rfl
      have q2:w10.cell? ⟨G2,2,none⟩=some (.int .i64 m.ref):=by rw[cell_of_row w10 G2 2 _ _ (0,0) (zau HB10.o HH8.o),←HFs.o.2.2.1];rfl
      have q3:w10.cell? ⟨G2,3,none⟩=some (.int .i64 ((m.seq+1)%4294967296:Nat)):=by rw[cell_of_row w10 G2 3 _ _ (0,0) (zau HB10.o HH8.o),←HFs.o.2.2.2.2];rfl
      clear hb10 hbb hnL hn9
      obtain ⟨s,hs⟩:=xq m.seq
      have hs32:s<=4294967295:=by omega
      rw[←hs] at p3 q3
      obtain ⟨s1,hs1⟩: ∃y:Nat,y=(s+1)%4294967296:=⟨_,rfl⟩
      rw[←hs1] at q3
      have hsI:((s:Int)+1)%4294967296=(s1:Int):=by rw[hs1];omega
      clear hs hsq hs1
      go_wp2_with fail
      go_roundw
      case rel=>exact⟨k+1,b6,M,by omega,by go_num,HK10.o⟩
      case measure=>simp only[intOf];omega
     .clear fn
      have hN5':(((N k:Nat):Int)==5)=false:=by simp;omega
      rw[hw8] at hcm hke
      have HW8:Hid (w8=w7.alloc (.cells #[.int .i64 M.phase,.int .i64 M.time,.int .i64 M.ref,.int .i64 M.seq] 67)/\G2=w7.heap.size):=⟨hw8,hG2⟩
      clear hw8 hG2
      go_wp2_with fail
      rw[←HW8.o.1,←HW8.o.2]
      clear HW8 hcm hke
      refine pOrders_any P b6 c M _ w8 _ HK8.o.ps ?_
      intro v9 w9 hb9 hv9
      obtain ⟨a9,c9,e9⟩:=zar hv9
      subst e9
      have HO9:Hid (OrdsAt w9 a9 M.phase (zfg M.all)):=ordsAt_own hv9
      have hn9:(zfg M.all).length<=1048576:=llt (List.length_filter_le _ _) (by have:=HK8.o.len;omega)
      have hnL:L1.length<=1048576:=by rw[HL1.o];exact llt (List.length_filter_le _ _) (by omega)
      have HB9:=zl hb9
      clear hb9 hv9
      go_wp2_with fail
      refine kSameOrders_any a5 a9 c5 c9 m.phase M.phase L1 (zfg M.all) w9 _ hnL hn9 (HO8.o.ext HB9.o) HO9.o ?_
      intro bb w10 hb10 hbb
      obtain rfl:bb=true:=hbb (by rw[HL1.o,HFs.o.1]) HFs.o.2.1.symm
      have HB10:Hid (Below w8.heap.size w8 w10):=HB9.o.trans (hb10.mono HB9.o.size)
      have HK10:=zl (HK8.o.ext HB10.o)
      have p0:w10.cell? ⟨G1,0,none⟩=some (.int .i64 m.phase):=cell_of_row w10 G1 0 _ _ (0,0) (zau HB10.o HG8.o)
      have p1:w10.cell? ⟨G1,1,none⟩=some (.int .i64 m.time):=cell_of_row w10 G1 1 _ _ (0,0) (zau HB10.o HG8.o)
      have p2:w10.cell? ⟨G1,2,none⟩=some (.int .i64 m.ref):=cell_of_row w10 G1 2 _ _ (0,0) (zau HB10.o HG8.o)
      have p3:w10.cell? ⟨G1,3,none⟩=some (.int .i64 m.seq):=cell_of_row w10 G1 3 _ _ (0,0) (zau HB10.o HG8.o)
      have q0:w10.cell? ⟨G2,0,none⟩=some (.int .i64 m.phase):=by rw[cell_of_row w10 G2 0 _ _ (0,0) (zau HB10.o HH8.o),←HFs.o.2.1];rfl
      have q1:w10.cell? ⟨G2,1,none⟩=some (.int .i64 m.time):=by rw[cell_of_row w10 G2 1 _ _ (0,0) (zau HB10.o HH8.o),←HFs.o.2.2.2.1];rfl
      have q2:w10.cell? ⟨G2,2,none⟩=some (.int .i64 m.ref):=by rw[cell_of_row w10 G2 2 _ _ (0,0) (zau HB10.o HH8.o),←HFs.o.2.2.1];rfl
      have q3:w10.cell? ⟨G2,3,none⟩=some (.int .i64 ((m.seq+1)%4294967296:Nat)):=by rw[cell_of_row w10 G2 3 _ _ (0,0) (zau HB10.o HH8.o),←HFs.o.2.2.2.2];rfl
      clear hb10 hbb hnL hn9
      obtain ⟨s,hs⟩:=xq m.seq
      have hs32:s<=4294967295:=by omega
      rw[←hs] at p3 q3
      obtain ⟨s1,hs1⟩: ∃y:Nat,y=(s+1)%4294967296:=⟨_,rfl⟩
      rw[←hs1] at q3
      have hsI:((s:Int)+1)%4294967296=(s1:Int):=by rw[hs1];omega
      clear hs hsq hs1
      go_wp2_with fail
      go_roundw
      case rel=>exact⟨k+1,b6,M,by omega,by go_num,HK10.o⟩
      case measure=>simp only[intOf];omega
    .subst f1
     obtain ⟨g6,c6',e6,-,-,-,hke,-⟩:=own_cellsK HV8.o 0 (iv (e 0)) rfl
     injection e6 with e6
     subst e6
     obtain ⟨ek,hek⟩:=xq (e 0)
     rw[←hek] at hke f6
     change w8.cell? ⟨g6,0,none⟩=some (.int .i64 ek) at hke
     have hek2:(ek==2)=false:=by simpa using f6
     have HLn:Hid ((e::E').length=E'.length+1):=rfl
     rw[HLn.o] at hE36
     rw[HLn.o]
     generalize E'.length=ln at *
     have hl0:(0:Int)<((ln+1:Nat):Int):=by omega
     have hl1:(((ln+1:Nat):Int)==0)=false:=by simp;omega
     clear hek f6
     by_cases hn5:N k=5
     .by_cases hy4:Y k 0=4
      .obtain ⟨gb,ob,hab,hcb⟩:=((HC.o.bs k hlt).ext HK8.o.bel) 0 (by omega)
       rw[hab,hn5] at hcm
       rw[Nat.add_zero] at hcb
       rw[hy4] at hcb
       rw[hw8] at hcm hcb hke
       have HW8:Hid (w8=w7.alloc (.cells #[.int .i64 M.phase,.int .i64 M.time,.int .i64 M.ref,.int .i64 M.seq] 67)/\G2=w7.heap.size):=⟨hw8,hG2⟩
       clear hw8 hG2
       go_wp2_with fail
       rw[←HW8.o.1,←HW8.o.2]
       clear HW8 hcm hcb hke
       refine pOrders_any P b6 c M _ w8 _ HK8.o.ps ?_
       intro v9 w9 hb9 hv9
       obtain ⟨a9,c9,e9⟩:=zar hv9
       subst e9
       have HO9:Hid (OrdsAt w9 a9 M.phase (zfg M.all)):=ordsAt_own hv9
       have hn9:(zfg M.all).length<=1048576:=llt (List.length_filter_le _ _) (by have:=HK8.o.len;omega)
       have hnL:L1.length<=1048576:=by rw[HL1.o];exact llt (List.length_filter_le _ _) (by omega)
       have HB9:=zl hb9
       clear hb9 hv9
       go_wp2_with fail
       refine kSameOrders_any a5 a9 c5 c9 m.phase M.phase L1 (zfg M.all) w9 _ hnL hn9 (HO8.o.ext HB9.o) HO9.o ?_
       intro bb w10 hb10 hbb
       have HB10:Hid (Below w8.heap.size w8 w10):=HB9.o.trans (hb10.mono HB9.o.size)
       have HK10:=zl (HK8.o.ext HB10.o)
       clear hb10 hbb hnL hn9
       go_wp2_with fail
       go_roundw
       case rel=>exact⟨k+1,b6,M,by omega,by go_num,HK10.o⟩
       case measure=>simp only[intOf];omega
      .obtain ⟨gb,ob,hab,hcb⟩:=((HC.o.bs k hlt).ext HK8.o.bel) 0 (by omega)
       rw[hab,hn5] at hcm
       rw[Nat.add_zero] at hcb
       obtain ⟨yb,hyb⟩:=xq (Y k 0)
       rw[←hyb] at hcb
       have hY4':((yb:Int)==4)=false:=by simp;omega
       rw[hw8] at hcm hcb hke
       clear hyb
       have HW8:Hid (w8=w7.alloc (.cells #[.int .i64 M.phase,.int .i64 M.time,.int .i64 M.ref,.int .i64 M.seq] 67)/\G2=w7.heap.size):=⟨hw8,hG2⟩
       clear hw8 hG2
       go_wp2_with fail
       rw[←HW8.o.1,←HW8.o.2]
       clear HW8 hcm hcb hke
       refine pOrders_any P b6 c M _ w8 _ HK8.o.ps ?_
       intro v9 w9 hb9 hv9
       obtain ⟨a9,c9,e9⟩:=zar hv9
       subst e9
       have HO9:Hid (OrdsAt w9 a9 M.phase (zfg M.all)):=ordsAt_own hv9
       have hn9:(zfg M.all).length<=1048576:=llt (List.length_filter_le _ _) (by have:=HK8.o.len;omega)
       have hnL:L1.length<=1048576:=by rw[HL1.o];exact llt (List.length_filter_le _ _) (by omega)
       have HB9:=zl hb9
       clear hb9 hv9
       go_wp2_with fail
       refine kSameOrders_any a5 a9 c5 c9 m.phase M.phase L1 (zfg M.all) w9 _ hnL hn9 (HO8.o.ext HB9.o) HO9.o ?_
       intro bb w10 hb10 hbb
       have HB10:Hid (Below w8.heap.size w8 w10):=HB9.o.trans (hb10.mono HB9.o.size)
       have HK10:=zl (HK8.o.ext HB10.o)
       clear hb10 hbb hnL hn9
       go_wp2_with fail
       go_roundw
       case rel=>exact⟨k+1,b6,M,by omega,by go_num,HK10.o⟩
       case measure=>simp only[intOf];omega
     .have hN5':(((N k:Nat):Int)==5)=false:=by simp;omega
      rw[hw8] at hcm hke
      have HW8:Hid (w8=w7.alloc (.cells #[.int .i64 M.phase,.int .i64 M.time,.int .i64 M.ref,.int .i64 M.seq] 67)/\G2=w7.heap.size):=⟨hw8,hG2⟩
      clear hw8 hG2
      go_wp2_with fail
      rw[←HW8.o.1,←HW8.o.2]
      clear HW8 hcm hke
      refine pOrders_any P b6 c M _ w8 _ HK8.o.ps ?_
      intro v9 w9 hb9 hv9
      obtain ⟨a9,c9,e9⟩:=zar hv9
      subst e9
      have HO9:Hid (OrdsAt w9 a9 M.phase (zfg M.all)):=ordsAt_own hv9
      have hn9:(zfg M.all).length<=1048576:=llt (List.length_filter_le _ _) (by have:=HK8.o.len;omega)
      have hnL:L1.length<=1048576:=by rw[HL1.o];exact llt (List.length_filter_le _ _) (by omega)
      have HB9:=zl hb9
      clear hb9 hv9
      go_wp2_with fail
      refine kSameOrders_any a5 a9 c5 c9 m.phase M.phase L1 (zfg M.all) w9 _ hnL hn9 (HO8.o.ext HB9.o) HO9.o ?_
      intro bb w10 hb10 hbb
      have HB10:Hid (Below w8.heap.size w8 w10):=HB9.o.trans (hb10.mono HB9.o.size)
      have HK10:=zl (HK8.o.ext HB10.o)
      clear hb10 hbb hnL hn9
      go_wp2_with fail
      go_roundw
      case rel=>exact⟨k+1,b6,M,by omega,by go_num,HK10.o⟩
      case measure=>simp only[intOf];omega
   .have hkn:k=n:=by omega
    subst hkn
    have hfin:=zl (HR.o wr HK.o.bel)
    go_wp2_with fail
    exact hfin.o
