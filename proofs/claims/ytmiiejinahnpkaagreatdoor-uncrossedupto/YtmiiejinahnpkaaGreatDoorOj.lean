import Derived.Test.YtmiiejinahnpkaaGreatDoorOi
set_option maxRecDepth 100000
set_option maxHeartbeats 4000000
namespace Go.Proofs.YtmiiejinahnpkaaGreatDoor
open Go.RowKit Go.Shelf
theorem tick_ku {c:Cf}{m:Mk}(tt:Int)(h0:0<=tt)(h1:tt<=4294967295)(hI:Iv m)(hT:Tm c m):Iv (zaz c m (yOf (4::be tt 4)) 5)/\Tm c (zaz c m (yOf (4::be tt 4)) 5)/\(zaz c m (yOf (4::be tt 4)) 5).all.length=m.all.length/\zaz c m (yOf (4::be tt 4)) 5=zdu c {m with out:=[]} tt.toNat:=by
 have hst:zaz c m (yOf (4::be tt 4)) 5=zdu c {m with out:=[]} tt.toNat:=by rw[send_tick c m _ (yOf_tick tt h0 h1).1,(yOf_tick tt h0 h1).2]
 exact⟨(send_au c m _ 5 hI).2,send_tm c m _ 5 hT,by rw[hst,tick_lenK],hst⟩
def Ku (w1 wx:World) (P:Nat) (c:Cf) (k:Nat) (b:Bk) (m:Mk):Prop:=Km w1 wx P b c m k/\Iv m/\Tm c m
theorem Km.setOff {w0 w:World}{P:Nat}{b:Bk}{c:Cf}{m:Mk}{k:Nat}(h:Km w0 w P b c m k)(G j:Nat)(v:Value)(ho: ∀g,Own P b g->g≠G)(hG:w0.heap.size<=G):Km w0 (w.setCell ⟨G,j,none⟩ v) P b c m k:=
 ⟨h.ps.keep fun g hg=>bhs w ⟨G,j,none⟩ v g (ho g hg),h.low,⟨h.bel.os,h.bel.tape,h.bel.output,by simpa [World.setCell] using h.bel.size,fun q hq=>by rw[bhs w ⟨G,j,none⟩ v q (by show q≠G;omega)];exact h.bel.block q hq⟩,h.ct,h.co,h.lv,h.ids,h.len⟩
theorem nth_at {l:List Od}{i:Nat}(h:i<l.length):nth l i=l[i]:=by unfold nth;simp[List.getD,h]
theorem shown_ones {l:List Od}(h:oneId l):oneId (zfg l):=by
 have hp:l.Pairwise fun a b=>a.id≠b.id:=List.pairwise_iff_getElem.2 fun i j hi hj hij e=>by
  have:=h i j hi hj (by rw[nth_at hi,nth_at hj];exact e)
  omega
 have hq:(zfg l).Pairwise fun a b=>a.id≠b.id:=hp.sublist List.filter_sublist
 intro i j hi hj e
 rw[nth_at hi,nth_at hj] at e
 rcases Nat.lt_trichotomy i j with h1|h1|h1
 .exact absurd e (List.pairwise_iff_getElem.1 hq i j hi hj h1)
 .exact h1
 .exact absurd e.symm (List.pairwise_iff_getElem.1 hq j i hj hi h1)
theorem shown_facts {b:Bk}{m:Mk}(h:Iv m)(hp:Pv b m):Liv (zfg m.all)/\(∀s p,dep m.phase (zfg m.all) s p<=1000000000)/\oneId (zfg m.all)/\ ∀j,(nth (zfg m.all) j).rest<=1000000000:=by
 refine⟨fun i hi=>?_,fun s p=>?_,shown_ones h.one,fun j=>?_⟩
 .obtain ⟨k,hk,hr,e⟩:=shown_from hi
  rw[e]
  exact⟨hr,h.ok k hk⟩
 .rw[dep_shown]
  exact llt (zk5 _ _ _ _) (hp.gd.sum s)
 .by_cases hj:j<(zfg m.all).length
  .obtain ⟨k,hk,hr,e⟩:=shown_from hj
   rw[e]
   exact zfo hp.gd k hk
  .unfold nth
   simp[List.getD,hj,od0]
theorem cx_of {m:Mk}{E:List (Nat->Int)}(h:Iv m)(hp:m.phase≠1)(hE:E=(zbj {m with out:=[]}).out):
  ∃e T e8 F r' V p,Cx m.phase (zfg m.all) E e T e8 F r' V p:=by
 have h0:Iv {m with out:=[]}:=⟨h.one,h.ok,h.ref,h.tr⟩
 obtain ⟨e,T,e8,F,r',o1,o2,o3,o4,o5,o6,o7,o8,o9,o10⟩:=call_out h0 hp
 refine⟨e,T,e8,F,r',_,_,⟨hE.trans o1,o2,o3,o4,o5,?_,fun q=>?_,o8,o9,o10⟩⟩
 .rcases o7 with ⟨a1,a2,a3⟩|⟨a1,a2,a3,a4,a5⟩
  .exact .inl ⟨a1,a2,o6.trans a3⟩
  .refine .inr ⟨a1,a2,?_,a4,?_⟩
   .rw[vof_shown];exact a3
   .rw[dep_shown,dep_shown];exact o6.trans a5
 .rw[vof_shown]
  exact most_all m.phase m.ref m.all q
theorem Uncrossed_any (x:Nat->Int)(sa:Option Addr)(n cs:Nat)(cl:Bool)(A:Nat->Option Addr)(N C:Nat->Nat)(Y:Nat->Nat->Nat)(w:World)(R:EW)(hn:n<=1048575)(hL:zcq w)(hC:CmdsAt w sa n A N C Y)
  (hR: ∀w',Below w.heap.size w w'->R (.returned (.bool true)) w'):Calls Tryz.prog 10 #[cfx x,.slice sa n cs,.bool cl] w R:=by
 have HR:Hid (∀w',Below w.heap.size w w'->R (.returned (.bool true)) w'):=hR
 unfold cfx
 obtain ⟨w1,hw1⟩: ∃y,y=w.alloc (.cells #[.int .i64 (x 0),.int .i64 (x 1),.int .i64 (x 2),.int .i64 (x 3),.int .i64 (x 4),.int .i64 (x 5)] 46):=⟨_,rfl⟩
 have HB1:Hid (Below w.heap.size w w1):=by rw[hw1];exact br.alloc nr _
 have HF1:Hid (w1.heap[w.heap.size]?=some (.cells #[.int .i64 (x 0),.int .i64 (x 1),.int .i64 (x 2),.int .i64 (x 3),.int .i64 (x 4),.int .i64 (x 5)] 46 (0,0))):=by rw[hw1];exact heap_alloc_new w _
 have HL:Hid (zcq w1):=zcq.below hL HB1.o nr
 have HC:Hid (CmdsAt w1 sa n A N C Y):=⟨fun i hi=>by
  obtain ⟨g,o,e,hc⟩:=hC.cell i hi
  exact⟨g,o,e,(HB1.o.cell (zab hc)).trans hc⟩,hC.len,fun i hi=>(hC.bs i hi).ext HB1.o,hC.byt,fun i hi h0 g o e=>lll (hC.low i hi h0 g o e) HB1.o.size⟩
 clear hR hL hC
 go_enter Tryz.func10,Tryz.ntmps10
 go_wp2_with fail
 rw[←hw1]
 clear hw1
 refine kOpened_any x w1 _ HL.o ?_ ?_
 .intro _ w2 hb2
  have hfin:Hid (R (.returned (.bool true)) w2):=HR.o w2 (HB1.o.trans (hb2.mono HB1.o.size))
  clear hb2
  go_wp2_with fail
  exact hfin.o
 .intro hok P b w2 hb2 ho2 hp2
  have HK2:Hid (Ku w1 w2 P (cfOf x) 0 b (newM (cfOf x))):=by
   refine⟨Km.new hok hb2 ho2 hp2,Iv.new ?_,fun _=>?_⟩
   .obtain ⟨q1,q2,-⟩:=hok
    show 1<=(x 0).toNat/\(x 0).toNat<=1000000
    omega
   .obtain ⟨-,-,-,-,-,-,q1,-⟩:=hok
    show 0<(x 1).toNat
    omega
  have HX:Hid (∃o cl fi:Nat,x 1=(o:Int)/\x 2=(cl:Int)/\x 3=(fi:Int)/\(cfOf x).opn=o/\(cfOf x).cls=cl/\(cfOf x).fin=fi/\o<cl/\cl<fi/\fi<=1000000):=by
   obtain ⟨-,-,-,-,-,-,q1,q2,q3,q4⟩:=hok
   exact⟨(x 1).toNat,(x 2).toNat,(x 3).toNat,by omega,by omega,by omega,rfl,rfl,rfl,by omega,by omega,by omega⟩
  obtain ⟨t1,t2,t3,xo,xc,xf,co,cc,cf,l1,l2,l3⟩:=HX.o
  rw[xo,xc,xf] at HF1
  generalize cfOf x=c at *
  clear hok hb2 ho2 hp2 HX
  go_wp2_with fail
  go_loopw [9,10] (fun u _ wr=> ∃(k:Nat) (b:Bk) (m:Mk),k<=n/\u= .int .i64 k/\Ku w1 wr P c k b m) (fun u _ _=>n-(intOf u).toNat)
  case atStart=>exact⟨0,b,_,Nat.zero_le _,rfl,HK2.o⟩
  case round=>
   clear HK2 b
   obtain ⟨k,b,m,hk,rfl,hK⟩:=hrel
   have HK:Hid (Ku w1 wr P c k b m):=hK
   clear hK
   by_cases hlt:k<n
   .go_wp2_with fail
    refine pLook_any P b c {m with seq:=m.seq} m.phase wr _ HK.o.1.ps.pm ?_
    intro w3 hb3
    rw[show lookv {m with seq:=m.seq}= .agg #[.int .i64 m.phase,.int .i64 m.time,.int .i64 m.ref,.int .i64 m.seq] from rfl]
    obtain ⟨w4,hw4⟩: ∃y,y=w3.alloc (.cells #[.int .i64 m.phase,.int .i64 m.time,.int .i64 m.ref,.int .i64 m.seq] 67):=⟨_,rfl⟩
    obtain ⟨G1,hG1⟩: ∃y,y=w3.heap.size:=⟨_,rfl⟩
    have hb4:Below wr.heap.size wr w4:=by rw[hw4];exact hb3.alloc hb3.size _
    have HK4:Hid (Ku w1 w4 P c k b m):=⟨HK.o.1.ext hb4,HK.o.2⟩
    have HG1:Hid (w4.heap[G1]?=some (.cells #[.int .i64 m.phase,.int .i64 m.time,.int .i64 m.ref,.int .i64 m.seq] 67 (0,0))/\ ∀g,Own P b g->g<G1):=⟨by rw[hw4,hG1];exact heap_alloc_new w3 _,fun g hg=>lll (HK.o.1.ps.lt hg) (by rw[hG1];exact hb3.size)⟩
    clear hb3 hb4 HK
    go_upto_region 8 with fail
    rw[←hw4,←hG1]
    clear hw4 hG1
    have p0:w4.cell? ⟨G1,0,none⟩=some (.int .i64 m.phase):=cell_of_row w4 G1 0 _ _ (0,0) HG1.o.1
    go_cut [57] (fun cv wx=>(∃B:Bool,cv= .bool B)/\wx=w4)
    case first=>
     clear HR HL HC HK4 HG1 HB1 HF1
     have hq3:(0:Int)<=(n:Int)/3:=by omega
     by_cases h2:m.phase=2
     .rw[h2] at p0
      cases cl with
      |true=>
       go_wp2_with fail
       go_meet
       exact⟨⟨_,rfl⟩,rfl⟩
      |false=>
       go_wp2_with fail
       go_meet
       exact⟨⟨_,rfl⟩,rfl⟩
     .have b2:((m.phase:Int)==2)=false:=by simp;omega
      by_cases h0:m.phase=0
      .rw[h0] at p0
       clear h2 b2
       cases cl with
       |true=>
        by_cases h3:(n:Int)/3<(k:Int)
        .go_wp2_with fail
         go_meet
         exact⟨⟨_,rfl⟩,rfl⟩
        .go_wp2_with fail
         go_meet
         exact⟨⟨_,rfl⟩,rfl⟩
       |false=>
        go_wp2_with fail
        go_meet
        exact⟨⟨_,rfl⟩,rfl⟩
      .have b0:((m.phase:Int)==0)=false:=by simp;omega
       go_wp2_with fail
       go_meet
       exact⟨⟨_,rfl⟩,rfl⟩
    case rest=>
     obtain ⟨⟨B,rfl⟩,rfl⟩:=hcut
     clear p0
     go_upto_if 57 with fail
     go_cut [] (fun wx=> ∃b m',Ku w1 wx P c k b m'/\wx.heap[G1]?=some (.cells #[.int .i64 m.phase,.int .i64 m.time,.int .i64 m.ref,.int .i64 m.seq] 67 (0,0)))
     case first=>
      cases B with
      |true=>
       have q1:wc.cell? ⟨w.heap.size,1,none⟩=some (.int .i64 (t1:Nat)):=cell_of_row _ _ 1 _ _ (0,0) (zau HK4.o.1.bel HF1.o)
       go_wp2_with fail
       refine kTick_any ((t1:Nat):Int) wc _ (by omega) (by omega) ?_
       intro v6 w6 hb6 hv6
       obtain ⟨a6,c6,rfl,hc6,hx6,hy6,ha6⟩:=cmd_own (l:=4::be ((t1:Nat):Int) 4) hv6 (tick_all _)
       have HK6:Hid (Ku w1 w6 P c k b m):=⟨HK4.o.1.ext hb6,HK4.o.2⟩
       have HX6:Hid (5<=c6/\zgh w6 a6 5 (yOf (4::be ((t1:Nat):Int) 4))/\(∀i,yOf (4::be ((t1:Nat):Int) 4) i<=255)/\ ∀g o,a6=some ⟨g,o,none⟩->g<w6.heap.size):=⟨hc6,hx6,hy6,ha6⟩
       have HG6:Hid (w6.heap[G1]?=some (.cells #[.int .i64 m.phase,.int .i64 m.time,.int .i64 m.ref,.int .i64 m.seq] 67 (0,0))):=zau hb6 HG1.o.1
       clear hb6 hv6 hc6 hx6 hy6 ha6 q1
       go_wp2_with fail
       refine kSend_any a6 5 c6 (yOf (4::be ((t1:Nat):Int) 4)) _ HK6.o.1 (by omega) HL.o (by decide) HX6.o.1 HX6.o.2.1 HX6.o.2.2.1 (fun _=>HX6.o.2.2.2) ?_
       intro b7 v7 w7 hK7 hm7 _ _ _
       have hku:=tick_ku (c:=c) ((t1:Nat):Int) (by omega) (by omega) HK6.o.2.1 HK6.o.2.2
       have HK7:Hid (Ku w1 w7 P c k b7 (zaz c m (yOf (4::be ((t1:Nat):Int) 4)) 5)):=⟨⟨hK7.ps,hK7.low,hK7.bel,hK7.ct,hK7.co,hK7.lv,hK7.ids,by rw[hku.2.2.1];exact HK6.o.1.len⟩,hku.1,hku.2.1⟩
       have HG7:Hid (w7.heap[G1]?=some (.cells #[.int .i64 m.phase,.int .i64 m.time,.int .i64 m.ref,.int .i64 m.seq] 67 (0,0))):=(hm7.tch.blk G1 (zak HG6.o) (fun e=>absurd (HG1.o.2 G1 e) (Nat.lt_irrefl _))).trans HG6.o
       clear hK7 hm7 hku
       go_wp2_with fail
       go_meet
       exact⟨_,_,HK7.o,HG7.o⟩
      |false=>
       go_wp2_with fail
       go_meet
       exact⟨_,_,HK4.o,HG1.o.1⟩
     case rest=>
      obtain ⟨b5,m5,hK5,hg5⟩:=hcut
      have HK5:Hid (Ku w1 wc P c k b5 m5):=hK5
      have p0:wc.cell? ⟨G1,0,none⟩=some (.int .i64 m.phase):=cell_of_row wc G1 0 _ _ (0,0) hg5
      clear hK5 hg5 HK4 HG1
      obtain ⟨w5,hw5⟩: ∃y,y=wc:=⟨_,rfl⟩
      rw[←hw5] at HK5 p0
      rw[←hw5]
      clear hw5
      go_upto_region 10 with fail
      go_cut [72] (fun cv wx=>(∃B:Bool,cv= .bool B)/\wx=w5)
      case first=>
       clear HR HL HC HK5 HB1 HF1
       have hq3:(0:Int)<=(n:Int)/2:=by omega
       by_cases h1:m.phase=1
       .rw[h1] at p0
        by_cases h3:(n:Int)/2<(k:Int)
        .go_wp2_with fail
         go_meet
         exact⟨⟨_,rfl⟩,rfl⟩
        .go_wp2_with fail
         go_meet
         exact⟨⟨_,rfl⟩,rfl⟩
       .have b1:((m.phase:Int)==1)=false:=by simp;omega
        go_wp2_with fail
        go_meet
        exact⟨⟨_,rfl⟩,rfl⟩
      case rest=>
       obtain ⟨⟨B,rfl⟩,rfl⟩:=hcut
       clear p0
       go_upto_if 72 with fail
       go_cut [] (fun wx=> ∃b m',Ku w1 wx P c k b m')
       case first=>
        cases B with
        |true=>
         have q1:wc.cell? ⟨w.heap.size,2,none⟩=some (.int .i64 (t2:Nat)):=cell_of_row _ _ 2 _ _ (0,0) (zau HK5.o.1.bel HF1.o)
         go_wp2_with fail
         refine kTick_any ((t2:Nat):Int) wc _ (by omega) (by omega) ?_
         intro v6 w6 hb6 hv6
         obtain ⟨a6,c6,rfl,hc6,hx6,hy6,ha6⟩:=cmd_own (l:=4::be ((t2:Nat):Int) 4) hv6 (tick_all _)
         have HK6:Hid (Ku w1 w6 P c k b5 m5):=⟨HK5.o.1.ext hb6,HK5.o.2⟩
         have HX6:Hid (5<=c6/\zgh w6 a6 5 (yOf (4::be ((t2:Nat):Int) 4))/\(∀i,yOf (4::be ((t2:Nat):Int) 4) i<=255)/\ ∀g o,a6=some ⟨g,o,none⟩->g<w6.heap.size):=⟨hc6,hx6,hy6,ha6⟩
         clear hb6 hv6 hc6 hx6 hy6 ha6 q1
         go_wp2_with fail
         refine kSend_any a6 5 c6 (yOf (4::be ((t2:Nat):Int) 4)) _ HK6.o.1 (by omega) HL.o (by decide) HX6.o.1 HX6.o.2.1 HX6.o.2.2.1 (fun _=>HX6.o.2.2.2) ?_
         intro b7 v7 w7 hK7 hm7 _ _ _
         have hku:=tick_ku (c:=c) ((t2:Nat):Int) (by omega) (by omega) HK6.o.2.1 HK6.o.2.2
         have HK7:Hid (Ku w1 w7 P c k b7 (zaz c m5 (yOf (4::be ((t2:Nat):Int) 4)) 5)):=⟨⟨hK7.ps,hK7.low,hK7.bel,hK7.ct,hK7.co,hK7.lv,hK7.ids,by rw[hku.2.2.1];exact HK6.o.1.len⟩,hku.1,hku.2.1⟩
         clear hK7 hm7 hku
         go_wp2_with fail
         go_meet
         exact⟨_,_,HK7.o⟩
        |false=>
         go_wp2_with fail
         go_meet
         exact⟨_,_,HK5.o⟩
       case rest=>
        obtain ⟨b8,m8,hK8⟩:=hcut
        have HK8:Hid (Ku w1 wc P c k b8 m8):=hK8
        clear hK8 HK5
        obtain ⟨g,o,ea,hc⟩:=HC.o.cell k hlt
        have hc8:=(HK8.o.1.bel.cell (zab hc)).trans hc
        subst ea
        have hk0:(0:Int)<=(k:Int):=by omega
        have hk1:(k:Int)<(n:Int):=by omega
        have hlen:=HC.o.len k hlt
        clear hc
        go_wp2_with fail
        refine kSend_any (A k) (N k) (C k) (Y k) _ HK8.o.1 (by omega) HL.o hlen.1 hlen.2 ((HC.o.bs k hlt).ext HK8.o.1.bel) (HC.o.byt k) (fun h0 g o e=>lll (HC.o.low k hlt h0 g o e) HK8.o.1.bel.size) ?_
        intro b9 v9 w9 hK9 _ _ _ _
        have HK9:Hid (Ku w1 w9 P c (k+1) b9 (zaz c m8 (Y k) (N k))):=⟨hK9,(send_au c m8 (Y k) (N k) HK8.o.2.1).2,send_tm c m8 (Y k) (N k) HK8.o.2.2⟩
        clear hK9
        go_wp2_with fail
        go_roundw
        case rel=>exact⟨k+1,b9,_,by omega,by go_num,HK9.o⟩
        case measure=>simp only[intOf];omega
   .have hin:n=k:=by omega
    subst hin
    go_wp2_with fail
    refine pLook_any P b c {m with seq:=m.seq} m.phase wr _ HK.o.1.ps.pm ?_
    intro w3 hb3
    rw[show lookv {m with seq:=m.seq}= .agg #[.int .i64 m.phase,.int .i64 m.time,.int .i64 m.ref,.int .i64 m.seq] from rfl]
    obtain ⟨w4,hw4⟩: ∃y,y=w3.alloc (.cells #[.int .i64 m.phase,.int .i64 m.time,.int .i64 m.ref,.int .i64 m.seq] 67):=⟨_,rfl⟩
    obtain ⟨G,hG⟩: ∃y,y=w3.heap.size:=⟨_,rfl⟩
    have hb4:Below wr.heap.size wr w4:=by rw[hw4];exact hb3.alloc hb3.size _
    have HK4:Hid (Ku w1 w4 P c n b m):=⟨HK.o.1.ext hb4,HK.o.2⟩
    have HG4:Hid (w4.heap[G]?=some (.cells #[.int .i64 m.phase,.int .i64 m.time,.int .i64 m.ref,.int .i64 m.seq] 67 (0,0))/\(∀g,Own P b g->g≠G)/\w1.heap.size<=G):=⟨by rw[hw4,hG];exact heap_alloc_new w3 _,fun g hg=>Nat.ne_of_lt (lll (HK.o.1.ps.lt hg) (by rw[hG];exact hb3.size)),by rw[hG];exact llt HK.o.1.bel.size hb3.size⟩
    clear hb3 hb4 HK
    go_upto_region 14 with fail
    rw[←hw4,←hG]
    clear hw4 hG
    have p0:w4.cell? ⟨G,0,none⟩=some (.int .i64 m.phase):=cell_of_row w4 G 0 _ _ (0,0) HG4.o.1
    by_cases h3:m.phase=3
    .rw[h3] at p0
     have hfin:Hid (R (.returned (.bool true)) w4):=HR.o w4 (HB1.o.trans (HK4.o.1.bel.mono HB1.o.size))
     clear h3
     go_wp2_with fail
     exact hfin.o
    .have b3:((m.phase:Int)==3)=false:=by simp;omega
     have hph:m.phase<=2:=by have:=HK4.o.1.ps.ph;omega
     go_upto_region 16 with fail
     clear b3 h3
     go_cut [91] (fun cv wx=>cv= .bool (decide (m.phase=1))/\wx=w4)
     case first=>
      clear HR HL HC HK4 HG4 HB1 HF1
      by_cases h1:m.phase=1
      .rw[h1] at p0
       go_wp2_with fail
       go_meet
       exact⟨by simp[h1],rfl⟩
      .have b1:((m.phase:Int)==1)=false:=by simp;omega
       go_wp2_with fail
       go_meet
       exact⟨by simp[h1],rfl⟩
     case rest=>
      obtain ⟨rfl,rfl⟩:=hcut
      clear p0
      go_upto_if 91 with fail
      go_cut [] (fun wx=> ∃b m',Ku w1 wx P c n b m'/\(m'.phase=0\/m'.phase=2)/\wx.heap[G]?=some (.cells #[.int .i64 m'.phase,.int .i64 m'.time,.int .i64 m'.ref,.int .i64 m'.seq] 67 (0,0))/\ ∀g,Own P b g->g≠G)
      case first=>
       by_cases h1:m.phase=1
       .have bt:decide (m.phase=1)=true:=by simpa using h1
        have H1:Hid (m.phase=1):=h1
        rw[bt]
        clear h1 bt
        have q1:wc.cell? ⟨w.heap.size,2,none⟩=some (.int .i64 (t2:Nat)):=cell_of_row _ _ 2 _ _ (0,0) (zau HK4.o.1.bel HF1.o)
        go_wp2_with fail
        refine kTick_any ((t2:Nat):Int) wc _ (by omega) (by omega) ?_
        intro v6 w6 hb6 hv6
        obtain ⟨a6,c6,rfl,hc6,hx6,hy6,ha6⟩:=cmd_own (l:=4::be ((t2:Nat):Int) 4) hv6 (tick_all _)
        have HK6:Hid (Ku w1 w6 P c n b m):=⟨HK4.o.1.ext hb6,HK4.o.2⟩
        have HG6:Hid (w6.heap[G]?=some (.cells #[.int .i64 m.phase,.int .i64 m.time,.int .i64 m.ref,.int .i64 m.seq] 67 (0,0))/\(∀g,Own P b g->g≠G)):=⟨zau hb6 HG4.o.1,HG4.o.2.1⟩
        have HX6:Hid (5<=c6/\zgh w6 a6 5 (yOf (4::be ((t2:Nat):Int) 4))/\(∀i,yOf (4::be ((t2:Nat):Int) 4) i<=255)/\ ∀g o,a6=some ⟨g,o,none⟩->g<w6.heap.size):=⟨hc6,hx6,hy6,ha6⟩
        clear hb6 hv6 hc6 hx6 hy6 ha6 q1
        go_wp2_with fail
        refine kSend_any a6 5 c6 (yOf (4::be ((t2:Nat):Int) 4)) _ HK6.o.1 (by omega) HL.o (by decide) HX6.o.1 HX6.o.2.1 HX6.o.2.2.1 (fun _=>HX6.o.2.2.2) ?_
        intro b7 v7 w7 hK7 hm7 _ _ _
        have hku:=tick_ku (c:=c) ((t2:Nat):Int) (by omega) (by omega) HK6.o.2.1 HK6.o.2.2
        have hpm:(zaz c m (yOf (4::be ((t2:Nat):Int) 4)) 5).phase=2:=by
         have h1:=H1.o
         have hnt:zb3 c m.phase=t2:=by unfold zb3;rw[if_neg (by omega),if_pos h1];exact cc
         rw[hku.2.2.2,Int.toNat_natCast,←hnt,show zb3 c m.phase=zb3 c ({m with out:=[]}:Mk).phase from rfl,tick_turn c {m with out:=[]} HK6.o.2.2 (by show m.phase<3;omega) (fun _=>by show zb3 c m.phase<zb3 c (m.phase+1);rw[hnt,h1];show t2<c.fin;omega),turn_phaseK]
         show m.phase+1=2
         omega
        have HK7:Hid (Ku w1 w7 P c n b7 (zaz c m (yOf (4::be ((t2:Nat):Int) 4)) 5)):=⟨⟨hK7.ps,hK7.low,hK7.bel,hK7.ct,hK7.co,hK7.lv,hK7.ids,by rw[hku.2.2.1];exact HK6.o.1.len⟩,hku.1,hku.2.1⟩
        have HG7:Hid (w7.heap[G]?=some (.cells #[.int .i64 m.phase,.int .i64 m.time,.int .i64 m.ref,.int .i64 m.seq] 67 (0,0))/\(∀g,Own P b7 g->g≠G)):=by
         have hGl:=zak HG6.o.1
         refine⟨(hm7.tch.blk G hGl (fun e=>HG6.o.2 G e rfl)).trans HG6.o.1,?_⟩
         rintro g (rfl|hg) e
         .exact HG6.o.2 _ (.inl rfl) e
         .rcases hm7.bf g hg with h|h
          .exact HG6.o.2 g (.inr h) e
          .omega
        have HP7:Hid ((zaz c m (yOf (4::be ((t2:Nat):Int) 4)) 5).phase=2):=hpm
        generalize zaz c m (yOf (4::be ((t2:Nat):Int) 4)) 5=M at *
        clear hK7 hm7 hku hpm
        go_wp2_with fail
        refine pLook_any P b7 c {M with seq:=M.seq} M.phase w7 _ HK7.o.1.ps.pm ?_
        intro w8 hb8
        rw[show lookv {M with seq:=M.seq}= .agg #[.int .i64 M.phase,.int .i64 M.time,.int .i64 M.ref,.int .i64 M.seq] from rfl]
        have HK8:Hid (Ku w1 w8 P c n b7 M):=⟨HK7.o.1.ext hb8,HK7.o.2⟩
        have HG8:Hid (w8.heap[G]?=some (.cells #[.int .i64 m.phase,.int .i64 m.time,.int .i64 m.ref,.int .i64 m.seq] 67 (0,0))):=zau hb8 HG7.o.1
        have z0:w8.cell? ⟨G,0,none⟩=some (.int .i64 m.phase):=cell_of_row _ _ 0 _ _ (0,0) HG8.o
        have z1:w8.cell? ⟨G,1,none⟩=some (.int .i64 m.time):=cell_of_row _ _ 1 _ _ (0,0) HG8.o
        have z2:w8.cell? ⟨G,2,none⟩=some (.int .i64 m.ref):=cell_of_row _ _ 2 _ _ (0,0) HG8.o
        have z3:w8.cell? ⟨G,3,none⟩=some (.int .i64 m.seq):=cell_of_row _ _ 3 _ _ (0,0) HG8.o
        have f0:w8.frozen? ⟨G,0,none⟩=false:=by simp[World.frozen?,HG8.o]
        have f1:w8.frozen? ⟨G,1,none⟩=false:=by simp[World.frozen?,HG8.o]
        have f2:w8.frozen? ⟨G,2,none⟩=false:=by simp[World.frozen?,HG8.o]
        have f3:w8.frozen? ⟨G,3,none⟩=false:=by simp[World.frozen?,HG8.o]
        clear hb8 HK7
        go_wp2_with fail
        have HKs:=(((HK8.o.1.setOff G 0 (.int .i64 M.phase) HG7.o.2 HG4.o.2.2).setOff G 1 (.int .i64 M.time) HG7.o.2 HG4.o.2.2).setOff G 2 (.int .i64 M.ref) HG7.o.2 HG4.o.2.2).setOff G 3 (.int .i64 M.seq) HG7.o.2 HG4.o.2.2
        have hbs:=zbb (j:=3) (v:= .int .i64 M.seq) (zbb (j:=2) (v:= .int .i64 M.ref) (zbb (j:=1) (v:= .int .i64 M.time) (zbb (j:=0) (v:= .int .i64 M.phase) HG8.o)))
        go_meet
        exact⟨b7,M,⟨HKs,HK8.o.2⟩,.inr HP7.o,hbs,HG7.o.2⟩
       .have bt:decide (m.phase=1)=false:=by simpa using h1
        rw[bt]
        have h02:m.phase=0\/m.phase=2:=by omega
        have H02:Hid (m.phase=0\/m.phase=2):=h02
        clear h02 bt h1
        go_wp2_with fail
        go_meet
        exact⟨_,_,HK4.o,H02.o,HG4.o.1,HG4.o.2.1⟩
      case rest=>
       obtain ⟨b5,m5,hK5,hph5,hg5,ho5⟩:=hcut
       have HK5:Hid (Ku w1 wc P c n b5 m5):=hK5
       have HG5:Hid (wc.heap[G]?=some (.cells #[.int .i64 m5.phase,.int .i64 m5.time,.int .i64 m5.ref,.int .i64 m5.seq] 67 (0,0))):=hg5
       have HO5:Hid (∀g,Own P b5 g->g≠G):=ho5
       clear hK5 hg5 ho5 HK4 HG4
       go_wp2_with fail
       refine pOrders_any P b5 c m5 _ wc _ HK5.o.1.ps ?_
       intro v6 w6 hb6 hv6
       obtain ⟨a6,c6,e6⟩:=zar hv6
       subst e6
       obtain ⟨L1,hL1⟩: ∃y,y=zfg m5.all:=⟨_,rfl⟩
       have HV6:Hid (w6.ownsRow wc.heap.size 89 6 (.slice a6 L1.length c6) L1.length (shcs m5.phase m5.all)):=by rw[hL1];exact hv6
       have HK6:Hid (Ku w1 w6 P c n b5 m5):=⟨HK5.o.1.ext hb6,HK5.o.2⟩
       have HG6:Hid (w6.heap[G]?=some (.cells #[.int .i64 m5.phase,.int .i64 m5.time,.int .i64 m5.ref,.int .i64 m5.seq] 67 (0,0))):=zau hb6 HG5.o
       have HLo:Hid (∀g,Own P b5 g->g<wc.heap.size):=fun g hg=>HK5.o.1.ps.lt hg
       have HSF:Hid (Liv (zfg m5.all)/\(∀s p,dep m5.phase (zfg m5.all) s p<=1000000000)/\oneId (zfg m5.all)/\ ∀j,(nth (zfg m5.all) j).rest<=1000000000):=shown_facts HK5.o.2.1 HK5.o.1.ps.pv
       rw[←hL1]
       have HL1:Hid (L1=zfg m5.all):=hL1
       have HLn:Hid (L1.length<=1048576):=by rw[hL1];exact llt (List.length_filter_le _ _) (by have:=HK5.o.1.len;omega)
       have e1:w6.cell? ⟨w.heap.size,1,none⟩=some (.int .i64 (t1:Nat)):=cell_of_row _ _ 1 _ _ (0,0) (zau HK6.o.1.bel HF1.o)
       have e3:w6.cell? ⟨w.heap.size,3,none⟩=some (.int .i64 (t3:Nat)):=cell_of_row _ _ 3 _ _ (0,0) (zau HK6.o.1.bel HF1.o)
       have p0:w6.cell? ⟨G,0,none⟩=some (.int .i64 m5.phase):=cell_of_row w6 G 0 _ _ (0,0) HG6.o
       clear hb6 hv6 hL1 HK5 HG5
       rcases hph5 with h5|h5
       .have HP5:Hid (m5.phase=0):=h5
        rw[h5] at p0
        clear h5
        go_wp2_with fail
        refine kTick_any ((t1:Nat):Int) w6 _ (by omega) (by omega) ?_
        intro v7 w7 hb7 hv7
        obtain ⟨a7,c7,rfl,hc7,hx7,hy7,ha7⟩:=cmd_own (l:=4::be ((t1:Nat):Int) 4) hv7 (tick_all _)
        have HK7:Hid (Ku w1 w7 P c n b5 m5):=⟨HK6.o.1.ext hb7,HK6.o.2⟩
        have HV7:Hid (w7.ownsRow wc.heap.size 89 6 (.slice a6 L1.length c6) L1.length (shcs m5.phase m5.all)):=zbe HV6.o hb7
        have HG7:Hid (w7.heap[G]?=some (.cells #[.int .i64 m5.phase,.int .i64 m5.time,.int .i64 m5.ref,.int .i64 m5.seq] 67 (0,0))):=zau hb7 HG6.o
        have HX7:Hid (5<=c7/\zgh w7 a7 5 (yOf (4::be ((t1:Nat):Int) 4))/\(∀i,yOf (4::be ((t1:Nat):Int) 4) i<=255)/\ ∀g o,a7=some ⟨g,o,none⟩->g<w7.heap.size):=⟨hc7,hx7,hy7,ha7⟩
        have hku:=tick_ku (c:=c) ((t1:Nat):Int) (by omega) (by omega) HK7.o.2.1 HK7.o.2.2
        have hmk:=HK7.o.1.len
        have HOK:Hid ((∀e∈(zaz c m5 (yOf (4::be ((t1:Nat):Int) 4)) 5).out,okE e)/\(zaz c m5 (yOf (4::be ((t1:Nat):Int) 4)) 5).out.length<=36):=HK7.o.1.ok HX7.o.2.2.1 (by omega)
        have HCx:Hid (∃e T e8 F r' V p,Cx m5.phase (zfg m5.all) (zaz c m5 (yOf (4::be ((t1:Nat):Int) 4)) 5).out e T e8 F r' V p):=by
         have h1:=HP5.o
         have hnt:zb3 c m5.phase=t1:=by unfold zb3;rw[if_pos h1];exact co
         have hti:Iv {m5 with time:=t1}:=⟨HK7.o.2.1.one,HK7.o.2.1.ok,HK7.o.2.1.ref,HK7.o.2.1.tr⟩
         refine cx_of (m:={m5 with time:=t1}) hti (by show m5.phase≠1;omega) ?_
         rw[hku.2.2.2,Int.toNat_natCast]
         have htt:=tick_turn c {m5 with out:=[]} HK7.o.2.2 (by show m5.phase<3;omega) (fun h=>by show zb3 c m5.phase<zb3 c (m5.phase+1);rw[hnt,h1];show t1<c.cls;omega)
         rw[show zb3 c ({m5 with out:=[]}:Mk).phase=t1 from hnt] at htt
         rw[htt]
        clear hb7 hv7 hc7 hx7 hy7 ha7 hku HK6 HV6 HG6 e1 p0
        go_wp2_with fail
        refine kSent_any P b5 c m5 a7 5 c7 (yOf (4::be ((t1:Nat):Int) 4)) w1 w7 _ HK7.o.1.ps HL.o HK7.o.1.bel HK7.o.1.low (by decide) HX7.o.1 HX7.o.2.1 HX7.o.2.2.1 (fun _=>HX7.o.2.2.2) (by omega) HK7.o.1.ct HK7.o.1.lv HK7.o.1.co HOK.o.1 HOK.o.2 ?_
        intro b8 v8 w8 hp8 hm8 hv8 _
        have HO8:Hid (OrdsAt w8 a6 m5.phase L1):=by
         have:=zb6 HV7.o (fun q hq=>hm8.tch.blk q (HV7.o.lt q hq).2 (fun e=>absurd (HLo.o q e) (by have:=(HV7.o.lt q hq).1;omega)))
         rw[HL1.o] at this ⊢
         exact ordsAt_own this
        have HG8:Hid (w8.heap[G]?=some (.cells #[.int .i64 m5.phase,.int .i64 m5.time,.int .i64 m5.ref,.int .i64 m5.seq] 67 (0,0))):=(hm8.tch.blk G (zak HG7.o) (fun e=>HO5.o G e rfl)).trans HG7.o
        have HB8:Hid (Below w1.heap.size w1 w8):=HK7.o.1.bel.trans (hm8.tch.low HK7.o.1.bel.size HK7.o.1.low)
        generalize (zaz c m5 (yOf (4::be ((t1:Nat):Int) 4)) 5)=M at *
        obtain ⟨E,hE⟩: ∃E,E=M.out:=⟨_,rfl⟩
        unfold Evs at hv8
        rw[←hE] at hv8 HOK HCx
        obtain ⟨a8,c8,e8⟩:=zar hv8
        subst e8
        have HV8:Hid (w8.ownsRow w7.heap.size 42 10 (.slice a8 E.length c8) E.length (evcs E)):=hv8
        obtain ⟨e,T,e8,F,r',V,p,hcx⟩:=HCx.o
        have HCX:Hid (Cx m5.phase (zfg m5.all) E e T e8 F r' V p):=hcx
        have hEl:(1:Int)<(E.length:Int):=by have h:=hcx.ev;rw[h];simp;omega
        have q2:w8.cell? ⟨G,2,none⟩=some (.int .i64 m5.ref):=cell_of_row _ _ 2 _ _ (0,0) HG8.o
        clear hp8 hm8 hv8 hE hcx HV7 HG7 HCx
        go_wp2_with fail
        refine kCrossed_any a6 c6 m5.phase L1.length L1 m5.ref a8 c8 E e T e8 F r' V p w8 _ rfl HLn.o HO8.o (by rw[HL1.o];exact HSF.o.1) (by rw[HL1.o];exact HSF.o.2.1) (by rw[HL1.o];exact HSF.o.2.2.1) (by rw[HL1.o];exact HSF.o.2.2.2) (by have:=HK7.o.2.1.ref.2;omega) (evsAt_own HV8.o) HOK.o.2 (by rw[HL1.o];exact HCX.o) ?_
        intro w9 hb9
        have hfin:Hid (R (.returned (.bool true)) w9):=HR.o w9 (HB1.o.trans ((HB8.o.trans (hb9.mono HB8.o.size)).mono HB1.o.size))
        clear hb9 q2
        go_wp2_with fail
        exact hfin.o
       .have HP5:Hid (m5.phase=2):=h5
        rw[h5] at p0
        clear h5
        go_wp2_with fail
        refine kTick_any ((t3:Nat):Int) w6 _ (by omega) (by omega) ?_
        intro v7 w7 hb7 hv7
        obtain ⟨a7,c7,rfl,hc7,hx7,hy7,ha7⟩:=cmd_own (l:=4::be ((t3:Nat):Int) 4) hv7 (tick_all _)
        have HK7:Hid (Ku w1 w7 P c n b5 m5):=⟨HK6.o.1.ext hb7,HK6.o.2⟩
        have HV7:Hid (w7.ownsRow wc.heap.size 89 6 (.slice a6 L1.length c6) L1.length (shcs m5.phase m5.all)):=zbe HV6.o hb7
        have HG7:Hid (w7.heap[G]?=some (.cells #[.int .i64 m5.phase,.int .i64 m5.time,.int .i64 m5.ref,.int .i64 m5.seq] 67 (0,0))):=zau hb7 HG6.o
        have HX7:Hid (5<=c7/\zgh w7 a7 5 (yOf (4::be ((t3:Nat):Int) 4))/\(∀i,yOf (4::be ((t3:Nat):Int) 4) i<=255)/\ ∀g o,a7=some ⟨g,o,none⟩->g<w7.heap.size):=⟨hc7,hx7,hy7,ha7⟩
        have hku:=tick_ku (c:=c) ((t3:Nat):Int) (by omega) (by omega) HK7.o.2.1 HK7.o.2.2
        have hmk:=HK7.o.1.len
        have HOK:Hid ((∀e∈(zaz c m5 (yOf (4::be ((t3:Nat):Int) 4)) 5).out,okE e)/\(zaz c m5 (yOf (4::be ((t3:Nat):Int) 4)) 5).out.length<=36):=HK7.o.1.ok HX7.o.2.2.1 (by omega)
        have HCx:Hid (∃e T e8 F r' V p,Cx m5.phase (zfg m5.all) (zaz c m5 (yOf (4::be ((t3:Nat):Int) 4)) 5).out e T e8 F r' V p):=by
         have h1:=HP5.o
         have hnt:zb3 c m5.phase=t3:=by unfold zb3;rw[if_neg (by omega),if_neg (by omega)];exact cf
         have hti:Iv {m5 with time:=t3}:=⟨HK7.o.2.1.one,HK7.o.2.1.ok,HK7.o.2.1.ref,HK7.o.2.1.tr⟩
         refine cx_of (m:={m5 with time:=t3}) hti (by show m5.phase≠1;omega) ?_
         rw[hku.2.2.2,Int.toNat_natCast]
         have htt:=tick_turn c {m5 with out:=[]} HK7.o.2.2 (by show m5.phase<3;omega) (fun h=>by exfalso;have:m5.phase+1<3:=h;omega)
         rw[show zb3 c ({m5 with out:=[]}:Mk).phase=t3 from hnt] at htt
         rw[htt]
        clear hb7 hv7 hc7 hx7 hy7 ha7 hku HK6 HV6 HG6 e1 p0
        go_wp2_with fail
        refine kSent_any P b5 c m5 a7 5 c7 (yOf (4::be ((t3:Nat):Int) 4)) w1 w7 _ HK7.o.1.ps HL.o HK7.o.1.bel HK7.o.1.low (by decide) HX7.o.1 HX7.o.2.1 HX7.o.2.2.1 (fun _=>HX7.o.2.2.2) (by omega) HK7.o.1.ct HK7.o.1.lv HK7.o.1.co HOK.o.1 HOK.o.2 ?_
        intro b8 v8 w8 hp8 hm8 hv8 _
        have HO8:Hid (OrdsAt w8 a6 m5.phase L1):=by
         have:=zb6 HV7.o (fun q hq=>hm8.tch.blk q (HV7.o.lt q hq).2 (fun e=>absurd (HLo.o q e) (by have:=(HV7.o.lt q hq).1;omega)))
         rw[HL1.o] at this ⊢
         exact ordsAt_own this
        have HG8:Hid (w8.heap[G]?=some (.cells #[.int .i64 m5.phase,.int .i64 m5.time,.int .i64 m5.ref,.int .i64 m5.seq] 67 (0,0))):=(hm8.tch.blk G (zak HG7.o) (fun e=>HO5.o G e rfl)).trans HG7.o
        have HB8:Hid (Below w1.heap.size w1 w8):=HK7.o.1.bel.trans (hm8.tch.low HK7.o.1.bel.size HK7.o.1.low)
        generalize (zaz c m5 (yOf (4::be ((t3:Nat):Int) 4)) 5)=M at *
        obtain ⟨E,hE⟩: ∃E,E=M.out:=⟨_,rfl⟩
        unfold Evs at hv8
        rw[←hE] at hv8 HOK HCx
        obtain ⟨a8,c8,e8⟩:=zar hv8
        subst e8
        have HV8:Hid (w8.ownsRow w7.heap.size 42 10 (.slice a8 E.length c8) E.length (evcs E)):=hv8
        obtain ⟨e,T,e8,F,r',V,p,hcx⟩:=HCx.o
        have HCX:Hid (Cx m5.phase (zfg m5.all) E e T e8 F r' V p):=hcx
        have hEl:(1:Int)<(E.length:Int):=by have h:=hcx.ev;rw[h];simp;omega
        have q2:w8.cell? ⟨G,2,none⟩=some (.int .i64 m5.ref):=cell_of_row _ _ 2 _ _ (0,0) HG8.o
        clear hp8 hm8 hv8 hE hcx HV7 HG7 HCx
        go_wp2_with fail
        refine kCrossed_any a6 c6 m5.phase L1.length L1 m5.ref a8 c8 E e T e8 F r' V p w8 _ rfl HLn.o HO8.o (by rw[HL1.o];exact HSF.o.1) (by rw[HL1.o];exact HSF.o.2.1) (by rw[HL1.o];exact HSF.o.2.2.1) (by rw[HL1.o];exact HSF.o.2.2.2) (by have:=HK7.o.2.1.ref.2;omega) (evsAt_own HV8.o) HOK.o.2 (by rw[HL1.o];exact HCX.o) ?_
        intro w9 hb9
        have hfin:Hid (R (.returned (.bool true)) w9):=HR.o w9 (HB1.o.trans ((HB8.o.trans (hb9.mono HB8.o.size)).mono HB1.o.size))
        clear hb9 q2
        go_wp2_with fail
        exact hfin.o
