import Derived.Test.YtmiiejinahnpkaaGreatDoorXNaNc
import Derived.Test.YtmiiejinahnpkaaGreatDoorXLaLb
set_option maxRecDepth 8000
set_option maxHeartbeats 4000000
namespace Go.Proofs.YtmiiejinahnpkaaGreatDoor
open Go.RowKit Go.Shelf
def yOf (l:List Int) (i:Nat):Nat:=(byteAt l i).toNat
variable {B n:Nat} {w:World}
theorem cmd_own {v:Value}{l:List Int}(h:w.ownsRow B 5 1 v n (l.map bv))(hl:(l.all fun x=>decide (0<=x/\x<=255))=true):
  ∃a c,v= .slice a n c/\n<=c/\zgh w a n (yOf l)/\(∀i,yOf l i<=255)/\ ∀g o,a=some ⟨g,o,none⟩->g<w.heap.size:=by
 simp only[List.all_eq_true,decide_eq_true_eq] at hl
 obtain ⟨a,c,rfl⟩:=zar h
 have hb: ∀i,0<=byteAt l i/\byteAt l i<=255:=by
  intro i
  by_cases hi:i<l.length
  .simpa [byteAt,List.getD,hi] using hl l[i] (List.getElem_mem hi)
  .simp[byteAt,List.getD,List.getElem?_eq_none (Nat.le_of_not_lt hi)]
 refine⟨a,c,rfl,own_cap h,fun i hi=>?_,fun i=>?_,fun g o e=>(h.lt g (by rw[e];rfl)).2⟩
 .obtain ⟨g,o,e,hc⟩:=bsAt_own h i hi
  refine⟨g,o,e,?_⟩
  rw[hc,yOf,Int.toNat_of_nonneg (hb i).1]
 .have:=(hb i).2
  unfold yOf
  omega
theorem own_at0 {base:Nat}{e:TypeId}{size:Nat}{g c:Nat}{xs:List Value}(h:w.ownsRow base e size (.slice (some ⟨g,0,none⟩) n c) n xs)(i:Nat)(u:Value)(hu:xs[i]?=some u):w.cell? ⟨g,i,none⟩=some u:=by
 obtain ⟨g',cap,e,-,-,-,hc,-⟩:=own_cellsK h i u hu
 injection e with e
 injection e with e
 injection e with e
 rw[e]
 exact hc
theorem Mv.low {P:Nat}{w':World}{b b':Bk}(h:Mv P w b w' b')(ho: ∀g,Own P b g->B<=g)(hB:B<=w.heap.size): ∀g,Own P b' g->B<=g:=by
 rintro g (rfl|hg)
 .exact ho _ (.inl rfl)
 .rcases h.bf g hg with h|h
  .exact ho g (.inr h)
  .exact llt hB h
def sx:Nat->Int
 |0=>100
 |1=>10
 |2=>20
 |3=>30
 |4=>5
 |_=>50
def sc:Cf:=⟨100,10,20,30,5,50⟩
def sl1:List Int:=[1]++be 7 4++[1,1]++be 5 4++be 101 4
def sl2:List Int:=[1]++be 8 4++[2,1]++be 3 4++be 99 4
def sl3:List Int:=4::be 10 4
def s1:Mk:=zaz sc (newM sc) (yOf sl1) 15
def s2:Mk:=zaz sc s1 (yOf sl2) 15
def s3:Mk:=zaz sc s2 (yOf sl3) 5
def sfirst:List Int:=[1,0,0,0,1,0,0,0,7,0,0,0,5,6,0,0,0,2,0,0,0,0,0,0,0,0,0,0,0,0,0,0,0,0]
theorem sx_ok:cfOk sx:=by unfold cfOk;decide
theorem s1_out:zao s1.out=sfirst:=by decide+kernel
theorem s1_len:s1.all.length<=1048575/\zap s1.all<=sc.orders:=by decide+kernel
theorem s2_len:s2.all.length<=1048575/\zap s2.all<=sc.orders:=by decide+kernel
theorem s3_out:s3.out.map (fun e=>(List.range 10).map e)=[[7,5,0,0,0,0,3,101,2,0],[3,6,0,0,7,8,3,101,0,0],[8,7,0,0,0,0,0,0,0,1]]:=by decide+kernel
theorem s3_all:(s3.phase,s3.time,s3.ref,s3.seq,s3.all.map (fun o=>[o.id,o.side,o.typ,o.price,o.rest]))=(1,10,101,7,[[7,1,1,101,2],[8,2,1,99,0]]):=by decide+kernel
theorem s3_cells:evcs s3.out=[.int .i64 7,.int .i64 5,.int .i64 0,.int .i64 0,.int .i64 0,.int .i64 0,.int .i64 3,.int .i64 101,.int .i64 2,.int .i64 0,.int .i64 3,.int .i64 6,.int .i64 0,.int .i64 0,.int .i64 7,.int .i64 8,.int .i64 3,.int .i64 101,.int .i64 0,.int .i64 0,.int .i64 8,.int .i64 7,.int .i64 0,.int .i64 0,.int .i64 0,.int .i64 0,.int .i64 0,.int .i64 0,.int .i64 0,.int .i64 1]:=by kernel_rfl
theorem s3_n:s3.out.length=3:=by kernel_rfl
theorem s3_shown:shcs s3.phase s3.all=[.int .i64 7,.int .i64 1,.int .i64 1,.int .i64 101,.int .i64 2,.bool false]:=by kernel_rfl
theorem s3_shn:(zfg s3.all).length=1:=by kernel_rfl
theorem s3_look:lookv s3= .agg #[.int .i64 1,.int .i64 10,.int .i64 101,.int .i64 7]:=by kernel_rfl
theorem sfirst_n:sfirst.length=34:=rfl
theorem yOf_le (l:List Int)(h:(l.all fun x=>decide (0<=x/\x<=255))=true)(i:Nat):yOf l i<=255:=by
 simp only[List.all_eq_true,decide_eq_true_eq] at h
 unfold yOf byteAt
 by_cases hi:i<l.length
 .have:=h l[i] (List.getElem_mem hi)
  simp[List.getD,hi]
  omega
 .simp[List.getD,List.getElem?_eq_none (Nat.le_of_not_lt hi)]
theorem s3_ok: ∀e∈s3.out,okE e:=by
 have g0:Gd (newM sc):=⟨by decide,by decide,by decide,by simp[newM],by simp[newM],fun s=>by simp[newM,zba]⟩
 have f1:Fm s1:=Fm.send sc (newM sc) (yOf sl1) 15 g0 (fun j=>by simp[newM,nth,od0]) (yOf_le _ (by decide)) (by decide) (by decide)
 have f2:Fm s2:=Fm.send sc s1 (yOf sl2) 15 f1.gd f1.ids (yOf_le _ (by decide)) s1_len.1 (by decide)
 exact(Fm.send sc s2 (yOf sl3) 5 f2.gd f2.ids (yOf_le _ (by decide)) s2_len.1 (by decide)).out
theorem kSure_any (w:World)(R:EW)(hL:zcq w)(hR: ∀w',Below w.heap.size w w'->R (.returned (.bool true)) w'):
  Calls Tryz.prog 18 #[] w R:=by
 have HR:=zl hR
 have HL:=zl hL
 clear hR hL
 go_enter Tryz.func18,Tryz.ntmps18
 go_wp2_with fail
 refine pNew_any sx w _ (fun h=>absurd sx_ok h) ?_
 intro _ P b w1 hb1 ho1 hp1
 have HP1:=zl hp1
 have HO1:=zl ho1
 have HB1:=zl hb1
 clear hb1 ho1 hp1
 go_wp2_with fail
 refine kFresh_any 7 1 1 5 101 w1 _ (by decide) (by decide) (by decide) (by decide) (by decide) ?_
 intro v2 w2 hb2 hv2
 obtain ⟨a2,c2,rfl,hc2,hx2,hy2,ha2⟩:=cmd_own (l:=sl1) hv2 (by decide)
 have HX2:=zl4 hc2 hx2 hy2 ha2
 have HB2:Hid (Below w.heap.size w w2):=HB1.o.trans (hb2.mono HB1.o.size)
 have HP2:=zl (HP1.o.ext hb2)
 clear hb2 hv2 hc2 hx2 hy2 ha2
 go_wp2_with fail
 refine pSend_any P b sc (newM sc) a2 15 c2 (yOf sl1) w w2 _ HP2.o HL.o HB2.o HO1.o (by decide) HX2.o.1 HX2.o.2.1 HX2.o.2.2.1 (fun _=>HX2.o.2.2.2) (by decide) (by decide) (by decide) (by decide) ?_
 intro b3 v3 w3 hp3 hm3 hv3 _
 rw[show zaz sc (newM sc) (yOf sl1) 15=s1 from rfl] at hp3 hv3
 rw[s1_out,sfirst_n] at hv3
 have HP3:=zl hp3
 have HB3:=zl (HB2.o.trans (hm3.tch.low HB2.o.size HO1.o))
 have HO3:=zl (hm3.low HO1.o HB2.o.size)
 obtain ⟨a3,c3,e3⟩:=zar hv3
 subst e3
 have HV3:Hid (BsAt w3 a3 34 (byteAt sfirst)):=bsAt_own hv3
 have hlit:(w3.alloc (.cells #[.int .u8 1,.int .u8 0,.int .u8 0,.int .u8 0,.int .u8 1,.int .u8 0,.int .u8 0,.int .u8 0,.int .u8 7,.int .u8 0,.int .u8 0,.int .u8 0,.int .u8 5,.int .u8 6,.int .u8 0,.int .u8 0,.int .u8 0,.int .u8 2,.int .u8 0,.int .u8 0,.int .u8 0,.int .u8 0,.int .u8 0,.int .u8 0,.int .u8 0,.int .u8 0,.int .u8 0,.int .u8 0,.int .u8 0,.int .u8 0,.int .u8 0,.int .u8 0,.int .u8 0,.int .u8 0] 5)).ownsRow 0 5 1 (.slice (some ⟨w3.heap.size,0,none⟩) 34 34) 34 (sfirst.map bv):=zft (base:=0) (e:=5) w3 #[.int .u8 1,.int .u8 0,.int .u8 0,.int .u8 0,.int .u8 1,.int .u8 0,.int .u8 0,.int .u8 0,.int .u8 7,.int .u8 0,.int .u8 0,.int .u8 0,.int .u8 5,.int .u8 6,.int .u8 0,.int .u8 0,.int .u8 0,.int .u8 2,.int .u8 0,.int .u8 0,.int .u8 0,.int .u8 0,.int .u8 0,.int .u8 0,.int .u8 0,.int .u8 0,.int .u8 0,.int .u8 0,.int .u8 0,.int .u8 0,.int .u8 0,.int .u8 0,.int .u8 0,.int .u8 0] 34 (Nat.zero_le _) rfl (by decide)
 have HY3:Hid (BsAt (w3.alloc (.cells #[.int .u8 1,.int .u8 0,.int .u8 0,.int .u8 0,.int .u8 1,.int .u8 0,.int .u8 0,.int .u8 0,.int .u8 7,.int .u8 0,.int .u8 0,.int .u8 0,.int .u8 5,.int .u8 6,.int .u8 0,.int .u8 0,.int .u8 0,.int .u8 2,.int .u8 0,.int .u8 0,.int .u8 0,.int .u8 0,.int .u8 0,.int .u8 0,.int .u8 0,.int .u8 0,.int .u8 0,.int .u8 0,.int .u8 0,.int .u8 0,.int .u8 0,.int .u8 0,.int .u8 0,.int .u8 0] 5)) (some ⟨w3.heap.size,0,none⟩) 34 (byteAt sfirst)):=bsAt_own hlit
 have HB4:Hid (Below w3.heap.size w3 (w3.alloc (.cells #[.int .u8 1,.int .u8 0,.int .u8 0,.int .u8 0,.int .u8 1,.int .u8 0,.int .u8 0,.int .u8 0,.int .u8 7,.int .u8 0,.int .u8 0,.int .u8 0,.int .u8 5,.int .u8 6,.int .u8 0,.int .u8 0,.int .u8 0,.int .u8 2,.int .u8 0,.int .u8 0,.int .u8 0,.int .u8 0,.int .u8 0,.int .u8 0,.int .u8 0,.int .u8 0,.int .u8 0,.int .u8 0,.int .u8 0,.int .u8 0,.int .u8 0,.int .u8 0,.int .u8 0,.int .u8 0] 5))):=br.alloc nr _
 clear hp3 hm3 hv3 hlit HP2 HX2 HO1 HB2 HP1 HB1
 go_wp2_with fail
 generalize w3.alloc (.cells #[.int .u8 1,.int .u8 0,.int .u8 0,.int .u8 0,.int .u8 1,.int .u8 0,.int .u8 0,.int .u8 0,.int .u8 7,.int .u8 0,.int .u8 0,.int .u8 0,.int .u8 5,.int .u8 6,.int .u8 0,.int .u8 0,.int .u8 0,.int .u8 2,.int .u8 0,.int .u8 0,.int .u8 0,.int .u8 0,.int .u8 0,.int .u8 0,.int .u8 0,.int .u8 0,.int .u8 0,.int .u8 0,.int .u8 0,.int .u8 0,.int .u8 0,.int .u8 0,.int .u8 0,.int .u8 0] 5)=w4 at *
 refine kSame_any a3 (some ⟨w3.heap.size,0,none⟩) 34 c3 34 34 (byteAt sfirst) (byteAt sfirst) w4 _ (by decide) (by decide) (HV3.o.below HB4.o nr) HY3.o ?_
 intro w5 hb5
 rw[show decide (34=34/\ ∀i,i<34->byteAt sfirst i=byteAt sfirst i)=true by simp]
 have HP5:Hid (PS w5 P b3 sc s1 s1.seq):=HP3.o.ext (HB4.o.trans (hb5.mono HB4.o.size))
 have HB5:Hid (Below w.heap.size w w5):=HB3.o.trans ((HB4.o.mono HB3.o.size).trans (hb5.mono (llt HB3.o.size HB4.o.size)))
 clear hb5 HV3 HY3 HB4 HB3 HP3
 go_wp2_with fail
 refine kFresh_any 8 2 1 3 99 w5 _ (by decide) (by decide) (by decide) (by decide) (by decide) ?_
 intro v6 w6 hb6 hv6
 obtain ⟨a6,c6,rfl,hc6,hx6,hy6,ha6⟩:=cmd_own (l:=sl2) hv6 (by decide)
 have HX6:=zl4 hc6 hx6 hy6 ha6
 have HB6:Hid (Below w.heap.size w w6):=HB5.o.trans (hb6.mono HB5.o.size)
 have HP6:=zl (HP5.o.ext hb6)
 clear hb6 hv6 hc6 hx6 hy6 ha6 HP5 HB5
 go_wp2_with fail
 refine pSend_any P b3 sc s1 a6 15 c6 (yOf sl2) w w6 _ HP6.o HL.o HB6.o HO3.o (by decide) HX6.o.1 HX6.o.2.1 HX6.o.2.2.1 (fun _=>HX6.o.2.2.2) s1_len.1 (by decide) s1_len.2 (by decide) ?_
 intro b7 v7 w7 hp7 hm7 _ _
 rw[show zaz sc s1 (yOf sl2) 15=s2 from rfl] at hp7
 have HP7:=zl hp7
 have HB7:=zl (HB6.o.trans (hm7.tch.low HB6.o.size HO3.o))
 have HO7:=zl (hm7.low HO3.o HB6.o.size)
 clear hp7 hm7 HP6 HX6 HO3 HB6
 go_wp2_with fail
 refine kTick_any 10 w7 _ (by decide) (by decide) ?_
 intro v8 w8 hb8 hv8
 obtain ⟨a8,c8,rfl,hc8,hx8,hy8,ha8⟩:=cmd_own (l:=sl3) hv8 (by decide)
 have HX8:=zl4 hc8 hx8 hy8 ha8
 have HB8:Hid (Below w.heap.size w w8):=HB7.o.trans (hb8.mono HB7.o.size)
 have HP8:=zl (HP7.o.ext hb8)
 clear hb8 hv8 hc8 hx8 hy8 ha8 HP7 HB7
 go_wp2_with fail
 refine kSent_any P b7 sc s2 a8 5 c8 (yOf sl3) w w8 _ HP8.o HL.o HB8.o HO7.o (by decide) HX8.o.1 HX8.o.2.1 HX8.o.2.2.1 (fun _=>HX8.o.2.2.2) s2_len.1 (by decide) s2_len.2 (by decide) s3_ok (by rw[show zaz sc s2 (yOf sl3) 5=s3 from rfl,s3_n];decide) ?_
 intro b9 v9 w9 hp9 hm9 hv9 hs9
 rw[show zaz sc s2 (yOf sl3) 5=s3 from rfl] at hp9 hv9
 have HP9:=zl hp9
 have HB9:=zl (HB8.o.trans (hm9.tch.low HB8.o.size HO7.o))
 unfold Evs at hv9
 rw[s3_n,s3_cells] at hv9
 obtain ⟨g9,c9,rfl,-⟩:=own_cellsK hv9 0 _ rfl
 have HV9:=zl hv9
 clear hp9 hm9 hv9 hs9 HP8 HX8 HO7 HB8
 go_wp2_with fail
 refine pOrders_any P b9 sc s3 _ w9 _ HP9.o ?_
 intro vo wo hbo hvo
 rw[s3_shn,s3_shown] at hvo
 obtain ⟨go,co,rfl,-⟩:=own_cellsK hvo 0 _ rfl
 have HPo:=zl (HP9.o.ext hbo)
 have HBo:=zl hbo
 have HVo:=zl hvo
 clear hbo hvo
 go_wp2_with fail
 refine pLook_any P b9 sc {s3 with seq:=s3.seq} s3.phase wo _ HPo.o.pm ?_
 intro wl hbl
 rw[show lookv {s3 with seq:=s3.seq}= .agg #[.int .i64 1,.int .i64 10,.int .i64 101,.int .i64 7] from s3_look]
 have hal:Below wl.heap.size wl (wl.alloc (.cells #[.int .i64 1,.int .i64 10,.int .i64 101,.int .i64 7] 67)):=br.alloc nr _
 have hwo:Below wo.heap.size wo (wl.alloc (.cells #[.int .i64 1,.int .i64 10,.int .i64 101,.int .i64 7] 67)):=hbl.trans (hal.mono hbl.size)
 have hwl:Below w9.heap.size w9 (wl.alloc (.cells #[.int .i64 1,.int .i64 10,.int .i64 101,.int .i64 7] 67)):=HBo.o.trans (hwo.mono HBo.o.size)
 have HVl:Hid ((wl.alloc (.cells #[.int .i64 1,.int .i64 10,.int .i64 101,.int .i64 7] 67)).ownsRow w8.heap.size 42 10 (.slice (some ⟨g9,0,none⟩) 3 c9) 3 [.int .i64 7,.int .i64 5,.int .i64 0,.int .i64 0,.int .i64 0,.int .i64 0,.int .i64 3,.int .i64 101,.int .i64 2,.int .i64 0,.int .i64 3,.int .i64 6,.int .i64 0,.int .i64 0,.int .i64 7,.int .i64 8,.int .i64 3,.int .i64 101,.int .i64 0,.int .i64 0,.int .i64 8,.int .i64 7,.int .i64 0,.int .i64 0,.int .i64 0,.int .i64 0,.int .i64 0,.int .i64 0,.int .i64 0,.int .i64 1]):=zbe HV9.o hwl
 have HOl:Hid ((wl.alloc (.cells #[.int .i64 1,.int .i64 10,.int .i64 101,.int .i64 7] 67)).ownsRow w9.heap.size 89 6 (.slice (some ⟨go,0,none⟩) 1 co) 1 [.int .i64 7,.int .i64 1,.int .i64 1,.int .i64 101,.int .i64 2,.bool false]):=zbe HVo.o hwo
 have hfin:Hid (∀w',Below (wl.alloc (.cells #[.int .i64 1,.int .i64 10,.int .i64 101,.int .i64 7] 67)).heap.size (wl.alloc (.cells #[.int .i64 1,.int .i64 10,.int .i64 101,.int .i64 7] 67)) w'->R (.returned (.bool true)) w'):=fun w' hb=>HR.o w' (HB9.o.trans ((hwl.mono HB9.o.size).trans (hb.mono (llt HB9.o.size hwl.size))))
 have k0:(wl.alloc (.cells #[.int .i64 1,.int .i64 10,.int .i64 101,.int .i64 7] 67)).cell? ⟨g9,0,none⟩=some (.int .i64 7):=own_at0 HVl.o 0 _ rfl
 have k7:(wl.alloc (.cells #[.int .i64 1,.int .i64 10,.int .i64 101,.int .i64 7] 67)).cell? ⟨g9,7,none⟩=some (.int .i64 101):=own_at0 HVl.o 7 _ rfl
 have k10:(wl.alloc (.cells #[.int .i64 1,.int .i64 10,.int .i64 101,.int .i64 7] 67)).cell? ⟨g9,10,none⟩=some (.int .i64 3):=own_at0 HVl.o 10 _ rfl
 have k16:(wl.alloc (.cells #[.int .i64 1,.int .i64 10,.int .i64 101,.int .i64 7] 67)).cell? ⟨g9,16,none⟩=some (.int .i64 3):=own_at0 HVl.o 16 _ rfl
 have k20:(wl.alloc (.cells #[.int .i64 1,.int .i64 10,.int .i64 101,.int .i64 7] 67)).cell? ⟨g9,20,none⟩=some (.int .i64 8):=own_at0 HVl.o 20 _ rfl
 have o0:(wl.alloc (.cells #[.int .i64 1,.int .i64 10,.int .i64 101,.int .i64 7] 67)).cell? ⟨go,0,none⟩=some (.int .i64 7):=own_at0 HOl.o 0 _ rfl
 have o4:(wl.alloc (.cells #[.int .i64 1,.int .i64 10,.int .i64 101,.int .i64 7] 67)).cell? ⟨go,4,none⟩=some (.int .i64 2):=own_at0 HOl.o 4 _ rfl
 clear hal hwo hwl hbl HVo HBo HPo HV9 HB9 HP9 HVl HOl
 go_wp2_with fail
 exact hfin.o _ br
theorem kOpened_any (x:Nat->Int)(w:World)(R:EW)(hL:zcq w)
  (hR1: ¬cfOk x-> ∀w',Below w.heap.size w w'->R (.returned (.tuple #[.pointer none,.bool true])) w')
  (hR2:cfOk x-> ∀P b w',Below w.heap.size w w'->(∀g,Own P b g->w.heap.size<=g)->PS w' P b (cfOf x) (newM (cfOf x)) 0->R (.returned (.tuple #[.pointer (some ⟨P,0,none⟩),.bool true])) w'):
  Calls Tryz.prog 22 #[cfx x] w R:=by
 have HR1:=zl hR1
 have HR2:=zl hR2
 have HL:=zl hL
 clear hR1 hR2 hL
 unfold cfx
 go_enter Tryz.func22,Tryz.ntmps22
 go_wp2_with fail
 obtain ⟨w1,hw1⟩:=xq (w.alloc (.cells #[.int .i64 (x 0),.int .i64 (x 1),.int .i64 (x 2),.int .i64 (x 3),.int .i64 (x 4),.int .i64 (x 5)] 46))
 obtain ⟨G,hG⟩:=xq w.heap.size
 have HB1:Hid (Below w.heap.size w w1):=by rw[hw1];exact br.alloc nr _
 have HZ1:Hid (w1.heap[G]?=some (.cells #[.int .i64 (x 0),.int .i64 (x 1),.int .i64 (x 2),.int .i64 (x 3),.int .i64 (x 4),.int .i64 (x 5)] 46 (0,0))):=by rw[hw1,hG];exact heap_alloc_new w _
 rw[←hw1,←hG]
 clear hw1 hG
 refine kSure_any w1 _ (zcq.below HL.o HB1.o nr) ?_
 intro w2 hb2
 have HB2:Hid (Below w.heap.size w w2):=HB1.o.trans (hb2.mono HB1.o.size)
 have HZ2:Hid (w2.heap[G]?=some (.cells #[.int .i64 (x 0),.int .i64 (x 1),.int .i64 (x 2),.int .i64 (x 3),.int .i64 (x 4),.int .i64 (x 5)] 46 (0,0))):=zau hb2 HZ1.o
 have c0:w2.cell? ⟨G,0,none⟩=some (.int .i64 (x 0)):=cell_of_row w2 G 0 _ _ (0,0) HZ2.o
 have c1:w2.cell? ⟨G,1,none⟩=some (.int .i64 (x 1)):=cell_of_row w2 G 1 _ _ (0,0) HZ2.o
 have c2:w2.cell? ⟨G,2,none⟩=some (.int .i64 (x 2)):=cell_of_row w2 G 2 _ _ (0,0) HZ2.o
 have c3:w2.cell? ⟨G,3,none⟩=some (.int .i64 (x 3)):=cell_of_row w2 G 3 _ _ (0,0) HZ2.o
 have c4:w2.cell? ⟨G,4,none⟩=some (.int .i64 (x 4)):=cell_of_row w2 G 4 _ _ (0,0) HZ2.o
 have c5:w2.cell? ⟨G,5,none⟩=some (.int .i64 (x 5)):=cell_of_row w2 G 5 _ _ (0,0) HZ2.o
 clear hb2
 go_wp2_with fail
 clear c0 c1 c2 c3 c4 c5
 refine pNew_any x w2 _ ?_ ?_
 .intro hno w3 hb3
  have HB3:Hid (Below w.heap.size w w3):=HB2.o.trans (hb3.mono HB2.o.size)
  have HZ3:Hid (w3.heap[G]?=some (.cells #[.int .i64 (x 0),.int .i64 (x 1),.int .i64 (x 2),.int .i64 (x 3),.int .i64 (x 4),.int .i64 (x 5)] 46 (0,0))):=zau hb3 HZ2.o
  have c0:w3.cell? ⟨G,0,none⟩=some (.int .i64 (x 0)):=cell_of_row w3 G 0 _ _ (0,0) HZ3.o
  have c1:w3.cell? ⟨G,1,none⟩=some (.int .i64 (x 1)):=cell_of_row w3 G 1 _ _ (0,0) HZ3.o
  have c2:w3.cell? ⟨G,2,none⟩=some (.int .i64 (x 2)):=cell_of_row w3 G 2 _ _ (0,0) HZ3.o
  have c3:w3.cell? ⟨G,3,none⟩=some (.int .i64 (x 3)):=cell_of_row w3 G 3 _ _ (0,0) HZ3.o
  have c4:w3.cell? ⟨G,4,none⟩=some (.int .i64 (x 4)):=cell_of_row w3 G 4 _ _ (0,0) HZ3.o
  have c5:w3.cell? ⟨G,5,none⟩=some (.int .i64 (x 5)):=cell_of_row w3 G 5 _ _ (0,0) HZ3.o
  have hfin:=zl (HR1.o hno w3 HB3.o)
  clear hb3
  by_cases h0:1<=x 0
  .by_cases h1:x 0<=1000000
   .by_cases h2:1<=x 1
    .by_cases h3:x 1<x 2
     .by_cases h4:x 2<x 3
      .by_cases h5:x 3<=1000000
       .by_cases h6:1<=x 4
        .by_cases h7:x 4<=24
         .by_cases h8:1<=x 5
          .by_cases h9:x 5<=1000000000
           .exact absurd (by unfold cfOk;omega) hno
           .have hd:decide (x 5<=1000000000)=false:=decide_eq_false h9
            go_wp2_with fail
            exact hfin.o
          .have hd:decide (1<=x 5)=false:=decide_eq_false h8
           go_wp2_with fail
           exact hfin.o
         .have hd:decide (x 4<=24)=false:=decide_eq_false h7
          go_wp2_with fail
          exact hfin.o
        .have hd:decide (1<=x 4)=false:=decide_eq_false h6
         go_wp2_with fail
         exact hfin.o
       .have hd:decide (x 3<=1000000)=false:=decide_eq_false h5
        go_wp2_with fail
        exact hfin.o
      .have hd:decide (x 2<x 3)=false:=decide_eq_false h4
       go_wp2_with fail
       exact hfin.o
     .have hd:decide (x 1<x 2)=false:=decide_eq_false h3
      go_wp2_with fail
      exact hfin.o
    .have hd:decide (1<=x 1)=false:=decide_eq_false h2
     go_wp2_with fail
     exact hfin.o
   .have hd:decide (x 0<=1000000)=false:=decide_eq_false h1
    go_wp2_with fail
    exact hfin.o
  .have hd:decide (1<=x 0)=false:=decide_eq_false h0
   go_wp2_with fail
   exact hfin.o
 .intro hok P b w3 hb3 ho3 hp3
  have HZ3:Hid (w3.heap[G]?=some (.cells #[.int .i64 (x 0),.int .i64 (x 1),.int .i64 (x 2),.int .i64 (x 3),.int .i64 (x 4),.int .i64 (x 5)] 46 (0,0))):=zau hb3 HZ2.o
  have c0:w3.cell? ⟨G,0,none⟩=some (.int .i64 (x 0)):=cell_of_row w3 G 0 _ _ (0,0) HZ3.o
  have c1:w3.cell? ⟨G,1,none⟩=some (.int .i64 (x 1)):=cell_of_row w3 G 1 _ _ (0,0) HZ3.o
  have c2:w3.cell? ⟨G,2,none⟩=some (.int .i64 (x 2)):=cell_of_row w3 G 2 _ _ (0,0) HZ3.o
  have c3:w3.cell? ⟨G,3,none⟩=some (.int .i64 (x 3)):=cell_of_row w3 G 3 _ _ (0,0) HZ3.o
  have c4:w3.cell? ⟨G,4,none⟩=some (.int .i64 (x 4)):=cell_of_row w3 G 4 _ _ (0,0) HZ3.o
  have c5:w3.cell? ⟨G,5,none⟩=some (.int .i64 (x 5)):=cell_of_row w3 G 5 _ _ (0,0) HZ3.o
  have hfin:Hid (R (.returned (.tuple #[.pointer (some ⟨P,0,none⟩),.bool true])) w3):=HR2.o hok P b w3 (HB2.o.trans (hb3.mono HB2.o.size)) (fun g hg=>llt HB2.o.size (ho3 g hg)) hp3
  obtain ⟨q1,q2,q3,q4,q5,q6,q7,q8,q9,q10⟩:=hok
  have q7':1<=x 1:=by omega
  clear hb3 ho3 hp3
  go_wp2_with fail
  exact hfin.o
