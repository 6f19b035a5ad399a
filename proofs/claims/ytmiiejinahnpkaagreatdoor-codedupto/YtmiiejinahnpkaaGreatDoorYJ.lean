import Derived.Test.YtmiiejinahnpkaaGreatDoorYI
set_option maxRecDepth 8000
set_option maxHeartbeats 2000000
namespace Go.Proofs.YtmiiejinahnpkaaGreatDoor
open Go.RowKit
section
attribute [local go_sem↓] Go.wp_at_zero Go.wp_at_succ
def OpAt (w:World) (O:Nat) (kind:Int) (a:Option Addr) (N c:Nat) (al:Option Addr) (nl cl:Nat) (bb:Bool):Prop:=w.heap[O]?=some (.cells #[.int .i64 kind,.slice a N c,.slice al nl cl,.bool bb] 34 (0,0))
variable {bb:Bool} {kind:Int} {N O base c cl nl:Nat} {a al:Option Addr} {w w':World}
theorem OpAt.cell1 (h:OpAt w O kind a N c al nl cl bb):w.cell? ⟨O,1,none⟩=some (.slice a N c):=by rw[cell_of_row w O 1 _ _ (0,0) h];rfl
theorem OpAt.cell2 (h:OpAt w O kind a N c al nl cl bb):w.cell? ⟨O,2,none⟩=some (.slice al nl cl):=by rw[cell_of_row w O 2 _ _ (0,0) h];rfl
theorem OpAt.ext (h:OpAt w O kind a N c al nl cl bb)(hb:Below w.heap.size w w'):OpAt w' O kind a N c al nl cl bb:=(hb.block O (zak h)).trans h
variable {own:Nat->Nat×Int}
theorem OpAt.stays {own':Nat->Nat×Int}{T:Nat×Int->Prop}(h:OpAt w O kind a N c al nl cl bb)(hs:zaj base own T w own' w')(hb:base<=O)(ht:own O=(9,0))(hT:T (9,0)):OpAt w' O kind a N c al nl cl bb/\own' O=(9,0):=
 ⟨(hs.blk O (zak h) hb (by rw[ht];exact hT)).trans h,(hs.tag O (zak h)).trans ht⟩
variable {X:Nat->Int}
theorem BsAt.ext (h:BsAt w a N X)(hb:Below w.heap.size w w'):BsAt w' a N X:=by
 intro i hi
 obtain ⟨b,o,h1,h2⟩:=h i hi
 exact⟨b,o,h1,(hb.cell (p:=⟨b,o+i,none⟩) (zab h2)).trans h2⟩
theorem lent_bytes {g:Nat}(h:w.ownsRow base 5 1 (.slice (some ⟨g,0,none⟩) (N+1) c) (N+1) (told (zg7 X N) (N+1))):BsAt w (some ⟨g,0,none⟩) N X:=by
 intro i hi
 obtain ⟨g',cap,h1,_,_,_,h5,_⟩:=zan h i _ (zdb _ _ _ (by omega))
 simp only[Value.slice.injEq,Option.some.injEq,Addr.mk.injEq,and_true] at h1
 obtain ⟨rfl,_⟩:=h1
 refine⟨g,0,rfl,?_⟩
 rw[Nat.zero_add,h5]
 simp[zg7,hi]
def opv (kind:Int) (a:Option Addr) (N c:Nat) (al:Option Addr) (n cl:Nat) (b:Bool):Value:= .agg #[.int .i64 kind,.slice a N c,.slice al n cl,.bool b]
theorem decodes_w {Z B:Nat}{f:Nat->Value}{xs:Nat->List Value}{ms:List Nat}{em:List Int}{last:Int}{many:Nat}{R:EW}
  (hW:WK Z base B own w f xs ms em last many)(h7:(xs 7).length+1<=Z)(h5:(xs 5).length+4<=4 * Z)(hm: -(Z:Int)<=last-1)(hL:zcq w)(hN:N<=1048576)(hx:BsAt w a N X)(hxb: ∀i,i<N->0<=X i/\X i<=255)
  (hR: ∀own' f' xs' em' w',WK Z base B own' w' f' xs' ms em' (last-1) many->(xs' 1).length=(xs 1).length->(xs' 5).length=(xs 5).length+4->(xs' 7).length=(xs 7).length+1->(xs' 8).length=(xs 8).length->xs' 0=xs 0->Below base w w'->zaj base own MT w own' w'->R (.returned (.bool true)) w'):
  Calls Tryz.prog 39 #[.pointer (some ⟨B,0,none⟩),opv kind a N c al nl cl bb] w R:=by
 have HR:=zl hR
 have HW:=zl hW
 have H7:=zl3 h7 h5 hm
 have HLA:=zl hL
 have HX:=zl hx
 have HXB:=zl hxb
 have hbase:base<=w.heap.size:=by have:=zak hW.wj.blk;have:=hW.wj.hB;omega
 clear hR hW h7 h5 hm hL hx hxb
 unfold opv
 go_enter Tryz.func39,Tryz.ntmps39
 go_wp2_with fail
 obtain ⟨O,hO⟩:=xq w.heap.size
 obtain ⟨w0,hw0⟩:=xq (w.alloc (.cells #[.int .i64 kind,.slice a N c,.slice al nl cl,.bool bb] 34))
 rw[←hw0,←hO]
 have hb0:Below w.heap.size w w0:=by rw[hw0];exact br.alloc nr _
 have ho0:OpAt w0 O kind a N c al nl cl bb:=by rw[hw0,hO];exact heap_alloc_new w _
 obtain ⟨own0,hown0⟩:=xq (za9 own w (.slice (some ⟨O,0,none⟩) 0 0) (9,0))
 have HO0:Hid (OpAt w0 O kind a N c al nl cl bb/\own0 O=(9,0)/\base<=O):=⟨ho0,by rw[hown0,hO];simp[za9,Value.ownBlock],by rw[hO];exact hbase⟩
 have HW0:Hid (WK Z base B own0 w0 f xs ms em last many):=HW.o.all ⟨hb0.size,fun g hg=>by rw[hown0];exact zb0 hg,fun g hg _ _=>hb0.block g hg⟩
 have HB0:=zl hb0
 have HT0:Hid (∀g,g<w.heap.size->own0 g=own g):=fun g hg=>by rw[hown0];exact zb0 hg
 clear hown0 hw0 hb0 ho0 hO
 refine lent_any a N c X w0 _ hN (HX.o.ext HB0.o) ?_
 intro g w1 hb1 hl1
 have hbase0:base<=w0.heap.size:=llt hbase HB0.o.size
 obtain ⟨s1,l1,t1⟩:=adopt (own:=own0) (t:=(4,((xs 7).length:Int))) hb1 hl1 hbase0
 obtain ⟨own1,hown1⟩:=xq (za9 own0 w0 (.slice (some ⟨g,0,none⟩) (N+1) (N+1)) (4,((xs 7).length:Int)))
 rw[←hown1] at s1 t1
 have HW1:=zl (HW0.o.all s1)
 have HO1:Hid (OpAt w1 O kind a N c al nl cl bb/\own1 O=(9,0)/\base<=O):=by obtain ⟨q1,q2⟩:=HO0.o.1.stays s1 HO0.o.2.2 HO0.o.2.1 trivial;exact⟨q1,q2,HO0.o.2.2⟩
 have HL1:Hid (w1.ownsRow base 5 1 (.slice (some ⟨g,0,none⟩) (N+1) (N+1)) (N+1) (told (zg7 X N) (N+1))/\own1 g=(4,((xs 7).length:Int))):=⟨l1,t1 g rfl⟩
 have HB1:Hid (Below w.heap.size w w1):=HB0.o.trans (hb1.mono HB0.o.size)
 have HT1:Hid (∀g,g<w.heap.size->own1 g=own g):=fun g hg=>(s1.tag g (lll hg HB0.o.size)).trans (HT0.o g hg)
 have c1:=HO1.o.1.cell1
 clear hb1 hl1 s1 l1 t1 hown1 HW0 HO0 HB0 hbase0
 go_wp2_with fail
 refine Decode_res _ N (N+1) X w1 _ (zcq.below HLA.o HB1.o nr) hN (by omega) (lent_bytes HL1.o.1) HXB.o ?_
 intro n e p v w2 hd hb2 hv2
 have hbase1:base<=w1.heap.size:=llt hbase HB1.o.size
 obtain ⟨s2,l2,t2⟩:=adopt (own:=own1) (t:=(3,last-1)) hb2 hv2 hbase1
 obtain ⟨own2,hown2⟩:=xq (za9 own1 w1 v (3,last-1))
 rw[←hown2] at s2 t2
 have HW2:=zl (HW1.o.all s2)
 have HO2:Hid (OpAt w2 O kind a N c al nl cl bb/\own2 O=(9,0)/\base<=O):=by obtain ⟨q1,q2⟩:=HO1.o.1.stays s2 HO1.o.2.2 HO1.o.2.1 trivial;exact⟨q1,q2,HO1.o.2.2⟩
 have HL2:Hid (w2.ownsRow base 5 1 (.slice (some ⟨g,0,none⟩) (N+1) (N+1)) (N+1) (told (zg7 X N) (N+1))/\own2 g=(4,((xs 7).length:Int))):=by
  obtain ⟨q1,q2⟩:=zaq (tag:=(4,((xs 7).length:Int))) HL1.o.1 (fun q hq=>by simp[Value.ownBlock] at hq;rw[←hq];exact HL1.o.2) s2 trivial
  exact⟨q1,q2 g rfl⟩
 have HV2:=zl2 l2 t2
 have HB2:Hid (Below w.heap.size w w2):=HB1.o.trans (hb2.mono HB1.o.size)
 have HD:=zl hd
 have HT2:Hid (∀g,g<w.heap.size->own2 g=own g):=fun g hg=>(s2.tag g (lll hg HB1.o.size)).trans (HT1.o g hg)
 obtain ⟨av,cv,rfl⟩:=zar hv2
 have c1':=HO2.o.1.cell1
 clear c1 hb2 hv2 s2 l2 t2 hown2 HW1 HO1 HL1 HB1 hbase1 hd
 go_wp2_with fail
 refine refDecode_res _ N c X w2 _ hN (HX.o.ext HB2.o) HXB.o ?_
 intro n' e' p' v' w3 hd hb3 hv3
 obtain ⟨rfl,rfl,rfl⟩:=DRes.unique HD.o hd
 obtain ⟨av',cv',rfl⟩:=zar hv3
 have HW3:=zl (HW2.o.ext hb3)
 have HO3:=zl2 (HO2.o.1.ext hb3) HO2.o.2
 have HL3:Hid (w3.ownsRow base 5 1 (.slice (some ⟨g,0,none⟩) (N+1) (N+1)) (N+1) (told (zg7 X N) (N+1))/\own2 g=(4,((xs 7).length:Int))):=⟨(zaq HL2.o.1 (tag:=own2 g) (fun q hq=>by simp[Value.ownBlock] at hq;rw[←hq]) (zaj.of_below hb3) trivial).1,HL2.o.2⟩
 have HV3:Hid (w3.ownsRow base 42 10 (.slice av n cv) n (zbp X n)/\ ∀g,(Value.slice av n cv).ownBlock=some g->own2 g=(3,last-1)):=zaq HV2.o.1 HV2.o.2 (zaj.of_below hb3) trivial
 have HB3:Hid (Below w.heap.size w w3):=HB2.o.trans (hb3.mono HB2.o.size)
 have HV3':=zl hv3
 have hn:=HD.o.le
 have he:(e !=e)=false:=by simp
 have hp:((p:Int) !=(p:Int))=false:=by simp
 have hnn:((n:Int) !=(n:Int))=false:=by simp
 clear c1' hb3 hv3 HW2 HO2 HL2 HB2 HV2 hd
 go_wp2_with fail
 clear he hp hnn
 go_loopw [12,13] (fun t _ wr=> ∃k:Nat,k<=n/\t= .int .i64 k/\Below w3.heap.size w3 wr) (fun t _ _=>n-(intOf t).toNat)
 case atStart=>exact⟨0,Nat.zero_le _,rfl,br⟩
 case round=>
  obtain ⟨k,hk,rfl,hb4⟩:=hrel
  have HB4:=zl hb4
  by_cases hkl:k<n
  .obtain ⟨g1,cap1,q1,_,_,_,_,_⟩:=zan HV3.o.1 (k * 10+0) _ (zgq X n k 0 hkl (by decide))
   obtain ⟨g2,cap2,q2,_,_,_,_,_⟩:=zan HV3'.o (k * 10+0) _ (zgq X n k 0 hkl (by decide))
   simp only[Value.slice.injEq] at q1 q2
   obtain ⟨rfl,-⟩:=q1
   obtain ⟨rfl,-⟩:=q2
   have d1: ∀j,j<10->wr.cell? ⟨g1,k * 10+j,none⟩=some (.int .i64 (dev X (pos X k) j)):=by
    intro j hj
    obtain ⟨g',cap',q1,_,hlt',_,hc,_⟩:=zan HV3.o.1 (k * 10+j) _ (zgq X n k j hkl hj)
    simp only[Value.slice.injEq,Option.some.injEq,Addr.mk.injEq,and_true] at q1
    rw[←q1.1] at hc hlt'
    exact(hb4.cell (p:=⟨g1,k * 10+j,none⟩) hlt').trans hc
   have d2: ∀j,j<10->wr.cell? ⟨g2,k * 10+j,none⟩=some (.int .i64 (dev X (pos X k) j)):=by
    intro j hj
    obtain ⟨g',cap',q1,_,hlt',_,hc,_⟩:=zan HV3'.o (k * 10+j) _ (zgq X n k j hkl hj)
    simp only[Value.slice.injEq,Option.some.injEq,Addr.mk.injEq,and_true] at q1
    rw[←q1.1] at hc hlt'
    exact(hb4.cell (p:=⟨g2,k * 10+j,none⟩) hlt').trans hc
   have hst:ze5 (dev X (pos X k)) (dev X (pos X k))=true:=(zgj _ _).2 fun _ _=>rfl
   have KW: ∀{w1:World} (_:Below wr.heap.size wr w1) (x:Addr) (v:Value),wr.cell? x=some v->w1.cell? x=some v:=fun {w1} h x v hx=>(h.cell (World.block_lt_of_cell? wr x hx)).trans hx
   have a10:=d1 0 (by decide)
   have a20:=d2 0 (by decide)
   rw[Nat.add_zero] at a10 a20
   have hk0:(0:Int)<=(k:Int):=by omega
   have hk1:(k:Int)<(n:Int):=by omega
   clear hb4
   go_wp2_with fail
   go_region_held3 (fun w'=>w'.cell? ⟨g1,k * 10,none⟩=some (.int .i64 (dev X (pos X k) 0))/\w'.cell? ⟨g1,k * 10+1,none⟩=some (.int .i64 (dev X (pos X k) 1))/\w'.cell? ⟨g1,k * 10+2,none⟩=some (.int .i64 (dev X (pos X k) 2))/\w'.cell? ⟨g1,k * 10+3,none⟩=some (.int .i64 (dev X (pos X k) 3))/\w'.cell? ⟨g1,k * 10+4,none⟩=some (.int .i64 (dev X (pos X k) 4))/\w'.cell? ⟨g1,k * 10+5,none⟩=some (.int .i64 (dev X (pos X k) 5))/\w'.cell? ⟨g1,k * 10+6,none⟩=some (.int .i64 (dev X (pos X k) 6))/\w'.cell? ⟨g1,k * 10+7,none⟩=some (.int .i64 (dev X (pos X k) 7))/\w'.cell? ⟨g1,k * 10+8,none⟩=some (.int .i64 (dev X (pos X k) 8))/\w'.cell? ⟨g1,k * 10+9,none⟩=some (.int .i64 (dev X (pos X k) 9))/\w'.cell? ⟨g2,k * 10,none⟩=some (.int .i64 (dev X (pos X k) 0))/\w'.cell? ⟨g2,k * 10+1,none⟩=some (.int .i64 (dev X (pos X k) 1))/\w'.cell? ⟨g2,k * 10+2,none⟩=some (.int .i64 (dev X (pos X k) 2))/\w'.cell? ⟨g2,k * 10+3,none⟩=some (.int .i64 (dev X (pos X k) 3))/\w'.cell? ⟨g2,k * 10+4,none⟩=some (.int .i64 (dev X (pos X k) 4))/\w'.cell? ⟨g2,k * 10+5,none⟩=some (.int .i64 (dev X (pos X k) 5))/\w'.cell? ⟨g2,k * 10+6,none⟩=some (.int .i64 (dev X (pos X k) 6))/\w'.cell? ⟨g2,k * 10+7,none⟩=some (.int .i64 (dev X (pos X k) 7))/\w'.cell? ⟨g2,k * 10+8,none⟩=some (.int .i64 (dev X (pos X k) 8))/\w'.cell? ⟨g2,k * 10+9,none⟩=some (.int .i64 (dev X (pos X k) 9))) (first|go_keep|exact⟨KW hb5 _ _ a10,KW hb5 _ _ (d1 1 (by decide)),KW hb5 _ _ (d1 2 (by decide)),KW hb5 _ _ (d1 3 (by decide)),KW hb5 _ _ (d1 4 (by decide)),KW hb5 _ _ (d1 5 (by decide)),KW hb5 _ _ (d1 6 (by decide)),KW hb5 _ _ (d1 7 (by decide)),KW hb5 _ _ (d1 8 (by decide)),KW hb5 _ _ (d1 9 (by decide)),KW hb5 _ _ a20,KW hb5 _ _ (d2 1 (by decide)),KW hb5 _ _ (d2 2 (by decide)),KW hb5 _ _ (d2 3 (by decide)),KW hb5 _ _ (d2 4 (by decide)),KW hb5 _ _ (d2 5 (by decide)),KW hb5 _ _ (d2 6 (by decide)),KW hb5 _ _ (d2 7 (by decide)),KW hb5 _ _ (d2 8 (by decide)),KW hb5 _ _ (d2 9 (by decide))⟩) (first|(go_at_call 42;refine zdk (dev X (pos X k)) (dev X (pos X k)) _ _ (by rfl) (by rfl) _ _ ?_;intro w5 hb5';have hb5:Below wr.heap.size wr w5:=Below.trans (br.drew) hb5';rw[hst]))
   have HB5:Hid (Below w3.heap.size w3 w5):=HB4.o.trans (hb5.mono HB4.o.size)
   clear hb5 hb5' d1 d2 a10 a20 KW hst
   go_wp2_with fail
   go_roundw
   case rel=>exact⟨k+1,by omega,by go_num,HB5.o⟩
   case measure=>simp only[intOf];omega
  .obtain ⟨wa,hwa⟩:=xq wr
   subst hwa
   have c1:=(HO3.o.1.ext hb4).cell1
   clear hb4
   go_wp2_with fail
   have HB4':Hid (Below w.heap.size w wa):=HB3.o.trans (HB4.o.mono HB3.o.size)
   have hl4:=(zaq (tag:=own2 g) HL3.o.1 (fun q hq=>by simp[Value.ownBlock] at hq;rw[←hq]) (zaj.of_below (own:=own2) HB4.o) trivial).1
   have HV4:Hid (wa.ownsRow base 42 10 (.slice av n cv) n (zbp X n)/\ ∀g,(Value.slice av n cv).ownBlock=some g->own2 g=(3,last-1)):=zaq HV3.o.1 HV3.o.2 (zaj.of_below HB4.o) trivial
   have HS4:Hid (zaj base own MT w own2 wa):=⟨HB4'.o.size,HT2.o,fun g hg _ _=>HB4'.o.block g hg⟩
   refine returned_w (HW3.o.ext HB4.o) H7.o.1 hN hl4 HL3.o.2 (HX.o.ext HB4'.o) ?_
   intro own4 f4 xs4 w4 hW4 hx4 hx47 hs4 hb4
   have HW4:=zl hW4
   have HX4:=zl2 hx4 hx47
   have HV5:Hid (w4.ownsRow base 42 10 (.slice av n cv) n (zbp X n)/\ ∀g,(Value.slice av n cv).ownBlock=some g->own4 g=(3,last-1)):=zaq HV4.o.1 HV4.o.2 hs4 (by simp)
   have HB5:Hid (Below base w w4):=(HB4'.o.mono hbase).trans hb4
   have HS5:Hid (zaj base own MT w own4 w4):=HS4.o.trans (hs4.mono (by rintro ⟨q1,q2⟩ q;unfold MT at q;simp only[ne_eq,Prod.mk.injEq];omega))
   clear hl4 hW4 hx4 hx47 hs4 hb4 c1
   go_wp2_with fail
   refine zku HW4.o ?_
   intro w5 hb5
   have HW5:=zl (HW4.o.ext hb5)
   have HV6:Hid (w5.ownsRow base 42 10 (.slice av n cv) n (zbp X n)/\ ∀g,(Value.slice av n cv).ownBlock=some g->own4 g=(3,last-1)):=zaq HV5.o.1 HV5.o.2 (zaj.of_below hb5) trivial
   have HB6:Hid (Below base w w5):=HB5.o.trans (hb5.mono (by have:=HB5.o.size;omega))
   have HS6:Hid (zaj base own MT w own4 w5):=HS5.o.trans ((zaj.of_below hb5).mono fun _ _=>trivial)
   clear hb5
   go_wp2_with fail
   refine keepEvents_w HW5.o (by rw[HX4.o.1 5 (by decide)];exact H7.o.2.1) H7.o.2.2 (by omega) HV6.o.1 HV6.o.2 ?_
   intro own7 f7 xs7 em7 w7 hW7 hx7 hx75 hb7 hst7
   have hfin:Hid (R (.returned (.bool true)) w7):=by
    refine HR.o own7 f7 xs7 em7 w7 hW7 ?_ ?_ ?_ ?_ ?_ (HB6.o.trans hb7) (HS6.o.trans hst7)
    .rw[hx7 1 (by decide) (by decide),HX4.o.1 1 (by decide)]
    .rw[hx75,HX4.o.1 5 (by decide)]
    .rw[hx7 7 (by decide) (by decide),HX4.o.2]
    .rw[hx7 8 (by decide) (by decide),HX4.o.1 8 (by decide)]
    .rw[hx7 0 (by decide) (by decide),HX4.o.1 0 (by decide)]
   clear hW7 hx7 hx75 hb7 hst7
   go_wp2_with fail
   exact hfin.o
end
section
attribute [local go_sem↓] Go.wp_at_zero Go.wp_at_succ
def zjj (es:Nat->Nat->Int) (n:Nat) (k:Nat):Value:= .int .i64 (if k/10<n then es (k/10) (k%10) else 0)
theorem made_ten (n k:Nat)(h:k<n):(madeCells #[.int .i64 0,.int .i64 0,.int .i64 0,.int .i64 0,.int .i64 0,.int .i64 0,.int .i64 0,.int .i64 0,.int .i64 0,.int .i64 0] n).toList[k]?=some (.int .i64 0):=by
 simp only[madeCells,Array.toList_map,List.getElem?_map,Array.getElem?_toList]
 rw[Array.getElem?_eq_getElem (by simpa using h)]
 have:k%10<10:=Nat.mod_lt _ (by decide)
 simp only[Array.getElem_range,Option.map_some,Option.some.injEq]
 show (#[Value.int .i64 0,.int .i64 0,.int .i64 0,.int .i64 0,.int .i64 0,.int .i64 0,.int .i64 0,.int .i64 0,.int .i64 0,.int .i64 0]:Array Value)[k%10]! =_
 rcases (show k%10=0\/k%10=1\/k%10=2\/k%10=3\/k%10=4\/k%10=5\/k%10=6\/k%10=7\/k%10=8\/k%10=9 by omega) with h|h|h|h|h|h|h|h|h|h<;>rw[h]<;>rfl
variable {base c n:Nat} {es:Nat->Nat->Int} {a:Option Addr} {w:World}
theorem ze1.ext {w':World}(h:ze1 w a n es)(hb:Below w.heap.size w w'):ze1 w' a n es:=h.below hb nr
theorem lent_events {g:Nat}(h:w.ownsRow base 42 10 (.slice (some ⟨g,0,none⟩) (n+1) c) (n+1) (told (zjj es n) ((n+1) * 10))):ze1 w (some ⟨g,0,none⟩) n es:=by
 intro i hi
 refine⟨g,0,rfl,fun j hj=>?_⟩
 obtain ⟨g',cap,h1,_,_,_,h5,_⟩:=zan h (i * 10+j) _ (zdb _ _ _ (by omega))
 simp only[Value.slice.injEq,Option.some.injEq,Addr.mk.injEq,and_true] at h1
 obtain ⟨rfl,-⟩:=h1
 rw[Nat.zero_add,h5]
 simp only[zjj]
 rw[show (i * 10+j)/10=i by omega,show (i * 10+j)%10=j by omega,if_pos hi]
theorem encodes_w {Z B:Nat}{own:Nat->Nat×Int}{f:Nat->Value}{xs:Nat->List Value}{ms:List Nat}{em:List Int}{last:Int}{many:Nat}{R:EW}{N:Nat}{kind:Int}{al:Option Addr}{cl:Nat}{bb:Bool}
  (hW:WK Z base B own w f xs ms em last many)(h8:(xs 8).length+1<=Z)(h1:(xs 1).length+4<=4 * Z)(hm:many+1<=Z)(hL:zcq w)(hn:n<=1048576)(hx:ze1 w al n es)(hxb: ∀i j,-9223372036854775808<=es i j/\es i j<=9223372036854775807)
  (hR: ∀own' f' xs' ms' w',WK Z base B own' w' f' xs' ms' em last (many+1)->(xs' 1).length=(xs 1).length+4->(xs' 5).length=(xs 5).length->(xs' 7).length=(xs 7).length->(xs' 8).length=(xs 8).length+1->xs' 0=xs 0->Below base w w'->zaj base own MT w own' w'->R (.returned (.bool true)) w'):
  Calls Tryz.prog 38 #[.pointer (some ⟨B,0,none⟩),opv kind a N c al n cl bb] w R:=by
 have HR:=zl hR
 have HW:=zl hW
 have H7:=zl3 h8 h1 hm
 have HLA:=zl hL
 have HX:=zl hx
 have HXB:=zl hxb
 have hbase:base<=w.heap.size:=by have:=zak hW.wj.blk;have:=hW.wj.hB;omega
 clear hR hW h8 h1 hm hL hx hxb
 obtain ⟨i0,hi,hz0,hz1,hz2⟩:=info_parts Tryz.infoEvent
 have HI:=zl4 hi hz0 hz1 hz2
 clear hi hz0 hz1 hz2
 unfold opv
 go_enter Tryz.func38,Tryz.ntmps38
 go_wp2_with (refine wpList_make_full _ rfl _ _ _ rfl (w.heap.size+1) 42 i0 _ 10 Tryz.underlying32 HI.o.1 HI.o.2.1 HI.o.2.2.1 _ _ _ _ (n+1) rfl rfl ?c1 ?c2 ?c3 ?c4 ?c5 ?_)
 case c1=>omega
 case c2=>omega
 case c3=>rw[HI.o.2.2.2];omega
 case c4=>unfold maxLen;omega
 case c5=>simp
 intro w1 hl1 hg1
 obtain ⟨g,hg⟩:=xq (w.heap.size+1)
 rw[←hg] at hl1 ⊢
 obtain ⟨O,hO⟩:=xq w.heap.size
 rw[←hO]
 obtain ⟨w0,hw0⟩:=xq (w.alloc (.cells #[.int .i64 kind,.slice a N c,.slice al n cl,.bool bb] 34))
 rw[←hw0] at hg1
 have hsz0:w0.heap.size=g:=by rw[hw0,hg];simp
 have hb0:Below w.heap.size w w0:=by rw[hw0];exact br.alloc nr _
 have ho0:OpAt w0 O kind a N c al n cl bb:=by rw[hw0,hO];exact heap_alloc_new w _
 obtain ⟨own0,hown0⟩:=xq (za9 own w (.slice (some ⟨O,0,none⟩) 0 0) (9,0))
 have HO0:Hid (OpAt w0 O kind a N c al n cl bb/\own0 O=(9,0)/\base<=O):=⟨ho0,by rw[hown0,hO];simp[za9,Value.ownBlock],by rw[hO];exact hbase⟩
 have HW0:Hid (WK Z base B own0 w0 f xs ms em last many):=HW.o.all ⟨hb0.size,fun g hg=>by rw[hown0];exact zb0 hg,fun g hg _ _=>hb0.block g hg⟩
 have HB0:=zl hb0
 have HT0:Hid (∀g,g<w.heap.size->own0 g=own g):=fun g hg=>by rw[hown0];exact zb0 hg
 have hb1:Below w0.heap.size w0 w1:=⟨hg1.os,hg1.tape,hg1.output,hg1.size,fun k hk=>hg1.block k hk (by simp)⟩
 have hbase0:base<=w0.heap.size:=llt hbase HB0.o.size
 rw[←hsz0] at hl1 ⊢
 obtain ⟨s1,l1,t1⟩:=adopt (own:=own0) (t:=(5,((xs 8).length:Int))) hb1 hl1 hbase0
 rw[hsz0] at s1 l1 t1 ⊢
 obtain ⟨own1,hown1⟩:=xq (za9 own0 w0 (.slice (some ⟨g,0,none⟩) (n+1) (n+1)) (5,((xs 8).length:Int)))
 rw[←hown1] at s1 t1
 have HW1:=zl (HW0.o.all s1)
 have HO1:Hid (OpAt w1 O kind a N c al n cl bb/\own1 O=(9,0)/\base<=O):=by obtain ⟨q1,q2⟩:=HO0.o.1.stays s1 HO0.o.2.2 HO0.o.2.1 trivial;exact⟨q1,q2,HO0.o.2.2⟩
 have HL1:Hid (w1.ownsRow base 42 10 (.slice (some ⟨g,0,none⟩) (n+1) (n+1)) (n+1) (madeCells #[.int .i64 0,.int .i64 0,.int .i64 0,.int .i64 0,.int .i64 0,.int .i64 0,.int .i64 0,.int .i64 0,.int .i64 0,.int .i64 0] ((n+1) * 10)).toList/\own1 g=(5,((xs 8).length:Int))):=⟨l1,t1 g rfl⟩
 have HB1:Hid (Below w.heap.size w w1):=HB0.o.trans (hb1.mono HB0.o.size)
 have HT1:Hid (∀g,g<w.heap.size->own1 g=own g):=fun g hg=>(s1.tag g (lll hg HB0.o.size)).trans (HT0.o g hg)
 have hgO:g≠O:=by omega
 have hgw:w.heap.size<=g:=by omega
 have c2:=HO1.o.1.cell2
 clear hb1 hl1 s1 l1 t1 hown1 HW0 HO0 HB0 hbase0 hg hO hw0 hsz0 hb0 ho0 hown0 hg1
 go_wp2_with (refine zf1 rfl _ _ _ _ rfl 42 42 10 Tryz.underlying32 ?d1 base g (n+1) (n+1) _ HL1.o.1 al n cl (by omega) (zjj es n) rfl rfl ?d2 ?d3 ?d4 ?_)
 case d1=>rw[HI.o.1];simp[HI.o.2.2.1]
 case d2=>
  intro k hk
  obtain ⟨b,o,h1,h2⟩:=(HX.o.ext HB1.o) (k/10) (by omega)
  refine⟨b,o,h1,?_⟩
  have h3:=h2 (k%10) (by omega)
  rw[show o+k/10 * 10+k%10=o+k by omega] at h3
  rw[h3]
  simp only[zjj,if_pos (show k/10<n by omega)]
 case d3=>
  intro k hk1 hk2
  rw[made_ten _ _ hk2]
  simp only[zjj,if_neg (show ¬k/10<n by omega)]
 case d4=>intro k;rfl
 intro w2 hg2 hs2 hl2
 have s2:zaj base own1 (fun t=>t≠(5,((xs 8).length:Int))) w1 own1 w2:=⟨by omega,fun _ _=>rfl,fun q hq _ ht=>hg2.block q hq (by intro e;simp only[Option.some.injEq] at e;rw[e] at ht;exact ht HL1.o.2)⟩
 have HW2:=zl (HW1.o.stays s2 (by simp) (by simp) (by simp) (by simp) (by simp) (by intro q hq;simp;omega) (by simp))
 have HO2:Hid (OpAt w2 O kind a N c al n cl bb/\own1 O=(9,0)/\base<=O):=⟨(HO1.o.1.stays s2 HO1.o.2.2 HO1.o.2.1 (by simp)).1,HO1.o.2⟩
 have HL2:=zl2 hl2 HL1.o.2
 have HB2:Hid (Below w.heap.size w w2):=HB1.o.trans ⟨hg2.os,hg2.tape,hg2.output,by omega,fun k hk=>hg2.block k (lll hk HB1.o.size) (by simp;omega)⟩
 clear hg2 hs2 hl2 s2 HW1 HO1 HL1 HB1 c2
 go_wp2_with fail
 refine Encode_res _ n (n+1) es w2 _ (zcq.below HLA.o HB2.o nr) hn (lent_events HL2.o.1) HXB.o ?_
 intro L e p v w3 hd hb3 hv3
 have hbase2:base<=w2.heap.size:=llt hbase HB2.o.size
 obtain ⟨s3,l3,t3⟩:=adopt (own:=own1) (t:=(2,((many+1:Nat):Int))) hb3 hv3 hbase2
 obtain ⟨own3,hown3⟩:=xq (za9 own1 w2 v (2,((many+1:Nat):Int)))
 rw[←hown3] at s3 t3
 have HW3:=zl (HW2.o.all s3)
 have HO3:Hid (OpAt w3 O kind a N c al n cl bb/\own3 O=(9,0)/\base<=O):=by obtain ⟨q1,q2⟩:=HO2.o.1.stays s3 HO2.o.2.2 HO2.o.2.1 trivial;exact⟨q1,q2,HO2.o.2.2⟩
 have HL3:Hid (w3.ownsRow base 42 10 (.slice (some ⟨g,0,none⟩) (n+1) (n+1)) (n+1) (told (zjj es n) ((n+1) * 10))/\own3 g=(5,((xs 8).length:Int))):=by
  obtain ⟨q1,q2⟩:=zaq (tag:=(5,((xs 8).length:Int))) HL2.o.1 (fun q hq=>by simp[Value.ownBlock] at hq;rw[←hq];exact HL2.o.2) s3 trivial
  exact⟨q1,q2 g rfl⟩
 have HV3:=zl2 l3 t3
 have HB3:Hid (Below w.heap.size w w3):=HB2.o.trans (hb3.mono HB2.o.size)
 have HD:=zl hd
 have HT3:Hid (∀g,g<w.heap.size->own3 g=own g):=fun g hg=>(s3.tag g (lll hg HB2.o.size)).trans (HT1.o g hg)
 obtain ⟨av,cv,rfl⟩:=zar hv3
 have c2:=HO3.o.1.cell2
 clear hb3 hv3 s3 l3 t3 hown3 HW2 HO2 HL2 HB2 hbase2 hd
 go_wp2_with fail
 refine refEncode_res _ n cl es w3 _ hn (HX.o.ext HB3.o) ?_
 intro L' e' p' v' w4 hd hb4 hv4
 obtain ⟨rfl,rfl,rfl⟩:=ERes.unique HD.o hd
 obtain ⟨av',cv',rfl⟩:=zar hv4
 have HW4:=zl (HW3.o.ext hb4)
 have HO4:=zl2 (HO3.o.1.ext hb4) HO3.o.2
 have HL4:Hid (w4.ownsRow base 42 10 (.slice (some ⟨g,0,none⟩) (n+1) (n+1)) (n+1) (told (zjj es n) ((n+1) * 10))/\own3 g=(5,((xs 8).length:Int))):=⟨(zaq HL3.o.1 (tag:=own3 g) (fun q hq=>by simp[Value.ownBlock] at hq;rw[←hq]) (zaj.of_below hb4) trivial).1,HL3.o.2⟩
 have HV4:Hid (w4.ownsRow base 5 1 (.slice av L.length cv) L.length (L.map bv)/\ ∀g,(Value.slice av L.length cv).ownBlock=some g->own3 g=(2,((many+1:Nat):Int))):=zaq HV3.o.1 HV3.o.2 (zaj.of_below hb4) trivial
 have HB4:Hid (Below w.heap.size w w4):=HB3.o.trans (hb4.mono HB3.o.size)
 have HV4':=zl hv4
 have hLn:=HD.o.len
 clear hb4 hv4 hd c2 HW3 HO3 HL3 HB3 HV3
 go_wp2_with fail
 have hcb: ∀{w':World} {bs':Nat} {q:Option Addr} {cq:Nat},w'.ownsRow bs' 5 1 (.slice q L.length cq) L.length (L.map bv)-> ∀i,i<L.length-> ∃b o,q=some ⟨b,o,none⟩/\w'.cell? ⟨b,o+i,none⟩=some (.int .u8 (L.getD i 0)):=by
  intro w' bs' q cq h i hi
  obtain ⟨g',cap',q1,_,_,_,hc,_⟩:=zan h i (bv (L.getD i 0)) (by simp[hi])
  simp only[Value.slice.injEq] at q1
  exact⟨g',0,q1.1,by rw[Nat.zero_add];exact hc⟩
 refine zfn _ _ _ _ _ _ (fun i=>L.getD i 0) (fun i=>L.getD i 0) _ _ (by omega) (by omega) (hcb HV4.o.1) (hcb HV4'.o) ?_
 intro w5 hb5
 have hdec:decide (L.length=L.length/\ ∀i,i<L.length->L.getD i 0=L.getD i 0)=true:=by simp
 rw[hdec]
 have HW5:=zl (HW4.o.ext hb5)
 have HO5:=zl2 (HO4.o.1.ext hb5) HO4.o.2
 have HL5:Hid (w5.ownsRow base 42 10 (.slice (some ⟨g,0,none⟩) (n+1) (n+1)) (n+1) (told (zjj es n) ((n+1) * 10))/\own3 g=(5,((xs 8).length:Int))):=⟨(zaq HL4.o.1 (tag:=own3 g) (fun q hq=>by simp[Value.ownBlock] at hq;rw[←hq]) (zaj.of_below hb5) trivial).1,HL4.o.2⟩
 have HV5:Hid (w5.ownsRow base 5 1 (.slice av L.length cv) L.length (L.map bv)/\ ∀g,(Value.slice av L.length cv).ownBlock=some g->own3 g=(2,((many+1:Nat):Int))):=zaq HV4.o.1 HV4.o.2 (zaj.of_below hb5) trivial
 have HB5:Hid (Below w.heap.size w w5):=HB4.o.trans (hb5.mono HB4.o.size)
 have he:(e !=e)=false:=by simp
 have hp:((p:Int) !=(p:Int))=false:=by simp
 clear hb5 hdec hcb HW4 HO4 HL4 HB4 HV4 HV4'
 go_wp2_with fail
 clear he hp
 go_loopw [14,15,16] (fun t _ _ wr=> ∃(i:Nat) (zs:List Value),i<=n+1/\t= .int .i64 i/\wr.ownsRow base 42 10 (.slice (some ⟨g,0,none⟩) (n+1) (n+1)) (n+1) zs/\(∀k,k<i * 10->zs[k]?=some (zg8 (-7) k))/\(∀k,i * 10<=k->k<(n+1) * 10->zs[k]?=some (zjj es n k))/\zaj base own3 (fun t=>t≠(5,((xs 8).length:Int))) w5 own3 wr/\Below w.heap.size w5 wr) (fun t _ _ _=>n+1-(intOf t).toNat)
 case atStart=>exact⟨0,_,Nat.zero_le _,rfl,HL5.o.1,fun k hk=>absurd hk (by omega),fun k _ hk=>zdb _ _ _ hk,⟨nr,fun _ _=>rfl,fun _ _ _ _=>rfl⟩,br⟩
 case round=>
  obtain ⟨i,zs,hi,rfl,ho,hk,hke,hs,hb⟩:=hrel
  by_cases hlt:i<n+1
  .have hyl:zs.length=(n+1) * 10:=ho.1
   have d1: ∀j,j<10->wr.cell? ⟨g,i * 10+j,none⟩=some (.int .i64 (if i<n then es i j else 0))/\wr.frozen? ⟨g,i * 10+j,none⟩=false:=by
    intro j hj
    have h1:=hke (i * 10+j) (by omega) (by omega)
    simp only[zjj] at h1
    rw[show (i * 10+j)/10=i by omega,show (i * 10+j)%10=j by omega] at h1
    obtain ⟨g',cap',q1,_,_,_,hc,hf⟩:=zan ho (i * 10+j) _ h1
    simp only[Value.slice.injEq,Option.some.injEq,Addr.mk.injEq,and_true] at q1
    obtain ⟨rfl,-⟩:=q1
    exact⟨hc,hf⟩
   have HH:=zl5 ho hk hke hs hb
   have c2:=(HO5.o.1.stays hs HO5.o.2.2 HO5.o.2.1 (by simp)).1.cell2
   have HEV:Hid (ze1 wr al n es):=HX.o.below (HB5.o.trans hb) nr
   clear ho hk hke hs hb
   by_cases hin:i<n
   .simp only[if_pos hin] at d1
    obtain ⟨b,o,rfl,h2⟩:=HEV.o i hin
    have v0:=h2 0 (by decide)
    rw[Nat.add_zero] at v0
    have v1:=h2 1 (by decide)
    have v2:=h2 2 (by decide)
    have v3:=h2 3 (by decide)
    have v4:=h2 4 (by decide)
    have v5:=h2 5 (by decide)
    have v6:=h2 6 (by decide)
    have v7:=h2 7 (by decide)
    have v8:=h2 8 (by decide)
    have v9:=h2 9 (by decide)
    clear h2
    have HD1:=zl d1
    have hOl:=zab c2
    have hbl:=zab v0
    have hgl:=zab (d1 0 (by decide)).1
    clear d1
    go_wp2_with fail
    obtain ⟨wq,hwq⟩:=xq (wr.alloc (.cells #[.int .i64 (es i 0),.int .i64 (es i 1),.int .i64 (es i 2),.int .i64 (es i 3),.int .i64 (es i 4),.int .i64 (es i 5),.int .i64 (es i 6),.int .i64 (es i 7),.int .i64 (es i 8),.int .i64 (es i 9)] 42))
    obtain ⟨Wb,hWb⟩:=xq wr.heap.size
    rw[←hwq,←hWb]
    have hbq:Below wr.heap.size wr wq:=by rw[hwq];exact br.alloc nr _
    have hW6: ∀j,j<10->wq.cell? ⟨Wb,j,none⟩=some (.int .i64 ((es i) j)):=by
     intro j hj
     rw[hwq,hWb,cell_of_row _ _ j _ _ (0,0) (heap_alloc_new wr _)]
     rcases (show j=0\/j=1\/j=2\/j=3\/j=4\/j=5\/j=6\/j=7\/j=8\/j=9 by omega) with rfl|rfl|rfl|rfl|rfl|rfl|rfl|rfl|rfl|rfl<;>rfl
    have d0:=(hbq.cell (p:=⟨g,i * 10+0,none⟩) (zab (HD1.o 0 (by decide)).1)).trans (HD1.o 0 (by decide)).1
    have d1:=(hbq.cell (p:=⟨g,i * 10+1,none⟩) (zab (HD1.o 1 (by decide)).1)).trans (HD1.o 1 (by decide)).1
    have d2:=(hbq.cell (p:=⟨g,i * 10+2,none⟩) (zab (HD1.o 2 (by decide)).1)).trans (HD1.o 2 (by decide)).1
    have d3:=(hbq.cell (p:=⟨g,i * 10+3,none⟩) (zab (HD1.o 3 (by decide)).1)).trans (HD1.o 3 (by decide)).1
    have d4:=(hbq.cell (p:=⟨g,i * 10+4,none⟩) (zab (HD1.o 4 (by decide)).1)).trans (HD1.o 4 (by decide)).1
    have d5:=(hbq.cell (p:=⟨g,i * 10+5,none⟩) (zab (HD1.o 5 (by decide)).1)).trans (HD1.o 5 (by decide)).1
    have d6:=(hbq.cell (p:=⟨g,i * 10+6,none⟩) (zab (HD1.o 6 (by decide)).1)).trans (HD1.o 6 (by decide)).1
    have d7:=(hbq.cell (p:=⟨g,i * 10+7,none⟩) (zab (HD1.o 7 (by decide)).1)).trans (HD1.o 7 (by decide)).1
    have d8:=(hbq.cell (p:=⟨g,i * 10+8,none⟩) (zab (HD1.o 8 (by decide)).1)).trans (HD1.o 8 (by decide)).1
    have d9:=(hbq.cell (p:=⟨g,i * 10+9,none⟩) (zab (HD1.o 9 (by decide)).1)).trans (HD1.o 9 (by decide)).1
    rw[Nat.add_zero] at d0
    have hst:ze5 (es i) (es i)=true:=(zgj _ _).2 fun _ _=>rfl
    have KW: ∀{w1:World} (_:Below wq.heap.size wq w1) (x:Addr) (v:Value),wq.cell? x=some v->w1.cell? x=some v:=fun {w1} h x v hx=>(h.cell (World.block_lt_of_cell? wq x hx)).trans hx
    have w60:=hW6 0 (by decide)
    have w61:=hW6 1 (by decide)
    have w62:=hW6 2 (by decide)
    have w63:=hW6 3 (by decide)
    have w64:=hW6 4 (by decide)
    have w65:=hW6 5 (by decide)
    have w66:=hW6 6 (by decide)
    have w67:=hW6 7 (by decide)
    have w68:=hW6 8 (by decide)
    have w69:=hW6 9 (by decide)
    have hi0:(0:Int)<=(i:Int):=by omega
    have hi1:(i:Int)<(n:Int)+1:=by omega
    clear v0 v1 v2 v3 v4 v5 v6 v7 v8 v9 c2 hOl hbl hgl hwq hWb
    go_region_held3 (fun w'=>w'.cell? ⟨g,i * 10,none⟩=some (.int .i64 (es i 0))/\w'.cell? ⟨g,i * 10+1,none⟩=some (.int .i64 (es i 1))/\w'.cell? ⟨g,i * 10+2,none⟩=some (.int .i64 (es i 2))/\w'.cell? ⟨g,i * 10+3,none⟩=some (.int .i64 (es i 3))/\w'.cell? ⟨g,i * 10+4,none⟩=some (.int .i64 (es i 4))/\w'.cell? ⟨g,i * 10+5,none⟩=some (.int .i64 (es i 5))/\w'.cell? ⟨g,i * 10+6,none⟩=some (.int .i64 (es i 6))/\w'.cell? ⟨g,i * 10+7,none⟩=some (.int .i64 (es i 7))/\w'.cell? ⟨g,i * 10+8,none⟩=some (.int .i64 (es i 8))/\w'.cell? ⟨g,i * 10+9,none⟩=some (.int .i64 (es i 9))/\w'.cell? ⟨Wb,0,none⟩=some (.int .i64 (es i 0))/\w'.cell? ⟨Wb,1,none⟩=some (.int .i64 (es i 1))/\w'.cell? ⟨Wb,2,none⟩=some (.int .i64 (es i 2))/\w'.cell? ⟨Wb,3,none⟩=some (.int .i64 (es i 3))/\w'.cell? ⟨Wb,4,none⟩=some (.int .i64 (es i 4))/\w'.cell? ⟨Wb,5,none⟩=some (.int .i64 (es i 5))/\w'.cell? ⟨Wb,6,none⟩=some (.int .i64 (es i 6))/\w'.cell? ⟨Wb,7,none⟩=some (.int .i64 (es i 7))/\w'.cell? ⟨Wb,8,none⟩=some (.int .i64 (es i 8))/\w'.cell? ⟨Wb,9,none⟩=some (.int .i64 (es i 9))) (first|go_keep|exact⟨KW hb6 _ _ d0,KW hb6 _ _ d1,KW hb6 _ _ d2,KW hb6 _ _ d3,KW hb6 _ _ d4,KW hb6 _ _ d5,KW hb6 _ _ d6,KW hb6 _ _ d7,KW hb6 _ _ d8,KW hb6 _ _ d9,KW hb6 _ _ (hW6 0 (by decide)),KW hb6 _ _ (hW6 1 (by decide)),KW hb6 _ _ (hW6 2 (by decide)),KW hb6 _ _ (hW6 3 (by decide)),KW hb6 _ _ (hW6 4 (by decide)),KW hb6 _ _ (hW6 5 (by decide)),KW hb6 _ _ (hW6 6 (by decide)),KW hb6 _ _ (hW6 7 (by decide)),KW hb6 _ _ (hW6 8 (by decide)),KW hb6 _ _ (hW6 9 (by decide))⟩) (first|(go_at_call 42;refine zdk (es i) (es i) _ _ (by rfl) (by rfl) _ _ ?_;intro w6 hb6';have hb6:Below wq.heap.size wq w6:=Below.trans (br.drew) hb6';rw[hst]))
    have HB6:Hid (Below wr.heap.size wr w6):=hbq.trans (hb6.mono hbq.size)
    have hE: ∀j,j<10-> ∃u,w6.cell? ⟨g,i * 10+j,none⟩=some u/\w6.frozen? ⟨g,i * 10+j,none⟩=false:=fun j hj=>⟨_,(HB6.o.cell (p:=⟨g,i * 10+j,none⟩) (zab (HD1.o j hj).1)).trans (HD1.o j hj).1,(HB6.o.frozen (p:=⟨g,i * 10+j,none⟩) (zab (HD1.o j hj).1)).trans (HD1.o j hj).2⟩
    clear hb6 hb6' hbq d0 d1 d2 d3 d4 d5 d6 d7 d8 d9 w60 w61 w62 w63 w64 w65 w66 w67 w68 w69 KW hst hW6
    obtain ⟨y0,a0,b0⟩:=hE 0 (by decide)
    obtain ⟨y1,a1,b1⟩:=hE 1 (by decide)
    obtain ⟨y2,a2,b2⟩:=hE 2 (by decide)
    obtain ⟨y3,a3,b3⟩:=hE 3 (by decide)
    obtain ⟨y4,a4,b4⟩:=hE 4 (by decide)
    obtain ⟨y5,a5,b5⟩:=hE 5 (by decide)
    obtain ⟨y6,a6,b6⟩:=hE 6 (by decide)
    obtain ⟨y7,a7,b7⟩:=hE 7 (by decide)
    obtain ⟨y8,a8,b8⟩:=hE 8 (by decide)
    obtain ⟨y9,a9,b9⟩:=hE 9 (by decide)
    rw[Nat.add_zero] at a0 b0
    have HE:Hid (∃zs',(zjf w6 g (i * 10) (-7)).ownsRow base 42 10 (.slice (some ⟨g,0,none⟩) (n+1) (n+1)) (n+1) zs'/\(∀k,k<(i+1) * 10->zs'[k]?=some (zg8 (-7) k))/\(∀k,(i+1) * 10<=k->k<(n+1) * 10->zs'[k]?=some (zjj es n k))/\zaj base own3 (fun t=>t≠(5,((xs 8).length:Int))) w5 own3 (zjf w6 g (i * 10) (-7))/\Below w.heap.size w5 (zjf w6 g (i * 10) (-7))):=by
     obtain ⟨q1,q2,q3,q4,q5⟩:=HH.o
     have q1':=(zaq (tag:=own3 g) q1 (fun q hq=>by simp[Value.ownBlock] at hq;rw[←hq]) (zaj.of_below (own:=own3) HB6.o) trivial).1
     have q4':=q4.trans ((zaj.of_below (base:=base) (own:=own3) HB6.o).mono fun _ _=>trivial)
     have q5':=q5.trans (HB6.o.mono (llt HB5.o.size q5.size))
     obtain ⟨zs',r1,r2,r3,r4,r5⟩:=paint10 q1' hlt q2 q4' HL5.o.2 q5' hgw
     exact⟨zs',r1,r2,fun k hk1 hk2=>(r5 k hk1).trans (q3 k (by omega) hk2),r3,r4⟩
    clear hE HH
    go_wp2_with fail
    go_roundw
    case rel=>
     obtain ⟨zs',r1,r2,r3,r4,r5⟩:=HE.o
     exact⟨i+1,zs',by omega,by go_num,r1,r2,r3,r4,r5⟩
    case measure=>simp only[intOf];omega
   .simp only[if_neg hin] at d1
    have HD1:=zl d1
    have hOl:=zab c2
    have hgl:=zab (d1 0 (by decide)).1
    clear d1
    go_wp2_with fail
    obtain ⟨wq,hwq⟩:=xq (wr.alloc (.cells #[.int .i64 (0),.int .i64 (0),.int .i64 (0),.int .i64 (0),.int .i64 (0),.int .i64 (0),.int .i64 (0),.int .i64 (0),.int .i64 (0),.int .i64 (0)] 42))
    obtain ⟨Wb,hWb⟩:=xq wr.heap.size
    rw[←hwq,←hWb]
    have hbq:Below wr.heap.size wr wq:=by rw[hwq];exact br.alloc nr _
    have hW6: ∀j,j<10->wq.cell? ⟨Wb,j,none⟩=some (.int .i64 ((fun _=>(0:Int)) j)):=by
     intro j hj
     rw[hwq,hWb,cell_of_row _ _ j _ _ (0,0) (heap_alloc_new wr _)]
     rcases (show j=0\/j=1\/j=2\/j=3\/j=4\/j=5\/j=6\/j=7\/j=8\/j=9 by omega) with rfl|rfl|rfl|rfl|rfl|rfl|rfl|rfl|rfl|rfl<;>rfl
    have d0:=(hbq.cell (p:=⟨g,i * 10+0,none⟩) (zab (HD1.o 0 (by decide)).1)).trans (HD1.o 0 (by decide)).1
    have d1:=(hbq.cell (p:=⟨g,i * 10+1,none⟩) (zab (HD1.o 1 (by decide)).1)).trans (HD1.o 1 (by decide)).1
    have d2:=(hbq.cell (p:=⟨g,i * 10+2,none⟩) (zab (HD1.o 2 (by decide)).1)).trans (HD1.o 2 (by decide)).1
    have d3:=(hbq.cell (p:=⟨g,i * 10+3,none⟩) (zab (HD1.o 3 (by decide)).1)).trans (HD1.o 3 (by decide)).1
    have d4:=(hbq.cell (p:=⟨g,i * 10+4,none⟩) (zab (HD1.o 4 (by decide)).1)).trans (HD1.o 4 (by decide)).1
    have d5:=(hbq.cell (p:=⟨g,i * 10+5,none⟩) (zab (HD1.o 5 (by decide)).1)).trans (HD1.o 5 (by decide)).1
    have d6:=(hbq.cell (p:=⟨g,i * 10+6,none⟩) (zab (HD1.o 6 (by decide)).1)).trans (HD1.o 6 (by decide)).1
    have d7:=(hbq.cell (p:=⟨g,i * 10+7,none⟩) (zab (HD1.o 7 (by decide)).1)).trans (HD1.o 7 (by decide)).1
    have d8:=(hbq.cell (p:=⟨g,i * 10+8,none⟩) (zab (HD1.o 8 (by decide)).1)).trans (HD1.o 8 (by decide)).1
    have d9:=(hbq.cell (p:=⟨g,i * 10+9,none⟩) (zab (HD1.o 9 (by decide)).1)).trans (HD1.o 9 (by decide)).1
    rw[Nat.add_zero] at d0
    have hst:ze5 (fun _=>(0:Int)) (fun _=>(0:Int))=true:=(zgj _ _).2 fun _ _=>rfl
    have KW: ∀{w1:World} (_:Below wq.heap.size wq w1) (x:Addr) (v:Value),wq.cell? x=some v->w1.cell? x=some v:=fun {w1} h x v hx=>(h.cell (World.block_lt_of_cell? wq x hx)).trans hx
    have w60:=hW6 0 (by decide)
    have w61:=hW6 1 (by decide)
    have w62:=hW6 2 (by decide)
    have w63:=hW6 3 (by decide)
    have w64:=hW6 4 (by decide)
    have w65:=hW6 5 (by decide)
    have w66:=hW6 6 (by decide)
    have w67:=hW6 7 (by decide)
    have w68:=hW6 8 (by decide)
    have w69:=hW6 9 (by decide)
    have hi0:(0:Int)<=(i:Int):=by omega
    have hi1:(i:Int)<(n:Int)+1:=by omega
    clear c2 hOl hgl hwq hWb
    go_region_held3 (fun w'=>w'.cell? ⟨g,i * 10,none⟩=some (.int .i64 (0))/\w'.cell? ⟨g,i * 10+1,none⟩=some (.int .i64 (0))/\w'.cell? ⟨g,i * 10+2,none⟩=some (.int .i64 (0))/\w'.cell? ⟨g,i * 10+3,none⟩=some (.int .i64 (0))/\w'.cell? ⟨g,i * 10+4,none⟩=some (.int .i64 (0))/\w'.cell? ⟨g,i * 10+5,none⟩=some (.int .i64 (0))/\w'.cell? ⟨g,i * 10+6,none⟩=some (.int .i64 (0))/\w'.cell? ⟨g,i * 10+7,none⟩=some (.int .i64 (0))/\w'.cell? ⟨g,i * 10+8,none⟩=some (.int .i64 (0))/\w'.cell? ⟨g,i * 10+9,none⟩=some (.int .i64 (0))/\w'.cell? ⟨Wb,0,none⟩=some (.int .i64 (0))/\w'.cell? ⟨Wb,1,none⟩=some (.int .i64 (0))/\w'.cell? ⟨Wb,2,none⟩=some (.int .i64 (0))/\w'.cell? ⟨Wb,3,none⟩=some (.int .i64 (0))/\w'.cell? ⟨Wb,4,none⟩=some (.int .i64 (0))/\w'.cell? ⟨Wb,5,none⟩=some (.int .i64 (0))/\w'.cell? ⟨Wb,6,none⟩=some (.int .i64 (0))/\w'.cell? ⟨Wb,7,none⟩=some (.int .i64 (0))/\w'.cell? ⟨Wb,8,none⟩=some (.int .i64 (0))/\w'.cell? ⟨Wb,9,none⟩=some (.int .i64 (0))) (first|go_keep|exact⟨KW hb6 _ _ d0,KW hb6 _ _ d1,KW hb6 _ _ d2,KW hb6 _ _ d3,KW hb6 _ _ d4,KW hb6 _ _ d5,KW hb6 _ _ d6,KW hb6 _ _ d7,KW hb6 _ _ d8,KW hb6 _ _ d9,KW hb6 _ _ (hW6 0 (by decide)),KW hb6 _ _ (hW6 1 (by decide)),KW hb6 _ _ (hW6 2 (by decide)),KW hb6 _ _ (hW6 3 (by decide)),KW hb6 _ _ (hW6 4 (by decide)),KW hb6 _ _ (hW6 5 (by decide)),KW hb6 _ _ (hW6 6 (by decide)),KW hb6 _ _ (hW6 7 (by decide)),KW hb6 _ _ (hW6 8 (by decide)),KW hb6 _ _ (hW6 9 (by decide))⟩) (first|(go_at_call 42;refine zdk (fun _=>(0:Int)) (fun _=>(0:Int)) _ _ (by rfl) (by rfl) _ _ ?_;intro w6 hb6';have hb6:Below wq.heap.size wq w6:=Below.trans (br.drew) hb6';rw[hst]))
    have HB6:Hid (Below wr.heap.size wr w6):=hbq.trans (hb6.mono hbq.size)
    have hE: ∀j,j<10-> ∃u,w6.cell? ⟨g,i * 10+j,none⟩=some u/\w6.frozen? ⟨g,i * 10+j,none⟩=false:=fun j hj=>⟨_,(HB6.o.cell (p:=⟨g,i * 10+j,none⟩) (zab (HD1.o j hj).1)).trans (HD1.o j hj).1,(HB6.o.frozen (p:=⟨g,i * 10+j,none⟩) (zab (HD1.o j hj).1)).trans (HD1.o j hj).2⟩
    clear hb6 hb6' hbq d0 d1 d2 d3 d4 d5 d6 d7 d8 d9 w60 w61 w62 w63 w64 w65 w66 w67 w68 w69 KW hst hW6
    obtain ⟨y0,a0,b0⟩:=hE 0 (by decide)
    obtain ⟨y1,a1,b1⟩:=hE 1 (by decide)
    obtain ⟨y2,a2,b2⟩:=hE 2 (by decide)
    obtain ⟨y3,a3,b3⟩:=hE 3 (by decide)
    obtain ⟨y4,a4,b4⟩:=hE 4 (by decide)
    obtain ⟨y5,a5,b5⟩:=hE 5 (by decide)
    obtain ⟨y6,a6,b6⟩:=hE 6 (by decide)
    obtain ⟨y7,a7,b7⟩:=hE 7 (by decide)
    obtain ⟨y8,a8,b8⟩:=hE 8 (by decide)
    obtain ⟨y9,a9,b9⟩:=hE 9 (by decide)
    rw[Nat.add_zero] at a0 b0
    have HE:Hid (∃zs',(zjf w6 g (i * 10) (-7)).ownsRow base 42 10 (.slice (some ⟨g,0,none⟩) (n+1) (n+1)) (n+1) zs'/\(∀k,k<(i+1) * 10->zs'[k]?=some (zg8 (-7) k))/\(∀k,(i+1) * 10<=k->k<(n+1) * 10->zs'[k]?=some (zjj es n k))/\zaj base own3 (fun t=>t≠(5,((xs 8).length:Int))) w5 own3 (zjf w6 g (i * 10) (-7))/\Below w.heap.size w5 (zjf w6 g (i * 10) (-7))):=by
     obtain ⟨q1,q2,q3,q4,q5⟩:=HH.o
     have q1':=(zaq (tag:=own3 g) q1 (fun q hq=>by simp[Value.ownBlock] at hq;rw[←hq]) (zaj.of_below (own:=own3) HB6.o) trivial).1
     have q4':=q4.trans ((zaj.of_below (base:=base) (own:=own3) HB6.o).mono fun _ _=>trivial)
     have q5':=q5.trans (HB6.o.mono (llt HB5.o.size q5.size))
     obtain ⟨zs',r1,r2,r3,r4,r5⟩:=paint10 q1' hlt q2 q4' HL5.o.2 q5' hgw
     exact⟨zs',r1,r2,fun k hk1 hk2=>(r5 k hk1).trans (q3 k (by omega) hk2),r3,r4⟩
    clear hE HH
    go_wp2_with fail
    go_roundw
    case rel=>
     obtain ⟨zs',r1,r2,r3,r4,r5⟩:=HE.o
     exact⟨i+1,zs',by omega,by go_num,r1,r2,r3,r4,r5⟩
    case measure=>simp only[intOf];omega
  .have hi':i=n+1:=by omega
   subst hi'
   have HO:Hid (wr.ownsRow base 42 10 (.slice (some ⟨g,0,none⟩) (n+1) (n+1)) (n+1) (told (zg8 (-7)) ((n+1) * 10))):=by
    rw[←zfk ho.1 hk]
    exact ho
   have HWr:=zl (HW5.o.stays hs (by simp) (by simp) (by simp) (by simp) (by simp) (by intro q hq;simp;omega) (by simp))
   have HVr:Hid (wr.ownsRow base 5 1 (.slice av L.length cv) L.length (L.map bv)/\ ∀g,(Value.slice av L.length cv).ownBlock=some g->own3 g=(2,((many+1:Nat):Int))):=zaq HV5.o.1 HV5.o.2 hs (by simp)
   have HBr:Hid (Below base w wr):=(HB5.o.trans hb).mono hbase
   have HSr:Hid (zaj base own MT w own3 wr):=zaj.trans (o2:=own3) (b:=w5) ⟨HB5.o.size,HT3.o,fun g hg _ _=>HB5.o.block g hg⟩ (hs.mono (by rintro ⟨q1,q2⟩ q;unfold MT at q;simp only[ne_eq,Prod.mk.injEq];omega))
   have c8:=HWr.o.wj.cell 8 (by decide)
   have r8:=HWr.o.wj.rows 8 (by simp[zb2])
   have hsz:base<=wr.heap.size:=by have:=zak HWr.o.wj.blk;have:=HWr.o.wj.hB;omega
   have h67:(xs 8).length+1<=1073741824:=by have:=H7.o.1;have:=HWr.o.hZ;omega
   obtain ⟨a8,k8,e8⟩:=zar r8
   have F8:=zl e8
   rw[e8] at c8 r8
   have R8:=zl r8
   clear ho hk hke hs hb r8 e8
   obtain ⟨wa,hwa⟩:=xq wr
   subst hwa
   go_wp2_with (at_builtin;go_must (refine za7 base 1 24 (xs 8).length _ (xs 8) _ R8.out hsz Tryz.infoEvents rfl (by decide) rfl ?c2 ?c3 (by decide) _ _ 28 Tryz.underlying28 rfl rfl rfl rfl ?_))
   case c2=>simp[Value.oneCell']
   case c3=>exact h67
   intro v1 w6 hG
   obtain ⟨a1,k1,rfl⟩:=zar hG.own
   have HG2:Hid (Grew base (ty 8) 1 wa (f 8) w6 (.slice a1 ((xs 8).length+1) k1) ((xs 8).length+1) (xs 8++[.slice (some ⟨g,0,none⟩) (n+1) (n+1)])):=by rw[F8.out];exact hG
   clear hG c8
   obtain ⟨hc,hz,hbb⟩:=HWr.o.wj.grew 8 (by simp[zb2]) HG2.o
   have c8:w6.cell? ⟨B,8,none⟩=some (f 8):=(hc 8).trans (HWr.o.wj.cell 8 (by decide))
   have z8:=hz 8
   obtain ⟨hw7,hs7⟩:=HWr.o.push8 H7.o.1 HG2.o (EntN.own HO.o (fun q hq=>by simp[Value.ownBlock] at hq;rw[←hq];exact HL5.o.2) (by omega)).1
   have HW7:=zl hw7
   have HV7:Hid ((w6.setCell ⟨B,8,none⟩ (.slice a1 ((xs 8).length+1) k1)).ownsRow base 5 1 (.slice av L.length cv) L.length (L.map bv)/\ ∀g,(Value.slice av L.length cv).ownBlock=some g->za9 own3 wa (.slice a1 ((xs 8).length+1) k1) (1,8) g=(2,((many+1:Nat):Int))):=zaq HVr.o.1 HVr.o.2 hs7 (by simp)
   have HB7:=zl (HBr.o.trans hbb)
   have HS7:Hid (zaj base own MT w (za9 own3 wa (.slice a1 ((xs 8).length+1) k1) (1,8)) (w6.setCell ⟨B,8,none⟩ (.slice a1 ((xs 8).length+1) k1))):=HSr.o.trans (hs7.mono (by rintro ⟨q1,q2⟩ q;unfold MT at q;simp only[ne_eq,Prod.mk.injEq];omega))
   clear hc hz hbb hw7 hs7
   go_wp2_with fail
   clear c8 z8
   obtain ⟨w7,hw7⟩:=xq (w6.setCell ⟨B,8,none⟩ (.slice a1 ((xs 8).length+1) k1))
   rw[←hw7] at HW7 HV7 HB7 HS7 ⊢
   refine zku HW7.o ?_
   intro w8 hb8
   have HW8:=HW7.o.ext hb8
   obtain ⟨v8,t8⟩:=zaq HV7.o.1 HV7.o.2 (zaj.of_below hb8) trivial
   have HB8:Hid (Below base w w8):=HB7.o.trans (hb8.mono (by have:=HB7.o.size;omega))
   have HK8:Hid (∀(R':EW),(∀own' f' xs' ms' w',WK Z base B own' w' f' xs' ms' em last (many+1)->(xs' 1).length=(xs 1).length+4->(xs' 5).length=(xs 5).length->(xs' 7).length=(xs 7).length->(xs' 8).length=(xs 8).length+1->xs' 0=xs 0->Below base w8 w'->zaj base own MT w own' w'->R' (.returned (.tuple #[])) w')->Calls Tryz.prog 73 #[.pointer (some ⟨B,0,none⟩),.slice av L.length cv] w8 R'):=by
    intro R' hR'
    refine zkv HW8 (by simpa using H7.o.2.1) H7.o.2.2 (by omega) v8 t8 ?_
    intro own' f' xs' ms' w' q1 q2 q3 q4 q5
    exact hR' own' f' xs' ms' w' q1 (by simpa using q3) (by rw[q2 5 (by decide) (by decide)];simp) (by rw[q2 7 (by decide) (by decide)];simp) (by rw[q2 8 (by decide) (by decide)];simp) (by rw[q2 0 (by decide) (by decide)];simp) q4 ((HS7.o.trans ((zaj.of_below hb8).mono fun _ _=>trivial)).trans q5)
   clear hb8 HW8 v8 t8 hw7
   go_wp2_with fail
   refine HK8.o _ ?_
   intro own9 f9 xs9 ms9 w9 q1 q2 q3 q4 q5 q55 q6 q7
   have hfin:=zl (HR.o own9 f9 xs9 ms9 w9 q1 q2 q3 q4 q5 q55 (HB8.o.trans q6) q7)
   clear q1 q2 q3 q4 q5 q55 q6 q7
   go_wp2_with fail
   exact hfin.o
end
section
variable {bb:Bool} {R:EW} {last:Int} {em:List Int} {ms:List Nat} {B N Z base c cl many:Nat} {xs:Nat->List Value} {own:Nat->Nat×Int} {f:Nat->Value} {a al sp:Option Addr} {w:World}
theorem step_d {X:Nat->Int}{nl:Nat}
  (hW:WK Z base B own w f xs ms em last many)(h7:(xs 7).length+1<=Z)(h5:(xs 5).length+4<=4 * Z)(hm: -(Z:Int)<=last-1)(hL:zcq w)(hN:N<=1048576)(hx:BsAt w a N X)(hxb: ∀i,i<N->0<=X i/\X i<=255)
  (hR: ∀own' f' xs' em' w',WK Z base B own' w' f' xs' ms em' (last-1) many->(xs' 1).length=(xs 1).length->(xs' 5).length=(xs 5).length+4->(xs' 7).length=(xs 7).length+1->(xs' 8).length=(xs 8).length->xs' 0=xs 0->Below base w w'->zaj base own MT w own' w'->R (.returned (.bool true)) w'):
  Calls Tryz.prog 13 #[.pointer (some ⟨B,0,none⟩),.pointer sp,opv 5 a N c al nl cl bb] w R:=by
 have hbase:base<=w.heap.size:=by have:=zak hW.wj.blk;have:=hW.wj.hB;omega
 have HC:Hid (∀(R':EW) w0,Below w.heap.size w w0->(∀w',R (.returned (.bool true)) w'->R' (.returned (.bool true)) w')->Calls Tryz.prog 39 #[.pointer (some ⟨B,0,none⟩),.agg #[.int .i64 5,.slice a N c,.slice al nl cl,.bool bb]] w0 R'):=by
  intro R' w0 hb hR'
  refine decodes_w (hW.ext hb) h7 h5 hm (zcq.below hL hb nr) hN (BsAt.ext hx hb) hxb ?_
  intro own' f' xs' em' w' q1 q2 q3 q4 q5 q55 q6 q7
  exact hR' w' (hR own' f' xs' em' w' q1 q2 q3 q4 q5 q55 ((hb.mono hbase).trans q6) (((zaj.of_below hb).mono fun _ _=>trivial).trans q7))
 clear hW h7 h5 hm hL hx hxb hR hbase
 unfold opv
 go_enter Tryz.func13,Tryz.ntmps13
 go_wp2_with fail
 refine HC.o _ _ (br.alloc nr _) ?_
 intro w' hR
 have hfin:Hid (R (.returned (.bool true)) w'):=hR
 clear hR HC
 go_wp2_with fail
 exact hfin.o
theorem step_e {es:Nat->Nat->Int}{n:Nat}
  (hW:WK Z base B own w f xs ms em last many)(h8:(xs 8).length+1<=Z)(h1:(xs 1).length+4<=4 * Z)(hm:many+1<=Z)(hL:zcq w)(hn:n<=1048576)(hx:ze1 w al n es)(hxb: ∀i j,-9223372036854775808<=es i j/\es i j<=9223372036854775807)
  (hR: ∀own' f' xs' ms' w',WK Z base B own' w' f' xs' ms' em last (many+1)->(xs' 1).length=(xs 1).length+4->(xs' 5).length=(xs 5).length->(xs' 7).length=(xs 7).length->(xs' 8).length=(xs 8).length+1->xs' 0=xs 0->Below base w w'->zaj base own MT w own' w'->R (.returned (.bool true)) w'):
  Calls Tryz.prog 13 #[.pointer (some ⟨B,0,none⟩),.pointer sp,opv 4 a N c al n cl bb] w R:=by
 have hbase:base<=w.heap.size:=by have:=zak hW.wj.blk;have:=hW.wj.hB;omega
 have HC:Hid (∀(R':EW) w0,Below w.heap.size w w0->(∀w',R (.returned (.bool true)) w'->R' (.returned (.bool true)) w')->Calls Tryz.prog 38 #[.pointer (some ⟨B,0,none⟩),.agg #[.int .i64 4,.slice a N c,.slice al n cl,.bool bb]] w0 R'):=by
  intro R' w0 hb hR'
  refine encodes_w (hW.ext hb) h8 h1 hm (zcq.below hL hb nr) hn (ze1.ext hx hb) hxb ?_
  intro own' f' xs' em' w' q1 q2 q3 q4 q5 q55 q6 q7
  exact hR' w' (hR own' f' xs' em' w' q1 q2 q3 q4 q5 q55 ((hb.mono hbase).trans q6) (((zaj.of_below hb).mono fun _ _=>trivial).trans q7))
 clear hW h8 h1 hm hL hx hxb hR hbase
 unfold opv
 go_enter Tryz.func13,Tryz.ntmps13
 go_wp2_with fail
 refine HC.o _ _ (br.alloc nr _) ?_
 intro w' hR
 have hfin:Hid (R (.returned (.bool true)) w'):=hR
 clear hR HC
 go_wp2_with fail
 exact hfin.o
end
