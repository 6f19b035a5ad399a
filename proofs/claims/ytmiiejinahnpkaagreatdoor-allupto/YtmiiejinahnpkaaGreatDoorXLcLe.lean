import Derived.Test.YtmiiejinahnpkaaGreatDoorXCqCr
import Derived.Test.YtmiiejinahnpkaaGreatDoorXLaLb
set_option maxRecDepth 8000
set_option maxHeartbeats 2000000
namespace Go.Proofs.YtmiiejinahnpkaaGreatDoor
open Go.RowKit
section
variable {c:Cf} {m:Mk} {B D P S base s:Nat} {v vA vO:Value} {w w':World}
theorem RM.keep (h:RM w B c m vA vO)(hk: ∀g,(g=B\/vA.ownBlock=some g\/vO.ownBlock=some g)->w'.heap[g]?=w.heap[g]?):RM w' B c m vA vO:=
 ⟨(hk B (.inl rfl)).trans h.blk,zb6 h.all fun g hg=>hk g (.inr (.inl hg)),zb6 h.out fun g hg=>hk g (.inr (.inr hg)),h.sepA,h.sepO,h.sep⟩
theorem RM.lt (h:RM w B c m vA vO){g:Nat}(hg:g=B\/vA.ownBlock=some g\/vO.ownBlock=some g):g<w.heap.size:=by
 rcases hg with rfl|hg|hg
 .exact zak h.blk
 .exact(h.all.lt g hg).2
 .exact(h.out.lt g hg).2
structure Sd (base:Nat) (own:Nat->Nat×Int) (w:World) (S s P D:Nat) (b:Bk) (c:Cf) (m:Mk) (vA vO:Value):Prop where
 blk:w.heap[S]?=some (.cells #[.pointer (some ⟨P,0,none⟩),.pointer (some ⟨D,0,none⟩)] 84 (0,0))
 hS:base<=S
 oS:own S=(6,-1)
 ps:PS w P b c m m.seq
 rm:RM w D c m vA vO
 op: ∀g,Own P b g->base<=g/\own g=(6,(s:Int))
 od: ∀g,(g=D\/vA.ownBlock=some g\/vO.ownBlock=some g)->base<=g/\own g=(7,(s:Int))
 ct:c.total<=1000000000
 co:c.orders<=24
 lv:zap m.all<=c.orders
variable {b:Bk} {T:Nat×Int->Prop} {own own':Nat->Nat×Int}
theorem Sd.stays (h:Sd base own w S s P D b c m vA vO)(hs:zaj base own T w own' w')(h1:T (6,-1))(h2:T (6,(s:Int)))(h3:T (7,(s:Int))):
  Sd base own' w' S s P D b c m vA vO:=by
 have hlt:=zak h.blk
 refine⟨by rw[hs.blk S hlt h.hS (by rw[h.oS];exact h1)];exact h.blk,h.hS,by rw[hs.tag S hlt];exact h.oS,?_,?_,?_,?_,h.ct,h.co,h.lv⟩
 .exact h.ps.keep fun g hg=>hs.blk g (h.ps.lt hg) (h.op g hg).1 (by rw[(h.op g hg).2];exact h2)
 .exact h.rm.keep fun g hg=>hs.blk g (h.rm.lt hg) (h.od g hg).1 (by rw[(h.od g hg).2];exact h3)
 .exact fun g hg=>⟨(h.op g hg).1,by rw[hs.tag g (h.ps.lt hg)];exact(h.op g hg).2⟩
 .exact fun g hg=>⟨(h.od g hg).1,by rw[hs.tag g (h.rm.lt hg)];exact(h.od g hg).2⟩
theorem Sd.all (h:Sd base own w S s P D b c m vA vO)(hs:zaj base own MT w own' w'):Sd base own' w' S s P D b c m vA vO:=
 h.stays hs (.inl rfl) (.inl rfl) (.inr rfl)
theorem Sd.ext (h:Sd base own w S s P D b c m vA vO)(hb:Below w.heap.size w w'):Sd base own w' S s P D b c m vA vO:=
 h.stays (zaj.of_below hb) trivial trivial trivial
variable {F:Nat->Prop}
theorem Tch.stays (h:Tch F w w')(hF: ∀g,g<w.heap.size->base<=g->T (own g)-> ¬F g)(ho: ∀g,g<w.heap.size->own' g=own g):zaj base own T w own' w':=
 ⟨h.size,ho,fun g hg hb ht=>h.blk g hg (hF g hg hb ht)⟩
theorem Tch.under (h:Tch F w w')(hb:base<=w.heap.size)(hF: ∀g,F g->base<=g):Below base w w':=
 ⟨h.os,h.tape,h.output,h.size,fun g hg=>h.blk g (by omega) fun e=>by have:=hF g e;omega⟩
def zgv (own:Nat->Nat×Int) (w:World) (v:Value) (t t':Nat×Int):Nat->Nat×Int:=fun g=>if w.heap.size<=g then (if v.ownBlock=some g then t else t') else own g
variable {t:Nat×Int}
theorem zh3 {t':Nat×Int}{g:Nat}(h:g<w.heap.size):zgv own w v t t' g=own g:=by
 unfold zgv
 rw[if_neg (by omega)]
theorem Sd.sent {b':Bk}{m':Mk}{e:TypeId}{size n:Nat}{ys:List Value}
  (h:Sd base own w S s P D b c m vA vO)(hbase:base<=w.heap.size)(hp:PS w' P b' c m' m'.seq)(hm:Mv P w b w' b')(hv:w'.ownsRow w.heap.size e size v n ys)(hn: ∀g,Own P b' g->v.ownBlock≠some g):
  zaj base own (fun x=>x≠(6,(s:Int))) w (zgv own w v t (6,(s:Int))) w'/\Below base w w'/\w'.ownsRow base e size v n ys/\(∀g,v.ownBlock=some g->zgv own w v t (6,(s:Int)) g=t)/\
  (∀g,Own P b' g->base<=g/\zgv own w v t (6,(s:Int)) g=(6,(s:Int))):=by
 refine⟨hm.tch.stays (fun g _ _ ht e=>ht (h.op g e).2) (fun g hg=>zh3 hg),hm.tch.under hbase (fun g hg=>(h.op g hg).1),own_base hv hbase,fun g hg=>?_,fun g hg=>?_⟩
 .unfold zgv
  rw[if_pos (hv.lt g hg).1,if_pos hg]
 .by_cases hlt:w.heap.size<=g
  .refine⟨by omega,?_⟩
   unfold zgv
   rw[if_pos hlt,if_neg (hn g hg)]
  .have ho:Own P b g:=by
    rcases hg with rfl|hg
    .exact .inl rfl
    .rcases hm.bf g hg with h1|h1
     .exact .inr h1
     .exact absurd h1 hlt
   exact⟨(h.op g ho).1,by rw[zh3 (by omega)];exact(h.op g ho).2⟩
theorem RM.evs (h:RM w B c m vA vO): ∃a cap,vO= .slice a m.out.length cap/\ze1 w a m.out.length (fun i=>m.out.getD i ev0):=by
 obtain ⟨a,cap,rfl⟩:=zar h.out
 refine⟨a,cap,rfl,fun i hi=>?_⟩
 obtain ⟨g,cap',q1,_,_,_,_,_⟩:=zan h.out (i * 10+0) _ (evcs_get m.out i hi 0 (by decide))
 simp only[Value.slice.injEq] at q1
 refine⟨g,0,q1.1,fun j hj=>?_⟩
 obtain ⟨g',cap'',q2,_,_,_,hc,_⟩:=zan h.out (i * 10+j) _ (evcs_get m.out i hi j hj)
 simp only[Value.slice.injEq] at q2
 have hgg:g'=g:=by
  have:=q2.1.symm.trans q1.1
  simp only[Option.some.injEq,Addr.mk.injEq,and_true] at this
  exact this
 rw[hgg] at hc
 rw[Nat.zero_add]
 exact hc
theorem zjm (E:List (Nat->Int)):za6 (fun i=>E.getD i ev0) E.length=zao E:=by
 unfold za6 zao
 have h: ∀(l:List Nat),(∀i∈l,i<E.length)->l.flatMap (fun q=>zdr (E.getD q ev0))=(l.map fun q=>E.getD q ev0).flatMap zdr:=by
  intro l _
  rw[List.flatMap_map]
 rw[h _ (by simp)]
 congr 1
 apply List.ext_getElem?
 intro i
 by_cases hi:i<E.length
 .simp[hi]
 .simp[hi]
end
section
theorem sends_w {Z base B:Nat}{own:Nat->Nat×Int}{w:World}{f:Nat->Value}{xs:Nat->List Value}{ms:List Nat}{em:List Int}{last:Int}{many:Nat}{R:EW}{N c:Nat}{a:Option Addr}{Y:Nat->Nat}{kind:Int}{al:Option Addr}{nl cl:Nat}{bb:Bool}
  {S s P D:Nat}{b:Bk}{k:Cf}{m:Mk}{vA vO:Value}{wl:World}
  (hW:WK Z base B own w f xs ms em last many)(hD:Sd base own w S s P D b k m vA vO)(h7:(xs 7).length+1<=Z)(h1:(xs 1).length+4<=4 * Z)(hm:many+1<=Z)(hL:zcq wl)(hbl:Below wl.heap.size wl w)(hwl:wl.heap.size<=base)(hN:N<=1048576)(hx:BsAt w a N (fun i=>(Y i:Int)))(hY: ∀i,Y i<=255)(ha:0<N-> ∀g o,a=some ⟨g,o,none⟩->g<base)(hl:m.all.length<=1048575)
  (hR: ∀own' f' xs' ms' w' b' vA' vO',WK Z base B own' w' f' xs' ms' em last (many+1)->Sd base own' w' S s P D b' k (zaz k m Y N) vA' vO'->Below base w w'->zaj base own (fun t=>MT t/\t≠(6,(s:Int))/\t≠(7,(s:Int))) w own' w'->xs' 0=xs 0->R (.returned (.bool true)) w'):
  Calls Tryz.prog 35 #[.pointer (some ⟨B,0,none⟩),.pointer (some ⟨S,0,none⟩),opv kind a N c al nl cl bb] w R:=by
 have HR:=zl hR
 have HW:=zl hW
 have HD:=zl hD
 have H7:=zl3 h7 h1 hm
 have HLA:=zl3 hL hbl hwl
 have HX:=zl hx
 have HY:=zl hY
 have HA:=zl ha
 have Hl:=zl hl
 have hbase:base<=w.heap.size:=by have:=zak hW.wj.blk;have:=hW.wj.hB;omega
 clear hR hW hD h7 h1 hm hL hbl hwl hx hY ha hl
 unfold opv
 go_enter Tryz.func35,Tryz.ntmps35
 go_wp2_with fail
 obtain ⟨O,hO⟩:=xq w.heap.size
 obtain ⟨w0,hw0⟩:=xq (w.alloc (.cells #[.int .i64 kind,.slice a N c,.slice al nl cl,.bool bb] 34))
 rw[←hw0,←hO]
 have hb0:Below w.heap.size w w0:=by rw[hw0];exact br.alloc nr _
 have ho0:OpAt w0 O kind a N c al nl cl bb:=by rw[hw0,hO];exact heap_alloc_new w _
 obtain ⟨own0,hown0⟩:=xq (za9 own w (.slice (some ⟨O,0,none⟩) 0 0) (9,0))
 have HO0:Hid (OpAt w0 O kind a N c al nl cl bb/\own0 O=(9,0)/\base<=O):=⟨ho0,by rw[hown0,hO];simp[za9,Value.ownBlock],by rw[hO];exact hbase⟩
 have hs0:zaj base own (fun _=>True) w own0 w0:=⟨hb0.size,fun g hg=>by rw[hown0];exact zb0 hg,fun g hg _ _=>hb0.block g hg⟩
 have HW0:=zl (HW.o.all hs0)
 have HD0:Hid (Sd base own0 w0 S s P D b k m vA vO):=HD.o.all (hs0.mono fun _ _=>trivial)
 have HB0:=zl hb0
 have HS0:=zl hs0
 clear hown0 hw0 hb0 ho0 hO hs0
 refine lent_any a N c (fun i=>(Y i:Int)) w0 _ hN (HX.o.ext HB0.o) ?_
 intro g w1 hb1 hl1
 have hbase0:base<=w0.heap.size:=llt hbase HB0.o.size
 obtain ⟨s1,l1,t1⟩:=adopt (own:=own0) (t:=(4,((xs 7).length:Int))) hb1 hl1 hbase0
 obtain ⟨own1,hown1⟩:=xq (za9 own0 w0 (.slice (some ⟨g,0,none⟩) (N+1) (N+1)) (4,((xs 7).length:Int)))
 rw[←hown1] at s1 t1
 have hbd:Below w1.heap.size w1 w1.drew:=br.drew
 have s1d:zaj base own0 (fun _=>True) w0 own1 w1.drew:=s1.trans (zaj.of_below hbd)
 have HW1:=zl (HW0.o.all s1d)
 have HD1:Hid (Sd base own1 w1.drew S s P D b k m vA vO):=HD0.o.all (s1d.mono fun _ _=>trivial)
 have HO1:Hid (OpAt w1.drew O kind a N c al nl cl bb/\own1 O=(9,0)/\base<=O):=by obtain ⟨q1,q2⟩:=HO0.o.1.stays s1d HO0.o.2.2 HO0.o.2.1 trivial;exact⟨q1,q2,HO0.o.2.2⟩
 have HL1:Hid (w1.drew.ownsRow base 5 1 (.slice (some ⟨g,0,none⟩) (N+1) (N+1)) (N+1) (told (zg7 (fun i=>(Y i:Int)) N) (N+1))/\own1 g=(4,((xs 7).length:Int))):=⟨zbe l1 hbd,t1 g rfl⟩
 have HB1:Hid (Below w.heap.size w w1.drew):=HB0.o.trans ((hb1.trans (hbd.mono hb1.size)).mono HB0.o.size)
 have HS1:=zl (HS0.o.trans s1d)
 have hT:w1.drew.cell? ⟨O,1,none⟩=some (.slice a N c)/\w1.drew.cell? ⟨S,0,none⟩=some (.pointer (some ⟨P,0,none⟩)):=⟨HO1.o.1.cell1,by rw[cell_of_row w1.drew S 0 _ _ (0,0) HD1.o.blk];rfl⟩
 have hgl:g<w1.drew.heap.size:=(HL1.o.1.lt g rfl).2
 have c1:w1.cell? ⟨O,1,none⟩=some (.slice a N c):=hT.1
 clear hb1 hl1 s1 l1 t1 hown1 HW0 HO0 HB0 HD0 HS0 hbase0 s1d hbd
 go_wp2_with fail
 clear c1
 refine zbq 10 10 (fun W=>W.cell? ⟨O,1,none⟩=some (.slice a N c)/\W.cell? ⟨S,0,none⟩=some (.pointer (some ⟨P,0,none⟩))) (fun _=>True) zco ?_
 refine U0 (v:=?v0) 0 rfl (by kernel_rfl) (fun _ _ _ h=>h) (Or.inl ⟨by rfl,?hv0⟩) ⟨fun _=>hT,fun _=>trivial⟩ ?_
 case hv0=>(intro w' _;go_simp;with_reducible rfl)
 refine U0 (v:=?v1) 1 rfl (by kernel_rfl) (fun _ _ _ h=>h) (Or.inl ⟨by rfl,?hv1⟩) ⟨fun _=>hT,fun _=>trivial⟩ ?_
 case hv1=>(intro w' _;go_simp;with_reducible rfl)
 refine U0 (v:=?v2) 2 rfl (by kernel_rfl) (fun _ _ _ h=>h) (Or.inl ⟨by rfl,?hv2⟩) ⟨fun _=>hT,fun _=>trivial⟩ ?_
 case hv2=>(intro w' _;go_simp;with_reducible rfl)
 refine U1 (v:=?v3) 3 rfl (by kernel_rfl) (fun _ _ _ h=>h) (Or.inl ⟨by rfl,?hv3⟩) ⟨fun _=>hT,fun _=>trivial⟩ ?_
 case hv3=>(rintro w' ⟨⟨z0,z1⟩,_⟩;go_simp;with_reducible rfl)
 refine U0 (v:=?v4) 4 rfl (by kernel_rfl) (fun _ _ _ h=>h) (Or.inl ⟨by rfl,?hv4⟩) ⟨fun _=>hT,fun _=>trivial⟩ ?_
 case hv4=>(intro w' _;go_simp;with_reducible rfl)
 refine U0 (v:=?v5) 5 rfl (by kernel_rfl) (fun _ _ _ h=>h) (Or.inl ⟨by rfl,?hv5⟩) ⟨fun _=>hT,fun _=>trivial⟩ ?_
 case hv5=>(intro w' _;go_simp;with_reducible rfl)
 refine U1 (v:=?v6) 6 rfl (by kernel_rfl) (fun _ _ _ h=>h) (Or.inl ⟨by rfl,?hv6⟩) ⟨fun _=>hT,fun _=>trivial⟩ ?_
 case hv6=>(rintro w' ⟨⟨z0,z1⟩,_⟩;go_simp;with_reducible rfl)
 refine U0 (v:=?v7) 7 rfl (by kernel_rfl) (fun _ _ _ h=>h) (Or.inl ⟨by rfl,?hv7⟩) ⟨fun _=>hT,fun _=>trivial⟩ ?_
 case hv7=>(intro w' _;go_simp;with_reducible rfl)
 refine U0 (v:=?v8) 8 rfl (by kernel_rfl) (fun _ _ _ h=>h) (Or.inl ⟨by rfl,?hv8⟩) ⟨fun _=>hT,fun _=>trivial⟩ ?_
 case hv8=>(intro w' _;go_simp;rw[if_pos (by omega)])
 generalize w1.drew=w1 at *
 refine za1 9 (by kernel_rfl) rfl (fun K' hK=>?_)
 go_simp
 refine pSend_any P b k m (some ⟨g,0,none⟩) N (N+1) Y wl w1 _ HD1.o.ps HLA.o.1 (HLA.o.2.1.trans (HB1.o.mono HLA.o.2.1.size)) (fun q hq=>llt HLA.o.2.2 (HD1.o.op q hq).1) hN (by omega) (lent_bytes HL1.o.1) HY.o (fun q o hq=>by simp only[Option.some.injEq,Addr.mk.injEq] at hq;omega) Hl.o HD1.o.ct HD1.o.lv (by have:=HD1.o.co;omega) ?_
 intro b' v w2 hp2 hmv2 hv2 hnv2
 have hbase1:base<=w1.heap.size:=llt hbase HB1.o.size
 obtain ⟨s2,u2,l2,t2,o2⟩:=HD1.o.sent (t:=(2,((many+1:Nat):Int))) hbase1 hp2 hmv2 hv2 hnv2
 obtain ⟨own2,hown2⟩:=xq (zgv own1 w1 v (2,((many+1:Nat):Int)) (6,(s:Int)))
 rw[←hown2] at s2 t2 o2
 have hbd2:Below w2.heap.size w2 w2.drew:=br.drew
 have s2:zaj base own1 (fun x=>x≠(6,(s:Int))) w1 own2 w2.drew:=s2.trans ((zaj.of_below hbd2).mono fun _ _=>trivial)
 have HP2:=zl (hp2.ext hbd2)
 have HP2':=zl o2
 have HW2:=zl (HW1.o.stays s2 (by simp) (by simp) (by simp) (by simp) (by simp) (by simp) (by simp))
 have HO2:Hid (OpAt w2.drew O kind a N c al nl cl bb/\own2 O=(9,0)/\base<=O):=by obtain ⟨q1,q2⟩:=HO1.o.1.stays s2 HO1.o.2.2 HO1.o.2.1 (by simp);exact⟨q1,q2,HO1.o.2.2⟩
 have HL2:Hid (w2.drew.ownsRow base 5 1 (.slice (some ⟨g,0,none⟩) (N+1) (N+1)) (N+1) (told (zg7 (fun i=>(Y i:Int)) N) (N+1))/\own2 g=(4,((xs 7).length:Int))):=by
  obtain ⟨q1,q2⟩:=zaq (tag:=(4,((xs 7).length:Int))) HL1.o.1 (fun q hq=>by simp[Value.ownBlock] at hq;rw[←hq];exact HL1.o.2) s2 (by simp)
  exact⟨q1,q2 g rfl⟩
 have hSd2:w2.drew.heap[S]?=some (.cells #[.pointer (some ⟨P,0,none⟩),.pointer (some ⟨D,0,none⟩)] 84 (0,0))/\own2 S=(6,-1):=⟨(s2.blk S (zak HD1.o.blk) HD1.o.hS (by rw[HD1.o.oS];simp only[ne_eq,Prod.mk.injEq,true_and];omega)).trans HD1.o.blk,(s2.tag S (zak HD1.o.blk)).trans HD1.o.oS⟩
 have HSS2:=zl hSd2
 have hrm2:RM w2.drew D k m vA vO:=HD1.o.rm.keep fun q hq=>s2.blk q (HD1.o.rm.lt hq) (HD1.o.od q hq).1 (by rw[(HD1.o.od q hq).2];simp)
 have hod2: ∀q,(q=D\/vA.ownBlock=some q\/vO.ownBlock=some q)->base<=q/\own2 q=(7,(s:Int)):=fun q hq=>⟨(HD1.o.od q hq).1,(s2.tag q (HD1.o.rm.lt hq)).trans (HD1.o.od q hq).2⟩
 have HM2:=zl2 hrm2 hod2
 have HV2:=zl2 (zbe l2 hbd2) t2
 have HB2:Hid (Below base w w2.drew):=(HB1.o.mono hbase).trans (u2.trans (hbd2.mono (llt hbase1 hmv2.tch.size)))
 have HS2:Hid (zaj base own (fun t=>t≠(6,(s:Int))) w own2 w2.drew):=(HS1.o.mono fun _ _=>trivial).trans s2
 have HX2:Hid (zgh w2.drew a N Y):=by
  intro i hi
  obtain ⟨q,o,h1,h2⟩:=HX.o i hi
  exact⟨q,o,h1,(HB2.o.cell (p:=⟨q,o+i,none⟩) (HA.o (by omega) q o h1)).trans h2⟩
 have hlen:(zaz k m Y N).out.length<=36:=by have:=(zfm k m Y N HD.o.ps.pv.gd HD.o.ps.ph Hl.o HD.o.ct HD.o.lv).2;have:=HD.o.co;omega
 have hFm:=Fm.send k m Y N HD.o.ps.pv.gd HD.o.ps.pv.idl HY.o Hl.o HD.o.ct
 have HFm:=zl hFm
 obtain ⟨av,cv,rfl⟩:=zar hv2
 refine hK.o _ _ ⟨fun _=>?_,fun _=>trivial⟩ ?_
 .exact⟨HO2.o.1.cell1,by show w2.drew.cell? _=_;rw[cell_of_row w2.drew S 0 _ _ (0,0) hSd2.1];rfl⟩
 clear hK K' hT hgl hp2 hmv2 hv2 hnv2 s2 u2 l2 t2 o2 hown2 HW1 HO1 HL1 HB1 HD1 HS1 hbase1 hSd2 hrm2 hod2 hFm hbd2
 refine za1 10 (by kernel_rfl) rfl (fun K' hK=>?_)
 go_simp
 refine hK.o _ _ ⟨fun h=>absurd h (by decide),fun h=>absurd h (by decide)⟩ ?_
 clear hK K'
 refine zch (by kernel_rfl) ?_
 have hT:w2.drew.cell? ⟨O,1,none⟩=some (.slice a N c)/\w2.drew.cell? ⟨S,1,none⟩=some (.pointer (some ⟨D,0,none⟩)):=⟨HO2.o.1.cell1,by rw[cell_of_row w2.drew S 1 _ _ (0,0) HSS2.o.1];rfl⟩
 go_wp2_with fail
 refine zbq 12 12 (fun W=>W.cell? ⟨O,1,none⟩=some (.slice a N c)/\W.cell? ⟨S,1,none⟩=some (.pointer (some ⟨D,0,none⟩))) (fun _=>True) zco ?_
 refine U0 (v:=?x0) 0 rfl (by kernel_rfl) (fun _ _ _ h=>h) (Or.inl ⟨by rfl,?hx0⟩) ⟨fun _=>hT,fun _=>trivial⟩ ?_
 case hx0=>(intro w' _;go_simp;with_reducible rfl)
 refine U0 (v:=?x1) 1 rfl (by kernel_rfl) (fun _ _ _ h=>h) (Or.inl ⟨by rfl,?hx1⟩) ⟨fun _=>hT,fun _=>trivial⟩ ?_
 case hx1=>(intro w' _;go_simp;with_reducible rfl)
 refine U0 (v:=?x2) 2 rfl (by kernel_rfl) (fun _ _ _ h=>h) (Or.inl ⟨by rfl,?hx2⟩) ⟨fun _=>hT,fun _=>trivial⟩ ?_
 case hx2=>(intro w' _;go_simp;with_reducible rfl)
 refine U1 (v:=?x3) 3 rfl (by kernel_rfl) (fun _ _ _ h=>h) (Or.inl ⟨by rfl,?hx3⟩) ⟨fun _=>hT,fun _=>trivial⟩ ?_
 case hx3=>(rintro w' ⟨⟨z0,z1⟩,_⟩;go_simp;with_reducible rfl)
 refine U0 (v:=?x4) 4 rfl (by kernel_rfl) (fun _ _ _ h=>h) (Or.inl ⟨by rfl,?hx4⟩) ⟨fun _=>hT,fun _=>trivial⟩ ?_
 case hx4=>(intro w' _;go_simp;with_reducible rfl)
 refine U1 (v:=?x5) 5 rfl (by kernel_rfl) (fun _ _ _ h=>h) (Or.inl ⟨by rfl,?hx5⟩) ⟨fun _=>hT,fun _=>trivial⟩ ?_
 case hx5=>(rintro w' ⟨⟨z0,z1⟩,_⟩;go_simp;with_reducible rfl)
 generalize w2.drew=w2 at *
 refine za1 6 (by kernel_rfl) rfl (fun K' hK=>?_)
 go_simp
 have hbase2:base<=w2.heap.size:=llt hbase HS2.o.size
 refine rSend_any D k m vA vO a N c Y (fun q=>(base<=q/\own2 q=(7,(s:Int)))\/w2.heap.size<=q) w2.heap.size w2 _ HM2.o.1 ⟨fun q hq=> .inr hq,.inl (HM2.o.2 D (.inl rfl)),fun q hq=> .inl (HM2.o.2 q (.inr (.inl hq))),fun q hq=> .inl (HM2.o.2 q (.inr (.inr hq)))⟩ nr HD.o.ps.pv.gd HD.o.ps.ph Hl.o HD.o.ct hN HX2.o HY.o (fun hN0 q o hq e=>by have:=HA.o hN0 q o hq;omega) (by omega) ?_
 intro vA' vO' w3 hrm3 hft3 htc3
 obtain ⟨own3,hown3⟩:=xq (zgv own2 w2 (.slice none 0 0) (7,(s:Int)) (7,(s:Int)))
 have o3: ∀q,(base<=q/\own2 q=(7,(s:Int)))\/w2.heap.size<=q->base<=q/\own3 q=(7,(s:Int)):=by
  intro q hq
  rw[hown3]
  unfold zgv
  by_cases hlt:w2.heap.size<=q
  .exact⟨by omega,by rw[if_pos hlt];simp⟩
  .rw[if_neg hlt]
   exact hq.resolve_right hlt
 have s3:zaj base own2 (fun x=>x≠(7,(s:Int))) w2 own3 w3:=htc3.stays (fun q hq _ ht e=>by rcases e with e|e;exact ht e.2;omega) (fun q hq=>by rw[hown3];exact zh3 hq)
 have HW3:=zl (HW2.o.stays s3 (by simp) (by simp) (by simp) (by simp) (by simp) (by simp) (by simp))
 have HO3:Hid (OpAt w3 O kind a N c al nl cl bb/\own3 O=(9,0)/\base<=O):=by obtain ⟨q1,q2⟩:=HO2.o.1.stays s3 HO2.o.2.2 HO2.o.2.1 (by simp);exact⟨q1,q2,HO2.o.2.2⟩
 have HL3:Hid (w3.ownsRow base 5 1 (.slice (some ⟨g,0,none⟩) (N+1) (N+1)) (N+1) (told (zg7 (fun i=>(Y i:Int)) N) (N+1))/\own3 g=(4,((xs 7).length:Int))):=by
  obtain ⟨q1,q2⟩:=zaq (tag:=(4,((xs 7).length:Int))) HL2.o.1 (fun q hq=>by simp[Value.ownBlock] at hq;rw[←hq];exact HL2.o.2) s3 (by simp)
  exact⟨q1,q2 g rfl⟩
 have HV3:Hid (w3.ownsRow base 5 1 (.slice av (zao (zaz k m Y N).out).length cv) (zao (zaz k m Y N).out).length ((zao (zaz k m Y N).out).map bv)/\ ∀g,(Value.slice av (zao (zaz k m Y N).out).length cv).ownBlock=some g->own3 g=(2,((many+1:Nat):Int))):=zaq HV2.o.1 HV2.o.2 s3 (by simp)
 have HD3:Hid (Sd base own3 w3 S s P D b' k (zaz k m Y N) vA' vO'):=by
  have hlf:=(zfm k m Y N HD.o.ps.pv.gd HD.o.ps.ph Hl.o HD.o.ct HD.o.lv).1
  refine⟨(s3.blk S (zak HSS2.o.1) HD.o.hS (by rw[HSS2.o.2];simp)).trans HSS2.o.1,HD.o.hS,(s3.tag S (zak HSS2.o.1)).trans HSS2.o.2,?_,hrm3,?_,?_,HD.o.ct,HD.o.co,hlf.live⟩
  .exact HP2.o.keep fun q hq=>s3.blk q (HP2.o.lt hq) (HP2'.o q hq).1 (by rw[(HP2'.o q hq).2];simp)
  .exact fun q hq=>⟨(HP2'.o q hq).1,(s3.tag q (HP2.o.lt hq)).trans (HP2'.o q hq).2⟩
  .intro q hq
   rcases hq with rfl|hq|hq
   .exact o3 _ hft3.b
   .exact o3 _ (hft3.a q hq)
   .exact o3 _ (hft3.o q hq)
 have HB3:Hid (Below base w w3):=HB2.o.trans (htc3.under hbase2 (fun q hq=>(o3 q hq).1))
 have HS3:Hid (zaj base own (fun t=>t≠(6,(s:Int))/\t≠(7,(s:Int))) w own3 w3):=(HS2.o.mono fun _ h=>h.1).trans (s3.mono fun _ h=>h.2)
 refine hK.o _ _ ⟨fun _=>⟨HO3.o.1.cell1,by rw[cell_of_row w3 S 1 _ _ (0,0) HD3.o.blk];rfl⟩,fun _=>trivial⟩ ?_
 clear hK K' hT
 obtain ⟨ao,co,rfl,hev⟩:=hrm3.evs
 have HEV:=zl hev
 clear hev hrm3 hft3 htc3 o3 s3 hown3 HW2 HO2 HL2 HV2 HP2 HP2' HSS2 HM2 HB2 HS2 HX2
 refine za1 7 (by kernel_rfl) rfl (fun K' hK=>?_)
 go_simp
 refine zhl ao (zaz k m Y N).out.length co (fun i=>(zaz k m Y N).out.getD i ev0) w3 _ (by omega) HEV.o ?_ ?_
 .intro i w' hi _ hbad _
  have:=(HFm.o.out _ (List.getElem_mem hi)).1
  simp only[List.getD_eq_getElem?_getD,List.getElem?_eq_getElem hi,Option.getD_some] at hbad
  rw[this] at hbad
  cases hbad
 intro v4 w4 _ hb4 hv4
 rw[zjm] at hv4
 have HW4:=zl (HW3.o.ext hb4)
 have HO4:=zl2 (HO3.o.1.ext hb4) HO3.o.2
 have HL4:=zl2 (zbe HL3.o.1 hb4) HL3.o.2
 have HV4:=zl2 (zbe HV3.o.1 hb4) HV3.o.2
 have HD4:=zl (HD3.o.ext hb4)
 have HB4:Hid (Below base w w4):=HB3.o.trans (hb4.mono (llt hbase HS3.o.size))
 have HS4:Hid (zaj base own (fun t=>t≠(6,(s:Int))/\t≠(7,(s:Int))) w own3 w4):=HS3.o.trans ((zaj.of_below hb4).mono fun _ _=>trivial)
 have HV4':=zl hv4
 obtain ⟨av',cv',rfl⟩:=zar hv4
 have hT4:w4.cell? ⟨O,1,none⟩=some (.slice a N c)/\w4.cell? ⟨S,1,none⟩=some (.pointer (some ⟨D,0,none⟩)):=⟨HO4.o.1.cell1,by rw[cell_of_row w4 S 1 _ _ (0,0) HD4.o.blk];rfl⟩
 have hLn:=zk2 (zaz k m Y N).out
 refine hK.o _ _ ⟨fun _=>hT4,fun _=>trivial⟩ ?_
 clear hK K' hb4 hv4 HW3 HO3 HL3 HV3 HD3 HB3 HS3 HEV
 refine za1 8 (by kernel_rfl) rfl (fun K' hK=>?_)
 go_simp
 refine hK.o _ _ ⟨fun _=>hT4,fun _=>trivial⟩ ?_
 clear hK K'
 refine U0 (v:=?x9) 9 rfl (by kernel_rfl) (fun _ _ _ h=>h) (Or.inl ⟨by rfl,?hx9⟩) ⟨fun _=>hT4,fun _=>trivial⟩ ?_
 case hx9=>(intro w' _;go_simp;with_reducible rfl)
 refine U0 (v:=?x10) 10 rfl (by kernel_rfl) (fun _ _ _ h=>h) (Or.inl ⟨by rfl,?hx10⟩) ⟨fun _=>hT4,fun _=>trivial⟩ ?_
 case hx10=>(intro w' _;go_simp;with_reducible rfl)
 refine U0 (v:=?x11) 11 rfl (by kernel_rfl) (fun _ _ _ h=>h) (Or.inl ⟨by rfl,?hx11⟩) ⟨fun _=>hT4,fun _=>trivial⟩ ?_
 case hx11=>(intro w' _;go_simp;with_reducible rfl)
 refine za1 12 (by kernel_rfl) rfl (fun K' hK=>?_)
 go_simp
 refine hK.o _ _ ⟨fun h=>absurd h (by decide),fun h=>absurd h (by decide)⟩ ?_
 clear hK K'
 refine za1 13 (by kernel_rfl) rfl (fun K' hK=>?_)
 go_simp
 refine hK.o _ _ ⟨fun h=>absurd h (by decide),fun h=>absurd h (by decide)⟩ ?_
 clear hK K'
 refine za1 14 (by kernel_rfl) rfl (fun K' hK=>?_)
 go_simp
 refine hK.o _ _ ⟨fun h=>absurd h (by decide),fun h=>absurd h (by decide)⟩ ?_
 clear hK K'
 refine zch (by kernel_rfl) ?_
 go_wp2_with fail
 have hcb: ∀{w':World} {bs':Nat} {q:Option Addr} {cq:Nat},w'.ownsRow bs' 5 1 (.slice q (zao (zaz k m Y N).out).length cq) (zao (zaz k m Y N).out).length ((zao (zaz k m Y N).out).map bv)-> ∀i,i<(zao (zaz k m Y N).out).length-> ∃b o,q=some ⟨b,o,none⟩/\w'.cell? ⟨b,o+i,none⟩=some (.int .u8 ((zao (zaz k m Y N).out).getD i 0)):=by
  intro w' bs' q cq h i hi
  obtain ⟨g',cap',q1,_,_,_,hc,_⟩:=zan h i (bv ((zao (zaz k m Y N).out).getD i 0)) (by simp[hi])
  simp only[Value.slice.injEq] at q1
  exact⟨g',0,q1.1,by rw[Nat.zero_add];exact hc⟩
 refine zfn _ _ _ _ _ _ (fun i=>(zao (zaz k m Y N).out).getD i 0) (fun i=>(zao (zaz k m Y N).out).getD i 0) _ _ (by omega) (by omega) (hcb HV4.o.1) (hcb HV4'.o) ?_
 intro w5 hb5
 have hdec:decide ((zao (zaz k m Y N).out).length=(zao (zaz k m Y N).out).length/\ ∀i,i<(zao (zaz k m Y N).out).length->(zao (zaz k m Y N).out).getD i 0=(zao (zaz k m Y N).out).getD i 0)=true:=by simp
 rw[hdec]
 have HW5:=zl (HW4.o.ext hb5)
 have HL5:=zl2 (zbe HL4.o.1 hb5) HL4.o.2
 have HV5:=zl2 (zbe HV4.o.1 hb5) HV4.o.2
 have HD5:=zl (HD4.o.ext hb5)
 have HB5:Hid (Below base w w5):=HB4.o.trans (hb5.mono (llt hbase HS4.o.size))
 have HS5:Hid (zaj base own (fun t=>t≠(6,(s:Int))/\t≠(7,(s:Int))) w own3 w5):=HS4.o.trans ((zaj.of_below hb5).mono fun _ _=>trivial)
 have HX5:Hid (BsAt w5 a N (fun i=>(Y i:Int))):=by
  intro i hi
  obtain ⟨q,o,h1,h2⟩:=HX.o i hi
  exact⟨q,o,h1,(HB5.o.cell (p:=⟨q,o+i,none⟩) (HA.o (by omega) q o h1)).trans h2⟩
 have c1:=(HO4.o.1.ext hb5).cell1
 clear hb5 hdec hcb HW4 HO4 HL4 HB4 HV4 HV4' HD4 HS4 hT4
 go_wp2_with fail
 refine returned_w HW5.o H7.o.1 hN HL5.o.1 HL5.o.2 HX5.o ?_
 intro own6 f6 xs6 w6 hW6 hx6 hx67 hs6 hb6
 have HW6:=zl hW6
 have HX6:=zl2 hx6 hx67
 have HV6:Hid (w6.ownsRow base 5 1 (.slice av (zao (zaz k m Y N).out).length cv) (zao (zaz k m Y N).out).length ((zao (zaz k m Y N).out).map bv)/\ ∀g,(Value.slice av (zao (zaz k m Y N).out).length cv).ownBlock=some g->own6 g=(2,((many+1:Nat):Int))):=zaq HV5.o.1 HV5.o.2 hs6 (by simp)
 have HD6:=zl (HD5.o.stays hs6 (by simp) (by simp) (by simp))
 have HB6:=zl (HB5.o.trans hb6)
 have HS6:Hid (zaj base own (fun t=>MT t/\t≠(6,(s:Int))/\t≠(7,(s:Int))) w own6 w6):=(HS5.o.mono fun _ h=>h.2).trans (hs6.mono (by rintro ⟨q1,q2⟩ ⟨q,-⟩;unfold MT at q;simp only[ne_eq,Prod.mk.injEq];omega))
 clear hW6 hx6 hx67 hs6 hb6 c1 HW5 HL5 HV5 HD5 HB5 HS5 HX5
 go_wp2_with fail
 refine zku HW6.o ?_
 intro w7 hb7
 have HW7:=zl (HW6.o.ext hb7)
 have HV7:Hid (w7.ownsRow base 5 1 (.slice av (zao (zaz k m Y N).out).length cv) (zao (zaz k m Y N).out).length ((zao (zaz k m Y N).out).map bv)/\ ∀g,(Value.slice av (zao (zaz k m Y N).out).length cv).ownBlock=some g->own6 g=(2,((many+1:Nat):Int))):=zaq HV6.o.1 HV6.o.2 (zaj.of_below hb7) trivial
 have HD7:=zl (HD6.o.ext hb7)
 have HB7:Hid (Below base w w7):=HB6.o.trans (hb7.mono (llt hbase HS6.o.size))
 have HS7:Hid (zaj base own (fun t=>MT t/\t≠(6,(s:Int))/\t≠(7,(s:Int))) w own6 w7):=HS6.o.trans ((zaj.of_below hb7).mono fun _ _=>trivial)
 clear hb7 HW6 HV6 HD6 HB6 HS6
 go_wp2_with fail
 refine zkv HW7.o (by rw[HX6.o.1 1 (by decide)];exact H7.o.2.1) H7.o.2.2 (by omega) HV7.o.1 HV7.o.2 ?_
 intro own8 f8 xs8 ms8 w8 hW8 hx8 hx81 hb8 hst8
 have hfin:Hid (R (.returned (.bool true)) w8):=by
  refine HR.o own8 f8 xs8 ms8 w8 b' vA' _ hW8 (HD7.o.all hst8) (HB7.o.trans hb8) (HS7.o.trans (hst8.mono fun _ h=>h.1)) ?_
  rw[hx8 0 (by decide) (by decide),HX6.o.1 0 (by decide)]
 clear hW8 hx8 hx81 hb8 hst8
 go_wp2_with fail
 exact hfin.o
end
section
theorem flat6 {α:Type}(f:α->List Value)(hf: ∀x,(f x).length=6)(L:List α)(i j:Nat)(hi:i<L.length)(hj:j<6):(L.flatMap f)[i * 6+j]?=(f L[i])[j]?:=by
 induction L generalizing i with
 |nil=>simp at hi
 |cons x L ih=>
  rw[List.flatMap_cons]
  cases i with
  |zero=>
   rw[List.getElem?_append_left (by rw[hf];omega)]
   simp
  |succ i=>
   rw[List.getElem?_append_right (by rw[hf];omega),hf,show (i+1) * 6+j-6=i * 6+j by omega,ih i (by simpa using hi)]
   simp
theorem looks_w {Z base B:Nat}{own:Nat->Nat×Int}{w:World}{f:Nat->Value}{xs:Nat->List Value}{ms:List Nat}{em:List Int}{last:Int}{many:Nat}{R:EW}
  {S s P D:Nat}{b:Bk}{k:Cf}{m:Mk}{vA vO:Value}
  (hW:WK Z base B own w f xs ms em last many)(hD:Sd base own w S s P D b k m vA vO)(h3:(xs 3).length+4<=4 * Z)(hm: -(Z:Int)<=last-1)
  (hR: ∀own' f' xs' w',WK Z base B own' w' f' xs' ms em (last-1) many->Sd base own' w' S s P D b k m vA vO->Below base w w'->zaj base own MT w own' w'->xs' 0=xs 0->R (.returned (.bool true)) w'):
  Calls Tryz.prog 36 #[.pointer (some ⟨B,0,none⟩),.pointer (some ⟨S,0,none⟩)] w R:=by
 have HR:=zl hR
 have HW:=zl hW
 have HD:=zl hD
 have H3:=zl2 h3 hm
 have hbase:base<=w.heap.size:=by have:=zak hW.wj.blk;have:=hW.wj.hB;omega
 have p1:w.cell? ⟨S,0,none⟩=some (.pointer (some ⟨P,0,none⟩)):=by rw[cell_of_row w S 0 _ _ (0,0) hD.blk];rfl
 have hnl:(zfg m.all).length<=1048576:=llt (List.length_filter_le _ _) hD.ps.pv.gd.len
 clear hR hW hD h3 hm
 go_enter Tryz.func36,Tryz.ntmps36
 go_wp2_with fail
 clear p1
 refine pOrders_any P b k m m.seq w _ HD.o.ps ?_
 intro v w1 hb1 hv1
 obtain ⟨s1,l1,t1⟩:=adopt (own:=own) (t:=(8,last-1)) hb1 hv1 hbase
 obtain ⟨own1,hown1⟩:=xq (za9 own w v (8,last-1))
 rw[←hown1] at s1 t1
 have HW1:=zl (HW.o.all s1)
 have HD1:Hid (Sd base own1 w1 S s P D b k m vA vO):=HD.o.all (s1.mono fun _ _=>trivial)
 have HB1:=zl hb1
 have HS1:Hid (zaj base own MT w own1 w1):=s1.mono fun _ _=>trivial
 have HV1:=zl2 l1 t1
 have p2:w1.cell? ⟨S,1,none⟩=some (.pointer (some ⟨D,0,none⟩)):=by rw[cell_of_row w1 S 1 _ _ (0,0) HD1.o.blk];rfl
 obtain ⟨av,cv,rfl⟩:=zar hv1
 clear hb1 hv1 s1 l1 t1 hown1
 go_wp2_with fail
 clear p2
 obtain ⟨ar,capr,hrv,-⟩:=HD1.o.rm.rv
 refine rOrders_any D m.phase m.ref ar capr m.all w1 _ hrv HD1.o.ps.pv.gd.len ?_
 intro v' w2 hb2 hv2
 have HW2:=zl (HW1.o.ext hb2)
 have HD2:=zl (HD1.o.ext hb2)
 have HB2:Hid (Below w.heap.size w w2):=HB1.o.trans (hb2.mono HB1.o.size)
 have HS2:Hid (zaj base own MT w own1 w2):=HS1.o.trans ((zaj.of_below hb2).mono fun _ _=>trivial)
 have HV2:=zl2 (zbe HV1.o.1 hb2) HV1.o.2
 have HV2':=zl hv2
 obtain ⟨av',cv',rfl⟩:=zar hv2
 clear hb2 hv2 hrv HW1 HD1 HB1 HS1 HV1
 have hget: ∀i,i<(zfg m.all).length-> ∃o:Od,∀j,j<6->(shcs m.phase m.all)[i * 6+j]?=(shc m.phase o)[j]?:=fun i hi=>⟨_,fun j hj=>flat6 (shc m.phase) (fun _=>rfl) (zfg m.all) i j hi hj⟩
 have Hget:=zl hget
 clear hget
 generalize (zfg m.all).length=n at *
 have hnn:((n:Int) !=(n:Int))=false:=by simp
 go_wp2_with fail
 clear hnn
 go_loopw [7,8,9] (fun t _ _ wr=> ∃q:Nat,q<=n/\t= .int .i64 q/\Below w2.heap.size w2 wr) (fun t _ _ _=>n-(intOf t).toNat)
 case atStart=>exact⟨0,Nat.zero_le _,rfl,br⟩
 case round=>
  obtain ⟨q,hq,rfl,hb3⟩:=hrel
  have HB3:=zl hb3
  by_cases hlt:q<n
  .obtain ⟨o,ho⟩:=Hget.o q hlt
   have e0:=ho 0 (by decide)
   have e1:=ho 1 (by decide)
   have e2:=ho 2 (by decide)
   have e3:=ho 3 (by decide)
   have e4:=ho 4 (by decide)
   have e5:=ho 5 (by decide)
   have key: ∀{bs:Nat} {q':Option Addr} {cq:Nat},w2.ownsRow bs 89 6 (.slice q' n cq) n (shcs m.phase m.all)-> ∃g,q'=some ⟨g,0,none⟩/\wr.cell? ⟨g,q * 6,none⟩=some (.int .i64 (o.id:Nat))/\wr.cell? ⟨g,q * 6+1,none⟩=some (.int .i64 (o.side:Nat))/\wr.cell? ⟨g,q * 6+2,none⟩=some (.int .i64 (o.typ:Nat))/\wr.cell? ⟨g,q * 6+3,none⟩=some (.int .i64 (o.price:Nat))/\wr.cell? ⟨g,q * 6+4,none⟩=some (.int .i64 (o.rest:Nat))/\wr.cell? ⟨g,q * 6+5,none⟩=some (.bool (wt m.phase o)):=by
    intro bs q' cq h
    obtain ⟨g,cap,q1,_,_,_,_,_⟩:=zan h (q * 6+0) _ e0
    simp only[Value.slice.injEq] at q1
    have hj: ∀(j:Nat) (x:Value),(shcs m.phase m.all)[q * 6+j]?=some x->wr.cell? ⟨g,q * 6+j,none⟩=some x:=by
     intro j x hx
     obtain ⟨g',cap',q2,_,hlt',_,hc,_⟩:=zan h (q * 6+j) _ hx
     simp only[Value.slice.injEq] at q2
     have hgg:g'=g:=by
      have:=q2.1.symm.trans q1.1
      simp only[Option.some.injEq,Addr.mk.injEq,and_true] at this
      exact this
     rw[hgg] at hc hlt'
     exact(hb3.cell (p:=⟨g,q * 6+j,none⟩) hlt').trans hc
    exact⟨g,q1.1,hj 0 _ e0,hj 1 _ e1,hj 2 _ e2,hj 3 _ e3,hj 4 _ e4,hj 5 _ e5⟩
   obtain ⟨g1,rfl,a0,a1,a2,a3,a4,a5⟩:=key HV2.o.1
   obtain ⟨g2,rfl,d0,d1,d2,d3,d4,d5⟩:=key HV2'.o
   have hl1:=zab a0
   have hl2:=zab d0
   have hq0:(0:Int)<=(q:Int):=by omega
   have hq1:(q:Int)<(n:Int):=by omega
   clear e0 e1 e2 e3 e4 e5 ho key hb3
   generalize ((o.id:Nat):Int)=x0 at *
   generalize ((o.side:Nat):Int)=x1 at *
   generalize ((o.typ:Nat):Int)=x2 at *
   generalize ((o.price:Nat):Int)=x3 at *
   generalize ((o.rest:Nat):Int)=x4 at *
   generalize wt m.phase o=x5 at *
   have n0:(x0 !=x0)=false:=by simp
   have n1:(x1 !=x1)=false:=by simp
   have n2:(x2 !=x2)=false:=by simp
   have n3:(x3 !=x3)=false:=by simp
   have n4:(x4 !=x4)=false:=by simp
   have n5:(x5 !=x5)=false:=by simp
   go_wp2_with fail
   go_roundw
   case rel=>exact⟨q+1,by omega,by go_num,(HB3.o.alloc HB3.o.size _).alloc (by have:=HB3.o.size;simp;omega) _⟩
   case measure=>simp only[intOf];omega
  .obtain ⟨wa,hwa⟩:=xq wr
   subst hwa
   have HW3:=zl (HW2.o.ext hb3)
   have HD3:=zl (HD2.o.ext hb3)
   have HB4:Hid (Below base w wa):=(HB2.o.trans (hb3.mono HB2.o.size)).mono hbase
   have HS3:Hid (zaj base own MT w own1 wa):=HS2.o.trans ((zaj.of_below hb3).mono fun _ _=>trivial)
   have HV3:=zl2 (zbe HV2.o.1 hb3) HV2.o.2
   clear hb3 HB3 HW2 HD2 HB2 HS2 HV2 HV2' Hget
   go_wp2_with fail
   refine zku HW3.o ?_
   intro w5 hb5
   have HW5:=zl (HW3.o.ext hb5)
   have HD5:=zl (HD3.o.ext hb5)
   have HB5:Hid (Below base w w5):=HB4.o.trans (hb5.mono (llt hbase HS3.o.size))
   have HS5:Hid (zaj base own MT w own1 w5):=HS3.o.trans ((zaj.of_below hb5).mono fun _ _=>trivial)
   have HV5:=zl2 (zbe HV3.o.1 hb5) HV3.o.2
   clear hb5 HW3 HD3 HB4 HS3 HV3
   go_wp2_with fail
   refine keepOrders_w HW5.o H3.o.1 H3.o.2 (by omega) HV5.o.1 HV5.o.2 ?_
   intro own6 f6 xs6 w6 hW6 hx6 hx63 hb6 hst6
   have hfin:=zl (HR.o own6 f6 xs6 w6 hW6 (HD5.o.all hst6) (HB5.o.trans hb6) (HS5.o.trans hst6) (hx6 0 (by decide) (by decide)))
   clear hW6 hx6 hx63 hb6 hst6
   go_wp2_with fail
   exact hfin.o
end
