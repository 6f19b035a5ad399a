import Derived.Test.YtmiiejinahnpkaaGreatDoorXHfHh
import Derived.LaidEqlPtr
set_option maxRecDepth 100000
set_option maxHeartbeats 4000000
namespace Go.Proofs.YtmiiejinahnpkaaGreatDoor
section
open Go.RowKit Go.Shelf
def Bk.T (b:Bk) (g:Nat):Prop:=g=b.K\/(b.v 1).ownBlock=some g\/(b.v 2).ownBlock=some g
variable {b:Bk} {l:List Od} {ph:Nat} {B W w:World}
theorem BKs.ordT (h:BKs w b ph l){s i:Nat}(hs:isSd s)(hi:i∈b.q s): ¬b.T (b.adr i):=by
 have ho:=h.ord s hs i hi
 unfold OB at ho
 rintro (e|e|e)
 .have hk:=h.blk
  rw[←e,ho] at hk
  simp at hk
 .rcases (h.row 1 (.inl rfl)).2 with ⟨h1,_⟩|⟨g,cap,cur,h1,_,h3,_⟩
  .rw[h1] at e;cases e
  .rw[h1] at e
   simp only[Value.ownBlock,Option.some.injEq] at e
   rw[e,ho] at h3
   simp at h3
 .rcases (h.row 2 (.inr rfl)).2 with ⟨h1,_⟩|⟨g,cap,cur,h1,_,h3,_⟩
  .rw[h1] at e;cases e
  .rw[h1] at e
   simp only[Value.ownBlock,Option.some.injEq] at e
   rw[e,ho] at h3
   simp at h3
theorem BKs.mapT (h:BKs w b ph l): ¬b.T b.M:=by
 obtain ⟨es,clock,hm,_⟩:=h.ids
 rintro (e|e|e)
 .have hk:=h.blk
  rw[←e,hm] at hk
  cases hk
 .rcases (h.row 1 (.inl rfl)).2 with ⟨h1,_⟩|⟨g,cap,cur,h1,_,h3,_⟩
  .rw[h1] at e;cases e
  .rw[h1] at e
   simp only[Value.ownBlock,Option.some.injEq] at e
   rw[e,hm] at h3
   cases h3
 .rcases (h.row 2 (.inr rfl)).2 with ⟨h1,_⟩|⟨g,cap,cur,h1,_,h3,_⟩
  .rw[h1] at e;cases e
  .rw[h1] at e
   simp only[Value.ownBlock,Option.some.injEq] at e
   rw[e,hm] at h3
   cases h3
theorem BKs.rowK (h:BKs w b ph l){s:Nat}(hs:isSd s):(b.v s).ownBlock≠some b.K:=by
 intro e
 have hk:=h.blk
 rcases (h.row s hs).2 with ⟨h1,_⟩|⟨g,cap,cur,h1,_,h3,_⟩
 .rw[h1] at e;cases e
 .rw[h1] at e
  simp only[Value.ownBlock,Option.some.injEq] at e
  rw[e,hk] at h3
  simp at h3
def PredB (w:World) (b:Bk) (gf:Nat) (lb:Array Value) (p:Nat->Bool):Prop:=
 ∀W,Tch b.T w W-> ∀s,isSd s-> ∀i∈b.q s,∀R:EW,(∀W',W.grownBy W' none->R (.returned (.bool (p i))) W')->Calls Tryz.prog gf (#[.pointer (some ⟨b.adr i,0,none⟩)]++lb) W R
def Bk.dropped (b:Bk) (v':Nat->Value) (p:Nat->Bool):Bk:={b with v:=v',q:=fun s=>(b.q s).filter fun i=>!p i}
theorem own_nil_eq {e:TypeId}{v:Value}(h:w.ownsRow 0 e 1 v 0 [])(hv:v.ownBlock=none):v= .slice none 0 0:=by
 rcases h.2 with ⟨h1,_⟩|⟨g,cap,cur,h1,_⟩
 .exact h1
 .rw[h1] at hv;cases hv
theorem tch_gb {F:Nat->Prop}{A W':World}{r:Option Nat}(h:Tch F A W)(hg:W.grownBy W' r)(hr: ∀g,r=some g->F g):Tch F A W':=
 h.andThen hg.os hg.tape hg.output hg.size fun g hgl hn=>hg.block g (lll hgl h.size) fun e=>hn (hr g e.symm)
structure DS (b:Bk) (w:World) (Q1 Q2:List Nat) (x1 x2:Value) (W:World):Prop where
 tch:Tch b.T w W
 blk:W.heap[b.K]?=some (.cells #[.slice none 0 0,x1,x2,.map (some b.M)] 149 (0,0))
 r1:W.ownsRow 0 106 1 x1 Q1.length (ptrs b.adr Q1)
 r2:W.ownsRow 0 106 1 x2 Q2.length (ptrs b.adr Q2)
 b1:x1.ownBlock=(b.v 1).ownBlock
 b2:x2.ownBlock=(b.v 2).ownBlock
variable {Q' Q1 Q2:List Nat} {x' x1 x2:Value}
theorem DS.drew (h:DS b w Q1 Q2 x1 x2 W):DS b w Q1 Q2 x1 x2 W.drew:=
 ⟨h.tch.trans (Tch.of br.drew),h.blk,zbe h.r1 br.drew,zbe h.r2 br.drew,h.b1,h.b2⟩
theorem DS.s0 (h:DS b w Q1 Q2 x1 x2 W)(hK1:(b.v 1).ownBlock≠some b.K)(hK2:(b.v 2).ownBlock≠some b.K)(hg:W.grownBy B none):DS b w Q1 Q2 x1 x2 (B.setCell ⟨b.K,0,none⟩ (.slice none 0 0))/\B.cell? ⟨b.K,0,none⟩=some (.slice none 0 0)/\B.frozen? ⟨b.K,0,none⟩=false:=by
 have hb:=zau (zdg hg) h.blk
 refine⟨⟨?_,?_,?_,?_,h.b1,h.b2⟩,by rw[cell_of_row B b.K 0 _ _ (0,0) hb];rfl,by simp[World.frozen?,hb]⟩
 .exact(tch_gb h.tch hg (fun g e=>by cases e)).trans (zd8 (.inl rfl))
 .rw[zbb hb];rfl
 .exact zb1 (zbe h.r1 (zdg hg)) _ _ _ (by rw[h.b1];exact hK1)
 .exact zb1 (zbe h.r2 (zdg hg)) _ _ _ (by rw[h.b2];exact hK2)
theorem DS.s1 (h:DS b w Q1 Q2 x1 x2 W)(hK1:(b.v 1).ownBlock≠some b.K)(hK2:(b.v 2).ownBlock≠some b.K)(hsep: ∀g,(b.v 1).ownBlock=some g->(b.v 2).ownBlock≠some g)(hg:W.grownBy B x1.ownBlock)(hx:x'.ownBlock=x1.ownBlock)(hr:B.ownsRow 0 106 1 x' Q'.length (ptrs b.adr Q')):
  DS b w Q' Q2 x' x2 (B.setCell ⟨b.K,1,none⟩ x')/\B.cell? ⟨b.K,1,none⟩=some x1/\B.frozen? ⟨b.K,1,none⟩=false:=by
 have hb:B.heap[b.K]?=some (.cells #[.slice none 0 0,x1,x2,.map (some b.M)] 149 (0,0)):=(hg.block b.K (gsi.1 h.blk).1 (fun e=>hK1 (by rw[←h.b1,←e]))).trans h.blk
 refine⟨⟨?_,?_,?_,?_,hx.trans h.b1,h.b2⟩,by rw[cell_of_row B b.K 1 _ _ (0,0) hb];rfl,by simp[World.frozen?,hb]⟩
 .exact(tch_gb h.tch hg (fun g e=> .inr (.inl (by rw[←h.b1,e])))).trans (zd8 (.inl rfl))
 .rw[zbb hb];rfl
 .exact zb1 hr _ _ _ (by rw[hx,h.b1];exact hK1)
 .refine zb1 (zb6 h.r2 fun g hgv=>hg.block g (zgw h.r2 g hgv) fun e=>?_) _ _ _ (by rw[h.b2];exact hK2)
  exact hsep g (by rw[←h.b1,←e]) (by rw[←h.b2];exact hgv)
theorem DS.s2 (h:DS b w Q1 Q2 x1 x2 W)(hK1:(b.v 1).ownBlock≠some b.K)(hK2:(b.v 2).ownBlock≠some b.K)(hsep: ∀g,(b.v 1).ownBlock=some g->(b.v 2).ownBlock≠some g)(hg:W.grownBy B x2.ownBlock)(hx:x'.ownBlock=x2.ownBlock)(hr:B.ownsRow 0 106 1 x' Q'.length (ptrs b.adr Q')):
  DS b w Q1 Q' x1 x' (B.setCell ⟨b.K,2,none⟩ x')/\B.cell? ⟨b.K,2,none⟩=some x2/\B.frozen? ⟨b.K,2,none⟩=false:=by
 have hb:B.heap[b.K]?=some (.cells #[.slice none 0 0,x1,x2,.map (some b.M)] 149 (0,0)):=(hg.block b.K (gsi.1 h.blk).1 (fun e=>hK2 (by rw[←h.b2,←e]))).trans h.blk
 refine⟨⟨?_,?_,?_,?_,h.b1,hx.trans h.b2⟩,by rw[cell_of_row B b.K 2 _ _ (0,0) hb];rfl,by simp[World.frozen?,hb]⟩
 .exact(tch_gb h.tch hg (fun g e=> .inr (.inr (by rw[←h.b2,e])))).trans (zd8 (.inl rfl))
 .rw[zbb hb];rfl
 .refine zb1 (zb6 h.r1 fun g hgv=>hg.block g (zgw h.r1 g hgv) fun e=>?_) _ _ _ (by rw[h.b1];exact hK1)
  exact hsep g (by rw[←h.b1];exact hgv) (by rw[←h.b2,←e])
 .exact zb1 hr _ _ _ (by rw[hx,h.b2];exact hK2)
def sdv (x1 x2:Value) (s:Nat):Value:=if s=1 then x1 else x2
theorem DS.shut {p:Nat->Bool}(h:DS b w ((b.q 1).filter fun i=>!p i) ((b.q 2).filter fun i=>!p i) x1 x2 W)(hB:BKs w b ph l):BKs W (b.dropped (sdv x1 x2) p) ph l:=by
 refine⟨h.blk,?_,fun s hs i hi=>?_,fun g h1 h2=>?_,?_,fun s hs=>llt (List.length_filter_le _ _) (hB.cnt s hs)⟩
 .rintro s (rfl|rfl)
  .exact h.r1
  .exact h.r2
 .have hi':i∈b.q s:=(List.mem_filter.1 hi).1
  exact(h.tch.blk _ (OB.lt (hB.ord s hs i hi')) (hB.ordT hs hi')).trans (hB.ord s hs i hi')
 .exact hB.sep g (by rw[←h.b1];exact h1) (by rw[←h.b2];exact h2)
 .exact zcj hB.ids (h.tch.blk _ hB.ids.lt hB.mapT)
theorem Tryz.sizeBOrder:(Tryz.prog.info? 108).map (fun i=>i.size)=some 7:=by kernel_rfl
theorem eqlPtr {E1 E2:Nat}{c1 c2:Array Value}{t1 t2:TypeId}(h1:W.heap[E1]?=some (.cells c1 t1 (0,0)))(h2:W.heap[E2]?=some (.cells c2 t2 (0,0))):
  (binOp .eql 106 (.pointer (some ⟨E1,0,none⟩)) (.pointer (some ⟨E2,0,none⟩))).run Tryz.prog W= .ok (.bool (decide (E1=E2))) W:=by
 obtain ⟨j,hj,hjs⟩:=Option.map_eq_some_iff.1 Tryz.sizeBOrder
 by_cases h:E1=E2
 .subst h
  simpa using run_eql_ptr_same (P:=Tryz.prog) W ⟨E1,0,none⟩ Tryz.underlying106 hj
 .simpa [h] using run_eql_ptr_other (P:=Tryz.prog) W Tryz.underlying106 hj (by rw[hjs];decide) (show (⟨E1,0,none⟩:Addr)≠⟨E2,0,none⟩ from fun he=>h (Addr.mk.inj he).1) h1 h2
theorem queues0 (x y z:Value)(w:World):(Instr.index 146 (.agg #[x,y,z]) (.int .i64 0)).run Tryz.prog w= .ok x w:=by kernel_rfl
theorem queues1 (x y z:Value)(w:World):(Instr.index 146 (.agg #[x,y,z]) (.int .i64 1)).run Tryz.prog w= .ok y w:=by kernel_rfl
theorem queues2 (x y z:Value)(w:World):(Instr.index 146 (.agg #[x,y,z]) (.int .i64 2)).run Tryz.prog w= .ok z w:=by kernel_rfl
theorem drop_any (b:Bk)(ph:Nat)(l:List Od)(gf:Nat)(lb:Array Value)(eg: ∀args w,(callFunc gf args).run Tryz.prog w= .ok (.enter gf args) w)(p:Nat->Bool)(w:World)(R:EW)(h:BKs w b ph l)(hp:PredB w b gf lb p)
  (hR: ∀v' w',BKs w' (b.dropped v' p) ph l->(∀s,isSd s->(v' s).ownBlock=(b.v s).ownBlock)->Tch b.T w w'->R (.returned (.tuple #[])) w'):
  Calls Tryz.prog 183 #[.pointer (some ⟨b.K,0,none⟩),.func (.func gf) #[] lb] w R:=by
 have HR:=zl hR
 have HB:=zl h
 have HP:=zl hp
 have c0:=h.cells 0 _ rfl
 have c1:=h.cells 1 _ rfl
 have c2:=h.cells 2 _ rfl
 obtain ⟨a1,cap1,hv1⟩:=zae (h.row 1 (.inl rfl))
 obtain ⟨a2,cap2,hv2⟩:=zae (h.row 2 (.inr rfl))
 rw[hv1] at c1
 rw[hv2] at c2
 have Hv1:=zl hv1
 have Hv2:=zl hv2
 clear hR h hp hv1 hv2
 have i0:=queues0
 have i1:=queues1
 have i2:=queues2
 go_enter Tryz.func183,Tryz.ntmps183
 go_wp2_with fail
 have HK1:Hid ((b.v 1).ownBlock≠some b.K):=HB.o.rowK (.inl rfl)
 have HK2:Hid ((b.v 2).ownBlock≠some b.K):=HB.o.rowK (.inr rfl)
 have HD0:Hid (DS b w (b.q 1) (b.q 2) (.slice a1 (b.q 1).length cap1) (.slice a2 (b.q 2).length cap2) w):=by
  have h1:=Hv1.o
  have h2:=Hv2.o
  refine⟨Tch.refl _ _,?_,?_,?_,by rw[h1],by rw[h2]⟩
  .rw[←h1,←h2];exact HB.o.blk
  .rw[←h1];exact HB.o.row 1 (.inl rfl)
  .rw[←h2];exact HB.o.row 2 (.inr rfl)
 clear c0 c1 c2
 refine wp_loop_rounds 4 ?_
 rw[rounds_succ]
 go_wp2_with fail
 refine zbq 8 8 (fun _=>True) (fun _=>True) zco ?_
 refine U0 (v:=?va0) 0 rfl (by kernel_rfl) (fun _ _ _ h=>h) (Or.inl ⟨by rfl,?hya0⟩) ⟨fun _=>trivial,fun _=>trivial⟩ ?_
 case hya0=>(rintro w _;go_simp;with_reducible rfl)
 refine U0 (v:=?va1) 1 rfl (by kernel_rfl) (fun _ _ _ h=>h) (Or.inl ⟨by rfl,?hya1⟩) ⟨fun _=>trivial,fun _=>trivial⟩ ?_
 case hya1=>(rintro w _;go_simp;with_reducible rfl)
 refine U0 (v:=?va2) 2 rfl (by kernel_rfl) (fun _ _ _ h=>h) (Or.inl ⟨by rfl,?hya2⟩) ⟨fun _=>trivial,fun _=>trivial⟩ ?_
 case hya2=>(rintro w _;go_simp;with_reducible rfl)
 refine U0 (v:=?va3) 3 rfl (by kernel_rfl) (fun _ _ _ h=>h) (Or.inl ⟨by rfl,?hya3⟩) ⟨fun _=>trivial,fun _=>trivial⟩ ?_
 case hya3=>(rintro w _;go_simp;with_reducible rfl)
 refine U0 (v:=?va5) 5 rfl (by kernel_rfl) (fun _ _ _ h=>h) (Or.inl ⟨by rfl,?hya5⟩) ⟨fun _=>trivial,fun _=>trivial⟩ ?_
 case hya5=>(rintro w _;go_simp;with_reducible rfl)
 refine U0 (v:=?va6) 6 rfl (by kernel_rfl) (fun _ _ _ h=>h) (Or.inl ⟨by rfl,?hya6⟩) ⟨fun _=>trivial,fun _=>trivial⟩ ?_
 case hya6=>(rintro w _;go_simp;with_reducible rfl)
 refine za1 4 (by kernel_rfl) rfl (fun K hK=>?_)
 go_simp
 refine zfe (.slice none 0 0) b.adr [] gf lb eg p _ _ (World.ownsRow_nil _ _ _ _) (by simp) (fun W hW i hi=>by cases hi) ?_
 intro x' B0 hg0 hx0 hr0
 obtain rfl:=own_nil_eq hr0 hx0
 obtain ⟨hD1,k0,f0⟩:=HD0.o.drew.s0 HK1.o HK2.o hg0
 refine hK.o _ _ ⟨fun _=>trivial,fun _=>trivial⟩ ?_
 clear hK K
 refine U0 (v:=?va7) 7 rfl (by kernel_rfl) (fun _ _ _ h=>h) (Or.inl ⟨by rfl,?hya7⟩) ⟨fun _=>trivial,fun _=>trivial⟩ ?_
 case hya7=>(rintro w _;go_simp;with_reducible rfl)
 refine za1 8 (by kernel_rfl) rfl (fun K hK=>?_)
 go_simp
 refine hK.o _ _ ⟨fun _=>trivial,fun _=>trivial⟩ ?_
 clear hK K
 refine zch (by kernel_rfl) ?_
 have HD1:Hid _:=hD1
 clear hD1 k0 f0 hg0 hr0 hx0
 generalize B0.setCell ⟨b.K,0,none⟩ (.slice none 0 0)=W1 at *
 go_wp2_with fail
 rw[rounds_succ]
 go_wp2_with fail
 refine zbq 8 8 (fun _=>True) (fun _=>True) zco ?_
 refine U0 (v:=?vb0) 0 rfl (by kernel_rfl) (fun _ _ _ h=>h) (Or.inl ⟨by rfl,?hyb0⟩) ⟨fun _=>trivial,fun _=>trivial⟩ ?_
 case hyb0=>(rintro w _;go_simp;with_reducible rfl)
 refine U0 (v:=?vb1) 1 rfl (by kernel_rfl) (fun _ _ _ h=>h) (Or.inl ⟨by rfl,?hyb1⟩) ⟨fun _=>trivial,fun _=>trivial⟩ ?_
 case hyb1=>(rintro w _;go_simp;with_reducible rfl)
 refine U0 (v:=?vb2) 2 rfl (by kernel_rfl) (fun _ _ _ h=>h) (Or.inl ⟨by rfl,?hyb2⟩) ⟨fun _=>trivial,fun _=>trivial⟩ ?_
 case hyb2=>(rintro w _;go_simp;with_reducible rfl)
 refine U0 (v:=?vb3) 3 rfl (by kernel_rfl) (fun _ _ _ h=>h) (Or.inl ⟨by rfl,?hyb3⟩) ⟨fun _=>trivial,fun _=>trivial⟩ ?_
 case hyb3=>(rintro w _;go_simp;with_reducible rfl)
 refine U0 (v:=?vb5) 5 rfl (by kernel_rfl) (fun _ _ _ h=>h) (Or.inl ⟨by rfl,?hyb5⟩) ⟨fun _=>trivial,fun _=>trivial⟩ ?_
 case hyb5=>(rintro w _;go_simp;with_reducible rfl)
 refine U0 (v:=?vb6) 6 rfl (by kernel_rfl) (fun _ _ _ h=>h) (Or.inl ⟨by rfl,?hyb6⟩) ⟨fun _=>trivial,fun _=>trivial⟩ ?_
 case hyb6=>(rintro w _;go_simp;with_reducible rfl)
 refine za1 4 (by kernel_rfl) rfl (fun K hK=>?_)
 go_simp
 refine zfe _ b.adr (b.q 1) gf lb eg p _ _ HD1.o.drew.r1 (HB.o.cnt 1 (.inl rfl)) (fun W hW i hi R hR=>HP.o W (tch_gb HD1.o.drew.tch hW (fun g e=> .inr (.inl (by rw[←HD1.o.b1,e])))) 1 (.inl rfl) i hi R hR) ?_
 intro y1 B1 hg1 hx1 hr1
 obtain ⟨hD2,k1,f1⟩:=HD1.o.drew.s1 HK1.o HK2.o HB.o.sep hg1 hx1 hr1
 obtain ⟨ay1,cy1,rfl⟩:=zae hr1
 refine hK.o _ _ ⟨fun _=>trivial,fun _=>trivial⟩ ?_
 clear hK K
 refine U0 (v:=?vb7) 7 rfl (by kernel_rfl) (fun _ _ _ h=>h) (Or.inl ⟨by rfl,?hyb7⟩) ⟨fun _=>trivial,fun _=>trivial⟩ ?_
 case hyb7=>(rintro w _;go_simp;with_reducible rfl)
 refine za1 8 (by kernel_rfl) rfl (fun K hK=>?_)
 go_simp
 refine hK.o _ _ ⟨fun _=>trivial,fun _=>trivial⟩ ?_
 clear hK K
 refine zch (by kernel_rfl) ?_
 have HD2:Hid _:=hD2
 clear hD2 k1 f1 hg1 hx1 hr1
 generalize B1.setCell ⟨b.K,1,none⟩ (.slice ay1 _ cy1)=W2 at *
 go_wp2_with fail
 rw[rounds_succ]
 go_wp2_with fail
 refine zbq 8 8 (fun _=>True) (fun _=>True) zco ?_
 refine U0 (v:=?vc0) 0 rfl (by kernel_rfl) (fun _ _ _ h=>h) (Or.inl ⟨by rfl,?hyc0⟩) ⟨fun _=>trivial,fun _=>trivial⟩ ?_
 case hyc0=>(rintro w _;go_simp;with_reducible rfl)
 refine U0 (v:=?vc1) 1 rfl (by kernel_rfl) (fun _ _ _ h=>h) (Or.inl ⟨by rfl,?hyc1⟩) ⟨fun _=>trivial,fun _=>trivial⟩ ?_
 case hyc1=>(rintro w _;go_simp;with_reducible rfl)
 refine U0 (v:=?vc2) 2 rfl (by kernel_rfl) (fun _ _ _ h=>h) (Or.inl ⟨by rfl,?hyc2⟩) ⟨fun _=>trivial,fun _=>trivial⟩ ?_
 case hyc2=>(rintro w _;go_simp;with_reducible rfl)
 refine U0 (v:=?vc3) 3 rfl (by kernel_rfl) (fun _ _ _ h=>h) (Or.inl ⟨by rfl,?hyc3⟩) ⟨fun _=>trivial,fun _=>trivial⟩ ?_
 case hyc3=>(rintro w _;go_simp;with_reducible rfl)
 refine U0 (v:=?vc5) 5 rfl (by kernel_rfl) (fun _ _ _ h=>h) (Or.inl ⟨by rfl,?hyc5⟩) ⟨fun _=>trivial,fun _=>trivial⟩ ?_
 case hyc5=>(rintro w _;go_simp;with_reducible rfl)
 refine U0 (v:=?vc6) 6 rfl (by kernel_rfl) (fun _ _ _ h=>h) (Or.inl ⟨by rfl,?hyc6⟩) ⟨fun _=>trivial,fun _=>trivial⟩ ?_
 case hyc6=>(rintro w _;go_simp;with_reducible rfl)
 refine za1 4 (by kernel_rfl) rfl (fun K hK=>?_)
 go_simp
 refine zfe _ b.adr (b.q 2) gf lb eg p _ _ HD2.o.drew.r2 (HB.o.cnt 2 (.inr rfl)) (fun W hW i hi R hR=>HP.o W (tch_gb HD2.o.drew.tch hW (fun g e=> .inr (.inr (by rw[←HD2.o.b2,e])))) 2 (.inr rfl) i hi R hR) ?_
 intro y2 B2 hg2 hx2 hr2
 obtain ⟨hD3,k2,f2⟩:=HD2.o.drew.s2 HK1.o HK2.o HB.o.sep hg2 hx2 hr2
 obtain ⟨ay2,cy2,rfl⟩:=zae hr2
 refine hK.o _ _ ⟨fun _=>trivial,fun _=>trivial⟩ ?_
 clear hK K
 refine U0 (v:=?vc7) 7 rfl (by kernel_rfl) (fun _ _ _ h=>h) (Or.inl ⟨by rfl,?hyc7⟩) ⟨fun _=>trivial,fun _=>trivial⟩ ?_
 case hyc7=>(rintro w _;go_simp;with_reducible rfl)
 refine za1 8 (by kernel_rfl) rfl (fun K hK=>?_)
 go_simp
 refine hK.o _ _ ⟨fun _=>trivial,fun _=>trivial⟩ ?_
 clear hK K
 refine zch (by kernel_rfl) ?_
 have HD3:Hid _:=hD3
 clear hD3 k2 f2 hg2 hx2 hr2
 generalize B2.setCell ⟨b.K,2,none⟩ (.slice ay2 _ cy2)=W3 at *
 go_wp2_with fail
 rw[rounds_succ]
 go_wp2_with fail
 go_end0
 refine HR.o _ _ (DS.shut HD3.o HB.o) ?_ HD3.o.tch
 rintro s (rfl|rfl)
 .exact HD3.o.b1
 .exact HD3.o.b2
theorem bRemove_any (b:Bk)(ph:Nat)(l:List Od)(i:Nat)(w:World)(R:EW)(h:BKs w b ph l)(hi: ∃s,isSd s/\i∈b.q s)
  (hR: ∀v' w',BKs w' (b.dropped v' (fun j=>decide (j=i))) ph l->(∀s,isSd s->(v' s).ownBlock=(b.v s).ownBlock)->Tch b.T w w'->R (.returned (.tuple #[])) w'):
  Calls Tryz.prog 162 #[.pointer (some ⟨b.K,0,none⟩),.pointer (some ⟨b.adr i,0,none⟩)] w R:=by
 have HR:=zl hR
 have hb:=zac w (.cells #[.pointer (some ⟨b.adr i,0,none⟩)] 106)
 have HB:=zl (h.ext hb)
 have HV:Hid (Vb (w.alloc (.cells #[.pointer (some ⟨b.adr i,0,none⟩)] 106)) w.heap.size (.pointer (some ⟨b.adr i,0,none⟩))):=Vb.new w _ _
 have HT:Hid (Tch b.T w (w.alloc (.cells #[.pointer (some ⟨b.adr i,0,none⟩)] 106))):=Tch.of hb
 have HE:Hid (¬b.T w.heap.size):=fun e=>by
  have:=h.lt (g:=w.heap.size) (by
   rcases e with e|e|e
   .exact .inl e
   .exact .inr (.inr ⟨1,.inl rfl,.inl e⟩)
   .exact .inr (.inr ⟨2,.inr rfl,.inl e⟩))
  omega
 have HI:Hid (∀s,isSd s-> ∀j∈b.q s,b.adr j=b.adr i->j=i):=by
  intro s hs j hj e
  obtain ⟨s',hs',hi'⟩:=hi
  have h1:=(h.ord s hs j hj).c.c6
  have h2:=(h.ord s' hs' i hi').c.c6
  rw[e,h2] at h1
  simp at h1
  omega
 have HIn:=zl hi
 clear hR h hb hi
 go_enter Tryz.func162,Tryz.ntmps162
 go_wp2_with fail
 generalize w.alloc (.cells #[.pointer (some ⟨b.adr i,0,none⟩)] 106)=W1 at *
 refine drop_any b ph l 184 #[.pointer (some ⟨w.heap.size,0,none⟩)] (enters_of Tryz.func184 (by kernel_rfl) rfl) (fun j=>decide (j=i)) _ _ HB.o ?_ ?_
 .intro W hW s hs j hj R' hR'
  have hc:=(HV.o.same hW.size (hW.blk _ HV.o.lt HE.o)).cell
  have hji:=HI.o s hs j hj
  obtain ⟨s',hs',hi'⟩:=HIn.o
  have heq:=eqlPtr ((hW.blk _ (HB.o.ord s hs j hj).lt (HB.o.ordT hs hj)).trans (HB.o.ord s hs j hj)) ((hW.blk _ (HB.o.ord s' hs' i hi').lt (HB.o.ordT hs' hi')).trans (HB.o.ord s' hs' i hi'))
  have HR':Hid (R' (.returned (.bool (decide (b.adr j=b.adr i)))) W):=zam (hR' W (zha _ _)) (by
   by_cases e:j=i
   .simp[e]
   .have:b.adr j≠b.adr i:=fun e2=>e (hji e2)
    simp[e,this])
  clear hR' hji
  generalize decide (b.adr j=b.adr i)=bb at *
  show Calls Tryz.prog 184 #[.pointer (some ⟨b.adr j,0,none⟩),.pointer (some ⟨w.heap.size,0,none⟩)] W R'
  go_enter Tryz.func184,Tryz.ntmps184
  go_wp2_with fail
  exact HR'.o
 .intro v' w' h1 h2 h3
  have hfin:=zl (HR.o v' w' h1 h2 (HT.o.trans h3))
  clear h1 h2 h3
  go_wp2_with fail
  go_end0
  exact hfin.o
theorem zds (b:Bk)(ph:Nat)(l:List Od)(w:World)(R:EW)(h:BKs w b ph l)
  (hR: ∀v' w',BKs w' (b.dropped v' (fun j=>decide ((nth l j).rest=0))) ph l->(∀s,isSd s->(v' s).ownBlock=(b.v s).ownBlock)->Tch b.T w w'->R (.returned (.tuple #[])) w'):
  Calls Tryz.prog 202 #[.pointer (some ⟨b.K,0,none⟩)] w R:=by
 have HR:=zl hR
 have HB:=zl h
 clear hR h
 go_enter Tryz.func202,Tryz.ntmps202
 go_wp2_with fail
 refine drop_any b ph l 216 #[] (enters_of Tryz.func216 (by kernel_rfl) rfl) (fun j=>decide ((nth l j).rest=0)) _ _ HB.o ?_ ?_
 .intro W hW s hs j hj R' hR'
  have hO:OB W (b.adr j) (nth l j) (wt ph (nth l j)) j:=(hW.blk _ (HB.o.ord s hs j hj).lt (HB.o.ordT hs hj)).trans (HB.o.ord s hs j hj)
  have c4:=hO.c.c4
  have HR':Hid (R' (.returned (.bool (decide ((nth l j).rest=0)))) W):=hR' W (zha _ _)
  clear hR' hO
  generalize nth l j=o at *
  show Calls Tryz.prog 216 #[.pointer (some ⟨b.adr j,0,none⟩)] W R'
  by_cases h0:o.rest=0
  .have f0:(o.rest:Int)=0:=by omega
   go_enter Tryz.func216,Tryz.ntmps216
   go_wp2_with fail
   exact zam HR'.o (by simp[h0])
  .have f0:((o.rest:Int)==0)=false:=by simp;omega
   go_enter Tryz.func216,Tryz.ntmps216
   go_wp2_with fail
   exact zam HR'.o (by simp[h0])
 .intro v' w' h1 h2 h3
  have hfin:=zl (HR.o v' w' h1 h2 h3)
  clear h1 h2 h3
  go_wp2_with fail
  go_end0
  exact hfin.o
end
section
open Go.RowKit Go.Shelf
def zbn (m:Mk) (i k n p:Nat):Mk:=if (nth m.all i).side=1 then za3 m i k n p else za3 m k i n p
theorem zh7 (m:Mk)(i k n p j:Nat)(hi:i<m.all.length)(hk:k<m.all.length)(hik:i≠k):nth (zbn m i k n p).all j=if j=i\/j=k then {nth m.all j with rest:=(nth m.all j).rest-n} else nth m.all j:=by
 unfold zbn
 split
 .exact zff m i k n p j hi hk hik
 .rw[zff m k i n p j hk hi (fun e=>hik e.symm)]
  by_cases h1:j=i<;>by_cases h2:j=k<;>simp[h1,h2]
theorem zh8 (m:Mk)(i k n p:Nat):(zbn m i k n p).all.length=m.all.length:=by
 unfold zbn
 split<;>exact zd1 _ _ _ _ _
theorem zb4 (m:Mk)(i k n p:Nat):(zbn m i k n p).phase=m.phase:=by
 unfold zbn
 split<;>rfl
theorem zh6 (m:Mk)(i k n p:Nat):outs (za3 m i k n p)=outs m++[tdev ⟨(nth m.all i).id,(nth m.all k).id,n,p⟩]:=by
 unfold za3
 dsimp only
 rw[zkk,bare_mkev,(zcc _ _ _ _).1,(zcc _ _ _ _).1,(zcc _ _ _ _).1,(zcc _ _ _ _).1]
 rfl
theorem zj8 (m:Mk)(i k n p:Nat)(hs:isSd (nth m.all i).side):outs (zbn m i k n p)=outs m++[tdev (tdOf (nth m.all i) (nth m.all k) n p)]:=by
 unfold zbn tdOf
 rcases hs with e|e
 .rw[if_pos e,if_neg (by omega)]
  exact zh6 m i k n p
 .rw[if_neg (by omega),if_pos e]
  exact zh6 m k i n p
theorem zj6 (m:Mk)(i k n p:Nat)(hi:i<m.all.length)(hk:k<m.all.length)(hik:i≠k):(zdm m.all->zdm (za3 m i k n p).all)/\ ∀s q,Qd m.all s q->Qd (za3 m i k n p).all s q:=by
 rw[zhi m i k n p hi hik]
 refine⟨fun h=>(h.setRest _ _).setRest _ _,fun s q h=>(h.setRest _ _ hi (by omega)).setRest _ _ (by rw[zaw];exact hk) ?_⟩
 rw[zhr _ _ _ _ hi,if_neg (fun e=>hik e.symm)]
 omega
theorem ziz (m:Mk)(i k n p:Nat)(hi:i<m.all.length)(hk:k<m.all.length)(hik:i≠k):(zdm m.all->zdm (zbn m i k n p).all)/\ ∀s q,Qd m.all s q->Qd (zbn m i k n p).all s q:=by
 unfold zbn
 split
 .exact zj6 m i k n p hi hk hik
 .exact zj6 m k i n p hk hi (fun e=>hik e.symm)
theorem zg9 (l:List Od)(i r:Nat):zi9 (zaf l i r)=zi9 l:=by
 unfold zi9 zaf
 apply List.ext_getElem
 .simp
 .intro j h1 h2
  simp only[List.getElem_map,List.getElem_modify]
  split<;>rfl
theorem ids_trade (m:Mk)(i k n p:Nat):zb7 (zbn m i k n p).all=zb7 m.all:=by
 unfold zb7 zbn za3
 split<;>(dsimp only[zax];rw[zg9,zg9])
variable {b:Bk} {l:List Od} {B E ph:Nat} {W W' w:World}
theorem BKs.adrOne (h:BKs w b ph l){s t i j:Nat}(hs:isSd s)(hi:i∈b.q s)(ht:isSd t)(hj:j∈b.q t)(e:b.adr j=b.adr i):j=i:=by
 have h1:=(h.ord t ht j hj).c.c6
 have h2:=(h.ord s hs i hi).c.c6
 rw[e,h2] at h1
 simp at h1
 omega
theorem BKs.ordM (h:BKs w b ph l){s i:Nat}(hs:isSd s)(hi:i∈b.q s):b.M≠b.adr i:=by
 intro e
 obtain ⟨es,clock,h1,_⟩:=h.ids
 have h2:=h.ord s hs i hi
 unfold OB at h2
 rw[←e,h1] at h2
 cases h2
theorem wt_typ (ph:Nat)(o o':Od)(h:o'.typ=o.typ):wt ph o'=wt ph o:=by
 unfold wt
 rw[h]
theorem BKs.trade {m:Mk}{s t i k n p:Nat}(h:BKs W b m.phase m.all)(hs:isSd s)(hi:i∈b.q s)(ht:isSd t)(hk:k∈b.q t)(hik:i≠k)(hil:i<m.all.length)(hkl:k<m.all.length)
  (o1:OB W' (b.adr i) {nth m.all i with rest:=(nth m.all i).rest-n} (wt m.phase (nth m.all i)) i)(o2:OB W' (b.adr k) {nth m.all k with rest:=(nth m.all k).rest-n} (wt m.phase (nth m.all k)) k)
  (hT:Tch (fun g=>g=b.adr i\/g=b.adr k) W W'):BKs W' b (zbn m i k n p).phase (zbn m i k n p).all:=by
 have hT1: ∀g,b.T g->g≠b.adr i/\g≠b.adr k:=fun g hg=>⟨fun e=>h.ordT hs hi (e▸hg),fun e=>h.ordT ht hk (e▸hg)⟩
 have hsame: ∀g,b.F g->g≠b.adr i/\g≠b.adr k->W'.heap[g]?=W.heap[g]?:=fun g hg hn=>hT.blk g (h.lt hg) (fun e=>e.elim hn.1 hn.2)
 refine⟨(hsame _ (.inl rfl) (hT1 _ (.inl rfl))).trans h.blk,fun s' hs'=>zb6 (h.row s' hs') fun g hg=>hsame g (.inr (.inr ⟨s',hs',.inl hg⟩)) (hT1 g ?_),fun s' hs' j hj=>?_,h.sep,?_,h.cnt⟩
 .rcases hs' with rfl|rfl
  .exact .inr (.inl hg)
  .exact .inr (.inr hg)
 .rw[zb4,zh7 m i k n p j hil hkl hik]
  by_cases h1:j=i
  .subst h1
   rw[if_pos (.inl rfl)]
   exact o1
  .by_cases h2:j=k
   .subst h2
    rw[if_pos (.inr rfl)]
    exact o2
   .rw[if_neg (fun e=>e.elim h1 h2)]
    exact(hsame _ (.inr (.inr ⟨s',hs',.inr ⟨j,hj,rfl⟩⟩)) ⟨fun e=>h1 (h.adrOne hs hi hs' hj e),fun e=>h2 (h.adrOne ht hk hs' hj e)⟩).trans (h.ord s' hs' j hj)
 .rw[zh8,ids_trade]
  exact zcj h.ids (hsame _ (.inr (.inl rfl)) ⟨h.ordM hs hi,h.ordM ht hk⟩)
structure zgf (W:World) (E B:Nat) (T:List Td) (v:Value):Prop where
 var:Vb W E v
 row:W.ownsRow B 233 4 v T.length (tdcs T)
 sep:v.ownBlock≠some E
variable {T:List Td} {v:Value}
theorem zgf.same (h:zgf W E B T v)(hs:W.heap.size<=W'.heap.size)(hE:W'.heap[E]?=W.heap[E]?)(hv: ∀g,v.ownBlock=some g->W'.heap[g]?=W.heap[g]?):zgf W' E B T v:=
 ⟨h.var.same hs hE,zb6 h.row hv,h.sep⟩
theorem zgf.kept {row:Option Nat}(h:zgf W E B T v)(hg:W.grownBy W' row)(hr: ∀r,row=some r-> ∃o:Obj,W.heap[r]?=some o/\o.isCells=false):zgf W' E B T v:=
 ⟨h.var.kept hg hr,zgm h.row hg hr,h.sep⟩
theorem zgf.ext (h:zgf W E B T v)(hb:Below W.heap.size W W'):zgf W' E B T v:=
 h.same hb.size (hb.block E h.var.lt) (fun g hg=>hb.block g (h.row.lt g hg).2)
theorem tdcs_snoc (T:List Td)(t:Td):tdcs (T++[t])=tdcs T++tdc t:=by
 unfold tdcs
 simp
theorem zgf.push {v':Value}{t:Td}(h:zgf W E B T v)(hG:Grew B 233 4 W v W' v' (T.length+1) (tdcs T++tdc t)):
  zgf (W'.setCell ⟨E,0,none⟩ v') E B (T++[t]) v'/\W'.cell? ⟨E,0,none⟩=some v/\W'.frozen? ⟨E,0,none⟩=false:=by
 have hv:=h.var.same hG.grown.size (hG.grown.block E h.var.lt (fun e=>h.sep e.symm))
 have hsep:v'.ownBlock≠some E:=by
  rcases hG.lies with h1|h1
  .rw[h1];exact h.sep
  .intro e;have:=h1 E e;have:=h.var.lt;omega
 refine⟨⟨hv.set _,?_,hsep⟩,hv.cell,hv.free⟩
 rw[tdcs_snoc]
 exact zb1 (by simpa using hG.own) E 0 _ hsep
theorem Tryz.infoTrade:(Tryz.prog.info? 233).map (fun i=>(i.zero,i.size,i.bytes))=some (some (.agg #[.int .i64 0,.int .i64 0,.int .i64 0,.int .i64 0]),4,32):=by kernel_rfl
theorem facing_any (K:Nat)(s:Nat)(hs:isSd s)(w:World)(R:EW)(hR: ∀w',Itr w' w.heap.size (w.heap.size+1) K (3-s)->Below w.heap.size w w'->R (.returned (itv w.heap.size (w.heap.size+1))) w'):
  Calls Tryz.prog 203 #[.pointer (some ⟨K,0,none⟩),.int .i64 (s:Nat)] w R:=by
 have HR:=zl hR
 clear hR
 rcases hs with rfl|rfl
 .go_enter Tryz.func203,Tryz.ntmps203
  go_wp2_with fail
  refine zh0 K _ _ ?_
  intro w' h1 h2
  have hfin:=zl (HR.o w' h1 h2)
  clear h1 h2 HR
  unfold itv at *
  go_wp2_with fail
  exact hfin.o
 .go_enter Tryz.func203,Tryz.ntmps203
  go_wp2_with fail
  refine zj2 K _ _ ?_
  intro w' h1 h2
  have hfin:=zl (HR.o w' h1 h2)
  clear h1 h2 HR
  unfold itv at *
  go_wp2_with fail
  exact hfin.o
end
section
open Go.RowKit Go.Shelf
attribute [local go_sem] Oper.semAt_some
structure MP (b:Bk) (m:Mk) (k0 f0:Nat) (mc:Mk) (T:List Td) (f:Nat):Prop where
 fin:zbd (nth m.all k0) k0 f mc=zbd (nth m.all k0) k0 f0 m
 fuel:(nth mc.all k0).rest<=f
 out:outs mc=outs m++T.map tdev
 ph:mc.phase=m.phase
 len:mc.all.length=m.all.length
 sh: ∀j,(nth mc.all j).side=(nth m.all j).side/\(nth mc.all j).typ=(nth m.all j).typ/\(nth mc.all j).price=(nth m.all j).price/\(nth mc.all j).rest<=(nth m.all j).rest
 ok:zdm mc.all
 qd: ∀s,isSd s->Qd mc.all s (b.q s)
def MSeen (b:Bk) (s k0 k:Nat) (mc:Mk):Prop:= ∀j∈(b.q s).take k,bk mc.phase (nth mc.all j)=false\/(nth mc.all k0).rest=0
variable {Eo Et f f0 k0 ph:Nat} {o:Od}
theorem bk_less {o':Od}(ht:o'.typ=o.typ)(hr:o'.rest<=o.rest)(h:bk ph o=false):bk ph o'=false:=by
 rw[zj3] at *
 rw[wt_typ ph o o' ht]
 cases hw:wt ph o with
 |true=>rfl
 |false=>
  rw[hw] at h
  simp only[Bool.not_false,Bool.true_and,decide_eq_false_iff_not] at *
  omega
theorem tk_shape {a:Od}(p:Nat)(h1:o.side=a.side)(h2:o.typ=a.typ)(h3:o.price=a.price):tk o p=tk a p:=by
 unfold tk pl
 rw[h1,h2,h3]
variable {b:Bk} {T:List Td} {m mc:Mk}
theorem MP.first (h:MP b m k0 f0 mc T f){s k:Nat}(hs:isSd s)(hk:k<(b.q s).length)(hsn:MSeen b s k0 k mc)(hr:(nth mc.all k0).rest≠0)(hb:bk mc.phase (nth mc.all (qat (b.q s) k))=true):
  za0 mc.phase mc.all s mc.all.length=(qat (b.q s) k:Nat):=by
 have hq:=h.qd s hs
 rw[split_at (b.q s) k hk] at hq
 exact hq.first mc.phase h.ok (fun j hj=>(hsn j hj).resolve_right hr) hb
theorem MP.step (h:MP b m k0 f0 mc T f){s k:Nat}(hs:isSd s)(h0:isSd (nth m.all k0).side)(hsd:s=3-(nth m.all k0).side)(hk0:k0<m.all.length)(hk:k<(b.q s).length)(hsn:MSeen b s k0 k mc)(hr:(nth mc.all k0).rest≠0)
  (hb:bk mc.phase (nth mc.all (qat (b.q s) k))=true)(ht:tkP (nth mc.all k0) (nth mc.all (qat (b.q s) k)).price=true):
  ∃mc' f',mc'=zbn mc k0 (qat (b.q s) k) (min (nth mc.all k0).rest (nth mc.all (qat (b.q s) k)).rest) (nth mc.all (qat (b.q s) k)).price/\
   MP b m k0 f0 mc' (T++[tdOf (nth mc.all k0) (nth mc.all (qat (b.q s) k)) (min (nth mc.all k0).rest (nth mc.all (qat (b.q s) k)).rest) (nth mc.all (qat (b.q s) k)).price]) f'/\MSeen b s k0 (k+1) mc':=by
 have hfirst:=h.first hs hk hsn hr hb
 obtain ⟨hjl,hjs⟩:=(h.qd s hs).inn _ (zbk (b.q s) k hk)
 have hmem: ∀j∈(b.q s).take (k+1),j∈(b.q s).take k\/j=qat (b.q s) k:=fun j hj=>zcw (b.q s) k j hj hk
 generalize qat (b.q s) k=j at *
 obtain ⟨s1,s2,s3,_⟩:=h.sh k0
 have hpj:(nth mc.all j).price<=1000000:=(h.ok j hjl).price
 have ht':tk (nth m.all k0) (nth mc.all j).price=true:=by
  rw[←tk_shape _ s1 s2 s3,←tkP_eq (h.ok k0 (by rw[h.len];exact hk0)) _ (by omega)]
  exact ht
 have hkl:k0<mc.all.length:=by rw[h.len];exact hk0
 have hne:k0≠j:=by
  intro e
  rw[←e,s1] at hjs
  rcases h0 with h0|h0<;>rw[h0] at hsd hjs<;>omega
 have hbp:=zeb hb
 obtain ⟨g,rfl⟩: ∃g,f=g+1:=⟨f-1,by have:=h.fuel;omega⟩
 obtain ⟨n,hn⟩: ∃n,min (nth mc.all k0).rest (nth mc.all j).rest=n:=⟨_,rfl⟩
 obtain ⟨p,hp⟩: ∃p,(nth mc.all j).price=p:=⟨_,rfl⟩
 have hstep:=zem (nth m.all k0) k0 g j mc hr (by rw[←hsd];exact hfirst) ht'
 rw[hn,hp] at hstep
 rw[hn,hp]
 have heq:(if (nth m.all k0).side=1 then za3 mc k0 j n p else za3 mc j k0 n p)=zbn mc k0 j n p:=by
  unfold zbn
  rw[s1]
 rw[heq] at hstep
 obtain ⟨k1,k2⟩:=ziz mc k0 j n p hkl hjl hne
 have hnth:=fun x=>zh7 mc k0 j n p x hkl hjl hne
 refine⟨_,g,rfl,⟨hstep.symm.trans h.fin,?_,?_,?_,?_,?_,k1 h.ok,fun s hs=>k2 s _ (h.qd s hs)⟩,?_⟩
 .rw[hnth,if_pos (.inl rfl)]
  have:=h.fuel
  dsimp only
  omega
 .rw[zj8 mc k0 j n p (by rw[s1];exact h0),h.out]
  simp
 .rw[zb4,h.ph]
 .rw[zh8,h.len]
 .intro x
  have:=h.sh x
  rw[hnth]
  split
  .dsimp only
   omega
  .exact this
 .intro x hx
  rw[zb4]
  have hle: ∀y,(nth (zbn mc k0 j n p).all y).typ=(nth mc.all y).typ/\(nth (zbn mc k0 j n p).all y).rest<=(nth mc.all y).rest:=by
   intro y
   rw[hnth]
   split
   .exact⟨rfl,by dsimp only;omega⟩
   .exact⟨rfl,nr⟩
  rcases hmem x hx with h1|rfl
  .exact .inl (bk_less (hle x).1 (hle x).2 ((hsn x h1).resolve_right hr))
  .by_cases hc:(nth mc.all k0).rest<=(nth mc.all x).rest
   .right
    rw[hnth,if_pos (.inl rfl)]
    dsimp only
    omega
   .left
    rw[zj3,hnth,if_pos (.inr rfl)]
    dsimp only
    have:(nth mc.all x).rest-n=0:=by omega
    rw[this]
    simp
theorem MP.stop (h:MP b m k0 f0 mc T f){s k:Nat}(hs:isSd s)(hsd:s=3-(nth m.all k0).side)(hk0:k0<m.all.length)(hk:k<(b.q s).length)(hsn:MSeen b s k0 k mc)
  (hb:bk mc.phase (nth mc.all (qat (b.q s) k))=true)(ht:(nth mc.all k0).rest=0\/tkP (nth mc.all k0) (nth mc.all (qat (b.q s) k)).price=false):zbd (nth m.all k0) k0 f0 m=mc:=by
 rw[←h.fin]
 by_cases hr:(nth mc.all k0).rest=0
 .exact zen _ _ _ _ hr
 .have hfirst:=h.first hs hk hsn hr hb
  obtain ⟨hjl,_⟩:=(h.qd s hs).inn _ (zbk (b.q s) k hk)
  obtain ⟨s1,s2,s3,_⟩:=h.sh k0
  have hpj:=(h.ok _ hjl).price
  refine zeu _ _ _ _ _ (by rw[←hsd];exact hfirst) ?_
  rw[←tk_shape _ s1 s2 s3,←tkP_eq (h.ok k0 (by rw[h.len];exact hk0)) _ (by omega)]
  exact ht.resolve_left hr
theorem MP.done (h:MP b m k0 f0 mc T f){s:Nat}(hs:isSd s)(hsd:s=3-(nth m.all k0).side)(hsn:MSeen b s k0 (b.q s).length mc):zbd (nth m.all k0) k0 f0 m=mc:=by
 rw[←h.fin]
 by_cases hr:(nth mc.all k0).rest=0
 .exact zen _ _ _ _ hr
 .refine zfh _ _ _ _ ?_
  rw[←hsd]
  refine(h.qd s hs).none mc.phase fun j hj=>?_
  exact(hsn j (by rw[List.take_length];exact hj)).resolve_right hr
structure MW (b:Bk) (w:World) (k0 Eo Et:Nat) (mc:Mk) (T:List Td) (v:Value) (W:World):Prop where
 bks:BKs W b mc.phase mc.all
 vo:Vb W Eo (.pointer (some ⟨b.adr k0,0,none⟩))
 tv:zgf W Et w.heap.size T v
 tch:Tch b.F w W
 so:v.ownBlock≠some Eo
variable {row:Option Nat} {W W' w:World}
theorem BKs.kept {l:List Od}(h:BKs W b ph l)(hg:W.grownBy W' row)(hr: ∀r,row=some r-> ¬b.F r):BKs W' b ph l:=
 h.keep fun g hF=>hg.block g (h.lt hF) fun e=>hr g e.symm hF
variable {v:Value}
theorem MW.kept (h:MW b w k0 Eo Et mc T v W)(hF: ∀g,b.F g->g<w.heap.size)(hg:W.grownBy W' row)(hr: ∀r,row=some r->w.heap.size<=r/\ ∃o:Obj,W.heap[r]?=some o/\o.isCells=false):MW b w k0 Eo Et mc T v W':=
 ⟨h.bks.kept hg (fun r e hf=>by have:=hF r hf;have:=(hr r e).1;omega),h.vo.kept hg (fun r e=>(hr r e).2),h.tv.kept hg (fun r e=>(hr r e).2),
  h.tch.andThen hg.os hg.tape hg.output hg.size (fun g hgl _=>hg.block g (lll hgl h.tch.size) (fun e=>by have:=(hr g e.symm).1;omega)),h.so⟩
theorem MW.ext (h:MW b w k0 Eo Et mc T v W)(hb:Below W.heap.size W W'):MW b w k0 Eo Et mc T v W':=
 ⟨h.bks.ext hb,h.vo.ext hb,h.tv.ext hb,h.tch.andThen hb.os hb.tape hb.output hb.size (fun g hg _=>hb.block g (lll hg h.tch.size)),h.so⟩
theorem Tch.widen {F F':Nat->Prop}{w':World}(h:Tch F' w w')(hs: ∀g,F' g->F g):Tch F w w':=⟨h.os,h.tape,h.output,h.size,fun g hg hn=>h.blk g hg fun e=>hn (hs g e)⟩
theorem MW.push {t:Td}{v':Value}(h:MW b w k0 Eo Et mc T v W)(hF: ∀g,b.F g->g<w.heap.size)(hEt:w.heap.size<=Et)(hE:Eo≠Et)(hG:Grew w.heap.size 233 4 W v W' v' (T.length+1) (tdcs T++tdc t)):
  MW b w k0 Eo Et mc (T++[t]) v' (W'.setCell ⟨Et,0,none⟩ v')/\W'.cell? ⟨Et,0,none⟩=some v/\W'.frozen? ⟨Et,0,none⟩=false:=by
 obtain ⟨h1,h2,h3⟩:=h.tv.push hG
 have hrow: ∀r,v.ownBlock=some r->w.heap.size<=r:=fun r e=>(h.tv.row.lt r e).1
 refine⟨⟨?_,?_,h1,?_,?_⟩,h2,h3⟩
 .refine(h.bks.kept hG.grown (fun r e hf=>by have:=hF r hf;have:=hrow r e;omega)).keep fun g hg=>?_
  exact bhs _ _ _ _ (fun e=>by have:=hF g hg;have:g=Et:=e;omega)
 .exact((h.vo.same hG.grown.size (hG.grown.block Eo h.vo.lt (fun e=>h.so e.symm))).set_other (fun e=>hE e.symm))
 .refine h.tch.andThen hG.grown.os hG.grown.tape hG.grown.output (by simpa [World.setCell] using hG.grown.size) fun g hg _=>?_
  rw[bhs _ _ _ _ (fun e=>by have:g=Et:=e;omega)]
  exact hG.grown.block g (lll hg h.tch.size) (fun e=>by have:=hrow g e.symm;omega)
 .rcases hG.lies with e|e
  .rw[e];exact h.so
  .intro e2
   have:=e _ e2
   have:=h.vo.lt
   omega
end
