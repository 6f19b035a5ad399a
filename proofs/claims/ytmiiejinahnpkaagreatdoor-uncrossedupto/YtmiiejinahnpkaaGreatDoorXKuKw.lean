import Derived.Test.YtmiiejinahnpkaaGreatDoorXKsKv
import Derived.Test.YtmiiejinahnpkaaGreatDoorXBmCd
set_option maxRecDepth 8000
set_option maxHeartbeats 1000000
namespace Go.Proofs.YtmiiejinahnpkaaGreatDoor
open Go.RowKit
section
structure Rd (w W:World) (B:Nat) (a:Option Addr) (N c:Nat) (X:Nat->Int) (p:Nat):Prop where
 rdr:Rdr W B (.slice a N c) p 0
 bs:BsAt W a N X
 gb:w.grownBy W (some B)
 lt:B<w.heap.size
 cap:N<=c
 n:N<=1048576
 byt: ∀i,i<N->0<=X i/\X i<=255
 apart:0<N-> ∀b o,a=some ⟨b,o,none⟩->b≠B/\b<w.heap.size
variable {B N c p:Nat} {X:Nat->Int} {a:Option Addr} {W w:World}
theorem Rd.alloc (h:Rd w W B a N c X p)(o:Obj):Rd w (W.alloc o) B a N c X p:=
 ⟨h.rdr.ext (zac W o),h.bs.below (zac W o) nr,zat h.gb (zbf (zac W o)),h.lt,h.cap,h.n,h.byt,h.apart⟩
theorem Rd.grown {W':World}{p':Nat}(h:Rd w W B a N c X p)(hr:Rdr W' B (.slice a N c) p' 0)(hg:W.grownBy W' (some B)):Rd w W' B a N c X p':=
 ⟨hr,h.bs.grown hg (fun h0 b o e=>(h.apart h0 b o e).1),zat h.gb hg,h.lt,h.cap,h.n,h.byt,h.apart⟩
theorem Rd.set {C i:Nat}{v:Value}(h:Rd w W B a N c X p)(hC:w.heap.size<=C):Rd w (W.setCell ⟨C,i,none⟩ v) B a N c X p:=by
 have hg:W.grownBy (W.setCell ⟨C,i,none⟩ v) (some C):=zca W C i v
 have hB:B≠C:=by have:=h.lt;omega
 refine⟨h.rdr.grown hg (by simp;omega),?_,?_,h.lt,h.cap,h.n,h.byt,h.apart⟩
 .exact h.bs.grown hg fun h0 b o e=>by have:=(h.apart h0 b o e).2;omega
 .refine⟨h.gb.os,h.gb.tape,h.gb.output,llt h.gb.size (by simp[World.setCell]),fun g hg' hne=>?_⟩
  rw[bhs W ⟨C,i,none⟩ v g (by show g≠C;omega)]
  exact h.gb.block g hg' hne
def zkz (e:Int):Value:= .iface 95 (.agg #[.int .i64 e,.int .i64 ((0:Nat):Int)])
theorem numR (w W:World)(B:Nat)(a:Option Addr)(N c:Nat)(X:Nat->Int)(p:Nat)(R:EW)(h:Rd w W B a N c X p)(hp:p<=N)
  (hR1:N<p+4-> ∀e W',w.grownBy W' (some B)->R (.panicked [{v:=zkz e,recovered:=false}]) W')
  (hR2:p+4<=N-> ∀W',Rd w W' B a N c X (p+4)->(∀g,g<W.heap.size->g≠B->W'.heap[g]?=W.heap[g]?)->R (.returned (.int .i64 (nb X p 4))) W'):
  Calls Tryz.prog 85 #[.pointer (some ⟨B,0,none⟩)] W R:=
 zkm B a N c p 0 X W R h.rdr (llt h.n (by decide)) h.cap hp h.bs h.byt (fun h0 b o e=>(h.apart h0 b o e).1) (fun h1 w' hb=>hR1 h1 2 w' (zat h.gb (zbf hb)))
  fun h1 w' hr hg=>hR2 h1 w' (h.grown hr hg) fun g hl hne=>hg.block g hl (by simpa using hne)
theorem choR (w W:World)(B:Nat)(a:Option Addr)(N c:Nat)(X:Nat->Int)(p:Nat)(M:Int)(last:Nat)(hM:M=(last:Nat))(R:EW)(h:Rd w W B a N c X p)(hp:p<=N)(hlast:last<=255)
  (hR1:(N<p+1\/ ¬(1<=X p/\X p<=last))-> ∀e W',w.grownBy W' (some B)->R (.panicked [{v:=zkz e,recovered:=false}]) W')
  (hR2:p+1<=N->1<=X p/\X p<=last-> ∀W',Rd w W' B a N c X (p+1)->(∀g,g<W.heap.size->g≠B->W'.heap[g]?=W.heap[g]?)->R (.returned (.int .i64 (X p))) W'):
  Calls Tryz.prog 84 #[.pointer (some ⟨B,0,none⟩),.int .i64 M] W R:=
 choice_of B a N c p 0 M last hM X W R h.rdr (llt h.n (by decide)) h.cap hp hlast h.bs h.byt (fun h0 b o e=>(h.apart h0 b o e).1) (fun h1 w' hb=>hR1 (.inl h1) 2 w' (zat h.gb (zbf hb)))
  (fun _ h1 w' hg=>hR1 (.inr h1) 3 w' (zat h.gb hg))
  fun h1 h2 w' hr hg=>hR2 h1 h2 w' (h.grown hr hg) fun g hl hne=>hg.block g hl (by simpa using hne)
theorem Tryz.sizeCommand:(Tryz.prog.info? 113).map (·.size)=some 7:=by kernel_rfl
def isCmd (X:Nat->Int) (N:Nat):Prop:=0<N/\((X 0=1/\N=15/\(1<=X 5/\X 5<=2)/\1<=X 6/\X 6<=4)\/(X 0=2/\N=5)\/(X 0=3/\N=9)\/(X 0=4/\N=5))
def cmi (k id sd ty q p t:Int):Value:= .agg #[.int .i64 k,.int .i64 id,.int .i64 sd,.int .i64 ty,.int .i64 q,.int .i64 p,.int .i64 t]
theorem pCommand_any (B:Nat)(a:Option Addr)(N c:Nat)(X:Nat->Int)(w:World)(R:EW)(h:Rd w w B a N c X 0)
  (hRp: ¬isCmd X N-> ∀e w',w.grownBy w' (some B)->R (.panicked [{v:=zkz e,recovered:=false}]) w')
  (hR1:X 0=1/\N=15/\(1<=X 5/\X 5<=2)/\1<=X 6/\X 6<=4-> ∀w',w.grownBy w' (some B)->R (.returned (cmi 1 (nb X 1 4) (X 5) (X 6) (nb X 7 4) (nb X 11 4) 0)) w')
  (hR2:X 0=2/\N=5-> ∀w',w.grownBy w' (some B)->R (.returned (cmi 2 (nb X 1 4) 0 0 0 0 0)) w')
  (hR3:X 0=3/\N=9-> ∀w',w.grownBy w' (some B)->R (.returned (cmi 3 (nb X 1 4) 0 0 (nb X 5 4) 0 0)) w')
  (hR4:X 0=4/\N=5-> ∀w',w.grownBy w' (some B)->R (.returned (cmi 4 0 0 0 0 0 (nb X 1 4))) w'):
  Calls Tryz.prog 59 #[.pointer (some ⟨B,0,none⟩)] w R:=by
 have HRp:=zl hRp
 have HR1:=zl hR1
 have HR2:=zl hR2
 have HR3:=zl hR3
 have HR4:=zl hR4
 have H0:Hid (Rd w (w.alloc (.cells #[.int .i64 0,.int .i64 0,.int .i64 0,.int .i64 0,.int .i64 0,.int .i64 0,.int .i64 0] 113)) B a N c X 0):=h.alloc _
 have HZ:Hid ((w.alloc (.cells #[.int .i64 0,.int .i64 0,.int .i64 0,.int .i64 0,.int .i64 0,.int .i64 0,.int .i64 0] 113)).heap[w.heap.size]?=some (.cells #[.int .i64 0,.int .i64 0,.int .i64 0,.int .i64 0,.int .i64 0,.int .i64 0,.int .i64 0] 113 (0,0))):=World.alloc_heap_new w _
 have hs0:(w.alloc (.cells #[.int .i64 0,.int .i64 0,.int .i64 0,.int .i64 0,.int .i64 0,.int .i64 0,.int .i64 0] 113)).heap.size=w.heap.size+1:=by simp
 have hBl:=h.lt
 clear hRp hR1 hR2 hR3 hR4 h
 go_enter Tryz.func59,Tryz.ntmps59
 go_wp2_with fail
 generalize w.alloc (.cells #[.int .i64 0,.int .i64 0,.int .i64 0,.int .i64 0,.int .i64 0,.int .i64 0,.int .i64 0] 113)=A at *
 refine choR w _ B a N c X 0 _ 4 rfl _ H0.o (Nat.zero_le _) (by decide) ?_ ?_
 .intro hno e W' hg
  refine⟨rfl,HRp.o ?_ e W' hg⟩
  rintro ⟨h1,h2⟩
  rcases hno with h3|h3
  .omega
  .exact h3 (by rcases h2 with h2|h2|h2|h2<;>omega)
 intro hn1 hk W1 hr1 hsame1
 have hz1:W1.heap[w.heap.size]?=some (.cells #[.int .i64 0,.int .i64 0,.int .i64 0,.int .i64 0,.int .i64 0,.int .i64 0,.int .i64 0] 113 (0,0)):=(hsame1 _ (by omega) (by omega)).trans HZ.o
 have hs1:w.heap.size+1<=W1.heap.size:=by
  have:=(gsi.1 hz1).1
  omega
 have HRd1:=zl hr1
 have HZ1:=zl hz1
 clear hsame1 hr1 H0 HZ hs0 hz1
 obtain ⟨x0,hx0⟩: ∃x0,X 0=x0:=⟨_,rfl⟩
 have Hx0:=zl hx0
 rw[hx0] at hk
 rw[hx0]
 clear hx0
 have hcase:x0=1\/x0=2\/x0=3\/x0=4:=by omega
 rcases hcase with rfl|rfl|rfl|rfl
 .have hbC:=zac W1 (.cells #[.int .i64 1,.int .i64 0,.int .i64 0,.int .i64 0,.int .i64 0,.int .i64 0,.int .i64 0] 113)
  have HA:Hid (Rd w (W1.alloc (.cells #[.int .i64 1,.int .i64 0,.int .i64 0,.int .i64 0,.int .i64 0,.int .i64 0,.int .i64 0] 113)) B a N c X 1):=HRd1.o.alloc _
  have HC:Hid ((W1.alloc (.cells #[.int .i64 1,.int .i64 0,.int .i64 0,.int .i64 0,.int .i64 0,.int .i64 0,.int .i64 0] 113)).heap[W1.heap.size]?=some (.cells #[.int .i64 1,.int .i64 0,.int .i64 0,.int .i64 0,.int .i64 0,.int .i64 0,.int .i64 0] 113 (0,0))):=World.alloc_heap_new W1 _
  have HD:Hid ((W1.alloc (.cells #[.int .i64 1,.int .i64 0,.int .i64 0,.int .i64 0,.int .i64 0,.int .i64 0,.int .i64 0] 113)).heap[w.heap.size]?=some (.cells #[.int .i64 0,.int .i64 0,.int .i64 0,.int .i64 0,.int .i64 0,.int .i64 0,.int .i64 0] 113 (0,0))):=zau hbC HZ1.o
  clear hbC HRd1 HZ1
  go_wp2_with fail
  generalize W1.alloc (.cells #[.int .i64 1,.int .i64 0,.int .i64 0,.int .i64 0,.int .i64 0,.int .i64 0,.int .i64 0] 113)=V0 at *
  generalize hnC:W1.heap.size=nC at *
  refine numR w _ B a N c X 1 _ HA.o (by omega) ?_ ?_
  .intro hno e W' hg
   refine⟨rfl,HRp.o ?_ e W' hg⟩
   rintro ⟨_,h2⟩
   have h0:=Hx0.o
   rcases h2 with h2|h2|h2|h2<;>omega
  intro hn0 U0 hr0 hs0
  have hc0:U0.heap[nC]?=some (.cells #[.int .i64 1,.int .i64 0,.int .i64 0,.int .i64 0,.int .i64 0,.int .i64 0,.int .i64 0] 113 (0,0)):=(hs0 _ (gsi.1 HC.o).1 (by omega)).trans HC.o
  have hd0:U0.heap[w.heap.size]?=some (.cells #[.int .i64 0,.int .i64 0,.int .i64 0,.int .i64 0,.int .i64 0,.int .i64 0,.int .i64 0] 113 (0,0)):=(hs0 _ (gsi.1 HD.o).1 (by omega)).trans HD.o
  have hc0':(U0.setCell ⟨nC,1,none⟩ (.int .i64 (nb X 1 4))).heap[nC]?=some (.cells #[.int .i64 1,.int .i64 (nb X 1 4),.int .i64 0,.int .i64 0,.int .i64 0,.int .i64 0,.int .i64 0] 113 (0,0)):=by
   have:=zbb (j:=1) (v:= .int .i64 (nb X 1 4)) hc0
   simpa using this
  have hd0':(U0.setCell ⟨nC,1,none⟩ (.int .i64 (nb X 1 4))).heap[w.heap.size]?=some (.cells #[.int .i64 0,.int .i64 0,.int .i64 0,.int .i64 0,.int .i64 0,.int .i64 0,.int .i64 0] 113 (0,0)):=(bhs U0 ⟨nC,1,none⟩ _ _ (by show w.heap.size≠nC;omega)).trans hd0
  have hr0':=hr0.set (C:=nC) (i:=1) (v:= .int .i64 (nb X 1 4)) (by omega)
  have cf0:U0.cell? ⟨nC,1,none⟩=some (.int .i64 0):=by rw[cell_of_row _ _ 1 _ _ (0,0) hc0];rfl
  have qf0:U0.frozen? ⟨nC,1,none⟩=false:=by simp[World.frozen?,hc0]
  clear HA HC HD hs0 hc0 hd0 hr0
  obtain ⟨y0,hy0⟩: ∃y,nb X 1 4=y:=⟨_,rfl⟩
  rw[hy0] at hc0' hd0' hr0' ⊢
  have Hy0:=zl hy0
  clear hy0
  have HA:=zl hr0'
  have HC:=zl hc0'
  have HD:=zl hd0'
  clear hr0' hc0' hd0'
  go_wp2_with fail
  generalize U0.setCell ⟨nC,1,none⟩ (.int .i64 y0)=V1 at *
  clear cf0 qf0
  refine choR w _ B a N c X 5 _ 2 rfl _ HA.o (by omega) (by decide) ?_ ?_
  .intro hno e W' hg
   refine⟨rfl,HRp.o ?_ e W' hg⟩
   rintro ⟨_,h2⟩
   have h0:=Hx0.o
   rcases h2 with h2|h2|h2|h2<;>omega
  intro hn1 hv1 U1 hr1 hs1
  have hc1:U1.heap[nC]?=some (.cells #[.int .i64 1,.int .i64 y0,.int .i64 0,.int .i64 0,.int .i64 0,.int .i64 0,.int .i64 0] 113 (0,0)):=(hs1 _ (gsi.1 HC.o).1 (by omega)).trans HC.o
  have hd1:U1.heap[w.heap.size]?=some (.cells #[.int .i64 0,.int .i64 0,.int .i64 0,.int .i64 0,.int .i64 0,.int .i64 0,.int .i64 0] 113 (0,0)):=(hs1 _ (gsi.1 HD.o).1 (by omega)).trans HD.o
  have hc1':(U1.setCell ⟨nC,2,none⟩ (.int .i64 (X 5))).heap[nC]?=some (.cells #[.int .i64 1,.int .i64 y0,.int .i64 (X 5),.int .i64 0,.int .i64 0,.int .i64 0,.int .i64 0] 113 (0,0)):=by
   have:=zbb (j:=2) (v:= .int .i64 (X 5)) hc1
   simpa using this
  have hd1':(U1.setCell ⟨nC,2,none⟩ (.int .i64 (X 5))).heap[w.heap.size]?=some (.cells #[.int .i64 0,.int .i64 0,.int .i64 0,.int .i64 0,.int .i64 0,.int .i64 0,.int .i64 0] 113 (0,0)):=(bhs U1 ⟨nC,2,none⟩ _ _ (by show w.heap.size≠nC;omega)).trans hd1
  have hr1':=hr1.set (C:=nC) (i:=2) (v:= .int .i64 (X 5)) (by omega)
  have cf1:U1.cell? ⟨nC,2,none⟩=some (.int .i64 0):=by rw[cell_of_row _ _ 2 _ _ (0,0) hc1];rfl
  have qf1:U1.frozen? ⟨nC,2,none⟩=false:=by simp[World.frozen?,hc1]
  clear HA HC HD hs1 hc1 hd1 hr1
  obtain ⟨y1,hy1⟩: ∃y,X 5=y:=⟨_,rfl⟩
  rw[hy1] at hc1' hd1' hr1' hv1 ⊢
  have Hy1:=zl hy1
  clear hy1
  have HA:=zl hr1'
  have HC:=zl hc1'
  have HD:=zl hd1'
  clear hr1' hc1' hd1'
  go_wp2_with fail
  generalize U1.setCell ⟨nC,2,none⟩ (.int .i64 y1)=V2 at *
  clear cf1 qf1
  refine choR w _ B a N c X 6 _ 4 rfl _ HA.o (by omega) (by decide) ?_ ?_
  .intro hno e W' hg
   refine⟨rfl,HRp.o ?_ e W' hg⟩
   rintro ⟨_,h2⟩
   have h0:=Hx0.o
   rcases h2 with h2|h2|h2|h2<;>omega
  intro hn2 hv2 U2 hr2 hs2
  have hc2:U2.heap[nC]?=some (.cells #[.int .i64 1,.int .i64 y0,.int .i64 y1,.int .i64 0,.int .i64 0,.int .i64 0,.int .i64 0] 113 (0,0)):=(hs2 _ (gsi.1 HC.o).1 (by omega)).trans HC.o
  have hd2:U2.heap[w.heap.size]?=some (.cells #[.int .i64 0,.int .i64 0,.int .i64 0,.int .i64 0,.int .i64 0,.int .i64 0,.int .i64 0] 113 (0,0)):=(hs2 _ (gsi.1 HD.o).1 (by omega)).trans HD.o
  have hc2':(U2.setCell ⟨nC,3,none⟩ (.int .i64 (X 6))).heap[nC]?=some (.cells #[.int .i64 1,.int .i64 y0,.int .i64 y1,.int .i64 (X 6),.int .i64 0,.int .i64 0,.int .i64 0] 113 (0,0)):=by
   have:=zbb (j:=3) (v:= .int .i64 (X 6)) hc2
   simpa using this
  have hd2':(U2.setCell ⟨nC,3,none⟩ (.int .i64 (X 6))).heap[w.heap.size]?=some (.cells #[.int .i64 0,.int .i64 0,.int .i64 0,.int .i64 0,.int .i64 0,.int .i64 0,.int .i64 0] 113 (0,0)):=(bhs U2 ⟨nC,3,none⟩ _ _ (by show w.heap.size≠nC;omega)).trans hd2
  have hr2':=hr2.set (C:=nC) (i:=3) (v:= .int .i64 (X 6)) (by omega)
  have cf2:U2.cell? ⟨nC,3,none⟩=some (.int .i64 0):=by rw[cell_of_row _ _ 3 _ _ (0,0) hc2];rfl
  have qf2:U2.frozen? ⟨nC,3,none⟩=false:=by simp[World.frozen?,hc2]
  clear HA HC HD hs2 hc2 hd2 hr2
  obtain ⟨y2,hy2⟩: ∃y,X 6=y:=⟨_,rfl⟩
  rw[hy2] at hc2' hd2' hr2' hv2 ⊢
  have Hy2:=zl hy2
  clear hy2
  have HA:=zl hr2'
  have HC:=zl hc2'
  have HD:=zl hd2'
  clear hr2' hc2' hd2'
  go_wp2_with fail
  generalize U2.setCell ⟨nC,3,none⟩ (.int .i64 y2)=V3 at *
  clear cf2 qf2
  refine numR w _ B a N c X 7 _ HA.o (by omega) ?_ ?_
  .intro hno e W' hg
   refine⟨rfl,HRp.o ?_ e W' hg⟩
   rintro ⟨_,h2⟩
   have h0:=Hx0.o
   rcases h2 with h2|h2|h2|h2<;>omega
  intro hn3 U3 hr3 hs3
  have hc3:U3.heap[nC]?=some (.cells #[.int .i64 1,.int .i64 y0,.int .i64 y1,.int .i64 y2,.int .i64 0,.int .i64 0,.int .i64 0] 113 (0,0)):=(hs3 _ (gsi.1 HC.o).1 (by omega)).trans HC.o
  have hd3:U3.heap[w.heap.size]?=some (.cells #[.int .i64 0,.int .i64 0,.int .i64 0,.int .i64 0,.int .i64 0,.int .i64 0,.int .i64 0] 113 (0,0)):=(hs3 _ (gsi.1 HD.o).1 (by omega)).trans HD.o
  have hc3':(U3.setCell ⟨nC,4,none⟩ (.int .i64 (nb X 7 4))).heap[nC]?=some (.cells #[.int .i64 1,.int .i64 y0,.int .i64 y1,.int .i64 y2,.int .i64 (nb X 7 4),.int .i64 0,.int .i64 0] 113 (0,0)):=by
   have:=zbb (j:=4) (v:= .int .i64 (nb X 7 4)) hc3
   simpa using this
  have hd3':(U3.setCell ⟨nC,4,none⟩ (.int .i64 (nb X 7 4))).heap[w.heap.size]?=some (.cells #[.int .i64 0,.int .i64 0,.int .i64 0,.int .i64 0,.int .i64 0,.int .i64 0,.int .i64 0] 113 (0,0)):=(bhs U3 ⟨nC,4,none⟩ _ _ (by show w.heap.size≠nC;omega)).trans hd3
  have hr3':=hr3.set (C:=nC) (i:=4) (v:= .int .i64 (nb X 7 4)) (by omega)
  have cf3:U3.cell? ⟨nC,4,none⟩=some (.int .i64 0):=by rw[cell_of_row _ _ 4 _ _ (0,0) hc3];rfl
  have qf3:U3.frozen? ⟨nC,4,none⟩=false:=by simp[World.frozen?,hc3]
  clear HA HC HD hs3 hc3 hd3 hr3
  obtain ⟨y3,hy3⟩: ∃y,nb X 7 4=y:=⟨_,rfl⟩
  rw[hy3] at hc3' hd3' hr3' ⊢
  have Hy3:=zl hy3
  clear hy3
  have HA:=zl hr3'
  have HC:=zl hc3'
  have HD:=zl hd3'
  clear hr3' hc3' hd3'
  go_wp2_with fail
  generalize U3.setCell ⟨nC,4,none⟩ (.int .i64 y3)=V4 at *
  clear cf3 qf3
  refine numR w _ B a N c X 11 _ HA.o (by omega) ?_ ?_
  .intro hno e W' hg
   refine⟨rfl,HRp.o ?_ e W' hg⟩
   rintro ⟨_,h2⟩
   have h0:=Hx0.o
   rcases h2 with h2|h2|h2|h2<;>omega
  intro hn4 U4 hr4 hs4
  have hc4:U4.heap[nC]?=some (.cells #[.int .i64 1,.int .i64 y0,.int .i64 y1,.int .i64 y2,.int .i64 y3,.int .i64 0,.int .i64 0] 113 (0,0)):=(hs4 _ (gsi.1 HC.o).1 (by omega)).trans HC.o
  have hd4:U4.heap[w.heap.size]?=some (.cells #[.int .i64 0,.int .i64 0,.int .i64 0,.int .i64 0,.int .i64 0,.int .i64 0,.int .i64 0] 113 (0,0)):=(hs4 _ (gsi.1 HD.o).1 (by omega)).trans HD.o
  have hc4':(U4.setCell ⟨nC,5,none⟩ (.int .i64 (nb X 11 4))).heap[nC]?=some (.cells #[.int .i64 1,.int .i64 y0,.int .i64 y1,.int .i64 y2,.int .i64 y3,.int .i64 (nb X 11 4),.int .i64 0] 113 (0,0)):=by
   have:=zbb (j:=5) (v:= .int .i64 (nb X 11 4)) hc4
   simpa using this
  have hd4':(U4.setCell ⟨nC,5,none⟩ (.int .i64 (nb X 11 4))).heap[w.heap.size]?=some (.cells #[.int .i64 0,.int .i64 0,.int .i64 0,.int .i64 0,.int .i64 0,.int .i64 0,.int .i64 0] 113 (0,0)):=(bhs U4 ⟨nC,5,none⟩ _ _ (by show w.heap.size≠nC;omega)).trans hd4
  have hr4':=hr4.set (C:=nC) (i:=5) (v:= .int .i64 (nb X 11 4)) (by omega)
  have cf4:U4.cell? ⟨nC,5,none⟩=some (.int .i64 0):=by rw[cell_of_row _ _ 5 _ _ (0,0) hc4];rfl
  have qf4:U4.frozen? ⟨nC,5,none⟩=false:=by simp[World.frozen?,hc4]
  clear HA HC HD hs4 hc4 hd4 hr4
  obtain ⟨y4,hy4⟩: ∃y,nb X 11 4=y:=⟨_,rfl⟩
  rw[hy4] at hc4' hd4' hr4' ⊢
  have Hy4:=zl hy4
  clear hy4
  have HA:=zl hr4'
  have HC:=zl hc4'
  have HD:=zl hd4'
  clear hr4' hc4' hd4'
  go_wp2_with fail
  generalize U4.setCell ⟨nC,5,none⟩ (.int .i64 y4)=V5 at *
  clear cf4 qf4
  refine zh2 B a N c 15 0 _ _ HA.o.rdr ?_
  intro W9 hb9
  have hg9:w.grownBy W9 (some B):=zat HA.o.gb (zbf hb9)
  have hr9:=HA.o.rdr.ext hb9
  have hc9:W9.heap[nC]?=some (.cells #[.int .i64 1,.int .i64 y0,.int .i64 y1,.int .i64 y2,.int .i64 y3,.int .i64 y4,.int .i64 0] 113 (0,0)):=zau hb9 HC.o
  have hd9:W9.heap[w.heap.size]?=some (.cells #[.int .i64 0,.int .i64 0,.int .i64 0,.int .i64 0,.int .i64 0,.int .i64 0,.int .i64 0] 113 (0,0)):=zau hb9 HD.o
  clear hb9 HA HC HD
  by_cases hmore:15<N
  .rw[decide_eq_true hmore]
   have HRr:=zl hr9
   have hfin:Hid (R (.panicked [{v:=zkz 2,recovered:=false}]) W9):=HRp.o (by
    rintro ⟨_,h2⟩
    have h0:=Hx0.o
    rcases h2 with h2|h2|h2|h2<;>omega) 2 W9 hg9
   clear hr9 hc9 hd9
   go_wp2_with fail
   refine zdx B _ 15 0 _ _ _ HRr.o ?_
   exact⟨rfl,hfin.o⟩
  .rw[decide_eq_false hmore]
   obtain ⟨u0,u1,u2,u3,u4,u5,u6⟩:=zc9 hc9
   have hfin0:Hid (∀W',w.grownBy W' (some B)->R (.returned (cmi 1 y0 y1 y2 y3 y4 0)) W'):=by
    intro W' hW
    rw[←Hy0.o]
    rw[←Hy1.o]
    rw[←Hy2.o]
    rw[←Hy3.o]
    rw[←Hy4.o]
    exact HR1.o ⟨Hx0.o,by omega,by rw[Hy1.o];exact hv1,by rw[Hy2.o];exact hv2⟩ W' hW
   clear hc9 hr9
   go_wp2_with (first|(guard_target=~wpList _ _ _ ({dst:=none,op:=Op.store 113 _ _,type:=_,pos:=_,after:=_,guard:=none}::_) _ _;refine Shut.out ?_)|go_in)
   refine⟨?_⟩
   refine wpList_store_row rfl 113 (.tmp 2) (.tmp 48) rfl w.heap.size #[.int .i64 1,.int .i64 y0,.int .i64 y1,.int .i64 y2,.int .i64 y3,.int .i64 y4,.int .i64 0] rfl rfl 113 _ hd9 Tryz.sizeCommand rfl (by kernel_rfl) ?_
   have hf:Hid (R (.returned (cmi 1 y0 y1 y2 y3 y4 0)) (W9.setRow w.heap.size #[.int .i64 1,.int .i64 y0,.int .i64 y1,.int .i64 y2,.int .i64 y3,.int .i64 y4,.int .i64 0])):=hfin0.out _ ⟨hg9.os,hg9.tape,hg9.output,llt hg9.size (by simp),fun g hg hne=>(setRow_other W9 _ g _ (by omega)).trans (hg9.block g hg hne)⟩
   have hz3:=setRow_heap W9 w.heap.size _ #[.int .i64 1,.int .i64 y0,.int .i64 y1,.int .i64 y2,.int .i64 y3,.int .i64 y4,.int .i64 0] _ _ hd9
   generalize W9.setRow w.heap.size #[.int .i64 1,.int .i64 y0,.int .i64 y1,.int .i64 y2,.int .i64 y3,.int .i64 y4,.int .i64 0]=Q at *
   clear u0 u1 u2 u3 u4 u5 u6 hd9
   obtain ⟨u0,u1,u2,u3,u4,u5,u6⟩:=zc9 hz3
   clear hz3
   go_wp2_with fail
   refine bodyPost_ret (v:=cmi 1 y0 y1 y2 y3 y4 0) (by simp[results,Tryz.results59,go_sem,cmi,u0,u1,u2,u3,u4,u5,u6]) rfl ?_
   exact hf.out
 .have hbC:=zac W1 (.cells #[.int .i64 2,.int .i64 0,.int .i64 0,.int .i64 0,.int .i64 0,.int .i64 0,.int .i64 0] 113)
  have HA:Hid (Rd w (W1.alloc (.cells #[.int .i64 2,.int .i64 0,.int .i64 0,.int .i64 0,.int .i64 0,.int .i64 0,.int .i64 0] 113)) B a N c X 1):=HRd1.o.alloc _
  have HC:Hid ((W1.alloc (.cells #[.int .i64 2,.int .i64 0,.int .i64 0,.int .i64 0,.int .i64 0,.int .i64 0,.int .i64 0] 113)).heap[W1.heap.size]?=some (.cells #[.int .i64 2,.int .i64 0,.int .i64 0,.int .i64 0,.int .i64 0,.int .i64 0,.int .i64 0] 113 (0,0))):=World.alloc_heap_new W1 _
  have HD:Hid ((W1.alloc (.cells #[.int .i64 2,.int .i64 0,.int .i64 0,.int .i64 0,.int .i64 0,.int .i64 0,.int .i64 0] 113)).heap[w.heap.size]?=some (.cells #[.int .i64 0,.int .i64 0,.int .i64 0,.int .i64 0,.int .i64 0,.int .i64 0,.int .i64 0] 113 (0,0))):=zau hbC HZ1.o
  clear hbC HRd1 HZ1
  go_wp2_with fail
  generalize W1.alloc (.cells #[.int .i64 2,.int .i64 0,.int .i64 0,.int .i64 0,.int .i64 0,.int .i64 0,.int .i64 0] 113)=V0 at *
  generalize hnC:W1.heap.size=nC at *
  refine numR w _ B a N c X 1 _ HA.o (by omega) ?_ ?_
  .intro hno e W' hg
   refine⟨rfl,HRp.o ?_ e W' hg⟩
   rintro ⟨_,h2⟩
   have h0:=Hx0.o
   rcases h2 with h2|h2|h2|h2<;>omega
  intro hn0 U0 hr0 hs0
  have hc0:U0.heap[nC]?=some (.cells #[.int .i64 2,.int .i64 0,.int .i64 0,.int .i64 0,.int .i64 0,.int .i64 0,.int .i64 0] 113 (0,0)):=(hs0 _ (gsi.1 HC.o).1 (by omega)).trans HC.o
  have hd0:U0.heap[w.heap.size]?=some (.cells #[.int .i64 0,.int .i64 0,.int .i64 0,.int .i64 0,.int .i64 0,.int .i64 0,.int .i64 0] 113 (0,0)):=(hs0 _ (gsi.1 HD.o).1 (by omega)).trans HD.o
  have hc0':(U0.setCell ⟨nC,1,none⟩ (.int .i64 (nb X 1 4))).heap[nC]?=some (.cells #[.int .i64 2,.int .i64 (nb X 1 4),.int .i64 0,.int .i64 0,.int .i64 0,.int .i64 0,.int .i64 0] 113 (0,0)):=by
   have:=zbb (j:=1) (v:= .int .i64 (nb X 1 4)) hc0
   simpa using this
  have hd0':(U0.setCell ⟨nC,1,none⟩ (.int .i64 (nb X 1 4))).heap[w.heap.size]?=some (.cells #[.int .i64 0,.int .i64 0,.int .i64 0,.int .i64 0,.int .i64 0,.int .i64 0,.int .i64 0] 113 (0,0)):=(bhs U0 ⟨nC,1,none⟩ _ _ (by show w.heap.size≠nC;omega)).trans hd0
  have hr0':=hr0.set (C:=nC) (i:=1) (v:= .int .i64 (nb X 1 4)) (by omega)
  have cf0:U0.cell? ⟨nC,1,none⟩=some (.int .i64 0):=by rw[cell_of_row _ _ 1 _ _ (0,0) hc0];rfl
  have qf0:U0.frozen? ⟨nC,1,none⟩=false:=by simp[World.frozen?,hc0]
  clear HA HC HD hs0 hc0 hd0 hr0
  obtain ⟨y0,hy0⟩: ∃y,nb X 1 4=y:=⟨_,rfl⟩
  rw[hy0] at hc0' hd0' hr0' ⊢
  have Hy0:=zl hy0
  clear hy0
  have HA:=zl hr0'
  have HC:=zl hc0'
  have HD:=zl hd0'
  clear hr0' hc0' hd0'
  go_wp2_with fail
  generalize U0.setCell ⟨nC,1,none⟩ (.int .i64 y0)=V1 at *
  clear cf0 qf0
  refine zh2 B a N c 5 0 _ _ HA.o.rdr ?_
  intro W9 hb9
  have hg9:w.grownBy W9 (some B):=zat HA.o.gb (zbf hb9)
  have hr9:=HA.o.rdr.ext hb9
  have hc9:W9.heap[nC]?=some (.cells #[.int .i64 2,.int .i64 y0,.int .i64 0,.int .i64 0,.int .i64 0,.int .i64 0,.int .i64 0] 113 (0,0)):=zau hb9 HC.o
  have hd9:W9.heap[w.heap.size]?=some (.cells #[.int .i64 0,.int .i64 0,.int .i64 0,.int .i64 0,.int .i64 0,.int .i64 0,.int .i64 0] 113 (0,0)):=zau hb9 HD.o
  clear hb9 HA HC HD
  by_cases hmore:5<N
  .rw[decide_eq_true hmore]
   have HRr:=zl hr9
   have hfin:Hid (R (.panicked [{v:=zkz 2,recovered:=false}]) W9):=HRp.o (by
    rintro ⟨_,h2⟩
    have h0:=Hx0.o
    rcases h2 with h2|h2|h2|h2<;>omega) 2 W9 hg9
   clear hr9 hc9 hd9
   go_wp2_with fail
   refine zdx B _ 5 0 _ _ _ HRr.o ?_
   exact⟨rfl,hfin.o⟩
  .rw[decide_eq_false hmore]
   obtain ⟨u0,u1,u2,u3,u4,u5,u6⟩:=zc9 hc9
   have hfin0:Hid (∀W',w.grownBy W' (some B)->R (.returned (cmi 2 y0 0 0 0 0 0)) W'):=by
    intro W' hW
    rw[←Hy0.o]
    exact HR2.o ⟨Hx0.o,by omega⟩ W' hW
   clear hc9 hr9
   go_wp2_with (first|(guard_target=~wpList _ _ _ ({dst:=none,op:=Op.store 113 _ _,type:=_,pos:=_,after:=_,guard:=none}::_) _ _;refine Shut.out ?_)|go_in)
   refine⟨?_⟩
   refine wpList_store_row rfl 113 (.tmp 2) (.tmp 48) rfl w.heap.size #[.int .i64 2,.int .i64 y0,.int .i64 0,.int .i64 0,.int .i64 0,.int .i64 0,.int .i64 0] rfl rfl 113 _ hd9 Tryz.sizeCommand rfl (by kernel_rfl) ?_
   have hf:Hid (R (.returned (cmi 2 y0 0 0 0 0 0)) (W9.setRow w.heap.size #[.int .i64 2,.int .i64 y0,.int .i64 0,.int .i64 0,.int .i64 0,.int .i64 0,.int .i64 0])):=hfin0.out _ ⟨hg9.os,hg9.tape,hg9.output,llt hg9.size (by simp),fun g hg hne=>(setRow_other W9 _ g _ (by omega)).trans (hg9.block g hg hne)⟩
   have hz3:=setRow_heap W9 w.heap.size _ #[.int .i64 2,.int .i64 y0,.int .i64 0,.int .i64 0,.int .i64 0,.int .i64 0,.int .i64 0] _ _ hd9
   generalize W9.setRow w.heap.size #[.int .i64 2,.int .i64 y0,.int .i64 0,.int .i64 0,.int .i64 0,.int .i64 0,.int .i64 0]=Q at *
   clear u0 u1 u2 u3 u4 u5 u6 hd9
   obtain ⟨u0,u1,u2,u3,u4,u5,u6⟩:=zc9 hz3
   clear hz3
   go_wp2_with fail
   refine bodyPost_ret (v:=cmi 2 y0 0 0 0 0 0) (by simp[results,Tryz.results59,go_sem,cmi,u0,u1,u2,u3,u4,u5,u6]) rfl ?_
   exact hf.out
 .have hbC:=zac W1 (.cells #[.int .i64 3,.int .i64 0,.int .i64 0,.int .i64 0,.int .i64 0,.int .i64 0,.int .i64 0] 113)
  have HA:Hid (Rd w (W1.alloc (.cells #[.int .i64 3,.int .i64 0,.int .i64 0,.int .i64 0,.int .i64 0,.int .i64 0,.int .i64 0] 113)) B a N c X 1):=HRd1.o.alloc _
  have HC:Hid ((W1.alloc (.cells #[.int .i64 3,.int .i64 0,.int .i64 0,.int .i64 0,.int .i64 0,.int .i64 0,.int .i64 0] 113)).heap[W1.heap.size]?=some (.cells #[.int .i64 3,.int .i64 0,.int .i64 0,.int .i64 0,.int .i64 0,.int .i64 0,.int .i64 0] 113 (0,0))):=World.alloc_heap_new W1 _
  have HD:Hid ((W1.alloc (.cells #[.int .i64 3,.int .i64 0,.int .i64 0,.int .i64 0,.int .i64 0,.int .i64 0,.int .i64 0] 113)).heap[w.heap.size]?=some (.cells #[.int .i64 0,.int .i64 0,.int .i64 0,.int .i64 0,.int .i64 0,.int .i64 0,.int .i64 0] 113 (0,0))):=zau hbC HZ1.o
  clear hbC HRd1 HZ1
  go_wp2_with fail
  generalize W1.alloc (.cells #[.int .i64 3,.int .i64 0,.int .i64 0,.int .i64 0,.int .i64 0,.int .i64 0,.int .i64 0] 113)=V0 at *
  generalize hnC:W1.heap.size=nC at *
  refine numR w _ B a N c X 1 _ HA.o (by omega) ?_ ?_
  .intro hno e W' hg
   refine⟨rfl,HRp.o ?_ e W' hg⟩
   rintro ⟨_,h2⟩
   have h0:=Hx0.o
   rcases h2 with h2|h2|h2|h2<;>omega
  intro hn0 U0 hr0 hs0
  have hc0:U0.heap[nC]?=some (.cells #[.int .i64 3,.int .i64 0,.int .i64 0,.int .i64 0,.int .i64 0,.int .i64 0,.int .i64 0] 113 (0,0)):=(hs0 _ (gsi.1 HC.o).1 (by omega)).trans HC.o
  have hd0:U0.heap[w.heap.size]?=some (.cells #[.int .i64 0,.int .i64 0,.int .i64 0,.int .i64 0,.int .i64 0,.int .i64 0,.int .i64 0] 113 (0,0)):=(hs0 _ (gsi.1 HD.o).1 (by omega)).trans HD.o
  have hc0':(U0.setCell ⟨nC,1,none⟩ (.int .i64 (nb X 1 4))).heap[nC]?=some (.cells #[.int .i64 3,.int .i64 (nb X 1 4),.int .i64 0,.int .i64 0,.int .i64 0,.int .i64 0,.int .i64 0] 113 (0,0)):=by
   have:=zbb (j:=1) (v:= .int .i64 (nb X 1 4)) hc0
   simpa using this
  have hd0':(U0.setCell ⟨nC,1,none⟩ (.int .i64 (nb X 1 4))).heap[w.heap.size]?=some (.cells #[.int .i64 0,.int .i64 0,.int .i64 0,.int .i64 0,.int .i64 0,.int .i64 0,.int .i64 0] 113 (0,0)):=(bhs U0 ⟨nC,1,none⟩ _ _ (by show w.heap.size≠nC;omega)).trans hd0
  have hr0':=hr0.set (C:=nC) (i:=1) (v:= .int .i64 (nb X 1 4)) (by omega)
  have cf0:U0.cell? ⟨nC,1,none⟩=some (.int .i64 0):=by rw[cell_of_row _ _ 1 _ _ (0,0) hc0];rfl
  have qf0:U0.frozen? ⟨nC,1,none⟩=false:=by simp[World.frozen?,hc0]
  clear HA HC HD hs0 hc0 hd0 hr0
  obtain ⟨y0,hy0⟩: ∃y,nb X 1 4=y:=⟨_,rfl⟩
  rw[hy0] at hc0' hd0' hr0' ⊢
  have Hy0:=zl hy0
  clear hy0
  have HA:=zl hr0'
  have HC:=zl hc0'
  have HD:=zl hd0'
  clear hr0' hc0' hd0'
  go_wp2_with fail
  generalize U0.setCell ⟨nC,1,none⟩ (.int .i64 y0)=V1 at *
  clear cf0 qf0
  refine numR w _ B a N c X 5 _ HA.o (by omega) ?_ ?_
  .intro hno e W' hg
   refine⟨rfl,HRp.o ?_ e W' hg⟩
   rintro ⟨_,h2⟩
   have h0:=Hx0.o
   rcases h2 with h2|h2|h2|h2<;>omega
  intro hn1 U1 hr1 hs1
  have hc1:U1.heap[nC]?=some (.cells #[.int .i64 3,.int .i64 y0,.int .i64 0,.int .i64 0,.int .i64 0,.int .i64 0,.int .i64 0] 113 (0,0)):=(hs1 _ (gsi.1 HC.o).1 (by omega)).trans HC.o
  have hd1:U1.heap[w.heap.size]?=some (.cells #[.int .i64 0,.int .i64 0,.int .i64 0,.int .i64 0,.int .i64 0,.int .i64 0,.int .i64 0] 113 (0,0)):=(hs1 _ (gsi.1 HD.o).1 (by omega)).trans HD.o
  have hc1':(U1.setCell ⟨nC,4,none⟩ (.int .i64 (nb X 5 4))).heap[nC]?=some (.cells #[.int .i64 3,.int .i64 y0,.int .i64 0,.int .i64 0,.int .i64 (nb X 5 4),.int .i64 0,.int .i64 0] 113 (0,0)):=by
   have:=zbb (j:=4) (v:= .int .i64 (nb X 5 4)) hc1
   simpa using this
  have hd1':(U1.setCell ⟨nC,4,none⟩ (.int .i64 (nb X 5 4))).heap[w.heap.size]?=some (.cells #[.int .i64 0,.int .i64 0,.int .i64 0,.int .i64 0,.int .i64 0,.int .i64 0,.int .i64 0] 113 (0,0)):=(bhs U1 ⟨nC,4,none⟩ _ _ (by show w.heap.size≠nC;omega)).trans hd1
  have hr1':=hr1.set (C:=nC) (i:=4) (v:= .int .i64 (nb X 5 4)) (by omega)
  have cf1:U1.cell? ⟨nC,4,none⟩=some (.int .i64 0):=by rw[cell_of_row _ _ 4 _ _ (0,0) hc1];rfl
  have qf1:U1.frozen? ⟨nC,4,none⟩=false:=by simp[World.frozen?,hc1]
  clear HA HC HD hs1 hc1 hd1 hr1
  obtain ⟨y1,hy1⟩: ∃y,nb X 5 4=y:=⟨_,rfl⟩
  rw[hy1] at hc1' hd1' hr1' ⊢
  have Hy1:=zl hy1
  clear hy1
  have HA:=zl hr1'
  have HC:=zl hc1'
  have HD:=zl hd1'
  clear hr1' hc1' hd1'
  go_wp2_with fail
  generalize U1.setCell ⟨nC,4,none⟩ (.int .i64 y1)=V2 at *
  clear cf1 qf1
  refine zh2 B a N c 9 0 _ _ HA.o.rdr ?_
  intro W9 hb9
  have hg9:w.grownBy W9 (some B):=zat HA.o.gb (zbf hb9)
  have hr9:=HA.o.rdr.ext hb9
  have hc9:W9.heap[nC]?=some (.cells #[.int .i64 3,.int .i64 y0,.int .i64 0,.int .i64 0,.int .i64 y1,.int .i64 0,.int .i64 0] 113 (0,0)):=zau hb9 HC.o
  have hd9:W9.heap[w.heap.size]?=some (.cells #[.int .i64 0,.int .i64 0,.int .i64 0,.int .i64 0,.int .i64 0,.int .i64 0,.int .i64 0] 113 (0,0)):=zau hb9 HD.o
  clear hb9 HA HC HD
  by_cases hmore:9<N
  .rw[decide_eq_true hmore]
   have HRr:=zl hr9
   have hfin:Hid (R (.panicked [{v:=zkz 2,recovered:=false}]) W9):=HRp.o (by
    rintro ⟨_,h2⟩
    have h0:=Hx0.o
    rcases h2 with h2|h2|h2|h2<;>omega) 2 W9 hg9
   clear hr9 hc9 hd9
   go_wp2_with fail
   refine zdx B _ 9 0 _ _ _ HRr.o ?_
   exact⟨rfl,hfin.o⟩
  .rw[decide_eq_false hmore]
   obtain ⟨u0,u1,u2,u3,u4,u5,u6⟩:=zc9 hc9
   have hfin0:Hid (∀W',w.grownBy W' (some B)->R (.returned (cmi 3 y0 0 0 y1 0 0)) W'):=by
    intro W' hW
    rw[←Hy0.o]
    rw[←Hy1.o]
    exact HR3.o ⟨Hx0.o,by omega⟩ W' hW
   clear hc9 hr9
   go_wp2_with (first|(guard_target=~wpList _ _ _ ({dst:=none,op:=Op.store 113 _ _,type:=_,pos:=_,after:=_,guard:=none}::_) _ _;refine Shut.out ?_)|go_in)
   refine⟨?_⟩
   refine wpList_store_row rfl 113 (.tmp 2) (.tmp 48) rfl w.heap.size #[.int .i64 3,.int .i64 y0,.int .i64 0,.int .i64 0,.int .i64 y1,.int .i64 0,.int .i64 0] rfl rfl 113 _ hd9 Tryz.sizeCommand rfl (by kernel_rfl) ?_
   have hf:Hid (R (.returned (cmi 3 y0 0 0 y1 0 0)) (W9.setRow w.heap.size #[.int .i64 3,.int .i64 y0,.int .i64 0,.int .i64 0,.int .i64 y1,.int .i64 0,.int .i64 0])):=hfin0.out _ ⟨hg9.os,hg9.tape,hg9.output,llt hg9.size (by simp),fun g hg hne=>(setRow_other W9 _ g _ (by omega)).trans (hg9.block g hg hne)⟩
   have hz3:=setRow_heap W9 w.heap.size _ #[.int .i64 3,.int .i64 y0,.int .i64 0,.int .i64 0,.int .i64 y1,.int .i64 0,.int .i64 0] _ _ hd9
   generalize W9.setRow w.heap.size #[.int .i64 3,.int .i64 y0,.int .i64 0,.int .i64 0,.int .i64 y1,.int .i64 0,.int .i64 0]=Q at *
   clear u0 u1 u2 u3 u4 u5 u6 hd9
   obtain ⟨u0,u1,u2,u3,u4,u5,u6⟩:=zc9 hz3
   clear hz3
   go_wp2_with fail
   refine bodyPost_ret (v:=cmi 3 y0 0 0 y1 0 0) (by simp[results,Tryz.results59,go_sem,cmi,u0,u1,u2,u3,u4,u5,u6]) rfl ?_
   exact hf.out
 .have hbC:=zac W1 (.cells #[.int .i64 4,.int .i64 0,.int .i64 0,.int .i64 0,.int .i64 0,.int .i64 0,.int .i64 0] 113)
  have HA:Hid (Rd w (W1.alloc (.cells #[.int .i64 4,.int .i64 0,.int .i64 0,.int .i64 0,.int .i64 0,.int .i64 0,.int .i64 0] 113)) B a N c X 1):=HRd1.o.alloc _
  have HC:Hid ((W1.alloc (.cells #[.int .i64 4,.int .i64 0,.int .i64 0,.int .i64 0,.int .i64 0,.int .i64 0,.int .i64 0] 113)).heap[W1.heap.size]?=some (.cells #[.int .i64 4,.int .i64 0,.int .i64 0,.int .i64 0,.int .i64 0,.int .i64 0,.int .i64 0] 113 (0,0))):=World.alloc_heap_new W1 _
  have HD:Hid ((W1.alloc (.cells #[.int .i64 4,.int .i64 0,.int .i64 0,.int .i64 0,.int .i64 0,.int .i64 0,.int .i64 0] 113)).heap[w.heap.size]?=some (.cells #[.int .i64 0,.int .i64 0,.int .i64 0,.int .i64 0,.int .i64 0,.int .i64 0,.int .i64 0] 113 (0,0))):=zau hbC HZ1.o
  clear hbC HRd1 HZ1
  go_wp2_with fail
  generalize W1.alloc (.cells #[.int .i64 4,.int .i64 0,.int .i64 0,.int .i64 0,.int .i64 0,.int .i64 0,.int .i64 0] 113)=V0 at *
  generalize hnC:W1.heap.size=nC at *
  refine numR w _ B a N c X 1 _ HA.o (by omega) ?_ ?_
  .intro hno e W' hg
   refine⟨rfl,HRp.o ?_ e W' hg⟩
   rintro ⟨_,h2⟩
   have h0:=Hx0.o
   rcases h2 with h2|h2|h2|h2<;>omega
  intro hn0 U0 hr0 hs0
  have hc0:U0.heap[nC]?=some (.cells #[.int .i64 4,.int .i64 0,.int .i64 0,.int .i64 0,.int .i64 0,.int .i64 0,.int .i64 0] 113 (0,0)):=(hs0 _ (gsi.1 HC.o).1 (by omega)).trans HC.o
  have hd0:U0.heap[w.heap.size]?=some (.cells #[.int .i64 0,.int .i64 0,.int .i64 0,.int .i64 0,.int .i64 0,.int .i64 0,.int .i64 0] 113 (0,0)):=(hs0 _ (gsi.1 HD.o).1 (by omega)).trans HD.o
  have hc0':(U0.setCell ⟨nC,6,none⟩ (.int .i64 (nb X 1 4))).heap[nC]?=some (.cells #[.int .i64 4,.int .i64 0,.int .i64 0,.int .i64 0,.int .i64 0,.int .i64 0,.int .i64 (nb X 1 4)] 113 (0,0)):=by
   have:=zbb (j:=6) (v:= .int .i64 (nb X 1 4)) hc0
   simpa using this
  have hd0':(U0.setCell ⟨nC,6,none⟩ (.int .i64 (nb X 1 4))).heap[w.heap.size]?=some (.cells #[.int .i64 0,.int .i64 0,.int .i64 0,.int .i64 0,.int .i64 0,.int .i64 0,.int .i64 0] 113 (0,0)):=(bhs U0 ⟨nC,6,none⟩ _ _ (by show w.heap.size≠nC;omega)).trans hd0
  have hr0':=hr0.set (C:=nC) (i:=6) (v:= .int .i64 (nb X 1 4)) (by omega)
  have cf0:U0.cell? ⟨nC,6,none⟩=some (.int .i64 0):=by rw[cell_of_row _ _ 6 _ _ (0,0) hc0];rfl
  have qf0:U0.frozen? ⟨nC,6,none⟩=false:=by simp[World.frozen?,hc0]
  clear HA HC HD hs0 hc0 hd0 hr0
  obtain ⟨y0,hy0⟩: ∃y,nb X 1 4=y:=⟨_,rfl⟩
  rw[hy0] at hc0' hd0' hr0' ⊢
  have Hy0:=zl hy0
  clear hy0
  have HA:=zl hr0'
  have HC:=zl hc0'
  have HD:=zl hd0'
  clear hr0' hc0' hd0'
  go_wp2_with fail
  generalize U0.setCell ⟨nC,6,none⟩ (.int .i64 y0)=V1 at *
  clear cf0 qf0
  refine zh2 B a N c 5 0 _ _ HA.o.rdr ?_
  intro W9 hb9
  have hg9:w.grownBy W9 (some B):=zat HA.o.gb (zbf hb9)
  have hr9:=HA.o.rdr.ext hb9
  have hc9:W9.heap[nC]?=some (.cells #[.int .i64 4,.int .i64 0,.int .i64 0,.int .i64 0,.int .i64 0,.int .i64 0,.int .i64 y0] 113 (0,0)):=zau hb9 HC.o
  have hd9:W9.heap[w.heap.size]?=some (.cells #[.int .i64 0,.int .i64 0,.int .i64 0,.int .i64 0,.int .i64 0,.int .i64 0,.int .i64 0] 113 (0,0)):=zau hb9 HD.o
  clear hb9 HA HC HD
  by_cases hmore:5<N
  .rw[decide_eq_true hmore]
   have HRr:=zl hr9
   have hfin:Hid (R (.panicked [{v:=zkz 2,recovered:=false}]) W9):=HRp.o (by
    rintro ⟨_,h2⟩
    have h0:=Hx0.o
    rcases h2 with h2|h2|h2|h2<;>omega) 2 W9 hg9
   clear hr9 hc9 hd9
   go_wp2_with fail
   refine zdx B _ 5 0 _ _ _ HRr.o ?_
   exact⟨rfl,hfin.o⟩
  .rw[decide_eq_false hmore]
   obtain ⟨u0,u1,u2,u3,u4,u5,u6⟩:=zc9 hc9
   have hfin0:Hid (∀W',w.grownBy W' (some B)->R (.returned (cmi 4 0 0 0 0 0 y0)) W'):=by
    intro W' hW
    rw[←Hy0.o]
    exact HR4.o ⟨Hx0.o,by omega⟩ W' hW
   clear hc9 hr9
   go_wp2_with (first|(guard_target=~wpList _ _ _ ({dst:=none,op:=Op.store 113 _ _,type:=_,pos:=_,after:=_,guard:=none}::_) _ _;refine Shut.out ?_)|go_in)
   refine⟨?_⟩
   refine wpList_store_row rfl 113 (.tmp 2) (.tmp 48) rfl w.heap.size #[.int .i64 4,.int .i64 0,.int .i64 0,.int .i64 0,.int .i64 0,.int .i64 0,.int .i64 y0] rfl rfl 113 _ hd9 Tryz.sizeCommand rfl (by kernel_rfl) ?_
   have hf:Hid (R (.returned (cmi 4 0 0 0 0 0 y0)) (W9.setRow w.heap.size #[.int .i64 4,.int .i64 0,.int .i64 0,.int .i64 0,.int .i64 0,.int .i64 0,.int .i64 y0])):=hfin0.out _ ⟨hg9.os,hg9.tape,hg9.output,llt hg9.size (by simp),fun g hg hne=>(setRow_other W9 _ g _ (by omega)).trans (hg9.block g hg hne)⟩
   have hz3:=setRow_heap W9 w.heap.size _ #[.int .i64 4,.int .i64 0,.int .i64 0,.int .i64 0,.int .i64 0,.int .i64 0,.int .i64 y0] _ _ hd9
   generalize W9.setRow w.heap.size #[.int .i64 4,.int .i64 0,.int .i64 0,.int .i64 0,.int .i64 0,.int .i64 0,.int .i64 y0]=Q at *
   clear u0 u1 u2 u3 u4 u5 u6 hd9
   obtain ⟨u0,u1,u2,u3,u4,u5,u6⟩:=zc9 hz3
   clear hz3
   go_wp2_with fail
   refine bodyPost_ret (v:=cmi 4 0 0 0 0 0 y0) (by simp[results,Tryz.results59,go_sem,cmi,u0,u1,u2,u3,u4,u5,u6]) rfl ?_
   exact hf.out
end
section
attribute [local go_sem↓] Go.wp_at_zero Go.wp_at_succ
theorem send_idle (p0 p1:Value)(w:World):
  CallsD Tryz.prog 56 #[p0,p1] .returning w fun e u' w'=>e= .returned (.tuple #[])/\u'= .returning/\w'=w:=by
 refine callsD_of_wpS Tryz.func56 rfl fun c₀ cs hu=>?_
 apply wpS_seq
 apply wpS_region
 simp[wpOpsS,go_sem,recoverD,hu,Tryz.ntmps56,Exit.thenS]
 apply wpS_seq
 apply wpS_region
 simp[wpOpsS,go_sem,Exit.thenS]
 refine wpS_cond (t:=false) (by simp[Act.eval,Array.replicate]) ?_
 simp only[Bool.false_eq_true,if_false]
 refine wpS_of_wp (wp_skip ?_)
 cases c₀
 simp_all[bodyPostS,results,Tryz.results56]
def noneE:List (Nat->Int):=[mkev 2 0 0 1 0 0 0 0 0 0]
theorem send_panicking (E0 E1 P K:Nat)(c:Cf)(m:Mk)(e:Int)(x1:Value)(w0 w:World)(hnP1:E1≠P)
  (c0:w.cell? ⟨E0,0,none⟩=some (.pointer (some ⟨P,0,none⟩)))(c1:w.cell? ⟨E1,0,none⟩=some x1)(f1:w.frozen? ⟨E1,0,none⟩=false)
  (hblk:w.heap[P]?=some (.cells (pmc c m K) 104 (0,0)))(hL:zcq w0)(hb0:Below w0.heap.size w0 w)(hP0:w0.heap.size<=P)(hs:m.seq<=4294967295):
  CallsD Tryz.prog 56 #[.pointer (some ⟨E0,0,none⟩),.pointer (some ⟨E1,0,none⟩)] (.panicking [{v:=zkz e,recovered:=false}]) w fun en u' w'=>
   en= .returned (.tuple #[])/\u'= .panicking [{v:=zkz e,recovered:=true}]/\
   (∃v,w'.cell? ⟨E1,0,none⟩=some v/\w'.heap[P]?=some (.cells (pmc c {m with seq:=(m.seq+1)%4294967296} K) 104 (0,0))/\w'.ownsRow w.heap.size 5 1 v (zao (numb m.seq noneE)).length ((zao (numb m.seq noneE)).map bv)/\Tch (fun g=>g=P\/g=E1) w w'):=by
 refine callsD_of_wpS Tryz.func56 rfl fun c₀ cs hu=>?_
 unfold zkz at *
 apply wpS_seq
 apply wpS_region
 simp[wpOpsS,go_sem,recoverD,hu,Tryz.ntmps56,Exit.thenS]
 refine wpS_of_wp ?_
 simp only[Array.replicate]
 refine wp_mono (Q:=fun ex a' w'=>ex= .normal/\a'.defers=[]/\(∃v,w'.cell? ⟨E1,0,none⟩=some v/\w'.heap[P]?=some (.cells (pmc c {m with seq:=(m.seq+1)%4294967296} K) 104 (0,0))/\w'.ownsRow w.heap.size 5 1 v (zao (numb m.seq noneE)).length ((zao (numb m.seq noneE)).map bv)/\Tch (fun g=>g=P\/g=E1) w w')) ?_ ?_
 .clear hu
  simp
  have hta:=zjd e 0
  have l0:=zab c0
  have l1:=zab c1
  have hPl:=(gsi.1 hblk).1
  have HB:=zl hblk
  have HW:=zl hb0
  have HL:=zl hL
  have C1:=zl c1
  have F1:=zl f1
  have hT:w.drew.cell? ⟨E0,0,none⟩=some (.pointer (some ⟨P,0,none⟩)):=c0
  have hbd:Below w.heap.size w w.drew:=br.drew
  go_wp2_with fail
  clear hblk hb0 hL c0 c1 f1
  refine zbq 3 4 (fun W=>W.cell? ⟨E0,0,none⟩=some (.pointer (some ⟨P,0,none⟩))) (fun _=>True) zco ?_
  refine U1 (v:=?v0) 0 rfl (by kernel_rfl) (fun _ _ _ h=>h) (Or.inl ⟨by rfl,?hy0⟩) ⟨fun _=>hT,fun _=>trivial⟩ ?_
  case hy0=>(rintro w' ⟨z0,_⟩;go_simp;with_reducible rfl)
  generalize w.drew=A at *
  refine za1 1 (by kernel_rfl) rfl (fun K' hK=>?_)
  go_simp
  refine zhm 0 1 _ _ ?_
  intro w2 hb2
  refine hK.o _ _ ⟨fun _=>zaa hb2 hT,fun _=>trivial⟩ ?_
  clear hK K'
  have hbw:Below w.heap.size w w2:=zad hbd hb2
  have hT2:=zaa hb2 hT
  clear hb2 hbd hT
  obtain ⟨ee,hee⟩: ∃ee,mkev 2 0 ((0:Nat):Int) ((1:Nat):Int) 0 0 0 0 0 0=ee:=⟨_,rfl⟩
  rw[hee]
  have Hee:Hid (noneE=[ee]):=by rw[←hee];rfl
  have hkind:ee 0=2:=by rw[←hee];rfl
  have hrng: ∀j,-9223372036854775808<=ee j/\ee j<=9223372036854775807:=by
   intro j
   rw[←hee]
   unfold mkev
   split<;>decide
  have Hkind:=zl hkind
  have Hrng:=zl hrng
  clear hee hkind hrng
  have hb3:=zac w2 (.cells #[.int .i64 (ee 0),.int .i64 (ee 1),.int .i64 (ee 2),.int .i64 (ee 3),.int .i64 (ee 4),.int .i64 (ee 5),.int .i64 (ee 6),.int .i64 (ee 7),.int .i64 (ee 8),.int .i64 (ee 9)] 42)
  have hbw3:Below w.heap.size w (w2.alloc (.cells #[.int .i64 (ee 0),.int .i64 (ee 1),.int .i64 (ee 2),.int .i64 (ee 3),.int .i64 (ee 4),.int .i64 (ee 5),.int .i64 (ee 6),.int .i64 (ee 7),.int .i64 (ee 8),.int .i64 (ee 9)] 42)):=zad hbw hb3
  have hT3:=zaa hb3 hT2
  have hev3:Evs (w2.alloc (.cells #[.int .i64 (ee 0),.int .i64 (ee 1),.int .i64 (ee 2),.int .i64 (ee 3),.int .i64 (ee 4),.int .i64 (ee 5),.int .i64 (ee 6),.int .i64 (ee 7),.int .i64 (ee 8),.int .i64 (ee 9)] 42)) w.heap.size (.slice (some ⟨w2.heap.size,0,none⟩) 1 1) [ee]:=
   ⟨by simp[evcs,evc],.inr ⟨w2.heap.size,1,_,rfl,hbw.size,World.alloc_heap_new w2 _,nr,by decide,rfl,by simp[evcs,evc,iv,List.range,List.range.loop]⟩⟩
  have hsw:=hbw.size
  unfold evv
  refine za1 2 (by kernel_rfl) rfl (fun K' hK=>?_)
  go_simp
  refine hK.o _ _ ⟨fun _=>hT3,fun _=>trivial⟩ ?_
  clear hK K' hT2 hT3 hb3 hbw
  generalize hn2:w2.heap.size=n2 at *
  generalize w2.alloc (.cells #[.int .i64 (ee 0),.int .i64 (ee 1),.int .i64 (ee 2),.int .i64 (ee 3),.int .i64 (ee 4),.int .i64 (ee 5),.int .i64 (ee 6),.int .i64 (ee 7),.int .i64 (ee 8),.int .i64 (ee 9)] 42)=W3 at *
  refine za1 3 (by kernel_rfl) rfl (fun K' hK=>?_)
  go_simp
  refine ptell_any P K c m [ee] _ w.heap.size w0 _ _ (zau hbw3 HB.o) hev3 (by simp[Value.ownBlock];omega) HL.o (HW.o.trans (hbw3.mono HW.o.size)) hP0 hs (fun i hi=>?_) (fun i j=>?_) (by simp) ?_
  .have h0:i=0:=by simpa using hi
   subst h0
   show 1<=ee 0/\ee 0<=8
   rw[Hkind.o]
   decide
  .by_cases h0:i=0
   .subst h0
    exact Hrng.o j
   .have h1:([ee].getD i ev0)=ev0:=by
     rw[List.getD_eq_getElem?_getD,List.getElem?_eq_none (by simp;omega)]
     rfl
    rw[h1]
    show-9223372036854775808<=(0:Int)/\(0:Int)<=9223372036854775807
    decide
  intro v w4 hb4 hrow4 ht4
  refine hK.o _ _ ⟨fun h=>absurd h (by decide),fun _=>trivial⟩ ?_
  clear hK K'
  have C4:w4.cell? ⟨E1,0,none⟩=some x1:=(World.cell?_of_block (a:=⟨E1,0,none⟩) (ht4.blk E1 (lll l1 hbw3.size) hnP1)).trans (zaa hbw3 C1.out)
  have F4:w4.frozen? ⟨E1,0,none⟩=false:=(World.frozen?_of_block (a:=⟨E1,0,none⟩) (ht4.blk E1 (lll l1 hbw3.size) hnP1)).trans ((World.frozen?_of_block (a:=⟨E1,0,none⟩) (hbw3.block E1 l1)).trans F1.out)
  obtain ⟨va,vc,rfl⟩:=zae hrow4
  generalize hvl:(zao (numb m.seq [ee])).length=vl at *
  refine za1 4 (by kernel_rfl) rfl (fun K' hK=>?_)
  go_simp
  refine hK.o _ _ ⟨fun h=>absurd h (by decide),fun h=>absurd h (by decide)⟩ ?_
  clear hK K'
  refine zch (by kernel_rfl) ?_
  refine⟨rfl,rfl,_,World.cell?_setCell_same _ _ _ C4,(bhs w4 ⟨E1,0,none⟩ _ P (fun e=>hnP1 e.symm)).trans hb4,?_,?_⟩
  .rw[Hee.o,hvl]
   exact zid (zb6 hrow4 fun g hg=>bhs w4 ⟨E1,0,none⟩ _ g (fun e=>by have h1:=(hrow4.lt g hg).1;have:g=E1:=e;have:=hbw3.size;omega)) hbw3.size
  .exact((Tch.of hbw3).trans (ht4.widen fun g hg=> .inl hg)).trans (ze6 (.inr rfl))
 .intro ex a' w' hh
  obtain ⟨rfl,hd,hp⟩:=hh
  cases c₀
  simp_all[bodyPostS,results,Tryz.results56]
end
