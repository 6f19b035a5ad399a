import Derived.Test.YtmiiejinahnpkaaGreatDoorXCcBj
set_option maxRecDepth 8000
set_option maxHeartbeats 4000000
namespace Go.Proofs.YtmiiejinahnpkaaGreatDoor
open Go.RowKit
section
attribute [local go_sem↓] Go.wp_at_zero Go.wp_at_succ
structure Rdr (W:World) (B:Nat) (v:Value) (p s:Nat):Prop where
 bytes:W.cell? ⟨B,0,none⟩=some v
 at_:W.cell? ⟨B,1,none⟩=some (.int .i64 (p:Nat))
 start:W.cell? ⟨B,2,none⟩=some (.int .i64 (s:Nat))
 free: ∀i,W.frozen? ⟨B,i,none⟩=false
 lt:B<W.heap.size
variable {B p s:Nat} {v:Value} {W a b w1:World}
theorem Rdr.ext (h:Rdr W B v p s)(hb:Below W.heap.size W w1):Rdr w1 B v p s:=
 ⟨(hb.cell h.lt).trans h.bytes,(hb.cell h.lt).trans h.at_,(hb.cell h.lt).trans h.start,fun i=>(hb.frozen h.lt).trans (h.free i),lll h.lt hb.size⟩
variable {r:Option Nat}
theorem Rdr.grown (h:Rdr W B v p s)(hg:W.grownBy w1 r)(hr:r≠some B):Rdr w1 B v p s:=
 ⟨(hg.cell_far _ h.lt (Ne.symm hr)).trans h.bytes,(hg.cell_far _ h.lt (Ne.symm hr)).trans h.at_,(hg.cell_far _ h.lt (Ne.symm hr)).trans h.start,fun i=>(hg.frozen_far _ h.lt (Ne.symm hr)).trans (h.free i),lll h.lt hg.size⟩
theorem Rdr.setAt (h:Rdr W B v p s)(q:Nat):Rdr (W.setCell ⟨B,1,none⟩ (.int .i64 (q:Nat))) B v q s:=
 ⟨(World.cell?_setCell_other _ _ _ _ (by simp)).trans h.bytes,World.cell?_setCell_same _ _ _ h.at_,(World.cell?_setCell_other _ _ _ _ (by simp)).trans h.start,fun i=>by rw[World.frozen?_setCell];exact h.free i,by simpa using h.lt⟩
theorem Rdr.setStart (h:Rdr W B v p s)(q:Nat):Rdr (W.setCell ⟨B,2,none⟩ (.int .i64 (q:Nat))) B v p q:=
 ⟨(World.cell?_setCell_other _ _ _ _ (by simp)).trans h.bytes,(World.cell?_setCell_other _ _ _ _ (by simp)).trans h.at_,World.cell?_setCell_same _ _ _ h.start,fun i=>by rw[World.frozen?_setCell];exact h.free i,by simpa using h.lt⟩
theorem zat {c:World}(h:a.grownBy b r)(k:b.grownBy c r):a.grownBy c r:=
 ⟨k.os.trans h.os,k.tape.trans h.tape,k.output.trans h.output,llt h.size k.size,fun i hi hne=>(k.block i (lll hi h.size) hne).trans (h.block i hi hne)⟩
theorem zbf (h:Below a.heap.size a b):a.grownBy b r:=⟨h.os,h.tape,h.output,h.size,fun k hk _=>h.block k hk⟩
theorem zca (w:World)(B i:Nat)(v:Value):w.grownBy (w.setCell ⟨B,i,none⟩ v) (some B):=
 ⟨rfl,rfl,rfl,by simp[World.setCell],fun k _ hne=>bhs w ⟨B,i,none⟩ v k (fun e=>hne (by simp[e]))⟩
theorem zdx (B:Nat)(v:Value)(p s:Nat)(e:Int)(w:World)(R:EW)(hr:Rdr w B v p s)
  (hR:R (.panicked [{v:= .iface 95 (.agg #[.int .i64 e,.int .i64 (s:Nat)]),recovered:=false}]) w):
  Calls Tryz.prog 93 #[.pointer (some ⟨B,0,none⟩),.int .i64 e] w R:=by
 have HR:=zl hR
 have h2:=hr.start
 clear hR hr
 go_enter Tryz.func93,Tryz.ntmps93
 go_wp2_with fail
 exact⟨rfl,HR.o⟩
theorem zh1 (a:Option Addr)(N c:Nat)(w:World)(R:EW)
  (hR: ∀w',Rdr w' w.heap.size (.slice a N c) 0 0->Below w.heap.size w w'->R (.returned (.pointer (some ⟨w.heap.size,0,none⟩))) w'):
  Calls Tryz.prog 48 #[.slice a N c] w R:=by
 have HR:=zl hR
 clear hR
 go_enter Tryz.func48,Tryz.ntmps48
 go_wp2_with fail
 have hb:=heap_alloc_new w (.cells #[.slice a N c,.int .i64 0,.int .i64 0] 139)
 refine HR.o _ ⟨?_,?_,?_,?_,by simp⟩ (br.alloc nr _)
 .rw[cell_of_row _ _ 0 _ _ (0,0) hb];rfl
 .rw[cell_of_row _ _ 1 _ _ (0,0) hb];rfl
 .rw[cell_of_row _ _ 2 _ _ (0,0) hb];rfl
 .intro i
  simp only[World.frozen?,hb]
  simp
theorem zh2 (B:Nat)(a:Option Addr)(N c p s:Nat)(w:World)(R:EW)(hr:Rdr w B (.slice a N c) p s)
  (hR: ∀w',Below w.heap.size w w'->R (.returned (.bool (decide (p<N)))) w'):
  Calls Tryz.prog 49 #[.pointer (some ⟨B,0,none⟩)] w R:=by
 have HR:=zl hR
 have h0:=hr.bytes
 have h1:=hr.at_
 clear hR hr
 go_enter Tryz.func49,Tryz.ntmps49
 go_wp2_with fail
 go_quiet (fail)
 go_wp2_with fail
 exact HR.o _ (below_drewN br _)
theorem or256 (t x:Int)(h0:0<=t)(h1:t<72057594037927936)(h2:0<=x)(h3:x<=255):bits .or .u64 (t * 256) x=t * 256+x:=by
 obtain ⟨T,rfl⟩:=Int.eq_ofNat_of_zero_le h0
 obtain ⟨x,rfl⟩:=Int.eq_ofNat_of_zero_le h2
 have e:((T:Int) * 256)=((T * 256:Nat):Int):=by omega
 rw[e,u64_or_nat _ _ (by omega) (by omega)]
 have:=Nat.shiftLeft_add_eq_or_of_lt (i:=8) (b:=x) (by omega) T
 rw[Nat.shiftLeft_eq] at this
 rw[show T * 256=T * 2^8 from rfl,←this]
 omega
theorem take_any (B:Nat)(a:Option Addr)(N c p s:Nat)(X:Nat->Int)(n:Nat)(w:World)(R:EW)(hr:Rdr w B (.slice a N c) p s)(hN:N<=4194304)(hcap:N<=c)(hn1:1<=n)(hn:n<=8)(hp:p<=N)
  (hx:BsAt w a N X)(hb: ∀i,i<N->0<=X i/\X i<=255)(_hBx:0<N-> ∀b o,a=some ⟨b,o,none⟩->b≠B)
  (hR1:N<p+n-> ∀w',Below w.heap.size w w'->R (.panicked [{v:= .iface 95 (.agg #[.int .i64 2,.int .i64 (s:Nat)]),recovered:=false}]) w')
  (hR2:p+n<=N-> ∀w',Rdr w' B (.slice a N c) (p+n) s->w.grownBy w' (some B)->R (.returned (.int .u64 (nb X p n))) w'):
  Calls Tryz.prog 86 #[.pointer (some ⟨B,0,none⟩),.int .i64 (n:Nat)] w R:=by
 have h0:=hr.bytes
 have h1:=hr.at_
 have HRd:=zl hr
 have HX:=zl hx
 have HB:=zl hb
 clear hr hx hb
 by_cases hlong:N<p+n
 .have HR1:Hid (∀w',Below w.heap.size w w'->R (.panicked [{v:= .iface 95 (.agg #[.int .i64 2,.int .i64 (s:Nat)]),recovered:=false}]) w'):=hR1 hlong
  clear hR1 hR2
  have hd:decide ((N:Int)-p<n)=true:=by simp;omega
  go_enter Tryz.func86,Tryz.ntmps86
  go_wp2_with fail
  go_quiet (fail)
  go_wp2_with fail
  refine zdx B _ p s _ _ _ (HRd.o.ext (below_drewN br _)) ?_
  exact⟨rfl,HR1.o _ (below_drewN br _)⟩
 .have HR2:Hid (∀w',Rdr w' B (.slice a N c) (p+n) s->w.grownBy w' (some B)->R (.returned (.int .u64 (nb X p n))) w'):=hR2 (by omega)
  clear hR1 hR2
  have hd:decide ((N:Int)-p<n)=false:=by simp;omega
  obtain ⟨b,o,rfl,_⟩:=HX.o p (by omega)
  have hcp:p<c:=by omega
  go_enter Tryz.func86,Tryz.ntmps86
  go_wp2_with fail
  go_quiet (fail)
  go_wp2_with fail
  go_quiet (fail)
  go_wp2_with fail
  clear h0 h1 hd
  go_loop [5,7,38] (fun t _ i=> ∃y:Nat,y<=n/\i= .int .i64 (y:Nat)/\t= .int .u64 (nb X p y)) (fun _ _ i=>n-(intOf i).toNat)
  case atStart=>exact⟨0,Nat.zero_le _,rfl,rfl⟩
  case round=>
   obtain ⟨y,hy,rfl,rfl⟩:=hrel
   by_cases hyn:y<n
   .obtain ⟨b',o',hbo,hcy⟩:=HX.o (p+y) (by omega)
    simp only[Option.some.injEq,Addr.mk.injEq] at hbo
    obtain ⟨rfl,rfl,_⟩:=hbo
    rw[←Nat.add_assoc] at hcy
    obtain ⟨hxb0,hxb1⟩:=HB.o (p+y) (by omega)
    have hnb:=zgn X p y fun q hq=>HB.o _ (by omega)
    have hpw:(256:Int)^y<=72057594037927936:=by
     have:y=0\/y=1\/y=2\/y=3\/y=4\/y=5\/y=6\/y=7:=by omega
     rcases this with rfl|rfl|rfl|rfl|rfl|rfl|rfl|rfl<;>decide
    have hs0:=hnb.1
    have hs1:nb X p y<72057594037927936:=by omega
    have HS:Hid (nb X p (y+1)=nb X p y * 256+X (p+y)):=rfl
    generalize nb X p y=t at *
    generalize X (p+y)=x at *
    clear hnb hpw
    go_wp2_with fail
    have hor:=or256 t x hs0 hs1 hxb0 hxb1
    exact⟨⟨_,_,_,⟨y+1,by omega,rfl,rfl⟩,by rw[hor,HS.o],rfl,by go_num⟩,by simp only[intOf];omega⟩
   .have hy':y=n:=by omega
    subst hy'
    have h1:=HRd.o.at_
    have hf1:=HRd.o.free 1
    go_wp2_with fail
    have hb0: ∀n,Below w.heap.size w (w.drewN n):=fun n=>below_drewN br n
    exact HR2.o _ ((HRd.o.ext (hb0 _)).setAt (p+y)) (zat (zbf (hb0 _)) (zca _ _ _ _))
theorem take_of (B:Nat)(a:Option Addr)(N c p s:Nat)(X:Nat->Int)(M:Int)(n:Nat)(hM:M=(n:Nat))(w:World)(R:EW)(hr:Rdr w B (.slice a N c) p s)(hN:N<=4194304)(hcap:N<=c)(hn1:1<=n)(hn:n<=8)(hp:p<=N)
  (hx:BsAt w a N X)(hb: ∀i,i<N->0<=X i/\X i<=255)(hBx:0<N-> ∀b o,a=some ⟨b,o,none⟩->b≠B)
  (hR1:N<p+n-> ∀w',Below w.heap.size w w'->R (.panicked [{v:= .iface 95 (.agg #[.int .i64 2,.int .i64 (s:Nat)]),recovered:=false}]) w')
  (hR2:p+n<=N-> ∀w',Rdr w' B (.slice a N c) (p+n) s->w.grownBy w' (some B)->R (.returned (.int .u64 (nb X p n))) w'):
  Calls Tryz.prog 86 #[.pointer (some ⟨B,0,none⟩),.int .i64 M] w R:=by
 subst hM
 exact take_any B a N c p s X n w R hr hN hcap hn1 hn hp hx hb hBx hR1 hR2
theorem BsAt.grown {w w':World}{a:Option Addr}{n:Nat}{X:Nat->Int}(h:BsAt w a n X)(hg:w.grownBy w' (some B))(hBx:0<n-> ∀b o,a=some ⟨b,o,none⟩->b≠B):BsAt w' a n X:=by
 intro i hi
 obtain ⟨b,o,h1,h2⟩:=h i hi
 exact⟨b,o,h1,(hg.cell_far _ (zab h2) (by simpa using hBx (by omega) b o h1)).trans h2⟩
end
section
attribute [local go_sem↓] Go.wp_at_zero Go.wp_at_succ
theorem zkm (B:Nat)(a:Option Addr)(N c p s:Nat)(X:Nat->Int)(w:World)(R:EW)(hr:Rdr w B (.slice a N c) p s)(hN:N<=4194304)(hcap:N<=c)(hp:p<=N)
  (hx:BsAt w a N X)(hb: ∀i,i<N->0<=X i/\X i<=255)(hBx:0<N-> ∀b o,a=some ⟨b,o,none⟩->b≠B)
  (hR1:N<p+4-> ∀w',Below w.heap.size w w'->R (.panicked [{v:= .iface 95 (.agg #[.int .i64 2,.int .i64 (s:Nat)]),recovered:=false}]) w')
  (hR2:p+4<=N-> ∀w',Rdr w' B (.slice a N c) (p+4) s->w.grownBy w' (some B)->R (.returned (.int .i64 (nb X p 4))) w'):
  Calls Tryz.prog 85 #[.pointer (some ⟨B,0,none⟩)] w R:=by
 have HR1:=zl hR1
 have HR2:=zl hR2
 have HRd:=zl hr
 have HX:=zl hx
 have HB:=zl hb
 have HBx:=zl hBx
 clear hR1 hR2 hr hx hb hBx
 go_enter Tryz.func85,Tryz.ntmps85
 go_wp2_with fail
 refine take_of B a N c p s X _ 4 (by rfl) _ _ HRd.o (by omega) hcap (by decide) (by decide) hp HX.o HB.o HBx.o ?_ ?_
 .intro hlong w' hb'
  exact⟨rfl,HR1.o hlong w' hb'⟩
 intro hshort w' hr' hg'
 have hnb:=zgn X p 4 fun q hq=>HB.o _ (by omega)
 have hs0:=hnb.1
 have hs1:nb X p 4<=4294967295:=by omega
 have hfin:=zl (HR2.o hshort w' hr' hg')
 clear hnb hr' hg'
 generalize nb X p 4=v at *
 go_wp2_with fail
 exact hfin.o
theorem choice_any (B:Nat)(a:Option Addr)(N c p s last:Nat)(X:Nat->Int)(w:World)(R:EW)(hr:Rdr w B (.slice a N c) p s)(hN:N<=4194304)(hcap:N<=c)(hp:p<=N)(_hlast:last<=255)
  (hx:BsAt w a N X)(hb: ∀i,i<N->0<=X i/\X i<=255)(hBx:0<N-> ∀b o,a=some ⟨b,o,none⟩->b≠B)
  (hR1:N<p+1-> ∀w',Below w.heap.size w w'->R (.panicked [{v:= .iface 95 (.agg #[.int .i64 2,.int .i64 (s:Nat)]),recovered:=false}]) w')
  (hR2:p+1<=N-> ¬(1<=X p/\X p<=last)-> ∀w',w.grownBy w' (some B)->R (.panicked [{v:= .iface 95 (.agg #[.int .i64 3,.int .i64 (s:Nat)]),recovered:=false}]) w')
  (hR3:p+1<=N->1<=X p/\X p<=last-> ∀w',Rdr w' B (.slice a N c) (p+1) s->w.grownBy w' (some B)->R (.returned (.int .i64 (X p))) w'):
  Calls Tryz.prog 84 #[.pointer (some ⟨B,0,none⟩),.int .i64 (last:Nat)] w R:=by
 have HR1:=zl hR1
 have HR2:=zl hR2
 have HR3:=zl hR3
 have HRd:=zl hr
 have HX:=zl hx
 have HB:=zl hb
 have HBx:=zl hBx
 clear hR1 hR2 hR3 hr hx hb hBx
 go_enter Tryz.func84,Tryz.ntmps84
 go_wp2_with fail
 refine take_of B a N c p s X _ 1 (by rfl) _ _ HRd.o (by omega) hcap (by decide) (by decide) hp HX.o HB.o HBx.o ?_ ?_
 .intro hlong w' hb'
  exact⟨rfl,HR1.o hlong w' hb'⟩
 intro hshort w' hr' hg'
 have hbp:=HB.o p (by omega)
 have e1:nb X p 1=X p:=by simp[nb]
 rw[e1]
 have HR2':Hid (¬(1<=X p/\X p<=last)->R (.panicked [{v:= .iface 95 (.agg #[.int .i64 3,.int .i64 (s:Nat)]),recovered:=false}]) w'):=fun h=>HR2.o hshort h w' hg'
 have HR3':Hid (1<=X p/\X p<=last->R (.returned (.int .i64 (X p))) w'):=fun h=>HR3.o hshort h w' hr' hg'
 have HRd':=zl hr'
 clear HR1 HR2 HR3 e1 hr' hg' HRd HX HB
 generalize X p=x at *
 obtain ⟨hb0,hb1⟩:=hbp
 by_cases h1:x<1
 .have hfin:Hid (R (.panicked [{v:= .iface 95 (.agg #[.int .i64 3,.int .i64 (s:Nat)]),recovered:=false}]) w'):=HR2'.o (by omega)
  go_wp2_with fail
  refine zdx B _ (p+1) s _ _ _ HRd'.o ?_
  exact⟨rfl,hfin.o⟩
 .by_cases h2:(last:Int)<x
  .have hfin:Hid (R (.panicked [{v:= .iface 95 (.agg #[.int .i64 3,.int .i64 (s:Nat)]),recovered:=false}]) w'):=HR2'.o (by omega)
   go_wp2_with fail
   refine zdx B _ (p+1) s _ _ _ HRd'.o ?_
   exact⟨rfl,hfin.o⟩
  .have hfin:=zl (HR3'.o (by omega))
   go_wp2_with fail
   exact hfin.o
theorem choice_of (B:Nat)(a:Option Addr)(N c p s:Nat)(M:Int)(last:Nat)(hM:M=(last:Nat))(X:Nat->Int)(w:World)(R:EW)(hr:Rdr w B (.slice a N c) p s)(hN:N<=4194304)(hcap:N<=c)(hp:p<=N)(hlast:last<=255)
  (hx:BsAt w a N X)(hb: ∀i,i<N->0<=X i/\X i<=255)(hBx:0<N-> ∀b o,a=some ⟨b,o,none⟩->b≠B)
  (hR1:N<p+1-> ∀w',Below w.heap.size w w'->R (.panicked [{v:= .iface 95 (.agg #[.int .i64 2,.int .i64 (s:Nat)]),recovered:=false}]) w')
  (hR2:p+1<=N-> ¬(1<=X p/\X p<=last)-> ∀w',w.grownBy w' (some B)->R (.panicked [{v:= .iface 95 (.agg #[.int .i64 3,.int .i64 (s:Nat)]),recovered:=false}]) w')
  (hR3:p+1<=N->1<=X p/\X p<=last-> ∀w',Rdr w' B (.slice a N c) (p+1) s->w.grownBy w' (some B)->R (.returned (.int .i64 (X p))) w'):
  Calls Tryz.prog 84 #[.pointer (some ⟨B,0,none⟩),.int .i64 M] w R:=by
 subst hM
 exact choice_any B a N c p s last X w R hr hN hcap hp hlast hx hb hBx hR1 hR2 hR3
end
section
attribute [local go_sem↓] Go.wp_at_zero Go.wp_at_succ
def part8 (X:Nat->Int) (p:Nat) (l:List Nat):Nat->Int:=fun f=>if l.contains f then dval X p f else 0
theorem lay_mid (k:Int)(j:Nat)(h:j<(lay k).length):(((lay k).take j).map wid).sum=4 * j:=by
 rcases zcd k with h'|h'|h'|h'|h'|h'|h'|h'|h'
 case inr.inr.inr.inr.inr.inr.inr.inr=>
  obtain ⟨h1,h2,h3,h4,h5,h6,h7,h8⟩:=isK_not h'
  simp only[beq_eq_false_iff_ne] at h1 h2 h3 h4 h5 h6 h7 h8
  simp[lay,h1,h2,h3,h4,h5,h6,h7,h8] at h
 all_goals
  subst h'
  simp[lay] at h
 all_goals
  have hj:j=0\/j=1\/j=2\/j=3:=by omega
  rcases hj with rfl|rfl|rfl|rfl
 all_goals first|omega|(simp[lay,wid];done)|rfl
theorem lay_sum (k:Int)(h:isK k=true):5+((lay k).map wid).sum=elen k:=by
 rcases zcd k with h'|h'|h'|h'|h'|h'|h'|h'|h'
 case inr.inr.inr.inr.inr.inr.inr.inr=>rw[h'] at h;cases h
 all_goals
  subst h'
  rfl
theorem lay_idx (k:Int)(j f:Nat)(h:(lay k)[j]?=some f):(lay k).idxOf f=j:=by
 obtain ⟨hj,he⟩:=List.getElem?_eq_some_iff.1 h
 rw[←he]
 exact(lay_nodup k).idxOf_getElem j hj
theorem lay_prefix (k:Int)(j f:Nat)(h:(lay k)[j]?=some f):(((lay k).take j).map wid).sum+wid f<=((lay k).map wid).sum:=by
 have e:(lay k).take (j+1)=(lay k).take j++[f]:=zag _ _ _ h
 have:(lay k)=(lay k).take (j+1)++(lay k).drop (j+1):=(List.take_append_drop _ _).symm
 have h2:=congrArg (fun l=>(l.map wid).sum) this
 simp only[List.map_append,List.sum_append,e,List.map_cons,List.map_nil,List.sum_cons,List.sum_nil] at h2
 omega
theorem part8_step (X:Nat->Int)(p j f:Nat)(h:(lay (X p))[j]?=some f):
  (fun i=>if i=f then dval X p f else part8 X p ((lay (X p)).take j) i)=part8 X p ((lay (X p)).take (j+1)):=by
 funext i
 rw[zag _ j f h]
 simp only[part8,List.contains_iff_mem,List.mem_append,List.mem_singleton]
 by_cases hi:i=f
 .simp[hi]
 .simp[hi]
theorem zcl {w0 w w':World}{B:Nat}(hb:Below w0.heap.size w0 w)(hg:w.grownBy w' (some B))(hB:w0.heap.size<=B):Below w0.heap.size w0 w':=
 ⟨hg.os.trans hb.os,hg.tape.trans hb.tape,hg.output.trans hb.output,llt hb.size hg.size,fun k hk=>by rw[hg.block k (lll hk hb.size) (by simp;omega),hb.block k hk]⟩
theorem zfi (w0:World)(hL:zcq w0)(B:Nat)(a:Option Addr)(N c p s:Nat)(X:Nat->Int)(w:World)(R:EW)(h0:Below w0.heap.size w0 w)(hB:w0.heap.size<=B)
  (hr:Rdr w B (.slice a N c) p s)(hN:N<=4194304)(hcap:N<=c)(hp:p<N)(hx:BsAt w a N X)(hb: ∀i,i<N->0<=X i/\X i<=255)(hBx: ∀b o,a=some ⟨b,o,none⟩->b≠B)
  (hR1:isK (X p)=false-> ∀w',w.grownBy w' (some B)->R (.panicked [{v:= .iface 95 (.agg #[.int .i64 3,.int .i64 (p:Nat)]),recovered:=false}]) w')
  (hR2:isK (X p)=true->N<p+elen (X p)-> ∀w',w.grownBy w' (some B)->R (.panicked [{v:= .iface 95 (.agg #[.int .i64 2,.int .i64 (p:Nat)]),recovered:=false}]) w')
  (hR3:isK (X p)=true->p+elen (X p)<=N-> ∀w',Rdr w' B (.slice a N c) (p+elen (X p)) p->w.grownBy w' (some B)->R (.returned (evv (dev X p))) w'):
  Calls Tryz.prog 50 #[.pointer (some ⟨B,0,none⟩)] w R:=by
 have HR1:=zl hR1
 have HR2:=zl hR2
 have HR3:=zl hR3
 have HRd:=zl hr
 have HX:=zl hx
 have HB:=zl hb
 have HBx:=zl hBx
 have HL:=zl hL
 have H0:=zl h0
 have h1:=hr.at_
 have h2:=hr.start
 have hf2:=hr.free 2
 have hlt:=hr.lt
 obtain ⟨hb0,hb1⟩:=hb p hp
 clear hR1 hR2 hR3 hr hx hb hBx hL h0
 go_enter Tryz.func50,Tryz.ntmps50
 go_wp2_with fail
 have hg1:w.grownBy ((w.setCell ⟨B,2,none⟩ (.int .i64 (p:Nat))).alloc (.cells #[.int .i64 0,.int .i64 0,.int .i64 0,.int .i64 0,.int .i64 0,.int .i64 0,.int .i64 0,.int .i64 0,.int .i64 0,.int .i64 0] 42)) (some B):=zat (zca _ _ _ _) (World.grownBy_alloc _ _ _)
 have hr1:Rdr ((w.setCell ⟨B,2,none⟩ (.int .i64 (p:Nat))).alloc (.cells #[.int .i64 0,.int .i64 0,.int .i64 0,.int .i64 0,.int .i64 0,.int .i64 0,.int .i64 0,.int .i64 0,.int .i64 0,.int .i64 0] 42)) B (.slice a N c) p p:=(HRd.o.setStart p).ext (br.alloc nr _)
 have hE1:Ints ((w.setCell ⟨B,2,none⟩ (.int .i64 (p:Nat))).alloc (.cells #[.int .i64 0,.int .i64 0,.int .i64 0,.int .i64 0,.int .i64 0,.int .i64 0,.int .i64 0,.int .i64 0,.int .i64 0,.int .i64 0] 42)) w.heap.size 10 (fun _=>0):=by
  have:=Ints.new (w:=w.setCell ⟨B,2,none⟩ (.int .i64 (p:Nat))) (t:=42) 10 (fun _=>0) (zgd (fun _=>0))
  simpa using this
 generalize (w.setCell ⟨B,2,none⟩ (.int .i64 (p:Nat))).alloc (.cells #[.int .i64 0,.int .i64 0,.int .i64 0,.int .i64 0,.int .i64 0,.int .i64 0,.int .i64 0,.int .i64 0,.int .i64 0,.int .i64 0] 42)=W1 at *
 have hEB:B≠w.heap.size:=by omega
 clear h1 h2 hf2
 refine choice_of B a N c p p _ 8 (by rfl) X _ _ hr1 hN hcap (by omega) (by decide) (HX.o.grown hg1 (fun _=>HBx.o)) HB.o (fun _=>HBx.o) (fun h=>by omega) ?_ ?_
 .intro _ hnk w2 hg2
  exact⟨rfl,HR1.o (by simp only[isK,decide_eq_false_iff_not];exact hnk) w2 (zat hg1 hg2)⟩
 intro _ hk18 w2 hr2 hg2
 have hG2:=zat hg1 hg2
 have hE2:=hE1.grown hg2 (by simpa using hEB)
 have HG2:=zl hG2
 have HE2:=zl hE2
 have HR2d:=zl hr2
 clear hg1 hr1 hE1 hg2 hr2 hG2 hE2
 have hk18:1<=X p/\X p<=8:=hk18
 have hk:isK (X p)=true:=by simp only[isK,decide_eq_true_eq];exact hk18
 have HK:=zl hk
 have he9:=zjy (X p) hk
 have HLS:Hid (5+((lay (X p)).map wid).sum=elen (X p)):=lay_sum (X p) hk
 obtain ⟨k,hkk⟩:=Int.eq_ofNat_of_zero_le (show 0<=X p by omega)
 clear hk
 go_wp2_with fail
 refine zkm B a N c (p+1) p X _ _ HR2d.o hN hcap (by omega) (HX.o.grown HG2.o (fun _=>HBx.o)) HB.o (fun _=>HBx.o) ?_ ?_
 .intro hlong w3 hb3
  exact⟨rfl,HR2.o HK.o (by omega) w3 (zat HG2.o (zbf hb3))⟩
 intro hshort w3 hr3 hg3
 have hnb:=zgn X (p+1) 4 fun q hq=>HB.o _ (by omega)
 have hs0:=hnb.1
 have hs1:nb X (p+1) 4<=4294967295:=by omega
 have HG3:Hid (w.grownBy w3 (some B)):=zat HG2.o hg3
 have HE3:=zl (HE2.o.grown hg3 (by simpa using hEB))
 have HR3d:Hid (Rdr w3 B (.slice a N c) (p+5) p):=by
  have e:p+1+4=p+5:=by omega
  rw[e] at hr3
  exact hr3
 have hB3:=zcl H0.o HG3.o hB
 have hlay:=HL.o.below hB3 nr
 obtain ⟨tb,to,tc,ht0,hc0⟩:=HL.o k (by omega) (by omega)
 have ht:=(hB3.cell (zab ht0)).trans ht0
 have hl0:=zab ht
 obtain ⟨m,hm⟩:=xq ((lay k).length)
 have hm4:m<=4:=by rw[hm];exact zkt k
 rw[←hm] at ht
 have HM:Hid (m=(lay (X p)).length):=by show _=_;rw[hkk];exact hm
 have HC:Hid (∀i f,(lay (X p))[i]?=some f->w0.cell? ⟨tb,to+i,none⟩=some (.int .i64 (f:Nat))):=by rw[hkk];exact hc0
 have HKK:=zl hkk
 have HB3:=zl hB3
 have hlt3:B<w3.heap.size:=HR3d.o.lt
 have hge3:=HG3.o.size
 clear hnb hr3 hg3 hB3 hlay ht0 hc0 hm
 generalize hsq:nb X (p+1) 4=sq at *
 have HSQ:=zl hsq
 clear hsq
 go_wp2_with fail
 have hA4:Ints (w3.alloc (.cells #[.int .i64 0,.int .i64 0,.int .i64 0,.int .i64 0,.int .i64 0,.int .i64 0,.int .i64 0,.int .i64 0] 131)) w3.heap.size 8 (part8 X p []):=Ints.new (w:=w3) (t:=131) 8 (fun _=>0) (zhf (fun _=>0))
 have hG4:w.grownBy (w3.alloc (.cells #[.int .i64 0,.int .i64 0,.int .i64 0,.int .i64 0,.int .i64 0,.int .i64 0,.int .i64 0,.int .i64 0] 131)) (some B):=zat HG3.o (World.grownBy_alloc _ _ _)
 have hR4:Rdr (w3.alloc (.cells #[.int .i64 0,.int .i64 0,.int .i64 0,.int .i64 0,.int .i64 0,.int .i64 0,.int .i64 0,.int .i64 0] 131)) B (.slice a N c) (p+5) p:=HR3d.o.ext (br.alloc nr _)
 have hE4:Ints (w3.alloc (.cells #[.int .i64 0,.int .i64 0,.int .i64 0,.int .i64 0,.int .i64 0,.int .i64 0,.int .i64 0,.int .i64 0] 131)) w.heap.size 10 (fun _=>0):=HE3.o.alloc _
 have hLs:w3.heap.size<(w3.alloc (.cells #[.int .i64 0,.int .i64 0,.int .i64 0,.int .i64 0,.int .i64 0,.int .i64 0,.int .i64 0,.int .i64 0] 131)).heap.size:=by simp
 generalize w3.alloc (.cells #[.int .i64 0,.int .i64 0,.int .i64 0,.int .i64 0,.int .i64 0,.int .i64 0,.int .i64 0,.int .i64 0] 131)=W4 at *
 obtain ⟨L,hLL⟩:=xq w3.heap.size
 rw[←hLL] at hA4 hlt3 hge3 hl0 hLs ⊢
 have HA4:=zl hA4
 have HG4:=zl hG4
 have HR4:=zl hR4
 have HE4:=zl hE4
 have hLB:B≠L:=by omega
 have hEL:L≠w.heap.size:=by
  intro e
  have:=HE3.o.lt
  omega
 clear ht hA4 hG4 hR4 hE4 hLL hl0
 go_loopw [7,23] (fun _ i wr=> ∃j:Nat,j<=m/\i= .int .i64 j/\Rdr wr B (.slice a N c) (p+5+(((lay (X p)).take j).map wid).sum) p/\w.grownBy wr (some B)/\Ints wr L 8 (part8 X p ((lay (X p)).take j))/\Ints wr w.heap.size 10 (fun _=>0)/\p+5+(((lay (X p)).take j).map wid).sum<=N) (fun _ i _=>m-(intOf i).toNat)
 case atStart=>exact⟨0,Nat.zero_le _,rfl,HR4.o,HG4.o,HA4.o,HE4.o,by simp;omega⟩
 case round=>
  obtain ⟨j,hj,rfl,hRr,hGr,hAr,hEr,hps⟩:=hrel
  have HGr:=zl hGr
  have HAr:=zl hAr
  have HEr:=zl hEr
  clear hGr hAr hEr
  by_cases hjm:j<m
  .obtain ⟨f,hf⟩: ∃f,(lay (X p))[j]?=some f:=⟨_,List.getElem?_eq_getElem (by rw[←HM.o];exact hjm)⟩
   have hf8:f<8:=lay_lt (X p) f (List.mem_of_getElem? hf)
   have hmid:=lay_mid (X p) j (by rw[←HM.o];exact hjm)
   have hpre:=lay_prefix (X p) j f hf
   rw[hmid] at hRr hpre hps
   have hBr:=zcl H0.o HGr.o hB
   have hcf:wr.cell? ⟨tb,to+j,none⟩=some (.int .i64 (f:Nat)):=(hBr.cell (zab (HC.o j f hf))).trans (HC.o j f hf)
   have HRr:=zl hRr
   have hls:=HLS.o
   have HF:=zl hf
   have HS1:Hid ((((lay (X p)).take (j+1)).map wid).sum=4 * j+wid f):=by
    show _=_
    rw[zag _ j f hf]
    simp only[List.map_append,List.sum_append,hmid,List.map_cons,List.map_nil,List.sum_cons,List.sum_nil]
    omega
   have hwp:1<=wid f:=by unfold wid;split<;>omega
   have hw8:=wid_le f
   clear hBr hf hmid hRr
   generalize hsum:((lay (X p)).map wid).sum=SM at *
   clear hsum
   go_wp2_with fail
   refine width_nat _ _ _ ?_
   go_wp2_with fail
   refine take_of B a N c (p+5+4 * j) p X _ (wid f) (by rfl) _ _ HRr.o hN hcap hwp hw8 ?_ (HX.o.grown HGr.o (fun _=>HBx.o)) HB.o (fun _=>HBx.o) ?_ ?_
   .omega
   .intro hlong w5 hb5
    exact⟨rfl,HR2.o HK.o (by omega) w5 (zat HGr.o (zbf hb5))⟩
   intro hsh w5 hr5 hg5
   have hnb:=zgn X (p+5+4 * j) (wid f) fun q hq=>HB.o _ (by omega)
   have hdv:dval X p f=if f=6 then IntKind.i64.wrap (nb X (p+5+4 * j) 8) else nb X (p+5+4 * j) 4:=by
    simp only[dval]
    rw[if_pos (by rw[List.contains_iff_mem];exact List.mem_of_getElem? HF.o),lay_idx (X p) j f HF.o]
   have HG5:Hid (w.grownBy w5 (some B)):=zat HGr.o hg5
   have hA5:=HAr.o.grown hg5 (by simpa using hLB)
   have HE5:=zl (HEr.o.grown hg5 (by simpa using hEB))
   have HR5:=zl hr5
   have hAf:=hA5.cell f hf8
   have hAfr:=hA5.free f
   have HA5:=zl hA5
   have HEND:Hid (∀x,x=dval X p f->Rdr (w5.setCell ⟨L,f,none⟩ (.int .i64 x)) B (.slice a N c) (p+5+(((lay (X p)).take (j+1)).map wid).sum) p/\w.grownBy (w5.setCell ⟨L,f,none⟩ (.int .i64 x)) (some B)/\Ints (w5.setCell ⟨L,f,none⟩ (.int .i64 x)) L 8 (part8 X p ((lay (X p)).take (j+1)))/\Ints (w5.setCell ⟨L,f,none⟩ (.int .i64 x)) w.heap.size 10 (fun _=>0)/\p+5+(((lay (X p)).take (j+1)).map wid).sum<=N):=by
    intro x hx
    refine⟨?_,?_,?_,?_,?_⟩
    .rw[HS1.o,show p+5+(4 * j+wid f)=p+5+4 * j+wid f by omega]
     exact HR5.o.grown (zca w5 L f _) (by simpa using Ne.symm hLB)
    .have hbl:Below w.heap.size w5 (w5.setCell ⟨L,f,none⟩ (.int .i64 x)):=br.setCell (by show w.heap.size<=L;omega) _
     have h5:=HG5.o
     exact⟨h5.os,h5.tape,h5.output,llt h5.size hbl.size,fun q hq hne=>(hbl.block q hq).trans (h5.block q hq hne)⟩
    .have:=HA5.o.store f x
     rw[hx,part8_step X p j f HF.o] at this
     rw[hx]
     exact this
    .exact HE5.o.store_other hEL
    .rw[HS1.o];omega
   clear hr5 hg5 hA5 HA5 HAr HGr HEr HR2 HR1 HR3
   by_cases h6:f=6
   .have hw:wid f=8:=by simp[wid,h6]
    rw[hw] at hnb ⊢
    rw[if_pos h6] at hdv
    have HDV:Hid (wrap64 (nb X (p+5+4 * j) 8)=dval X p f):=by rw[hdv,wrap_is];rfl
    generalize nb X (p+5+4 * j) 8=V at *
    clear hdv hnb h6
    go_wp2_with fail
    go_roundw
    case rel=>exact⟨j+1,by omega,by go_num,HEND.o _ HDV.o⟩
    case measure=>simp only[intOf];omega
   .have hw:wid f=4:=by simp[wid,h6]
    rw[hw] at hnb ⊢
    rw[if_neg h6] at hdv
    have HDV:=zl (hdv.symm)
    have hv0:=hnb.1
    have hv1:nb X (p+5+4 * j) 4<=4294967295:=by omega
    generalize nb X (p+5+4 * j) 4=V at *
    clear hdv hnb
    go_wp2_with fail
    go_roundw
    case rel=>exact⟨j+1,by omega,by go_num,HEND.o _ HDV.o⟩
    case measure=>simp only[intOf];omega
  .have hj':j=m:=by omega
   subst hj'
   have htk:(lay (X p)).take j=lay (X p):=List.take_of_length_le (by rw[←HM.o];omega)
   rw[htk] at hRr hps
   have hAm:=HAr.o
   rw[htk] at hAm
   have hpd:part8 X p (lay (X p))=dval X p:=by
    funext f
    simp only[part8,dval]
    by_cases hc:(lay (X p)).contains f=true
    .rw[if_pos hc,if_pos hc]
    .rw[if_neg hc,if_neg hc]
   rw[hpd] at hAm
   have hls:=HLS.o
   have HRm:Hid (Rdr wr B (.slice a N c) (p+elen (X p)) p):=by
    rw[←hls,←Nat.add_assoc]
    exact hRr
   have hcA:=hAm.cell
   have hltA:=hAm.lt
   clear hRr hAm hpd htk
   go_wp2_with fail
   refine event_any _ _ (dval X p) _ _ ?_
   intro w6 hb6
   have HG6:Hid (w.grownBy w6 (some B)):=zat HGr.o (zbf hb6)
   have HR6:=zl (HRm.o.ext hb6)
   have hE6:=HEr.o.ext hb6
   have hcE:=hE6.cell
   have hfE:=hE6.free
   have hd0:dev X p 0=k:=by simp[dev,HKK.o]
   have hd1:dev X p 1=sq:=by simp[dev,HSQ.o]
   have hdj: ∀f,dev X p (f+2)=dval X p f:=by intro f;simp[dev]
   have HD:Hid (evv (dev X p)= .agg #[.int .i64 k,.int .i64 sq,.int .i64 (dval X p 0),.int .i64 (dval X p 1),.int .i64 (dval X p 2),.int .i64 (dval X p 3),.int .i64 (dval X p 4),.int .i64 (dval X p 5),.int .i64 (dval X p 6),.int .i64 (dval X p 7)]):=by
    show _=_
    unfold evv
    rw[hd0,hd1,←hdj 0,←hdj 1,←hdj 2,←hdj 3,←hdj 4,←hdj 5,←hdj 6,←hdj 7]
   generalize dval X p=d at *
   clear hcA hltA hb6 hd0 hd1 hdj
   have key: ∀(W:World) (i:Nat) (x:Value),(Rdr W B (.slice a N c) (p+elen (X p)) p/\w.grownBy W (some B))->(Rdr (W.setCell ⟨w.heap.size,i,none⟩ x) B (.slice a N c) (p+elen (X p)) p/\w.grownBy (W.setCell ⟨w.heap.size,i,none⟩ x) (some B)):=by
    intro W i x hh
    refine⟨hh.1.grown (zca W w.heap.size i x) (fun h=>hEB (Option.some.inj h).symm),?_⟩
    have hbl:Below w.heap.size W (W.setCell ⟨w.heap.size,i,none⟩ x):=(Below.refl w.heap.size W).setCell (p:=⟨w.heap.size,i,none⟩) (Nat.le_refl w.heap.size) x
    exact⟨hh.2.os,hh.2.tape,hh.2.output,llt hh.2.size hbl.size,fun q hq hne=>(hbl.block q hq).trans (hh.2.block q hq hne)⟩
   have hfinW:Hid (Rdr ((((((((((w6.setCell ⟨w.heap.size,0,none⟩ (.int .i64 k)).setCell ⟨w.heap.size,1,none⟩ (.int .i64 sq)).setCell ⟨w.heap.size,2,none⟩ (.int .i64 (d 0))).setCell ⟨w.heap.size,3,none⟩ (.int .i64 (d 1))).setCell ⟨w.heap.size,4,none⟩ (.int .i64 (d 2))).setCell ⟨w.heap.size,5,none⟩ (.int .i64 (d 3))).setCell ⟨w.heap.size,6,none⟩ (.int .i64 (d 4))).setCell ⟨w.heap.size,7,none⟩ (.int .i64 (d 5))).setCell ⟨w.heap.size,8,none⟩ (.int .i64 (d 6))).setCell ⟨w.heap.size,9,none⟩ (.int .i64 (d 7))) B (.slice a N c) (p+elen (X p)) p/\w.grownBy ((((((((((w6.setCell ⟨w.heap.size,0,none⟩ (.int .i64 k)).setCell ⟨w.heap.size,1,none⟩ (.int .i64 sq)).setCell ⟨w.heap.size,2,none⟩ (.int .i64 (d 0))).setCell ⟨w.heap.size,3,none⟩ (.int .i64 (d 1))).setCell ⟨w.heap.size,4,none⟩ (.int .i64 (d 2))).setCell ⟨w.heap.size,5,none⟩ (.int .i64 (d 3))).setCell ⟨w.heap.size,6,none⟩ (.int .i64 (d 4))).setCell ⟨w.heap.size,7,none⟩ (.int .i64 (d 5))).setCell ⟨w.heap.size,8,none⟩ (.int .i64 (d 6))).setCell ⟨w.heap.size,9,none⟩ (.int .i64 (d 7))) (some B)):=key _ 9 _ (key _ 8 _ (key _ 7 _ (key _ 6 _ (key _ 5 _ (key _ 4 _ (key _ 3 _ (key _ 2 _ (key _ 1 _ (key _ 0 _ (⟨HR6.o,HG6.o⟩))))))))))
   have hfinE:Hid (Ints ((((((((((w6.setCell ⟨w.heap.size,0,none⟩ (.int .i64 k)).setCell ⟨w.heap.size,1,none⟩ (.int .i64 sq)).setCell ⟨w.heap.size,2,none⟩ (.int .i64 (d 0))).setCell ⟨w.heap.size,3,none⟩ (.int .i64 (d 1))).setCell ⟨w.heap.size,4,none⟩ (.int .i64 (d 2))).setCell ⟨w.heap.size,5,none⟩ (.int .i64 (d 3))).setCell ⟨w.heap.size,6,none⟩ (.int .i64 (d 4))).setCell ⟨w.heap.size,7,none⟩ (.int .i64 (d 5))).setCell ⟨w.heap.size,8,none⟩ (.int .i64 (d 6))).setCell ⟨w.heap.size,9,none⟩ (.int .i64 (d 7))) w.heap.size 10 (fun i=>if i=9 then d 7 else if i=8 then d 6 else if i=7 then d 5 else if i=6 then d 4 else if i=5 then d 3 else if i=4 then d 2 else if i=3 then d 1 else if i=2 then d 0 else if i=1 then sq else if i=0 then (k:Int) else 0)):=((((((((((hE6.store 0 k).store 1 sq).store 2 (d 0)).store 3 (d 1)).store 4 (d 2)).store 5 (d 3)).store 6 (d 4)).store 7 (d 5)).store 8 (d 6)).store 9 (d 7))
   clear key
   go_wp2_with fail
   clear hcE hfE hE6
   generalize ((((((((((w6.setCell ⟨w.heap.size,0,none⟩ (.int .i64 k)).setCell ⟨w.heap.size,1,none⟩ (.int .i64 sq)).setCell ⟨w.heap.size,2,none⟩ (.int .i64 (d 0))).setCell ⟨w.heap.size,3,none⟩ (.int .i64 (d 1))).setCell ⟨w.heap.size,4,none⟩ (.int .i64 (d 2))).setCell ⟨w.heap.size,5,none⟩ (.int .i64 (d 3))).setCell ⟨w.heap.size,6,none⟩ (.int .i64 (d 4))).setCell ⟨w.heap.size,7,none⟩ (.int .i64 (d 5))).setCell ⟨w.heap.size,8,none⟩ (.int .i64 (d 6))).setCell ⟨w.heap.size,9,none⟩ (.int .i64 (d 7)))=WF at *
   have hcF:=hfinE.out.cell
   have c0:=hcF 0 (by decide)
   have c1:=hcF 1 (by decide)
   have c2:=hcF 2 (by decide)
   have c3:=hcF 3 (by decide)
   have c4:=hcF 4 (by decide)
   have c5:=hcF 5 (by decide)
   have c6:=hcF 6 (by decide)
   have c7:=hcF 7 (by decide)
   have c8:=hcF 8 (by decide)
   have c9:=hcF 9 (by decide)
   clear hcF
   simp at c0 c1 c2 c3 c4 c5 c6 c7 c8 c9
   refine bodyPost_ret (v:= .agg #[.int .i64 k,.int .i64 sq,.int .i64 (d 0),.int .i64 (d 1),.int .i64 (d 2),.int .i64 (d 3),.int .i64 (d 4),.int .i64 (d 5),.int .i64 (d 6),.int .i64 (d 7)]) (by simp[results,Tryz.results50,go_sem,c0,c1,c2,c3,c4,c5,c6,c7,c8,c9]) rfl ?_
   rw[←HD.o]
   exact HR3.o HK.o (by omega) WF hfinW.out.1 hfinW.out.2
end
