import Derived.Test.YtmiiejinahnpkaaGreatDoorYJ
set_option maxRecDepth 8000
set_option maxHeartbeats 2000000
namespace Go.Proofs.YtmiiejinahnpkaaGreatDoor
open Go.RowKit
attribute [local go_sem↓] Go.wp_at_zero Go.wp_at_succ
structure zdt (w:World) (sa:Option Addr) (m:Nat) (K:Nat->Int) (A:Nat->Option Addr) (N C:Nat->Nat) (X:Nat->Nat->Int) (A':Nat->Option Addr) (N' C':Nat->Nat) (E:Nat->Nat->Nat->Int) (b:Nat->Bool):Prop where
 cell: ∀i,i<m-> ∃g o,sa=some ⟨g,o,none⟩/\w.cell? ⟨g,o+i * 4,none⟩=some (.int .i64 (K i))/\w.cell? ⟨g,o+i * 4+1,none⟩=some (.slice (A i) (N i) (C i))/\w.cell? ⟨g,o+i * 4+2,none⟩=some (.slice (A' i) (N' i) (C' i))/\w.cell? ⟨g,o+i * 4+3,none⟩=some (.bool (b i))
 bs: ∀i,i<m->N i<=1048576/\BsAt w (A i) (N i) (X i)/\ ∀q,q<N i->0<=X i q/\X i q<=255
 ev: ∀i,i<m->N' i<=1048576/\ze1 w (A' i) (N' i) (E i)/\ ∀q j,-9223372036854775808<=E i q j/\E i q j<=9223372036854775807
variable {w:World}
theorem zdt.ext {w':World}{sa:Option Addr}{m:Nat}{K:Nat->Int}{A:Nat->Option Addr}{N C:Nat->Nat}{X:Nat->Nat->Int}{A':Nat->Option Addr}{N' C':Nat->Nat}{E:Nat->Nat->Nat->Int}{b:Nat->Bool}
  (h:zdt w sa m K A N C X A' N' C' E b)(hb:Below w.heap.size w w'):zdt w' sa m K A N C X A' N' C' E b:=by
 refine⟨fun i hi=>?_,fun i hi=>⟨(h.bs i hi).1,BsAt.ext (h.bs i hi).2.1 hb,(h.bs i hi).2.2⟩,fun i hi=>⟨(h.ev i hi).1,ze1.ext (h.ev i hi).2.1 hb,(h.ev i hi).2.2⟩⟩
 obtain ⟨g,o,h1,h2,h3,h4,h5⟩:=h.cell i hi
 exact⟨g,o,h1,(hb.cell (zab h2)).trans h2,(hb.cell (zab h3)).trans h3,(hb.cell (zab h4)).trans h4,(hb.cell (zab h5)).trans h5⟩
variable {base:Nat}
theorem WK.mono {Z Z' B:Nat}{own:Nat->Nat×Int}{f:Nat->Value}{xs:Nat->List Value}{ms:List Nat}{em:List Int}{last:Int}{many:Nat}
  (h:WK Z base B own w f xs ms em last many)(hZ:Z<=Z')(hm:Z'<=1048577):WK Z' base B own w f xs ms em last many:=by
 obtain ⟨n1,n2,n3,n4,n5,n6,n7,n8⟩:=h.nn
 exact⟨h.wj,h.x2,h.x6,h.l2,h.l6,h.lb,h.le,h.l4,h.lo,h.li,h.ll,⟨by omega,by omega,by omega,by omega,by omega,by omega,n7,by omega⟩,hm⟩
def xs0:Nat->List Value:=fun i=>if i=0 then [.slice none 0 0] else []
theorem WK.start (hb:w.heap[base]?=some (.cells #[.slice none 0 0,.slice none 0 0,.slice none 0 0,.slice none 0 0,.slice none 0 0,.slice none 0 0,.slice none 0 0,.slice none 0 0,.slice none 0 0,.int .i64 0,.int .i64 0] 30 (0,0))):
  WK 0 base base (fun _=>(0,0)) w (fun _=> .slice none 0 0) xs0 [] [] 0 0:=by
 refine⟨⟨hb,nr,rfl,rfl,fun j hj=>by rw[show xs0 j=[] by unfold xs0;rw[if_neg (by rcases hj with rfl|rfl|rfl|rfl|rfl|rfl|rfl|rfl<;>decide)]];exact World.ownsRow_nil _ _ _ _,fun j _ g hg=>by simp[Value.ownBlock] at hg⟩,rfl,rfl,rfl,rfl,?_,?_,rfl,?_,?_,?_,by simp[xs0],by omega⟩
 .intro i v m q;simp[xs0] at q
 .intro i v m q;simp[xs0] at q
 .intro i v m q;simp[xs0] at q
 .intro i v q;simp[xs0] at q
 .intro i v q;simp[xs0] at q
def ev8:Nat->Nat->Int:=fun _ j=>if j=0 then 8 else if j=1 then 258 else if j=9 then 3 else 0
def by8:List Int:=[8,0,0,1,2,0,0,0,3]
theorem ev8_res {L:List Int}{e:Int}{p:Nat}(h:ERes ev8 1 L e p):L=by8/\e=0/\p=0:=
 ERes.unique h (.inr ⟨fun q _=>by show fits (ev8 0)=true;decide,by decide,rfl,rfl⟩)
theorem ev8_range: ∀i j,-9223372036854775808<=ev8 i j/\ev8 i j<=9223372036854775807:=by
 intro i j
 unfold ev8
 split
 .omega
 .split
  .omega
  .split<;>omega
theorem Coded_any (sa:Option Addr)(m cs:Nat){K:Nat->Int}{A:Nat->Option Addr}{N C:Nat->Nat}{X:Nat->Nat->Int}{A':Nat->Option Addr}{N' C':Nat->Nat}{E:Nat->Nat->Nat->Int}{b:Nat->Bool}(w:World)(R:EW)
  (hm:m<=1048576)(hL:zcq w)(hS:zdt w sa m K A N C X A' N' C' E b)(hR: ∀w',Below w.heap.size w w'->R (.returned (.bool true)) w'):
  Calls Tryz.prog 3 #[.slice sa m cs] w R:=by
 have HR:=zl hR
 have HLA:=zl hL
 have HS:=zl hS
 clear hR hL hS
 go_enter Tryz.func3,Tryz.ntmps3
 go_wp2_with fail
 obtain ⟨B,hB⟩:=xq w.heap.size
 obtain ⟨w0,hw0⟩:=xq (w.alloc (.cells #[.slice none 0 0,.slice none 0 0,.slice none 0 0,.slice none 0 0,.slice none 0 0,.slice none 0 0,.slice none 0 0,.slice none 0 0,.slice none 0 0,.int .i64 0,.int .i64 0] 30))
 rw[←hw0,←hB]
 have HB:=zl hB
 have HB0:Hid (Below B w w0):=by rw[hw0,hB];exact br.alloc nr _
 have HW0:Hid (WK 0 B B (fun _=>(0,0)) w0 (fun _=> .slice none 0 0) xs0 [] [] 0 0):=WK.start (by rw[hw0,hB];exact heap_alloc_new w _)
 clear hB hw0
 go_loopw [4,5,6] (fun t _ _ wr=> ∃(i:Nat) (own:Nat->Nat×Int) (f:Nat->Value) (xs:Nat->List Value) (ms:List Nat) (em:List Int) (last:Int) (many:Nat),i<=m/\t= .int .i64 i/\WK i B B own wr f xs ms em last many/\Below B w wr) (fun t _ _ _=>m-(intOf t).toNat)
 case atStart=>exact⟨0,_,_,_,_,_,_,_,Nat.zero_le _,rfl,HW0.o,HB0.o⟩
 case round=>
  obtain ⟨i,own,f,xs,ms,em,last,many,hi,rfl,hW,hb⟩:=hrel
  by_cases hlt:i<m
  .have HW:Hid (WK (i+1) B B own wr f xs ms em last many):=hW.mono (by omega) (by omega)
   have HNN:=zl (hW.nn)
   have HBr:=zl hb
   have HSr:Hid (zdt wr sa m K A N C X A' N' C' E b):=HS.o.ext (by rw[←HB.o];exact hb)
   have HLr:Hid (zcq wr):=zcq.below HLA.o (B:=B) hb (by rw[HB.o];exact nr)
   obtain ⟨g,o,rfl,k0,k1,k2,k3⟩:=HSr.o.cell i hlt
   clear hW hb
   by_cases h4:K i=4
   .have HC:Hid (∀(R':EW),(∀own' f' xs' ms' em' last' many' w',WK (i+1) B B own' w' f' xs' ms' em' last' many'->Below B wr w'->R' (.returned (.bool true)) w')->Calls Tryz.prog 13 #[.pointer (some ⟨B,0,none⟩),.pointer none,.agg #[.int .i64 4,.slice (A i) (N i) (C i),.slice (A' i) (N' i) (C' i),.bool (b i)]] wr R'):=by
     intro R' hR'
     obtain ⟨q1,q2,q3,q4,q5,q6⟩:=HNN.o
     exact step_e HW.o (by omega) (by omega) (by omega) HLr.o (HSr.o.ev i hlt).1 (HSr.o.ev i hlt).2.1 (HSr.o.ev i hlt).2.2 (fun own' f' xs' ms' w' r1 _ _ _ _ _ r2 _=>hR' own' f' xs' ms' _ _ _ w' r1 r2)
    rw[h4] at k0
    go_wp2_with fail
    refine HC.o _ ?_
    intro own1 f1 xs1 ms1 em1 last1 many1 w1 hW1 hb1
    have HW1:=zl hW1
    have HB1:=zl (HBr.o.trans hb1)
    clear hW1 hb1 k0 k1 k2 k3
    go_wp2_with fail
    refine zku HW1.o ?_
    intro w2 hb2
    have HW2:=zl (HW1.o.ext hb2)
    have HB2:Hid (Below B w w2):=HB1.o.trans (hb2.mono (by have:=HB1.o.size;have:=HB.o;omega))
    clear hb2
    go_wp2_with fail
    go_roundw
    case rel=>exact⟨i+1,own1,f1,xs1,ms1,em1,last1,many1,by omega,by go_num,HW2.o,HB2.o⟩
    case measure=>simp only[intOf];omega
   .by_cases h5:K i=5
    .have HC:Hid (∀(R':EW),(∀own' f' xs' ms' em' last' many' w',WK (i+1) B B own' w' f' xs' ms' em' last' many'->Below B wr w'->R' (.returned (.bool true)) w')->Calls Tryz.prog 13 #[.pointer (some ⟨B,0,none⟩),.pointer none,.agg #[.int .i64 5,.slice (A i) (N i) (C i),.slice (A' i) (N' i) (C' i),.bool (b i)]] wr R'):=by
      intro R' hR'
      obtain ⟨q1,q2,q3,q4,q5,q6⟩:=HNN.o
      exact step_d HW.o (by omega) (by omega) (by omega) HLr.o (HSr.o.bs i hlt).1 (HSr.o.bs i hlt).2.1 (HSr.o.bs i hlt).2.2 (fun own' f' xs' em' w' r1 _ _ _ _ _ r2 _=>hR' own' f' xs' _ em' _ _ w' r1 r2)
     rw[h5] at k0
     go_wp2_with fail
     refine HC.o _ ?_
     intro own1 f1 xs1 ms1 em1 last1 many1 w1 hW1 hb1
     have HW1:=zl hW1
     have HB1:=zl (HBr.o.trans hb1)
     clear hW1 hb1 k0 k1 k2 k3
     go_wp2_with fail
     refine zku HW1.o ?_
     intro w2 hb2
     have HW2:=zl (HW1.o.ext hb2)
     have HB2:Hid (Below B w w2):=HB1.o.trans (hb2.mono (by have:=HB1.o.size;have:=HB.o;omega))
     clear hb2
     go_wp2_with fail
     go_roundw
     case rel=>exact⟨i+1,own1,f1,xs1,ms1,em1,last1,many1,by omega,by go_num,HW2.o,HB2.o⟩
     case measure=>simp only[intOf];omega
    .have e4:(K i==4)=false:=by simp[h4]
     have e5:(K i==5)=false:=by simp[h5]
     clear h4 h5
     go_wp2_with fail
     go_roundw
     case rel=>exact⟨i+1,own,f,xs,ms,em,last,many,by omega,by go_num,HW.o,HBr.o⟩
     case measure=>simp only[intOf];omega
  .have HBr:=zl hb
   have hBz:B<wr.heap.size:=zak hW.wj.blk
   clear hW hb
   obtain ⟨wa,hwa⟩:=xq wr
   subst hwa
   go_wp2_with fail
   obtain ⟨G,hG⟩:=xq wa.heap.size
   obtain ⟨w1,hw1⟩:=xq (wa.alloc (.cells #[.int .i64 8,.int .i64 258,.int .i64 0,.int .i64 0,.int .i64 0,.int .i64 0,.int .i64 0,.int .i64 0,.int .i64 0,.int .i64 3] 42))
   rw[←hw1,←hG]
   have hb1:Below wa.heap.size wa w1:=by rw[hw1];exact br.alloc nr _
   have HB1:Hid (Below B w w1):=HBr.o.trans (hb1.mono (by omega))
   have hev:ze1 w1 (some ⟨G,0,none⟩) 1 ev8:=by
    intro q hq
    obtain rfl:q=0:=by omega
    refine⟨G,0,rfl,fun j hj=>?_⟩
    rw[hw1,hG,cell_of_row _ _ _ _ _ (0,0) (heap_alloc_new wa _)]
    rcases (show j=0\/j=1\/j=2\/j=3\/j=4\/j=5\/j=6\/j=7\/j=8\/j=9 by omega) with rfl|rfl|rfl|rfl|rfl|rfl|rfl|rfl|rfl|rfl<;>rfl
   clear hw1 hb1 hG
   refine Encode_res _ 1 1 ev8 w1 _ (zcq.below HLA.o (B:=B) HB1.o (by rw[HB.o];exact nr)) (by decide) hev ev8_range ?_
   intro L e p v w2 hd hb2 hv2
   obtain ⟨rfl,rfl,rfl⟩:=ev8_res hd
   obtain ⟨av,cv,rfl⟩:=zar hv2
   have HV2:=zl hv2
   have HB2:Hid (Below B w w2):=HB1.o.trans (hb2.mono (by have:=HB1.o.size;have:=HB.o;omega))
   rw[show by8.length=9 from rfl]
   clear hd hb2 hv2 hev
   go_wp2_with fail
   obtain ⟨G2,hG2⟩:=xq w2.heap.size
   obtain ⟨w3,hw3⟩:=xq (w2.alloc (.cells #[.int .u8 8,.int .u8 0,.int .u8 0,.int .u8 1,.int .u8 2,.int .u8 0,.int .u8 0,.int .u8 0,.int .u8 3] 5))
   rw[←hw3,←hG2]
   have hb3:Below w2.heap.size w2 w3:=by rw[hw3];exact br.alloc nr _
   have HB3:Hid (Below B w w3):=HB2.o.trans (hb3.mono (by have:=HB2.o.size;have:=HB.o;omega))
   have HX3:Hid (∀q,q<9-> ∃bq o,av=some ⟨bq,o,none⟩/\w3.cell? ⟨bq,o+q,none⟩=some (.int .u8 (by8.getD q 0))):=by
    intro q hq
    obtain ⟨g',cap',q1,_,hlt',_,hc,_⟩:=zan HV2.o q (bv (by8.getD q 0)) (by rw[List.getD_eq_getElem?_getD,List.getElem?_map,List.getElem?_eq_getElem (show q<by8.length from hq)];rfl)
    simp only[Value.slice.injEq] at q1
    exact⟨g',0,q1.1,by rw[Nat.zero_add];exact(hb3.cell (p:=⟨g',q,none⟩) hlt').trans hc⟩
   have HY3:Hid (∀q,q<9-> ∃bq o,(some ⟨G2,0,none⟩:Option Addr)=some ⟨bq,o,none⟩/\w3.cell? ⟨bq,o+q,none⟩=some (.int .u8 (by8.getD q 0))):=by
    intro q hq
    refine⟨G2,0,rfl,?_⟩
    rw[hw3,hG2,cell_of_row _ _ _ _ _ (0,0) (heap_alloc_new w2 _)]
    rcases (show q=0\/q=1\/q=2\/q=3\/q=4\/q=5\/q=6\/q=7\/q=8 by omega) with rfl|rfl|rfl|rfl|rfl|rfl|rfl|rfl|rfl<;>rfl
   clear hw3 hb3 hG2
   refine zfn _ _ 9 cv 9 9 (fun q=>by8.getD q 0) (fun q=>by8.getD q 0) _ _ (by decide) (by decide) HX3.o HY3.o ?_
   intro w4 hb4
   rw[decide_eq_true (⟨rfl,fun _ _=>rfl⟩:(9:Nat)=9/\ ∀q,q<9->by8.getD q 0=by8.getD q 0)]
   have hfin:Hid (R (.returned (.bool true)) w4):=HR.o w4 (by rw[←HB.o];exact HB3.o.trans (hb4.mono (by have:=HB3.o.size;have:=HB.o;omega)))
   clear hb4
   go_wp2_with fail
   exact hfin.o
