import Derived.Test.YtmiiejinahnpkaaGreatDoorXLcLe
set_option maxRecDepth 8000
set_option maxHeartbeats 2000000
namespace Go.Proofs.YtmiiejinahnpkaaGreatDoor
open Go.RowKit
section
def OT (s:Nat):Nat×Int->Prop:=fun t=>MT t/\t≠(6,(s:Int))/\t≠(7,(s:Int))
section
variable {Z base B:Nat} {own:Nat->Nat×Int} {w:World} {f:Nat->Value} {xs:Nat->List Value} {ms:List Nat} {em:List Int} {last:Int} {many:Nat} {R:EW} {N c:Nat} {a:Option Addr} {Y:Nat->Nat} {al:Option Addr} {nl cl:Nat} {bb:Bool}
  {S s P D:Nat} {b:Bk} {k:Cf} {m:Mk} {vA vO:Value} {wl:World}
theorem step_s (hW:WK Z base B own w f xs ms em last many)(hD:Sd base own w S s P D b k m vA vO)(h7:(xs 7).length+1<=Z)(h1:(xs 1).length+4<=4 * Z)(hm:many+1<=Z)(hL:zcq wl)(hbl:Below wl.heap.size wl w)(hwl:wl.heap.size<=base)(hN:N<=1048576)(hx:BsAt w a N (fun i=>(Y i:Int)))(hY: ∀i,Y i<=255)(ha:0<N-> ∀g o,a=some ⟨g,o,none⟩->g<base)(hl:m.all.length<=1048575)
  (hR: ∀own' f' xs' ms' w' b' vA' vO',WK Z base B own' w' f' xs' ms' em last (many+1)->Sd base own' w' S s P D b' k (zaz k m Y N) vA' vO'->Below base w w'->zaj base own (OT s) w own' w'->xs' 0=xs 0->R (.returned (.bool true)) w'):
  Calls Tryz.prog 13 #[.pointer (some ⟨B,0,none⟩),.pointer (some ⟨S,0,none⟩),opv 1 a N c al nl cl bb] w R:=by
 have hbase:base<=w.heap.size:=by have:=zak hW.wj.blk;have:=hW.wj.hB;omega
 have HC:Hid (∀(R':EW) w0,Below w.heap.size w w0->(∀w',R (.returned (.bool true)) w'->R' (.returned (.bool true)) w')->Calls Tryz.prog 35 #[.pointer (some ⟨B,0,none⟩),.pointer (some ⟨S,0,none⟩),.agg #[.int .i64 1,.slice a N c,.slice al nl cl,.bool bb]] w0 R'):=by
  intro R' w0 hb hR'
  refine sends_w (hW.ext hb) (hD.ext hb) h7 h1 hm hL (hbl.trans (hb.mono hbl.size)) hwl hN (BsAt.ext hx hb) hY ha hl ?_
  intro own' f' xs' ms' w' b' vA' vO' q1 q2 q3 q4 q5
  exact hR' w' (hR own' f' xs' ms' w' b' vA' vO' q1 q2 ((hb.mono hbase).trans q3) (((zaj.of_below hb).mono fun _ _=>trivial).trans q4) q5)
 clear hW hD h7 h1 hm hL hbl hwl hx hY ha hl hR hbase
 unfold opv
 go_enter Tryz.func13,Tryz.ntmps13
 go_wp2_with fail
 refine HC.o _ _ (br.alloc nr _) ?_
 intro w' hR
 have hfin:Hid (R (.returned (.bool true)) w'):=hR
 clear hR HC
 go_wp2_with fail
 exact hfin.o
theorem step_o (hW:WK Z base B own w f xs ms em last many)(hD:Sd base own w S s P D b k m vA vO)(h3:(xs 3).length+4<=4 * Z)(hm: -(Z:Int)<=last-1)
  (hR: ∀own' f' xs' w',WK Z base B own' w' f' xs' ms em (last-1) many->Sd base own' w' S s P D b k m vA vO->Below base w w'->zaj base own MT w own' w'->xs' 0=xs 0->R (.returned (.bool true)) w'):
  Calls Tryz.prog 13 #[.pointer (some ⟨B,0,none⟩),.pointer (some ⟨S,0,none⟩),opv 2 a N c al nl cl bb] w R:=by
 have hbase:base<=w.heap.size:=by have:=zak hW.wj.blk;have:=hW.wj.hB;omega
 have HC:Hid (∀(R':EW) w0,Below w.heap.size w w0->(∀w',R (.returned (.bool true)) w'->R' (.returned (.bool true)) w')->Calls Tryz.prog 36 #[.pointer (some ⟨B,0,none⟩),.pointer (some ⟨S,0,none⟩)] w0 R'):=by
  intro R' w0 hb hR'
  refine looks_w (hW.ext hb) (hD.ext hb) h3 hm ?_
  intro own' f' xs' w' q1 q2 q3 q4 q5
  exact hR' w' (hR own' f' xs' w' q1 q2 ((hb.mono hbase).trans q3) (((zaj.of_below hb).mono fun _ _=>trivial).trans q4) q5)
 clear hW hD h3 hm hR hbase
 unfold opv
 go_enter Tryz.func13,Tryz.ntmps13
 go_wp2_with fail
 refine HC.o _ _ (br.alloc nr _) ?_
 intro w' hR
 have hfin:Hid (R (.returned (.bool true)) w'):=hR
 clear hR HC
 go_wp2_with fail
 exact hfin.o
theorem step_k (hD:Sd base own w S s P D b k m vA vO)(hR: ∀w',Below w.heap.size w w'->R (.returned (.bool true)) w'):
  Calls Tryz.prog 13 #[.pointer (some ⟨B,0,none⟩),.pointer (some ⟨S,0,none⟩),opv 3 a N c al nl cl bb] w R:=by
 have HR:=zl hR
 have HD:=zl hD
 have p1:w.cell? ⟨S,0,none⟩=some (.pointer (some ⟨P,0,none⟩)):=by rw[cell_of_row w S 0 _ _ (0,0) hD.blk];rfl
 have hlS:=zak hD.blk
 clear hR hD
 unfold opv
 go_enter Tryz.func13,Tryz.ntmps13
 go_wp2_with fail
 have hb0:Below w.heap.size w (w.alloc (.cells #[.int .i64 3,.slice a N c,.slice al nl cl,.bool bb] 34)):=br.alloc nr _
 generalize w.alloc (.cells #[.int .i64 3,.slice a N c,.slice al nl cl,.bool bb] 34)=w0 at *
 have hpm:PM w0 P b k m m.phase:=HD.o.ps.pm.ext hb0
 refine pLook_any P b k m m.phase w0 _ hpm ?_
 intro w1 hb1
 have hb2:Below w.heap.size w w1:=hb0.trans (hb1.mono hb0.size)
 have HB2:=zl hb2
 have p2:w1.cell? ⟨S,1,none⟩=some (.pointer (some ⟨D,0,none⟩)):=by rw[cell_of_row w1 S 1 _ _ (0,0) (HD.o.ext hb2).blk];rfl
 have hlS1:=zab p2
 unfold lookv
 clear hpm hb0 hb1 p1 hb2
 go_wp2_with fail
 have hb3:Below w1.heap.size w1 (w1.alloc (.cells #[.int .i64 (m.phase:Nat),.int .i64 (m.time:Nat),.int .i64 (m.ref:Nat),.int .i64 (m.seq:Nat)] 67)):=br.alloc nr _
 obtain ⟨u0,u1,u2,u3,_⟩:=zjc (World.alloc_heap_new w1 (.cells #[.int .i64 (m.phase:Nat),.int .i64 (m.time:Nat),.int .i64 (m.ref:Nat),.int .i64 (m.seq:Nat)] 67))
 generalize w1.alloc (.cells #[.int .i64 (m.phase:Nat),.int .i64 (m.time:Nat),.int .i64 (m.ref:Nat),.int .i64 (m.seq:Nat)] 67)=w2 at *
 obtain ⟨G,hG⟩:=xq w1.heap.size
 rw[←hG] at u0 u1 u2 u3 ⊢
 have hb4:Below w.heap.size w w2:=HB2.o.trans (hb3.mono HB2.o.size)
 refine rLook_any D k m vA vO w2 _ (HD.o.ext hb4).rm ?_
 intro w3 hb5
 have HB5:Hid (Below w.heap.size w w3):=hb4.trans (hb5.mono hb4.size)
 have t0:=(hb5.cell (zab u0)).trans u0
 have t1:=(hb5.cell (zab u1)).trans u1
 have t2:=(hb5.cell (zab u2)).trans u2
 have t3:=(hb5.cell (zab u3)).trans u3
 have hGl:=zab t0
 clear hb3 hb4 hb5 u0 u1 u2 u3 p2 hG hlS hlS1
 generalize ((m.phase:Nat):Int)=y0 at *
 generalize ((m.time:Nat):Int)=y1 at *
 generalize ((m.ref:Nat):Int)=y2 at *
 generalize ((m.seq:Nat):Int)=y3 at *
 have n0:(y0==y0)=true:=by simp
 have n1:(y1==y1)=true:=by simp
 have n2:(y2==y2)=true:=by simp
 have n3:(y3==y3)=true:=by simp
 have hfin:Hid (R (.returned (.bool true)) (w3.alloc (.cells #[.int .i64 y0,.int .i64 y1,.int .i64 y2,.int .i64 y3] 67))):=HR.o _ (HB5.o.alloc HB5.o.size _)
 go_wp2_with fail
 exact hfin.o
variable {K:Int}
theorem step_n (h1:K≠1)(h2:K≠2)(h3:K≠3)(h4:K≠4)(h5:K≠5)(hR: ∀w',Below w.heap.size w w'->R (.returned (.bool true)) w'):
  Calls Tryz.prog 13 #[.pointer (some ⟨B,0,none⟩),.pointer (some ⟨S,0,none⟩),opv K a N c al nl cl bb] w R:=by
 have HR:=zl hR
 have e1:(K==1)=false:=by simp[h1]
 have e2:(K==2)=false:=by simp[h2]
 have e3:(K==3)=false:=by simp[h3]
 have e4:(K==4)=false:=by simp[h4]
 have e5:(K==5)=false:=by simp[h5]
 clear hR h1 h2 h3 h4 h5
 unfold opv
 go_enter Tryz.func13,Tryz.ntmps13
 go_wp2_with fail
 exact HR.o _ (br.alloc nr _)
theorem step_any {X:Nat->Int}{es:Nat->Nat->Int}(hW:WK Z base B own w f xs ms em last many)(hZ:Z+1<=1048577)(hD:Sd base own w S s P D b k m vA vO)(hL:zcq wl)(hbl:Below wl.heap.size wl w)(hwl:wl.heap.size<=base)
  (hN:N<=1048576)(hx:BsAt w a N X)(hxb: ∀q,q<N->0<=X q/\X q<=255)(ha:0<N-> ∀g o,a=some ⟨g,o,none⟩->g<base)(hn:nl<=1048576)(hes:ze1 w al nl es)(hesb: ∀q j,-9223372036854775808<=es q j/\es q j<=9223372036854775807)(hl:m.all.length<=1048575)
  (hR: ∀own' f' xs' ms' em' last' many' w' b' m' vA' vO',WK (Z+1) base B own' w' f' xs' ms' em' last' many'->Sd base own' w' S s P D b' k m' vA' vO'->m'.all.length<=m.all.length+1->Below base w w'->zaj base own (OT s) w own' w'->xs' 0=xs 0->R (.returned (.bool true)) w'):
  Calls Tryz.prog 13 #[.pointer (some ⟨B,0,none⟩),.pointer (some ⟨S,0,none⟩),opv K a N c al nl cl bb] w R:=by
 obtain ⟨n1,n2,n3,n4,n5,n6,n7,n8⟩:=hW.nn
 have hW':WK (Z+1) base B own w f xs ms em last many:=hW.mono (by omega) hZ
 have hbase:base<=w.heap.size:=by have:=zak hW.wj.blk;have:=hW.wj.hB;omega
 have hLw:zcq w:=zcq.below hL hbl nr
 have hO: ∀t,OT s t->MT t:=fun t h=>h.1
 by_cases h1:K=1
 .subst h1
  refine step_s (Y:=fun q=>if q<N then (X q).toNat else 0) hW' hD (by omega) (by omega) (by omega) hL hbl hwl hN ?_ ?_ ha hl ?_
  .intro i hi
   obtain ⟨g,o,q1,q2⟩:=hx i hi
   refine⟨g,o,q1,?_⟩
   rw[q2]
   simp only[if_pos hi]
   rw[Int.toNat_of_nonneg (hxb i hi).1]
  .intro i
   by_cases hi:i<N
   .simp only[if_pos hi]
    have:=hxb i hi
    omega
   .simp only[if_neg hi]
    omega
  .intro own' f' xs' ms' w' b' vA' vO' q1 q2 q3 q4 q5
   have hlf:=(zfm k m (fun q=>if q<N then (X q).toNat else 0) N hD.ps.pv.gd hD.ps.ph hl hD.ct hD.lv).1
   exact hR own' f' xs' ms' em last _ w' b' _ vA' vO' q1 q2 hlf.len q3 q4 q5
 by_cases h2:K=2
 .subst h2
  exact step_o hW' hD (by omega) (by omega) fun own' f' xs' w' q1 q2 q3 q4 q5=>hR own' f' xs' ms em _ many w' b m vA vO q1 q2 (by omega) q3 (q4.mono hO) q5
 by_cases h3:K=3
 .subst h3
  exact step_k hD fun w' hb=>hR own f xs ms em last many w' b m vA vO (hW'.ext hb) (hD.ext hb) (by omega) (hb.mono hbase) ((zaj.of_below hb).mono fun _ _=>trivial) rfl
 by_cases h4:K=4
 .subst h4
  exact step_e hW' (by omega) (by omega) (by omega) hLw hn hes hesb fun own' f' xs' ms' w' q1 _ _ _ _ q5 q6 q7=>hR own' f' xs' ms' em last _ w' b m vA vO q1 (hD.all q7) (by omega) q6 (q7.mono hO) q5
 by_cases h5:K=5
 .subst h5
  exact step_d hW' (by omega) (by omega) (by omega) hLw hN hx hxb fun own' f' xs' em' w' q1 _ _ _ _ q5 q6 q7=>hR own' f' xs' ms em' _ many w' b m vA vO q1 (hD.all q7) (by omega) q6 (q7.mono hO) q5
 .exact step_n h1 h2 h3 h4 h5 fun w' hb=>hR own f xs ms em last many w' b m vA vO (hW'.ext hb) (hD.ext hb) (by omega) (hb.mono hbase) ((zaj.of_below hb).mono fun _ _=>trivial) rfl
end
end
section
structure SL (base:Nat) (own:Nat->Nat×Int) (w:World) (f0:Value) (n:Nat) (S:Nat->Nat) (L:Nat):Prop where
 row:w.ownsRow base 80 1 f0 n ((List.range n).map fun j=> .pointer (some ⟨S j,0,none⟩))
 tag: ∀g,f0.ownBlock=some g->own g=(6,-2)
 sd: ∀j,j<n-> ∃P D b k m vA vO,Sd base own w (S j) j P D b k m vA vO/\m.all.length<=L
section
variable {base:Nat} {own own':Nat->Nat×Int} {w w':World} {f0:Value} {n:Nat} {S:Nat->Nat} {L:Nat}
theorem SL.stays {T:Nat×Int->Prop}(h:SL base own w f0 n S L)(hs:zaj base own T w own' w')(hT: ∀t,MT t->T t):SL base own' w' f0 n S L:=by
 obtain ⟨q1,q2⟩:=zaq h.row h.tag hs (hT _ (.inl rfl))
 refine⟨q1,q2,fun j hj=>?_⟩
 obtain ⟨P,D,b,k,m,vA,vO,h1,h2⟩:=h.sd j hj
 exact⟨P,D,b,k,m,vA,vO,h1.stays hs (hT _ (.inl rfl)) (hT _ (.inl rfl)) (hT _ (.inr rfl)),h2⟩
theorem SL.ext (h:SL base own w f0 n S L)(hb:Below w.heap.size w w'):SL base own w' f0 n S L:=h.stays (zaj.of_below hb) fun _ _=>trivial
theorem SL.turn {s P D:Nat}{b:Bk}{k:Cf}{m:Mk}{vA vO:Value}{L':Nat}(h:SL base own w f0 n S L)(hs:zaj base own (OT s) w own' w')(hd:Sd base own' w' (S s) s P D b k m vA vO)(hm:m.all.length<=L')(hL:L<=L'):SL base own' w' f0 n S L':=by
 have h2:OT s (6,-2):=⟨.inl rfl,by simp only[ne_eq,Prod.mk.injEq,true_and];omega,by simp⟩
 have h1:OT s (6,-1):=⟨.inl rfl,by simp only[ne_eq,Prod.mk.injEq,true_and];omega,by simp⟩
 obtain ⟨q1,q2⟩:=zaq h.row h.tag hs h2
 refine⟨q1,q2,fun j hj=>?_⟩
 by_cases hjs:j=s
 .subst hjs
  exact⟨P,D,b,k,m,vA,vO,hd,hm⟩
 .obtain ⟨P',D',b',k',m',vA',vO',h3,h4⟩:=h.sd j hj
  have hne: ¬(j:Int)=(s:Int):=by omega
  exact⟨P',D',b',k',m',vA',vO',h3.stays hs h1 ⟨.inl rfl,by simp[hne],by simp⟩ ⟨.inr rfl,by simp,by simp[hne]⟩,llt h4 hL⟩
theorem SL.cell (h:SL base own w f0 n S L)(j:Nat)(hj:j<n): ∃g cap,f0= .slice (some ⟨g,0,none⟩) n cap/\w.cell? ⟨g,j,none⟩=some (.pointer (some ⟨S j,0,none⟩))/\g<w.heap.size:=by
 obtain ⟨g,cap,q1,_,hl,_,hc,_⟩:=zan h.row j (.pointer (some ⟨S j,0,none⟩)) (by simp[hj])
 exact⟨g,cap,q1,hc,hl⟩
theorem Sd.fresh {s P D:Nat}{b:Bk}{c:Cf}{w1 w2:World}(hbase:base<=w.heap.size)(hb1:Below w.heap.size w w1)(ho: ∀g,Own P b g->w.heap.size<=g)(hp:PS w1 P b c (newM c) 0)(hb2:Below w1.heap.size w1 w2)(hD:w1.heap.size<=D)(hr:RM w2 D c (newM c) (.slice none 0 0) (.slice none 0 0))
  (hct:c.total<=1000000000)(hco:c.orders<=24):
  ∃own',Sd base own' (w2.alloc (.cells #[.pointer (some ⟨P,0,none⟩),.pointer (some ⟨D,0,none⟩)] 84)) w2.heap.size s P D b c (newM c) (.slice none 0 0) (.slice none 0 0)/\zaj base own (fun _=>True) w own' (w2.alloc (.cells #[.pointer (some ⟨P,0,none⟩),.pointer (some ⟨D,0,none⟩)] 84)):=by
 have hb3:Below w2.heap.size w2 (w2.alloc (.cells #[.pointer (some ⟨P,0,none⟩),.pointer (some ⟨D,0,none⟩)] 84)):=br.alloc nr _
 have z1:=hb1.size
 have z2:=hb2.size
 have hDl:=zak hr.blk
 refine⟨fun g=>if w2.heap.size<=g then (6,-1) else if w1.heap.size<=g then (7,(s:Int)) else if w.heap.size<=g then (6,(s:Int)) else own g,⟨heap_alloc_new w2 _,by omega,by simp,(hp.ext hb2).ext hb3,hr.ext hb3,?_,?_,hct,hco,Nat.zero_le _⟩,?_⟩
 .intro g hg
  have h1:=ho g hg
  have h2:=hp.lt hg
  refine⟨by omega,?_⟩
  rw[if_neg (by omega),if_neg (by omega),if_pos h1]
 .intro g hg
  rcases hg with rfl|hg|hg
  .refine⟨by omega,?_⟩
   rw[if_neg (by omega),if_pos hD]
  .simp[Value.ownBlock] at hg
  .simp[Value.ownBlock] at hg
 .have hb:=(hb1.trans (hb2.mono z1)).trans (hb3.mono (by omega))
  refine⟨hb.size,fun g hg=>?_,fun g hg _ _=>hb.block g hg⟩
  rw[if_neg (by omega),if_neg (by omega),if_neg (by omega)]
end
theorem WJ.push0 {base B:Nat}{own:Nat->Nat×Int}{w w1:World}{f:Nat->Value}{xs:Nat->List Value}{last:Int}{many n:Nat}{v':Value}{ys:List Value}{e:TypeId}
  (h:WJ base B own w f xs last many)(ht: ∀g,(f 0).ownBlock=some g->own g=(6,-2))(hlo: ∀g,(f 0).ownBlock=some g->base<=g)(hG:Grew base e 1 w (f 0) w1 v' n ys):
  WJ base B (za9 own w v' (6,-2)) (w1.setCell ⟨B,0,none⟩ v') (fun i=>if i=0 then v' else f i) (fun i=>if i=0 then [v'] else xs i) last many/\
  zaj base own (fun t=>t≠(6,-2)/\t≠(0,0)) w (za9 own w v' (6,-2)) (w1.setCell ⟨B,0,none⟩ v')/\(w1.setCell ⟨B,0,none⟩ v').ownsRow base e 1 v' n ys/\(∀g,v'.ownBlock=some g->za9 own w v' (6,-2) g=(6,-2))/\
  Below base w (w1.setCell ⟨B,0,none⟩ v')/\w1.cell? ⟨B,0,none⟩=some (f 0)/\w1.frozen? ⟨B,0,none⟩=false:=by
 obtain ⟨hs,htv⟩:=hG.stays ht
 have hlt:=zak h.blk
 have hB1:w1.heap[B]?=w.heap[B]?:=hs.blk B hlt h.hB (by rw[h.oB];simp)
 have hset: ∀g:Nat,g≠B->(w1.setCell ⟨B,0,none⟩ v').heap[g]?=w1.heap[g]?:=fun g hg=>bhs w1 ⟨B,0,none⟩ v' g hg
 have hst:zaj base own (fun t=>t≠(6,-2)/\t≠(0,0)) w (za9 own w v' (6,-2)) (w1.setCell ⟨B,0,none⟩ v'):=by
  refine⟨llt hs.size (by simp[World.setCell]),hs.tag,fun g hg hb hT=>?_⟩
  rw[hset g (fun e=>hT.2 (by rw[e];exact h.oB)),hs.blk g hg hb hT.1]
 refine⟨⟨?_,h.hB,?_,rfl,?_,?_⟩,hst,?_,htv,?_,?_,?_⟩
 .rw[zkc (hB1.trans h.blk)]
  rfl
 .rw[zb0 hlt];exact h.oB
 .intro i hi
  have: ¬i=0:=by rcases hi with rfl|rfl|rfl|rfl|rfl|rfl|rfl|rfl<;>decide
  simp only[if_neg this]
  exact(zd4 (h.rows i hi) (h.tags i hi) hst ⟨by simp,by simp⟩).1
 .intro i hi g hg
  have: ¬i=0:=by rcases hi with rfl|rfl|rfl|rfl|rfl|rfl|rfl|rfl<;>decide
  simp only[if_neg this] at hg
  exact(zd4 (h.rows i hi) (h.tags i hi) hst ⟨by simp,by simp⟩).2 g hg
 .refine zb6 hG.own fun g hg=>hset g fun e=>?_
  have:=htv g hg
  rw[e,zb0 hlt,h.oB] at this
  simp at this
 .exact Below.setCell (hG.below (by have:=h.hB;omega) hlo) h.hB _
 .exact(World.cell?_of_block (w:=w) (w':=w1) (a:=⟨B,0,none⟩) hB1).trans (h.cell 0 (by decide))
 .exact(World.frozen?_of_block (w:=w) (w':=w1) (a:=⟨B,0,none⟩) hB1).trans (h.free 0)
theorem WK.push0 {Z base B:Nat}{own:Nat->Nat×Int}{w w1:World}{f:Nat->Value}{xs:Nat->List Value}{ms:List Nat}{em:List Int}{last:Int}{many n:Nat}{v':Value}{ys:List Value}{e:TypeId}
  (h:WK Z base B own w f xs ms em last many)(ht: ∀g,(f 0).ownBlock=some g->own g=(6,-2))(hlo: ∀g,(f 0).ownBlock=some g->base<=g)(hG:Grew base e 1 w (f 0) w1 v' n ys):
  WK Z base B (za9 own w v' (6,-2)) (w1.setCell ⟨B,0,none⟩ v') (fun i=>if i=0 then v' else f i) (fun i=>if i=0 then [v'] else xs i) ms em last many:=by
 obtain ⟨hj,hs,_⟩:=h.wj.push0 ht hlo hG
 refine⟨hj,by simpa using h.x2,by simpa using h.x6,by simpa using h.l2,by simpa using h.l6,?_,?_,by simpa using h.l4,?_,?_,?_,?_,h.hZ⟩
 .simpa using h.lb.stays hs (by simp)
 .simpa using h.le.stays hs (by simp)
 .simpa using h.lo.stays hs (by simp)
 .simpa using h.li.stays hs (by simp)
 .simpa using h.ll.stays hs (by simp)
 .simpa using h.nn
theorem SL.snoc {base:Nat}{own own':Nat->Nat×Int}{w w':World}{f0 v':Value}{n:Nat}{S:Nat->Nat}{L Sn P D:Nat}{b:Bk}{k:Cf}{m:Mk}{vA vO:Value}(h:SL base own w f0 n S L)(hs:zaj base own (fun t=>t≠(6,-2)/\t≠(0,0)) w own' w')
  (hr:w'.ownsRow base 80 1 v' (n+1) (((List.range n).map fun j=> .pointer (some ⟨S j,0,none⟩))++[.pointer (some ⟨Sn,0,none⟩)]))(ht: ∀g,v'.ownBlock=some g->own' g=(6,-2))(hd:Sd base own' w' Sn n P D b k m vA vO)(hm:m.all.length<=L):
  SL base own' w' v' (n+1) (fun j=>if j=n then Sn else S j) L:=by
 refine⟨?_,ht,fun j hj=>?_⟩
 .have:(List.range (n+1)).map (fun j=>(.pointer (some ⟨if j=n then Sn else S j,0,none⟩):Value))=((List.range n).map fun j=> .pointer (some ⟨S j,0,none⟩))++[.pointer (some ⟨Sn,0,none⟩)]:=by
   rw[List.range_succ,List.map_append]
   congr 1
   .apply List.map_congr_left
    intro j hj
    rw[List.mem_range] at hj
    rw[if_neg (by omega)]
   .simp
  rw[this]
  exact hr
 .by_cases hjn:j=n
  .subst hjn
   simp only[if_true]
   exact⟨P,D,b,k,m,vA,vO,hd,hm⟩
  .simp only[if_neg hjn]
   obtain ⟨P',D',b',k',m',vA',vO',h3,h4⟩:=h.sd j (by omega)
   exact⟨P',D',b',k',m',vA',vO',h3.stays hs (by simp) ⟨by simp only[ne_eq,Prod.mk.injEq,true_and];omega,by simp⟩ (by simp),h4⟩
end
section
attribute [local go_sem↓] Go.wp_at_zero Go.wp_at_succ
theorem Tryz.infoPside:(Tryz.prog.info? 80).map (fun i=>(i.zero,i.size,i.bytes))=some (some (.pointer none),1,8):=by kernel_rfl
theorem SL.more {base:Nat} {own:Nat->Nat×Int} {w:World} {f0:Value} {n:Nat} {S:Nat->Nat} {L L':Nat} (h:SL base own w f0 n S L) (hL:L<=L'):SL base own w f0 n S L':=
 ⟨h.row,h.tag,fun j hj=>by
  obtain ⟨P,D,b,k,m,vA,vO,h1,h2⟩:=h.sd j hj
  exact⟨P,D,b,k,m,vA,vO,h1,llt h2 hL⟩⟩
def CfsAt (w:World) (a:Option Addr) (n:Nat) (x:Nat->Nat->Int):Prop:= ∀i,i<n-> ∃g o,a=some ⟨g,o,none⟩/\ ∀j,j<6->w.cell? ⟨g,o+i * 6+j,none⟩=some (.int .i64 (x i j))
theorem play_any (ca sa:Option Addr)(n cc mm cs:Nat)(x:Nat->Nat->Int)(most:Int){K:Nat->Int}{A:Nat->Option Addr}{N C:Nat->Nat}{X:Nat->Nat->Int}{A':Nat->Option Addr}{N' C':Nat->Nat}{E:Nat->Nat->Nat->Int}{b:Nat->Bool}(w:World)(R:EW)
  (hn1:1<=n)(hn:n<=2)(hm:mm<=1048575)(hL:zcq w)(hC:CfsAt w ca n x)(hS:zdt w sa mm K A N C X A' N' C' E b)(hR: ∀w',Below w.heap.size w w'->R (.returned (.bool true)) w'):
  Calls Tryz.prog 17 #[.slice ca n cc,.slice sa mm cs,.int .i64 most] w R:=by
 have HR:=zl hR
 have HLA:=zl hL
 have HC:=zl hC
 have HS:=zl hS
 clear hR hL hC hS
 go_enter Tryz.func17,Tryz.ntmps17
 go_wp2_with fail
 obtain ⟨B,hB⟩:=xq w.heap.size
 obtain ⟨w0,hw0⟩:=xq (w.alloc (.cells #[.slice none 0 0,.slice none 0 0,.slice none 0 0,.slice none 0 0,.slice none 0 0,.slice none 0 0,.slice none 0 0,.slice none 0 0,.slice none 0 0,.int .i64 0,.int .i64 0] 30))
 rw[←hw0,←hB]
 have HB:=zl hB
 have HB0:Hid (Below B w w0):=by rw[hw0,hB];exact br.alloc nr _
 have HW0:Hid (WK 0 B B (fun _=>(0,0)) w0 (fun _=> .slice none 0 0) xs0 [] [] 0 0):=WK.start (by rw[hw0,hB];exact heap_alloc_new w _)
 have HS0:Hid (SL B (fun _=>(0,0)) w0 (.slice none 0 0) 0 (fun _=>0) 0):=⟨World.ownsRow_nil _ _ _ _,fun g hg=>by simp[Value.ownBlock] at hg,fun j hj=>absurd hj (by omega)⟩
 clear hB hw0
 go_loopw [9,10,11,12,13] (fun t _ _ _ _ wr=> ∃(i:Nat) (own:Nat->Nat×Int) (f:Nat->Value) (xs:Nat->List Value) (S:Nat->Nat),i<=n/\t= .int .i64 i/\WK 0 B B own wr f xs [] [] 0 0/\SL B own wr (f 0) i S 0/\Below B w wr) (fun t _ _ _ _ _=>n-(intOf t).toNat)
 case atStart=>exact⟨0,_,_,_,_,Nat.zero_le _,rfl,HW0.o,HS0.o,HB0.o⟩
 case round=>
  obtain ⟨i,own,f,xs,S,hi,rfl,hW,hSL,hb⟩:=hrel
  have HW:=zl hW
  have HSL:=zl hSL
  have HBr:=zl hb
  have hBl:B<wr.heap.size:=zak hW.wj.blk
  clear hW hSL hb
  by_cases hlt:i<n
  .obtain ⟨g,o,rfl,hc⟩:=HC.o i hlt
   have hcc: ∀{w':World},Below B w w'-> ∀j,j<6->w'.cell? ⟨g,o+i * 6+j,none⟩=some (.int .i64 (x i j)):=fun {w'} hb j hj=>(hb.cell (p:=⟨g,o+i * 6+j,none⟩) (by rw[HB.o];exact zab (hc j hj))).trans (hc j hj)
   have HCC:Hid (∀{w':World},Below B w w'-> ∀j,j<6->w'.cell? ⟨g,o+i * 6+j,none⟩=some (.int .i64 (x i j))):=hcc
   have c0:=hcc HBr.o 0 (by decide)
   have c1:=hcc HBr.o 1 (by decide)
   have c2:=hcc HBr.o 2 (by decide)
   have c3:=hcc HBr.o 3 (by decide)
   have c4:=hcc HBr.o 4 (by decide)
   have c5:=hcc HBr.o 5 (by decide)
   rw[Nat.add_zero] at c0
   have hi0:(0:Int)<=(i:Int):=by omega
   have hi1:(i:Int)<(n:Int):=by omega
   clear hc hcc
   go_wp2_with fail
   clear c0 c1 c2 c3 c4 c5
   refine pNew_any (x i) wr _ ?_ ?_
   .intro hno w1 hb1
    have HB1:Hid (Below B w w1):=HBr.o.trans (hb1.mono (by omega))
    have hBl1:B<w1.heap.size:=lll hBl hb1.size
    have c0:=HCC.o HB1.o 0 (by decide)
    have c1:=HCC.o HB1.o 1 (by decide)
    have c2:=HCC.o HB1.o 2 (by decide)
    have c3:=HCC.o HB1.o 3 (by decide)
    have c4:=HCC.o HB1.o 4 (by decide)
    have c5:=HCC.o HB1.o 5 (by decide)
    rw[Nat.add_zero] at c0
    clear hb1
    go_wp2_with fail
    refine rNew_any (x i) w1 _ ?_ (fun h=>absurd h hno)
    intro _ w2 hb2
    have hfin:Hid (R (.returned (.bool true)) w2):=HR.o w2 (by rw[←HB.o];exact HB1.o.trans (hb2.mono (by omega)))
    clear hb2
    go_wp2_with fail
    exact hfin.o
   .intro hok P bk w1 hb1 ho1 hp1
    have HB1:Hid (Below B w w1):=HBr.o.trans (hb1.mono (by omega))
    have Hb1:=zl hb1
    have HP1:=zl2 ho1 hp1
    have hBl1:B<w1.heap.size:=lll hBl hb1.size
    have c0:=HCC.o HB1.o 0 (by decide)
    have c1:=HCC.o HB1.o 1 (by decide)
    have c2:=HCC.o HB1.o 2 (by decide)
    have c3:=HCC.o HB1.o 3 (by decide)
    have c4:=HCC.o HB1.o 4 (by decide)
    have c5:=HCC.o HB1.o 5 (by decide)
    rw[Nat.add_zero] at c0
    clear hb1 ho1 hp1
    go_wp2_with fail
    refine rNew_any (x i) w1 _ (fun h=>absurd hok h) ?_
    intro _ D w2 hb2 hD hr2
    have hct:(cfOf (x i)).total<=1000000000:=by have:=hok.2.2.2.2.2.1;show (x i 5).toNat<=_;omega
    have hco:(cfOf (x i)).orders<=24:=by have:=hok.2.2.2.1;show (x i 4).toNat<=_;omega
    obtain ⟨own2,hd2,hs2⟩:=Sd.fresh (s:=i) (own:=own) (Nat.le_of_lt hBl) Hb1.o HP1.o.1 HP1.o.2 hb2 hD hr2 hct hco
    have HD2:=zl hd2
    have HW2:Hid (WK 0 B B own2 (w2.alloc (.cells #[.pointer (some ⟨P,0,none⟩),.pointer (some ⟨D,0,none⟩)] 84)) f xs [] [] 0 0):=HW.o.all hs2
    have HSL2:Hid (SL B own2 (w2.alloc (.cells #[.pointer (some ⟨P,0,none⟩),.pointer (some ⟨D,0,none⟩)] 84)) (f 0) i S 0):=HSL.o.stays hs2 fun _ _=>trivial
    have HB2:Hid (Below B w w2):=HB1.o.trans (hb2.mono (by omega))
    have cB:w2.cell? ⟨B,0,none⟩=some (f 0):=(hb2.cell (p:=⟨B,0,none⟩) (by show B<_;omega)).trans ((Hb1.o.cell (p:=⟨B,0,none⟩) (by show B<_;omega)).trans (HW.o.wj.cell 0 (by decide)))
    obtain ⟨a0,k0,e0⟩:=zar HSL2.o.row
    rw[e0] at cB
    have F0:=zl e0
    have hBl2:B<w2.heap.size:=lll hBl1 hb2.size
    clear hb2 hD hr2 hd2 hs2 hct hco c0 c1 c2 c3 c4 c5 e0
    have hroom:B<=(w2.alloc (.cells #[.pointer (some ⟨P,0,none⟩),.pointer (some ⟨D,0,none⟩)] 84)).heap.size:=by simp;omega
    have R0:Hid ((w2.alloc (.cells #[.pointer (some ⟨P,0,none⟩),.pointer (some ⟨D,0,none⟩)] 84)).ownsRow B 80 1 (.slice a0 i k0) i ((List.range i).map fun j=> .pointer (some ⟨S j,0,none⟩))):=by
     rw[←F0.out]
     exact HSL2.o.row
    have hsz:(w2.alloc (.cells #[.pointer (some ⟨P,0,none⟩),.pointer (some ⟨D,0,none⟩)] 84)).heap.size=w2.heap.size+1:=by simp
    go_wp2_with (at_builtin;go_must (refine push_at _ hsz B 1 8 i _ _ _ R0.out hroom Tryz.infoPside rfl (by decide) rfl ?c2 ?c3 (by decide) _ _ 24 Tryz.underlying24 rfl rfl rfl rfl ?_))
    case c2=>simp[Value.oneCell']
    case c3=>omega
    intro v3 w3 hG
    obtain ⟨b3,j3,rfl⟩:=zar hG.own
    have hG2:Grew B 80 1 (w2.alloc (.cells #[.pointer (some ⟨P,0,none⟩),.pointer (some ⟨D,0,none⟩)] 84)) (f 0) w3 (.slice b3 (i+1) j3) (i+1) (((List.range i).map fun j=> .pointer (some ⟨S j,0,none⟩))++[.pointer (some ⟨w2.heap.size,0,none⟩)]):=by rw[F0.out];exact hG
    obtain ⟨_,s4,r4,t4,u4,cB3,zB3⟩:=HW2.o.wj.push0 HSL2.o.tag (fun g hg=>(HSL2.o.row.lt g hg).1) hG2
    have HW4:Hid (WK 0 B B (za9 own2 (w2.alloc (.cells #[.pointer (some ⟨P,0,none⟩),.pointer (some ⟨D,0,none⟩)] 84)) (.slice b3 (i+1) j3) (6,-2)) (w3.setCell ⟨B,0,none⟩ (.slice b3 (i+1) j3)) (fun q=>if q=0 then .slice b3 (i+1) j3 else f q) (fun q=>if q=0 then [.slice b3 (i+1) j3] else xs q) [] [] 0 0):=HW2.o.push0 HSL2.o.tag (fun g hg=>(HSL2.o.row.lt g hg).1) hG2
    have HSL4:Hid (SL B (za9 own2 (w2.alloc (.cells #[.pointer (some ⟨P,0,none⟩),.pointer (some ⟨D,0,none⟩)] 84)) (.slice b3 (i+1) j3) (6,-2)) (w3.setCell ⟨B,0,none⟩ (.slice b3 (i+1) j3)) (.slice b3 (i+1) j3) (i+1) (fun j=>if j=i then w2.heap.size else S j) 0):=
     HSL2.o.snoc s4 r4 t4 (HD2.o.stays s4 (by simp) ⟨by simp only[ne_eq,Prod.mk.injEq,true_and];omega,by simp⟩ (by simp)) (Nat.zero_le _)
    have HB4:Hid (Below B w (w3.setCell ⟨B,0,none⟩ (.slice b3 (i+1) j3))):=(HB2.o.alloc (Nat.le_of_lt hBl2) _).trans u4
    rw[F0.out] at cB3
    clear hG hG2 s4 r4 t4 u4 HW2 HSL2 HD2 HB2 R0 hroom cB
    go_wp2_with fail
    go_roundw
    case rel=>exact⟨i+1,_,_,_,_,by omega,by go_num,HW4.o,HSL4.o,HB4.o⟩
    case measure=>simp only[intOf];omega
  .have hi':i=n:=by omega
   subst hi'
   have HW1:Hid (WK 0 B B own wr f xs [] [] 0 0):=HW.o
   obtain ⟨wa,hwa⟩:=xq wr
   subst hwa
   go_wp2_with fail
   go_loopw [14,15,16,17,18] (fun t _ _ _ _ wr=> ∃(q:Nat) (own:Nat->Nat×Int) (f:Nat->Value) (xs:Nat->List Value) (ms:List Nat) (em:List Int) (last:Int) (many:Nat),q<=mm/\t= .int .i64 q/\WK q B B own wr f xs ms em last many/\SL B own wr (f 0) i S q/\Below B w wr) (fun t _ _ _ _ _=>mm-(intOf t).toNat)
   case atStart=>exact⟨0,_,_,_,_,_,_,_,Nat.zero_le _,rfl,HW.o,HSL.o,HBr.o⟩
   case round=>
    clear HW HSL HBr HW1 hBl
    obtain ⟨q,own,f,xs,ms,em,last,many,hq,rfl,hW,hSL,hb⟩:=hrel
    have HW:=zl hW
    have HSL:=zl hSL
    have HBr:=zl hb
    have hBl:B<wr.heap.size:=zak hW.wj.blk
    clear hW hSL hb
    by_cases hlt2:q<mm
    .have HST:Hid (∀(R':EW) (j:Nat) (w':World),j<i->Below wr.heap.size wr w'->(∀own' f' xs' ms' em' last' many' w'',WK (q+1) B B own' w'' f' xs' ms' em' last' many'->SL B own' w'' (f' 0) i S (q+1)->Below B wr w''->R' (.returned (.bool true)) w'')->
       Calls Tryz.prog 13 #[.pointer (some ⟨B,0,none⟩),.pointer (some ⟨S j,0,none⟩),.agg #[.int .i64 (K q),.slice (A q) (N q) (C q),.slice (A' q) (N' q) (C' q),.bool (b q)]] w' R'):=by
      intro R' j w' hj hb' hR'
      obtain ⟨P,D,bk,k,m,vA,vO,hd,hml⟩:=HSL.o.sd j hj
      have hbw:Below w.heap.size w w':=by rw[←HB.o];exact HBr.o.trans (hb'.mono (Nat.le_of_lt hBl))
      have hsc:=HS.o.ext hbw
      refine step_any (HW.o.ext hb') (by omega) (hd.ext hb') HLA.o hbw (by rw[HB.o];exact nr) (hsc.bs q hlt2).1 (hsc.bs q hlt2).2.1 (hsc.bs q hlt2).2.2 ?_ (hsc.ev q hlt2).1 (hsc.ev q hlt2).2.1 (hsc.ev q hlt2).2.2 (by omega) ?_
      .intro h0 g o hg
       obtain ⟨g',o',h1,h2⟩:=(HS.o.bs q hlt2).2.1 0 h0
       rw[h1] at hg
       simp only[Option.some.injEq,Addr.mk.injEq,and_true] at hg
       have:=zab h2
       rw[HB.o]
       omega
      .intro own' f' xs' ms' em' last' many' w'' b' m' vA' vO' q1 q2 q3 q4 q5 q6
       have hf:f' 0=f 0:=by
        have h1:=q1.wj.z0
        rw[q6,HW.o.wj.z0] at h1
        simp only[List.cons.injEq,and_true] at h1
        exact h1.symm
       refine hR' own' f' xs' ms' em' last' many' w'' q1 ?_ ((hb'.mono (Nat.le_of_lt hBl)).trans q4)
       rw[hf]
       exact(HSL.o.ext hb').turn q5 q2 (by omega) (by omega)
     obtain ⟨sg,so,rfl,k0,k1,k2,k3⟩:=(HS.o.ext (show Below w.heap.size w wr by rw[←HB.o];exact HBr.o)).cell q hlt2
     have hsl:=zab k0
     have hq0:(0:Int)<=(q:Int):=by omega
     have hq1:(q:Int)<(mm:Int):=by omega
     obtain ⟨rg,rc,ef,r0,hrl⟩:=HSL.o.cell 0 (by omega)
     obtain ⟨rg',rc',ef',r1,_⟩:=HSL.o.cell (i-1) (by omega)
     rw[ef] at ef'
     simp only[Value.slice.injEq,Option.some.injEq,Addr.mk.injEq,and_true,true_and] at ef'
     obtain ⟨rfl,rfl⟩:=ef'
     have cB:=HW.o.wj.cell 0 (by decide)
     rw[ef] at cB
     by_cases hk:most<K q
     .have hb1:Below wr.heap.size wr (wr.alloc (.cells #[.int .i64 (K q),.slice (A q) (N q) (C q),.slice (A' q) (N' q) (C' q),.bool (b q)] 34)):=br.alloc nr _
      have HW2:Hid (WK (q+1) B B own (wr.alloc (.cells #[.int .i64 (K q),.slice (A q) (N q) (C q),.slice (A' q) (N' q) (C' q),.bool (b q)] 34)) f xs ms em last many):=(HW.o.mono (by omega) (by omega)).ext hb1
      have HSL2:Hid (SL B own (wr.alloc (.cells #[.int .i64 (K q),.slice (A q) (N q) (C q),.slice (A' q) (N' q) (C' q),.bool (b q)] 34)) (f 0) i S (q+1)):=(HSL.o.ext hb1).more (by omega)
      have HB2:Hid (Below B w (wr.alloc (.cells #[.int .i64 (K q),.slice (A q) (N q) (C q),.slice (A' q) (N' q) (C' q),.bool (b q)] 34))):=HBr.o.trans (hb1.mono (Nat.le_of_lt hBl))
      clear hb1 HST
      go_wp2_with fail
      go_roundw
      case rel=>exact⟨q+1,own,f,xs,ms,em,last,many,by omega,by go_num,HW2.o,HSL2.o,HB2.o⟩
      case measure=>simp only[intOf];omega
     .cases hbq:b q with
      |false=>
       rw[hbq] at k3
       have hb1:Below wr.heap.size wr (wr.alloc (.cells #[.int .i64 (K q),.slice (A q) (N q) (C q),.slice (A' q) (N' q) (C' q),.bool (b q)] 34)):=br.alloc nr _
       rw[hbq] at hb1
       go_wp2_with fail
       have HCL:=HST.o
       rw[hbq] at HCL
       refine HCL _ 0 _ (by omega) hb1 ?_
       intro own1 f1 xs1 ms1 em1 last1 many1 w1 hW1 hSL1 hbb1
       have HW1:=zl hW1
       have HSL1:=zl hSL1
       have HB1:=zl (HBr.o.trans hbb1)
       clear hW1 hSL1 hbb1 hb1 HCL HST k0 k1 k2 k3 r0 r1 cB
       go_wp2_with fail
       refine zku HW1.o ?_
       intro w2 hb2
       have HW2:Hid (WK (q+1) B B own1 w2 f1 xs1 ms1 em1 last1 many1):=HW1.o.ext hb2
       have HSL2:Hid (SL B own1 w2 (f1 0) i S (q+1)):=HSL1.o.ext hb2
       have HB2:Hid (Below B w w2):=HB1.o.trans (hb2.mono (by have:=zak HW1.o.wj.blk;omega))
       clear hb2
       go_wp2_with fail
       go_roundw
       case rel=>exact⟨q+1,own1,f1,xs1,ms1,em1,last1,many1,by omega,by go_num,HW2.o,HSL2.o,HB2.o⟩
       case measure=>simp only[intOf];omega
      |true=>
       rw[hbq] at k3
       have hb1:Below wr.heap.size wr (wr.alloc (.cells #[.int .i64 (K q),.slice (A q) (N q) (C q),.slice (A' q) (N' q) (C' q),.bool (b q)] 34)):=br.alloc nr _
       rw[hbq] at hb1
       go_wp2_with fail
       have HCL:=HST.o
       rw[hbq] at HCL
       refine HCL _ (i-1) _ (by omega) hb1 ?_
       intro own1 f1 xs1 ms1 em1 last1 many1 w1 hW1 hSL1 hbb1
       have HW1:=zl hW1
       have HSL1:=zl hSL1
       have HB1:=zl (HBr.o.trans hbb1)
       clear hW1 hSL1 hbb1 hb1 HCL HST k0 k1 k2 k3 r0 r1 cB
       go_wp2_with fail
       refine zku HW1.o ?_
       intro w2 hb2
       have HW2:Hid (WK (q+1) B B own1 w2 f1 xs1 ms1 em1 last1 many1):=HW1.o.ext hb2
       have HSL2:Hid (SL B own1 w2 (f1 0) i S (q+1)):=HSL1.o.ext hb2
       have HB2:Hid (Below B w w2):=HB1.o.trans (hb2.mono (by have:=zak HW1.o.wj.blk;omega))
       clear hb2
       go_wp2_with fail
       go_roundw
       case rel=>exact⟨q+1,own1,f1,xs1,ms1,em1,last1,many1,by omega,by go_num,HW2.o,HSL2.o,HB2.o⟩
       case measure=>simp only[intOf];omega
    .obtain ⟨wa2,hwa2⟩:=xq wr
     subst hwa2
     have hq':q=mm:=by omega
     subst hq'
     go_wp2_with fail
     go_loopw [19,20,21] (fun t _ _ wr=> ∃(p:Nat) (own:Nat->Nat×Int) (f:Nat->Value) (xs:Nat->List Value) (ms:List Nat) (em:List Int) (last:Int) (many:Nat),p<=i/\t= .int .i64 p/\WK (q+p) B B own wr f xs ms em last many/\SL B own wr (f 0) i S q/\Below B w wr) (fun t _ _ _=>i-(intOf t).toNat)
     case atStart=>exact⟨0,own,f,xs,ms,em,last,many,Nat.zero_le _,rfl,HW.o,HSL.o,HBr.o⟩
     case round=>
      clear HW HSL HBr hBl
      clear own f xs ms em last many
      obtain ⟨p,own,f,xs,ms,em,last,many,hp,rfl,hW,hSL,hb⟩:=hrel
      have HW:=zl hW
      have HSL:=zl hSL
      have HBr:=zl hb
      have hBl:B<wr.heap.size:=zak hW.wj.blk
      have hnn:=hW.nn
      clear hW hSL hb
      by_cases hlt3:p<i
      .obtain ⟨rg,rc,ef,r0,hrl⟩:=HSL.o.cell p hlt3
       have cB:=HW.o.wj.cell 0 (by decide)
       rw[ef] at cB
       obtain ⟨P,D,bk,k,m,vA,vO,hd,hml⟩:=HSL.o.sd p hlt3
       have HD:=zl hd
       have hp0:(0:Int)<=(p:Int):=by omega
       have hp1:(p:Int)<(i:Int):=by omega
       clear hd
       go_wp2_with fail
       refine looks_w (HW.o.mono (show q+p<=q+(p+1) by omega) (by omega)) HD.o (by omega) (by omega) ?_
       intro own1 f1 xs1 w1 hW1 hD1 hb1 hs1 hx1
       have hf:f1 0=f 0:=by
        have h1:=hW1.wj.z0
        rw[hx1,HW.o.wj.z0] at h1
        simp only[List.cons.injEq,and_true] at h1
        exact h1.symm
       have HW1:=zl hW1
       have HSL1:Hid (SL B own1 w1 (f1 0) i S q):=by rw[hf];exact HSL.o.stays hs1 fun _ h=>h
       have HD1:=zl hD1
       have HB1:=zl (HBr.o.trans hb1)
       have cB1:=hW1.wj.cell 0 (by decide)
       rw[hf,ef] at cB1
       have hBl1:B<w1.heap.size:=zak hW1.wj.blk
       obtain ⟨rg',rc',ef',r1,hrl1⟩:=HSL1.o.cell p hlt3
       rw[hf,ef] at ef'
       simp only[Value.slice.injEq,Option.some.injEq,Addr.mk.injEq,and_true,true_and] at ef'
       obtain ⟨rfl,rfl⟩:=ef'
       clear hW1 hD1 hb1 hs1 hx1 hf cB r0 hrl HD HSL HBr HW ef hBl hnn
       go_wp2_with fail
       refine step_k HD1.o ?_
       intro w2 hb2
       have HW2:Hid (WK (q+(p+1)) B B own1 w2 f1 xs1 ms em (last-1) many):=HW1.o.ext hb2
       have HSL2:Hid (SL B own1 w2 (f1 0) i S q):=HSL1.o.ext hb2
       have HB2:Hid (Below B w w2):=HB1.o.trans (hb2.mono (Nat.le_of_lt hBl1))
       clear hb2 cB1 r1 hrl1
       go_wp2_with fail
       go_roundw
       case rel=>exact⟨p+1,own1,f1,xs1,ms,em,last-1,many,by omega,by go_num,HW2.o,HSL2.o,HB2.o⟩
       case measure=>simp only[intOf];omega
      .obtain ⟨wa3,hwa3⟩:=xq wr
       subst hwa3
       go_wp2_with fail
       refine zku HW.o ?_
       intro w2 hb2
       have hfin:Hid (R (.returned (.bool true)) w2):=HR.o w2 (by rw[←HB.o];exact HBr.o.trans (hb2.mono (Nat.le_of_lt hBl)))
       clear hb2
       go_wp2_with fail
       exact hfin.o
end
