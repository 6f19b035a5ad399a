import Derived.Test.YtmiiejinahnpkaaGreatDoorXCnCp
set_option maxRecDepth 8000
set_option maxHeartbeats 1000000
namespace Go.Proofs.YtmiiejinahnpkaaGreatDoor
open Go.RowKit
section
attribute [local go_sem↓] Go.wp_at_zero Go.wp_at_succ
structure zdt (w:World) (sa:Option Addr) (m:Nat) (K:Nat->Int) (A:Nat->Option Addr) (N C:Nat->Nat) (X:Nat->Nat->Int) (A':Nat->Option Addr) (N' C':Nat->Nat) (E:Nat->Nat->Nat->Int) (b:Nat->Bool):Prop where
 cell: ∀i,i<m-> ∃g o,sa=some ⟨g,o,none⟩/\w.cell? ⟨g,o+i * 4,none⟩=some (.int .i64 (K i))/\w.cell? ⟨g,o+i * 4+1,none⟩=some (.slice (A i) (N i) (C i))/\w.cell? ⟨g,o+i * 4+2,none⟩=some (.slice (A' i) (N' i) (C' i))/\w.cell? ⟨g,o+i * 4+3,none⟩=some (.bool (b i))
 bs: ∀i,i<m->N i<=1048576/\BsAt w (A i) (N i) (X i)/\ ∀q,q<N i->0<=X i q/\X i q<=255
 ev: ∀i,i<m->N' i<=1048576/\ze1 w (A' i) (N' i) (E i)/\ ∀q j,-9223372036854775808<=E i q j/\E i q j<=9223372036854775807
variable {w:World}
theorem zdt.ext {w':World}{sa:Option Addr}{m:Nat}{K:Nat->Int}{A:Nat->Option Addr}{N C:Nat->Nat}{X:Nat->Nat->Int}{A':Nat->Option Addr}{N' C':Nat->Nat}{E:Nat->Nat->Nat->Int}{b:Nat->Bool}
  (h:zdt w sa m K A N C X A' N' C' E b)(hb:Below w.heap.size w w'):zdt w' sa m K A N C X A' N' C' E b:=by
 refine⟨fun i hi=>?_,fun i hi=>⟨(h.bs i hi).1,BsAt.ext (h.bs i hi).2.1 hb,(h.bs i hi).2.2⟩,fun i hi=>⟨(h.ev i hi).1,ze1.ext (h.ev i hi).2.1 hb,(h.ev i hi).2.2⟩⟩
 obtain ⟨g,o,h1,h2,h3,h4,h5⟩:=h.cell i hi
 exact⟨g,o,h1,(hb.cell (zab h2)).trans h2,(hb.cell (zab h3)).trans h3,(hb.cell (zab h4)).trans h4,(hb.cell (zab h5)).trans h5⟩
variable {base:Nat}
theorem WK.mono {Z Z' B:Nat}{own:Nat->Nat×Int}{f:Nat->Value}{xs:Nat->List Value}{ms:List Nat}{em:List Int}{last:Int}{many:Nat}
  (h:WK Z base B own w f xs ms em last many)(hZ:Z<=Z')(hm:Z'<=1048577):WK Z' base B own w f xs ms em last many:=by
 obtain ⟨n1,n2,n3,n4,n5,n6,n7,n8⟩:=h.nn
 exact⟨h.wj,h.x2,h.x6,h.l2,h.l6,h.lb,h.le,h.l4,h.lo,h.li,h.ll,⟨by omega,by omega,by omega,by omega,by omega,by omega,n7,by omega⟩,hm⟩
def xs0:Nat->List Value:=fun i=>if i=0 then [.slice none 0 0] else []
theorem WK.start (hb:w.heap[base]?=some (.cells #[.slice none 0 0,.slice none 0 0,.slice none 0 0,.slice none 0 0,.slice none 0 0,.slice none 0 0,.slice none 0 0,.slice none 0 0,.slice none 0 0,.int .i64 0,.int .i64 0] 30 (0,0))):
  WK 0 base base (fun _=>(0,0)) w (fun _=> .slice none 0 0) xs0 [] [] 0 0:=by
 refine⟨⟨hb,nr,rfl,rfl,fun j hj=>by rw[show xs0 j=[] by unfold xs0;rw[if_neg (by rcases hj with rfl|rfl|rfl|rfl|rfl|rfl|rfl|rfl<;>decide)]];exact World.ownsRow_nil _ _ _ _,fun j _ g hg=>by simp[Value.ownBlock] at hg⟩,rfl,rfl,rfl,rfl,?_,?_,rfl,?_,?_,?_,by simp[xs0],by omega⟩
 .intro i v m q;simp[xs0] at q
 .intro i v m q;simp[xs0] at q
 .intro i v m q;simp[xs0] at q
 .intro i v q;simp[xs0] at q
 .intro i v q;simp[xs0] at q
end
section
theorem Tryz.infoOrders:(Tryz.prog.info? 64).map (fun i=>(i.zero,i.size,i.bytes))=some (some (.slice none 0 0),1,24):=by kernel_rfl
theorem Tryz.infoOrder:(Tryz.prog.info? 89).map (fun i=>(i.zero,i.size,i.bytes))=some (some (.agg #[.int .i64 0,.int .i64 0,.int .i64 0,.int .i64 0,.int .i64 0,.bool false]),6,48):=by kernel_rfl
def zkl (L:Int) (k:Nat):Value:=kod L (k%6)
def set6 (w:World) (g o:Nat) (L:Int):World:=
 (((((w.setCell ⟨g,o,none⟩ (.int .i64 L)).setCell ⟨g,o+1,none⟩ (.int .i64 0)).setCell ⟨g,o+2,none⟩ (.int .i64 0)).setCell ⟨g,o+3,none⟩ (.int .i64 0)).setCell ⟨g,o+4,none⟩ (.int .i64 0)).setCell ⟨g,o+5,none⟩ (.bool false)
variable {base n:Nat} {own:Nat->Nat×Int}
theorem paint6 {D g c i:Nat}{t:Nat×Int}{w1 wr:World}{e:TypeId}{zs:List Value}{L:Int}(ho:wr.ownsRow base e 6 (.slice (some ⟨g,0,none⟩) n c) n zs)(hi:i<n)(hk: ∀k,k<i * 6->zs[k]?=some (zkl L k))
  (hs:zaj base own (fun x=>x≠t) w1 own wr)(hg:own g=t)(hb:Below D w1 wr)(hgb:D<=g):
  ∃zs',(set6 wr g (i * 6) L).ownsRow base e 6 (.slice (some ⟨g,0,none⟩) n c) n zs'/\(∀k,k<(i+1) * 6->zs'[k]?=some (zkl L k))/\zaj base own (fun x=>x≠t) w1 own (set6 wr g (i * 6) L)/\Below D w1 (set6 wr g (i * 6) L)/\ ∀k,(i+1) * 6<=k->zs'[k]?=zs[k]?:=by
 have hyl:zs.length=n * 6:=ho.1
 have hS: ∀(w:World) (k:Nat) (x:Value),zaj base own (fun x=>x≠t) w1 own w->zaj base own (fun x=>x≠t) w1 own (w.setCell ⟨g,k,none⟩ x):=fun w k x h=>h.trans (zaj.set.mono (by intro t ht;rw[hg];exact ht))
 refine⟨_,zcs (zcs (zcs (zcs (zcs (zcs ho g (i * 6) (.int .i64 L) rfl) g (i * 6+1) (.int .i64 0) rfl) g (i * 6+2) (.int .i64 0) rfl) g (i * 6+3) (.int .i64 0) rfl) g (i * 6+4) (.int .i64 0) rfl) g (i * 6+5) (.bool false) rfl,?_,?_,?_,?_⟩
 .intro k hk'
  by_cases hlt:k<i * 6
  .rw[List.getElem?_set_ne (by omega),List.getElem?_set_ne (by omega),List.getElem?_set_ne (by omega),List.getElem?_set_ne (by omega),List.getElem?_set_ne (by omega),List.getElem?_set_ne (by omega)]
   exact hk k hlt
  .obtain ⟨j,rfl⟩: ∃j,k=i * 6+j:=⟨k-i * 6,by omega⟩
   have hj:j<6:=by omega
   have hkc:zkl L (i * 6+j)=kod L j:=by unfold zkl;rw[show (i * 6+j)%6=j by omega]
   rw[hkc]
   rcases (show j=0\/j=1\/j=2\/j=3\/j=4\/j=5 by omega) with rfl|rfl|rfl|rfl|rfl|rfl<;>simp[List.getElem?_set,hyl,kod]<;>omega
 .exact hS _ _ _ (hS _ _ _ (hS _ _ _ (hS _ _ _ (hS _ _ _ (hS _ _ _ hs)))))
 .exact((((((hb.setCell hgb _).setCell hgb _).setCell hgb _).setCell hgb _).setCell hgb _).setCell hgb _)
 .intro k hk'
  rw[List.getElem?_set_ne (by omega),List.getElem?_set_ne (by omega),List.getElem?_set_ne (by omega),List.getElem?_set_ne (by omega),List.getElem?_set_ne (by omega),List.getElem?_set_ne (by omega)]
theorem keepOrders_w {Z B:Nat}{w:World}{f:Nat->Value}{xs:Nat->List Value}{ms:List Nat}{em:List Int}{last:Int}{many:Nat}{R:EW}{v:Value}{ys:List Value}
  (hW:WK Z base B own w f xs ms em last many)(h1:(xs 3).length+4<=4 * Z)(hm: -(Z:Int)<=last-1)(hn:n<=67108860)(hl:w.ownsRow base 89 6 v n ys)(hg: ∀g,v.ownBlock=some g->own g=(8,last-1))
  (hR: ∀own' f' xs' w',WK Z base B own' w' f' xs' ms em (last-1) many->(∀i,i≠3->i≠4->xs' i=xs i)->(xs' 3).length=(xs 3).length+4->Below base w w'->zaj base own MT w own' w'->R (.returned (.tuple #[])) w'):
  Calls Tryz.prog 75 #[.pointer (some ⟨B,0,none⟩),v] w R:=by
 have HR:=zl hR
 have HW:=zl hW
 obtain ⟨a,c,rfl⟩:=zar hl
 have HL:Hid (w.ownsRow base 89 6 (.slice a n c) n ys):=hl
 have HG:Hid (∀g,(Value.slice a n c).ownBlock=some g->own g=(8,last-1)):=hg
 have H1:=zl h1
 have hZ:=hW.hZ
 have c9:w.cell? ⟨B,9,none⟩=some (.int .i64 last):=by rw[cell_of_row w B 9 _ _ (0,0) hW.wj.blk];rfl
 have z9:=hW.wj.free 9
 have hlast:=hW.nn.2.2.2.2.2
 clear hR hW hl hg h1
 go_enter Tryz.func75,Tryz.ntmps75
 go_wp2_with fail
 refine mark_any B last _ _ c9 z9 (by omega) (by omega) ?_
 obtain ⟨L,hL⟩:=xq (last-1)
 obtain ⟨hj1,hs1⟩:=HW.o.wj.setLast (last-1)
 have hbB:base<=B:=HW.o.wj.hB
 have hb1:Below base w (w.setCell ⟨B,9,none⟩ (.int .i64 (last-1))):=(Below.refl base w).setCell hbB _
 rw[←hL] at hj1 hs1 hb1 ⊢
 have HM:=zl hL
 have hTN:TagNew (8,L) last many:=⟨by simp,by simp,by simp,by simp,by simp,by simp,by intro m hm q;simp only[Prod.mk.injEq,true_and] at q;omega⟩
 have HTN:=zl hTN
 have HG':Hid (∀g,(Value.slice a n c).ownBlock=some g->own g=(8,L)):=by rw[hL];exact HG.o
 obtain ⟨w1,hw1⟩:=xq (w.setCell ⟨B,9,none⟩ (.int .i64 L))
 rw[←hw1] at hj1 hs1 hb1 ⊢
 obtain ⟨hl1,ht1⟩:=zaq HL.o HG'.o hs1 (by simp)
 have HJ1:=zl hj1
 have HS1:=zl hs1
 have HB1:=zl hb1
 have HL1:=zl hl1
 have hL1: -1073741824<=L:=by omega
 have hL2:L<=0:=by omega
 clear hl1 ht1 hj1 hs1 hb1 hw1 hL hTN c9 z9
 go_wp2_with fail
 go_loopw [5] (fun t wr=> ∃(i:Nat) (zs:List Value),i<=n/\t= .int .i64 i/\wr.ownsRow base 89 6 (.slice a n c) n zs/\(∀k,k<i * 6->zs[k]?=some (zkl L k))/\zaj base own (fun t=>t≠(8,L)) w1 own wr/\Below base w1 wr) (fun t _=>n-(intOf t).toNat)
 case atStart=>exact⟨0,_,Nat.zero_le _,rfl,HL1.o,fun k hk=>absurd hk (by omega),⟨nr,fun _ _=>rfl,fun _ _ _ _=>rfl⟩,br⟩
 case round=>
  obtain ⟨i,zs,hi,rfl,ho,hk,hs,hb⟩:=hrel
  by_cases hlt:i<n
  .have hyl:zs.length=n * 6:=ho.1
   obtain ⟨g,cap,q1,hgb,_,_,_,_⟩:=zan ho (i * 6) _ (List.getElem?_eq_getElem (by omega))
   simp only[Value.slice.injEq] at q1
   obtain ⟨rfl,_⟩:=q1
   have hc: ∀j,j<6-> ∃u,wr.cell? ⟨g,i * 6+j,none⟩=some u/\wr.frozen? ⟨g,i * 6+j,none⟩=false:=by
    intro j hj
    obtain ⟨g',cap',q1,_,_,_,hc,hf⟩:=zan ho (i * 6+j) _ (List.getElem?_eq_getElem (by omega))
    simp only[Value.slice.injEq,Option.some.injEq,Addr.mk.injEq,and_true] at q1
    obtain ⟨rfl,_⟩:=q1
    exact⟨_,hc,hf⟩
   obtain ⟨u0,d0,e0⟩:=hc 0 (by decide)
   obtain ⟨u1,d1,e1⟩:=hc 1 (by decide)
   obtain ⟨u2,d2,e2⟩:=hc 2 (by decide)
   obtain ⟨u3,d3,e3⟩:=hc 3 (by decide)
   obtain ⟨u4,d4,e4⟩:=hc 4 (by decide)
   obtain ⟨u5,d5,e5⟩:=hc 5 (by decide)
   rw[Nat.add_zero] at d0 e0
   have HO:=zl4 ho hk hs hb
   clear ho hk hs hb hc
   have E:=paint6 HO.o.1 hlt HO.o.2.1 HO.o.2.2.1 (HG'.o g rfl) HO.o.2.2.2 hgb
   have HE:Hid (∃zs',(set6 wr g (i * 6) L).ownsRow base 89 6 (.slice (some ⟨g,0,none⟩) n c) n zs'/\(∀k,k<(i+1) * 6->zs'[k]?=some (zkl L k))/\zaj base own (fun x=>x≠(8,L)) w1 own (set6 wr g (i * 6) L)/\Below base w1 (set6 wr g (i * 6) L)):=by
    obtain ⟨zs',q1,q2,q3,q4,_⟩:=E
    exact⟨zs',q1,q2,q3,q4⟩
   clear E HO
   go_wp2_with fail
   go_roundw
   case rel=>
    obtain ⟨zs',q1,q2,q3,q4⟩:=HE.o
    exact⟨i+1,zs',by omega,by go_num,q1,q2,q3,q4⟩
   case measure=>simp only[intOf];omega
  .have hi':i=n:=by omega
   subst hi'
   have hkb:KB base B (8,L) 89 6 (zkl L) L many last many ms em xs w own own wr f xs i (.slice a i c) []:=by
    have hst:zaj base own (fun t=>t≠(0,0)/\t≠(8,L)) w own wr:=(HS1.o.mono fun _ h=>h.1).trans (hs.mono fun _ h=>h.2)
    refine⟨HJ1.o.stays hs (by simp) (by simp),HW.o.lb.stays hst (by simp),HW.o.le.stays hst (by simp),HW.o.li.stays hst (by simp),HW.o.ll.stays hst (by simp),HW.o.lo.stays hst (fun m hm=>⟨by simp,HTN.o.h8 m hm⟩),?_,HG'.o,by simp,HB1.o.trans hb,hst.mono (by rintro ⟨q1,q2⟩ q;unfold MT at q;simp only[ne_eq,Prod.mk.injEq];omega)⟩
    rw[←zfk ho.1 hk]
    exact ho
   have HKB:=zl hkb
   clear hkb ho hk hs hb
   obtain ⟨wa,hwa⟩:=xq wr
   subst hwa
   go_wp2_with fail
   go_loopw [1,6,7] (fun l t _ wr=> ∃(k:Nat) (own':Nat->Nat×Int) (f':Nat->Value) (xs':Nat->List Value) (ns:List Value),k<=4/\t= .int .i64 k/\KB base B (8,L) 89 6 (zkl L) L many last many ms em xs w own own' wr f' xs' (i+k) l ns/\ns.length=k/\xs' 3=xs 3++ns/\xs' 4=xs 4++List.replicate k (.int .i64 L)/\ ∀q,q≠3->q≠4->xs' q=xs q) (fun _ t _ _=>4-(intOf t).toNat)
   case atStart=>exact⟨0,own,f,xs,[],by decide,rfl,HKB.o,rfl,by simp,by simp,fun _ _ _=>rfl⟩
   case round=>
    obtain ⟨k,own',f',xs',ns,hk,rfl,hK,hn1,hx1,hx2,hxo⟩:=hrel
    have HK:=zl hK
    have HXX:=zl4 hn1 hx1 hx2 hxo
    by_cases hlt:k<4
    .have hroom:=hK.room
     have c1:=hK.wj.cell 3 (by decide)
     have r1:=hK.wj.rows 3 (by simp[zb2])
     have h67:(xs' 3).length+1<=1073741824:=by have:=H1.o;rw[hx1,List.length_append,hn1];omega
     obtain ⟨a1,k1,e1⟩:=zar r1
     have F1:=zl e1
     rw[e1] at c1 r1
     have R1:=zl r1
     obtain ⟨al,cl,rfl⟩:=zar hK.lo
     clear hK hn1 hx1 hx2 hxo r1 e1
     go_wp2_with (at_builtin;go_must (refine za7 base 1 24 (xs' 3).length _ (xs' 3) _ R1.out hroom Tryz.infoOrders rfl (by decide) rfl ?c2 ?c3 (by decide) _ _ 27 Tryz.underlying27 rfl rfl rfl rfl ?_))
     case c2=>simp[Value.oneCell']
     case c3=>exact h67
     intro v1 w2 hG
     obtain ⟨b1,j1,rfl⟩:=zar hG.own
     have HG2:Hid (Grew base (ty 3) 1 wr (f' 3) w2 (.slice b1 ((xs' 3).length+1) j1) ((xs' 3).length+1) (xs' 3++[.slice al (i+k) cl])):=by rw[F1.out];exact hG
     clear hG c1
     obtain ⟨hc,hz,_⟩:=HK.o.wj.grew 3 (by simp[zb2]) HG2.o
     have HK3:=zl ((HK.o.row HTN.o 3 (by simp[zb2]) HG2.o).mem (by omega))
     have c1:w2.cell? ⟨B,3,none⟩=some (f' 3):=(hc 3).trans (HK.o.wj.cell 3 (by decide))
     have z1:=hz 3
     have c6:w2.cell? ⟨B,4,none⟩=some (f' 4):=(hc 4).trans (HK.o.wj.cell 4 (by decide))
     clear hc hz HG2 R1 F1
     obtain ⟨o3,ho3⟩:=xq (za9 own' wr (.slice b1 ((xs' 3).length+1) j1) (1,((3:Nat):Int)))
     obtain ⟨f3,hf3⟩:=xq ((fun q=>if q=3 then .slice b1 ((xs' 3).length+1) j1 else f' q))
     obtain ⟨x3,hx3⟩:=xq ((fun q=>if q=3 then xs' 3++[.slice al (i+k) cl] else xs' q))
     rw[←ho3,←hf3,←hx3] at HK3
     have HX3:Hid (x3 3=xs 3++(ns++[.slice al (i+k) cl])/\x3 4=xs 4++List.replicate k (.int .i64 L)/\ ∀q,q≠3->q≠4->x3 q=xs q):=by
      obtain ⟨q1,q2,q3,q4⟩:=HXX.o
      rw[hx3]
      exact⟨by simp[q2],by simpa using q3,fun q h1 h2=>by simp[h1,q4 q h1 h2]⟩
     have hf6:f' 4=f3 4:=by rw[hf3];rfl
     rw[hf6] at c6
     clear hx3 hf3 ho3 HK hf6
     have hroom3:=HK3.o.room
     have r2:=HK3.o.wj.rows 4 (by simp[zb2])
     have h67':(x3 4).length+1<=1073741824:=by
      have:=H1.o
      have h2:=HW.o.l4
      rw[HX3.o.2.1,List.length_append,List.length_replicate,h2]
      omega
     obtain ⟨a2,k2,e2⟩:=zar r2
     have F2:=zl e2
     rw[e2] at r2 c6
     have R2:=zl r2
     clear e2 r2
     go_wp2_with (at_builtin;go_must (refine push_at _ (zjq w2 _ _) base 1 8 (x3 4).length _ (x3 4) _ R2.out hroom3 Tryz.infoInt rfl (by decide) rfl ?c2 ?c3 (by decide) _ _ 26 Tryz.underlying26 rfl rfl rfl rfl ?_))
     case c2=>simp[Value.oneCell']
     case c3=>exact h67'
     intro v4 w4 hG4
     obtain ⟨w3,hw3⟩:=xq (w2.setCell ⟨B,3,none⟩ (.slice b1 ((xs' 3).length+1) j1))
     rw[←hw3] at hG4 HK3
     obtain ⟨b2,j2,rfl⟩:=zar hG4.own
     have HG4:Hid (Grew base (ty 4) 1 w3 (f3 4) w4 (.slice b2 ((x3 4).length+1) j2) ((x3 4).length+1) (x3 4++[.int .i64 L])):=by rw[F2.out];exact hG4
     obtain ⟨hc,hz,_⟩:=HK3.o.wj.grew 4 (by simp[zb2]) HG4.o
     have c4:w4.cell? ⟨B,4,none⟩=some (f3 4):=(hc 4).trans (HK3.o.wj.cell 4 (by decide))
     have z4:=hz 4
     have HK5:=HK3.o.row HTN.o 4 (by simp[zb2]) HG4.o
     clear hc hz hG4 HG4 c1 z1 c6 hroom3 h67' R2 F2 HK3 h67 hroom hw3
     obtain ⟨o5,ho5⟩:=xq (za9 o3 w3 (.slice b2 ((x3 4).length+1) j2) (1,((4:Nat):Int)))
     obtain ⟨f5,hf5⟩:=xq ((fun q=>if q=4 then .slice b2 ((x3 4).length+1) j2 else f3 q))
     obtain ⟨x5,hx5⟩:=xq ((fun q=>if q=4 then x3 4++[.int .i64 L] else x3 q))
     rw[←ho5,←hf5,←hx5] at HK5
     have HX5:Hid (x5 3=xs 3++(ns++[.slice al (i+k) cl])/\x5 4=xs 4++List.replicate (k+1) (.int .i64 L)/\ ∀q,q≠3->q≠4->x5 q=xs q):=by
      obtain ⟨q1,q2,q3⟩:=HX3.o
      rw[hx5]
      exact⟨by simpa using q1,by simp[q2,List.replicate_succ'],fun q h1 h2=>by simp[h2,q3 q h1 h2]⟩
     have HKK5:=zl HK5
     clear hx5 hf5 ho5 HX3
     have hroom5:=HK5.room
     have HL5:=zl (HK5.lo)
     clear HK5
     go_wp2_with (at_builtin;go_must (refine zi3 _ (zjq w4 _ _) base 6 48 (i+k) _ _ _ HL5.o hroom5 Tryz.infoOrder rfl (by decide) rfl ?c2 ?c3 (by decide) _ _ 64 Tryz.underlying64 rfl rfl rfl rfl ?_))
     case c2=>simp[Value.oneCell']
     case c3=>omega
     intro v6 w6 hG6 hA6
     have HK6:Hid (KB base B (8,L) 89 6 (zkl L) L many last many ms em xs w own (za9 o5 (w4.setCell ⟨B,4,none⟩ (.slice b2 ((x3 4).length+1) j2)) v6 (8,L)) w6 f5 x5 (i+k+1) v6 (ns++[.slice al (i+k) cl])):=by
      refine HKK5.o.grow HTN.o (by simp[MT]) (hG6.cast rfl ?_) hA6
      refine zfk (by simp[za4];omega) fun q hq=>?_
      by_cases hlt':q<(i+k) * 6
      .rw[List.getElem?_append_left (by rw[za4];exact hlt'),zdb _ _ _ hlt']
      .rw[List.getElem?_append_right (by rw[za4];omega),za4]
       obtain ⟨j,rfl⟩: ∃j,q=(i+k) * 6+j:=⟨q-(i+k) * 6,by omega⟩
       have hj:j<6:=by omega
       have hkc:zkl L ((i+k) * 6+j)=kod L j:=by unfold zkl;rw[show ((i+k) * 6+j)%6=j by omega]
       rw[hkc,Nat.add_sub_cancel_left]
       rcases (show j=0\/j=1\/j=2\/j=3\/j=4\/j=5 by omega) with rfl|rfl|rfl|rfl|rfl|rfl<;>rfl
     clear hG6 hA6 HKK5 HL5 c4 z4
     go_wp2_with fail
     go_roundw
     case rel=>exact⟨k+1,_,f5,x5,_,by omega,by go_num,HK6.o,by simp[HXX.o.1],HX5.o⟩
     case measure=>simp only[intOf];omega
    .have hk':k=4:=by omega
     subst hk'
     have hfin:Hid (R (.returned (.tuple #[])) wr):=by
      refine HR.o own' f' xs' wr (KB.orders HW.o H1.o (by have:=HM.o;omega) (by rw[←HM.o];exact hK) hxo hx1 (by rw[←HM.o];exact hx2) hn1) hxo ?_ hK.hb hK.st
      rw[hx1,List.length_append,hn1]
     clear hK hn1 hx1 hx2 hxo HK HXX
     go_wp2_with fail
     go_end0
     exact hfin.o
end
