import Derived.Test.YtmiiejinahnpkaaGreatDoorXBkBl
import Derived.Recover
import Derived.Defers
import Derived.Deep.RegionLaw
set_option maxRecDepth 8000
set_option maxHeartbeats 4000000
namespace Go.Proofs.YtmiiejinahnpkaaGreatDoor
open Go.RowKit
section
attribute [local go_sem↓] Go.wp_at_zero Go.wp_at_succ
theorem catch_idle (p0 p1 p2:Value)(w:World):
  CallsD Tryz.prog 47 #[p0,p1,p2] .returning w fun e u' w'=>e= .returned (.tuple #[])/\u'= .returning/\w'=w:=by
 refine callsD_of_wpS Tryz.func47 rfl fun c₀ cs hu=>?_
 apply wpS_seq
 apply wpS_region
 simp[wpOpsS,go_sem,recoverD,hu,Tryz.ntmps47,Exit.thenS]
 apply wpS_seq
 apply wpS_region
 simp[wpOpsS,go_sem,Exit.thenS]
 refine wpS_cond (t:=false) (by simp[Act.eval,Array.replicate]) ?_
 simp only[Bool.false_eq_true,if_false]
 refine wpS_of_wp (wp_skip ?_)
 cases c₀
 simp_all[bodyPostS,results,Tryz.results47]
theorem zjd (e s:Int)(w:World):(Instr.typeAssert (.iface 95 (.agg #[.int .i64 e,.int .i64 s])) 20 95 false).run Tryz.prog w= .ok (.agg #[.int .i64 e,.int .i64 s]) w:=by kernel_rfl
theorem zk9 (H E0 E1 E2:Nat)(e s:Int)(x0 x1 x2:Value)(w:World)(h0:H<=E0)(h1:H<=E1)(h2:H<=E2)(h01:E0≠E1)(h02:E0≠E2)(h12:E1≠E2)
  (c0:w.cell? ⟨E0,0,none⟩=some x0)(c1:w.cell? ⟨E1,0,none⟩=some x1)(c2:w.cell? ⟨E2,0,none⟩=some x2)
  (f0:w.frozen? ⟨E0,0,none⟩=false)(f1:w.frozen? ⟨E1,0,none⟩=false)(f2:w.frozen? ⟨E2,0,none⟩=false):
  CallsD Tryz.prog 47 #[.pointer (some ⟨E0,0,none⟩),.pointer (some ⟨E1,0,none⟩),.pointer (some ⟨E2,0,none⟩)] (.panicking [{v:= .iface 95 (.agg #[.int .i64 e,.int .i64 s]),recovered:=false}]) w fun en u' w'=>
   en= .returned (.tuple #[])/\u'= .panicking [{v:= .iface 95 (.agg #[.int .i64 e,.int .i64 s]),recovered:=true}]/\
   (w'.cell? ⟨E0,0,none⟩=some (.slice none 0 0)/\w'.cell? ⟨E1,0,none⟩=some (.int .i64 e)/\w'.cell? ⟨E2,0,none⟩=some (.int .i64 s)/\Below H w w'):=by
 refine callsD_of_wpS Tryz.func47 rfl fun c₀ cs hu=>?_
 apply wpS_seq
 apply wpS_region
 simp[wpOpsS,go_sem,recoverD,hu,Tryz.ntmps47,Exit.thenS]
 refine wpS_of_wp ?_
 simp only[Array.replicate]
 refine wp_mono (Q:=fun ex a' w'=>ex= .normal/\a'.defers=[]/\(w'.cell? ⟨E0,0,none⟩=some (.slice none 0 0)/\w'.cell? ⟨E1,0,none⟩=some (.int .i64 e)/\w'.cell? ⟨E2,0,none⟩=some (.int .i64 s)/\Below H w w')) ?_ ?_
 .clear hu
  simp
  have hta:=zjd e s
  have l0:=zab c0
  have l1:=zab c1
  have l2:=zab c2
  have hh:H<=w.heap.size:=by omega
  set_option maxRecDepth 4000 in
  go_wp2_with fail
  go_region
  obtain ⟨Y,hY⟩:=xq (((w.setCell ⟨E0,0,none⟩ (.slice none 0 0)).setCell ⟨E1,0,none⟩ (.int .i64 e)).setCell ⟨E2,0,none⟩ (.int .i64 s))
  have hsz:Y.heap.size=w.heap.size:=by rw[hY];simp[World.setCell]
  have hb:Below Y.heap.size Y ((Y.alloc (.cells #[.int .i64 e,.int .i64 s] 95)).drew):=(br.alloc nr _).drew
  have y0:Y.cell? ⟨E0,0,none⟩=some (.slice none 0 0):=by
   rw[hY,World.cell?_setCell_other _ _ _ _ (by simp<;>omega),World.cell?_setCell_other _ _ _ _ (by simp<;>omega)]
   exact World.cell?_setCell_same _ _ _ c0
  have y1:Y.cell? ⟨E1,0,none⟩=some (.int .i64 e):=by
   rw[hY,World.cell?_setCell_other _ _ _ _ (by simp<;>omega)]
   exact World.cell?_setCell_same _ _ _ (by rw[World.cell?_setCell_other _ _ _ _ (by simp<;>omega)];exact c1)
  have y2:Y.cell? ⟨E2,0,none⟩=some (.int .i64 s):=by
   rw[hY]
   exact World.cell?_setCell_same _ _ _ (by rw[World.cell?_setCell_other _ _ _ _ (by simp<;>omega),World.cell?_setCell_other _ _ _ _ (by simp<;>omega)];exact c2)
  have hBY:Below H w Y:=by
   rw[hY]
   exact(((Below.refl H w).setCell (p:=⟨E0,0,none⟩) h0 _).setCell (p:=⟨E1,0,none⟩) h1 _).setCell (p:=⟨E2,0,none⟩) h2 _
  rw[←hY]
  exact⟨rfl,rfl,(hb.cell (by show E0<Y.heap.size;omega)).trans y0,(hb.cell (by show E1<Y.heap.size;omega)).trans y1,(hb.cell (by show E2<Y.heap.size;omega)).trans y2,hBY.trans (hb.mono (by omega))⟩
 .intro ex a' w' hh
  obtain ⟨rfl,hd,hp⟩:=hh
  cases c₀
  simp_all[bodyPostS,results,Tryz.results47]
structure Var (W:World) (E:Nat) (v:Value):Prop where
 cell:W.cell? ⟨E,0,none⟩=some v
 free:W.frozen? ⟨E,0,none⟩=false
 lt:E<W.heap.size
variable {B E n size:Nat} {v:Value} {W w w1:World}
theorem Var.ext (h:Var W E v)(hb:Below W.heap.size W w1):Var w1 E v:=
 ⟨(hb.cell h.lt).trans h.cell,(hb.frozen h.lt).trans h.free,lll h.lt hb.size⟩
theorem Var.grown {r:Option Nat}(h:Var W E v)(hg:W.grownBy w1 r)(hr:r≠some E):Var w1 E v:=
 ⟨(hg.cell_far _ h.lt (Ne.symm hr)).trans h.cell,(hg.frozen_far _ h.lt (Ne.symm hr)).trans h.free,lll h.lt hg.size⟩
theorem Var.set (h:Var W E v)(x:Value):Var (W.setCell ⟨E,0,none⟩ x) E x:=
 ⟨World.cell?_setCell_same _ _ _ h.cell,by rw[World.frozen?_setCell];exact h.free,by simpa using h.lt⟩
theorem Var.new (w:World)(v:Value)(t:TypeId):Var (w.alloc (.cells #[v] t)) w.heap.size v:=by
 have hb:=heap_alloc_new w (.cells #[v] t)
 refine⟨by rw[cell_of_row _ _ 0 _ _ (0,0) hb];rfl,?_,by simp⟩
 simp only[World.frozen?,hb]
 simp
theorem Var.alloc (h:Var W E v)(o:Obj):Var (W.alloc o) E v:=h.ext (br.alloc nr _)
variable {xs:List Value} {e:TypeId}
theorem zar (h:w.ownsRow B e size v n xs): ∃ao cap,v= .slice ao n cap:=by
 rcases h.2 with ⟨h1,h2⟩|⟨g,cap,_,h1,_⟩
 .exact⟨none,0,by rw[h1,h2]⟩
 .exact⟨_,cap,h1⟩
theorem own_base {B':Nat}(h:w.ownsRow B e size v n xs)(hB:B'<=B):w.ownsRow B' e size v n xs:=by
 refine⟨h.1,?_⟩
 rcases h.2 with h2|⟨g,cap,cur,h1,h2,h3⟩
 .exact .inl h2
 .exact .inr ⟨g,cap,cur,h1,llt hB h2,h3⟩
theorem Var.set_other {D:Nat}{x:Value}(h:Var W E v)(hD:D≠E):Var (W.setCell ⟨D,0,none⟩ x) E v:=
 h.grown (zca W D 0 x) (by simpa using hD)
def atOf (W:World) (B:Nat):Nat:=match W.cell? ⟨B,1,none⟩ with|some (.int _ n)=>n.toNat|_=>0
theorem Rdr.atOf_eq {p s:Nat}(h:Rdr W B v p s):atOf W B=p:=by
 unfold atOf
 rw[h.at_]
 simp
variable {a:Act} {Q:Exit->Act->World->Prop} {P:Program}
theorem wp_normal {c:Code}(h:c.wp P (Exit.then (Q .normal) fun _ _ _=>False) a w):c.wp P Q a w:=
 wp_mono h (by intro e a w h;cases e<;>first|exact h|exact h.elim)
theorem zf7 {ops:Array Oper}{o:Oper}{K:Act->World->Prop}{E:Prop}{arr:Array Value}
  (B size bytes n:Nat)(v:Value)(xs:List Value)(z:Value)(hown:W.ownsRow B e size v n xs)(hB:B<=W.heap.size)
  (hinfo:(P.info? e).map (fun i=>(i.zero,i.size,i.bytes))=some (some z,size,bytes))(hzs:z.cells.size=size)(hsz:0<size)(harr:arr.size=size)
  (h1: ∀u∈arr.toList,u.oneCell'=true)(hn:n+1<=1073741824)(hby:bytes<=256)
  (s y:Operand)(t:TypeId)(ht:P.underlying t=some (.slice e))(hgd:o.guard=none)(ho:o.op= .call {callee:= .builtin .append,args:= #[s,y],argTypes:= #[t,t]})
  (hs:a.eval s=v)(hy:a.eval y= .slice (some ⟨W.heap.size,0,none⟩) 1 1)
  (h: ∀v' w',Grew B e size W v w' v' (n+1) (xs++arr.toList)->K (a.put o.dst v') w'):
  if Region.wanted o (yielded ops a.tmps)=true then Oper.wp P o a (W.alloc (.cells arr e)) K Q else E:=by
 obtain ⟨i0,hi,hz0,hz1,hz2⟩:=info_parts hinfo
 refine step_append_lies _ hgd s y t ho B e i0 z size bytes ht hi hz0 hz1 hz2 hzs hsz v n xs hs (hown.alloc _) ⟨W.heap.size,0,none⟩ 1 1 arr.toList hy (by simp[harr])
  (World.news_of_block (heap_alloc_new W _)) h1 (by decide) (by unfold maxLen;omega) ?_ (by simp;omega) (W.heap.size+1) (by simp) ?_
 .exact llt (Nat.mul_le_mul hn hby) (by decide)
 .intro g cap w1 hown1 hgrow hat _
  exact h _ _ (Grew.of_lies _ hown1 hgrow hat)
theorem Decode_any (a:Option Addr)(N c:Nat)(X:Nat->Int)(w:World)(R:EW)(hL:zcq w)(hN:N<=4194304)(hcap:N<=c)(hx:BsAt w a N X)(hb: ∀i,i<N->0<=X i/\X i<=255)
  (hR1: ∀i w',(∀q,q<i->good X N q)->pos X i<N->isK (X (pos X i))=false->Below w.heap.size w w'->R (.returned (.tuple #[.slice none 0 0,.int .i64 3,.int .i64 (pos X i)])) w')
  (hR2: ∀i w',(∀q,q<i->good X N q)->pos X i<N->isK (X (pos X i))=true->N<pos X i+elen (X (pos X i))->Below w.heap.size w w'->R (.returned (.tuple #[.slice none 0 0,.int .i64 2,.int .i64 (pos X i)])) w')
  (hR3: ∀i v w',(∀q,q<i->good X N q)->pos X i=N->Below w.heap.size w w'->w'.ownsRow w.heap.size 42 10 v i (zbp X i)->R (.returned (.tuple #[v,.int .i64 0,.int .i64 0])) w'):
  Calls Tryz.prog 19 #[.slice a N c] w R:=by
 have HR1:=zl hR1
 have HR2:=zl hR2
 have HR3:=zl hR3
 have HX:=zl hx
 have HB:=zl hb
 have HL:=zl hL
 clear hR1 hR2 hR3 hx hb hL
 have hmf: ∀(fn:Fn) (first cap:Array Value) (w:World),(Instr.makeFunc fn first cap).run Tryz.prog w= .ok (.func fn first cap) w:=fun _ _ _ _=>rfl
 go_enter_defers Tryz.func19,Tryz.ntmps19
 go_wp2_with fail
 have v0:Var (((w.alloc (.cells #[.slice none 0 0] 32)).alloc (.cells #[.int .i64 0] 37)).alloc (.cells #[.int .i64 0] 3)) w.heap.size (.slice none 0 0):=((Var.new w _ _).alloc _).alloc _
 have v1:Var (((w.alloc (.cells #[.slice none 0 0] 32)).alloc (.cells #[.int .i64 0] 37)).alloc (.cells #[.int .i64 0] 3)) (w.heap.size+1) (.int .i64 0):=by have:=(Var.new (w.alloc (.cells #[.slice none 0 0] 32)) (.int .i64 0) 37).alloc (.cells #[.int .i64 0] 3);simpa using this
 have v2:Var (((w.alloc (.cells #[.slice none 0 0] 32)).alloc (.cells #[.int .i64 0] 37)).alloc (.cells #[.int .i64 0] 3)) (w.heap.size+1+1) (.int .i64 0):=by have:=Var.new ((w.alloc (.cells #[.slice none 0 0] 32)).alloc (.cells #[.int .i64 0] 37)) (.int .i64 0) 3;simpa using this
 have hB0:Below w.heap.size w (((w.alloc (.cells #[.slice none 0 0] 32)).alloc (.cells #[.int .i64 0] 37)).alloc (.cells #[.int .i64 0] 3)):=((br.alloc nr _).alloc (by simp) _).alloc (by simp;omega) _
 have hS3:(((w.alloc (.cells #[.slice none 0 0] 32)).alloc (.cells #[.int .i64 0] 37)).alloc (.cells #[.int .i64 0] 3)).heap.size=w.heap.size+3:=by simp
 generalize ((w.alloc (.cells #[.slice none 0 0] 32)).alloc (.cells #[.int .i64 0] 37)).alloc (.cells #[.int .i64 0] 3)=W3 at *
 obtain ⟨H,hH⟩:=xq w.heap.size
 have HH:=zl hH
 rw[←hH] at v0 v1 v2 hS3 ⊢
 refine zh1 a N c _ _ ?_
 intro w4 hr4 hb4
 have v0':=v0.ext hb4
 have v1':=v1.ext hb4
 have v2':=v2.ext hb4
 have hB4:Below w.heap.size w w4:=hB0.trans (hb4.mono hB0.size)
 rw[hS3] at hr4 ⊢
 have V0:=zl v0'
 have V1:=zl v1'
 have V2:=zl v2'
 have HB4:=zl hB4
 have HR4:=zl hr4
 clear v0 v1 v2 v0' v1' v2' hB0 hb4 hB4 hr4 hS3 hH
 go_wp2_with fail
 go_loopw [10] (fun _ wr=> ∃(k s:Nat) (v:Value),(∀q,q<k->good X N q)/\Rdr wr (H+3) (.slice a N c) (pos X k) s/\Var wr H v/\Var wr (H+1) (.int .i64 0)/\Var wr (H+1+1) (.int .i64 0)/\wr.ownsRow (H+4) 42 10 v k (zbp X k)/\Below w.heap.size w wr) (fun _ wr=>N-atOf wr (H+3))
 case atStart=>exact⟨0,0,_,fun q hq=>absurd hq (by omega),HR4.o,V0.o,V1.o,V2.o,World.ownsRow_nil _ _ _ _,HB4.o⟩
 case round=>
  obtain ⟨k,s,v,hgd,hR,hv0,hv1,hv2,hown,hBr⟩:=hrel
  obtain ⟨ao,cap,rfl⟩:=zar hown
  have hpN:=pos_le X N k hgd
  have hpk:=pos_ge X N k hgd
  have HRr:=zl hR
  have HV0:=zl hv0
  have HV1:=zl hv1
  have HV2:=zl hv2
  have HO:=zl hown
  have HBr:=zl hBr
  have HGD:=zl hgd
  clear hgd hR hv0 hv1 hv2 hown hBr
  obtain ⟨p,hp⟩:=xq (pos X k)
  have HP:=zl hp
  have HRp:Hid (Rdr wr (H+3) (.slice a N c) p s):=by rw[hp];exact HRr.o
  rw[←hp] at hpN hpk
  clear hp HRr
  go_wp2_with fail
  refine zh2 (H+3) a N c p s _ _ HRp.o ?_
  intro w5 hb5
  have hv0:=HV0.o.ext hb5
  have hR5:=HRp.o.ext hb5
  have V05:=zl hv0
  have V15:=zl (HV1.o.ext hb5)
  have V25:=zl (HV2.o.ext hb5)
  have HR5:=zl hR5
  have HO5:Hid (w5.ownsRow (H+4) 42 10 (.slice ao k cap) k (zbp X k)):=HO.o.kept (row:=none) (zbf hb5) (by cases hv:Value.ownBlock (.slice ao k cap)<;>simp)
  have HB5:Hid (Below w.heap.size w w5):=HBr.o.trans (hb5.mono HBr.o.size)
  have hH3:H+3<w5.heap.size:=hR5.lt
  have hMs:=zl (HRp.o.atOf_eq)
  clear hb5 hR5 HV0 HV1 HV2 HRp HO HBr
  by_cases hpn:p<N
  .have hd:decide (p<N)=true:=by simpa using hpn
   rw[hd]
   have c0:=hv0.cell
   have hH:=HH.o
   have hBx: ∀b o,a=some ⟨b,o,none⟩->b≠H+3:=by
    intro b o hab
    obtain ⟨b',o',h1,h2⟩:=HX.o p hpn
    rw[hab] at h1
    simp only[Option.some.injEq,Addr.mk.injEq] at h1
    have:=zab h2
    omega
   have HBx:=zl hBx
   have HX5:Hid (BsAt w5 a N X):=HX.o.below HB5.o nr
   clear hd hv0 hBx
   by_cases hbad:isK (X p)=true/\p+elen (X p)<=N
   case neg=>
    have HPAN:Hid (∀e:Int,((isK (X p)=false/\e=3)\/(isK (X p)=true/\N<p+elen (X p)/\e=2))-> ∀w6,w5.drew.grownBy w6 (some (H+3))-> ∀tmps:Array Value,tmps[2]?.getD undef= .pointer (some ⟨H,0,none⟩)->tmps[3]?.getD undef= .pointer (some ⟨H+1,0,none⟩)->tmps[4]?.getD undef= .pointer (some ⟨H+1+1,0,none⟩)->
      Leaves Tryz.prog Tryz.f19 tmps R [{target:= .fn (.func 47) #[.pointer (some ⟨H,0,none⟩),.pointer (some ⟨H+1,0,none⟩),.pointer (some ⟨H+1+1,0,none⟩)],args:= #[]}] (.panicking [{v:= .iface 95 (.agg #[.int .i64 e,.int .i64 (p:Nat)]),recovered:=false}]) w6):=by
     intro e he w6 hg6 tmps ht2 ht3 ht4
     refine leaves_cons (f:=47) (args:= #[.pointer (some ⟨H,0,none⟩),.pointer (some ⟨H+1,0,none⟩),.pointer (some ⟨H+1+1,0,none⟩)]) (by simp) (by simp[go_sem]) ?_
     have hg:w5.grownBy w6 (some (H+3)):=⟨hg6.os,hg6.tape,hg6.output,hg6.size,hg6.block⟩
     have x0:=V05.o.grown hg (by simp)
     have x1:=V15.o.grown hg (by simp)
     have x2:=V25.o.grown hg (by simp)
     refine(zk9 w.heap.size H (H+1) (H+1+1) e p _ _ _ w6 (by omega) (by omega) (by omega) (by omega) (by omega) (by omega) x0.cell x1.cell x2.cell x0.free x1.free x2.free).mono ?_
     rintro en u' w7 ⟨rfl,rfl,y0,y1,y2,hb7⟩
     have hBw:Below w.heap.size w w7:=(zcl HB5.o hg (by omega)).trans (hb7.mono nr)
     have hfin:R (.returned (.tuple #[.slice none 0 0,.int .i64 e,.int .i64 (p:Nat)])) w7:=by
      rcases he with ⟨h1,rfl⟩|⟨h1,h2,rfl⟩
      .have:=HR1.o k w7 HGD.o (by rw[←HP.o];exact hpn) (by rw[←HP.o];exact h1) hBw
       rw[←HP.o] at this
       exact this
      .have:=HR2.o k w7 HGD.o (by rw[←HP.o];exact hpn) (by rw[←HP.o];exact h1) (by rw[←HP.o];exact h2) hBw
       rw[←HP.o] at this
       exact this
     simp[Leaves,settle,results,Tryz.results19,go_sem,y0,y1,y2,ht2,ht3,ht4]
     exact hfin
    clear hH
    go_wp2_with fail
    refine wp_region_any (by kernel_rfl) ?_
    refine wpAny_ready (rs:=[0,1]) (by kernel_rfl) (by simp) ?_
    refine AllReady.cons rfl (fun K1 hK1=>?_) (AllReady.cons rfl (fun K1 hK1=>?_) AllReady.nil)
    .go_simp
     refine hK1 _ _ ?_
     clear hK1 K1
     refine wpAny_ready (rs:=[1]) (by kernel_rfl) (by simp) ?_
     refine AllReady.cons rfl (fun K1 hK1=>?_) AllReady.nil
     go_simp
     refine hK1 _ _ ?_
     clear hK1 K1
     refine wpAny_ready (rs:=[2]) (by kernel_rfl) (by simp) ?_
     refine AllReady.cons rfl (fun K1 hK1=>?_) AllReady.nil
     go_simp
     refine zfi w HL.o (H+3) a N c p s X _ _ HB5.o.drew (by have:=HH.o;omega) (HR5.o.ext (br.drew)) hN hcap hpn (HX5.o.below (B:=w5.heap.size) (br.drew) nr) HB.o HBx.o (fun hk1 w6 hg6=>?_) (fun hk1 hk2 w6 hg6=>?_) (fun hk1 hk2=>?_)
     .exact HPAN.o 3 (.inl ⟨hk1,rfl⟩) w6 hg6 _ rfl rfl rfl
     .exact HPAN.o 2 (.inr ⟨hk1,hk2,rfl⟩) w6 hg6 _ rfl rfl rfl
     .exact absurd ⟨hk1,hk2⟩ hbad
    .go_simp
     refine hK1 _ _ ?_
     clear hK1 K1
     refine wpAny_ready (rs:=[0,2]) (by kernel_rfl) (by simp) ?_
     refine AllReady.cons rfl (fun K1 hK1=>?_) (AllReady.cons rfl (fun K1 hK1=>?_) AllReady.nil)
     .go_simp
      refine hK1 _ _ ?_
      clear hK1 K1
      refine wpAny_ready (rs:=[2]) (by kernel_rfl) (by simp) ?_
      refine AllReady.cons rfl (fun K1 hK1=>?_) AllReady.nil
      go_simp
      refine zfi w HL.o (H+3) a N c p s X _ _ HB5.o.drew (by have:=HH.o;omega) (HR5.o.ext (br.drew)) hN hcap hpn (HX5.o.below (B:=w5.heap.size) (br.drew) nr) HB.o HBx.o (fun hk1 w6 hg6=>?_) (fun hk1 hk2 w6 hg6=>?_) (fun hk1 hk2=>?_)
      .exact HPAN.o 3 (.inl ⟨hk1,rfl⟩) w6 hg6 _ rfl rfl rfl
      .exact HPAN.o 2 (.inr ⟨hk1,hk2,rfl⟩) w6 hg6 _ rfl rfl rfl
      .exact absurd ⟨hk1,hk2⟩ hbad
     .go_simp
      refine zfi w HL.o (H+3) a N c p s X _ _ HB5.o.drew (by have:=HH.o;omega) (HR5.o.ext (br.drew)) hN hcap hpn (HX5.o.below (B:=w5.heap.size) (br.drew) nr) HB.o HBx.o (fun hk1 w6 hg6=>?_) (fun hk1 hk2 w6 hg6=>?_) (fun hk1 hk2=>?_)
      .exact HPAN.o 3 (.inl ⟨hk1,rfl⟩) w6 hg6 _ rfl rfl rfl
      .exact HPAN.o 2 (.inr ⟨hk1,hk2,rfl⟩) w6 hg6 _ rfl rfl rfl
      .exact absurd ⟨hk1,hk2⟩ hbad
   case pos=>
    obtain ⟨hk,hfit⟩:=hbad
    have HK:=zl hk
    have he9:=zjy (X p) hk
    have f0:=V05.o.free
    clear hk hH
    go_wp2_with fail
    have hall: ∀(d:Nat->Int),∀u∈(#[.int .i64 (d 0),.int .i64 (d 1),.int .i64 (d 2),.int .i64 (d 3),.int .i64 (d 4),.int .i64 (d 5),.int .i64 (d 6),.int .i64 (d 7),.int .i64 (d 8),.int .i64 (d 9)]:Array Value).toList,u.oneCell'=true:=by
     intro d u hu
     simp only[List.mem_cons,List.not_mem_nil,or_false] at hu
     rcases hu with rfl|rfl|rfl|rfl|rfl|rfl|rfl|rfl|rfl|rfl<;>rfl
    have HALL:=zl hall
    clear hall
    have HOB:Hid (Value.ownBlock (.slice ao k cap)≠some (H+3)):=fun h=>by have:=(HO5.o.lt _ h).1;omega
    have HOB1:Hid (Value.ownBlock (.slice ao k cap)≠some (H+1)):=fun h=>by have:=(HO5.o.lt _ h).1;omega
    have HOB2:Hid (Value.ownBlock (.slice ao k cap)≠some (H+1+1)):=fun h=>by have:=(HO5.o.lt _ h).1;omega
    have HOB0:Hid (some H≠Value.ownBlock (.slice ao k cap)):=fun h=>by have:=(HO5.o.lt _ h.symm).1;omega
    refine wp_region_any (by kernel_rfl) ?_
    refine wpAny_ready (rs:=[0,1]) (by kernel_rfl) (by simp) ?_
    refine AllReady.cons rfl (fun K1 hK1=>?_) (AllReady.cons rfl (fun K1 hK1=>?_) AllReady.nil)
    .go_simp
     refine hK1 _ _ ?_
     clear hK1 K1
     refine wpAny_ready (rs:=[1]) (by kernel_rfl) (by simp) ?_
     refine AllReady.cons rfl (fun K1 hK1=>?_) AllReady.nil
     go_simp
     refine hK1 _ _ ?_
     clear hK1 K1
     refine wpAny_ready (rs:=[2]) (by kernel_rfl) (by simp) ?_
     refine AllReady.cons rfl (fun K1 hK1=>?_) AllReady.nil
     go_simp
     refine zfi w HL.o (H+3) a N c p s X _ _ HB5.o.drew (by have:=HH.o;omega) (HR5.o.ext (br.drew)) hN hcap hpn (HX5.o.below (B:=w5.heap.size) (br.drew) nr) HB.o HBx.o (fun hk1=>absurd (hk1.symm.trans HK.o) (by simp)) (fun _ hk2=>absurd hk2 (by omega)) (fun _ _ w6 hr6 hg6=>?_)
     have hg6':w5.grownBy w6 (some (H+3)):=⟨hg6.os,hg6.tape,hg6.output,hg6.size,hg6.block⟩
     have hcv:w6.cell? ⟨H,0,none⟩=some (.slice ao k cap):=(hg6'.cell_far ⟨H,0,none⟩ V05.o.lt (by simp)).trans V05.o.cell
     have HO6:Hid (w6.ownsRow (H+4) 42 10 (.slice ao k cap) k (zbp X k)):=HO5.o.kept hg6' (.inr HOB.o)
     have hz6:H+4<=w6.heap.size:=hr6.lt
     have hlt6:H<w6.heap.size:=by omega
     have HR6:=zl hr6
     have HG6:=zl hg6'
     clear hg6 hr6 hg6' c0 f0
     unfold evv
     refine hK1 _ _ ?_
     clear hK1 K1
     refine wpAny_ready (rs:=[3]) (by kernel_rfl) (by simp) ?_
     refine AllReady.cons rfl (fun K1 hK1=>?_) AllReady.nil
     go_simp
     refine hK1 _ _ ?_
     clear hK1 K1
     refine wpAny_ready (rs:=[4]) (by kernel_rfl) (by simp) ?_
     refine AllReady.cons rfl (fun K1 hK1=>?_) AllReady.nil
     refine zf7 (H+4) 10 80 k _ _ _ HO6.o hz6 Tryz.infoEvent rfl (by decide) rfl (HALL.o (dev X p)) (by omega) (by decide) _ _ 32 Tryz.underlying32 rfl rfl rfl rfl ?_
     intro v7 w7 hg7
     obtain ⟨ao7,cap7,rfl⟩:=zar hg7.own
     have hcv7:w7.cell? ⟨H,0,none⟩=some (.slice ao k cap):=(hg7.grown.cell_far ⟨H,0,none⟩ (by show H<w6.heap.size;omega) HOB0.o).trans hcv
     have hfv7:w7.frozen? ⟨H,0,none⟩=false:=(hg7.grown.frozen_far ⟨H,0,none⟩ (by show H<w6.heap.size;omega) HOB0.o).trans ((HG6.o.frozen_far ⟨H,0,none⟩ V05.o.lt (by simp)).trans V05.o.free)
     have HG7:Hid (Grew (H+4) 42 10 w6 (.slice ao k cap) w7 (.slice ao7 (k+1) cap7) (k+1) (zbp X (k+1))):=hg7.cast rfl (by rw[zck,←HP.o,←zdz];rfl)
     refine hK1 _ _ ?_
     clear hK1 K1 hg7
     refine wpAny_ready (rs:=[5]) (by kernel_rfl) (by simp) ?_
     refine AllReady.cons rfl (fun K1 hK1=>?_) AllReady.nil
     go_simp
     refine hK1 _ _ ?_
     clear hK1 K1
     refine wpAny_done (by kernel_rfl) ?_ _
     have hg67:=HG7.o
     have x0:H<w7.heap.size:=lll hlt6 hg67.grown.size
     have y0:Var (w7.setCell ⟨H,0,none⟩ (.slice ao7 (k+1) cap7)) H (.slice ao7 (k+1) cap7):=Var.set ⟨hcv7,hfv7,x0⟩ _
     have y1:Var (w7.setCell ⟨H,0,none⟩ (.slice ao7 (k+1) cap7)) (H+1) (.int .i64 0):=((V15.o.grown HG6.o (by simp)).grown hg67.grown HOB1.o).set_other (by omega)
     have y2:Var (w7.setCell ⟨H,0,none⟩ (.slice ao7 (k+1) cap7)) (H+1+1) (.int .i64 0):=((V25.o.grown HG6.o (by simp)).grown hg67.grown HOB2.o).set_other (by omega)
     have yr:Rdr (w7.setCell ⟨H,0,none⟩ (.slice ao7 (k+1) cap7)) (H+3) (.slice a N c) (pos X (k+1)) p:=by
      have h1:=(HR6.o.grown hg67.grown HOB.o).grown (zca w7 H 0 (.slice ao7 (k+1) cap7)) (by simp)
      rw[pos,←HP.o]
      exact h1
     have yo:(w7.setCell ⟨H,0,none⟩ (.slice ao7 (k+1) cap7)).ownsRow (H+4) 42 10 (.slice ao7 (k+1) cap7) (k+1) (zbp X (k+1)):=ownsRow_setCell_below hg67.own (by show H<H+4;omega) _
     have yb:Below w.heap.size w (w7.setCell ⟨H,0,none⟩ (.slice ao7 (k+1) cap7)):=by
      have h6:=zcl HB5.o HG6.o (by have:=HH.o;omega)
      have h7:Below w.heap.size w w7:=h6.trans (hg67.below h6.size fun g hg=>by have:=(HO6.o.lt g hg).1;have:=HH.o;omega)
      exact h7.setCell (p:=⟨H,0,none⟩) (by show w.heap.size<=H;exact Nat.le_of_eq HH.o.symm) _
     have YALL:Hid ((∀q,q<k+1->good X N q)/\Rdr (w7.setCell ⟨H,0,none⟩ (.slice ao7 (k+1) cap7)) (H+3) (.slice a N c) (pos X (k+1)) p/\Var (w7.setCell ⟨H,0,none⟩ (.slice ao7 (k+1) cap7)) H (.slice ao7 (k+1) cap7)/\Var (w7.setCell ⟨H,0,none⟩ (.slice ao7 (k+1) cap7)) (H+1) (.int .i64 0)/\Var (w7.setCell ⟨H,0,none⟩ (.slice ao7 (k+1) cap7)) (H+1+1) (.int .i64 0)/\(w7.setCell ⟨H,0,none⟩ (.slice ao7 (k+1) cap7)).ownsRow (H+4) 42 10 (.slice ao7 (k+1) cap7) (k+1) (zbp X (k+1))/\Below w.heap.size w (w7.setCell ⟨H,0,none⟩ (.slice ao7 (k+1) cap7))):=by
      refine⟨?_,yr,y0,y1,y2,yo,yb⟩
      intro q hq
      by_cases h:q=k
      .rw[h]
       exact⟨by rw[←HP.o];exact hpn,by rw[←HP.o];exact HK.o,by rw[←HP.o];exact hfit⟩
      .exact HGD.o q (by omega)
     have hm7:atOf (w7.setCell ⟨H,0,none⟩ (.slice ao7 (k+1) cap7)) (H+3)=p+elen (X p):=by
      rw[yr.atOf_eq,pos,←HP.o]
     have HM7:=zl hm7
     clear x0 y0 y1 y2 yr yo yb hg67 hm7 hcv7 hfv7 hcv
     go_wp2_with fail
     go_roundw
     case rel=>exact⟨k+1,p,_,YALL.o⟩
     case measure=>rw[HM7.o,hMs.out];omega
    .go_simp
     refine hK1 _ _ ?_
     clear hK1 K1
     refine wpAny_ready (rs:=[0,2]) (by kernel_rfl) (by simp) ?_
     refine AllReady.cons rfl (fun K1 hK1=>?_) (AllReady.cons rfl (fun K1 hK1=>?_) AllReady.nil)
     .go_simp
      refine hK1 _ _ ?_
      clear hK1 K1
      refine wpAny_ready (rs:=[2]) (by kernel_rfl) (by simp) ?_
      refine AllReady.cons rfl (fun K1 hK1=>?_) AllReady.nil
      go_simp
      refine zfi w HL.o (H+3) a N c p s X _ _ HB5.o.drew (by have:=HH.o;omega) (HR5.o.ext (br.drew)) hN hcap hpn (HX5.o.below (B:=w5.heap.size) (br.drew) nr) HB.o HBx.o (fun hk1=>absurd (hk1.symm.trans HK.o) (by simp)) (fun _ hk2=>absurd hk2 (by omega)) (fun _ _ w6 hr6 hg6=>?_)
      have hg6':w5.grownBy w6 (some (H+3)):=⟨hg6.os,hg6.tape,hg6.output,hg6.size,hg6.block⟩
      have hcv:w6.cell? ⟨H,0,none⟩=some (.slice ao k cap):=(hg6'.cell_far ⟨H,0,none⟩ V05.o.lt (by simp)).trans V05.o.cell
      have HO6:Hid (w6.ownsRow (H+4) 42 10 (.slice ao k cap) k (zbp X k)):=HO5.o.kept hg6' (.inr HOB.o)
      have hz6:H+4<=w6.heap.size:=hr6.lt
      have hlt6:H<w6.heap.size:=by omega
      have HR6:=zl hr6
      have HG6:=zl hg6'
      clear hg6 hr6 hg6' c0 f0
      unfold evv
      refine hK1 _ _ ?_
      clear hK1 K1
      refine wpAny_ready (rs:=[3]) (by kernel_rfl) (by simp) ?_
      refine AllReady.cons rfl (fun K1 hK1=>?_) AllReady.nil
      go_simp
      refine hK1 _ _ ?_
      clear hK1 K1
      refine wpAny_ready (rs:=[4]) (by kernel_rfl) (by simp) ?_
      refine AllReady.cons rfl (fun K1 hK1=>?_) AllReady.nil
      refine zf7 (H+4) 10 80 k _ _ _ HO6.o hz6 Tryz.infoEvent rfl (by decide) rfl (HALL.o (dev X p)) (by omega) (by decide) _ _ 32 Tryz.underlying32 rfl rfl rfl rfl ?_
      intro v7 w7 hg7
      obtain ⟨ao7,cap7,rfl⟩:=zar hg7.own
      have hcv7:w7.cell? ⟨H,0,none⟩=some (.slice ao k cap):=(hg7.grown.cell_far ⟨H,0,none⟩ (by show H<w6.heap.size;omega) HOB0.o).trans hcv
      have hfv7:w7.frozen? ⟨H,0,none⟩=false:=(hg7.grown.frozen_far ⟨H,0,none⟩ (by show H<w6.heap.size;omega) HOB0.o).trans ((HG6.o.frozen_far ⟨H,0,none⟩ V05.o.lt (by simp)).trans V05.o.free)
      have HG7:Hid (Grew (H+4) 42 10 w6 (.slice ao k cap) w7 (.slice ao7 (k+1) cap7) (k+1) (zbp X (k+1))):=hg7.cast rfl (by rw[zck,←HP.o,←zdz];rfl)
      refine hK1 _ _ ?_
      clear hK1 K1 hg7
      refine wpAny_ready (rs:=[5]) (by kernel_rfl) (by simp) ?_
      refine AllReady.cons rfl (fun K1 hK1=>?_) AllReady.nil
      go_simp
      refine hK1 _ _ ?_
      clear hK1 K1
      refine wpAny_done (by kernel_rfl) ?_ _
      have hg67:=HG7.o
      have x0:H<w7.heap.size:=lll hlt6 hg67.grown.size
      have y0:Var (w7.setCell ⟨H,0,none⟩ (.slice ao7 (k+1) cap7)) H (.slice ao7 (k+1) cap7):=Var.set ⟨hcv7,hfv7,x0⟩ _
      have y1:Var (w7.setCell ⟨H,0,none⟩ (.slice ao7 (k+1) cap7)) (H+1) (.int .i64 0):=((V15.o.grown HG6.o (by simp)).grown hg67.grown HOB1.o).set_other (by omega)
      have y2:Var (w7.setCell ⟨H,0,none⟩ (.slice ao7 (k+1) cap7)) (H+1+1) (.int .i64 0):=((V25.o.grown HG6.o (by simp)).grown hg67.grown HOB2.o).set_other (by omega)
      have yr:Rdr (w7.setCell ⟨H,0,none⟩ (.slice ao7 (k+1) cap7)) (H+3) (.slice a N c) (pos X (k+1)) p:=by
       have h1:=(HR6.o.grown hg67.grown HOB.o).grown (zca w7 H 0 (.slice ao7 (k+1) cap7)) (by simp)
       rw[pos,←HP.o]
       exact h1
      have yo:(w7.setCell ⟨H,0,none⟩ (.slice ao7 (k+1) cap7)).ownsRow (H+4) 42 10 (.slice ao7 (k+1) cap7) (k+1) (zbp X (k+1)):=ownsRow_setCell_below hg67.own (by show H<H+4;omega) _
      have yb:Below w.heap.size w (w7.setCell ⟨H,0,none⟩ (.slice ao7 (k+1) cap7)):=by
       have h6:=zcl HB5.o HG6.o (by have:=HH.o;omega)
       have h7:Below w.heap.size w w7:=h6.trans (hg67.below h6.size fun g hg=>by have:=(HO6.o.lt g hg).1;have:=HH.o;omega)
       exact h7.setCell (p:=⟨H,0,none⟩) (by show w.heap.size<=H;exact Nat.le_of_eq HH.o.symm) _
      have YALL:Hid ((∀q,q<k+1->good X N q)/\Rdr (w7.setCell ⟨H,0,none⟩ (.slice ao7 (k+1) cap7)) (H+3) (.slice a N c) (pos X (k+1)) p/\Var (w7.setCell ⟨H,0,none⟩ (.slice ao7 (k+1) cap7)) H (.slice ao7 (k+1) cap7)/\Var (w7.setCell ⟨H,0,none⟩ (.slice ao7 (k+1) cap7)) (H+1) (.int .i64 0)/\Var (w7.setCell ⟨H,0,none⟩ (.slice ao7 (k+1) cap7)) (H+1+1) (.int .i64 0)/\(w7.setCell ⟨H,0,none⟩ (.slice ao7 (k+1) cap7)).ownsRow (H+4) 42 10 (.slice ao7 (k+1) cap7) (k+1) (zbp X (k+1))/\Below w.heap.size w (w7.setCell ⟨H,0,none⟩ (.slice ao7 (k+1) cap7))):=by
       refine⟨?_,yr,y0,y1,y2,yo,yb⟩
       intro q hq
       by_cases h:q=k
       .rw[h]
        exact⟨by rw[←HP.o];exact hpn,by rw[←HP.o];exact HK.o,by rw[←HP.o];exact hfit⟩
       .exact HGD.o q (by omega)
      have hm7:atOf (w7.setCell ⟨H,0,none⟩ (.slice ao7 (k+1) cap7)) (H+3)=p+elen (X p):=by
       rw[yr.atOf_eq,pos,←HP.o]
      have HM7:=zl hm7
      clear x0 y0 y1 y2 yr yo yb hg67 hm7 hcv7 hfv7 hcv
      go_wp2_with fail
      go_roundw
      case rel=>exact⟨k+1,p,_,YALL.o⟩
      case measure=>rw[HM7.o,hMs.out];omega
     .go_simp
      refine zfi w HL.o (H+3) a N c p s X _ _ HB5.o.drew (by have:=HH.o;omega) (HR5.o.ext (br.drew)) hN hcap hpn (HX5.o.below (B:=w5.heap.size) (br.drew) nr) HB.o HBx.o (fun hk1=>absurd (hk1.symm.trans HK.o) (by simp)) (fun _ hk2=>absurd hk2 (by omega)) (fun _ _ w6 hr6 hg6=>?_)
      have hg6':w5.grownBy w6 (some (H+3)):=⟨hg6.os,hg6.tape,hg6.output,hg6.size,hg6.block⟩
      have hcv:w6.cell? ⟨H,0,none⟩=some (.slice ao k cap):=(hg6'.cell_far ⟨H,0,none⟩ V05.o.lt (by simp)).trans V05.o.cell
      have HO6:Hid (w6.ownsRow (H+4) 42 10 (.slice ao k cap) k (zbp X k)):=HO5.o.kept hg6' (.inr HOB.o)
      have hz6:H+4<=w6.heap.size:=hr6.lt
      have hlt6:H<w6.heap.size:=by omega
      have HR6:=zl hr6
      have HG6:=zl hg6'
      clear hg6 hr6 hg6' c0 f0
      unfold evv
      refine hK1 _ _ ?_
      clear hK1 K1
      refine wpAny_ready (rs:=[0,3]) (by kernel_rfl) (by simp) ?_
      refine AllReady.cons rfl (fun K1 hK1=>?_) (AllReady.cons rfl (fun K1 hK1=>?_) AllReady.nil)
      .go_simp
       refine hK1 _ _ ?_
       clear hK1 K1
       refine wpAny_ready (rs:=[3]) (by kernel_rfl) (by simp) ?_
       refine AllReady.cons rfl (fun K1 hK1=>?_) AllReady.nil
       go_simp
       refine hK1 _ _ ?_
       clear hK1 K1
       refine wpAny_ready (rs:=[4]) (by kernel_rfl) (by simp) ?_
       refine AllReady.cons rfl (fun K1 hK1=>?_) AllReady.nil
       refine zf7 (H+4) 10 80 k _ _ _ HO6.o hz6 Tryz.infoEvent rfl (by decide) rfl (HALL.o (dev X p)) (by omega) (by decide) _ _ 32 Tryz.underlying32 rfl rfl rfl rfl ?_
       intro v7 w7 hg7
       obtain ⟨ao7,cap7,rfl⟩:=zar hg7.own
       have hcv7:w7.cell? ⟨H,0,none⟩=some (.slice ao k cap):=(hg7.grown.cell_far ⟨H,0,none⟩ (by show H<w6.heap.size;omega) HOB0.o).trans hcv
       have hfv7:w7.frozen? ⟨H,0,none⟩=false:=(hg7.grown.frozen_far ⟨H,0,none⟩ (by show H<w6.heap.size;omega) HOB0.o).trans ((HG6.o.frozen_far ⟨H,0,none⟩ V05.o.lt (by simp)).trans V05.o.free)
       have HG7:Hid (Grew (H+4) 42 10 w6 (.slice ao k cap) w7 (.slice ao7 (k+1) cap7) (k+1) (zbp X (k+1))):=hg7.cast rfl (by rw[zck,←HP.o,←zdz];rfl)
       refine hK1 _ _ ?_
       clear hK1 K1 hg7
       refine wpAny_ready (rs:=[5]) (by kernel_rfl) (by simp) ?_
       refine AllReady.cons rfl (fun K1 hK1=>?_) AllReady.nil
       go_simp
       refine hK1 _ _ ?_
       clear hK1 K1
       refine wpAny_done (by kernel_rfl) ?_ _
       have hg67:=HG7.o
       have x0:H<w7.heap.size:=lll hlt6 hg67.grown.size
       have y0:Var (w7.setCell ⟨H,0,none⟩ (.slice ao7 (k+1) cap7)) H (.slice ao7 (k+1) cap7):=Var.set ⟨hcv7,hfv7,x0⟩ _
       have y1:Var (w7.setCell ⟨H,0,none⟩ (.slice ao7 (k+1) cap7)) (H+1) (.int .i64 0):=((V15.o.grown HG6.o (by simp)).grown hg67.grown HOB1.o).set_other (by omega)
       have y2:Var (w7.setCell ⟨H,0,none⟩ (.slice ao7 (k+1) cap7)) (H+1+1) (.int .i64 0):=((V25.o.grown HG6.o (by simp)).grown hg67.grown HOB2.o).set_other (by omega)
       have yr:Rdr (w7.setCell ⟨H,0,none⟩ (.slice ao7 (k+1) cap7)) (H+3) (.slice a N c) (pos X (k+1)) p:=by
        have h1:=(HR6.o.grown hg67.grown HOB.o).grown (zca w7 H 0 (.slice ao7 (k+1) cap7)) (by simp)
        rw[pos,←HP.o]
        exact h1
       have yo:(w7.setCell ⟨H,0,none⟩ (.slice ao7 (k+1) cap7)).ownsRow (H+4) 42 10 (.slice ao7 (k+1) cap7) (k+1) (zbp X (k+1)):=ownsRow_setCell_below hg67.own (by show H<H+4;omega) _
       have yb:Below w.heap.size w (w7.setCell ⟨H,0,none⟩ (.slice ao7 (k+1) cap7)):=by
        have h6:=zcl HB5.o HG6.o (by have:=HH.o;omega)
        have h7:Below w.heap.size w w7:=h6.trans (hg67.below h6.size fun g hg=>by have:=(HO6.o.lt g hg).1;have:=HH.o;omega)
        exact h7.setCell (p:=⟨H,0,none⟩) (by show w.heap.size<=H;exact Nat.le_of_eq HH.o.symm) _
       have YALL:Hid ((∀q,q<k+1->good X N q)/\Rdr (w7.setCell ⟨H,0,none⟩ (.slice ao7 (k+1) cap7)) (H+3) (.slice a N c) (pos X (k+1)) p/\Var (w7.setCell ⟨H,0,none⟩ (.slice ao7 (k+1) cap7)) H (.slice ao7 (k+1) cap7)/\Var (w7.setCell ⟨H,0,none⟩ (.slice ao7 (k+1) cap7)) (H+1) (.int .i64 0)/\Var (w7.setCell ⟨H,0,none⟩ (.slice ao7 (k+1) cap7)) (H+1+1) (.int .i64 0)/\(w7.setCell ⟨H,0,none⟩ (.slice ao7 (k+1) cap7)).ownsRow (H+4) 42 10 (.slice ao7 (k+1) cap7) (k+1) (zbp X (k+1))/\Below w.heap.size w (w7.setCell ⟨H,0,none⟩ (.slice ao7 (k+1) cap7))):=by
        refine⟨?_,yr,y0,y1,y2,yo,yb⟩
        intro q hq
        by_cases h:q=k
        .rw[h]
         exact⟨by rw[←HP.o];exact hpn,by rw[←HP.o];exact HK.o,by rw[←HP.o];exact hfit⟩
        .exact HGD.o q (by omega)
       have hm7:atOf (w7.setCell ⟨H,0,none⟩ (.slice ao7 (k+1) cap7)) (H+3)=p+elen (X p):=by
        rw[yr.atOf_eq,pos,←HP.o]
       have HM7:=zl hm7
       clear x0 y0 y1 y2 yr yo yb hg67 hm7 hcv7 hfv7 hcv
       go_wp2_with fail
       go_roundw
       case rel=>exact⟨k+1,p,_,YALL.o⟩
       case measure=>rw[HM7.o,hMs.out];omega
      .go_simp
       refine hK1 _ _ ?_
       clear hK1 K1
       refine wpAny_ready (rs:=[0]) (by kernel_rfl) (by simp) ?_
       refine AllReady.cons rfl (fun K1 hK1=>?_) AllReady.nil
       go_simp
       refine hK1 _ _ ?_
       clear hK1 K1
       refine wpAny_ready (rs:=[4]) (by kernel_rfl) (by simp) ?_
       refine AllReady.cons rfl (fun K1 hK1=>?_) AllReady.nil
       refine zf7 (H+4) 10 80 k _ _ _ HO6.o hz6 Tryz.infoEvent rfl (by decide) rfl (HALL.o (dev X p)) (by omega) (by decide) _ _ 32 Tryz.underlying32 rfl rfl rfl rfl ?_
       intro v7 w7 hg7
       obtain ⟨ao7,cap7,rfl⟩:=zar hg7.own
       have hcv7:w7.cell? ⟨H,0,none⟩=some (.slice ao k cap):=(hg7.grown.cell_far ⟨H,0,none⟩ (by show H<w6.heap.size;omega) HOB0.o).trans hcv
       have hfv7:w7.frozen? ⟨H,0,none⟩=false:=(hg7.grown.frozen_far ⟨H,0,none⟩ (by show H<w6.heap.size;omega) HOB0.o).trans ((HG6.o.frozen_far ⟨H,0,none⟩ V05.o.lt (by simp)).trans V05.o.free)
       have HG7:Hid (Grew (H+4) 42 10 w6 (.slice ao k cap) w7 (.slice ao7 (k+1) cap7) (k+1) (zbp X (k+1))):=hg7.cast rfl (by rw[zck,←HP.o,←zdz];rfl)
       refine hK1 _ _ ?_
       clear hK1 K1 hg7
       refine wpAny_ready (rs:=[5]) (by kernel_rfl) (by simp) ?_
       refine AllReady.cons rfl (fun K1 hK1=>?_) AllReady.nil
       go_simp
       refine hK1 _ _ ?_
       clear hK1 K1
       refine wpAny_done (by kernel_rfl) ?_ _
       have hg67:=HG7.o
       have x0:H<w7.heap.size:=lll hlt6 hg67.grown.size
       have y0:Var (w7.setCell ⟨H,0,none⟩ (.slice ao7 (k+1) cap7)) H (.slice ao7 (k+1) cap7):=Var.set ⟨hcv7,hfv7,x0⟩ _
       have y1:Var (w7.setCell ⟨H,0,none⟩ (.slice ao7 (k+1) cap7)) (H+1) (.int .i64 0):=((V15.o.grown HG6.o (by simp)).grown hg67.grown HOB1.o).set_other (by omega)
       have y2:Var (w7.setCell ⟨H,0,none⟩ (.slice ao7 (k+1) cap7)) (H+1+1) (.int .i64 0):=((V25.o.grown HG6.o (by simp)).grown hg67.grown HOB2.o).set_other (by omega)
       have yr:Rdr (w7.setCell ⟨H,0,none⟩ (.slice ao7 (k+1) cap7)) (H+3) (.slice a N c) (pos X (k+1)) p:=by
        have h1:=(HR6.o.grown hg67.grown HOB.o).grown (zca w7 H 0 (.slice ao7 (k+1) cap7)) (by simp)
        rw[pos,←HP.o]
        exact h1
       have yo:(w7.setCell ⟨H,0,none⟩ (.slice ao7 (k+1) cap7)).ownsRow (H+4) 42 10 (.slice ao7 (k+1) cap7) (k+1) (zbp X (k+1)):=ownsRow_setCell_below hg67.own (by show H<H+4;omega) _
       have yb:Below w.heap.size w (w7.setCell ⟨H,0,none⟩ (.slice ao7 (k+1) cap7)):=by
        have h6:=zcl HB5.o HG6.o (by have:=HH.o;omega)
        have h7:Below w.heap.size w w7:=h6.trans (hg67.below h6.size fun g hg=>by have:=(HO6.o.lt g hg).1;have:=HH.o;omega)
        exact h7.setCell (p:=⟨H,0,none⟩) (by show w.heap.size<=H;exact Nat.le_of_eq HH.o.symm) _
       have YALL:Hid ((∀q,q<k+1->good X N q)/\Rdr (w7.setCell ⟨H,0,none⟩ (.slice ao7 (k+1) cap7)) (H+3) (.slice a N c) (pos X (k+1)) p/\Var (w7.setCell ⟨H,0,none⟩ (.slice ao7 (k+1) cap7)) H (.slice ao7 (k+1) cap7)/\Var (w7.setCell ⟨H,0,none⟩ (.slice ao7 (k+1) cap7)) (H+1) (.int .i64 0)/\Var (w7.setCell ⟨H,0,none⟩ (.slice ao7 (k+1) cap7)) (H+1+1) (.int .i64 0)/\(w7.setCell ⟨H,0,none⟩ (.slice ao7 (k+1) cap7)).ownsRow (H+4) 42 10 (.slice ao7 (k+1) cap7) (k+1) (zbp X (k+1))/\Below w.heap.size w (w7.setCell ⟨H,0,none⟩ (.slice ao7 (k+1) cap7))):=by
        refine⟨?_,yr,y0,y1,y2,yo,yb⟩
        intro q hq
        by_cases h:q=k
        .rw[h]
         exact⟨by rw[←HP.o];exact hpn,by rw[←HP.o];exact HK.o,by rw[←HP.o];exact hfit⟩
        .exact HGD.o q (by omega)
       have hm7:atOf (w7.setCell ⟨H,0,none⟩ (.slice ao7 (k+1) cap7)) (H+3)=p+elen (X p):=by
        rw[yr.atOf_eq,pos,←HP.o]
       have HM7:=zl hm7
       clear x0 y0 y1 y2 yr yo yb hg67 hm7 hcv7 hfv7 hcv
       go_wp2_with fail
       go_roundw
       case rel=>exact⟨k+1,p,_,YALL.o⟩
       case measure=>rw[HM7.o,hMs.out];omega
  .have hd:decide (p<N)=false:=by simpa using hpn
   have hp':p=N:=by omega
   rw[hd]
   have c0:=hv0.cell
   have f0:=hv0.free
   have c1:=V15.o.cell
   have f1:=V15.o.free
   have c2:=V25.o.cell
   have f2:=V25.o.free
   clear hd hv0
   go_wp2_with fail
   have x0:Var (((w5.setCell ⟨H,0,none⟩ (.slice ao k cap)).setCell ⟨H+1,0,none⟩ (.int .i64 0)).setCell ⟨H+1+1,0,none⟩ (.int .i64 0)) H (.slice ao k cap):=((V05.o.set _).set_other (by omega)).set_other (by omega)
   have x1:Var (((w5.setCell ⟨H,0,none⟩ (.slice ao k cap)).setCell ⟨H+1,0,none⟩ (.int .i64 0)).setCell ⟨H+1+1,0,none⟩ (.int .i64 0)) (H+1) (.int .i64 0):=((V15.o.set_other (by omega)).set _).set_other (by omega)
   have x2:Var (((w5.setCell ⟨H,0,none⟩ (.slice ao k cap)).setCell ⟨H+1,0,none⟩ (.int .i64 0)).setCell ⟨H+1+1,0,none⟩ (.int .i64 0)) (H+1+1) (.int .i64 0):=((V25.o.set_other (by omega)).set_other (by omega)).set _
   have xo:(((w5.setCell ⟨H,0,none⟩ (.slice ao k cap)).setCell ⟨H+1,0,none⟩ (.int .i64 0)).setCell ⟨H+1+1,0,none⟩ (.int .i64 0)).ownsRow H 42 10 (.slice ao k cap) k (zbp X k):=own_base (ownsRow_setCell_below (ownsRow_setCell_below (ownsRow_setCell_below HO5.o (by show H<H+4;omega) _) (by show H+1<H+4;omega) _) (by show H+1+1<H+4;omega) _) (by omega)
   have xb:Below w.heap.size w (((w5.setCell ⟨H,0,none⟩ (.slice ao k cap)).setCell ⟨H+1,0,none⟩ (.int .i64 0)).setCell ⟨H+1+1,0,none⟩ (.int .i64 0)):=((HB5.o.setCell (p:=⟨H,0,none⟩) (by show w.heap.size<=H;exact Nat.le_of_eq HH.o.symm) _).setCell (p:=⟨H+1,0,none⟩) (by show w.heap.size<=H+1;have:=HH.o;omega) _).setCell (p:=⟨H+1+1,0,none⟩) (by show w.heap.size<=H+1+1;have:=HH.o;omega) _
   generalize ((w5.setCell ⟨H,0,none⟩ (.slice ao k cap)).setCell ⟨H+1,0,none⟩ (.int .i64 0)).setCell ⟨H+1+1,0,none⟩ (.int .i64 0)=WF at *
   have hfin:R (.returned (.tuple #[.slice ao k cap,.int .i64 0,.int .i64 0])) WF:=HR3.o k _ WF HGD.o (by rw[←HP.o];exact hp') xb (by rw[←HH.o];exact xo)
   have d0:=x0.cell
   have d1:=x1.cell
   have d2:=x2.cell
   refine leaves_cons (f:=47) (args:= #[.pointer (some ⟨H,0,none⟩),.pointer (some ⟨H+1,0,none⟩),.pointer (some ⟨H+1+1,0,none⟩)]) (by simp) (by simp[go_sem]) ?_
   refine(catch_idle _ _ _ _).mono ?_
   rintro e u' w'' ⟨rfl,rfl,rfl⟩
   simp[Leaves,settle,results,Tryz.results19,go_sem,d0,d1,d2]
   exact hfin
end
section
def Ent (base:Nat) (own:Nat->Nat×Int) (tag:Nat×Int) (w:World) (e:TypeId) (size:Nat) (v:Value) (φ:Nat->Value):Prop:=
 ∃a n c,v= .slice a n c/\n<=67108864/\(n=0\/ ∃(g:Nat) (cur:Array Value),a=some ⟨g,0,none⟩/\base<=g/\own g=tag/\w.heap[g]?=some (.cells cur e (0,0))/\n * size<=cur.size/\ ∀k,k<n * size->cur[k]?=some (φ k))
structure zaj (base:Nat) (own:Nat->Nat×Int) (T:Nat×Int->Prop) (w:World) (own':Nat->Nat×Int) (w':World):Prop where
 size:w.heap.size<=w'.heap.size
 tag: ∀g,g<w.heap.size->own' g=own g
 blk: ∀g,g<w.heap.size->base<=g->T (own g)->w'.heap[g]?=w.heap[g]?
variable {w w':World}
theorem zak {g:Nat}{o:Obj}(h:w.heap[g]?=some o):g<w.heap.size:=(gsi.1 h).1
variable {base n:Nat} {tag:Nat×Int} {T:Nat×Int->Prop} {own own':Nat->Nat×Int} {e:TypeId} {v:Value}
theorem Ent.stays {size:Nat}{φ:Nat->Value}(h:Ent base own tag w e size v φ)(hs:zaj base own T w own' w')(hT:T tag):Ent base own' tag w' e size v φ:=by
 obtain ⟨a,n,c,h1,h2,h3⟩:=h
 refine⟨a,n,c,h1,h2,?_⟩
 rcases h3 with h3|⟨g,cur,h4,h5,h6,h7,h8,h9⟩
 .exact .inl h3
 .have hlt:=zak h7
  exact .inr ⟨g,cur,h4,h5,by rw[hs.tag g hlt];exact h6,by rw[hs.blk g hlt h5 (by rw[h6];exact hT)];exact h7,h8,h9⟩
variable {xs:List Value}
theorem zd4 (h:w.ownsRow base e 1 v n xs)(ht: ∀g,v.ownBlock=some g->own g=tag)(hs:zaj base own T w own' w')(hT:T tag):
  w'.ownsRow base e 1 v n xs/\ ∀g,v.ownBlock=some g->own' g=tag:=by
 have hl:=h.lt
 refine⟨⟨h.1,?_⟩,fun g hg=>by rw[hs.tag g (hl g hg).2];exact ht g hg⟩
 rcases h.2 with h2|⟨g,cap,cur,rfl,hb,hg,r⟩
 .exact .inl h2
 .refine .inr ⟨g,cap,cur,rfl,hb,?_,r⟩
  rw[hs.blk g (zak hg) hb (by rw[ht g rfl];exact hT)]
  exact hg
structure WI (base B:Nat) (own:Nat->Nat×Int) (w:World) (f:Nat->Value) (bs:List Value) (ms:List Nat) (es:List Value) (em:List Int) (is_ ls qs:List Value) (qm:List Int) (last:Int) (many:Nat):Prop where
 blk:w.heap[B]?=some (.cells #[f 0,f 1,f 2,f 3,f 4,f 5,f 6,f 7,f 8,.int .i64 last,.int .i64 (many:Nat)] 30 (0,0))
 hB:base<=B
 oB:own B=(0,0)
 r3:w.ownsRow base 64 1 (f 3) qs.length qs
 t3: ∀g,(f 3).ownBlock=some g->own g=(1,3)
 r4:w.ownsRow base 3 1 (f 4) qm.length (qm.map fun m=> .int .i64 m)
 t4: ∀g,(f 4).ownBlock=some g->own g=(1,4)
 r1:w.ownsRow base 31 1 (f 1) bs.length bs
 t1: ∀g,(f 1).ownBlock=some g->own g=(1,1)
 r2:w.ownsRow base 3 1 (f 2) ms.length (ms.map fun m=> .int .i64 (m:Nat))
 t2: ∀g,(f 2).ownBlock=some g->own g=(1,2)
 r5:w.ownsRow base 32 1 (f 5) es.length es
 t5: ∀g,(f 5).ownBlock=some g->own g=(1,5)
 r6:w.ownsRow base 3 1 (f 6) em.length (em.map fun m=> .int .i64 m)
 t6: ∀g,(f 6).ownBlock=some g->own g=(1,6)
 r7:w.ownsRow base 31 1 (f 7) is_.length is_
 t7: ∀g,(f 7).ownBlock=some g->own g=(1,7)
 r8:w.ownsRow base 32 1 (f 8) ls.length ls
 t8: ∀g,(f 8).ownBlock=some g->own g=(1,8)
 lb: ∀(i:Nat) (v:Value) (m:Nat),bs[i]?=some v->ms[i]?=some m->Ent base own (2,m) w 5 1 v (fun _=> .int .u8 (dg m 0:Nat))/\m<=many
 lq: ∀(i:Nat) (v:Value) (m:Int),qs[i]?=some v->qm[i]?=some m->Ent base own (8,m) w 89 6 v (fun k=>kod m (k%6))
 le: ∀(i:Nat) (v:Value) (m:Int),es[i]?=some v->em[i]?=some m->Ent base own (3,m) w 42 10 v (fun k=> .int .i64 (kev m (k%10)))
 li: ∀(i:Nat) (v:Value),is_[i]?=some v->Ent base own (4,i) w 5 1 v (fun _=> .int .u8 (77:Nat))
 ll: ∀(i:Nat) (v:Value),ls[i]?=some v->Ent base own (5,i) w 42 10 v (fun k=> .int .i64 (kev (-7) (k%10)))
 nn:bs.length<=67108864/\es.length<=67108864/\is_.length<=67108864/\ls.length<=67108864/\many<=67108864/\ms.length<=67108864/\em.length<=67108864/\qs.length<=67108864/\qm.length<=67108864
theorem zaj.of_below (h:Below w.heap.size w w'):zaj base own (fun _=>True) w own w':=⟨h.size,fun _ _=>rfl,fun g hg _ _=>h.block g hg⟩
theorem ze4 (h:w.ownsRow base e 1 v n xs):
  ∃a c,v= .slice a n c/\zjn w a n (fun i=>xs.getD i undef)/\ ∀g o,a=some ⟨g,o,none⟩->v.ownBlock=some g:=by
 obtain ⟨a,c,rfl⟩:=zar h
 refine⟨a,c,rfl,?_,?_⟩
 .intro i hi
  have hl:xs.length=n:=by have:=h.1;omega
  obtain ⟨g,cap,h1,_,_,_,h5,_⟩:=zee h i (xs[i]'(by omega)) (List.getElem?_eq_getElem (by omega))
  simp only[Value.slice.injEq] at h1
  refine⟨g,h1.1,?_⟩
  rw[h5]
  simp[hl,hi]
 .intro g o hg
  rw[hg]
  rfl
theorem WI.held {B:Nat}{f:Nat->Value}{bs:List Value}{ms:List Nat}{es:List Value}{em:List Int}{is_ ls qs:List Value}{qm:List Int}{last:Int}{many:Nat}
  (h:WI base B own w f bs ms es em is_ ls qs qm last many)(hl:ms.length=bs.length)(hle:em.length=es.length)(hlq:qm.length=qs.length):
  ∃ab ao ae am ai al aq ak cb co ce cm ci cl cq ck,Held w B ab ao ae am ai al bs.length cb co es.length ce cm is_.length ci ls.length cl aq ak qs.length cq ck (fun i=>bs.getD i undef) (fun i=>ms.getD i 0) (fun i=>es.getD i undef) (fun i=>em.getD i 0) (fun i=>is_.getD i undef) (fun i=>ls.getD i undef) (fun i=>qs.getD i undef) (fun i=>qm.getD i 0):=by
 obtain ⟨ab,cb,e1,s1,g1⟩:=ze4 h.r1
 obtain ⟨ao,co,e2,s2,g2⟩:=ze4 h.r2
 obtain ⟨ae,ce,e5,s5,_⟩:=ze4 h.r5
 obtain ⟨am,cm,e6,s6,_⟩:=ze4 h.r6
 obtain ⟨ai,ci,e7,s7,_⟩:=ze4 h.r7
 obtain ⟨al,cl,e8,s8,_⟩:=ze4 h.r8
 obtain ⟨aq,cq,e3,s3,_⟩:=ze4 h.r3
 obtain ⟨ak,ck,e4,s4,_⟩:=ze4 h.r4
 rw[hl] at e2 s2
 rw[hle] at e6 s6
 rw[hlq] at e4 s4
 obtain ⟨n1,n2,n3,n4,n5,_,_,n6,_⟩:=h.nn
 have hcell: ∀(i:Nat) (v:Value),(#[f 0,f 1,f 2,f 3,f 4,f 5,f 6,f 7,f 8,.int .i64 last,.int .i64 (many:Nat)]:Array Value)[i]?=some v->w.cell? ⟨B,i,none⟩=some v:=fun i v hv=>by rw[cell_of_row w B i _ _ (0,0) h.blk];exact hv
 have getb: ∀i,i<bs.length->bs[i]?=some (bs.getD i undef):=fun i hi=>by simp[hi]
 have getm: ∀i,i<bs.length->ms[i]?=some (ms.getD i 0):=fun i hi=>by rw[←hl] at hi;simp[hi]
 have hent: ∀i g l c,i<bs.length->bs.getD i undef= .slice (some ⟨g,0,none⟩) l c->0<l->own g=(2,((ms.getD i 0:Nat):Int)):=by
  intro i g l c hi hb hl0
  obtain ⟨⟨a,n,c',q1,_,q3⟩,_⟩:=h.lb i _ _ (getb i hi) (getm i hi)
  rw[hb] at q1
  simp only[Value.slice.injEq] at q1
  obtain ⟨q4,rfl,_⟩:=q1
  rcases q3 with q3|⟨g',cur,q5,_,q6,_⟩
  .omega
  .rw[←q4] at q5
   simp only[Option.some.injEq,Addr.mk.injEq,and_true] at q5
   rw[q5]
   exact q6
 have hcov: ∀g k,Cov (fun i=>bs.getD i undef) bs.length g k-> ∃m:Nat,own g=(2,(m:Int)):=by
  rintro g k ⟨i,l,c,hi,hb,hk⟩
  exact⟨_,hent i g l c hi hb (by omega)⟩
 refine⟨ab,ao,ae,am,ai,al,aq,ak,cb,co,ce,cm,ci,cl,cq,ck,hcell 1 _ (by rw[←e1];rfl),hcell 2 _ (by rw[←e2];rfl),hcell 3 _ (by rw[←e3];rfl),hcell 4 _ (by rw[←e4];rfl),hcell 5 _ (by rw[←e5];rfl),hcell 6 _ (by rw[←e6];rfl),hcell 7 _ (by rw[←e7];rfl),hcell 8 _ (by rw[←e8];rfl),⟨by omega,by omega,by omega,by omega,by omega⟩,?_,s1,?_,s3,?_,s5,?_,s7,s8,?_,?_,?_,?_,?_,?_,?_,?_,?_⟩
 .intro i hi
  have:=(h.lb i _ _ (getb i hi) (getm i hi)).2
  omega
 .intro i hi
  obtain ⟨g,q1,q2⟩:=s2 i hi
  refine⟨g,q1,?_⟩
  rw[q2]
  simp only[List.getD_eq_getElem?_getD,List.getElem?_map]
  rw[getm i hi]
  simp
 .intro i hi
  obtain ⟨g,q1,q2⟩:=s4 i hi
  refine⟨g,q1,?_⟩
  rw[q2]
  rw[←hlq] at hi
  simp[hi]
 .intro i hi
  obtain ⟨g,q1,q2⟩:=s6 i hi
  refine⟨g,q1,?_⟩
  rw[q2]
  rw[←hle] at hi
  simp[hi]
 .intro i hi
  obtain ⟨⟨a,n,c,q1,q2,q3⟩,_⟩:=h.lb i _ _ (getb i hi) (getm i hi)
  refine⟨a,n,c,q1,by omega,fun k hk=>?_⟩
  rcases q3 with q3|⟨g,cur,q4,_,_,q6,_,q8⟩
  .omega
  .exact⟨g,q4,by rw[cell_of_row w g k cur _ (0,0) q6];exact q8 k (by omega),by simp[World.frozen?,q6]⟩
 .intro i hi
  have gm:qm[i]?=some (qm.getD i 0):=by rw[←hlq] at hi;simp[hi]
  obtain ⟨a,n,c,q1,q2,q3⟩:=h.lq i _ _ (show qs[i]?=some (qs.getD i undef) by simp[hi]) gm
  refine⟨a,n,c,q1,by omega,fun k hk=>?_⟩
  rcases q3 with q3|⟨g,cur,q4,_,_,q6,_,q8⟩
  .omega
  .refine⟨g,q4,fun j hj=>?_⟩
   rw[cell_of_row w g _ cur _ (0,0) q6,q8 (k * 6+j) (by omega)]
   simp only
   rw[show (k * 6+j)%6=j by omega]
 .intro i hi
  have gm:em[i]?=some (em.getD i 0):=by rw[←hle] at hi;simp[hi]
  obtain ⟨a,n,c,q1,q2,q3⟩:=h.le i _ _ (show es[i]?=some (es.getD i undef) by simp[hi]) gm
  refine⟨a,n,c,q1,by omega,fun k hk=>?_⟩
  rcases q3 with q3|⟨g,cur,q4,_,_,q6,_,q8⟩
  .omega
  .refine⟨g,q4,fun j hj=>?_⟩
   rw[cell_of_row w g _ cur _ (0,0) q6,q8 (k * 10+j) (by omega)]
   simp only
   rw[show (k * 10+j)%10=j by omega]
 .intro i hi
  obtain ⟨a,n,c,q1,q2,q3⟩:=h.li i _ (show is_[i]?=some (is_.getD i undef) by simp[hi])
  refine⟨a,n,c,q1,by omega,fun k hk=>?_⟩
  rcases q3 with q3|⟨g,cur,q4,_,_,q6,_,q8⟩
  .omega
  .exact⟨g,q4,by rw[cell_of_row w g k cur _ (0,0) q6];exact q8 k (by omega),by simp[World.frozen?,q6]⟩
 .intro i hi
  obtain ⟨a,n,c,q1,q2,q3⟩:=h.ll i _ (show ls[i]?=some (ls.getD i undef) by simp[hi])
  refine⟨a,n,c,q1,by omega,fun k hk=>?_⟩
  rcases q3 with q3|⟨g,cur,q4,_,_,q6,_,q8⟩
  .omega
  .refine⟨g,q4,fun j hj=>?_⟩
   rw[cell_of_row w g _ cur _ (0,0) q6,q8 (k * 10+j) (by omega)]
   simp only
   rw[show (k * 10+j)%10=j by omega]
 .intro k hc
  obtain ⟨m,hm⟩:=hcov B k hc
  rw[h.oB] at hm
  simp at hm
 .intro g k hg hc
  obtain ⟨m,hm⟩:=hcov g k hc
  rw[h.t1 g (g1 g 0 hg)] at hm
  simp at hm
 .intro g k hg hc
  obtain ⟨m,hm⟩:=hcov g k hc
  rw[h.t2 g (g2 g 0 hg)] at hm
  simp at hm
 .intro i j g l c l' c' hi hj hbi hbj hl0 hl0'
  have q1:=hent i g l c hi hbi hl0
  have q2:=hent j g l' c' hj hbj hl0'
  rw[q1] at q2
  simp only[Prod.mk.injEq,true_and] at q2
  exact Int.ofNat.inj q2
end
