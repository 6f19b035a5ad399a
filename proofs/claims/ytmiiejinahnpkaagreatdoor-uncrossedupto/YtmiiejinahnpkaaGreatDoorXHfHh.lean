import Derived.Test.YtmiiejinahnpkaaGreatDoorXGdHe
import Derived.Laws.EntriesVeiled
import Derived.Laws.CopyOwn
set_option maxRecDepth 100000
set_option maxHeartbeats 4000000
namespace Go.Proofs.YtmiiejinahnpkaaGreatDoor
section
open Go.RowKit Go.Shelf
def zjk (x:Nat×Nat×Int):Value:= .agg #[.int .i64 x.1,.int .i64 x.2.1,.int .i64 x.2.2]
def vfv (B5 B6:Nat):Value:= .func (.func 193) #[] #[.pointer (some ⟨B5,0,none⟩),.pointer (some ⟨B6,0,none⟩)]
def sfv (B5 B6:Nat):Value:= .func (.func 194) #[] #[.pointer (some ⟨B5,0,none⟩),.pointer (some ⟨B6,0,none⟩)]
variable {B:Nat} {t:TypeId} {x y z:Value} {W:World}
theorem set3 {a b c:Value}(h:W.heap[B]?=some (.cells #[x,y,z] t (0,0))):
  (((W.setCell ⟨B,0,none⟩ a).setCell ⟨B,1,none⟩ b).setCell ⟨B,2,none⟩ c).heap[B]?=some (.cells #[a,b,c] t (0,0)):=by
 have:=zbb (j:=2) (v:=c) (zbb (j:=1) (v:=b) (zbb (j:=0) (v:=a) h))
 simpa using this
theorem zk7 (h:W.heap[B]?=some (.cells #[x,y,z] t (0,0))):W.cell? ⟨B,0,none⟩=some x/\W.cell? ⟨B,1,none⟩=some y/\W.cell? ⟨B,2,none⟩=some z/\ ∀i,W.frozen? ⟨B,i,none⟩=false:=
 ⟨by rw[cell_of_row _ _ 0 _ _ (0,0) h];rfl,by rw[cell_of_row _ _ 1 _ _ (0,0) h];rfl,by rw[cell_of_row _ _ 2 _ _ (0,0) h];rfl,fun i=>by simp[World.frozen?,h]⟩
theorem zle (b:Bk)(ph:Nat)(l:List Od)(ref:Nat)(w:World)(R:EW)(h:BKs w b ph l)(hok:zdm l)(h1:Qd l 1 (b.q 1))(h2:Qd l 2 (b.q 2))(hs1:zba l 1<=1000000000)(hs2:zba l 2<=1000000000)(hd: ∀s p,dep ph l s p<=1000000000)(href:ref<=4294967295)
  (hR: ∀w',Below w.heap.size w w'->R (.returned (zjk (zal ph ref l))) w'):
  Calls Tryz.prog 165 #[.pointer (some ⟨b.K,0,none⟩),.int .i64 (ref:Nat)] w R:=by
 have HR:=zl hR
 clear hR
 go_enter Tryz.func165,Tryz.ntmps165
 go_wp2_with fail
 have hb1:=zac w (.cells #[.int .i64 0,.int .i64 0,.int .i64 0] 205)
 have hz1:(w.alloc (.cells #[.int .i64 0,.int .i64 0,.int .i64 0] 205)).heap.size=w.heap.size+1:=by simp
 have hres1:(w.alloc (.cells #[.int .i64 0,.int .i64 0,.int .i64 0] 205)).heap[w.heap.size]?=some (.cells #[.int .i64 0,.int .i64 0,.int .i64 0] 205 (0,0)):=World.alloc_heap_new w _
 generalize w.alloc (.cells #[.int .i64 0,.int .i64 0,.int .i64 0] 205)=W1 at *
 refine zj2 b.K _ _ ?_
 intro W2 hI2 hb2
 generalize hn1:W1.heap.size=n1 at *
 go_wp2_with fail
 refine zkf _ _ _ _ ?_
 intro W3 c3 hb3
 generalize hn3:W2.heap.size=n3 at *
 unfold dfv
 go_wp2_with fail
 refine zh0 b.K _ _ ?_
 intro W4 hI4 hb4
 generalize hn4:W3.heap.size=n4 at *
 go_wp2_with fail
 refine zkf _ _ _ _ ?_
 intro W5 c5 hb5
 generalize hn5:W4.heap.size=n5 at *
 unfold dfv
 go_wp2_with fail
 generalize hn6:W5.heap.size=n6 at *
 obtain ⟨W6,hW6⟩: ∃W6,(((W5.alloc (.cells #[dfv n3] 100)).alloc (.cells #[dfv n5] 100)).alloc (.cells #[vfv n6 (n6+1)] 100)).alloc (.cells #[sfv n6 (n6+1)] 100)=W6:=⟨_,rfl⟩
 change Calls _ _ _ ((((W5.alloc (.cells #[dfv n3] 100)).alloc (.cells #[dfv n5] 100)).alloc (.cells #[vfv n6 (n6+1)] 100)).alloc (.cells #[sfv n6 (n6+1)] 100)) _
 have hb6:Below W5.heap.size W5 W6:=by rw[←hW6];exact(((br.alloc nr _).alloc (by simp) _).alloc (by simp;omega) _).alloc (by simp;omega) _
 have v5:Vb W6 n6 (dfv n3):=by rw[←hW6,←hn6];exact(((Vb.new W5 _ _).alloc _).alloc _).alloc _
 have v6:Vb W6 (n6+1) (dfv n5):=by
  rw[←hW6,←hn6]
  have:=((Vb.new (W5.alloc (.cells #[dfv n3] 100)) (dfv n5) 100).alloc (.cells #[vfv W5.heap.size (W5.heap.size+1)] 100)).alloc (.cells #[sfv W5.heap.size (W5.heap.size+1)] 100)
  simpa using this
 have v7:Vb W6 (n6+1+1) (vfv n6 (n6+1)):=by
  rw[←hW6,←hn6]
  have:=(Vb.new ((W5.alloc (.cells #[dfv n3] 100)).alloc (.cells #[dfv n5] 100)) (vfv W5.heap.size (W5.heap.size+1)) 100).alloc (.cells #[sfv W5.heap.size (W5.heap.size+1)] 100)
  simpa using this
 have v8:Vb W6 (n6+1+1+1) (sfv n6 (n6+1)):=by
  rw[←hW6,←hn6]
  have:=Vb.new (((W5.alloc (.cells #[dfv n3] 100)).alloc (.cells #[dfv n5] 100)).alloc (.cells #[vfv W5.heap.size (W5.heap.size+1)] 100)) (sfv W5.heap.size (W5.heap.size+1)) 100
  simpa using this
 rw[hW6]
 have hB2:Below W1.heap.size W1 W2:=by rw[hn1];exact hb2
 have hB3:Below W2.heap.size W2 W3:=by rw[hn3];exact hb3
 have hB4:Below W3.heap.size W3 W4:=by rw[hn4];exact hb4
 have hB5:Below W4.heap.size W4 W5:=by rw[hn5];exact hb5
 have hw4:Below w.heap.size w W4:=zad (zad (zad hb1 hB2) hB3) hB4
 have hw6:Below w.heap.size w W6:=zad (zad hw4 hB5) hb6
 have hres6:W6.heap[w.heap.size]?=some (.cells #[.int .i64 0,.int .i64 0,.int .i64 0] 205 (0,0)):=zau hb6 (zau hB5 (zau hB4 (zau hB3 (zau hB2 hres1))))
 subst hz1
 have M1:Meas W6 211 #[.pointer (some ⟨n3,0,none⟩)] (fun p=>p<=4294967295) (fun p=>(dep ph l 1 p:Nat)):=
  deps_meas b ph l 1 (.inl rfl) n3 _ _ W6 (h.ext hw6) ((((hI2.ext hB3).ext hB4).ext hB5).ext hb6) (zaa hb6 (zaa hB5 (zaa hB4 c3))) hok h1 hs1
 have M2:Meas W6 211 #[.pointer (some ⟨n5,0,none⟩)] (fun p=>p<=4294967295) (fun p=>(dep ph l 2 p:Nat)):=
  deps_meas b ph l 2 (.inr rfl) n5 _ _ W6 (h.ext hw6) ((hI4.ext hB5).ext hb6) (zaa hb6 c5) hok h2 hs2
 have MV:=volume_meas n6 (n6+1) n3 n5 _ _ _ W6 v5.cell v6.cell M1 M2
 have MS:=surplus_meas n6 (n6+1) n3 n5 _ _ _ W6 v5.cell v6.cell (hd 1) (hd 2) M1 M2
 have MN:=negvol_meas (n6+1+1) n6 (n6+1) _ _ W6 v7.cell (fun p=>by have:=hd 1 p;omega) MV
 have MO:=odd_meas (n6+1+1+1) n6 (n6+1) _ _ W6 v8.cell (fun p=>by have:=hd 1 p;have:=hd 2 p;unfold sur;omega) MS
 have HB:=zl (h.ext hw6)
 have HV:=zl MV
 have HS:=zl MS
 have HN:=zl MN
 have HO:=zl MO
 have H7:=zl v7
 have H8:=zl v8
 have HW6:=zl hw6
 have HRes:=zl hres6
 clear M1 M2 MV MS MN MO v5 v6 v7 v8 hw4 hw6 hB2 hB3 hB4 hB5 hb1 hb2 hb3 hb4 hb5 hb6 hI2 hI4 c3 c5 hres1 hres6 hW6 h hn3 hn4 hn5 hn6 hn1
 refine zld b ph l ref _ _ HB.o ?_
 intro vC W7 hb7 hC7
 obtain ⟨C,hC⟩: ∃C,ref::(qpr ph l (b.q 1)++qpr ph l (b.q 2))=C:=⟨_,rfl⟩
 have HC:Hid (∀p,p∈C↔p∈cnd ph ref l):=fun p=>by rw[←hC];exact cand_mem ph ref h1 h2 hok p
 have hClen:C.length<=4194304:=by
  rw[←hC]
  have q1:=zkg ph l (b.q 1)
  have q2:=zkg ph l (b.q 2)
  have q3:=HB.o.cnt 1 (.inl rfl)
  have q4:=HB.o.cnt 2 (.inr rfl)
  simp only[List.length_cons,List.length_append]
  omega
 have hCbd: ∀p∈C,p<=4294967295:=by
  intro p hp
  have:=(HC.o p).1 hp
  unfold cnd at this
  simp only[List.mem_cons,List.mem_map,List.mem_filter] at this
  rcases this with rfl|⟨o,⟨ho,_⟩,rfl⟩
  .exact href
  .obtain ⟨i,hi,e⟩:=List.getElem_of_mem ho
   have:=(hok i hi).price
   unfold nth at this
   simp only[List.getD_eq_getElem?_getD,hi,List.getElem?_eq_getElem,Option.getD_some,e] at this
   omega
 rw[hC] at hC7
 have HCb:=zl hCbd
 clear hC hCbd HB h1 h2
 obtain ⟨aC,capC,rfl⟩:=zae hC7
 have HC7:=zl hC7
 have H67:=zl hb7
 clear hC7 hb7
 go_wp2_with fail
 refine zkr 197 #[.pointer (some ⟨n6+1+1,0,none⟩)] (enters_of Tryz.func197 (by kernel_rfl) rfl) _ _ _ C _ _ _ (HN.o.ext H67.o) HCb.o (fun p _=>by have:=hd 1 p;omega) hClen HC7.o ?_
 intro v8 W8 hb8 h8
 obtain ⟨L1,hL1⟩: ∃L1,za5 (fun p=> -((min (dep ph l 1 p) (dep ph l 2 p):Nat):Int)) C=L1:=⟨_,rfl⟩
 have HL1:Hid (wide1 (dep ph l 1) (dep ph l 2) C=L1):=hL1
 have hne1:0<L1.length:=by
  have:=wide1_ne ph ref l C HC.o
  rw[HL1.o] at this
  cases L1 with
  |nil=>exact absurd rfl this
  |cons a t=>simp
 have hL1len:L1.length<=4194304:=by
  have:L1.length<=C.length:=by rw[←hL1];exact List.length_filter_le _ _
  omega
 have HL1b:Hid (∀p∈L1,p<=4294967295):=fun p hp=>by rw[←hL1] at hp;exact HCb.o p (List.mem_filter.1 hp).1
 rw[hL1] at h8
 clear hL1
 obtain ⟨a8,cap8,rfl,hc8⟩:=zih h8
 obtain ⟨g8,rfl,e8⟩:=hc8 0 hne1
 have HL1r:=zl h8
 have H68:Hid (Below W6.heap.size W6 W8):=zad H67.o hb8
 have hx0:qat L1 0∈L1:=zbk L1 0 hne1
 obtain ⟨x,hx⟩: ∃x,qat L1 0=x:=⟨_,rfl⟩
 rw[hx] at e8 hx0
 have hxb:=HL1b.o x hx0
 have HX0:=zl hx0
 have y7:=(H7.o.ext H68.o)
 have hlt8:(0:Int)<(L1.length:Int):=by omega
 have z7:W8.drew.cell? ⟨n6+1+1,0,none⟩=some (vfv n6 (n6+1)):=y7.cell
 have f8:W8.drew.cell? ⟨g8,0,none⟩=some (.int .i64 (x:Nat)):=e8
 have H68d:Hid (Below W6.heap.size W6 W8.drew):=zad H68.o br.drew
 clear hc8 hb8 h8 hx hx0 HC7 H67 e8 y7
 go_wp2_with fail
 refine wp_region_still_tail 4 zco (by kernel_rfl) ?_
 simp only[List.take_succ_cons,List.take_zero,List.drop_succ_cons,List.drop_zero]
 change wpStill _ _ W8.drew (fun a'=>wpList _ _ _ _ a' W8.drew) _ _
 have HL1d:Hid (W8.drew.ownsRow W7.heap.size 3 1 (.slice (some ⟨g8,0,none⟩) L1.length cap8) L1.length (L1.map nv)):=zbe HL1r.o br.drew
 clear HL1r H68
 generalize W8.drew=W9 at *
 unfold vfv at z7
 repeat still_step
 refine wpStill_nil ?_
 go_wp2_with fail
 refine HV.o _ H68d.o x hxb _ ?_
 intro Wa hba
 have H6a:Hid (Below W6.heap.size W6 Wa):=zad H68d.o hba
 have HL1a:Hid (Wa.ownsRow W7.heap.size 3 1 (.slice (some ⟨g8,0,none⟩) L1.length cap8) L1.length (L1.map nv)):=zbe HL1d.o hba
 have z8:=(H8.o.ext H6a.o).cell
 have z7a:=(H7.o.ext H6a.o).cell
 have hresA:=HRes.o
 have hresa:Wa.heap[w.heap.size]?=some (.cells #[.int .i64 0,.int .i64 0,.int .i64 0] 205 (0,0)):=zau H6a.o hresA
 have HBa:Hid (Below w.heap.size w Wa):=zad HW6.o H6a.o
 clear hba HL1d H68d z7 f8 hresA
 dsimp only
 by_cases hz:min (dep ph l 1 x) (dep ph l 2 x)=0
 .have HE:Hid (zal ph ref l=(0,0,0)):=call_none ph ref l C HC.o x (by rw[HL1.o];exact HX0.o) hz
  rw[hz]
  obtain ⟨r0,r1,r2,rf⟩:=zk7 hresa
  have q0:=rf 0
  have q1:=rf 1
  have q2:=rf 2
  have hW3:=set3 (a:= .int .i64 0) (b:= .int .i64 0) (c:= .int .i64 0) hresa
  have HW3:Hid (Below w.heap.size w (((Wa.setCell ⟨w.heap.size,0,none⟩ (.int .i64 0)).setCell ⟨w.heap.size,1,none⟩ (.int .i64 0)).setCell ⟨w.heap.size,2,none⟩ (.int .i64 0))):=
   ((HBa.o.setCell (p:=⟨w.heap.size,0,none⟩) nr _).setCell (p:=⟨w.heap.size,1,none⟩) nr _).setCell (p:=⟨w.heap.size,2,none⟩) nr _
  clear z8 z7a rf
  go_wp2_with fail
  obtain ⟨s0,s1,s2,_⟩:=zk7 hW3
  clear r0 r1 r2 q0 q1 q2 hresa hW3
  generalize ((Wa.setCell ⟨w.heap.size,0,none⟩ (.int .i64 0)).setCell ⟨w.heap.size,1,none⟩ (.int .i64 0)).setCell ⟨w.heap.size,2,none⟩ (.int .i64 0)=Wz at *
  refine bodyPost_ret (v:=zjk (0,0,0)) (by simp[results,Tryz.results165,go_sem,zjk,s0,s1,s2]) rfl ?_
  rw[←HE.o]
  exact HR.o _ HW3.o
 .have hz':(((min (dep ph l 1 x) (dep ph l 2 x):Nat):Int)==0)=false:=by simp;omega
  have HZ:=zl hz
  clear hz
  obtain ⟨mz,hmz⟩: ∃mz,min (dep ph l 1 x) (dep ph l 2 x)=mz:=⟨_,rfl⟩
  rw[hmz] at hz' ⊢
  clear hmz
  unfold sfv at z8
  go_wp2_with fail
  refine zkr 198 #[.pointer (some ⟨n6+1+1+1,0,none⟩)] (enters_of Tryz.func198 (by kernel_rfl) rfl) _ _ _ L1 _ _ _ (HO.o.ext H6a.o) HL1b.o (fun p _=>by have:=hd 1 p;have:=hd 2 p;unfold sur;omega) hL1len HL1a.o ?_
  intro vb Wb hbb h9
  obtain ⟨L2,hL2⟩: ∃L2,za5 (fun p=>max (sur (dep ph l 1) (dep ph l 2) p-0) (0-sur (dep ph l 1) (dep ph l 2) p)) L1=L2:=⟨_,rfl⟩
  have HL2:Hid (zj4 (dep ph l 1) (dep ph l 2) C=L2):=by
   show _=_
   unfold zj4
   rw[HL1.o]
   exact hL2
  have hne2:0<L2.length:=by
   have:=zgp (fun p=>max (sur (dep ph l 1) (dep ph l 2) p-0) (0-sur (dep ph l 1) (dep ph l 2) p)) L1 (fun p _=>by have:=hd 1 p;have:=hd 2 p;unfold sur;omega) (fun e=>by rw[e] at hne1;simp at hne1)
   rw[hL2] at this
   cases L2 with
   |nil=>exact absurd rfl this
   |cons a t=>simp
  have hL2len:L2.length<=4194304:=by
   have:L2.length<=L1.length:=by rw[←hL2];exact List.length_filter_le _ _
   omega
  have HL2b:Hid (∀p∈L2,p<=4294967295):=fun p hp=>by rw[←hL2] at hp;exact HL1b.o p (List.mem_filter.1 hp).1
  rw[hL2] at h9
  clear hL2
  obtain ⟨a9,cap9,rfl⟩:=zae h9
  have HL2r:=zl h9
  have H6b:Hid (Below W6.heap.size W6 Wb):=zad H6a.o hbb
  have z8b:=(H8.o.ext H6b.o).cell
  unfold sfv at z8b
  clear h9 hbb z8 z7a hresa HL1a H6a
  go_wp2_with fail
  refine choose_row 194 #[.pointer (some ⟨n6,0,none⟩),.pointer (some ⟨n6+1,0,none⟩)] (enters_of Tryz.func194 (by kernel_rfl) rfl) (dep ph l 1) (dep ph l 2) _ L2 _ ref _ _ (HS.o.ext H6b.o) (fun p=>by have:=hd 1 p;have:=hd 2 p;unfold sur;omega) hL2len hne2 HL2r.o HL2b.o href ?_
  intro lo hi Wc hlo hhi hbc
  obtain ⟨p,hp⟩: ∃p,zjb (dep ph l 1) (dep ph l 2) ref lo hi L2=p:=⟨_,rfl⟩
  have HE:Hid (zal ph ref l=(p,min (dep ph l 1 p) (dep ph l 2 p),sur (dep ph l 1) (dep ph l 2) p)):=
   call_some ph ref l C HC.o hd HCb.o x (by rw[HL1.o];exact HX0.o) HZ.o lo hi (by rw[HL2.o];exact hlo) (by rw[HL2.o];exact hhi) p (by rw[HL2.o];exact hp.symm)
  rw[hp]
  have H6c:Hid (Below W6.heap.size W6 Wc.drew):=zad (zad H6b.o hbc) br.drew
  have hT0:=And.intro (H7.o.ext H6c.o).cell (H8.o.ext H6c.o).cell
  have hpb:p<=4294967295:=by
   rw[←hp]
   unfold zjb
   split
   .exact HL2b.o _ hhi.1
   .split
    .exact HL2b.o _ hlo.1
    .have hsub: ∀q∈za5 (fun p:Nat=>max ((p:Int)-ref) ((ref:Int)-p)) L2,q<=4294967295:=fun q hq=>HL2b.o q (List.mem_filter.1 hq).1
     cases hh:za5 (fun p:Nat=>max ((p:Int)-ref) ((ref:Int)-p)) L2 with
     |nil=>simp
     |cons a t=>rw[hh] at hsub;exact hsub a (by simp)
  clear hbc hlo hhi hp z8b H6b HL2r
  go_wp2_with fail
  refine zbq 8 8 (fun W=>W.cell? ⟨n6+1+1,0,none⟩=some (vfv n6 (n6+1))/\W.cell? ⟨n6+1+1+1,0,none⟩=some (sfv n6 (n6+1))) (fun W=>W.cell? ⟨n6+1+1,0,none⟩=some (vfv n6 (n6+1))/\W.cell? ⟨n6+1+1+1,0,none⟩=some (sfv n6 (n6+1))) zco ?_
  generalize Wc.drew=Wd at *
  unfold vfv sfv at *
  refine U0 (v:=?v0) 0 rfl (by kernel_rfl) (fun _ _ _ h=>h) (Or.inl ⟨by rfl,?hy0⟩) ⟨fun _=>hT0,fun _=>hT0⟩ ?_
  case hy0=>(rintro w _;go_simp;with_reducible rfl)
  refine zc3 (v:=?v1) 1 rfl (by kernel_rfl) (by kernel_rfl) (by kernel_rfl) (by kernel_rfl) (by kernel_rfl) (by kernel_rfl) (fun _ _ _ h=>h) (Or.inl ⟨by rfl,?hy1⟩) ⟨fun _=>hT0,fun _=>hT0⟩ ?_
  case hy1=>(rintro w ⟨hx1,hx2⟩;go_simp;with_reducible rfl)
  refine U0 (v:=?v2) 2 rfl (by kernel_rfl) (fun _ _ _ h=>h) (Or.inl ⟨by rfl,?hy2⟩) ⟨fun _=>hT0,fun _=>hT0⟩ ?_
  case hy2=>(rintro w _;go_simp;with_reducible rfl)
  refine zc3 (v:=?v4) 4 rfl (by kernel_rfl) (by kernel_rfl) (by kernel_rfl) (by kernel_rfl) (by kernel_rfl) (by kernel_rfl) (fun _ _ _ h=>h) (Or.inl ⟨by rfl,?hy4⟩) ⟨fun _=>hT0,fun _=>hT0⟩ ?_
  case hy4=>(rintro w ⟨hx1,hx2⟩;go_simp;with_reducible rfl)
  refine U0 (v:=?v5) 5 rfl (by kernel_rfl) (fun _ _ _ h=>h) (Or.inl ⟨by rfl,?hy5⟩) ⟨fun _=>hT0,fun _=>hT0⟩ ?_
  case hy5=>(rintro w _;go_simp;with_reducible rfl)
  refine za1 3 (by kernel_rfl) rfl (fun K hK=>?_)
  go_simp
  refine HV.o _ H6c.o p hpb _ ?_
  intro We hbe
  have hT1:=And.intro (zaa hbe hT0.1) (zaa hbe hT0.2)
  refine hK.o _ _ ⟨fun _=>hT1,fun _=>hT1⟩ ?_
  have H6e:Hid (Below W6.heap.size W6 We):=zad H6c.o hbe
  clear hK K hT0 hbe
  dsimp only
  refine za1 6 (by kernel_rfl) rfl (fun K hK=>?_)
  go_simp
  refine HS.o _ H6e.o p hpb _ ?_
  intro Wf hbf
  have hT2:=And.intro (zaa hbf hT1.1) (zaa hbf hT1.2)
  refine hK.o _ _ ⟨fun _=>hT2,fun _=>hT2⟩ ?_
  have H6f:Hid (Below W6.heap.size W6 Wf):=zad H6e.o hbf
  have hresf:Wf.heap[w.heap.size]?=some (.cells #[.int .i64 0,.int .i64 0,.int .i64 0] 205 (0,0)):=zau H6f.o HRes.o
  have HBf:Hid (Below w.heap.size w Wf):=zad HW6.o H6f.o
  clear hK K hT1 hbf H6c H6e
  refine za1 7 (by kernel_rfl) rfl (fun K hK=>?_)
  go_simp
  refine hK.o _ _ ⟨fun _=>hT2,fun _=>hT2⟩ ?_
  clear hK K
  obtain ⟨r0,r1,r2,rf⟩:=zk7 hresf
  have q0:=rf 0
  have q1:=rf 1
  have q2:=rf 2
  obtain ⟨vm,hvm⟩: ∃vm,min (dep ph l 1 p) (dep ph l 2 p)=vm:=⟨_,rfl⟩
  obtain ⟨vs,hvs⟩: ∃vs,sur (dep ph l 1) (dep ph l 2) p=vs:=⟨_,rfl⟩
  rw[hvm,hvs]
  have HVm:=zl hvm
  have HVs:=zl hvs
  clear hvm hvs
  have hW3:=set3 (a:= .int .i64 (p:Nat)) (b:= .int .i64 (vm:Nat)) (c:= .int .i64 vs) hresf
  have HW3:Hid (Below w.heap.size w (((Wf.setCell ⟨w.heap.size,0,none⟩ (.int .i64 (p:Nat))).setCell ⟨w.heap.size,1,none⟩ (.int .i64 (vm:Nat))).setCell ⟨w.heap.size,2,none⟩ (.int .i64 vs))):=
   ((HBf.o.setCell (p:=⟨w.heap.size,0,none⟩) nr _).setCell (p:=⟨w.heap.size,1,none⟩) nr _).setCell (p:=⟨w.heap.size,2,none⟩) nr _
  clear rf hT2
  refine za1 8 (by kernel_rfl) rfl (fun K hK=>?_)
  go_simp
  refine hK.o _ _ ⟨(fun h=>absurd h (by decide)),(fun h=>absurd h (by decide))⟩ ?_
  clear hK K
  refine zch (by kernel_rfl) ?_
  obtain ⟨s0,s1,s2,_⟩:=zk7 hW3
  clear r0 r1 r2 q0 q1 q2 hresf hW3
  generalize ((Wf.setCell ⟨w.heap.size,0,none⟩ (.int .i64 (p:Nat))).setCell ⟨w.heap.size,1,none⟩ (.int .i64 (vm:Nat))).setCell ⟨w.heap.size,2,none⟩ (.int .i64 vs)=Wz at *
  go_wp2_with fail
  refine bodyPost_ret (v:=zjk (p,vm,vs)) (by simp[results,Tryz.results165,go_sem,zjk,s0,s1,s2]) rfl ?_
  have:=HR.o _ HW3.o
  rw[HE.o,HVm.o,HVs.o] at this
  exact this
end
section
open Go.RowKit Go.Shelf
structure Td where
 buyer:Nat
 seller:Nat
 qty:Nat
 price:Nat
def tdv (t:Td):Value:= .agg #[.int .i64 t.buyer,.int .i64 t.seller,.int .i64 t.qty,.int .i64 t.price]
def tdc (t:Td):List Value:=[.int .i64 t.buyer,.int .i64 t.seller,.int .i64 t.qty,.int .i64 t.price]
def tdcs (l:List Td):List Value:=l.flatMap tdc
def tdev (t:Td):Nat->Int:=mkev 3 0 0 0 t.buyer t.seller t.qty t.price 0 0
def tdOf (o1 o2:Od) (x p:Nat):Td:=if o1.side=2 then ⟨o2.id,o1.id,x,p⟩ else ⟨o1.id,o2.id,x,p⟩
variable {f:Bool} {B E t:Nat} {o:Od} {W w:World}
theorem OB.setRest (h:OB w E o f t)(r:Nat):OB (w.setCell ⟨E,4,none⟩ (.int .i64 (r:Nat))) E {o with rest:=r} f t:=by
 have:=zbb (j:=4) (v:= .int .i64 (r:Nat)) h
 unfold OB
 rw[this]
 simp[obc]
variable {u x y z:Value}
theorem OB.other {D j:Nat}(h:OB w E o f t)(hD:D≠E):OB (w.setCell ⟨D,j,none⟩ x) E o f t:=by
 unfold OB
 rw[bhs w ⟨D,j,none⟩ x E (fun e=>hD e.symm)]
 exact h
theorem OB.ext {w':World}(h:OB w E o f t)(hb:Below w.heap.size w w'):OB w' E o f t:=zau hb h
theorem OB.free (h:OB w E o f t)(i:Nat):w.frozen? ⟨E,i,none⟩=false:=by
 unfold OB at h
 simp[World.frozen?,h]
theorem OB.lt (h:OB w E o f t):E<w.heap.size:=(gsi.1 h).1
theorem set4 {t:TypeId}{a b c d:Value}(h:W.heap[B]?=some (.cells #[x,y,z,u] t (0,0))):
  ((((W.setCell ⟨B,0,none⟩ a).setCell ⟨B,1,none⟩ b).setCell ⟨B,2,none⟩ c).setCell ⟨B,3,none⟩ d).heap[B]?=some (.cells #[a,b,c,d] t (0,0)):=by
 have:=zbb (j:=3) (v:=d) (zbb (j:=2) (v:=c) (zbb (j:=1) (v:=b) (zbb (j:=0) (v:=a) h)))
 simpa using this
theorem zjc {t:TypeId}(h:W.heap[B]?=some (.cells #[x,y,z,u] t (0,0))):W.cell? ⟨B,0,none⟩=some x/\W.cell? ⟨B,1,none⟩=some y/\W.cell? ⟨B,2,none⟩=some z/\W.cell? ⟨B,3,none⟩=some u/\ ∀i,W.frozen? ⟨B,i,none⟩=false:=
 ⟨by rw[cell_of_row _ _ 0 _ _ (0,0) h];rfl,by rw[cell_of_row _ _ 1 _ _ (0,0) h];rfl,by rw[cell_of_row _ _ 2 _ _ (0,0) h];rfl,by rw[cell_of_row _ _ 3 _ _ (0,0) h];rfl,fun i=>by simp[World.frozen?,h]⟩
theorem btrade_any (E1 E2:Nat)(o1 o2:Od)(f1 f2:Bool)(t1 t2 x p:Nat)(w:World)(R:EW)(h1:OB w E1 o1 f1 t1)(h2:OB w E2 o2 f2 t2)(hne:E1≠E2)(hx1:x<=o1.rest)(hx2:x<=o2.rest)(hb1:o1.rest<=4294967295)(hb2:o2.rest<=4294967295)
  (hR: ∀w',OB w' E1 {o1 with rest:=o1.rest-x} f1 t1->OB w' E2 {o2 with rest:=o2.rest-x} f2 t2->Tch (fun g=>g=E1\/g=E2) w w'->R (.returned (tdv (tdOf o1 o2 x p))) w'):
  Calls Tryz.prog 201 #[.pointer (some ⟨E1,0,none⟩),.pointer (some ⟨E2,0,none⟩),.int .i64 (x:Nat),.int .i64 (p:Nat)] w R:=by
 have HR:=zl hR
 obtain ⟨r1,hr1⟩: ∃r1:Nat,o1.rest-x=r1:=⟨_,rfl⟩
 obtain ⟨r2,hr2⟩: ∃r2:Nat,o2.rest-x=r2:=⟨_,rfl⟩
 have e1:(o1.rest:Int)-(x:Int)=(r1:Int):=by omega
 have e2:(o2.rest:Int)-(x:Int)=(r2:Int):=by omega
 rw[hr1,hr2] at HR
 have hl1:=h1.lt
 have hl2:=h2.lt
 have c14:=h1.c.c4
 have q14:=h1.free 4
 have k1:=h1.setRest r1
 have k2:=h2.other (j:=4) (x:= .int .i64 (r1:Nat)) hne
 have c24:=k2.c.c4
 have q24:=k2.free 4
 have m1:=k1.other (j:=4) (x:= .int .i64 (r2:Nat)) (fun e=>hne e.symm)
 have m2:=k2.setRest r2
 have c11:=m1.c.c1
 have c10:=m1.c.c0
 have c20:=m2.c.c0
 have hsz:((w.setCell ⟨E1,4,none⟩ (.int .i64 (r1:Nat))).setCell ⟨E2,4,none⟩ (.int .i64 (r2:Nat))).heap.size=w.heap.size:=by simp[World.setCell]
 have HM1:=zl m1
 have HM2:=zl m2
 have HT:Hid (Tch (fun g=>g=E1\/g=E2) w ((w.setCell ⟨E1,4,none⟩ (.int .i64 (r1:Nat))).setCell ⟨E2,4,none⟩ (.int .i64 (r2:Nat)))):=
  ⟨rfl,rfl,rfl,by rw[hsz];exact nr,fun g _ hn=>by rw[bhs _ _ _ _ (fun e=>hn (.inr e)),bhs _ _ _ _ (fun e=>hn (.inl e))]⟩
 clear hR h1 h2 hr1 hr2 k1 k2 m1 m2
 dsimp only at c11 c10 c20
 go_enter Tryz.func201,Tryz.ntmps201
 by_cases hs:o1.side=2
 .have hs':(o1.side:Int)=2:=by omega
  go_wp2_with fail
  generalize hW2:(w.setCell ⟨E1,4,none⟩ (.int .i64 (r1:Nat))).setCell ⟨E2,4,none⟩ (.int .i64 (r2:Nat))=W2 at *
  have hb2:Below W2.heap.size W2 (W2.alloc (.cells #[.int .i64 0,.int .i64 0,.int .i64 0,.int .i64 0] 233)).drew:=(br.alloc nr _).drew
  have hres:(W2.alloc (.cells #[.int .i64 0,.int .i64 0,.int .i64 0,.int .i64 0] 233)).drew.heap[w.heap.size]?=some (.cells #[.int .i64 0,.int .i64 0,.int .i64 0,.int .i64 0] 233 (0,0)):=by rw[←hsz];exact World.alloc_heap_new W2 _
  have d10:=zaa hb2 c10
  have d20:=zaa hb2 c20
  clear c14 q14 c24 q24 c11 c10 c20
  refine wp_region_still_tail 13 zco (by kernel_rfl) ?_
  simp only[List.take_succ_cons,List.take_zero,List.drop_succ_cons,List.drop_zero]
  change wpStill _ _ (W2.alloc (.cells #[.int .i64 0,.int .i64 0,.int .i64 0,.int .i64 0] 233)).drew (fun a'=>wpList _ _ _ _ a' (W2.alloc (.cells #[.int .i64 0,.int .i64 0,.int .i64 0,.int .i64 0] 233)).drew) _ _
  generalize (W2.alloc (.cells #[.int .i64 0,.int .i64 0,.int .i64 0,.int .i64 0] 233)).drew=W3 at *
  repeat still_step
  refine wpStill_nil ?_
  obtain ⟨s0,s1,s2,s3,sf⟩:=zjc hres
  have g0:=sf 0
  have g1:=sf 1
  have g2:=sf 2
  have g3:=sf 3
  have hW4:=set4 (a:= .int .i64 (o2.id:Nat)) (b:= .int .i64 (o1.id:Nat)) (c:= .int .i64 (x:Nat)) (d:= .int .i64 (p:Nat)) hres
  have HB4:Hid (Below W2.heap.size W2 ((((W3.setCell ⟨w.heap.size,0,none⟩ (.int .i64 (o2.id:Nat))).setCell ⟨w.heap.size,1,none⟩ (.int .i64 (o1.id:Nat))).setCell ⟨w.heap.size,2,none⟩ (.int .i64 (x:Nat))).setCell ⟨w.heap.size,3,none⟩ (.int .i64 (p:Nat)))):=
   (((hb2.setCell (p:=⟨w.heap.size,0,none⟩) (Nat.le_of_eq hsz) _).setCell (p:=⟨w.heap.size,1,none⟩) (Nat.le_of_eq hsz) _).setCell (p:=⟨w.heap.size,2,none⟩) (Nat.le_of_eq hsz) _).setCell (p:=⟨w.heap.size,3,none⟩) (Nat.le_of_eq hsz) _
  clear d10 d20 hres sf hb2
  go_wp2_with fail
  obtain ⟨u0,u1,u2,u3,_⟩:=zjc hW4
  clear s0 s1 s2 s3 g0 g1 g2 g3 hW4
  generalize (((W3.setCell ⟨w.heap.size,0,none⟩ (.int .i64 (o2.id:Nat))).setCell ⟨w.heap.size,1,none⟩ (.int .i64 (o1.id:Nat))).setCell ⟨w.heap.size,2,none⟩ (.int .i64 (x:Nat))).setCell ⟨w.heap.size,3,none⟩ (.int .i64 (p:Nat))=Wz at *
  refine bodyPost_ret (v:=tdv ⟨o2.id,o1.id,x,p⟩) (by simp[results,Tryz.results201,go_sem,tdv,u0,u1,u2,u3]) rfl ?_
  have hfin:=HR.o Wz (HM1.o.ext HB4.o) (HM2.o.ext HB4.o) (HT.o.trans (Tch.of HB4.o))
  unfold tdOf at hfin
  rw[if_pos hs] at hfin
  exact hfin
 .have hs':((o1.side:Int)==2)=false:=by simp;omega
  go_wp2_with fail
  generalize hW2:(w.setCell ⟨E1,4,none⟩ (.int .i64 (r1:Nat))).setCell ⟨E2,4,none⟩ (.int .i64 (r2:Nat))=W2 at *
  have hb2:Below W2.heap.size W2 (W2.alloc (.cells #[.int .i64 0,.int .i64 0,.int .i64 0,.int .i64 0] 233)).drew:=(br.alloc nr _).drew
  have hres:(W2.alloc (.cells #[.int .i64 0,.int .i64 0,.int .i64 0,.int .i64 0] 233)).drew.heap[w.heap.size]?=some (.cells #[.int .i64 0,.int .i64 0,.int .i64 0,.int .i64 0] 233 (0,0)):=by rw[←hsz];exact World.alloc_heap_new W2 _
  have d10:=zaa hb2 c10
  have d20:=zaa hb2 c20
  clear c14 q14 c24 q24 c11 c10 c20
  refine wp_region_still_tail 13 zco (by kernel_rfl) ?_
  simp only[List.take_succ_cons,List.take_zero,List.drop_succ_cons,List.drop_zero]
  change wpStill _ _ (W2.alloc (.cells #[.int .i64 0,.int .i64 0,.int .i64 0,.int .i64 0] 233)).drew (fun a'=>wpList _ _ _ _ a' (W2.alloc (.cells #[.int .i64 0,.int .i64 0,.int .i64 0,.int .i64 0] 233)).drew) _ _
  generalize (W2.alloc (.cells #[.int .i64 0,.int .i64 0,.int .i64 0,.int .i64 0] 233)).drew=W3 at *
  repeat still_step
  refine wpStill_nil ?_
  obtain ⟨s0,s1,s2,s3,sf⟩:=zjc hres
  have g0:=sf 0
  have g1:=sf 1
  have g2:=sf 2
  have g3:=sf 3
  have hW4:=set4 (a:= .int .i64 (o1.id:Nat)) (b:= .int .i64 (o2.id:Nat)) (c:= .int .i64 (x:Nat)) (d:= .int .i64 (p:Nat)) hres
  have HB4:Hid (Below W2.heap.size W2 ((((W3.setCell ⟨w.heap.size,0,none⟩ (.int .i64 (o1.id:Nat))).setCell ⟨w.heap.size,1,none⟩ (.int .i64 (o2.id:Nat))).setCell ⟨w.heap.size,2,none⟩ (.int .i64 (x:Nat))).setCell ⟨w.heap.size,3,none⟩ (.int .i64 (p:Nat)))):=
   (((hb2.setCell (p:=⟨w.heap.size,0,none⟩) (Nat.le_of_eq hsz) _).setCell (p:=⟨w.heap.size,1,none⟩) (Nat.le_of_eq hsz) _).setCell (p:=⟨w.heap.size,2,none⟩) (Nat.le_of_eq hsz) _).setCell (p:=⟨w.heap.size,3,none⟩) (Nat.le_of_eq hsz) _
  clear d10 d20 hres sf hb2
  go_wp2_with fail
  obtain ⟨u0,u1,u2,u3,_⟩:=zjc hW4
  clear s0 s1 s2 s3 g0 g1 g2 g3 hW4
  generalize (((W3.setCell ⟨w.heap.size,0,none⟩ (.int .i64 (o1.id:Nat))).setCell ⟨w.heap.size,1,none⟩ (.int .i64 (o2.id:Nat))).setCell ⟨w.heap.size,2,none⟩ (.int .i64 (x:Nat))).setCell ⟨w.heap.size,3,none⟩ (.int .i64 (p:Nat))=Wz at *
  refine bodyPost_ret (v:=tdv ⟨o1.id,o2.id,x,p⟩) (by simp[results,Tryz.results201,go_sem,tdv,u0,u1,u2,u3]) rfl ?_
  have hfin:=HR.o Wz (HM1.o.ext HB4.o) (HM2.o.ext HB4.o) (HT.o.trans (Tch.of HB4.o))
  unfold tdOf at hfin
  rw[if_neg hs] at hfin
  exact hfin
end
section
open Go.RowKit Go.Shelf
theorem zeroCells_one (z:Value)(m:Nat):(Builtin.zeroCells #[z] m).toList=List.replicate m z:=by
 unfold Builtin.zeroCells
 apply List.ext_getElem
 .simp
 .intro i h1 h2
  simp[Nat.mod_one]
variable {a b w:World}
theorem zje {P:Program}{ops:Array Oper}{rest:List Oper}{o:Oper}{a:Act}{Q:Exit->Act->World->Prop}(hgd:o.guard=none)(s:Operand)(t:TypeId)(ho:o.op= .call {callee:= .builtin .clear,args:= #[s],argTypes:= #[t]})
  (elem:TypeId)(hu:P.underlying t=some (.slice elem))(hz: ∀w,(zeroValue elem).run P w= .ok (.pointer none) w)(g off m c:Nat)(hs:a.eval s= .slice (some ⟨g,off,none⟩) m c)
  (cur:Array Value)(ty:TypeId)(hg:w.heap[g]?=some (.cells cur ty (0,0)))(hfit:off+m<=cur.size)
  (h:wpList P ops Q rest (a.put o.dst (.tuple #[])) (w.setRow g (cur.toList.take off++List.replicate m (Value.pointer none)++cur.toList.drop (off+m)).toArray)):wpList P ops Q (o::rest) a w:=by
 refine wpList_plain hgd fun K hK=>?_
 have hrun:(Builtin.clear_ #[t] o.type #[.slice (some ⟨g,off,none⟩) m c]).run P w= .ok (.tuple #[]) (w.setRow g (cur.toList.take off++List.replicate m (Value.pointer none)++cur.toList.drop (off+m)).toArray):=by
  cases m with
  |zero=>
   have e:(cur.toList.take off++List.replicate 0 (Value.pointer none)++cur.toList.drop (off+0)).toArray=cur:=by simp
   rw[e,setRow_self w g cur ty (0,0) hg]
   simp[Builtin.clear_,run_underlying hu]
  |succ m=>
   have hst:=run_storeCells_at (P:=P) g off ty (List.replicate (m+1) (Value.pointer none)) 0 cur w hg (by simpa using hfit) (fun v hv=>by rw[List.eq_of_mem_replicate hv];rfl)
   simp only[Nat.add_zero,List.length_replicate] at hst
   simp[Builtin.clear_,run_underlying hu,hz,Value.cells,zeroCells_one,hst]
 unfold Oper.wp execOp
 simp only[ho,resolve,invoke,builtin,Sem.run_bind,Sem.run_pure,Result.andThen_ok,List.map_toArray,List.map_cons,List.map_nil,hs,hrun]
 exact hK _ _ h
variable {r:Option Nat}
theorem gb_then {c:World}(h:a.grownBy b r)(k:b.grownBy c none):a.grownBy c r:=
 ⟨k.os.trans h.os,k.tape.trans h.tape,k.output.trans h.output,llt h.size k.size,fun i hi hne=>(k.block i (lll hi h.size) (by simp)).trans (h.block i hi hne)⟩
theorem gb_none (h:a.grownBy b none):a.grownBy b r:=⟨h.os,h.tape,h.output,h.size,fun i hi _=>h.block i hi (by simp)⟩
theorem zha (w:World)(r:Option Nat):w.grownBy w r:=⟨rfl,rfl,rfl,nr,fun _ _ _=>rfl⟩
theorem zdg (h:a.grownBy b none):Below a.heap.size a b:=⟨h.os,h.tape,h.output,h.size,fun i hi=>h.block i hi (by simp)⟩
def PredQ (w:World) (r:Option Nat) (gf:Nat) (lb:Array Value) (adr:Nat->Nat) (q:List Nat) (p:Nat->Bool):Prop:=
 ∀W,w.grownBy W r-> ∀i∈q,∀R:EW,(∀W',W.grownBy W' none->R (.returned (.bool (p i))) W')->Calls Tryz.prog gf (#[.pointer (some ⟨adr i,0,none⟩)]++lb) W R
variable {q:List Nat} {adr:Nat->Nat}
theorem zjr {v:Value}(h:w.ownsRow 0 106 1 v q.length (ptrs adr q)):(v= .slice none 0 0/\q=[])\/
  ∃g cap cur,v= .slice (some ⟨g,0,none⟩) q.length cap/\w.heap[g]?=some (.cells cur 106 (0,0))/\q.length<=cap/\cap<=maxLen/\cur.size=cap/\cur.toList.take q.length=ptrs adr q:=by
 rcases h.2 with ⟨h1,h2⟩|⟨g,cap,cur,h1,_,h3,h4,h5,h6,h7⟩
 .exact .inl ⟨h1,List.eq_nil_of_length_eq_zero h2⟩
 .exact .inr ⟨g,cap,cur,h1,h3,h4,h5,by simpa using h6,by simpa using h7⟩
variable {cur:Array Value}
theorem row_shut {g cap:Nat}(h3:w.heap[g]?=some (.cells cur 106 (0,0)))(h4:q.length<=cap)(h5:cap<=maxLen)(h6:cur.size=cap)(h7:cur.toList.take q.length=ptrs adr q):
  w.ownsRow 0 106 1 (.slice (some ⟨g,0,none⟩) q.length cap) q.length (ptrs adr q):=
 ⟨by simp[ptrs],.inr ⟨g,cap,cur,rfl,Nat.zero_le _,h3,h4,h5,by simpa using h6,by simpa using h7⟩⟩
theorem cur_at (h:cur.toList.take q.length=ptrs adr q)(k:Nat)(hk:k<q.length):cur[k]?=some (.pointer (some ⟨adr (qat q k),0,none⟩)):=by
 have hq:=zjt adr q k hk
 rw[←h,List.getElem?_take_of_lt hk] at hq
 simpa using hq
theorem zf0 (v:Value)(adr:Nat->Nat)(q:List Nat)(gf:Nat)(lb:Array Value)(eg: ∀args w,(callFunc gf args).run Tryz.prog w= .ok (.enter gf args) w)(p:Nat->Bool)(w:World)(R:EW)(h:w.ownsRow 0 106 1 v q.length (ptrs adr q))(hn:q.length<=1048576)(hp:PredQ w none gf lb adr q p)
  (hR1: ∀w',w.grownBy w' none->(∀j,j<q.length->p (qat q j)=false)->R (.returned (.int .i64 (-1))) w')
  (hR2: ∀k w',w.grownBy w' none->k<q.length->(∀j,j<k->p (qat q j)=false)->p (qat q k)=true->R (.returned (.int .i64 (k:Nat))) w'):
  Calls Tryz.prog 188 #[v,.func (.func gf) #[] lb] w R:=by
 have HR1:Hid (∀w',w.grownBy w' none->(∀j,j<q.length->p (qat q j)=false)->R (.returned (.int .i64 (-1))) w'):=hR1
 have HR2:=zl hR2
 have HP:=zl hp
 obtain ⟨a,cap,rfl,hc⟩: ∃a cap,v= .slice a q.length cap/\ ∀k,k<q.length-> ∃g,a=some ⟨g,0,none⟩/\w.cell? ⟨g,k,none⟩=some (.pointer (some ⟨adr (qat q k),0,none⟩)):=by
  rcases zjr h with ⟨rfl,rfl⟩|⟨g,cap,cur,rfl,h3,h4,h5,h6,h7⟩
  .exact⟨none,0,rfl,fun k hk=>by simp at hk⟩
  .exact⟨_,cap,rfl,fun k hk=>⟨g,rfl,by rw[cell_of_row w g k cur _ (0,0) h3];exact cur_at h7 k hk⟩⟩
 have HC:=zl hc
 clear hR1 hR2 hp h hc
 go_enter Tryz.func188,Tryz.ntmps188
 go_wp2_with fail
 go_loopw [5,8] (fun _ i wr=> ∃k:Nat,k<=q.length/\i= .int .i64 k/\w.grownBy wr none/\ ∀j,j<k->p (qat q j)=false) (fun _ i _=>q.length-(intOf i).toNat)
 case atStart=>exact⟨0,Nat.zero_le _,rfl,zha _ _,fun j hj=>absurd hj (by omega)⟩
 case round=>
  obtain ⟨k,hk,rfl,hg,hall⟩:=hrel
  by_cases hlt:k<q.length
  .obtain ⟨ga,rfl,hcell⟩:=HC.o k hlt
   have hcell':=zaa (zdg hg) hcell
   have HG:=zl hg
   have HA:=zl hall
   clear hcell hg hall
   go_wp2_with fail
   refine HP.o _ HG.o (qat q k) (zbk q k hlt) _ ?_
   intro W' hgW
   have HG':Hid (w.grownBy W' none):=gb_then HG.o hgW
   clear hgW hcell'
   cases hpk:p (qat q k) with
   |true=>
    have hfin:=zl (HR2.o k W' HG'.o hlt HA.o hpk)
    go_wp2_with fail
    exact hfin.o
   |false=>
    have HK:=zl hpk
    clear hpk
    go_wp2_with fail
    go_roundw
    case rel=>
     refine⟨k+1,by omega,by go_num,HG'.o,fun j hj=>?_⟩
     by_cases e:j=k
     .rw[e];exact HK.o
     .exact HA.o j (by omega)
    case measure=>simp[intOf];omega
  .obtain rfl:k=q.length:=by omega
   have hfin:=zl (HR1.o wr hg hall)
   clear hg hall
   go_wp2_with fail
   exact hfin.o
theorem zkx {p:Nat->Bool}(h: ∀j,j<q.length->p (qat q j)=false):q.filter (fun i=>!p i)=q:=by
 rw[List.filter_eq_self]
 intro i hi
 obtain ⟨k,hk,e⟩:=List.getElem_of_mem hi
 have:=h k hk
 unfold qat at this
 simp only[List.getD_eq_getElem?_getD,hk,List.getElem?_eq_getElem,Option.getD_some,e] at this
 simp[this]
theorem qat_take (q:List Nat)(n k:Nat)(h:k<n):qat (q.take n) k=qat q k:=by
 unfold qat
 simp only[List.getD_eq_getElem?_getD]
 rw[List.getElem?_take_of_lt h]
theorem zf3 (q:List Nat)(p:Nat->Bool)(k:Nat)(hk:k<q.length):(q.take (k+1)).filter (fun i=>!p i)=(q.take k).filter (fun i=>!p i)++if p (qat q k) then [] else [qat q k]:=by
 rw[zag q k (qat q k) (zfa q k hk),List.filter_append]
 congr 1
 cases h:p (qat q k)<;>simp[h]
theorem zfe (v:Value)(adr:Nat->Nat)(q:List Nat)(gf:Nat)(lb:Array Value)(eg: ∀args w,(callFunc gf args).run Tryz.prog w= .ok (.enter gf args) w)(p:Nat->Bool)(w:World)(R:EW)(h:w.ownsRow 0 106 1 v q.length (ptrs adr q))(hn:q.length<=1048576)(hp:PredQ w v.ownBlock gf lb adr q p)
  (hR: ∀v' w',w.grownBy w' v.ownBlock->v'.ownBlock=v.ownBlock->w'.ownsRow 0 106 1 v' (q.filter fun i=>!p i).length (ptrs adr (q.filter fun i=>!p i))->R (.returned v') w'):
  Calls Tryz.prog 208 #[v,.func (.func gf) #[] lb] w R:=by
 have HR:=zl hR
 have HP:=zl hp
 have HO:=zl h
 have HP0:Hid (PredQ w none gf lb adr q p):=fun W hW i hi R hR=>hp W (gb_none hW) i hi R hR
 obtain ⟨a,cap,hv⟩:=zae h
 subst hv
 clear hR hp h
 go_enter Tryz.func208,Tryz.ntmps208
 go_wp2_with fail
 refine zf0 _ adr q gf lb eg p _ _ HO.o hn HP0.o ?_ ?_
 .intro w' hg hall
  have hfin:Hid (R (.returned (.slice a q.length cap)) w'):=HR.o _ w' (gb_none hg) rfl (by rw[zkx hall];exact zbe HO.o (zdg hg))
  clear hg hall
  go_wp2_with fail
  exact hfin.o
 .intro k w1 hg1 hk hbef hpk
  rcases zjr HO.o with ⟨_,rfl⟩|⟨g,cap',cur,hv,h3,h4,h5,h6,h7⟩
  .simp at hk
  simp only[Value.slice.injEq] at hv
  obtain ⟨rfl,_,rfl⟩:=hv
  have HP1:Hid (PredQ w (some g) gf lb adr q p):=HP.o
  have HR1:Hid (∀v' w',w.grownBy w' (some g)->v'.ownBlock=some g->w'.ownsRow 0 106 1 v' (q.filter fun i=>!p i).length (ptrs adr (q.filter fun i=>!p i))->R (.returned v') w'):=HR.o
  have hkk:(q.take (k+1)).filter (fun i=>!p i)=q.take k:=by
   rw[zf3 q p k hk,hpk,if_pos rfl,List.append_nil]
   exact zkx fun j hj=>by rw[qat_take q k j (by simp at hj;omega)];exact hbef j (by simp at hj;omega)
  have hcur1:w1.heap[g]?=some (.cells cur 106 (0,0)):=zau (zdg hg1) h3
  have HG1:Hid (w.grownBy w1 (some g)):=gb_none hg1
  have H0:Hid (cur.toList.take ((q.take (k+1)).filter fun i=>!p i).length=ptrs adr ((q.take (k+1)).filter fun i=>!p i)):=by
   show _=_
   rw[hkk,List.length_take,Nat.min_eq_left (by omega)]
   have:ptrs adr (q.take k)=(ptrs adr q).take k:=by unfold ptrs;rw[List.map_take]
   rw[this,←h7,List.take_take,Nat.min_eq_left (Nat.le_of_lt hk)]
  have hkl:((q.take (k+1)).filter fun i=>!p i).length=k:=by rw[hkk,List.length_take,Nat.min_eq_left (by omega)]
  have H7:Hid (∀j,j<q.length->cur[j]?=some (.pointer (some ⟨adr (qat q j),0,none⟩))):=fun j hj=>cur_at h7 j hj
  have Hc1:=zl hcur1
  clear hg1 hbef hpk HO HP HP0 HR h3 h7 hcur1 hkk
  have hk1:((k:Int)== -1)=false:=by simp
  go_wp2_with fail
  go_loopw [5,6,7] (fun i j _ wr=> ∃(jn inn:Nat) (cu:Array Value),inn=((q.take jn).filter fun i=>!p i).length/\inn<jn/\jn<=q.length/\i= .int .i64 inn/\j= .int .i64 jn/\wr.heap[g]?=some (.cells cu 106 (0,0))/\cu.size=cap/\cu.toList.take inn=ptrs adr ((q.take jn).filter fun i=>!p i)/\(∀x,jn<=x->x<q.length->cu[x]?=some (.pointer (some ⟨adr (qat q x),0,none⟩)))/\w.grownBy wr (some g)) (fun _ j _ _=>q.length-(intOf j).toNat)
  case atStart=>exact⟨k+1,k,cur,hkl.symm,by omega,by omega,rfl,rfl,Hc1.o,h6,by have:=H0.o;rw[hkl] at this;exact this,fun x _ hx=>H7.o x hx,HG1.o⟩
  case round=>
   obtain ⟨jn,inn,cu,hin,hij,hjl,rfl,rfl,hcu,hcs,htk,hrest,hgr⟩:=hrel
   by_cases hlt:jn<q.length
   .have hcell:wr.cell? ⟨g,jn,none⟩=some (.pointer (some ⟨adr (qat q jn),0,none⟩)):=by rw[cell_of_row wr g jn cu _ (0,0) hcu];exact hrest jn nr hlt
    have hmem:=zbk q jn hlt
    have hfs:=zf3 q p jn hlt
    have HGr:=zl hgr
    have HRs:=zl hrest
    have HTk:=zl htk
    have HCu:=zl hcu
    have HIn:=zl hin
    have HFs:=zl hfs
    clear hgr hrest htk hcu hin hfs H0 H7 Hc1 HG1
    generalize hxj:qat q jn=xj at *
    go_wp2_with fail
    refine HP1.o _ HGr.o xj hmem _ ?_
    intro W' hgW
    have hcu':W'.heap[g]?=some (.cells cu 106 (0,0)):=zau (zdg hgW) HCu.o
    have HG':Hid (w.grownBy W' (some g)):=gb_then HGr.o hgW
    clear hgW hcell
    cases hpx:p xj with
    |true=>
     have HF2:Hid ((q.take (jn+1)).filter (fun i=>!p i)=(q.take jn).filter (fun i=>!p i)):=by
      show _=_
      rw[HFs.o,hpx,if_pos rfl,List.append_nil]
     have HCu':=zl hcu'
     clear hpx hcu'
     go_wp2_with fail
     go_roundw
     case rel=>exact⟨jn+1,inn,cu,by rw[HF2.o];exact HIn.o,by omega,by omega,rfl,by go_num,HCu'.o,hcs,by rw[HF2.o];exact HTk.o,fun x h1 h2=>HRs.o x (by omega) h2,HG'.o⟩
     case measure=>simp[intOf];omega
    |false=>
     have HF2:Hid ((q.take (jn+1)).filter (fun i=>!p i)=(q.take jn).filter (fun i=>!p i)++[xj]):=by
      show _=_
      rw[HFs.o,hpx]
      rfl
     have hci: ∃u,W'.cell? ⟨g,inn,none⟩=some u:=by
      rw[cell_of_row W' g inn cu _ (0,0) hcu']
      exact⟨_,Array.getElem?_eq_getElem (by omega)⟩
     obtain ⟨ui,hui⟩:=hci
     have hfi:W'.frozen? ⟨g,inn,none⟩=false:=by simp[World.frozen?,hcu']
     have hset:=zbb (j:=inn) (v:= .pointer (some ⟨adr xj,0,none⟩)) hcu'
     have HSet:=zl hset
     have HGs:Hid (w.grownBy (W'.setCell ⟨g,inn,none⟩ (.pointer (some ⟨adr xj,0,none⟩))) (some g)):=
      ⟨HG'.o.os,HG'.o.tape,HG'.o.output,by simpa [World.setCell] using HG'.o.size,fun b hb hne=>(bhs _ _ _ _ (fun e=>hne (by rw[e]))).trans (HG'.o.block b hb hne)⟩
     have hil:inn<q.length:=by omega
     clear hpx hcu' hset
     go_wp2_with fail
     go_roundw
     case rel=>
      refine⟨jn+1,inn+1,cu.setIfInBounds inn (.pointer (some ⟨adr xj,0,none⟩)),?_,by omega,by omega,by go_num,by go_num,HSet.o,by simpa using hcs,?_,fun x h1 h2=>?_,HGs.o⟩
      .rw[HF2.o,List.length_append]
       have:=HIn.o
       simp
       omega
      .rw[HF2.o]
       have e1:ptrs adr ((q.take jn).filter (fun i=>!p i)++[xj])=ptrs adr ((q.take jn).filter (fun i=>!p i))++[.pointer (some ⟨adr xj,0,none⟩)]:=by simp[ptrs]
       rw[e1,←HTk.o,Array.toList_setIfInBounds]
       rw[List.take_succ_eq_append_getElem (by simp;omega),List.take_set_of_le nr]
       simp
      .rw[Array.getElem?_setIfInBounds_ne (by omega)]
       exact HRs.o x (by omega) h2
     case measure=>simp[intOf];omega
   .obtain rfl:jn=q.length:=by omega
    rw[List.take_length] at hin htk
    have HIn:=zl hin
    have hil:inn<=q.length:=by omega
    have hic:inn<=cap:=by omega
    have HCu:=zl hcu
    have hfin:Hid (R (.returned (.slice (some ⟨g,0,none⟩) inn cap)) (wr.setRow g (cu.toList.take inn++(List.replicate (q.length-inn) (Value.pointer none)++cu.toList.drop q.length)).toArray)):=by
     have hh:=setRow_heap wr g cu (cu.toList.take inn++(List.replicate (q.length-inn) (Value.pointer none)++cu.toList.drop q.length)).toArray 106 (0,0) hcu
     refine HR1.o _ _ ⟨hgr.os,hgr.tape,hgr.output,by simpa [World.setRow] using hgr.size,fun b hb hne=>?_⟩ rfl ?_
     .rw[←hgr.block b hb hne]
      unfold World.setRow
      simp only[Array.getElem?_modify]
      rw[if_neg (fun e=>hne (by rw[e]))]
     .have:=row_shut (adr:=adr) (q:=q.filter fun i=>!p i) hh (by omega) h5 (by simp;omega) (by rw[←hin,←htk,List.take_append_of_le_length (by simp;omega),List.take_take,Nat.min_self])
      rw[←hin] at this
      rw[←hin]
      exact this
    clear hcu hgr hrest htk hin H0 H7 Hc1 HG1
    go_wp2_with (first|(guard_target=~wpList _ _ _ ({dst:=none,op:=Op.call {callee:=Callee.builtin Builtin.clear,args:= #[_],argTypes:= #[_]},type:=_,pos:=_,after:=_,guard:=none}::_) _ _;refine zje rfl _ 101 rfl 106 Tryz.underlying101 (fun w=>by kernel_rfl) g inn (q.length-inn) (cap-inn) rfl cu 106 HCu.o (by omega) ?_)|go_in)
    exact hfin.o
end
