/- What decodes of the law answers: true, and the caller's world goes on. -/
import Derived.Test.YtmiiejinahnpkaaGreatDoorCm
import Derived.Deep.RegionHeld3
namespace Go.Proofs.YtmiiejinahnpkaaGreatDoor
open Go.RowKit
attribute [local go_sem ↓] Go.wp_at_zero Go.wp_at_succ

/-- the block of the operand -/
def OpAt (w : World) (O : Nat) (kind : Int) (a : Option Addr) (N c : Nat) (al : Option Addr) (nl cl : Nat) (bb : Bool) : Prop := w.heap[O]? = some (.cells #[.int .i64 kind, .slice a N c, .slice al nl cl, .bool bb] 34 (0, 0))

theorem OpAt.cell1 {w : World} {O : Nat} {kind : Int} {a : Option Addr} {N c : Nat} {al : Option Addr} {nl cl : Nat} {bb : Bool} (h : OpAt w O kind a N c al nl cl bb) : w.cell? ⟨O, 1, none⟩ = some (.slice a N c) := by rw [cell_of_row w O 1 _ _ (0, 0) h]; rfl
theorem OpAt.cell2 {w : World} {O : Nat} {kind : Int} {a : Option Addr} {N c : Nat} {al : Option Addr} {nl cl : Nat} {bb : Bool} (h : OpAt w O kind a N c al nl cl bb) : w.cell? ⟨O, 2, none⟩ = some (.slice al nl cl) := by rw [cell_of_row w O 2 _ _ (0, 0) h]; rfl
theorem OpAt.ext {w w' : World} {O : Nat} {kind : Int} {a : Option Addr} {N c : Nat} {al : Option Addr} {nl cl : Nat} {bb : Bool} (h : OpAt w O kind a N c al nl cl bb) (hb : Below w.heap.size w w') : OpAt w' O kind a N c al nl cl bb := (hb.block O (lt_of_heap h)).trans h
theorem OpAt.stays {w w' : World} {O : Nat} {kind : Int} {a : Option Addr} {N c : Nat} {al : Option Addr} {nl cl : Nat} {bb : Bool} {base : Nat} {own own' : Nat → Nat × Int} {T : Nat × Int → Prop} (h : OpAt w O kind a N c al nl cl bb) (hs : Stays base own T w own' w') (hb : base ≤ O) (ht : own O = (9, 0)) (hT : T (9, 0)) : OpAt w' O kind a N c al nl cl bb ∧ own' O = (9, 0) :=
  ⟨(hs.blk O (lt_of_heap h) hb (by rw [ht]; exact hT)).trans h, (hs.tag O (lt_of_heap h)).trans ht⟩

theorem BsAt.ext {w w' : World} {a : Option Addr} {N : Nat} {X : Nat → Int} (h : BsAt w a N X) (hb : Below w.heap.size w w') : BsAt w' a N X := by
  intro i hi
  obtain ⟨b, o, h1, h2⟩ := h i hi
  exact ⟨b, o, h1, (hb.cell (p := ⟨b, o + i, none⟩) (lt_of_cell h2)).trans h2⟩

/-- the cells of a list that was lent -/
theorem lent_bytes {w : World} {base g N c : Nat} {X : Nat → Int} (h : w.ownsRow base 5 1 (.slice (some ⟨g, 0, none⟩) (N + 1) c) (N + 1) (told (lcell X N) (N + 1))) : BsAt w (some ⟨g, 0, none⟩) N X := by
  intro i hi
  obtain ⟨g', cap, h1, _, _, _, h5, _⟩ := own_cells_of h i _ (told_get _ _ _ (by omega))
  simp only [Value.slice.injEq, Option.some.injEq, Addr.mk.injEq, and_true] at h1
  obtain ⟨rfl, _⟩ := h1
  refine ⟨g, 0, rfl, ?_⟩
  rw [Nat.zero_add, h5]
  simp [lcell, hi]

/-- the operand of the law -/
def opv (kind : Int) (a : Option Addr) (N c : Nat) (al : Option Addr) (n cl : Nat) (b : Bool) : Value := .agg #[.int .i64 kind, .slice a N c, .slice al n cl, .bool b]

set_option maxHeartbeats 2000000 in
set_option maxRecDepth 8000 in
theorem decodes_w {Z base B : Nat} {own : Nat → Nat × Int} {w : World} {f : Nat → Value} {xs : Nat → List Value} {ms : List Nat} {em : List Int} {last : Int} {many : Nat} {R : Ending → World → Prop} {N c : Nat} {a : Option Addr} {X : Nat → Int} {kind : Int} {al : Option Addr} {nl cl : Nat} {bb : Bool}
    (hW : WK Z base B own w f xs ms em last many) (h7 : (xs 7).length + 1 ≤ Z) (h5 : (xs 5).length + 4 ≤ 4 * Z) (hm : -(Z : Int) ≤ last - 1) (hL : LayAt w) (hN : N ≤ 1048576) (hx : BsAt w a N X) (hxb : ∀ i, i < N → 0 ≤ X i ∧ X i ≤ 255)
    (hR : ∀ own' f' xs' em' w', WK Z base B own' w' f' xs' ms em' (last - 1) many → (xs' 1).length = (xs 1).length → (xs' 5).length = (xs 5).length + 4 → (xs' 7).length = (xs 7).length + 1 → (xs' 8).length = (xs 8).length → Below base w w' → R (.returned (.bool true)) w') :
    Calls Tryz.prog 39 #[.pointer (some ⟨B, 0, none⟩), opv kind a N c al nl cl bb] w R := by
  have HR : Hid (∀ own' f' xs' em' w', WK Z base B own' w' f' xs' ms em' (last - 1) many → (xs' 1).length = (xs 1).length → (xs' 5).length = (xs 5).length + 4 → (xs' 7).length = (xs 7).length + 1 → (xs' 8).length = (xs 8).length → Below base w w' → R (.returned (.bool true)) w') := hR
  have HW : Hid (WK Z base B own w f xs ms em last many) := hW
  have H7 : Hid ((xs 7).length + 1 ≤ Z ∧ (xs 5).length + 4 ≤ 4 * Z ∧ -(Z : Int) ≤ last - 1) := ⟨h7, h5, hm⟩
  have HLA : Hid (LayAt w) := hL
  have HX : Hid (BsAt w a N X) := hx
  have HXB : Hid (∀ i, i < N → 0 ≤ X i ∧ X i ≤ 255) := hxb
  have hbase : base ≤ w.heap.size := by have := lt_of_heap hW.wj.blk; have := hW.wj.hB; omega
  clear hR hW h7 h5 hm hL hx hxb
  unfold opv
  go_enter Tryz.func39, Tryz.ntmps39
  go_wp2_with fail
  obtain ⟨O, hO⟩ : ∃ O, O = w.heap.size := ⟨_, rfl⟩
  obtain ⟨w0, hw0⟩ : ∃ y, y = w.alloc (.cells #[.int .i64 kind, .slice a N c, .slice al nl cl, .bool bb] 34) := ⟨_, rfl⟩
  rw [← hw0, ← hO]
  have hb0 : Below w.heap.size w w0 := by rw [hw0]; exact (Below.refl _ _).alloc (Nat.le_refl _) _
  have ho0 : OpAt w0 O kind a N c al nl cl bb := by rw [hw0, hO]; exact heap_alloc_new w _
  obtain ⟨own0, hown0⟩ : ∃ y, y = newTag own w (.slice (some ⟨O, 0, none⟩) 0 0) (9, 0) := ⟨_, rfl⟩
  have HO0 : Hid (OpAt w0 O kind a N c al nl cl bb ∧ own0 O = (9, 0) ∧ base ≤ O) := ⟨ho0, by rw [hown0, hO]; simp [newTag, Value.ownBlock], by rw [hO]; exact hbase⟩
  have HW0 : Hid (WK Z base B own0 w0 f xs ms em last many) := HW.out.all ⟨hb0.size, fun g hg => by rw [hown0]; exact newTag_old hg, fun g hg _ _ => hb0.block g hg⟩
  have HB0 : Hid (Below w.heap.size w w0) := hb0
  clear hown0 hw0 hb0 ho0 hO
  refine lent_any a N c X w0 _ hN (HX.out.ext HB0.out) ?_
  intro g w1 hb1 hl1
  have hbase0 : base ≤ w0.heap.size := Nat.le_trans hbase HB0.out.size
  obtain ⟨s1, l1, t1⟩ := adopt (own := own0) (t := (4, ((xs 7).length : Int))) hb1 hl1 hbase0
  obtain ⟨own1, hown1⟩ : ∃ y, y = newTag own0 w0 (.slice (some ⟨g, 0, none⟩) (N + 1) (N + 1)) (4, ((xs 7).length : Int)) := ⟨_, rfl⟩
  rw [← hown1] at s1 t1
  have HW1 : Hid (WK Z base B own1 w1 f xs ms em last many) := HW0.out.all s1
  have HO1 : Hid (OpAt w1 O kind a N c al nl cl bb ∧ own1 O = (9, 0) ∧ base ≤ O) := by obtain ⟨q1, q2⟩ := HO0.out.1.stays s1 HO0.out.2.2 HO0.out.2.1 trivial; exact ⟨q1, q2, HO0.out.2.2⟩
  have HL1 : Hid (w1.ownsRow base 5 1 (.slice (some ⟨g, 0, none⟩) (N + 1) (N + 1)) (N + 1) (told (lcell X N) (N + 1)) ∧ own1 g = (4, ((xs 7).length : Int))) := ⟨l1, t1 g rfl⟩
  have HB1 : Hid (Below w.heap.size w w1) := HB0.out.trans (hb1.mono HB0.out.size)
  have c1 := HO1.out.1.cell1
  clear hb1 hl1 s1 l1 t1 hown1 HW0 HO0 HB0 hbase0
  go_wp2_with fail
  refine Decode_res _ N (N + 1) X w1 _ (LayAt.below HLA.out HB1.out (Nat.le_refl _)) hN (by omega) (lent_bytes HL1.out.1) HXB.out ?_
  intro n e p v w2 hd hb2 hv2
  have hbase1 : base ≤ w1.heap.size := Nat.le_trans hbase HB1.out.size
  obtain ⟨s2, l2, t2⟩ := adopt (own := own1) (t := (3, last - 1)) hb2 hv2 hbase1
  obtain ⟨own2, hown2⟩ : ∃ y, y = newTag own1 w1 v (3, last - 1) := ⟨_, rfl⟩
  rw [← hown2] at s2 t2
  have HW2 : Hid (WK Z base B own2 w2 f xs ms em last many) := HW1.out.all s2
  have HO2 : Hid (OpAt w2 O kind a N c al nl cl bb ∧ own2 O = (9, 0) ∧ base ≤ O) := by obtain ⟨q1, q2⟩ := HO1.out.1.stays s2 HO1.out.2.2 HO1.out.2.1 trivial; exact ⟨q1, q2, HO1.out.2.2⟩
  have HL2 : Hid (w2.ownsRow base 5 1 (.slice (some ⟨g, 0, none⟩) (N + 1) (N + 1)) (N + 1) (told (lcell X N) (N + 1)) ∧ own2 g = (4, ((xs 7).length : Int))) := by
    obtain ⟨q1, q2⟩ := own_stays' (tag := (4, ((xs 7).length : Int))) HL1.out.1 (fun q hq => by simp [Value.ownBlock] at hq; rw [← hq]; exact HL1.out.2) s2 trivial
    exact ⟨q1, q2 g rfl⟩
  have HV2 : Hid (w2.ownsRow base 42 10 v n (dcells X n) ∧ ∀ g, v.ownBlock = some g → own2 g = (3, last - 1)) := ⟨l2, t2⟩
  have HB2 : Hid (Below w.heap.size w w2) := HB1.out.trans (hb2.mono HB1.out.size)
  have HD : Hid (DRes X N n e p) := hd
  obtain ⟨av, cv, rfl⟩ := own_form hv2
  have c1' := HO2.out.1.cell1
  clear c1 hb2 hv2 s2 l2 t2 hown2 HW1 HO1 HL1 HB1 hbase1 hd
  go_wp2_with fail
  refine refDecode_res _ N c X w2 _ hN (HX.out.ext HB2.out) HXB.out ?_
  intro n' e' p' v' w3 hd hb3 hv3
  obtain ⟨rfl, rfl, rfl⟩ := DRes.unique HD.out hd
  obtain ⟨av', cv', rfl⟩ := own_form hv3
  have HW3 : Hid (WK Z base B own2 w3 f xs ms em last many) := HW2.out.ext hb3
  have HO3 : Hid (OpAt w3 O kind a N c al nl cl bb ∧ own2 O = (9, 0) ∧ base ≤ O) := ⟨HO2.out.1.ext hb3, HO2.out.2⟩
  have HL3 : Hid (w3.ownsRow base 5 1 (.slice (some ⟨g, 0, none⟩) (N + 1) (N + 1)) (N + 1) (told (lcell X N) (N + 1)) ∧ own2 g = (4, ((xs 7).length : Int))) := ⟨(own_stays' HL2.out.1 (tag := own2 g) (fun q hq => by simp [Value.ownBlock] at hq; rw [← hq]) (Stays.of_below hb3) trivial).1, HL2.out.2⟩
  have HV3 : Hid (w3.ownsRow base 42 10 (.slice av n cv) n (dcells X n) ∧ ∀ g, (Value.slice av n cv).ownBlock = some g → own2 g = (3, last - 1)) := own_stays' HV2.out.1 HV2.out.2 (Stays.of_below hb3) trivial
  have HB3 : Hid (Below w.heap.size w w3) := HB2.out.trans (hb3.mono HB2.out.size)
  have HV3' : Hid (w3.ownsRow w2.heap.size 42 10 (.slice av' n cv') n (dcells X n)) := hv3
  have hn := HD.out.le
  have he : (e != e) = false := by simp
  have hp : ((p : Int) != (p : Int)) = false := by simp
  have hnn : ((n : Int) != (n : Int)) = false := by simp
  clear c1' hb3 hv3 HW2 HO2 HL2 HB2 HV2 hd
  go_wp2_with fail
  clear he hp hnn
  go_loopw [12, 13] (fun t _ wr => ∃ k : Nat, k ≤ n ∧ t = .int .i64 k ∧ Below w3.heap.size w3 wr) (fun t _ _ => n - (intOf t).toNat)
  case atStart => exact ⟨0, Nat.zero_le _, rfl, Below.refl _ _⟩
  case round =>
    obtain ⟨k, hk, rfl, hb4⟩ := hrel
    have HB4 : Hid (Below w3.heap.size w3 wr) := hb4
    by_cases hkl : k < n
    · obtain ⟨g1, cap1, q1, _, _, _, _, _⟩ := own_cells_of HV3.out.1 (k * 10 + 0) _ (dcells_get X n k 0 hkl (by decide))
      obtain ⟨g2, cap2, q2, _, _, _, _, _⟩ := own_cells_of HV3'.out (k * 10 + 0) _ (dcells_get X n k 0 hkl (by decide))
      simp only [Value.slice.injEq] at q1 q2
      obtain ⟨rfl, -⟩ := q1
      obtain ⟨rfl, -⟩ := q2
      have d1 : ∀ j, j < 10 → wr.cell? ⟨g1, k * 10 + j, none⟩ = some (.int .i64 (dev X (pos X k) j)) := by
        intro j hj
        obtain ⟨g', cap', q1, _, hlt', _, hc, _⟩ := own_cells_of HV3.out.1 (k * 10 + j) _ (dcells_get X n k j hkl hj)
        simp only [Value.slice.injEq, Option.some.injEq, Addr.mk.injEq, and_true] at q1
        rw [← q1.1] at hc hlt'
        exact (hb4.cell (p := ⟨g1, k * 10 + j, none⟩) hlt').trans hc
      have d2 : ∀ j, j < 10 → wr.cell? ⟨g2, k * 10 + j, none⟩ = some (.int .i64 (dev X (pos X k) j)) := by
        intro j hj
        obtain ⟨g', cap', q1, _, hlt', _, hc, _⟩ := own_cells_of HV3'.out (k * 10 + j) _ (dcells_get X n k j hkl hj)
        simp only [Value.slice.injEq, Option.some.injEq, Addr.mk.injEq, and_true] at q1
        rw [← q1.1] at hc hlt'
        exact (hb4.cell (p := ⟨g2, k * 10 + j, none⟩) hlt').trans hc
      have hst : sameEv (dev X (pos X k)) (dev X (pos X k)) = true := (sameEv_iff _ _).2 fun _ _ => rfl
      have KW : ∀ {w1 : World} (_ : Below wr.heap.size wr w1) (x : Addr) (v : Value), wr.cell? x = some v → w1.cell? x = some v := fun {w1} h x v hx => (h.cell (World.block_lt_of_cell? wr x hx)).trans hx
      have a10 := d1 0 (by decide)
      have a20 := d2 0 (by decide)
      rw [Nat.add_zero] at a10 a20
      have hk0 : (0 : Int) ≤ (k : Int) := by omega
      have hk1 : (k : Int) < (n : Int) := by omega
      clear hb4
      go_wp2_with fail
      go_region_held3 (fun w' => w'.cell? ⟨g1, k * 10, none⟩ = some (.int .i64 (dev X (pos X k) 0)) ∧ w'.cell? ⟨g1, k * 10 + 1, none⟩ = some (.int .i64 (dev X (pos X k) 1)) ∧ w'.cell? ⟨g1, k * 10 + 2, none⟩ = some (.int .i64 (dev X (pos X k) 2)) ∧ w'.cell? ⟨g1, k * 10 + 3, none⟩ = some (.int .i64 (dev X (pos X k) 3)) ∧ w'.cell? ⟨g1, k * 10 + 4, none⟩ = some (.int .i64 (dev X (pos X k) 4)) ∧ w'.cell? ⟨g1, k * 10 + 5, none⟩ = some (.int .i64 (dev X (pos X k) 5)) ∧ w'.cell? ⟨g1, k * 10 + 6, none⟩ = some (.int .i64 (dev X (pos X k) 6)) ∧ w'.cell? ⟨g1, k * 10 + 7, none⟩ = some (.int .i64 (dev X (pos X k) 7)) ∧ w'.cell? ⟨g1, k * 10 + 8, none⟩ = some (.int .i64 (dev X (pos X k) 8)) ∧ w'.cell? ⟨g1, k * 10 + 9, none⟩ = some (.int .i64 (dev X (pos X k) 9)) ∧ w'.cell? ⟨g2, k * 10, none⟩ = some (.int .i64 (dev X (pos X k) 0)) ∧ w'.cell? ⟨g2, k * 10 + 1, none⟩ = some (.int .i64 (dev X (pos X k) 1)) ∧ w'.cell? ⟨g2, k * 10 + 2, none⟩ = some (.int .i64 (dev X (pos X k) 2)) ∧ w'.cell? ⟨g2, k * 10 + 3, none⟩ = some (.int .i64 (dev X (pos X k) 3)) ∧ w'.cell? ⟨g2, k * 10 + 4, none⟩ = some (.int .i64 (dev X (pos X k) 4)) ∧ w'.cell? ⟨g2, k * 10 + 5, none⟩ = some (.int .i64 (dev X (pos X k) 5)) ∧ w'.cell? ⟨g2, k * 10 + 6, none⟩ = some (.int .i64 (dev X (pos X k) 6)) ∧ w'.cell? ⟨g2, k * 10 + 7, none⟩ = some (.int .i64 (dev X (pos X k) 7)) ∧ w'.cell? ⟨g2, k * 10 + 8, none⟩ = some (.int .i64 (dev X (pos X k) 8)) ∧ w'.cell? ⟨g2, k * 10 + 9, none⟩ = some (.int .i64 (dev X (pos X k) 9))) (first | go_keep | exact ⟨KW hb5 _ _ a10, KW hb5 _ _ (d1 1 (by decide)), KW hb5 _ _ (d1 2 (by decide)), KW hb5 _ _ (d1 3 (by decide)), KW hb5 _ _ (d1 4 (by decide)), KW hb5 _ _ (d1 5 (by decide)), KW hb5 _ _ (d1 6 (by decide)), KW hb5 _ _ (d1 7 (by decide)), KW hb5 _ _ (d1 8 (by decide)), KW hb5 _ _ (d1 9 (by decide)), KW hb5 _ _ a20, KW hb5 _ _ (d2 1 (by decide)), KW hb5 _ _ (d2 2 (by decide)), KW hb5 _ _ (d2 3 (by decide)), KW hb5 _ _ (d2 4 (by decide)), KW hb5 _ _ (d2 5 (by decide)), KW hb5 _ _ (d2 6 (by decide)), KW hb5 _ _ (d2 7 (by decide)), KW hb5 _ _ (d2 8 (by decide)), KW hb5 _ _ (d2 9 (by decide))⟩) (first | (go_at_call 42; refine SameEvent_of (dev X (pos X k)) (dev X (pos X k)) _ _ (by rfl) (by rfl) _ _ ?_; intro w5 hb5'; have hb5 : Below wr.heap.size wr w5 := Below.trans ((Below.refl _ _).drew) hb5'; rw [hst]))
      have HB5 : Hid (Below w3.heap.size w3 w5) := HB4.out.trans (hb5.mono HB4.out.size)
      clear hb5 hb5' d1 d2 a10 a20 KW hst
      go_wp2_with fail
      go_roundw
      case rel => exact ⟨k + 1, by omega, by go_num, HB5.out⟩
      case measure => simp only [intOf]; omega
    · obtain ⟨wa, hwa⟩ : ∃ y, y = wr := ⟨_, rfl⟩
      subst hwa
      have c1 := (HO3.out.1.ext hb4).cell1
      clear hb4
      go_wp2_with fail
      have HB4' : Hid (Below w.heap.size w wa) := HB3.out.trans (HB4.out.mono HB3.out.size)
      have hl4 := (own_stays' (tag := own2 g) HL3.out.1 (fun q hq => by simp [Value.ownBlock] at hq; rw [← hq]) (Stays.of_below (own := own2) HB4.out) trivial).1
      have HV4 : Hid (wa.ownsRow base 42 10 (.slice av n cv) n (dcells X n) ∧ ∀ g, (Value.slice av n cv).ownBlock = some g → own2 g = (3, last - 1)) := own_stays' HV3.out.1 HV3.out.2 (Stays.of_below HB4.out) trivial
      refine returned_w (HW3.out.ext HB4.out) H7.out.1 hN hl4 HL3.out.2 (HX.out.ext HB4'.out) ?_
      intro own4 f4 xs4 w4 hW4 hx4 hx47 hs4 hb4
      have HW4 : Hid (WK Z base B own4 w4 f4 xs4 ms em last many) := hW4
      have HX4 : Hid ((∀ i, i ≠ 7 → xs4 i = xs i) ∧ (xs4 7).length = (xs 7).length + 1) := ⟨hx4, hx47⟩
      have HV5 : Hid (w4.ownsRow base 42 10 (.slice av n cv) n (dcells X n) ∧ ∀ g, (Value.slice av n cv).ownBlock = some g → own4 g = (3, last - 1)) := own_stays' HV4.out.1 HV4.out.2 hs4 (by simp)
      have HB5 : Hid (Below base w w4) := (HB4'.out.mono hbase).trans hb4
      clear hl4 hW4 hx4 hx47 hs4 hb4 c1
      go_wp2_with fail
      refine kept_w HW4.out ?_
      intro w5 hb5
      have HW5 : Hid (WK Z base B own4 w5 f4 xs4 ms em last many) := HW4.out.ext hb5
      have HV6 : Hid (w5.ownsRow base 42 10 (.slice av n cv) n (dcells X n) ∧ ∀ g, (Value.slice av n cv).ownBlock = some g → own4 g = (3, last - 1)) := own_stays' HV5.out.1 HV5.out.2 (Stays.of_below hb5) trivial
      have HB6 : Hid (Below base w w5) := HB5.out.trans (hb5.mono (by have := HB5.out.size; omega))
      clear hb5
      go_wp2_with fail
      refine keepEvents_w HW5.out (by rw [HX4.out.1 5 (by decide)]; exact H7.out.2.1) H7.out.2.2 (by omega) HV6.out.1 HV6.out.2 ?_
      intro own7 f7 xs7 em7 w7 hW7 hx7 hx75 hb7
      have hfin : Hid (R (.returned (.bool true)) w7) := by
        refine HR.out own7 f7 xs7 em7 w7 hW7 ?_ ?_ ?_ ?_ (HB6.out.trans hb7)
        · rw [hx7 1 (by decide) (by decide), HX4.out.1 1 (by decide)]
        · rw [hx75, HX4.out.1 5 (by decide)]
        · rw [hx7 7 (by decide) (by decide), HX4.out.2]
        · rw [hx7 8 (by decide) (by decide), HX4.out.1 8 (by decide)]
      clear hW7 hx7 hx75 hb7
      go_wp2_with fail
      exact hfin.out
#print axioms decodes_w
end Go.Proofs.YtmiiejinahnpkaaGreatDoor
