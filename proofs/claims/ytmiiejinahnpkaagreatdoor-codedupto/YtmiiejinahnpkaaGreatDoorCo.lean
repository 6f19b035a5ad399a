/- What encodes of the law answers: true, and the caller's world goes on. -/
import Derived.Test.YtmiiejinahnpkaaGreatDoorCn
namespace Go.Proofs.YtmiiejinahnpkaaGreatDoor
open Go.RowKit
attribute [local go_sem ↓] Go.wp_at_zero Go.wp_at_succ

/-- the cell of a list of events that is lent -/
def ecell (es : Nat → Nat → Int) (n : Nat) (k : Nat) : Value := .int .i64 (if k / 10 < n then es (k / 10) (k % 10) else 0)

theorem made_ten (n k : Nat) (h : k < n) : (madeCells #[.int .i64 0, .int .i64 0, .int .i64 0, .int .i64 0, .int .i64 0, .int .i64 0, .int .i64 0, .int .i64 0, .int .i64 0, .int .i64 0] n).toList[k]? = some (.int .i64 0) := by
  simp only [madeCells, Array.toList_map, List.getElem?_map, Array.getElem?_toList]
  rw [Array.getElem?_eq_getElem (by simpa using h)]
  have : k % 10 < 10 := Nat.mod_lt _ (by decide)
  simp only [Array.getElem_range, Option.map_some, Option.some.injEq]
  show (#[Value.int .i64 0, .int .i64 0, .int .i64 0, .int .i64 0, .int .i64 0, .int .i64 0, .int .i64 0, .int .i64 0, .int .i64 0, .int .i64 0] : Array Value)[k % 10]! = _
  rcases (show k % 10 = 0 ∨ k % 10 = 1 ∨ k % 10 = 2 ∨ k % 10 = 3 ∨ k % 10 = 4 ∨ k % 10 = 5 ∨ k % 10 = 6 ∨ k % 10 = 7 ∨ k % 10 = 8 ∨ k % 10 = 9 by omega) with h | h | h | h | h | h | h | h | h | h <;> rw [h] <;> rfl

theorem EvsAt.ext {w w' : World} {a : Option Addr} {n : Nat} {es : Nat → Nat → Int} (h : EvsAt w a n es) (hb : Below w.heap.size w w') : EvsAt w' a n es := h.below hb (Nat.le_refl _)

theorem lent_events {w : World} {base g n c : Nat} {es : Nat → Nat → Int} (h : w.ownsRow base 42 10 (.slice (some ⟨g, 0, none⟩) (n + 1) c) (n + 1) (told (ecell es n) ((n + 1) * 10))) : EvsAt w (some ⟨g, 0, none⟩) n es := by
  intro i hi
  refine ⟨g, 0, rfl, fun j hj => ?_⟩
  obtain ⟨g', cap, h1, _, _, _, h5, _⟩ := own_cells_of h (i * 10 + j) _ (told_get _ _ _ (by omega))
  simp only [Value.slice.injEq, Option.some.injEq, Addr.mk.injEq, and_true] at h1
  obtain ⟨rfl, -⟩ := h1
  rw [Nat.zero_add, h5]
  simp only [ecell]
  rw [show (i * 10 + j) / 10 = i by omega, show (i * 10 + j) % 10 = j by omega, if_pos hi]

set_option maxHeartbeats 2000000 in
set_option maxRecDepth 8000 in
theorem encodes_w {Z base B : Nat} {own : Nat → Nat × Int} {w : World} {f : Nat → Value} {xs : Nat → List Value} {ms : List Nat} {em : List Int} {last : Int} {many : Nat} {R : Ending → World → Prop} {N c : Nat} {a : Option Addr} {es : Nat → Nat → Int} {kind : Int} {al : Option Addr} {n cl : Nat} {bb : Bool}
    (hW : WK Z base B own w f xs ms em last many) (h8 : (xs 8).length + 1 ≤ Z) (h1 : (xs 1).length + 4 ≤ 4 * Z) (hm : many + 1 ≤ Z) (hL : LayAt w) (hn : n ≤ 1048576) (hx : EvsAt w al n es) (hxb : ∀ i j, -9223372036854775808 ≤ es i j ∧ es i j ≤ 9223372036854775807)
    (hR : ∀ own' f' xs' ms' w', WK Z base B own' w' f' xs' ms' em last (many + 1) → (xs' 1).length = (xs 1).length + 4 → (xs' 5).length = (xs 5).length → (xs' 7).length = (xs 7).length → (xs' 8).length = (xs 8).length + 1 → Below base w w' → R (.returned (.bool true)) w') :
    Calls Tryz.prog 38 #[.pointer (some ⟨B, 0, none⟩), opv kind a N c al n cl bb] w R := by
  have HR : Hid (∀ own' f' xs' ms' w', WK Z base B own' w' f' xs' ms' em last (many + 1) → (xs' 1).length = (xs 1).length + 4 → (xs' 5).length = (xs 5).length → (xs' 7).length = (xs 7).length → (xs' 8).length = (xs 8).length + 1 → Below base w w' → R (.returned (.bool true)) w') := hR
  have HW : Hid (WK Z base B own w f xs ms em last many) := hW
  have H7 : Hid ((xs 8).length + 1 ≤ Z ∧ (xs 1).length + 4 ≤ 4 * Z ∧ many + 1 ≤ Z) := ⟨h8, h1, hm⟩
  have HLA : Hid (LayAt w) := hL
  have HX : Hid (EvsAt w al n es) := hx
  have HXB : Hid (∀ i j, -9223372036854775808 ≤ es i j ∧ es i j ≤ 9223372036854775807) := hxb
  have hbase : base ≤ w.heap.size := by have := lt_of_heap hW.wj.blk; have := hW.wj.hB; omega
  clear hR hW h8 h1 hm hL hx hxb
  obtain ⟨i0, hi, hz0, hz1, hz2⟩ := info_parts Tryz.infoEvent
  have HI : Hid (Tryz.prog.info? 42 = some i0 ∧ i0.zero = some (.agg #[.int .i64 0, .int .i64 0, .int .i64 0, .int .i64 0, .int .i64 0, .int .i64 0, .int .i64 0, .int .i64 0, .int .i64 0, .int .i64 0]) ∧ i0.size = 10 ∧ i0.bytes = 80) := ⟨hi, hz0, hz1, hz2⟩
  clear hi hz0 hz1 hz2
  unfold opv
  go_enter Tryz.func38, Tryz.ntmps38
  go_wp2_with (refine wpList_make_full _ rfl _ _ _ rfl (w.heap.size + 1) 42 i0 _ 10 Tryz.underlying32 HI.out.1 HI.out.2.1 HI.out.2.2.1 _ _ _ _ (n + 1) rfl rfl ?c1 ?c2 ?c3 ?c4 ?c5 ?_)
  case c1 => omega
  case c2 => omega
  case c3 => rw [HI.out.2.2.2]; omega
  case c4 => unfold maxLen; omega
  case c5 => simp
  intro w1 hl1 hg1
  obtain ⟨g, hg⟩ : ∃ g, g = w.heap.size + 1 := ⟨_, rfl⟩
  rw [← hg] at hl1 ⊢
  obtain ⟨O, hO⟩ : ∃ O, O = w.heap.size := ⟨_, rfl⟩
  rw [← hO]
  obtain ⟨w0, hw0⟩ : ∃ y, y = w.alloc (.cells #[.int .i64 kind, .slice a N c, .slice al n cl, .bool bb] 34) := ⟨_, rfl⟩
  rw [← hw0] at hg1
  have hsz0 : w0.heap.size = g := by rw [hw0, hg]; simp
  have hb0 : Below w.heap.size w w0 := by rw [hw0]; exact (Below.refl _ _).alloc (Nat.le_refl _) _
  have ho0 : OpAt w0 O kind a N c al n cl bb := by rw [hw0, hO]; exact heap_alloc_new w _
  obtain ⟨own0, hown0⟩ : ∃ y, y = newTag own w (.slice (some ⟨O, 0, none⟩) 0 0) (9, 0) := ⟨_, rfl⟩
  have HO0 : Hid (OpAt w0 O kind a N c al n cl bb ∧ own0 O = (9, 0) ∧ base ≤ O) := ⟨ho0, by rw [hown0, hO]; simp [newTag, Value.ownBlock], by rw [hO]; exact hbase⟩
  have HW0 : Hid (WK Z base B own0 w0 f xs ms em last many) := HW.out.all ⟨hb0.size, fun g hg => by rw [hown0]; exact newTag_old hg, fun g hg _ _ => hb0.block g hg⟩
  have HB0 : Hid (Below w.heap.size w w0) := hb0
  have hb1 : Below w0.heap.size w0 w1 := ⟨hg1.os, hg1.tape, hg1.output, hg1.size, fun k hk => hg1.block k hk (by simp)⟩
  have hbase0 : base ≤ w0.heap.size := Nat.le_trans hbase HB0.out.size
  rw [← hsz0] at hl1 ⊢
  obtain ⟨s1, l1, t1⟩ := adopt (own := own0) (t := (5, ((xs 8).length : Int))) hb1 hl1 hbase0
  rw [hsz0] at s1 l1 t1 ⊢
  obtain ⟨own1, hown1⟩ : ∃ y, y = newTag own0 w0 (.slice (some ⟨g, 0, none⟩) (n + 1) (n + 1)) (5, ((xs 8).length : Int)) := ⟨_, rfl⟩
  rw [← hown1] at s1 t1
  have HW1 : Hid (WK Z base B own1 w1 f xs ms em last many) := HW0.out.all s1
  have HO1 : Hid (OpAt w1 O kind a N c al n cl bb ∧ own1 O = (9, 0) ∧ base ≤ O) := by obtain ⟨q1, q2⟩ := HO0.out.1.stays s1 HO0.out.2.2 HO0.out.2.1 trivial; exact ⟨q1, q2, HO0.out.2.2⟩
  have HL1 : Hid (w1.ownsRow base 42 10 (.slice (some ⟨g, 0, none⟩) (n + 1) (n + 1)) (n + 1) (madeCells #[.int .i64 0, .int .i64 0, .int .i64 0, .int .i64 0, .int .i64 0, .int .i64 0, .int .i64 0, .int .i64 0, .int .i64 0, .int .i64 0] ((n + 1) * 10)).toList ∧ own1 g = (5, ((xs 8).length : Int))) := ⟨l1, t1 g rfl⟩
  have HB1 : Hid (Below w.heap.size w w1) := HB0.out.trans (hb1.mono HB0.out.size)
  have hgO : g ≠ O := by omega
  have hgw : w.heap.size ≤ g := by omega
  have c2 := HO1.out.1.cell2
  clear hb1 hl1 s1 l1 t1 hown1 HW0 HO0 HB0 hbase0 hg hO hw0 hsz0 hb0 ho0 hown0 hg1
  go_wp2_with (refine wpList_copy_told rfl _ _ _ _ rfl 42 42 10 Tryz.underlying32 ?d1 base g (n + 1) (n + 1) _ HL1.out.1 al n cl (by omega) (ecell es n) rfl rfl ?d2 ?d3 ?d4 ?_)
  case d1 => rw [HI.out.1]; simp [HI.out.2.2.1]
  case d2 =>
    intro k hk
    obtain ⟨b, o, h1, h2⟩ := (HX.out.ext HB1.out) (k / 10) (by omega)
    refine ⟨b, o, h1, ?_⟩
    have h3 := h2 (k % 10) (by omega)
    rw [show o + k / 10 * 10 + k % 10 = o + k by omega] at h3
    rw [h3]
    simp only [ecell, if_pos (show k / 10 < n by omega)]
  case d3 =>
    intro k hk1 hk2
    rw [made_ten _ _ hk2]
    simp only [ecell, if_neg (show ¬ k / 10 < n by omega)]
  case d4 => intro k; rfl
  intro w2 hg2 hs2 hl2
  have s2 : Stays base own1 (fun t => t ≠ (5, ((xs 8).length : Int))) w1 own1 w2 := ⟨by omega, fun _ _ => rfl, fun q hq _ ht => hg2.block q hq (by intro e; simp only [Option.some.injEq] at e; rw [e] at ht; exact ht HL1.out.2)⟩
  have HW2 : Hid (WK Z base B own1 w2 f xs ms em last many) := HW1.out.stays s2 (by simp) (by simp) (by simp) (by simp) (by simp) (by intro q hq; simp; omega)
  have HO2 : Hid (OpAt w2 O kind a N c al n cl bb ∧ own1 O = (9, 0) ∧ base ≤ O) := ⟨(HO1.out.1.stays s2 HO1.out.2.2 HO1.out.2.1 (by simp)).1, HO1.out.2⟩
  have HL2 : Hid (w2.ownsRow base 42 10 (.slice (some ⟨g, 0, none⟩) (n + 1) (n + 1)) (n + 1) (told (ecell es n) ((n + 1) * 10)) ∧ own1 g = (5, ((xs 8).length : Int))) := ⟨hl2, HL1.out.2⟩
  have HB2 : Hid (Below w.heap.size w w2) := HB1.out.trans ⟨hg2.os, hg2.tape, hg2.output, by omega, fun k hk => hg2.block k (Nat.lt_of_lt_of_le hk HB1.out.size) (by simp; omega)⟩
  clear hg2 hs2 hl2 s2 HW1 HO1 HL1 HB1 c2
  go_wp2_with fail
  refine Encode_res _ n (n + 1) es w2 _ (LayAt.below HLA.out HB2.out (Nat.le_refl _)) hn (lent_events HL2.out.1) HXB.out ?_
  intro L e p v w3 hd hb3 hv3
  have hbase2 : base ≤ w2.heap.size := Nat.le_trans hbase HB2.out.size
  obtain ⟨s3, l3, t3⟩ := adopt (own := own1) (t := (2, ((many + 1 : Nat) : Int))) hb3 hv3 hbase2
  obtain ⟨own3, hown3⟩ : ∃ y, y = newTag own1 w2 v (2, ((many + 1 : Nat) : Int)) := ⟨_, rfl⟩
  rw [← hown3] at s3 t3
  have HW3 : Hid (WK Z base B own3 w3 f xs ms em last many) := HW2.out.all s3
  have HO3 : Hid (OpAt w3 O kind a N c al n cl bb ∧ own3 O = (9, 0) ∧ base ≤ O) := by obtain ⟨q1, q2⟩ := HO2.out.1.stays s3 HO2.out.2.2 HO2.out.2.1 trivial; exact ⟨q1, q2, HO2.out.2.2⟩
  have HL3 : Hid (w3.ownsRow base 42 10 (.slice (some ⟨g, 0, none⟩) (n + 1) (n + 1)) (n + 1) (told (ecell es n) ((n + 1) * 10)) ∧ own3 g = (5, ((xs 8).length : Int))) := by
    obtain ⟨q1, q2⟩ := own_stays' (tag := (5, ((xs 8).length : Int))) HL2.out.1 (fun q hq => by simp [Value.ownBlock] at hq; rw [← hq]; exact HL2.out.2) s3 trivial
    exact ⟨q1, q2 g rfl⟩
  have HV3 : Hid (w3.ownsRow base 5 1 v L.length (L.map bv) ∧ ∀ g, v.ownBlock = some g → own3 g = (2, ((many + 1 : Nat) : Int))) := ⟨l3, t3⟩
  have HB3 : Hid (Below w.heap.size w w3) := HB2.out.trans (hb3.mono HB2.out.size)
  have HD : Hid (ERes es n L e p) := hd
  obtain ⟨av, cv, rfl⟩ := own_form hv3
  have c2 := HO3.out.1.cell2
  clear hb3 hv3 s3 l3 t3 hown3 HW2 HO2 HL2 HB2 hbase2 hd
  go_wp2_with fail
  refine refEncode_res _ n cl es w3 _ hn (HX.out.ext HB3.out) ?_
  intro L' e' p' v' w4 hd hb4 hv4
  obtain ⟨rfl, rfl, rfl⟩ := ERes.unique HD.out hd
  obtain ⟨av', cv', rfl⟩ := own_form hv4
  have HW4 : Hid (WK Z base B own3 w4 f xs ms em last many) := HW3.out.ext hb4
  have HO4 : Hid (OpAt w4 O kind a N c al n cl bb ∧ own3 O = (9, 0) ∧ base ≤ O) := ⟨HO3.out.1.ext hb4, HO3.out.2⟩
  have HL4 : Hid (w4.ownsRow base 42 10 (.slice (some ⟨g, 0, none⟩) (n + 1) (n + 1)) (n + 1) (told (ecell es n) ((n + 1) * 10)) ∧ own3 g = (5, ((xs 8).length : Int))) := ⟨(own_stays' HL3.out.1 (tag := own3 g) (fun q hq => by simp [Value.ownBlock] at hq; rw [← hq]) (Stays.of_below hb4) trivial).1, HL3.out.2⟩
  have HV4 : Hid (w4.ownsRow base 5 1 (.slice av L.length cv) L.length (L.map bv) ∧ ∀ g, (Value.slice av L.length cv).ownBlock = some g → own3 g = (2, ((many + 1 : Nat) : Int))) := own_stays' HV3.out.1 HV3.out.2 (Stays.of_below hb4) trivial
  have HB4 : Hid (Below w.heap.size w w4) := HB3.out.trans (hb4.mono HB3.out.size)
  have HV4' : Hid (w4.ownsRow w3.heap.size 5 1 (.slice av' L.length cv') L.length (L.map bv)) := hv4
  have hLn := HD.out.len
  clear hb4 hv4 hd c2 HW3 HO3 HL3 HB3 HV3
  go_wp2_with fail
  have hcb : ∀ {w' : World} {bs' : Nat} {q : Option Addr} {cq : Nat}, w'.ownsRow bs' 5 1 (.slice q L.length cq) L.length (L.map bv) → ∀ i, i < L.length → ∃ b o, q = some ⟨b, o, none⟩ ∧ w'.cell? ⟨b, o + i, none⟩ = some (.int .u8 (L.getD i 0)) := by
    intro w' bs' q cq h i hi
    obtain ⟨g', cap', q1, _, _, _, hc, _⟩ := own_cells_of h i (bv (L.getD i 0)) (by simp [hi])
    simp only [Value.slice.injEq] at q1
    exact ⟨g', 0, q1.1, by rw [Nat.zero_add]; exact hc⟩
  refine sameBytes_any _ _ _ _ _ _ (fun i => L.getD i 0) (fun i => L.getD i 0) _ _ (by omega) (by omega) (hcb HV4.out.1) (hcb HV4'.out) ?_
  intro w5 hb5
  have hdec : decide (L.length = L.length ∧ ∀ i, i < L.length → L.getD i 0 = L.getD i 0) = true := by simp
  rw [hdec]
  have HW5 : Hid (WK Z base B own3 w5 f xs ms em last many) := HW4.out.ext hb5
  have HO5 : Hid (OpAt w5 O kind a N c al n cl bb ∧ own3 O = (9, 0) ∧ base ≤ O) := ⟨HO4.out.1.ext hb5, HO4.out.2⟩
  have HL5 : Hid (w5.ownsRow base 42 10 (.slice (some ⟨g, 0, none⟩) (n + 1) (n + 1)) (n + 1) (told (ecell es n) ((n + 1) * 10)) ∧ own3 g = (5, ((xs 8).length : Int))) := ⟨(own_stays' HL4.out.1 (tag := own3 g) (fun q hq => by simp [Value.ownBlock] at hq; rw [← hq]) (Stays.of_below hb5) trivial).1, HL4.out.2⟩
  have HV5 : Hid (w5.ownsRow base 5 1 (.slice av L.length cv) L.length (L.map bv) ∧ ∀ g, (Value.slice av L.length cv).ownBlock = some g → own3 g = (2, ((many + 1 : Nat) : Int))) := own_stays' HV4.out.1 HV4.out.2 (Stays.of_below hb5) trivial
  have HB5 : Hid (Below w.heap.size w w5) := HB4.out.trans (hb5.mono HB4.out.size)
  have he : (e != e) = false := by simp
  have hp : ((p : Int) != (p : Int)) = false := by simp
  clear hb5 hdec hcb HW4 HO4 HL4 HB4 HV4 HV4'
  go_wp2_with fail
  clear he hp
  go_loopw [14, 15, 16] (fun t _ _ wr => ∃ (i : Nat) (zs : List Value), i ≤ n + 1 ∧ t = .int .i64 i ∧ wr.ownsRow base 42 10 (.slice (some ⟨g, 0, none⟩) (n + 1) (n + 1)) (n + 1) zs ∧ (∀ k, k < i * 10 → zs[k]? = some (kcell (-7) k)) ∧ (∀ k, i * 10 ≤ k → k < (n + 1) * 10 → zs[k]? = some (ecell es n k)) ∧ Stays base own3 (fun t => t ≠ (5, ((xs 8).length : Int))) w5 own3 wr ∧ Below w.heap.size w5 wr) (fun t _ _ _ => n + 1 - (intOf t).toNat)
  case atStart => exact ⟨0, _, Nat.zero_le _, rfl, HL5.out.1, fun k hk => absurd hk (by omega), fun k _ hk => told_get _ _ _ hk, ⟨Nat.le_refl _, fun _ _ => rfl, fun _ _ _ _ => rfl⟩, Below.refl _ _⟩
  case round =>
    obtain ⟨i, zs, hi, rfl, ho, hk, hke, hs, hb⟩ := hrel
    by_cases hlt : i < n + 1
    · have hyl : zs.length = (n + 1) * 10 := ho.1
      have d1 : ∀ j, j < 10 → wr.cell? ⟨g, i * 10 + j, none⟩ = some (.int .i64 (if i < n then es i j else 0)) ∧ wr.frozen? ⟨g, i * 10 + j, none⟩ = false := by
        intro j hj
        have h1 := hke (i * 10 + j) (by omega) (by omega)
        simp only [ecell] at h1
        rw [show (i * 10 + j) / 10 = i by omega, show (i * 10 + j) % 10 = j by omega] at h1
        obtain ⟨g', cap', q1, _, _, _, hc, hf⟩ := own_cells_of ho (i * 10 + j) _ h1
        simp only [Value.slice.injEq, Option.some.injEq, Addr.mk.injEq, and_true] at q1
        obtain ⟨rfl, -⟩ := q1
        exact ⟨hc, hf⟩
      have HH : Hid (wr.ownsRow base 42 10 (.slice (some ⟨g, 0, none⟩) (n + 1) (n + 1)) (n + 1) zs ∧ (∀ k, k < i * 10 → zs[k]? = some (kcell (-7) k)) ∧ (∀ k, i * 10 ≤ k → k < (n + 1) * 10 → zs[k]? = some (ecell es n k)) ∧ Stays base own3 (fun t => t ≠ (5, ((xs 8).length : Int))) w5 own3 wr ∧ Below w.heap.size w5 wr) := ⟨ho, hk, hke, hs, hb⟩
      have c2 := (HO5.out.1.stays hs HO5.out.2.2 HO5.out.2.1 (by simp)).1.cell2
      have HEV : Hid (EvsAt wr al n es) := HX.out.below (HB5.out.trans hb) (Nat.le_refl _)
      clear ho hk hke hs hb
      by_cases hin : i < n
      · simp only [if_pos hin] at d1
        obtain ⟨b, o, rfl, h2⟩ := HEV.out i hin
        have v0 := h2 0 (by decide)
        rw [Nat.add_zero] at v0
        have v1 := h2 1 (by decide)
        have v2 := h2 2 (by decide)
        have v3 := h2 3 (by decide)
        have v4 := h2 4 (by decide)
        have v5 := h2 5 (by decide)
        have v6 := h2 6 (by decide)
        have v7 := h2 7 (by decide)
        have v8 := h2 8 (by decide)
        have v9 := h2 9 (by decide)
        clear h2
        have HD1 : Hid (∀ j, j < 10 → wr.cell? ⟨g, i * 10 + j, none⟩ = some (.int .i64 (es i j)) ∧ wr.frozen? ⟨g, i * 10 + j, none⟩ = false) := d1
        have hOl := lt_of_cell c2
        have hbl := lt_of_cell v0
        have hgl := lt_of_cell (d1 0 (by decide)).1
        clear d1
        go_wp2_with fail
        obtain ⟨wq, hwq⟩ : ∃ y, y = wr.alloc (.cells #[.int .i64 (es i 0), .int .i64 (es i 1), .int .i64 (es i 2), .int .i64 (es i 3), .int .i64 (es i 4), .int .i64 (es i 5), .int .i64 (es i 6), .int .i64 (es i 7), .int .i64 (es i 8), .int .i64 (es i 9)] 42) := ⟨_, rfl⟩
        obtain ⟨Wb, hWb⟩ : ∃ y, y = wr.heap.size := ⟨_, rfl⟩
        rw [← hwq, ← hWb]
        have hbq : Below wr.heap.size wr wq := by rw [hwq]; exact (Below.refl _ _).alloc (Nat.le_refl _) _
        have hW6 : ∀ j, j < 10 → wq.cell? ⟨Wb, j, none⟩ = some (.int .i64 ((es i) j)) := by
          intro j hj
          rw [hwq, hWb, cell_of_row _ _ j _ _ (0, 0) (heap_alloc_new wr _)]
          rcases (show j = 0 ∨ j = 1 ∨ j = 2 ∨ j = 3 ∨ j = 4 ∨ j = 5 ∨ j = 6 ∨ j = 7 ∨ j = 8 ∨ j = 9 by omega) with rfl | rfl | rfl | rfl | rfl | rfl | rfl | rfl | rfl | rfl <;> rfl
        have d0 := (hbq.cell (p := ⟨g, i * 10 + 0, none⟩) (lt_of_cell (HD1.out 0 (by decide)).1)).trans (HD1.out 0 (by decide)).1
        have d1 := (hbq.cell (p := ⟨g, i * 10 + 1, none⟩) (lt_of_cell (HD1.out 1 (by decide)).1)).trans (HD1.out 1 (by decide)).1
        have d2 := (hbq.cell (p := ⟨g, i * 10 + 2, none⟩) (lt_of_cell (HD1.out 2 (by decide)).1)).trans (HD1.out 2 (by decide)).1
        have d3 := (hbq.cell (p := ⟨g, i * 10 + 3, none⟩) (lt_of_cell (HD1.out 3 (by decide)).1)).trans (HD1.out 3 (by decide)).1
        have d4 := (hbq.cell (p := ⟨g, i * 10 + 4, none⟩) (lt_of_cell (HD1.out 4 (by decide)).1)).trans (HD1.out 4 (by decide)).1
        have d5 := (hbq.cell (p := ⟨g, i * 10 + 5, none⟩) (lt_of_cell (HD1.out 5 (by decide)).1)).trans (HD1.out 5 (by decide)).1
        have d6 := (hbq.cell (p := ⟨g, i * 10 + 6, none⟩) (lt_of_cell (HD1.out 6 (by decide)).1)).trans (HD1.out 6 (by decide)).1
        have d7 := (hbq.cell (p := ⟨g, i * 10 + 7, none⟩) (lt_of_cell (HD1.out 7 (by decide)).1)).trans (HD1.out 7 (by decide)).1
        have d8 := (hbq.cell (p := ⟨g, i * 10 + 8, none⟩) (lt_of_cell (HD1.out 8 (by decide)).1)).trans (HD1.out 8 (by decide)).1
        have d9 := (hbq.cell (p := ⟨g, i * 10 + 9, none⟩) (lt_of_cell (HD1.out 9 (by decide)).1)).trans (HD1.out 9 (by decide)).1
        rw [Nat.add_zero] at d0
        have hst : sameEv (es i) (es i) = true := (sameEv_iff _ _).2 fun _ _ => rfl
        have KW : ∀ {w1 : World} (_ : Below wq.heap.size wq w1) (x : Addr) (v : Value), wq.cell? x = some v → w1.cell? x = some v := fun {w1} h x v hx => (h.cell (World.block_lt_of_cell? wq x hx)).trans hx
        have w60 := hW6 0 (by decide)
        have w61 := hW6 1 (by decide)
        have w62 := hW6 2 (by decide)
        have w63 := hW6 3 (by decide)
        have w64 := hW6 4 (by decide)
        have w65 := hW6 5 (by decide)
        have w66 := hW6 6 (by decide)
        have w67 := hW6 7 (by decide)
        have w68 := hW6 8 (by decide)
        have w69 := hW6 9 (by decide)
        have hi0 : (0 : Int) ≤ (i : Int) := by omega
        have hi1 : (i : Int) < (n : Int) + 1 := by omega
        clear v0 v1 v2 v3 v4 v5 v6 v7 v8 v9 c2 hOl hbl hgl hwq hWb
        go_region_held3 (fun w' => w'.cell? ⟨g, i * 10, none⟩ = some (.int .i64 (es i 0)) ∧ w'.cell? ⟨g, i * 10 + 1, none⟩ = some (.int .i64 (es i 1)) ∧ w'.cell? ⟨g, i * 10 + 2, none⟩ = some (.int .i64 (es i 2)) ∧ w'.cell? ⟨g, i * 10 + 3, none⟩ = some (.int .i64 (es i 3)) ∧ w'.cell? ⟨g, i * 10 + 4, none⟩ = some (.int .i64 (es i 4)) ∧ w'.cell? ⟨g, i * 10 + 5, none⟩ = some (.int .i64 (es i 5)) ∧ w'.cell? ⟨g, i * 10 + 6, none⟩ = some (.int .i64 (es i 6)) ∧ w'.cell? ⟨g, i * 10 + 7, none⟩ = some (.int .i64 (es i 7)) ∧ w'.cell? ⟨g, i * 10 + 8, none⟩ = some (.int .i64 (es i 8)) ∧ w'.cell? ⟨g, i * 10 + 9, none⟩ = some (.int .i64 (es i 9)) ∧ w'.cell? ⟨Wb, 0, none⟩ = some (.int .i64 (es i 0)) ∧ w'.cell? ⟨Wb, 1, none⟩ = some (.int .i64 (es i 1)) ∧ w'.cell? ⟨Wb, 2, none⟩ = some (.int .i64 (es i 2)) ∧ w'.cell? ⟨Wb, 3, none⟩ = some (.int .i64 (es i 3)) ∧ w'.cell? ⟨Wb, 4, none⟩ = some (.int .i64 (es i 4)) ∧ w'.cell? ⟨Wb, 5, none⟩ = some (.int .i64 (es i 5)) ∧ w'.cell? ⟨Wb, 6, none⟩ = some (.int .i64 (es i 6)) ∧ w'.cell? ⟨Wb, 7, none⟩ = some (.int .i64 (es i 7)) ∧ w'.cell? ⟨Wb, 8, none⟩ = some (.int .i64 (es i 8)) ∧ w'.cell? ⟨Wb, 9, none⟩ = some (.int .i64 (es i 9))) (first | go_keep | exact ⟨KW hb6 _ _ d0, KW hb6 _ _ d1, KW hb6 _ _ d2, KW hb6 _ _ d3, KW hb6 _ _ d4, KW hb6 _ _ d5, KW hb6 _ _ d6, KW hb6 _ _ d7, KW hb6 _ _ d8, KW hb6 _ _ d9, KW hb6 _ _ (hW6 0 (by decide)), KW hb6 _ _ (hW6 1 (by decide)), KW hb6 _ _ (hW6 2 (by decide)), KW hb6 _ _ (hW6 3 (by decide)), KW hb6 _ _ (hW6 4 (by decide)), KW hb6 _ _ (hW6 5 (by decide)), KW hb6 _ _ (hW6 6 (by decide)), KW hb6 _ _ (hW6 7 (by decide)), KW hb6 _ _ (hW6 8 (by decide)), KW hb6 _ _ (hW6 9 (by decide))⟩) (first | (go_at_call 42; refine SameEvent_of (es i) (es i) _ _ (by rfl) (by rfl) _ _ ?_; intro w6 hb6'; have hb6 : Below wq.heap.size wq w6 := Below.trans ((Below.refl _ _).drew) hb6'; rw [hst]))
        have HB6 : Hid (Below wr.heap.size wr w6) := hbq.trans (hb6.mono hbq.size)
        have hE : ∀ j, j < 10 → ∃ u, w6.cell? ⟨g, i * 10 + j, none⟩ = some u ∧ w6.frozen? ⟨g, i * 10 + j, none⟩ = false := fun j hj => ⟨_, (HB6.out.cell (p := ⟨g, i * 10 + j, none⟩) (lt_of_cell (HD1.out j hj).1)).trans (HD1.out j hj).1, (HB6.out.frozen (p := ⟨g, i * 10 + j, none⟩) (lt_of_cell (HD1.out j hj).1)).trans (HD1.out j hj).2⟩
        clear hb6 hb6' hbq d0 d1 d2 d3 d4 d5 d6 d7 d8 d9 w60 w61 w62 w63 w64 w65 w66 w67 w68 w69 KW hst hW6
        obtain ⟨y0, a0, b0⟩ := hE 0 (by decide)
        obtain ⟨y1, a1, b1⟩ := hE 1 (by decide)
        obtain ⟨y2, a2, b2⟩ := hE 2 (by decide)
        obtain ⟨y3, a3, b3⟩ := hE 3 (by decide)
        obtain ⟨y4, a4, b4⟩ := hE 4 (by decide)
        obtain ⟨y5, a5, b5⟩ := hE 5 (by decide)
        obtain ⟨y6, a6, b6⟩ := hE 6 (by decide)
        obtain ⟨y7, a7, b7⟩ := hE 7 (by decide)
        obtain ⟨y8, a8, b8⟩ := hE 8 (by decide)
        obtain ⟨y9, a9, b9⟩ := hE 9 (by decide)
        rw [Nat.add_zero] at a0 b0
        have HE : Hid (∃ zs', (set10 w6 g (i * 10) (-7)).ownsRow base 42 10 (.slice (some ⟨g, 0, none⟩) (n + 1) (n + 1)) (n + 1) zs' ∧ (∀ k, k < (i + 1) * 10 → zs'[k]? = some (kcell (-7) k)) ∧ (∀ k, (i + 1) * 10 ≤ k → k < (n + 1) * 10 → zs'[k]? = some (ecell es n k)) ∧ Stays base own3 (fun t => t ≠ (5, ((xs 8).length : Int))) w5 own3 (set10 w6 g (i * 10) (-7)) ∧ Below w.heap.size w5 (set10 w6 g (i * 10) (-7))) := by
          obtain ⟨q1, q2, q3, q4, q5⟩ := HH.out
          have q1' := (own_stays' (tag := own3 g) q1 (fun q hq => by simp [Value.ownBlock] at hq; rw [← hq]) (Stays.of_below (own := own3) HB6.out) trivial).1
          have q4' := q4.trans ((Stays.of_below (base := base) (own := own3) HB6.out).mono fun _ _ => trivial)
          have q5' := q5.trans (HB6.out.mono (Nat.le_trans HB5.out.size q5.size))
          obtain ⟨zs', r1, r2, r3, r4, r5⟩ := paint10 q1' hlt q2 q4' HL5.out.2 q5' hgw
          exact ⟨zs', r1, r2, fun k hk1 hk2 => (r5 k hk1).trans (q3 k (by omega) hk2), r3, r4⟩
        clear hE HH
        go_wp2_with fail
        go_roundw
        case rel =>
          obtain ⟨zs', r1, r2, r3, r4, r5⟩ := HE.out
          exact ⟨i + 1, zs', by omega, by go_num, r1, r2, r3, r4, r5⟩
        case measure => simp only [intOf]; omega
      · simp only [if_neg hin] at d1
        have HD1 : Hid (∀ j, j < 10 → wr.cell? ⟨g, i * 10 + j, none⟩ = some (.int .i64 0) ∧ wr.frozen? ⟨g, i * 10 + j, none⟩ = false) := d1
        have hOl := lt_of_cell c2
        have hgl := lt_of_cell (d1 0 (by decide)).1
        clear d1
        go_wp2_with fail
        obtain ⟨wq, hwq⟩ : ∃ y, y = wr.alloc (.cells #[.int .i64 (0), .int .i64 (0), .int .i64 (0), .int .i64 (0), .int .i64 (0), .int .i64 (0), .int .i64 (0), .int .i64 (0), .int .i64 (0), .int .i64 (0)] 42) := ⟨_, rfl⟩
        obtain ⟨Wb, hWb⟩ : ∃ y, y = wr.heap.size := ⟨_, rfl⟩
        rw [← hwq, ← hWb]
        have hbq : Below wr.heap.size wr wq := by rw [hwq]; exact (Below.refl _ _).alloc (Nat.le_refl _) _
        have hW6 : ∀ j, j < 10 → wq.cell? ⟨Wb, j, none⟩ = some (.int .i64 ((fun _ => (0 : Int)) j)) := by
          intro j hj
          rw [hwq, hWb, cell_of_row _ _ j _ _ (0, 0) (heap_alloc_new wr _)]
          rcases (show j = 0 ∨ j = 1 ∨ j = 2 ∨ j = 3 ∨ j = 4 ∨ j = 5 ∨ j = 6 ∨ j = 7 ∨ j = 8 ∨ j = 9 by omega) with rfl | rfl | rfl | rfl | rfl | rfl | rfl | rfl | rfl | rfl <;> rfl
        have d0 := (hbq.cell (p := ⟨g, i * 10 + 0, none⟩) (lt_of_cell (HD1.out 0 (by decide)).1)).trans (HD1.out 0 (by decide)).1
        have d1 := (hbq.cell (p := ⟨g, i * 10 + 1, none⟩) (lt_of_cell (HD1.out 1 (by decide)).1)).trans (HD1.out 1 (by decide)).1
        have d2 := (hbq.cell (p := ⟨g, i * 10 + 2, none⟩) (lt_of_cell (HD1.out 2 (by decide)).1)).trans (HD1.out 2 (by decide)).1
        have d3 := (hbq.cell (p := ⟨g, i * 10 + 3, none⟩) (lt_of_cell (HD1.out 3 (by decide)).1)).trans (HD1.out 3 (by decide)).1
        have d4 := (hbq.cell (p := ⟨g, i * 10 + 4, none⟩) (lt_of_cell (HD1.out 4 (by decide)).1)).trans (HD1.out 4 (by decide)).1
        have d5 := (hbq.cell (p := ⟨g, i * 10 + 5, none⟩) (lt_of_cell (HD1.out 5 (by decide)).1)).trans (HD1.out 5 (by decide)).1
        have d6 := (hbq.cell (p := ⟨g, i * 10 + 6, none⟩) (lt_of_cell (HD1.out 6 (by decide)).1)).trans (HD1.out 6 (by decide)).1
        have d7 := (hbq.cell (p := ⟨g, i * 10 + 7, none⟩) (lt_of_cell (HD1.out 7 (by decide)).1)).trans (HD1.out 7 (by decide)).1
        have d8 := (hbq.cell (p := ⟨g, i * 10 + 8, none⟩) (lt_of_cell (HD1.out 8 (by decide)).1)).trans (HD1.out 8 (by decide)).1
        have d9 := (hbq.cell (p := ⟨g, i * 10 + 9, none⟩) (lt_of_cell (HD1.out 9 (by decide)).1)).trans (HD1.out 9 (by decide)).1
        rw [Nat.add_zero] at d0
        have hst : sameEv (fun _ => (0 : Int)) (fun _ => (0 : Int)) = true := (sameEv_iff _ _).2 fun _ _ => rfl
        have KW : ∀ {w1 : World} (_ : Below wq.heap.size wq w1) (x : Addr) (v : Value), wq.cell? x = some v → w1.cell? x = some v := fun {w1} h x v hx => (h.cell (World.block_lt_of_cell? wq x hx)).trans hx
        have w60 := hW6 0 (by decide)
        have w61 := hW6 1 (by decide)
        have w62 := hW6 2 (by decide)
        have w63 := hW6 3 (by decide)
        have w64 := hW6 4 (by decide)
        have w65 := hW6 5 (by decide)
        have w66 := hW6 6 (by decide)
        have w67 := hW6 7 (by decide)
        have w68 := hW6 8 (by decide)
        have w69 := hW6 9 (by decide)
        have hi0 : (0 : Int) ≤ (i : Int) := by omega
        have hi1 : (i : Int) < (n : Int) + 1 := by omega
        clear c2 hOl hgl hwq hWb
        go_region_held3 (fun w' => w'.cell? ⟨g, i * 10, none⟩ = some (.int .i64 (0)) ∧ w'.cell? ⟨g, i * 10 + 1, none⟩ = some (.int .i64 (0)) ∧ w'.cell? ⟨g, i * 10 + 2, none⟩ = some (.int .i64 (0)) ∧ w'.cell? ⟨g, i * 10 + 3, none⟩ = some (.int .i64 (0)) ∧ w'.cell? ⟨g, i * 10 + 4, none⟩ = some (.int .i64 (0)) ∧ w'.cell? ⟨g, i * 10 + 5, none⟩ = some (.int .i64 (0)) ∧ w'.cell? ⟨g, i * 10 + 6, none⟩ = some (.int .i64 (0)) ∧ w'.cell? ⟨g, i * 10 + 7, none⟩ = some (.int .i64 (0)) ∧ w'.cell? ⟨g, i * 10 + 8, none⟩ = some (.int .i64 (0)) ∧ w'.cell? ⟨g, i * 10 + 9, none⟩ = some (.int .i64 (0)) ∧ w'.cell? ⟨Wb, 0, none⟩ = some (.int .i64 (0)) ∧ w'.cell? ⟨Wb, 1, none⟩ = some (.int .i64 (0)) ∧ w'.cell? ⟨Wb, 2, none⟩ = some (.int .i64 (0)) ∧ w'.cell? ⟨Wb, 3, none⟩ = some (.int .i64 (0)) ∧ w'.cell? ⟨Wb, 4, none⟩ = some (.int .i64 (0)) ∧ w'.cell? ⟨Wb, 5, none⟩ = some (.int .i64 (0)) ∧ w'.cell? ⟨Wb, 6, none⟩ = some (.int .i64 (0)) ∧ w'.cell? ⟨Wb, 7, none⟩ = some (.int .i64 (0)) ∧ w'.cell? ⟨Wb, 8, none⟩ = some (.int .i64 (0)) ∧ w'.cell? ⟨Wb, 9, none⟩ = some (.int .i64 (0))) (first | go_keep | exact ⟨KW hb6 _ _ d0, KW hb6 _ _ d1, KW hb6 _ _ d2, KW hb6 _ _ d3, KW hb6 _ _ d4, KW hb6 _ _ d5, KW hb6 _ _ d6, KW hb6 _ _ d7, KW hb6 _ _ d8, KW hb6 _ _ d9, KW hb6 _ _ (hW6 0 (by decide)), KW hb6 _ _ (hW6 1 (by decide)), KW hb6 _ _ (hW6 2 (by decide)), KW hb6 _ _ (hW6 3 (by decide)), KW hb6 _ _ (hW6 4 (by decide)), KW hb6 _ _ (hW6 5 (by decide)), KW hb6 _ _ (hW6 6 (by decide)), KW hb6 _ _ (hW6 7 (by decide)), KW hb6 _ _ (hW6 8 (by decide)), KW hb6 _ _ (hW6 9 (by decide))⟩) (first | (go_at_call 42; refine SameEvent_of (fun _ => (0 : Int)) (fun _ => (0 : Int)) _ _ (by rfl) (by rfl) _ _ ?_; intro w6 hb6'; have hb6 : Below wq.heap.size wq w6 := Below.trans ((Below.refl _ _).drew) hb6'; rw [hst]))
        have HB6 : Hid (Below wr.heap.size wr w6) := hbq.trans (hb6.mono hbq.size)
        have hE : ∀ j, j < 10 → ∃ u, w6.cell? ⟨g, i * 10 + j, none⟩ = some u ∧ w6.frozen? ⟨g, i * 10 + j, none⟩ = false := fun j hj => ⟨_, (HB6.out.cell (p := ⟨g, i * 10 + j, none⟩) (lt_of_cell (HD1.out j hj).1)).trans (HD1.out j hj).1, (HB6.out.frozen (p := ⟨g, i * 10 + j, none⟩) (lt_of_cell (HD1.out j hj).1)).trans (HD1.out j hj).2⟩
        clear hb6 hb6' hbq d0 d1 d2 d3 d4 d5 d6 d7 d8 d9 w60 w61 w62 w63 w64 w65 w66 w67 w68 w69 KW hst hW6
        obtain ⟨y0, a0, b0⟩ := hE 0 (by decide)
        obtain ⟨y1, a1, b1⟩ := hE 1 (by decide)
        obtain ⟨y2, a2, b2⟩ := hE 2 (by decide)
        obtain ⟨y3, a3, b3⟩ := hE 3 (by decide)
        obtain ⟨y4, a4, b4⟩ := hE 4 (by decide)
        obtain ⟨y5, a5, b5⟩ := hE 5 (by decide)
        obtain ⟨y6, a6, b6⟩ := hE 6 (by decide)
        obtain ⟨y7, a7, b7⟩ := hE 7 (by decide)
        obtain ⟨y8, a8, b8⟩ := hE 8 (by decide)
        obtain ⟨y9, a9, b9⟩ := hE 9 (by decide)
        rw [Nat.add_zero] at a0 b0
        have HE : Hid (∃ zs', (set10 w6 g (i * 10) (-7)).ownsRow base 42 10 (.slice (some ⟨g, 0, none⟩) (n + 1) (n + 1)) (n + 1) zs' ∧ (∀ k, k < (i + 1) * 10 → zs'[k]? = some (kcell (-7) k)) ∧ (∀ k, (i + 1) * 10 ≤ k → k < (n + 1) * 10 → zs'[k]? = some (ecell es n k)) ∧ Stays base own3 (fun t => t ≠ (5, ((xs 8).length : Int))) w5 own3 (set10 w6 g (i * 10) (-7)) ∧ Below w.heap.size w5 (set10 w6 g (i * 10) (-7))) := by
          obtain ⟨q1, q2, q3, q4, q5⟩ := HH.out
          have q1' := (own_stays' (tag := own3 g) q1 (fun q hq => by simp [Value.ownBlock] at hq; rw [← hq]) (Stays.of_below (own := own3) HB6.out) trivial).1
          have q4' := q4.trans ((Stays.of_below (base := base) (own := own3) HB6.out).mono fun _ _ => trivial)
          have q5' := q5.trans (HB6.out.mono (Nat.le_trans HB5.out.size q5.size))
          obtain ⟨zs', r1, r2, r3, r4, r5⟩ := paint10 q1' hlt q2 q4' HL5.out.2 q5' hgw
          exact ⟨zs', r1, r2, fun k hk1 hk2 => (r5 k hk1).trans (q3 k (by omega) hk2), r3, r4⟩
        clear hE HH
        go_wp2_with fail
        go_roundw
        case rel =>
          obtain ⟨zs', r1, r2, r3, r4, r5⟩ := HE.out
          exact ⟨i + 1, zs', by omega, by go_num, r1, r2, r3, r4, r5⟩
        case measure => simp only [intOf]; omega
    · have hi' : i = n + 1 := by omega
      subst hi'
      have HO : Hid (wr.ownsRow base 42 10 (.slice (some ⟨g, 0, none⟩) (n + 1) (n + 1)) (n + 1) (told (kcell (-7)) ((n + 1) * 10))) := by
        rw [← told_of ho.1 hk]
        exact ho
      have HWr : Hid (WK Z base B own3 wr f xs ms em last many) := HW5.out.stays hs (by simp) (by simp) (by simp) (by simp) (by simp) (by intro q hq; simp; omega)
      have HVr : Hid (wr.ownsRow base 5 1 (.slice av L.length cv) L.length (L.map bv) ∧ ∀ g, (Value.slice av L.length cv).ownBlock = some g → own3 g = (2, ((many + 1 : Nat) : Int))) := own_stays' HV5.out.1 HV5.out.2 hs (by simp)
      have HBr : Hid (Below base w wr) := (HB5.out.trans hb).mono hbase
      have c8 := HWr.out.wj.cell 8 (by decide)
      have r8 := HWr.out.wj.rows 8 (by simp [isRow])
      have hsz : base ≤ wr.heap.size := by have := lt_of_heap HWr.out.wj.blk; have := HWr.out.wj.hB; omega
      have h67 : (xs 8).length + 1 ≤ 1073741824 := by have := H7.out.1; have := HWr.out.hZ; omega
      obtain ⟨a8, k8, e8⟩ := own_form r8
      have F8 : Hid (f 8 = .slice a8 (xs 8).length k8) := e8
      rw [e8] at c8 r8
      have R8 : Hid (wr.ownsRow base 32 1 (.slice a8 (xs 8).length k8) (xs 8).length (xs 8)) := r8
      clear ho hk hke hs hb r8 e8
      obtain ⟨wa, hwa⟩ : ∃ y, y = wr := ⟨_, rfl⟩
      subst hwa
      go_wp2_with (at_builtin; go_must (refine push_one base 1 24 (xs 8).length _ (xs 8) _ R8.out hsz Tryz.infoEvents rfl (by decide) rfl ?c2 ?c3 (by decide) _ _ 28 Tryz.underlying28 rfl rfl rfl rfl ?_))
      case c2 => simp [Value.oneCell']
      case c3 => exact h67
      intro v1 w6 hG
      obtain ⟨a1, k1, rfl⟩ := own_form hG.own
      have HG2 : Hid (Grew base (ty 8) 1 wa (f 8) w6 (.slice a1 ((xs 8).length + 1) k1) ((xs 8).length + 1) (xs 8 ++ [.slice (some ⟨g, 0, none⟩) (n + 1) (n + 1)])) := by rw [F8.out]; exact hG
      clear hG c8
      obtain ⟨hc, hz, hbb⟩ := HWr.out.wj.grew 8 (by simp [isRow]) HG2.out
      have c8 : w6.cell? ⟨B, 8, none⟩ = some (f 8) := (hc 8).trans (HWr.out.wj.cell 8 (by decide))
      have z8 := hz 8
      obtain ⟨hw7, hs7⟩ := HWr.out.push8 H7.out.1 HG2.out (EntN.own HO.out (fun q hq => by simp [Value.ownBlock] at hq; rw [← hq]; exact HL5.out.2) (by omega)).1
      have HW7 : Hid (WK Z base B (newTag own3 wa (.slice a1 ((xs 8).length + 1) k1) (1, 8)) (w6.setCell ⟨B, 8, none⟩ (.slice a1 ((xs 8).length + 1) k1)) (fun i => if i = 8 then .slice a1 ((xs 8).length + 1) k1 else f i) (fun i => if i = 8 then xs 8 ++ [.slice (some ⟨g, 0, none⟩) (n + 1) (n + 1)] else xs i) ms em last many) := hw7
      have HV7 : Hid ((w6.setCell ⟨B, 8, none⟩ (.slice a1 ((xs 8).length + 1) k1)).ownsRow base 5 1 (.slice av L.length cv) L.length (L.map bv) ∧ ∀ g, (Value.slice av L.length cv).ownBlock = some g → newTag own3 wa (.slice a1 ((xs 8).length + 1) k1) (1, 8) g = (2, ((many + 1 : Nat) : Int))) := own_stays' HVr.out.1 HVr.out.2 hs7 (by simp)
      have HB7 : Hid (Below base w (w6.setCell ⟨B, 8, none⟩ (.slice a1 ((xs 8).length + 1) k1))) := HBr.out.trans hbb
      clear hc hz hbb hw7 hs7
      go_wp2_with fail
      clear c8 z8
      obtain ⟨w7, hw7⟩ : ∃ y, y = w6.setCell ⟨B, 8, none⟩ (.slice a1 ((xs 8).length + 1) k1) := ⟨_, rfl⟩
      rw [← hw7] at HW7 HV7 HB7 ⊢
      refine kept_w HW7.out ?_
      intro w8 hb8
      have HW8 := HW7.out.ext hb8
      obtain ⟨v8, t8⟩ := own_stays' HV7.out.1 HV7.out.2 (Stays.of_below hb8) trivial
      have HB8 : Hid (Below base w w8) := HB7.out.trans (hb8.mono (by have := HB7.out.size; omega))
      have HK8 : Hid (∀ (R' : Ending → World → Prop), (∀ own' f' xs' ms' w', WK Z base B own' w' f' xs' ms' em last (many + 1) → (xs' 1).length = (xs 1).length + 4 → (xs' 5).length = (xs 5).length → (xs' 7).length = (xs 7).length → (xs' 8).length = (xs 8).length + 1 → Below base w8 w' → R' (.returned (.tuple #[])) w') → Calls Tryz.prog 73 #[.pointer (some ⟨B, 0, none⟩), .slice av L.length cv] w8 R') := by
        intro R' hR'
        refine keepBytes_w HW8 (by simpa using H7.out.2.1) H7.out.2.2 (by omega) v8 t8 ?_
        intro own' f' xs' ms' w' q1 q2 q3 q4
        exact hR' own' f' xs' ms' w' q1 (by simpa using q3) (by rw [q2 5 (by decide) (by decide)]; simp) (by rw [q2 7 (by decide) (by decide)]; simp) (by rw [q2 8 (by decide) (by decide)]; simp) q4
      clear hb8 HW8 v8 t8 hw7
      go_wp2_with fail
      refine HK8.out _ ?_
      intro own9 f9 xs9 ms9 w9 q1 q2 q3 q4 q5 q6
      have hfin : Hid (R (.returned (.bool true)) w9) := HR.out own9 f9 xs9 ms9 w9 q1 q2 q3 q4 q5 (HB8.out.trans q6)
      clear q1 q2 q3 q4 q5 q6
      go_wp2_with fail
      exact hfin.out
#print axioms encodes_w
end Go.Proofs.YtmiiejinahnpkaaGreatDoor
