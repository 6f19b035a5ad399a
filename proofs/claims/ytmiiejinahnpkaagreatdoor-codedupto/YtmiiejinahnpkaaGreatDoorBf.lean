/- What Fits (of the program) answers: whether an event can be told in bytes. -/
import Derived.Test.YtmiiejinahnpkaaGreatDoorBb
import Derived.Test.YtmiiejinahnpkaaGreatDoorBd
import Derived.ChangeKeysEq
namespace Go.Proofs.YtmiiejinahnpkaaGreatDoor
open Go.RowKit

/-- the table of layouts lies in memory as the program's text has it -/
def LayAt (w : World) : Prop := ∀ k : Nat, 1 ≤ k → k ≤ 8 → ∃ b o c, w.cell? ⟨0, k, none⟩ = some (.slice (some ⟨b, o, none⟩) (lay k).length c) ∧
  ∀ i f, (lay k)[i]? = some f → w.cell? ⟨b, o + i, none⟩ = some (.int .i64 (f : Nat))

theorem LayAt.below {w w' : World} {B : Nat} (h : LayAt w) (hb : Below B w w') (hB : w.heap.size ≤ B) : LayAt w' := by
  intro k h1 h2
  obtain ⟨b, o, c, h3, h4⟩ := h k h1 h2
  refine ⟨b, o, c, (hb.cell (Nat.lt_of_lt_of_le (lt_of_cell h3) hB)).trans h3, fun i f hf => ?_⟩
  exact (hb.cell (Nat.lt_of_lt_of_le (lt_of_cell (h4 i f hf)) hB)).trans (h4 i f hf)

theorem Tryz.isAggInt (w : World) : (isAgg 2).run Tryz.prog w = .ok false w := by kernel_rfl
theorem Tryz.cellsInt64 : Tryz.prog.cellsOf 2 = 1 := by kernel_rfl
theorem Tryz.infoInt64 : ∃ i, Tryz.prog.info? 2 = some i := info_of_underlying Tryz.underlying2

theorem part_int (xs : Array Value) (i : Nat) (v : Value) (h : xs[i]? = some v) (w : World) : (part 2 xs i).run Tryz.prog w = .ok v w := by
  simp only [part, Sem.run_bind, Tryz.isAggInt, Result.andThen_ok]
  simp [h]

theorem eqItems_step (xs ys : Array Value) (i : Nat) (is : List Nat) (a b : Int) (r : Bool) (d : Nat) (w : World) (h1 : xs[i]? = some (.int .i64 a)) (h2 : ys[i]? = some (.int .i64 b))
    (h : (Op.eqItems (d + 1) 2 1 xs ys is).run Tryz.prog w = .ok r w) : (Op.eqItems (d + 1) 2 1 xs ys (i :: is)).run Tryz.prog w = .ok ((a == b) && r) w := by
  simp only [Op.eqItems, Sem.run_bind, Nat.mul_one, part_int xs i _ h1, part_int ys i _ h2, Result.andThen_ok, run_equalIn_int w d 2 .i64 .i64 a b Tryz.underlying2]
  cases hab : (a == b)
  · simp
  · simpa using h

theorem arr8_eq (x : Nat → Int) (w : World) : (binOp .eql 131 (.agg #[.int .i64 (x 0), .int .i64 (x 1), .int .i64 (x 2), .int .i64 (x 3), .int .i64 (x 4), .int .i64 (x 5), .int .i64 (x 6), .int .i64 (x 7)]) (.agg #[.int .i64 0, .int .i64 0, .int .i64 0, .int .i64 0, .int .i64 0, .int .i64 0, .int .i64 0, .int .i64 0])).run Tryz.prog w =
    .ok (.bool ((List.range 8).all fun i => x i == 0)) w := by
  obtain ⟨i0, hi⟩ := Tryz.infoInt64
  rw [run_eql_struct, run_equalIn_array w 9999 _ _ Tryz.underlying131 hi, Tryz.cellsInt64]
  have h : ∀ (is : List Nat), (∀ i ∈ is, i < 8) → (Op.eqItems 9999 2 1 #[.int .i64 (x 0), .int .i64 (x 1), .int .i64 (x 2), .int .i64 (x 3), .int .i64 (x 4), .int .i64 (x 5), .int .i64 (x 6), .int .i64 (x 7)] #[.int .i64 0, .int .i64 0, .int .i64 0, .int .i64 0, .int .i64 0, .int .i64 0, .int .i64 0, .int .i64 0] is).run Tryz.prog w = .ok (is.all fun i => x i == 0) w := by
    intro is
    induction is with
    | nil => intro _; simp [Op.eqItems]
    | cons i is ih =>
      intro hm
      have hi8 : i < 8 := hm i (by simp)
      have h2 := v8_cells (fun _ => 0) i hi8
      exact eqItems_step _ _ i is (x i) 0 _ 9998 w (v8_cells x i hi8) h2 (ih fun q hq => hm q (by simp [hq]))
  rw [h (List.range 8) (by intro i hi; simpa using hi)]
  simp

set_option maxHeartbeats 1000000 in
theorem Fits_kind (e : Nat → Int) (w : World) (R : Ending → World → Prop) (hL : LayAt w) (k : Nat) (hk1 : 1 ≤ k) (hk8 : k ≤ 8) (hk : e 0 = k) (hn : isN (e 1) = true) (hR : ∀ w', Below w.heap.size w w' → R (.returned (.bool (fits e))) w') :
    Calls Tryz.prog 43 #[evv e] w R := by
  have hR' : Hid (∀ w', Below w.heap.size w w' → R (.returned (.bool (fits e))) w') := hR
  have HK : Hid (e 0 = k) := hk
  clear hR hk
  obtain ⟨b, o, c, ht, hc⟩ := hL k hk1 hk8
  have hl0 := lt_of_cell ht
  simp only [isN, decide_eq_true_eq] at hn
  obtain ⟨n, hnl⟩ : ∃ n, n = (lay k).length := ⟨_, rfl⟩
  have hn4 : n ≤ 4 := by rw [hnl]; exact lay_len k
  obtain ⟨fl, hfl⟩ : ∃ fl : Nat → Nat, fl = fun i => (lay k).getD i 0 := ⟨_, rfl⟩
  have hfc : ∀ i, i < n → w.cell? ⟨b, o + i, none⟩ = some (.int .i64 (fl i)) := by
    intro i hi
    rw [hfl]
    exact hc i _ (by simp only [List.getD_eq_getElem?_getD]; rw [List.getElem?_eq_getElem (by omega)]; rfl)
  have hf8 : ∀ i, i < n → fl i < 8 := by
    intro i hi
    rw [hfl]
    simp only [List.getD_eq_getElem?_getD]
    rw [List.getElem?_eq_getElem (by omega)]
    exact lay_lt k _ (List.getElem_mem _)
  rw [← hnl] at ht
  have HN : Hid (n = (lay k).length) := hnl
  have HF : Hid (fl = fun i => (lay k).getD i 0) := hfl
  clear hnl hfl hc
  unfold evv
  rw [HK.out]
  go_enter Tryz.func43, Tryz.ntmps43
  go_wp2_with fail
  refine isKind_any _ _ _ ?_
  go_wp2_with fail
  refine isNumber_any _ _ _ ?_
  go_wp2_with fail
  have hE : Ints (w.alloc (.cells #[.int .i64 (k : Int), .int .i64 (e 1), .int .i64 (e 2), .int .i64 (e 3), .int .i64 (e 4), .int .i64 (e 5), .int .i64 (e 6), .int .i64 (e 7), .int .i64 (e 8), .int .i64 (e 9)] 42)) w.heap.size 10 e := Ints.new 10 e (by rw [← HK.out]; exact evv_cells e)
  have hB0 : Below w.heap.size w (w.alloc (.cells #[.int .i64 (k : Int), .int .i64 (e 1), .int .i64 (e 2), .int .i64 (e 3), .int .i64 (e 4), .int .i64 (e 5), .int .i64 (e 6), .int .i64 (e 7), .int .i64 (e 8), .int .i64 (e 9)] 42)) := (Below.refl _ _).alloc (Nat.le_refl _) _
  have hs0 : w.heap.size < (w.alloc (.cells #[.int .i64 (k : Int), .int .i64 (e 1), .int .i64 (e 2), .int .i64 (e 3), .int .i64 (e 4), .int .i64 (e 5), .int .i64 (e 6), .int .i64 (e 7), .int .i64 (e 8), .int .i64 (e 9)] 42)).heap.size := by simp
  generalize w.alloc (.cells #[.int .i64 (k : Int), .int .i64 (e 1), .int .i64 (e 2), .int .i64 (e 3), .int .i64 (e 4), .int .i64 (e 5), .int .i64 (e 6), .int .i64 (e 7), .int .i64 (e 8), .int .i64 (e 9)] 42) = W0 at *
  refine values_of e _ ?_ _ _ ?_
  · simp [evv, HK.out]
  intro w1 hb1
  have hE1 := hE.ext hb1
  have hB1 := hB0.trans (hb1.mono (Nat.le_of_lt hs0))
  have hs1 := hb1.size
  clear hE hB0 hb1
  have hg1 := hE1.cell
  have ht1 := (hB1.cell hl0).trans ht
  have hlE := hE1.lt
  have hl1 : 0 < w1.heap.size := lt_of_cell ht1
  have hb0 : n ≠ 0 → b < w1.heap.size := fun h => lt_of_cell ((hB1.cell (lt_of_cell (hfc 0 (by omega)))).trans (hfc 0 (by omega)))
  have HFC : Hid (∀ i, i < n → w.cell? ⟨b, o + i, none⟩ = some (.int .i64 (fl i))) := hfc
  have HB1 : Hid (Below w.heap.size w w1) := hB1
  have HE1 : Hid (Ints w1 w.heap.size 10 e) := hE1
  have HS : Hid (w.heap.size < w1.heap.size) := by show _ < _; omega
  clear hL hfc hB1 hE1 ht hs0 hs1
  generalize hHE : w.heap.size = E at *
  have HHE : Hid (w.heap.size = E) := hHE
  clear hHE
  unfold v8
  have hk := HK.out
  go_wp2_with fail
  clear hk hg1 ht1 hlE hl1
  generalize hLB : w1.heap.size = L at *
  go_loopw [5, 23] (fun _ i wr => ∃ j : Nat, j ≤ n ∧ i = .int .i64 j ∧ Ints wr L 8 (struck e ((lay k).take j)) ∧ Below w.heap.size w wr ∧ ∀ q, q < j → fl q = 6 ∨ isN (e (fl q + 2)) = true) (fun _ i _ => n - (intOf i).toNat)
  case atStart =>
    refine ⟨0, Nat.zero_le _, rfl, ?_, ?_, fun q hq => absurd hq (by omega)⟩
    · rw [← hLB]
      have := Ints.new (w := w1) (t := 131) 8 (fun f => e (f + 2)) (v8_cells (fun f => e (f + 2)))
      exact this
    · have h1 := HB1.out
      have h2 := HHE.out
      rw [← h2] at h1
      exact h1.alloc (by have := h1.size; omega) _
  case round =>
    obtain ⟨j, hj, rfl, hI, hB, hq⟩ := hrel
    have hHE := HHE.out
    rw [hHE] at hB
    have hcl := hI.cell
    have hfr := hI.free
    have hlt := hI.lt
    by_cases hjn : j < n
    · have hc1 : wr.cell? ⟨b, o + j, none⟩ = some (.int .i64 (fl j)) := (hB.cell (by rw [← hHE]; exact lt_of_cell (HFC.out j hjn))).trans (HFC.out j hjn)
      have hf := hf8 j hjn
      have hx : struck e ((lay k).take j) (fl j) = e (fl j + 2) := by
        simp only [struck]
        rw [HF.out]
        simp only
        rw [if_neg]
        rw [lay_fresh k j (by rw [← HN.out]; exact hjn)]
        simp
      have hcx : wr.cell? ⟨L, fl j, none⟩ = some (.int .i64 (e (fl j + 2))) := by rw [← hx]; exact hcl _ hf
      have hst : Hid (Ints (wr.setCell ⟨L, fl j, none⟩ (.int .i64 0)) L 8 (struck e ((lay k).take (j + 1)))) := by
        have := hI.store (fl j) 0
        rw [HF.out] at this ⊢
        rw [← struck_step e k j (by rw [← HN.out]; exact hjn)]
        exact this
      have hfj := hfr (fl j)
      generalize hfv : fl j = f at *
      have HFV : Hid (fl j = f) := hfv
      have HQ : Hid (∀ q, q < j → fl q = 6 ∨ isN (e (fl q + 2)) = true) := hq
      have HB : Hid (Below E w wr) := hB
      have HI : Hid (Ints wr L 8 (struck e ((lay k).take j))) := hI
      clear hHE hcl hfr hx hfv hq hB hI hf8
      have hst' : Hid (Below w.heap.size w (wr.setCell ⟨L, f, none⟩ (.int .i64 0))) := by
        have h1 := HB.out
        rw [← HHE.out] at h1
        exact h1.setCell (by show w.heap.size ≤ L; rw [HHE.out]; exact Nat.le_of_lt HS.out) _
      by_cases h6 : f = 6
      · have h6' : ((f : Int) != 6) = false := by simp; omega
        have hq' : ∀ q, q < j + 1 → fl q = 6 ∨ isN (e (fl q + 2)) = true := by
          intro q hq
          by_cases hqj : q = j
          · exact .inl (by rw [hqj, HFV.out, h6])
          · exact HQ.out q (by omega)
        have HQ' : Hid (∀ q, q < j + 1 → fl q = 6 ∨ isN (e (fl q + 2)) = true) := hq'
        clear hq' HQ h6
        go_wp2_with fail
        go_roundw
        case rel => exact ⟨j + 1, by omega, by go_num, hst.out, hst'.out, HQ'.out⟩
        case measure => simp [intOf]; omega
      · have h6' : ((f : Int) != 6) = true := by simp; omega
        by_cases hN : isN (e (f + 2)) = true
        · have hq' : ∀ q, q < j + 1 → fl q = 6 ∨ isN (e (fl q + 2)) = true := by
            intro q hq
            by_cases hqj : q = j
            · exact .inr (by rw [hqj, HFV.out, hN])
            · exact HQ.out q (by omega)
          have HQ' : Hid (∀ q, q < j + 1 → fl q = 6 ∨ isN (e (fl q + 2)) = true) := hq'
          clear hq' HQ
          simp only [isN, decide_eq_true_eq] at hN
          go_wp2_with fail
          refine isNumber_any _ _ _ ?_
          go_wp2_with fail
          go_roundw
          case rel => exact ⟨j + 1, by omega, by go_num, hst.out, hst'.out, HQ'.out⟩
          case measure => simp [intOf]; omega
        · have hff : fits e = false := by
            rw [Bool.eq_false_iff]
            intro hf
            simp only [fits, Bool.and_eq_true, List.all_eq_true] at hf
            have h1 := hf.1.2 f (by
              rw [HK.out, ← HFV.out, HF.out]
              simp only [List.getD_eq_getElem?_getD]
              rw [List.getElem?_eq_getElem (by rw [← HN.out]; exact hjn)]
              exact List.getElem_mem _)
            simp [h6] at h1
            exact hN h1
          have hRf : Hid (R (.returned (.bool false)) wr) := ret_bool (hR'.out wr HB.out) hff
          clear hff
          have hN' : decide (0 ≤ e (f + 2) ∧ e (f + 2) ≤ 4294967295) = false := by simpa [isN] using hN
          clear hN
          go_wp2_with fail
          refine isNumber_any _ _ _ ?_
          rw [hN']
          go_wp2_with fail
          exact hRf.out
    · have hj' : j = n := by omega
      subst hj'
      have HI : Hid (Ints wr L 8 (struck e ((lay k).take j))) := hI
      have hall : (List.range 8).all (fun f => (lay (e 0)).contains f || e (f + 2) == 0) = (List.range 8).all fun i => struck e ((lay k).take j) i == 0 := by
        rw [HK.out, List.take_of_length_le (by rw [← HN.out]; omega)]
        congr 1
        funext i
        simp only [struck]
        cases (lay (k : Int)).contains i <;> simp
      have hff : fits e = (List.range 8).all fun i => struck e ((lay k).take j) i == 0 := by
        have h1 : isK (e 0) = true := by rw [HK.out]; simp [isK]; omega
        have h2 : isN (e 1) = true := by simp [isN, hn]
        have h3 : (lay (e 0)).all (fun f => f == 6 || isN (e (f + 2))) = true := by
          rw [List.all_eq_true]
          intro f hf
          rw [HK.out] at hf
          obtain ⟨i, hi, he⟩ := List.getElem_of_mem hf
          have := hq i (by have := HN.out; omega)
          rw [HF.out] at this
          simp only [List.getD_eq_getElem?_getD, List.getElem?_eq_getElem hi, Option.getD_some, he] at this
          rcases this with h | h
          · simp [h]
          · simp [h]
        rw [← hall]
        simp only [fits, h1, h2, h3, Bool.true_and]
      generalize struck e ((lay k).take j) = x at *
      have hRf : Hid (R (.returned (.bool ((List.range 8).all fun i => x i == 0))) wr) := ret_bool (hR'.out wr hB) hff
      clear hff hall hq
      have hop := arr8_eq x
      go_wp2_with fail
      refine ret_bool hRf.out ?_
      simp [List.range, List.range.loop]

set_option maxHeartbeats 1000000 in
theorem Fits_any (e : Nat → Int) (w : World) (R : Ending → World → Prop) (hL : LayAt w) (hR : ∀ w', Below w.heap.size w w' → R (.returned (.bool (fits e))) w') :
    Calls Tryz.prog 43 #[evv e] w R := by
  cases hk : isK (e 0) with
  | false =>
    have hR' : Hid (∀ w', Below w.heap.size w w' → R (.returned (.bool false)) w') := fun w' hb => ret_bool (hR w' hb) (by simp [fits, hk])
    clear hR
    have hk' : decide (1 ≤ e 0 ∧ e 0 ≤ 8) = false := hk
    clear hk
    unfold evv
    go_enter Tryz.func43, Tryz.ntmps43
    go_wp2_with fail
    refine isKind_any _ _ _ ?_
    rw [hk']
    go_wp2_with fail
    exact hR'.out _ ((Below.refl _ _).alloc (Nat.le_refl _) _)
  | true =>
    cases hn : isN (e 1) with
    | false =>
      have hR' : Hid (∀ w', Below w.heap.size w w' → R (.returned (.bool false)) w') := fun w' hb => ret_bool (hR w' hb) (by simp [fits, hn])
      clear hR
      have hk' : decide (1 ≤ e 0 ∧ e 0 ≤ 8) = true := hk
      have hn' : decide (0 ≤ e 1 ∧ e 1 ≤ 4294967295) = false := hn
      clear hk hn
      unfold evv
      go_enter Tryz.func43, Tryz.ntmps43
      go_wp2_with fail
      refine isKind_any _ _ _ ?_
      rw [hk']
      go_wp2_with fail
      refine isNumber_any _ _ _ ?_
      rw [hn']
      go_wp2_with fail
      exact hR'.out _ ((Below.refl _ _).alloc (Nat.le_refl _) _)
    | true =>
      have hk' : 1 ≤ e 0 ∧ e 0 ≤ 8 := by simpa [isK] using hk
      obtain ⟨k, hkk⟩ := Int.eq_ofNat_of_zero_le (show 0 ≤ e 0 by omega)
      exact Fits_kind e w R hL k (by omega) (by omega) hkk hn hR
#print axioms Fits_any
end Go.Proofs.YtmiiejinahnpkaaGreatDoor
