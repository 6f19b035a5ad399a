/- What the small functions of the law answer: digit, sameBytes. -/
import Derived.Test.YtmiiejinahnpkaaGreatDoorProg
import Derived.Test.YtmiiejinahnpkaaGreatDoorAa
import Derived.BigQuiet
import Derived.Deep.QuietTactic
namespace Go.Proofs.YtmiiejinahnpkaaGreatDoor
open Go.RowKit

theorem dg_step (n k : Nat) : n / 251 ^ k / 251 = n / 251 ^ (k + 1) := by rw [Nat.div_div_eq_div_mul, Nat.pow_succ]

set_option maxHeartbeats 400000 in
theorem digit_any (n d : Nat) (w : World) (R : Ending → World → Prop) (hn : n ≤ 1073741824) (hd : d ≤ 3) (hR : R (.returned (.int .u8 (dg n d))) w) :
    Calls Tryz.prog 78 #[.int .i64 n, .int .i64 d] w R := by
  go_enter Tryz.func78, Tryz.ntmps78
  go_wp2
  go_loop [0, 5] (fun t i => ∃ k : Nat, k ≤ d ∧ i = .int .i64 k ∧ t = .int .i64 ((n / 251 ^ k : Nat) : Int)) (fun _ i => d - (intOf i).toNat)
  case atStart => exact ⟨0, Nat.zero_le _, rfl, by simp⟩
  case round =>
    obtain ⟨k, hk, rfl, rfl⟩ := hrel
    have hle : n / 251 ^ k ≤ n := Nat.div_le_self _ _
    by_cases hlt : k < d
    · have hst := dg_step n k
      generalize n / 251 ^ k = t at *
      have HS : Hid (t / 251 = n / 251 ^ (k + 1)) := hst
      clear hst hR
      go_wp2
      go_round
      case rel => exact ⟨k + 1, by omega, by go_num, by rw [← HS.out]; go_num⟩
      case measure => simp [intOf]; omega
    · have hk' : k = d := by omega
      subst hk'
      have hR' : Hid (R (.returned (.int .u8 (((n / 251 ^ k) % 251 : Nat) : Int))) w) := hR
      clear hR
      generalize n / 251 ^ k = t at *
      go_wp2
      refine ret_val hR'.out ?_
      simp

set_option maxHeartbeats 400000 in
theorem sameBytes_any (a1 a2 : Option Addr) (n1 c1 n2 c2 : Nat) (xs ys : Nat → Int) (w : World) (R : Ending → World → Prop) (h1 : n1 ≤ 1073741824) (h2 : n2 ≤ 1073741824)
   (hx : ∀ i, i < n1 → ∃ b o, a1 = some ⟨b, o, none⟩ ∧ w.cell? ⟨b, o + i, none⟩ = some (.int .u8 (xs i))) (hy : ∀ i, i < n2 → ∃ b o, a2 = some ⟨b, o, none⟩ ∧ w.cell? ⟨b, o + i, none⟩ = some (.int .u8 (ys i)))
   (hR : ∀ w', Below w.heap.size w w' → R (.returned (.bool (decide (n1 = n2 ∧ ∀ i, i < n1 → xs i = ys i)))) w') :
    Calls Tryz.prog 16 #[.slice a1 n1 c1, .slice a2 n2 c2] w R := by
  by_cases hn : n1 = n2
  · subst hn
    go_enter Tryz.func16, Tryz.ntmps16
    go_wp2
    go_loopw [5] (fun i wr => ∃ k : Nat, k ≤ n1 ∧ i = .int .i64 k ∧ (∀ j, j < k → xs j = ys j) ∧ Below w.heap.size w wr) (fun i _ => n1 - (intOf i).toNat)
    case atStart => exact ⟨0, Nat.zero_le _, rfl, fun j hj => absurd hj (by omega), Below.refl _ _⟩
    case round =>
      obtain ⟨k, hk, rfl, hj, hb⟩ := hrel
      by_cases hlt : k < n1
      · obtain ⟨b1, o1, rfl, gx0⟩ := hx k hlt
        obtain ⟨b2, o2, rfl, gy0⟩ := hy k hlt
        have gx := (hb.cell (p := ⟨b1, o1 + k, none⟩) (lt_of_cell gx0)).trans gx0
        have gy := (hb.cell (p := ⟨b2, o2 + k, none⟩) (lt_of_cell gy0)).trans gy0
        by_cases he : xs k = ys k
        · have hf : (xs k != ys k) = false := by simp [he]
          clear hx hy hR gx0 gy0
          go_wp2
          go_quiet (fail)
          go_wp2
          go_roundw
          case rel => exact ⟨k + 1, by omega, by go_num, fun j hjk => by rcases Nat.lt_succ_iff_lt_or_eq.1 hjk with h | h; exact hj j h; subst h; exact he, below_drewN hb _⟩
          case measure => simp [intOf]; omega
        · have hf : (xs k != ys k) = true := by simp [he]
          have hR' : Hid (∀ w', Below w.heap.size w w' → R (.returned (.bool false)) w') := fun w' hb => ret_bool (hR w' hb) (by simp; exact ⟨k, hlt, he⟩)
          clear hx hy hR gx0 gy0
          go_wp2
          go_quiet (fail)
          go_wp2
          exact hR'.out _ (below_drewN hb _)
      · have hR' : Hid (∀ w', Below w.heap.size w w' → R (.returned (.bool true)) w') := fun w' hb => ret_bool (hR w' hb) (by simp; exact fun i hi => hj i (by omega))
        clear hx hy hR hj
        go_wp2
        exact hR'.out _ hb
  · have hf : ((n1 : Int) != n2) = true := by simp; omega
    have hR' : Hid (R (.returned (.bool false)) w) := ret_bool (hR w (Below.refl _ _)) (by simp [hn])
    clear hx hy hR
    go_enter Tryz.func16, Tryz.ntmps16
    go_wp2
    exact hR'.out
#print axioms sameBytes_any
end Go.Proofs.YtmiiejinahnpkaaGreatDoor
