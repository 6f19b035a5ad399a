/- What read of the law answers: true, where all lists of bytes hold the digit. -/
import Derived.Test.YtmiiejinahnpkaaGreatDoorBa
namespace Go.Proofs.YtmiiejinahnpkaaGreatDoor
open Go.RowKit

set_option maxHeartbeats 1000000 in
set_option maxRecDepth 4000 in
theorem read_any (B : Nat) (ab ao : Option Addr) (n cb co d : Nat) (bs : Nat → Value) (ms : Nat → Nat) (w : World) (R : Ending → World → Prop)
   (c1 : w.cell? ⟨B, 1, none⟩ = some (.slice ab n cb)) (c2 : w.cell? ⟨B, 2, none⟩ = some (.slice ao n co)) (hn : n ≤ 1073741824) (hd : d ≤ 3)
   (h1 : ∀ i, i < n → ∃ g, ab = some ⟨g, 0, none⟩ ∧ w.cell? ⟨g, i, none⟩ = some (bs i))
   (h2 : ∀ i, i < n → ∃ g, ao = some ⟨g, 0, none⟩ ∧ w.cell? ⟨g, i, none⟩ = some (.int .i64 (ms i : Nat)))
   (h3 : ∀ i, i < n → ms i ≤ 1073741824 ∧ ∃ a l c, bs i = .slice a l c ∧ l ≤ 1073741824 ∧ ∀ k, k < l → ∃ g, a = some ⟨g, 0, none⟩ ∧ w.cell? ⟨g, k, none⟩ = some (.int .u8 (dg (ms i) d : Nat)))
   (hR : R (.returned (.bool true)) w) :
    Calls Tryz.prog 40 #[.pointer (some ⟨B, 0, none⟩), .int .i64 (d : Nat)] w R := by
  have HR : Hid (R (.returned (.bool true)) w) := hR
  have H1 : Hid (∀ i, i < n → ∃ g, ab = some ⟨g, 0, none⟩ ∧ w.cell? ⟨g, i, none⟩ = some (bs i)) := h1
  have H2 : Hid (∀ i, i < n → ∃ g, ao = some ⟨g, 0, none⟩ ∧ w.cell? ⟨g, i, none⟩ = some (.int .i64 (ms i : Nat))) := h2
  have H3 : Hid (∀ i, i < n → ms i ≤ 1073741824 ∧ ∃ a l c, bs i = .slice a l c ∧ l ≤ 1073741824 ∧ ∀ k, k < l → ∃ g, a = some ⟨g, 0, none⟩ ∧ w.cell? ⟨g, k, none⟩ = some (.int .u8 (dg (ms i) d : Nat))) := h3
  clear hR h1 h2 h3
  go_enter Tryz.func40, Tryz.ntmps40
  go_wp2_with fail
  go_loop [5, 6, 7] (fun t _ _ => ∃ i : Nat, i ≤ n ∧ t = .int .i64 i) (fun t _ _ => n - (intOf t).toNat)
  case atStart => exact ⟨0, Nat.zero_le _, rfl⟩
  case round =>
    obtain ⟨i, hi, rfl⟩ := hrel
    by_cases hin : i < n
    · obtain ⟨g1, rfl, hg1⟩ := H1.out i hin
      obtain ⟨g2, rfl, hg2⟩ := H2.out i hin
      obtain ⟨hmi, a, l, c, hbi, hl, hcs⟩ := H3.out i hin
      have HC : Hid (∀ k, k < l → ∃ g, a = some ⟨g, 0, none⟩ ∧ w.cell? ⟨g, k, none⟩ = some (.int .u8 (dg (ms i) d : Nat))) := hcs
      rw [hbi] at hg1
      clear hbi hcs
      go_wp2_with fail
      refine digit_any _ d _ _ hmi hd ?_
      generalize dg (ms i) d = x at *
      go_wp2_with fail
      go_loop [7] (fun t => ∃ k : Nat, k ≤ l ∧ t = .int .i64 k) (fun t => l - (intOf t).toNat)
      case atStart => exact ⟨0, Nat.zero_le _, rfl⟩
      case round =>
        obtain ⟨k, hk, rfl⟩ := hrel
        by_cases hkl : k < l
        · obtain ⟨g3, rfl, hg3⟩ := HC.out k hkl
          have hx : ((x : Int) != x) = false := by simp
          go_wp2_with fail
          go_round
          case rel => exact ⟨k + 1, by omega, by go_num⟩
          case measure => simp only [intOf]; omega
        · go_wp2_with fail
          go_round
          case rel => exact ⟨i + 1, by omega, by go_num⟩
          case measure => simp only [intOf]; omega
    · go_wp2_with fail
      exact HR.out
#print axioms read_any
end Go.Proofs.YtmiiejinahnpkaaGreatDoor
