/- What the small functions on numbers and events answer. -/
import Derived.Test.YtmiiejinahnpkaaGreatDoorProg
import Derived.Test.YtmiiejinahnpkaaGreatDoorAa
import Derived.BigQuiet
import Derived.Deep.QuietTactic
namespace Go.Proofs.YtmiiejinahnpkaaGreatDoor
open Go.RowKit

set_option maxHeartbeats 400000 in
theorem SameEvent_any (e f : Nat → Int) (w : World) (R : Ending → World → Prop) (hR : ∀ w', Below w.heap.size w w' → R (.returned (.bool (sameEv e f))) w') :
    Calls Tryz.prog 42 #[evv e, evv f] w R := by
  have hR' : Hid (∀ w', Below w.heap.size w w' → R (.returned (.bool (sameEv e f))) w') := hR
  clear hR
  unfold evv
  go_enter Tryz.func42, Tryz.ntmps42
  go_wp2
  all_goals refine ret_bool (hR'.out _ (((Below.refl _ _).alloc (Nat.le_refl _) _).alloc (by simp) _)) ?_
  all_goals clear hR'
  all_goals simp [sameEv, *]

theorem isKind_any (k : Int) (w : World) (R : Ending → World → Prop) (hR : R (.returned (.bool (decide (1 ≤ k ∧ k ≤ 8)))) w) :
    Calls Tryz.prog 79 #[.int .i64 k] w R := by
  have hR' : Hid (R (.returned (.bool (decide (1 ≤ k ∧ k ≤ 8)))) w) := hR
  clear hR
  go_enter Tryz.func79, Tryz.ntmps79
  go_wp2
  all_goals refine ret_bool hR'.out ?_
  all_goals clear hR'
  all_goals simp
  all_goals omega

theorem isNumber_any (k : Int) (w : World) (R : Ending → World → Prop) (hR : R (.returned (.bool (decide (0 ≤ k ∧ k ≤ 4294967295)))) w) :
    Calls Tryz.prog 80 #[.int .i64 k] w R := by
  have hR' : Hid (R (.returned (.bool (decide (0 ≤ k ∧ k ≤ 4294967295)))) w) := hR
  clear hR
  go_enter Tryz.func80, Tryz.ntmps80
  go_wp2
  all_goals refine ret_bool hR'.out ?_
  all_goals clear hR'
  all_goals simp
  all_goals omega

theorem width_any (k : Int) (w : World) (R : Ending → World → Prop) (hR : R (.returned (.int .i64 (if k = 6 then 8 else 4))) w) :
    Calls Tryz.prog 83 #[.int .i64 k] w R := by
  have hR' : Hid (R (.returned (.int .i64 (if k = 6 then 8 else 4))) w) := hR
  clear hR
  go_enter Tryz.func83, Tryz.ntmps83
  go_wp2
  all_goals refine ret_val hR'.out ?_
  all_goals clear hR'
  all_goals simp_all

set_option maxHeartbeats 400000 in
theorem number_any (ba : Option Addr) (n c : Nat) (xs : Nat → Int) (at_ : Nat) (w : World) (R : Ending → World → Prop) (hn : n ≤ 1073741824) (hat : at_ + 4 ≤ n)
   (hx : ∀ i, i < n → ∃ b o, ba = some ⟨b, o, none⟩ ∧ w.cell? ⟨b, o + i, none⟩ = some (.int .u8 (xs i))) (hb : ∀ i, i < n → 0 ≤ xs i ∧ xs i ≤ 255)
   (hR : R (.returned (.int .i64 (((xs at_ * 256 + xs (at_ + 1)) * 256 + xs (at_ + 2)) * 256 + xs (at_ + 3)))) w) :
    Calls Tryz.prog 104 #[.slice ba n c, .int .i64 at_] w R := by
  have hR' : Hid (R (.returned (.int .i64 (((xs at_ * 256 + xs (at_ + 1)) * 256 + xs (at_ + 2)) * 256 + xs (at_ + 3)))) w) := hR
  clear hR
  obtain ⟨b, o, rfl, c0⟩ := hx at_ (by omega)
  obtain ⟨b', o', e1, c1⟩ := hx (at_ + 1) (by omega)
  obtain ⟨b'', o'', e2, c2⟩ := hx (at_ + 2) (by omega)
  obtain ⟨b''', o''', e3, c3⟩ := hx (at_ + 3) (by omega)
  simp at e1 e2 e3
  obtain ⟨rfl, rfl⟩ := e1
  obtain ⟨rfl, rfl⟩ := e2
  obtain ⟨rfl, rfl⟩ := e3
  have b0 := hb at_ (by omega)
  have b1 := hb (at_ + 1) (by omega)
  have b2 := hb (at_ + 2) (by omega)
  have b3 := hb (at_ + 3) (by omega)
  clear hx hb
  go_enter Tryz.func104, Tryz.ntmps104
  go_wp2
  refine wp_loop_rounds 5 ?_
  rw [rounds_succ]
  go_wp2
  rw [rounds_succ]
  go_wp2
  rw [rounds_succ]
  go_wp2
  rw [rounds_succ]
  go_wp2
  rw [rounds_succ]
  go_wp2
  refine ret_val hR'.out ?_
  simp
end Go.Proofs.YtmiiejinahnpkaaGreatDoor
