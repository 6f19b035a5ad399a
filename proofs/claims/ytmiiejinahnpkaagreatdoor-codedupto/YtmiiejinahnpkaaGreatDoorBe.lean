/- What filled (of the document's answer) answers: the event of a kind with its numbers. -/
import Derived.Test.YtmiiejinahnpkaaGreatDoorProg
import Derived.Test.YtmiiejinahnpkaaGreatDoorAb
import Derived.BigQuiet
import Derived.Deep.QuietTactic
namespace Go.Proofs.YtmiiejinahnpkaaGreatDoor
open Go.RowKit

set_option maxHeartbeats 2000000 in
theorem filled_any (k s : Int) (a : Option Addr) (n c : Nat) (xs : Nat → Int) (u : Int) (w : World) (R : Ending → World → Prop) (hk : isK k = true) (hn : (layn k).length ≤ n)
   (hx : ∀ i, i < (layn k).length → ∃ b o, a = some ⟨b, o, none⟩ ∧ w.cell? ⟨b, o + i, none⟩ = some (.int .i64 (xs i)))
   (hR : ∀ w', Below w.heap.size w w' → R (.returned (evv (fill k s xs u))) w') :
    Calls Tryz.prog 101 #[.int .i64 k, .int .i64 s, .slice a n c, .int .i64 u] w R := by
  rcases kind_cases k with h | h | h | h | h | h | h | h | h
  · subst h
    have hR' : Hid (∀ w', Below w.heap.size w w' → R (.returned (.agg #[.int .i64 1, .int .i64 s, .int .i64 (xs 0), .int .i64 0, .int .i64 0, .int .i64 0, .int .i64 (xs 1), .int .i64 0, .int .i64 u, .int .i64 0])) w') := hR
    clear hR hk
    obtain ⟨b, o, rfl, c0⟩ := hx 0 (by decide)
    obtain ⟨b1, o1, e1, c1⟩ := hx 1 (by decide)
    simp at e1
    obtain ⟨rfl, rfl⟩ := e1
    rw [Nat.add_zero] at c0
    have hlt := lt_of_cell c0
    clear hx
    rw [show (layn 1).length = 2 from rfl] at hn
    go_enter Tryz.func101, Tryz.ntmps101
    go_wp2
    refine bodyPost_ret (v := .agg #[.int .i64 1, .int .i64 s, .int .i64 (xs 0), .int .i64 0, .int .i64 0, .int .i64 0, .int .i64 (xs 1), .int .i64 0, .int .i64 u, .int .i64 0]) (by simp [results, Tryz.results101, go_sem]) rfl (hR'.out _ ?_)
    exact ((Below.refl _ _).alloc (Nat.le_refl _) _).alloc (by simp) _
  · subst h
    have hR' : Hid (∀ w', Below w.heap.size w w' → R (.returned (.agg #[.int .i64 2, .int .i64 s, .int .i64 (xs 0), .int .i64 (xs 1), .int .i64 0, .int .i64 0, .int .i64 0, .int .i64 0, .int .i64 u, .int .i64 0])) w') := hR
    clear hR hk
    obtain ⟨b, o, rfl, c0⟩ := hx 0 (by decide)
    obtain ⟨b1, o1, e1, c1⟩ := hx 1 (by decide)
    simp at e1
    obtain ⟨rfl, rfl⟩ := e1
    rw [Nat.add_zero] at c0
    have hlt := lt_of_cell c0
    clear hx
    rw [show (layn 2).length = 2 from rfl] at hn
    go_enter Tryz.func101, Tryz.ntmps101
    go_wp2
    refine bodyPost_ret (v := .agg #[.int .i64 2, .int .i64 s, .int .i64 (xs 0), .int .i64 (xs 1), .int .i64 0, .int .i64 0, .int .i64 0, .int .i64 0, .int .i64 u, .int .i64 0]) (by simp [results, Tryz.results101, go_sem]) rfl (hR'.out _ ?_)
    exact ((Below.refl _ _).alloc (Nat.le_refl _) _).alloc (by simp) _
  · subst h
    have hR' : Hid (∀ w', Below w.heap.size w w' → R (.returned (.agg #[.int .i64 3, .int .i64 s, .int .i64 0, .int .i64 0, .int .i64 (xs 0), .int .i64 (xs 1), .int .i64 (xs 2), .int .i64 (xs 3), .int .i64 u, .int .i64 0])) w') := hR
    clear hR hk
    obtain ⟨b, o, rfl, c0⟩ := hx 0 (by decide)
    obtain ⟨b1, o1, e1, c1⟩ := hx 1 (by decide)
    simp at e1
    obtain ⟨rfl, rfl⟩ := e1
    obtain ⟨b2, o2, e2, c2⟩ := hx 2 (by decide)
    simp at e2
    obtain ⟨rfl, rfl⟩ := e2
    obtain ⟨b3, o3, e3, c3⟩ := hx 3 (by decide)
    simp at e3
    obtain ⟨rfl, rfl⟩ := e3
    rw [Nat.add_zero] at c0
    have hlt := lt_of_cell c0
    clear hx
    rw [show (layn 3).length = 4 from rfl] at hn
    go_enter Tryz.func101, Tryz.ntmps101
    go_wp2
    refine bodyPost_ret (v := .agg #[.int .i64 3, .int .i64 s, .int .i64 0, .int .i64 0, .int .i64 (xs 0), .int .i64 (xs 1), .int .i64 (xs 2), .int .i64 (xs 3), .int .i64 u, .int .i64 0]) (by simp [results, Tryz.results101, go_sem]) rfl (hR'.out _ ?_)
    exact ((Below.refl _ _).alloc (Nat.le_refl _) _).alloc (by simp) _
  · subst h
    have hR' : Hid (∀ w', Below w.heap.size w w' → R (.returned (.agg #[.int .i64 4, .int .i64 s, .int .i64 (xs 0), .int .i64 0, .int .i64 0, .int .i64 0, .int .i64 (xs 1), .int .i64 0, .int .i64 u, .int .i64 0])) w') := hR
    clear hR hk
    obtain ⟨b, o, rfl, c0⟩ := hx 0 (by decide)
    obtain ⟨b1, o1, e1, c1⟩ := hx 1 (by decide)
    simp at e1
    obtain ⟨rfl, rfl⟩ := e1
    rw [Nat.add_zero] at c0
    have hlt := lt_of_cell c0
    clear hx
    rw [show (layn 4).length = 2 from rfl] at hn
    go_enter Tryz.func101, Tryz.ntmps101
    go_wp2
    refine bodyPost_ret (v := .agg #[.int .i64 4, .int .i64 s, .int .i64 (xs 0), .int .i64 0, .int .i64 0, .int .i64 0, .int .i64 (xs 1), .int .i64 0, .int .i64 u, .int .i64 0]) (by simp [results, Tryz.results101, go_sem]) rfl (hR'.out _ ?_)
    exact ((Below.refl _ _).alloc (Nat.le_refl _) _).alloc (by simp) _
  · subst h
    have hR' : Hid (∀ w', Below w.heap.size w w' → R (.returned (.agg #[.int .i64 5, .int .i64 s, .int .i64 (xs 0), .int .i64 0, .int .i64 0, .int .i64 0, .int .i64 (xs 1), .int .i64 0, .int .i64 u, .int .i64 0])) w') := hR
    clear hR hk
    obtain ⟨b, o, rfl, c0⟩ := hx 0 (by decide)
    obtain ⟨b1, o1, e1, c1⟩ := hx 1 (by decide)
    simp at e1
    obtain ⟨rfl, rfl⟩ := e1
    rw [Nat.add_zero] at c0
    have hlt := lt_of_cell c0
    clear hx
    rw [show (layn 5).length = 2 from rfl] at hn
    go_enter Tryz.func101, Tryz.ntmps101
    go_wp2
    refine bodyPost_ret (v := .agg #[.int .i64 5, .int .i64 s, .int .i64 (xs 0), .int .i64 0, .int .i64 0, .int .i64 0, .int .i64 (xs 1), .int .i64 0, .int .i64 u, .int .i64 0]) (by simp [results, Tryz.results101, go_sem]) rfl (hR'.out _ ?_)
    exact ((Below.refl _ _).alloc (Nat.le_refl _) _).alloc (by simp) _
  · subst h
    have hR' : Hid (∀ w', Below w.heap.size w w' → R (.returned (.agg #[.int .i64 6, .int .i64 s, .int .i64 0, .int .i64 0, .int .i64 0, .int .i64 0, .int .i64 (xs 1), .int .i64 (xs 0), .int .i64 u, .int .i64 0])) w') := hR
    clear hR hk
    obtain ⟨b, o, rfl, c0⟩ := hx 0 (by decide)
    obtain ⟨b1, o1, e1, c1⟩ := hx 1 (by decide)
    simp at e1
    obtain ⟨rfl, rfl⟩ := e1
    rw [Nat.add_zero] at c0
    have hlt := lt_of_cell c0
    clear hx
    rw [show (layn 6).length = 2 from rfl] at hn
    go_enter Tryz.func101, Tryz.ntmps101
    go_wp2
    refine bodyPost_ret (v := .agg #[.int .i64 6, .int .i64 s, .int .i64 0, .int .i64 0, .int .i64 0, .int .i64 0, .int .i64 (xs 1), .int .i64 (xs 0), .int .i64 u, .int .i64 0]) (by simp [results, Tryz.results101, go_sem]) rfl (hR'.out _ ?_)
    exact ((Below.refl _ _).alloc (Nat.le_refl _) _).alloc (by simp) _
  · subst h
    have hR' : Hid (∀ w', Below w.heap.size w w' → R (.returned (.agg #[.int .i64 7, .int .i64 s, .int .i64 0, .int .i64 0, .int .i64 0, .int .i64 0, .int .i64 (xs 1), .int .i64 (xs 0), .int .i64 u, .int .i64 0])) w') := hR
    clear hR hk
    obtain ⟨b, o, rfl, c0⟩ := hx 0 (by decide)
    obtain ⟨b1, o1, e1, c1⟩ := hx 1 (by decide)
    simp at e1
    obtain ⟨rfl, rfl⟩ := e1
    rw [Nat.add_zero] at c0
    have hlt := lt_of_cell c0
    clear hx
    rw [show (layn 7).length = 2 from rfl] at hn
    go_enter Tryz.func101, Tryz.ntmps101
    go_wp2
    refine bodyPost_ret (v := .agg #[.int .i64 7, .int .i64 s, .int .i64 0, .int .i64 0, .int .i64 0, .int .i64 0, .int .i64 (xs 1), .int .i64 (xs 0), .int .i64 u, .int .i64 0]) (by simp [results, Tryz.results101, go_sem]) rfl (hR'.out _ ?_)
    exact ((Below.refl _ _).alloc (Nat.le_refl _) _).alloc (by simp) _
  · subst h
    have hR' : Hid (∀ w', Below w.heap.size w w' → R (.returned (.agg #[.int .i64 8, .int .i64 s, .int .i64 0, .int .i64 0, .int .i64 0, .int .i64 0, .int .i64 0, .int .i64 0, .int .i64 u, .int .i64 (xs 0)])) w') := hR
    clear hR hk
    obtain ⟨b, o, rfl, c0⟩ := hx 0 (by decide)
    rw [Nat.add_zero] at c0
    have hlt := lt_of_cell c0
    clear hx
    rw [show (layn 8).length = 1 from rfl] at hn
    go_enter Tryz.func101, Tryz.ntmps101
    go_wp2
    refine bodyPost_ret (v := .agg #[.int .i64 8, .int .i64 s, .int .i64 0, .int .i64 0, .int .i64 0, .int .i64 0, .int .i64 0, .int .i64 0, .int .i64 u, .int .i64 (xs 0)]) (by simp [results, Tryz.results101, go_sem]) rfl (hR'.out _ ?_)
    exact ((Below.refl _ _).alloc (Nat.le_refl _) _).alloc (by simp) _
  · rw [h] at hk; cases hk
#print axioms filled_any
end Go.Proofs.YtmiiejinahnpkaaGreatDoor
