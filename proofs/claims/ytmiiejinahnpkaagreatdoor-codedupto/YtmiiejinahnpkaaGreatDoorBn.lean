/- What choice and number of the program's reader read, or how they give up. -/
import Derived.Test.YtmiiejinahnpkaaGreatDoorBk
namespace Go.Proofs.YtmiiejinahnpkaaGreatDoor
open Go.RowKit
attribute [local go_sem ↓] Go.wp_at_zero Go.wp_at_succ

set_option maxRecDepth 8000 in
theorem numberW_any (B : Nat) (a : Option Addr) (N c p s : Nat) (X : Nat → Int) (w : World) (R : Ending → World → Prop) (hr : Rdr w B (.slice a N c) p s) (hN : N ≤ 1048576) (hcap : N ≤ c) (hp : p ≤ N)
   (hx : BsAt w a N X) (hb : ∀ i, i < N → 0 ≤ X i ∧ X i ≤ 255) (hBx : ∀ b o, a = some ⟨b, o, none⟩ → b ≠ B)
   (hR1 : N < p + 4 → ∀ w', Below w.heap.size w w' → R (.panicked [{ v := .iface 95 (.agg #[.int .i64 2, .int .i64 (s : Nat)]), recovered := false }]) w')
   (hR2 : p + 4 ≤ N → ∀ w', Rdr w' B (.slice a N c) (p + 4) s → w.grownBy w' (some B) → R (.returned (.int .i64 (nb X p 4))) w') :
    Calls Tryz.prog 85 #[.pointer (some ⟨B, 0, none⟩)] w R := by
  have HR1 : Hid (N < p + 4 → ∀ w', Below w.heap.size w w' → R (.panicked [{ v := .iface 95 (.agg #[.int .i64 2, .int .i64 (s : Nat)]), recovered := false }]) w') := hR1
  have HR2 : Hid (p + 4 ≤ N → ∀ w', Rdr w' B (.slice a N c) (p + 4) s → w.grownBy w' (some B) → R (.returned (.int .i64 (nb X p 4))) w') := hR2
  have HRd : Hid (Rdr w B (.slice a N c) p s) := hr
  have HX : Hid (BsAt w a N X) := hx
  have HB : Hid (∀ i, i < N → 0 ≤ X i ∧ X i ≤ 255) := hb
  have HBx : Hid (∀ b o, a = some ⟨b, o, none⟩ → b ≠ B) := hBx
  clear hR1 hR2 hr hx hb hBx
  go_enter Tryz.func85, Tryz.ntmps85
  go_wp2_with fail
  refine take_of B a N c p s X _ 4 (by rfl) _ _ HRd.out hN hcap (by decide) (by decide) hp HX.out HB.out HBx.out ?_ ?_
  · intro hlong w' hb'
    exact ⟨rfl, HR1.out hlong w' hb'⟩
  intro hshort w' hr' hg'
  have hnb := nb_bound X p 4 fun q hq => HB.out _ (by omega)
  have hs0 := hnb.1
  have hs1 : nb X p 4 ≤ 4294967295 := by omega
  have hfin : Hid (R (.returned (.int .i64 (nb X p 4))) w') := HR2.out hshort w' hr' hg'
  clear hnb hr' hg'
  generalize nb X p 4 = v at *
  go_wp2_with fail
  exact hfin.out

set_option maxRecDepth 8000 in
theorem choice_any (B : Nat) (a : Option Addr) (N c p s last : Nat) (X : Nat → Int) (w : World) (R : Ending → World → Prop) (hr : Rdr w B (.slice a N c) p s) (hN : N ≤ 1048576) (hcap : N ≤ c) (hp : p ≤ N) (_hlast : last ≤ 255)
   (hx : BsAt w a N X) (hb : ∀ i, i < N → 0 ≤ X i ∧ X i ≤ 255) (hBx : ∀ b o, a = some ⟨b, o, none⟩ → b ≠ B)
   (hR1 : N < p + 1 → ∀ w', Below w.heap.size w w' → R (.panicked [{ v := .iface 95 (.agg #[.int .i64 2, .int .i64 (s : Nat)]), recovered := false }]) w')
   (hR2 : p + 1 ≤ N → ¬ (1 ≤ X p ∧ X p ≤ last) → ∀ w', w.grownBy w' (some B) → R (.panicked [{ v := .iface 95 (.agg #[.int .i64 3, .int .i64 (s : Nat)]), recovered := false }]) w')
   (hR3 : p + 1 ≤ N → 1 ≤ X p ∧ X p ≤ last → ∀ w', Rdr w' B (.slice a N c) (p + 1) s → w.grownBy w' (some B) → R (.returned (.int .i64 (X p))) w') :
    Calls Tryz.prog 84 #[.pointer (some ⟨B, 0, none⟩), .int .i64 (last : Nat)] w R := by
  have HR1 : Hid (N < p + 1 → ∀ w', Below w.heap.size w w' → R (.panicked [{ v := .iface 95 (.agg #[.int .i64 2, .int .i64 (s : Nat)]), recovered := false }]) w') := hR1
  have HR2 : Hid (p + 1 ≤ N → ¬ (1 ≤ X p ∧ X p ≤ last) → ∀ w', w.grownBy w' (some B) → R (.panicked [{ v := .iface 95 (.agg #[.int .i64 3, .int .i64 (s : Nat)]), recovered := false }]) w') := hR2
  have HR3 : Hid (p + 1 ≤ N → 1 ≤ X p ∧ X p ≤ last → ∀ w', Rdr w' B (.slice a N c) (p + 1) s → w.grownBy w' (some B) → R (.returned (.int .i64 (X p))) w') := hR3
  have HRd : Hid (Rdr w B (.slice a N c) p s) := hr
  have HX : Hid (BsAt w a N X) := hx
  have HB : Hid (∀ i, i < N → 0 ≤ X i ∧ X i ≤ 255) := hb
  have HBx : Hid (∀ b o, a = some ⟨b, o, none⟩ → b ≠ B) := hBx
  clear hR1 hR2 hR3 hr hx hb hBx
  go_enter Tryz.func84, Tryz.ntmps84
  go_wp2_with fail
  refine take_of B a N c p s X _ 1 (by rfl) _ _ HRd.out hN hcap (by decide) (by decide) hp HX.out HB.out HBx.out ?_ ?_
  · intro hlong w' hb'
    exact ⟨rfl, HR1.out hlong w' hb'⟩
  intro hshort w' hr' hg'
  have hbp := HB.out p (by omega)
  have e1 : nb X p 1 = X p := by simp [nb]
  rw [e1]
  have HR2' : Hid (¬ (1 ≤ X p ∧ X p ≤ last) → R (.panicked [{ v := .iface 95 (.agg #[.int .i64 3, .int .i64 (s : Nat)]), recovered := false }]) w') := fun h => HR2.out hshort h w' hg'
  have HR3' : Hid (1 ≤ X p ∧ X p ≤ last → R (.returned (.int .i64 (X p))) w') := fun h => HR3.out hshort h w' hr' hg'
  have HRd' : Hid (Rdr w' B (.slice a N c) (p + 1) s) := hr'
  clear HR1 HR2 HR3 e1 hr' hg' HRd HX HB
  generalize X p = x at *
  obtain ⟨hb0, hb1⟩ := hbp
  by_cases h1 : x < 1
  · have hfin : Hid (R (.panicked [{ v := .iface 95 (.agg #[.int .i64 3, .int .i64 (s : Nat)]), recovered := false }]) w') := HR2'.out (by omega)
    go_wp2_with fail
    refine giveUp_any B _ (p + 1) s _ _ _ HRd'.out ?_
    exact ⟨rfl, hfin.out⟩
  · by_cases h2 : (last : Int) < x
    · have hfin : Hid (R (.panicked [{ v := .iface 95 (.agg #[.int .i64 3, .int .i64 (s : Nat)]), recovered := false }]) w') := HR2'.out (by omega)
      go_wp2_with fail
      refine giveUp_any B _ (p + 1) s _ _ _ HRd'.out ?_
      exact ⟨rfl, hfin.out⟩
    · have hfin : Hid (R (.returned (.int .i64 x)) w') := HR3'.out (by omega)
      go_wp2_with fail
      exact hfin.out

theorem choice_of (B : Nat) (a : Option Addr) (N c p s : Nat) (M : Int) (last : Nat) (hM : M = (last : Nat)) (X : Nat → Int) (w : World) (R : Ending → World → Prop) (hr : Rdr w B (.slice a N c) p s) (hN : N ≤ 1048576) (hcap : N ≤ c) (hp : p ≤ N) (hlast : last ≤ 255)
   (hx : BsAt w a N X) (hb : ∀ i, i < N → 0 ≤ X i ∧ X i ≤ 255) (hBx : ∀ b o, a = some ⟨b, o, none⟩ → b ≠ B)
   (hR1 : N < p + 1 → ∀ w', Below w.heap.size w w' → R (.panicked [{ v := .iface 95 (.agg #[.int .i64 2, .int .i64 (s : Nat)]), recovered := false }]) w')
   (hR2 : p + 1 ≤ N → ¬ (1 ≤ X p ∧ X p ≤ last) → ∀ w', w.grownBy w' (some B) → R (.panicked [{ v := .iface 95 (.agg #[.int .i64 3, .int .i64 (s : Nat)]), recovered := false }]) w')
   (hR3 : p + 1 ≤ N → 1 ≤ X p ∧ X p ≤ last → ∀ w', Rdr w' B (.slice a N c) (p + 1) s → w.grownBy w' (some B) → R (.returned (.int .i64 (X p))) w') :
    Calls Tryz.prog 84 #[.pointer (some ⟨B, 0, none⟩), .int .i64 M] w R := by
  subst hM
  exact choice_any B a N c p s last X w R hr hN hcap hp hlast hx hb hBx hR1 hR2 hR3
end Go.Proofs.YtmiiejinahnpkaaGreatDoor
