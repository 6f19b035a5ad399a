/- What lent and mark of the law do. -/
import Derived.Test.YtmiiejinahnpkaaGreatDoorCg
namespace Go.Proofs.YtmiiejinahnpkaaGreatDoor
open Go.RowKit

theorem made_one (z : Value) (n k : Nat) (h : k < n) : (madeCells #[z] n).toList[k]? = some z := by
  rw [toList_madeCells_one]
  simp [h]

/-- the cell of lent bytes -/
def lcell (X : Nat → Int) (N : Nat) (k : Nat) : Value := .int .u8 (if k < N then X k else 0)

set_option maxHeartbeats 400000 in
set_option maxRecDepth 8000 in
theorem lent_any (a : Option Addr) (N c : Nat) (X : Nat → Int) (w : World) (R : Ending → World → Prop) (hN : N ≤ 1048576) (hx : BsAt w a N X)
   (hR : ∀ g w', Below w.heap.size w w' → w'.ownsRow w.heap.size 5 1 (.slice (some ⟨g, 0, none⟩) (N + 1) (N + 1)) (N + 1) (told (lcell X N) (N + 1)) → R (.returned (.slice (some ⟨g, 0, none⟩) (N + 1) (N + 1))) w') :
    Calls Tryz.prog 69 #[.slice a N c] w R := by
  have HR : Hid (∀ g w', Below w.heap.size w w' → w'.ownsRow w.heap.size 5 1 (.slice (some ⟨g, 0, none⟩) (N + 1) (N + 1)) (N + 1) (told (lcell X N) (N + 1)) → R (.returned (.slice (some ⟨g, 0, none⟩) (N + 1) (N + 1))) w') := hR
  have HX : Hid (BsAt w a N X) := hx
  clear hR hx
  obtain ⟨i0, hi, hz0, hz1, hz2⟩ := info_parts Tryz.infoU8
  have HI : Hid (Tryz.prog.info? 5 = some i0 ∧ i0.zero = some (.int .u8 0) ∧ i0.size = 1 ∧ i0.bytes = 1) := ⟨hi, hz0, hz1, hz2⟩
  clear hi hz0 hz1 hz2
  go_enter Tryz.func69, Tryz.ntmps69
  go_wp2_with (refine wpList_make_full _ rfl _ _ _ rfl w.heap.size 5 i0 (.int .u8 0) 1 Tryz.underlying31 HI.out.1 HI.out.2.1 HI.out.2.2.1 _ _ _ _ (N + 1) rfl rfl ?c1 ?c2 ?c3 ?c4 (Nat.le_refl _) ?_)
  case c1 => omega
  case c2 => omega
  case c3 => rw [HI.out.2.2.2]; omega
  case c4 => unfold maxLen; omega
  intro w1 hown hgr
  have HO : Hid (w1.ownsRow w.heap.size 5 1 (.slice (some ⟨w.heap.size, 0, none⟩) (N + 1) (N + 1)) (N + 1) (madeCells #[Value.int .u8 0] (N + 1)).toList) := hown
  have HB : Hid (Below w.heap.size w w1) := ⟨hgr.os, hgr.tape, hgr.output, hgr.size, fun k hk => hgr.block k hk (by simp)⟩
  clear hown hgr
  go_wp2_with (refine wpList_copy_told rfl _ _ _ _ rfl 5 5 1 Tryz.underlying31 ?d1 w.heap.size w.heap.size (N + 1) (N + 1) _ HO.out a N c (by omega) (lcell X N) rfl rfl ?d2 ?d3 ?d4 ?_)
  case d1 => rw [HI.out.1]; simp [HI.out.2.2.1]
  case d2 =>
    intro k hk
    rw [Nat.mul_one] at hk
    obtain ⟨b, o, h1, h2⟩ := HX.out k hk
    refine ⟨b, o, h1, ?_⟩
    rw [HB.out.cell (p := ⟨b, o + k, none⟩) (lt_of_cell h2), h2]
    simp [lcell, hk]
  case d3 =>
    intro k hk1 hk2
    rw [Nat.mul_one] at hk1 hk2
    rw [made_one _ _ _ hk2]
    simp only [lcell, if_neg (show ¬ k < N by omega)]
  case d4 => intro k; rfl
  intro w2 hg2 hs2 ho2
  have hfin : Hid (R (.returned (.slice (some ⟨w.heap.size, 0, none⟩) (N + 1) (N + 1))) w2) := HR.out _ _ (HB.out.trans ⟨hg2.os, hg2.tape, hg2.output, by omega, fun k hk => hg2.block k (Nat.lt_of_lt_of_le hk HB.out.size) (by simp; omega)⟩) ho2
  clear hg2 hs2 ho2
  go_wp2_with fail
  exact hfin.out

set_option maxHeartbeats 400000 in
set_option maxRecDepth 8000 in
theorem mark_any (B : Nat) (last : Int) (w : World) (R : Ending → World → Prop) (h9 : w.cell? ⟨B, 9, none⟩ = some (.int .i64 last)) (hf : w.frozen? ⟨B, 9, none⟩ = false) (h1 : -1073741824 ≤ last) (h2 : last ≤ 0)
   (hR : R (.returned (.int .i64 (last - 1))) (w.setCell ⟨B, 9, none⟩ (.int .i64 (last - 1)))) :
    Calls Tryz.prog 109 #[.pointer (some ⟨B, 0, none⟩)] w R := by
  have HR : Hid (R (.returned (.int .i64 (last - 1))) (w.setCell ⟨B, 9, none⟩ (.int .i64 (last - 1)))) := hR
  clear hR
  go_enter Tryz.func109, Tryz.ntmps109
  go_wp2_with fail
  exact HR.out
#print axioms mark_any
#print axioms lent_any
end Go.Proofs.YtmiiejinahnpkaaGreatDoor
