/- What step of the law answers at Encode and at Decode. -/
import Derived.Test.YtmiiejinahnpkaaGreatDoorCo
namespace Go.Proofs.YtmiiejinahnpkaaGreatDoor
open Go.RowKit

set_option maxHeartbeats 1000000 in
set_option maxRecDepth 8000 in
theorem step_d {Z base B : Nat} {own : Nat → Nat × Int} {w : World} {f : Nat → Value} {xs : Nat → List Value} {ms : List Nat} {em : List Int} {last : Int} {many : Nat} {R : Ending → World → Prop} {N c : Nat} {a : Option Addr} {X : Nat → Int} {al : Option Addr} {nl cl : Nat} {bb : Bool}
    (hW : WK Z base B own w f xs ms em last many) (h7 : (xs 7).length + 1 ≤ Z) (h5 : (xs 5).length + 4 ≤ 4 * Z) (hm : -(Z : Int) ≤ last - 1) (hL : LayAt w) (hN : N ≤ 1048576) (hx : BsAt w a N X) (hxb : ∀ i, i < N → 0 ≤ X i ∧ X i ≤ 255)
    (hR : ∀ own' f' xs' em' w', WK Z base B own' w' f' xs' ms em' (last - 1) many → (xs' 1).length = (xs 1).length → (xs' 5).length = (xs 5).length + 4 → (xs' 7).length = (xs 7).length + 1 → (xs' 8).length = (xs 8).length → Below base w w' → R (.returned (.bool true)) w') :
    Calls Tryz.prog 13 #[.pointer (some ⟨B, 0, none⟩), .pointer none, opv 5 a N c al nl cl bb] w R := by
  have hbase : base ≤ w.heap.size := by have := lt_of_heap hW.wj.blk; have := hW.wj.hB; omega
  have HC : Hid (∀ (R' : Ending → World → Prop) w0, Below w.heap.size w w0 → (∀ w', R (.returned (.bool true)) w' → R' (.returned (.bool true)) w') → Calls Tryz.prog 39 #[.pointer (some ⟨B, 0, none⟩), .agg #[.int .i64 5, .slice a N c, .slice al nl cl, .bool bb]] w0 R') := by
    intro R' w0 hb hR'
    refine decodes_w (hW.ext hb) h7 h5 hm (LayAt.below hL hb (Nat.le_refl _)) hN (BsAt.ext hx hb) hxb ?_
    intro own' f' xs' em' w' q1 q2 q3 q4 q5 q6
    exact hR' w' (hR own' f' xs' em' w' q1 q2 q3 q4 q5 ((hb.mono hbase).trans q6))
  clear hW h7 h5 hm hL hx hxb hR hbase
  unfold opv
  go_enter Tryz.func13, Tryz.ntmps13
  go_wp2_with fail
  refine HC.out _ _ ((Below.refl _ _).alloc (Nat.le_refl _) _) ?_
  intro w' hR
  have hfin : Hid (R (.returned (.bool true)) w') := hR
  clear hR HC
  go_wp2_with fail
  exact hfin.out

set_option maxHeartbeats 1000000 in
set_option maxRecDepth 8000 in
theorem step_e {Z base B : Nat} {own : Nat → Nat × Int} {w : World} {f : Nat → Value} {xs : Nat → List Value} {ms : List Nat} {em : List Int} {last : Int} {many : Nat} {R : Ending → World → Prop} {N c : Nat} {a : Option Addr} {es : Nat → Nat → Int} {al : Option Addr} {n cl : Nat} {bb : Bool}
    (hW : WK Z base B own w f xs ms em last many) (h8 : (xs 8).length + 1 ≤ Z) (h1 : (xs 1).length + 4 ≤ 4 * Z) (hm : many + 1 ≤ Z) (hL : LayAt w) (hn : n ≤ 1048576) (hx : EvsAt w al n es) (hxb : ∀ i j, -9223372036854775808 ≤ es i j ∧ es i j ≤ 9223372036854775807)
    (hR : ∀ own' f' xs' ms' w', WK Z base B own' w' f' xs' ms' em last (many + 1) → (xs' 1).length = (xs 1).length + 4 → (xs' 5).length = (xs 5).length → (xs' 7).length = (xs 7).length → (xs' 8).length = (xs 8).length + 1 → Below base w w' → R (.returned (.bool true)) w') :
    Calls Tryz.prog 13 #[.pointer (some ⟨B, 0, none⟩), .pointer none, opv 4 a N c al n cl bb] w R := by
  have hbase : base ≤ w.heap.size := by have := lt_of_heap hW.wj.blk; have := hW.wj.hB; omega
  have HC : Hid (∀ (R' : Ending → World → Prop) w0, Below w.heap.size w w0 → (∀ w', R (.returned (.bool true)) w' → R' (.returned (.bool true)) w') → Calls Tryz.prog 38 #[.pointer (some ⟨B, 0, none⟩), .agg #[.int .i64 4, .slice a N c, .slice al n cl, .bool bb]] w0 R') := by
    intro R' w0 hb hR'
    refine encodes_w (hW.ext hb) h8 h1 hm (LayAt.below hL hb (Nat.le_refl _)) hn (EvsAt.ext hx hb) hxb ?_
    intro own' f' xs' em' w' q1 q2 q3 q4 q5 q6
    exact hR' w' (hR own' f' xs' em' w' q1 q2 q3 q4 q5 ((hb.mono hbase).trans q6))
  clear hW h8 h1 hm hL hx hxb hR hbase
  unfold opv
  go_enter Tryz.func13, Tryz.ntmps13
  go_wp2_with fail
  refine HC.out _ _ ((Below.refl _ _).alloc (Nat.le_refl _) _) ?_
  intro w' hR
  have hfin : Hid (R (.returned (.bool true)) w') := hR
  clear hR HC
  go_wp2_with fail
  exact hfin.out
#print axioms step_e
#print axioms step_d
end Go.Proofs.YtmiiejinahnpkaaGreatDoor
