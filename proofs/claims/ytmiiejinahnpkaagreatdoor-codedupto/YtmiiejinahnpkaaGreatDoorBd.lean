/- What values and event (of the program), Fields, filled and length (of the document's answer) answer. -/
import Derived.Test.YtmiiejinahnpkaaGreatDoorProg
import Derived.Test.YtmiiejinahnpkaaGreatDoorAb
import Derived.BigQuiet
import Derived.Deep.QuietTactic
namespace Go.Proofs.YtmiiejinahnpkaaGreatDoor
open Go.RowKit

/-- the eight numbers of an event that follow Kind and Seq -/
def v8 (v : Nat → Int) : Value := .agg #[.int .i64 (v 0), .int .i64 (v 1), .int .i64 (v 2), .int .i64 (v 3), .int .i64 (v 4), .int .i64 (v 5), .int .i64 (v 6), .int .i64 (v 7)]

set_option maxHeartbeats 400000 in
theorem values_any (e : Nat → Int) (w : World) (R : Ending → World → Prop) (hR : ∀ w', Below w.heap.size w w' → R (.returned (v8 fun f => e (f + 2))) w') :
    Calls Tryz.prog 81 #[evv e] w R := by
  have hR' : Hid (∀ w', Below w.heap.size w w' → R (.returned (v8 fun f => e (f + 2))) w') := hR
  clear hR
  unfold evv
  go_enter Tryz.func81, Tryz.ntmps81
  go_wp2
  exact bodyPost_ret (v := v8 fun f => e (f + 2)) (by simp [results, Tryz.results81, go_sem, v8]) rfl (hR'.out _ (((Below.refl _ _).alloc (Nat.le_refl _) _).alloc (by simp) _))

theorem values_of (e : Nat → Int) (V : Value) (hV : V = evv e) (w : World) (R : Ending → World → Prop) (hR : ∀ w', Below w.heap.size w w' → R (.returned (v8 fun f => e (f + 2))) w') :
    Calls Tryz.prog 81 #[V] w R := hV ▸ values_any e w R hR

set_option maxHeartbeats 400000 in
theorem event_any (k s : Int) (v : Nat → Int) (w : World) (R : Ending → World → Prop) (hR : ∀ w', Below w.heap.size w w' → R (.returned (.agg #[.int .i64 k, .int .i64 s, .int .i64 (v 0), .int .i64 (v 1), .int .i64 (v 2), .int .i64 (v 3), .int .i64 (v 4), .int .i64 (v 5), .int .i64 (v 6), .int .i64 (v 7)])) w') :
    Calls Tryz.prog 87 #[.int .i64 k, .int .i64 s, v8 v] w R := by
  have hR' : Hid (∀ w', Below w.heap.size w w' → R (.returned (.agg #[.int .i64 k, .int .i64 s, .int .i64 (v 0), .int .i64 (v 1), .int .i64 (v 2), .int .i64 (v 3), .int .i64 (v 4), .int .i64 (v 5), .int .i64 (v 6), .int .i64 (v 7)])) w') := hR
  clear hR
  unfold v8
  go_enter Tryz.func87, Tryz.ntmps87
  go_wp2
  refine bodyPost_ret (v := .agg #[.int .i64 k, .int .i64 s, .int .i64 (v 0), .int .i64 (v 1), .int .i64 (v 2), .int .i64 (v 3), .int .i64 (v 4), .int .i64 (v 5), .int .i64 (v 6), .int .i64 (v 7)]) (by simp [results, Tryz.results87, go_sem]) rfl (hR'.out _ ?_)
  exact ((Below.refl _ _).alloc (Nat.le_refl _) _).alloc (by simp) _

/-- the numbers of an event but Surplus, by its kind -/
def nums (e : Nat → Int) : List Int := (layn (e 0)).map fun f => e (f + 2)

theorem fields_end {R : Ending → World → Prop} {w : World} {o : Obj} {cur : Array Value} {b : Bool} (xs : List Int) (n : Nat)
   (hR : ∀ v w', Below w.heap.size w w' → w'.ownsRow w.heap.size 3 1 v xs.length (xs.map iv) → R (.returned (.tuple #[v, .bool b])) w')
   (hx : cur.toList = xs.map iv) (hn : xs.length = n) (hm : n ≤ 16) :
    R (.returned (.tuple #[.slice (some ⟨w.heap.size + 1, 0, none⟩) n n, .bool b])) ((w.alloc o).alloc (.cells cur 3)) := by
  subst hn
  have hs : cur.size = xs.length := by have := congrArg List.length hx; simpa using this
  have h := ownsRow_built (base := w.heap.size) (e := 3) (w.alloc o) cur xs.length (by simp) hs (by omega)
  rw [hx] at h
  simp only [World.size_alloc] at h
  exact hR _ _ (((Below.refl _ _).alloc (Nat.le_refl _) _).alloc (by simp) _) h

set_option maxHeartbeats 1000000 in
theorem Fields_any (e : Nat → Int) (w : World) (R : Ending → World → Prop)
   (hR : ∀ v w', Below w.heap.size w w' → w'.ownsRow w.heap.size 3 1 v (nums e).length ((nums e).map iv) → R (.returned (.tuple #[v, .bool (isK (e 0))])) w') :
    Calls Tryz.prog 100 #[evv e] w R := by
  unfold evv
  rcases kind_cases (e 0) with h | h | h | h | h | h | h | h | h
  · have hR' : Hid (∀ v w', Below w.heap.size w w' → w'.ownsRow w.heap.size 3 1 v [e 2, e 6].length ([e 2, e 6].map iv) → R (.returned (.tuple #[v, .bool true])) w') := by unfold Hid; simpa [nums, layn, isK, h] using hR
    clear hR
    go_enter Tryz.func100, Tryz.ntmps100
    go_wp2
    exact fields_end [e 2, e 6] 2 hR'.out rfl rfl (by decide)
  · have hR' : Hid (∀ v w', Below w.heap.size w w' → w'.ownsRow w.heap.size 3 1 v [e 2, e 3].length ([e 2, e 3].map iv) → R (.returned (.tuple #[v, .bool true])) w') := by unfold Hid; simpa [nums, layn, isK, h] using hR
    clear hR
    go_enter Tryz.func100, Tryz.ntmps100
    go_wp2
    exact fields_end [e 2, e 3] 2 hR'.out rfl rfl (by decide)
  · have hR' : Hid (∀ v w', Below w.heap.size w w' → w'.ownsRow w.heap.size 3 1 v [e 4, e 5, e 6, e 7].length ([e 4, e 5, e 6, e 7].map iv) → R (.returned (.tuple #[v, .bool true])) w') := by unfold Hid; simpa [nums, layn, isK, h] using hR
    clear hR
    go_enter Tryz.func100, Tryz.ntmps100
    go_wp2
    exact fields_end [e 4, e 5, e 6, e 7] 4 hR'.out rfl rfl (by decide)
  · have hR' : Hid (∀ v w', Below w.heap.size w w' → w'.ownsRow w.heap.size 3 1 v [e 2, e 6].length ([e 2, e 6].map iv) → R (.returned (.tuple #[v, .bool true])) w') := by unfold Hid; simpa [nums, layn, isK, h] using hR
    clear hR
    go_enter Tryz.func100, Tryz.ntmps100
    go_wp2
    exact fields_end [e 2, e 6] 2 hR'.out rfl rfl (by decide)
  · have hR' : Hid (∀ v w', Below w.heap.size w w' → w'.ownsRow w.heap.size 3 1 v [e 2, e 6].length ([e 2, e 6].map iv) → R (.returned (.tuple #[v, .bool true])) w') := by unfold Hid; simpa [nums, layn, isK, h] using hR
    clear hR
    go_enter Tryz.func100, Tryz.ntmps100
    go_wp2
    exact fields_end [e 2, e 6] 2 hR'.out rfl rfl (by decide)
  · have hR' : Hid (∀ v w', Below w.heap.size w w' → w'.ownsRow w.heap.size 3 1 v [e 7, e 6].length ([e 7, e 6].map iv) → R (.returned (.tuple #[v, .bool true])) w') := by unfold Hid; simpa [nums, layn, isK, h] using hR
    clear hR
    go_enter Tryz.func100, Tryz.ntmps100
    go_wp2
    exact fields_end [e 7, e 6] 2 hR'.out rfl rfl (by decide)
  · have hR' : Hid (∀ v w', Below w.heap.size w w' → w'.ownsRow w.heap.size 3 1 v [e 7, e 6].length ([e 7, e 6].map iv) → R (.returned (.tuple #[v, .bool true])) w') := by unfold Hid; simpa [nums, layn, isK, h] using hR
    clear hR
    go_enter Tryz.func100, Tryz.ntmps100
    go_wp2
    exact fields_end [e 7, e 6] 2 hR'.out rfl rfl (by decide)
  · have hR' : Hid (∀ v w', Below w.heap.size w w' → w'.ownsRow w.heap.size 3 1 v [e 9].length ([e 9].map iv) → R (.returned (.tuple #[v, .bool true])) w') := by unfold Hid; simpa [nums, layn, isK, h] using hR
    clear hR
    go_enter Tryz.func100, Tryz.ntmps100
    go_wp2
    exact fields_end [e 9] 1 hR'.out rfl rfl (by decide)
  · obtain ⟨h1, h2, h3, h4, h5, h6, h7, h8⟩ := isK_not h
    have hn : nums e = [] := by simp only [beq_eq_false_iff_ne] at h1 h2 h3 h4 h5 h6 h7 h8; simp [nums, layn, *]
    have hR' : Hid (R (.returned (.tuple #[.slice none 0 0, .bool false])) (w.alloc (.cells #[.int .i64 (e 0), .int .i64 (e 1), .int .i64 (e 2), .int .i64 (e 3), .int .i64 (e 4), .int .i64 (e 5), .int .i64 (e 6), .int .i64 (e 7), .int .i64 (e 8), .int .i64 (e 9)] 42))) := by
      have := hR (.slice none 0 0) _ ((Below.refl _ _).alloc (Nat.le_refl _) (.cells #[.int .i64 (e 0), .int .i64 (e 1), .int .i64 (e 2), .int .i64 (e 3), .int .i64 (e 4), .int .i64 (e 5), .int .i64 (e 6), .int .i64 (e 7), .int .i64 (e 8), .int .i64 (e 9)] 42)) (by rw [hn]; exact World.ownsRow_nil _ _ _ _)
      rw [h] at this
      exact this
    clear hR h hn
    go_enter Tryz.func100, Tryz.ntmps100
    go_wp2
    exact hR'.out
#print axioms Fields_any

theorem Fields_of (e : Nat → Int) (V : Value) (hV : V = evv e) (w : World) (R : Ending → World → Prop)
   (hR : ∀ v w', Below w.heap.size w w' → w'.ownsRow w.heap.size 3 1 v (nums e).length ((nums e).map iv) → R (.returned (.tuple #[v, .bool (isK (e 0))])) w') :
    Calls Tryz.prog 100 #[V] w R := hV ▸ Fields_any e w R hR
end Go.Proofs.YtmiiejinahnpkaaGreatDoor
