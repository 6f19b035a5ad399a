/- What the listed table says of memory; the contract of Coded. -/
import Derived.Test.YtmiiejinahnpkaaGreatDoorDb
import Derived.Test.YtmiiejinahnpkaaGreatDoorCards
import Derived.Test.YtmiiejinahnpkaaGreatDoorTie
import Derived.WalkKit
import Derived.ProofKit
import Derived.OpenShut
import Derived.Deep.DeepHandedRow
import Derived.Deep.DeepWitnessRowRef
import Derived.Lib.LaidTab
import Derived.LaidMore
import Derived.Carry
namespace Go.Proofs.YtmiiejinahnpkaaGreatDoor.coded
open Go.ChangeShapes Go.WideShapes Go.ChangeAt Go.RowKit

theorem own : ownKnob Tryz.prog.godebug = none := by kernel_rfl
theorem gLay : Tryz.prog.globalNamed "outcry/wire.layouts" = some 0 := by kernel_rfl
theorem gLayType : (Tryz.prog.globals[0]?).map (·.type) = some 134 := by kernel_rfl
theorem cellsFields : Tryz.prog.cellsOf 133 = 1 := by kernel_rfl
theorem cellsField : Tryz.prog.cellsOf 135 = 1 := by kernel_rfl
theorem noHandle : (Rows.codedUptoRow.laid.filter fun x => x.2.handleName?.isSome) = [] := by kernel_rfl

/-- an array that is read, part by part -/
theorem trod_array {H : Type} {enc : TypeId × Value → H} {P : Program} {w : World} {base : Nat} {sp : Nat → Bool} {held : Bool} {fuel : Nat} {t e : TypeId} {n : Nat} {cs : List Value} {ds : List (DataW H)} {p : List MemPlace}
    (ht : P.underlying t = some (.array n e)) (hce : P.cellsOf e = 1) (hct : P.cellsOf t = n) (h : DataW.trod enc P w base sp held fuel t cs = some (.agg ds, p)) :
    ∀ i d, i < n → ds[i]? = some d → ∃ v m q, cs[i]? = some v ∧ DataW.trod enc P w base sp held m e [v] = some (d, q) := by
  cases fuel with
  | zero => simp [DataW.trod] at h
  | succ m =>
    simp only [DataW.trod, ht, hce, Nat.mul_one] at h
    split at h
    · obtain ⟨xs, hm, hx⟩ := Option.map_eq_some_iff.1 h
      have hx1 : xs.map (·.1) = ds := by simpa using congrArg Prod.fst hx
      intro i d hi hd
      obtain ⟨y, hy1, hy2⟩ := Lib.mapM_at hm i i (by simp [hi])
      rw [← hx1, List.getElem?_map, hy1] at hd
      simp only [Option.map_some, Option.some.injEq] at hd
      have hlen : i < cs.length := by
        have h1 : cs.length = P.cellsOf t := by assumption
        have h2 : P.cellsOf t = n := hct
        omega
      refine ⟨cs[i], m, y.2, List.getElem?_eq_getElem hlen, ?_⟩
      have hdr : (cs.drop i).take 1 = [cs[i]] := by
        rw [List.drop_eq_getElem_cons hlen]
        rfl
      rw [hdr] at hy2
      rw [hy2, ← hd]
    · cases h

theorem cellsLayouts : Tryz.prog.cellsOf 134 = 9 := by kernel_rfl

/-- the nine rows of the table, as the row lists them -/
def rowsOf : List (List Int) := [[], [0, 4], [0, 1], [2, 3, 4, 5], [0, 4], [0, 4], [5, 4, 6], [5, 4, 6], [7]]

theorem laid_get (k : Nat) (h1 : 1 ≤ k) (h2 : k ≤ 8) : ∃ ds : List (DataW Unit), Rows.laid_outcry_wire_layouts = .agg ds ∧ ds[k]? = some (.slice ((lay k).map fun f => .lit (.int .i64 (f : Nat))) []) := by
  refine ⟨_, rfl, ?_⟩
  rcases (show k = 1 ∨ k = 2 ∨ k = 3 ∨ k = 4 ∨ k = 5 ∨ k = 6 ∨ k = 7 ∨ k = 8 by omega) with rfl | rfl | rfl | rfl | rfl | rfl | rfl | rfl <;> rfl

theorem layAt {W : World} (h : laidMetH Tryz.prog Rows.codedUptoRow.laid W) : LayAt W := by
  have h' : laidMet Tryz.prog Rows.codedUptoRow.laid W := by
    unfold laidMetH at h
    rw [noHandle] at h
    exact h
  obtain ⟨ps, ⟨g, t, cs, fuel, p, q, hg, ht, hvar, hd, _, _⟩, _⟩ := h'
  obtain rfl := Option.some.inj (gLay.symm.trans hg)
  obtain rfl := Option.some.inj (gLayType.symm.trans ht)
  intro k h1 h2
  obtain ⟨ds, hds, hk⟩ := laid_get k h1 h2
  rw [hds] at hd
  obtain ⟨v, m, q', hv, hr⟩ := trod_array Tryz.underlying134 cellsFields cellsLayouts hd k _ (by omega) hk
  obtain ⟨a, cap, hcs, _, hrow⟩ := open_row Tryz.underlying133 cellsField hr
  simp only [List.cons.injEq, and_true] at hcs
  subst hcs
  have hc := World.var?_cell gLay hvar k
  rw [Array.getElem?_toList] at hv
  rw [hv] at hc
  have each : ∀ i f, (lay k)[i]? = some f → W.cell? (a.add i) = some (.int .i64 (f : Nat)) := by
    intro i f hf
    obtain ⟨v', n', q'', hw, hi⟩ := hrow i (.lit (.int .i64 (f : Nat))) (by rw [List.getElem?_map, hf]; rfl)
    obtain ⟨z, hz, hz2, _⟩ := DataW.trod_int Tryz.underlying135 hi
    simp only [List.cons.injEq, and_true] at hz
    simp only [Prod.mk.injEq, DataW.lit.injEq, Lit.int.injEq, true_and] at hz2
    rw [hw, hz, ← hz2.1]
  have hne : ∃ f, (lay k)[0]? = some f := by
    rcases (show k = 1 ∨ k = 2 ∨ k = 3 ∨ k = 4 ∨ k = 5 ∨ k = 6 ∨ k = 7 ∨ k = 8 by omega) with rfl | rfl | rfl | rfl | rfl | rfl | rfl | rfl <;> exact ⟨_, rfl⟩
  obtain ⟨f0, hf0⟩ := hne
  have hp := plain_of (show W.cell? a = some _ by simpa [Addr.add] using each 0 f0 hf0)
  refine ⟨a.block, a.off, cap, ?_, fun i f hf => ?_⟩
  · rw [hc, ← hp]
    simp
  · have := each i f hf
    rw [hp, add_plain] at this
    exact this
#print axioms layAt
end Go.Proofs.YtmiiejinahnpkaaGreatDoor.coded
