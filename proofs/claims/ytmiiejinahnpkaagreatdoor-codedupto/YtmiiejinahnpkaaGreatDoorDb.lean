/- A script that is read: it lies in memory (ScriptAt), and it is short. -/
import Derived.Test.YtmiiejinahnpkaaGreatDoorDa
import Derived.Test.YtmiiejinahnpkaaGreatDoorRows
namespace Go.Proofs.YtmiiejinahnpkaaGreatDoor
open Go.RowKit

theorem bulk_one {H : Type} (d : DataW H) : 1 ≤ Rows.uptoBulk d := by
  cases d with
  | lit l => cases l <;> simp [Rows.uptoBulk]
  | _ => simp [Rows.uptoBulk]

theorem bulk_mem {H : Type} {d : DataW H} {l : List (DataW H)} (h : d ∈ l) : Rows.uptoBulk d ≤ Rows.uptoBulkAll l := by
  induction l with
  | nil => cases h
  | cons x r ih =>
    simp only [Rows.uptoBulkAll]
    rcases List.mem_cons.1 h with rfl | e
    · omega
    · have := ih e; omega

theorem bulk_len {H : Type} (l : List (DataW H)) : l.length ≤ Rows.uptoBulkAll l := by
  induction l with
  | nil => simp
  | cons x r ih => have := bulk_one x; simp only [Rows.uptoBulkAll, List.length_cons]; omega

theorem bulk_slice {H : Type} (e s : List (DataW H)) : Rows.uptoBulkAll e ≤ Rows.uptoBulk (.slice e s) := by
  simp only [Rows.uptoBulk]
  omega

theorem bulk_agg {H : Type} (e : List (DataW H)) : Rows.uptoBulkAll e ≤ Rows.uptoBulk (.agg e) := by
  simp only [Rows.uptoBulk]
  omega

section
variable {H : Type} {enc : TypeId × Value → H} {w : World} {spare : Nat → Bool} {held : Bool}

theorem open_bytes {fuel : Nat} {cs : List Value} {x : DataW H × List MemPlace} (h : DataW.trod enc Tryz.prog w 0 spare held fuel 31 cs = some x) (hk : Rows.uptoBulk x.1 ≤ 1048576) :
    ∃ a N c X, cs = [.slice a N c] ∧ N ≤ 1048576 ∧ BsAt w a N X ∧ ∀ q, q < N → 0 ≤ X q ∧ X q ≤ 255 := by
  rcases ChangeShapes.open_ints Tryz.underlying31 Tryz.underlying5 Tryz.cellsU8 h with ⟨rfl, _⟩ | ⟨a, len, cap, zs, rfl, _, hl, _, hz, rfl, hc, hw⟩
  · exact ⟨none, 0, 0, fun _ => 0, rfl, by omega, fun i hi => absurd hi (by omega), fun i hi => absurd hi (by omega)⟩
  · have hlen : len ≤ zs.length := by rw [hz]; split <;> omega
    refine ⟨some a, len, cap, fun q => zs.getD q 0, rfl, ?_, ?_, ?_⟩
    · have h1 := bulk_slice (H := H) (ChangeShapes.lits .u8 (zs.take len)) (ChangeShapes.lits .u8 (zs.drop len))
      have h2 := bulk_len (H := H) (ChangeShapes.lits .u8 (zs.take len))
      simp [ChangeShapes.lits] at h2
      simp only at hk
      simp [ChangeShapes.lits] at h1 hk
      omega
    · intro i hi
      have h0 := hc 0 (by omega)
      have hp := plain_of (show w.cell? a = some _ by simpa [Addr.add] using h0)
      refine ⟨a.block, a.off, by rw [← hp], ?_⟩
      have := hc i (by omega)
      rw [hp, add_plain] at this
      exact this
    · intro q hq
      have hq' : q < zs.length := by omega
      refine wf_u8 (hw _ ?_)
      show zs.getD q 0 ∈ zs
      rw [List.getD_eq_getElem?_getD, List.getElem?_eq_getElem hq']
      exact List.getElem_mem hq'

theorem open_events {fuel : Nat} {cs : List Value} {x : DataW H × List MemPlace} (h : DataW.trod enc Tryz.prog w 0 spare held fuel 32 cs = some x) (hk : Rows.uptoBulk x.1 ≤ 1048576) :
    ∃ a n c es, cs = [.slice a n c] ∧ n ≤ 1048576 ∧ EvsAt w a n es ∧ ∀ q j, -9223372036854775808 ≤ es q j ∧ es q j ≤ 9223372036854775807 := by
  rcases Deep.open_slice Tryz.underlying32 h with ⟨rfl, _⟩ | ⟨a, len, cap, m, n, D, Pl, rfl, _, hl, _, hm, rfl, hx⟩
  · exact ⟨none, 0, 0, fun _ _ => 0, rfl, by omega, fun i hi => absurd hi (by omega), fun _ _ => by simp⟩
  · have hlen : len ≤ m := by rw [hm]; split <;> omega
    have key : ∀ i, i < len → ∀ j, j < 10 → ∃ z, w.cell? (a.add (i * 10 + j)) = some (.int .i64 z) ∧ -9223372036854775808 ≤ z ∧ z ≤ 9223372036854775807 := by
      intro i hi j hj
      obtain ⟨cs', h1, h2⟩ := hx i (by omega)
      rw [Tryz.cellsEvent] at h1
      obtain ⟨_, _, h3⟩ := World.cells?_some h1
      obtain ⟨z, hz, hr⟩ := open_event h2 j hj
      refine ⟨z, ?_, hr⟩
      rw [← Deep.add_add, h3 j hj, hz]
    obtain ⟨es, he1, he2⟩ : ∃ es : Nat → Nat → Int, (∀ i, i < len → ∀ j, j < 10 → w.cell? (a.add (i * 10 + j)) = some (.int .i64 (es i j))) ∧ ∀ q j, -9223372036854775808 ≤ es q j ∧ es q j ≤ 9223372036854775807 := by
      classical
      refine ⟨fun i j => if hh : i < len ∧ j < 10 then Classical.choose (key i hh.1 j hh.2) else 0, fun i hi j hj => ?_, fun q j => ?_⟩
      · simp only [dif_pos (show i < len ∧ j < 10 from ⟨hi, hj⟩)]
        exact (Classical.choose_spec (key i hi j hj)).1
      · by_cases hh : q < len ∧ j < 10
        · simp only [dif_pos hh]
          exact (Classical.choose_spec (key q hh.1 j hh.2)).2
        · simp only [dif_neg hh]
          omega
    refine ⟨some a, len, cap, es, rfl, ?_, ?_, he2⟩
    · have h1 := bulk_slice (H := H) ((List.range len).map D) ((List.range (m - len)).map fun j => D (len + j))
      have h2 := bulk_len (H := H) ((List.range len).map D)
      simp only [List.length_map, List.length_range] at h2
      simp only at hk
      omega
    · intro i hi
      have h0 := he1 0 (by omega) 0 (by decide)
      have hp := plain_of (show w.cell? a = some _ by simpa [Addr.add] using h0)
      refine ⟨a.block, a.off, by rw [← hp], fun j hj => ?_⟩
      have := he1 i hi j hj
      rw [hp, add_plain] at this
      rw [Nat.add_assoc]
      exact this

theorem list_four {l : List Value} (h : l.length = 4) : ∃ a b c d, l = [a, b, c, d] := by
  match l, h with
  | [a, b, c, d], _ => exact ⟨a, b, c, d, rfl⟩

/-- a step that is read -/
theorem open_op {fuel : Nat} {cs : List Value} {x : DataW H × List MemPlace} (h : DataW.trod enc Tryz.prog w 0 spare held fuel 34 cs = some x) (hk : Rows.uptoBulk x.1 ≤ 1048576) :
    ∃ K a N c X a' N' c' E b, cs = [.int .i64 K, .slice a N c, .slice a' N' c', .bool b] ∧ (N ≤ 1048576 ∧ BsAt w a N X ∧ ∀ q, q < N → 0 ≤ X q ∧ X q ≤ 255) ∧ (N' ≤ 1048576 ∧ EvsAt w a' N' E ∧ ∀ q j, -9223372036854775808 ≤ E q j ∧ E q j ≤ 9223372036854775807) := by
  obtain ⟨fs, hfs, hf⟩ := flds_struct Tryz.fldsOp
  obtain ⟨xs, n, _, hx, hlen, hxl, hxs⟩ := DataW.trod_struct hfs h
  rw [Tryz.cellsOp] at hlen
  obtain ⟨f0, g0, o0, t0⟩ := hf 0 0 3 rfl
  obtain ⟨f1, g1, o1, t1⟩ := hf 1 1 31 rfl
  obtain ⟨f2, g2, o2, t2⟩ := hf 2 2 32 rfl
  obtain ⟨f3, g3, o3, t3⟩ := hf 3 3 4 rfl
  obtain ⟨c0, c1, c2, c3, rfl⟩ := list_four hlen
  have s0 := hxs 0 f0 g0
  have s1 := hxs 1 f1 g1
  have s2 := hxs 2 f2 g2
  have s3 := hxs 3 f3 g3
  rw [o0, t0, Tryz.cellsInt] at s0
  rw [o1, t1, Tryz.cellsBytes] at s1
  rw [o2, t2, Tryz.cellsEvents] at s2
  rw [o3, t3, Tryz.cellsBool] at s3
  have sz : 4 ≤ xs.length := by
    have := (Array.getElem?_eq_some_iff.1 g3).1
    omega
  have m1 : (xs[1]'(by omega)).1 ∈ xs.map (·.1) := List.mem_map_of_mem (List.getElem_mem _)
  have m2 : (xs[2]'(by omega)).1 ∈ xs.map (·.1) := List.mem_map_of_mem (List.getElem_mem _)
  have b0 := bulk_agg (H := H) (xs.map (·.1))
  have b1 := bulk_mem m1
  have b2 := bulk_mem m2
  rw [hx] at hk
  simp only at hk
  rw [List.getElem?_eq_getElem (by omega)] at s0 s1 s2 s3
  obtain ⟨K, hK, _, _⟩ := DataW.trod_int Tryz.underlying3 s0
  obtain ⟨a, N, c, X, e1, r1⟩ := open_bytes s1 (by omega)
  obtain ⟨a', N', c', E, e2, r2⟩ := open_events s2 (by omega)
  obtain ⟨b, hb, _⟩ := DataW.trod_bool Tryz.underlying4 s3
  simp only [List.drop_zero, List.drop_succ_cons, List.take_succ_cons, List.take_zero, List.cons.injEq, and_true] at hK e1 e2 hb
  exact ⟨K, a, N, c, X, a', N', c', E, b, by rw [hK, e1, e2, hb], r1, r2⟩

/-- a script that is read -/
theorem open_script {fuel : Nat} {cs : List Value} {x : DataW H × List MemPlace} (h : DataW.trod enc Tryz.prog w 0 spare held fuel 22 cs = some x) (hk : Rows.uptoBulk x.1 ≤ 1048576) :
    ∃ sa m c K A N C X A' N' C' E b, cs = [.slice sa m c] ∧ m ≤ 1048576 ∧ ScriptAt w sa m K A N C X A' N' C' E b := by
  rcases Deep.open_slice Tryz.underlying22 h with ⟨rfl, _⟩ | ⟨a, len, cap, m, n, D, Pl, rfl, _, hl, _, hm, rfl, hx⟩
  · exact ⟨none, 0, 0, fun _ => 0, fun _ => none, fun _ => 0, fun _ => 0, fun _ _ => 0, fun _ => none, fun _ => 0, fun _ => 0, fun _ _ _ => 0, fun _ => false, rfl, by omega, fun i hi => absurd hi (by omega), fun i hi => absurd hi (by omega), fun i hi => absurd hi (by omega)⟩
  · have hlen : len ≤ m := by rw [hm]; split <;> omega
    have hb1 := bulk_slice (H := H) ((List.range len).map D) ((List.range (m - len)).map fun j => D (len + j))
    have hb2 := bulk_len (H := H) ((List.range len).map D)
    simp only [List.length_map, List.length_range] at hb2
    simp only at hk
    have key : ∀ i, i < len → ∃ (t : Int × (Option Addr × Nat × Nat × (Nat → Int)) × (Option Addr × Nat × Nat × (Nat → Nat → Int)) × Bool), w.cell? (a.add (i * 4)) = some (.int .i64 t.1) ∧ w.cell? (a.add (i * 4 + 1)) = some (.slice t.2.1.1 t.2.1.2.1 t.2.1.2.2.1) ∧ w.cell? (a.add (i * 4 + 2)) = some (.slice t.2.2.1.1 t.2.2.1.2.1 t.2.2.1.2.2.1) ∧ w.cell? (a.add (i * 4 + 3)) = some (.bool t.2.2.2) ∧
        (t.2.1.2.1 ≤ 1048576 ∧ BsAt w t.2.1.1 t.2.1.2.1 t.2.1.2.2.2 ∧ ∀ q, q < t.2.1.2.1 → 0 ≤ t.2.1.2.2.2 q ∧ t.2.1.2.2.2 q ≤ 255) ∧ (t.2.2.1.2.1 ≤ 1048576 ∧ EvsAt w t.2.2.1.1 t.2.2.1.2.1 t.2.2.1.2.2.2 ∧ ∀ q j, -9223372036854775808 ≤ t.2.2.1.2.2.2 q j ∧ t.2.2.1.2.2.2 q j ≤ 9223372036854775807) := by
      intro i hi
      obtain ⟨cs', h1, h2⟩ := hx i (by omega)
      rw [Tryz.cellsOp] at h1
      obtain ⟨_, _, h3⟩ := World.cells?_some h1
      have hD : D i ∈ (List.range len).map D := List.mem_map_of_mem (List.mem_range.2 hi)
      have hb3 := bulk_mem hD
      obtain ⟨K, a1, N, c, X, a2, N', c', E, b, rfl, r1, r2⟩ := open_op h2 (by simp only; omega)
      refine ⟨(K, (a1, N, c, X), (a2, N', c', E), b), ?_, ?_, ?_, ?_, r1, r2⟩
      · have := h3 0 (by decide)
        rw [Deep.add_add, Nat.add_zero] at this
        exact this
      · rw [← Deep.add_add, h3 1 (by decide)]; rfl
      · rw [← Deep.add_add, h3 2 (by decide)]; rfl
      · rw [← Deep.add_add, h3 3 (by decide)]; rfl
    classical
    obtain ⟨T, hT⟩ := Deep.choose_lt (α := Int × (Option Addr × Nat × Nat × (Nat → Int)) × (Option Addr × Nat × Nat × (Nat → Nat → Int)) × Bool) key
    refine ⟨some a, len, cap, fun i => (T i).1, fun i => (T i).2.1.1, fun i => (T i).2.1.2.1, fun i => (T i).2.1.2.2.1, fun i => (T i).2.1.2.2.2, fun i => (T i).2.2.1.1, fun i => (T i).2.2.1.2.1, fun i => (T i).2.2.1.2.2.1, fun i => (T i).2.2.1.2.2.2, fun i => (T i).2.2.2, rfl, by omega, ?_, fun i hi => (hT i hi).2.2.2.2.1, fun i hi => (hT i hi).2.2.2.2.2⟩
    intro i hi
    have h0 := (hT 0 (by omega)).1
    have hp := plain_of (show w.cell? a = some _ by simpa [Addr.add] using h0)
    obtain ⟨q0, q1, q2, q3, _⟩ := hT i hi
    rw [hp, add_plain] at q0 q1 q2 q3
    refine ⟨a.block, a.off, by rw [← hp], q0, ?_, ?_, ?_⟩
    · rw [Nat.add_assoc]; exact q1
    · rw [Nat.add_assoc]; exact q2
    · rw [Nat.add_assoc]; exact q3
end
#print axioms open_script
end Go.Proofs.YtmiiejinahnpkaaGreatDoor
