/- What the reading of a script says of memory: the steps, their bytes and their events lie there. -/
import Derived.Test.YtmiiejinahnpkaaGreatDoorCq
import Derived.Deep.Slices
import Derived.DataReads
namespace Go.Proofs.YtmiiejinahnpkaaGreatDoor
open Go.RowKit

theorem Tryz.cellsOp : Tryz.prog.cellsOf 34 = 4 := by kernel_rfl
theorem Tryz.cellsEvent : Tryz.prog.cellsOf 42 = 10 := by kernel_rfl
theorem Tryz.cellsU8 : Tryz.prog.cellsOf 5 = 1 := by kernel_rfl
theorem Tryz.cellsBytes : Tryz.prog.cellsOf 31 = 1 := by kernel_rfl
theorem Tryz.cellsEvents : Tryz.prog.cellsOf 32 = 1 := by kernel_rfl
theorem Tryz.cellsInt : Tryz.prog.cellsOf 3 = 1 := by kernel_rfl
theorem Tryz.cellsBool : Tryz.prog.cellsOf 4 = 1 := by kernel_rfl

/-- the fields of a struct type: offset and type -/
def flds (P : Program) (t : TypeId) : Option (List (Nat × TypeId)) := match P.underlying t with | some (.struct fs) => some (fs.toList.map fun f => (f.offset, f.type)) | _ => none

theorem flds_struct {P : Program} {t : TypeId} {l : List (Nat × TypeId)} (h : flds P t = some l) : ∃ fs : Array Field, P.underlying t = some (.struct fs) ∧ ∀ (j o : Nat) (u : TypeId), l[j]? = some (o, u) → ∃ f, fs[j]? = some f ∧ f.offset = o ∧ f.type = u := by
  unfold flds at h
  split at h
  · rename_i fs hfs
    refine ⟨fs, hfs, fun j o u hj => ?_⟩
    simp only [Option.some.injEq] at h
    rw [← h, List.getElem?_map] at hj
    cases hf : fs[j]? with
    | none =>
      rw [Array.getElem?_toList, hf] at hj
      simp at hj
    | some f =>
      rw [Array.getElem?_toList, hf] at hj
      simp only [Option.map_some, Option.some.injEq, Prod.mk.injEq] at hj
      exact ⟨f, rfl, hj.1, hj.2⟩
  · cases h

theorem Tryz.fldsOp : flds Tryz.prog 34 = some [(0, 3), (1, 31), (2, 32), (3, 4)] := by kernel_rfl

/-- every field of an event is an integer of 64 bits, in its own cell -/
def evOk (P : Program) : Option (List (Nat × TypeId)) → Bool
  | some l => l.length == 10 && (List.range 10).all fun j => match l[j]? with
    | some (o, u) => o == j && P.cellsOf u == 1 && (match P.underlying u with | some (.int .i64) => true | _ => false)
    | none => false
  | none => false

theorem Tryz.evOk : evOk Tryz.prog (flds Tryz.prog 42) = true := by kernel_rfl

theorem evOk_get {P : Program} {l : List (Nat × TypeId)} (h : evOk P (some l) = true) (j : Nat) (hj : j < 10) : ∃ u, l[j]? = some (j, u) ∧ P.cellsOf u = 1 ∧ P.underlying u = some (.int .i64) := by
  simp only [evOk, Bool.and_eq_true, List.all_eq_true, List.mem_range] at h
  have hjj := h.2 j hj
  cases hlj : l[j]? with
  | none => rw [hlj] at hjj; simp at hjj
  | some ou =>
    obtain ⟨o, u⟩ := ou
    rw [hlj] at hjj
    simp only [Bool.and_eq_true, beq_iff_eq] at hjj
    obtain ⟨⟨rfl, hc⟩, hu⟩ := hjj
    refine ⟨u, rfl, hc, ?_⟩
    split at hu
    · assumption
    · cases hu

theorem wf_i64 {z : Int} (h : (Lit.int .i64 z).wf = true) : -9223372036854775808 ≤ z ∧ z ≤ 9223372036854775807 := by
  have h1 : IntKind.i64.min = -9223372036854775808 := by decide
  have h2 : IntKind.i64.max = 9223372036854775807 := by decide
  simpa [Lit.wf, h1, h2] using h

theorem wf_u8 {z : Int} (h : (Lit.int .u8 z).wf = true) : 0 ≤ z ∧ z ≤ 255 := by
  have h1 : IntKind.u8.min = 0 := by decide
  have h2 : IntKind.u8.max = 255 := by decide
  simpa [Lit.wf, h1, h2] using h

theorem add_plain (b o k : Nat) : (⟨b, o, none⟩ : Addr).add k = ⟨b, o + k, none⟩ := by unfold Addr.add; split <;> simp_all

theorem plain_of {w : World} {a : Addr} {v : Value} (h : w.cell? a = some v) : a = ⟨a.block, a.off, none⟩ := by
  unfold World.cell? at h
  split at h
  · split at h
    · cases h
    · rename_i hs
      cases a with
      | mk b o s => cases s with
        | none => rfl
        | some _ => simp at hs
  · cases h

section
variable {H : Type} {enc : TypeId × Value → H} {w : World} {spare : Nat → Bool} {held : Bool}

/-- an event that is read -/
theorem open_event {fuel : Nat} {cs : List Value} {x : DataW H × List MemPlace} (h : DataW.trod enc Tryz.prog w 0 spare held fuel 42 cs = some x) :
    ∀ j, j < 10 → ∃ z, cs[j]? = some (.int .i64 z) ∧ -9223372036854775808 ≤ z ∧ z ≤ 9223372036854775807 := by
  have hok := Tryz.evOk
  cases hl : flds Tryz.prog 42 with
  | none => rw [hl] at hok; simp [evOk] at hok
  | some l =>
    rw [hl] at hok
    obtain ⟨fs, hfs, hf⟩ := flds_struct hl
    obtain ⟨xs, n, _, _, hlen, hxl, hx⟩ := DataW.trod_struct hfs h
    rw [Tryz.cellsEvent] at hlen
    intro j hj
    obtain ⟨u, hlj, hc, hu'⟩ := evOk_get hok j hj
    obtain ⟨f, hfj, rfl, rfl⟩ := hf j j u hlj
    have ht := hx f.offset f hfj
    rw [hc] at ht
    cases hxj : xs[f.offset]? with
    | none =>
      have : f.offset < xs.length := by
        have := (Array.getElem?_eq_some_iff.1 hfj).1
        omega
      rw [List.getElem?_eq_none_iff] at hxj
      omega
    | some y =>
      rw [hxj] at ht
      obtain ⟨z, hz, _, hwf⟩ := DataW.trod_int hu' ht
      refine ⟨z, ?_, ?_⟩
      · have h1 : ((cs.drop f.offset).take 1)[0]? = some (.int .i64 z) := by rw [hz]; rfl
        rw [List.getElem?_take] at h1
        simpa using h1
      · exact wf_i64 hwf
end
#print axioms open_event
end Go.Proofs.YtmiiejinahnpkaaGreatDoor
