/- Plain facts: which numbers an event of each kind has, its bytes, when it can be told in bytes. -/
import Derived.Test.YtmiiejinahnpkaaGreatDoorAa
namespace Go.Proofs.YtmiiejinahnpkaaGreatDoor
open Go.RowKit

/-- the numbers behind Seq, by kind: places among the eight that follow Kind and Seq -/
def lay (k : Int) : List Nat :=
  if k = 1 then [0, 4] else if k = 2 then [0, 1] else if k = 3 then [2, 3, 4, 5] else if k = 4 then [0, 4] else if k = 5 then [0, 4] else if k = 6 then [5, 4, 6] else if k = 7 then [5, 4, 6] else if k = 8 then [7] else []
/-- the same but Surplus -/
def layn (k : Int) : List Nat :=
  if k = 1 then [0, 4] else if k = 2 then [0, 1] else if k = 3 then [2, 3, 4, 5] else if k = 4 then [0, 4] else if k = 5 then [0, 4] else if k = 6 then [5, 4] else if k = 7 then [5, 4] else if k = 8 then [7] else []

def isK (k : Int) : Bool := decide (1 ≤ k ∧ k ≤ 8)
def isN (x : Int) : Bool := decide (0 ≤ x ∧ x ≤ 4294967295)
def wid (f : Nat) : Nat := if f = 6 then 8 else 4

/-- the event of a kind with numbers -/
def fill (k s : Int) (xs : Nat → Int) (u : Int) : Nat → Int := fun j =>
  if j = 0 then k else if j = 1 then s else if j = 8 then u else if (layn k).contains (j - 2) then xs ((layn k).idxOf (j - 2)) else 0

/-- can the event be told in bytes? -/
def fits (e : Nat → Int) : Bool := isK (e 0) && isN (e 1) && (lay (e 0)).all (fun f => f == 6 || isN (e (f + 2))) && (List.range 8).all (fun f => (lay (e 0)).contains f || e (f + 2) == 0)
/-- its bytes -/
def ebytes (e : Nat → Int) : List Int := be (e 0) 1 ++ be (e 1) 4 ++ (lay (e 0)).flatMap fun f => be (e (f + 2)) (wid f)

theorem kind_cases (k : Int) : k = 1 ∨ k = 2 ∨ k = 3 ∨ k = 4 ∨ k = 5 ∨ k = 6 ∨ k = 7 ∨ k = 8 ∨ isK k = false := by
  simp only [isK, decide_eq_false_iff_not]
  omega

theorem isK_not {k : Int} (h : isK k = false) : (k == 1) = false ∧ (k == 2) = false ∧ (k == 3) = false ∧ (k == 4) = false ∧ (k == 5) = false ∧ (k == 6) = false ∧ (k == 7) = false ∧ (k == 8) = false := by
  simp only [isK, decide_eq_false_iff_not] at h
  simp only [beq_eq_false_iff_ne]
  omega

theorem lay_len (k : Int) : (lay k).length ≤ 4 := by
  unfold lay
  repeat' split
  all_goals simp

theorem lay_lt (k : Int) : ∀ f ∈ lay k, f < 8 := by
  unfold lay
  repeat' split
  all_goals simp

theorem lay_nodup (k : Int) : (lay k).Nodup := by
  unfold lay
  repeat' split
  all_goals simp

theorem lay_fresh (k : Int) (j : Nat) (h : j < (lay k).length) : ((lay k).take j).contains ((lay k).getD j 0) = false := by
  have hd := lay_nodup k
  simp only [List.getD_eq_getElem?_getD]
  rw [List.getElem?_eq_getElem h]
  simp only [Option.getD_some]
  rw [Bool.eq_false_iff]
  intro hc
  rw [List.contains_iff_mem] at hc
  obtain ⟨i, hi, he⟩ := List.getElem_of_mem hc
  simp only [List.length_take] at hi
  rw [List.getElem_take] at he
  have := (List.getElem_inj hd).1 he
  omega

/-- the eight numbers of an event with those of some places struck -/
def struck (e : Nat → Int) (l : List Nat) : Nat → Int := fun i => if l.contains i then 0 else e (i + 2)

theorem struck_step (e : Nat → Int) (k : Int) (j : Nat) (h : j < (lay k).length) :
    (fun i => if i = (lay k).getD j 0 then 0 else struck e ((lay k).take j) i) = struck e ((lay k).take (j + 1)) := by
  funext i
  rw [take_succ_of_get (lay k) j ((lay k).getD j 0) (by simp only [List.getD_eq_getElem?_getD]; rw [List.getElem?_eq_getElem h]; rfl)]
  generalize (lay k).getD j 0 = g
  simp only [struck, List.contains_iff_mem, List.mem_append, List.mem_singleton]
  by_cases hi : i = g
  · simp [hi]
  · simp [hi]

/-- the cells of a boxed event -/
theorem evv_cells (e : Nat → Int) : ∀ i, i < 10 → (#[.int .i64 (e 0), .int .i64 (e 1), .int .i64 (e 2), .int .i64 (e 3), .int .i64 (e 4), .int .i64 (e 5), .int .i64 (e 6), .int .i64 (e 7), .int .i64 (e 8), .int .i64 (e 9)] : Array Value)[i]? = some (.int .i64 (e i)) := by
  intro i hi
  match i, hi with
  | 0, _ => rfl
  | 1, _ => rfl
  | 2, _ => rfl
  | 3, _ => rfl
  | 4, _ => rfl
  | 5, _ => rfl
  | 6, _ => rfl
  | 7, _ => rfl
  | 8, _ => rfl
  | 9, _ => rfl

theorem v8_cells (e : Nat → Int) : ∀ i, i < 8 → (#[.int .i64 (e 0), .int .i64 (e 1), .int .i64 (e 2), .int .i64 (e 3), .int .i64 (e 4), .int .i64 (e 5), .int .i64 (e 6), .int .i64 (e 7)] : Array Value)[i]? = some (.int .i64 (e i)) := by
  intro i hi
  match i, hi with
  | 0, _ => rfl
  | 1, _ => rfl
  | 2, _ => rfl
  | 3, _ => rfl
  | 4, _ => rfl
  | 5, _ => rfl
  | 6, _ => rfl
  | 7, _ => rfl

/-- a row that was laid whole -/
theorem ownsRow_built {base : Nat} {e : TypeId} (w : World) (cur : Array Value) (n : Nat) (hb : base ≤ w.heap.size) (hn : cur.size = n) (hm : n ≤ 1073741824) :
    (w.alloc (.cells cur e)).ownsRow base e 1 (.slice (some ⟨w.heap.size, 0, none⟩) n n) n cur.toList :=
  ⟨by simp [hn], .inr ⟨w.heap.size, n, cur, rfl, hb, heap_alloc_new w _, Nat.le_refl _, by unfold maxLen; omega, by simp [hn], by rw [List.take_of_length_le]; simp [hn]⟩⟩

/-- a block of n integers, not frozen -/
structure Ints (W : World) (E n : Nat) (e : Nat → Int) : Prop where
  cell : ∀ i, i < n → W.cell? ⟨E, i, none⟩ = some (.int .i64 (e i))
  free : ∀ i, W.frozen? ⟨E, i, none⟩ = false
  lt : E < W.heap.size

theorem Ints.below {W w1 : World} {E n B : Nat} {e : Nat → Int} (h : Ints W E n e) (hb : Below B W w1) (hB : E < B) : Ints w1 E n e :=
  ⟨fun i hi => (hb.cell hB).trans (h.cell i hi), fun i => (hb.frozen hB).trans (h.free i), Nat.lt_of_lt_of_le h.lt hb.size⟩

theorem Ints.ext {W w1 : World} {E n : Nat} {e : Nat → Int} (h : Ints W E n e) (hb : Below W.heap.size W w1) : Ints w1 E n e := h.below hb h.lt

theorem Ints.grown {W w1 : World} {E n : Nat} {r : Option Nat} {e : Nat → Int} (h : Ints W E n e) (hg : W.grownBy w1 r) (hr : r ≠ some E) : Ints w1 E n e :=
  ⟨fun i hi => (hg.cell_far ⟨E, i, none⟩ h.lt (Ne.symm hr)).trans (h.cell i hi), fun i => (hg.frozen_far ⟨E, i, none⟩ h.lt (Ne.symm hr)).trans (h.free i), Nat.lt_of_lt_of_le h.lt hg.size⟩

/-- a block that was just laid -/
theorem Ints.new {w : World} {arr : Array Value} {t : TypeId} (n : Nat) (e : Nat → Int) (h : ∀ i, i < n → arr[i]? = some (.int .i64 (e i))) : Ints (w.alloc (.cells arr t)) w.heap.size n e := by
  have hb := heap_alloc_new w (.cells arr t)
  refine ⟨fun i hi => ?_, fun i => ?_, by simp⟩
  · rw [cell_of_row _ _ i arr t (0, 0) hb]
    exact h i hi
  · simp only [World.frozen?, hb]
    simp

theorem Ints.alloc {W : World} {E n : Nat} {e : Nat → Int} (h : Ints W E n e) (o : Obj) : Ints (W.alloc o) E n e :=
  h.ext ((Below.refl _ _).alloc (Nat.le_refl _) _)

/-- behind a store of a number -/
theorem Ints.store {W : World} {E n : Nat} {e : Nat → Int} (h : Ints W E n e) (j : Nat) (x : Int) : Ints (W.setCell ⟨E, j, none⟩ (.int .i64 x)) E n (fun i => if i = j then x else e i) := by
  refine ⟨fun i hi => ?_, fun i => ?_, by simpa using h.lt⟩
  · by_cases hij : i = j
    · subst hij
      simp only [if_pos]
      exact World.cell?_setCell_same _ _ _ (h.cell i hi)
    · rw [World.cell?_setCell_other _ _ _ _ (by intro hh; simp at hh <;> omega), if_neg hij]
      exact h.cell i hi
  · rw [World.frozen?_setCell]
    exact h.free i

theorem Ints.store_other {W : World} {E n D j : Nat} {e : Nat → Int} {x : Value} (h : Ints W E n e) (hD : D ≠ E) : Ints (W.setCell ⟨D, j, none⟩ x) E n e := by
  refine ⟨fun i hi => ?_, fun i => ?_, by simpa using h.lt⟩
  · rw [World.cell?_setCell_other _ _ _ _ (by intro hh; simp at hh <;> omega)]
    exact h.cell i hi
  · rw [World.frozen?_setCell]
    exact h.free i

end Go.Proofs.YtmiiejinahnpkaaGreatDoor
