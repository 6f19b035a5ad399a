/- Plain facts: how bytes are read as events. -/
import Derived.Test.YtmiiejinahnpkaaGreatDoorAc
namespace Go.Proofs.YtmiiejinahnpkaaGreatDoor
open Go.RowKit

/-- n bytes from a place on as one number, the highest first -/
def nb (X : Nat → Int) (at_ : Nat) : Nat → Int
  | 0 => 0
  | n + 1 => nb X at_ n * 256 + X (at_ + n)

/-- how many bytes an event of a kind takes; 0: there is no such kind -/
def elen (k : Int) : Nat := if isK k then 5 + 4 * (layn k).length + (if wide k then 8 else 0) else 0

/-- the number at a place of the eight, of the event that begins at a place -/
def dval (X : Nat → Int) (at_ : Nat) : Nat → Int := fun f =>
  if (lay (X at_)).contains f then (if f = 6 then IntKind.i64.wrap (nb X (at_ + 5 + 4 * (lay (X at_)).idxOf f) 8) else nb X (at_ + 5 + 4 * (lay (X at_)).idxOf f) 4) else 0

/-- the event that begins at a place -/
def dev (X : Nat → Int) (at_ : Nat) : Nat → Int := fun j => if j = 0 then X at_ else if j = 1 then nb X (at_ + 1) 4 else dval X at_ (j - 2)

/-- where event i begins -/
def pos (X : Nat → Int) : Nat → Nat
  | 0 => 0
  | i + 1 => pos X i + elen (X (pos X i))

/-- event i is whole -/
def good (X : Nat → Int) (N i : Nat) : Prop := pos X i < N ∧ isK (X (pos X i)) = true ∧ pos X i + elen (X (pos X i)) ≤ N

/-- the cells of the first i events -/
def dcells (X : Nat → Int) (i : Nat) : List Value := (List.range i).flatMap fun q => (List.range 10).map fun j => iv (dev X (pos X q) j)

theorem dcells_succ (X : Nat → Int) (i : Nat) : dcells X (i + 1) = dcells X i ++ (List.range 10).map fun j => iv (dev X (pos X i) j) := by simp [dcells, List.range_succ]

theorem elen_pos (k : Int) (h : isK k = true) : 9 ≤ elen k := by
  rcases kind_cases k with h' | h' | h' | h' | h' | h' | h' | h' | h'
  case inr.inr.inr.inr.inr.inr.inr.inr => rw [h'] at h; cases h
  all_goals simp [elen, layn, wide, h', isK]

theorem elen_le (k : Int) : elen k ≤ 32 := by
  rcases kind_cases k with h' | h' | h' | h' | h' | h' | h' | h' | h'
  case inr.inr.inr.inr.inr.inr.inr.inr => simp [elen, h']
  all_goals simp [elen, layn, wide, h', isK]

theorem pos_ge (X : Nat → Int) (N i : Nat) (h : ∀ q, q < i → good X N q) : i ≤ pos X i := by
  induction i with
  | zero => simp
  | succ i ih =>
    have := ih fun q hq => h q (by omega)
    have := elen_pos _ (h i (by omega)).2.1
    simp only [pos]
    omega

theorem pos_le (X : Nat → Int) (N i : Nat) (h : ∀ q, q < i → good X N q) : pos X i ≤ N := by
  cases i with
  | zero => simp [pos]
  | succ i => exact (h i (by omega)).2.2

theorem evv_congr {e f : Nat → Int} (h : ∀ j, j < 10 → e j = f j) : evv e = evv f := by
  simp only [evv]
  rw [h 0 (by omega), h 1 (by omega), h 2 (by omega), h 3 (by omega), h 4 (by omega), h 5 (by omega), h 6 (by omega), h 7 (by omega), h 8 (by omega), h 9 (by omega)]

theorem fill_dev (X : Nat → Int) (at_ : Nat) (hk : isK (X at_) = true) : ∀ j, j < 10 →
    fill (X at_) (nb X (at_ + 1) 4) (fun i => nb X (at_ + 5 + 4 * i) 4) (if wide (X at_) then IntKind.i64.wrap (nb X (at_ + elen (X at_) - 8) 8) else 0) j = dev X at_ j := by
  intro j hj
  have hj' : j = 0 ∨ j = 1 ∨ j = 2 ∨ j = 3 ∨ j = 4 ∨ j = 5 ∨ j = 6 ∨ j = 7 ∨ j = 8 ∨ j = 9 := by omega
  generalize hz : IntKind.i64.wrap = Z
  rcases kind_cases (X at_) with h | h | h | h | h | h | h | h | h
  case inr.inr.inr.inr.inr.inr.inr.inr => rw [h] at hk; cases hk
  all_goals
    simp only [dev, dval, fill, lay, layn, elen, isK, wide, h, hz]
    rcases hj' with rfl | rfl | rfl | rfl | rfl | rfl | rfl | rfl | rfl | rfl
  all_goals simp [List.idxOf, List.findIdx, List.findIdx.go]

theorem evv_toList (e : Nat → Int) : [iv (e 0), iv (e 1), iv (e 2), iv (e 3), iv (e 4), iv (e 5), iv (e 6), iv (e 7), iv (e 8), iv (e 9)] = (List.range 10).map fun j => iv (e j) := rfl

/-- the first event that is not whole is one -/
theorem first_unique (X : Nat → Int) (N i j : Nat) (hi : ∀ q, q < i → good X N q) (hj : ∀ q, q < j → good X N q) (hni : ¬ good X N i) (hnj : ¬ good X N j) : i = j := by
  rcases Nat.lt_trichotomy i j with h | h | h
  · exact absurd (hj i h) hni
  · exact h
  · exact absurd (hi j h) hnj
end Go.Proofs.YtmiiejinahnpkaaGreatDoor
