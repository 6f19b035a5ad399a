/- Plain facts: when an event can be told in bytes, and its bytes, as the document's answer has them. -/
import Derived.Test.YtmiiejinahnpkaaGreatDoorBd
namespace Go.Proofs.YtmiiejinahnpkaaGreatDoor
open Go.RowKit

def wide (k : Int) : Bool := decide (k = 6 ∨ k = 7)
/-- the event as it comes back from its numbers -/
def refill (e : Nat → Int) : Nat → Int := fill (e 0) (e 1) (fun i => (nums e).getD i 0) (e 8)

theorem fits_ref (e : Nat → Int) : fits e = (isK (e 0) && isN (e 1) && (wide (e 0) || e 8 == 0) && (nums e).all isN && sameEv e (refill e)) := by
  rcases kind_cases (e 0) with h | h | h | h | h | h | h | h | h
  case inr.inr.inr.inr.inr.inr.inr.inr => simp [fits, h]
  all_goals
    simp only [fits, refill, fill, nums, lay, layn, wide, isK, sameEv, h]
    simp [List.range, List.range.loop, List.idxOf, List.findIdx, List.findIdx.go]
  all_goals
    rw [Bool.eq_iff_iff]
    simp only [Bool.and_eq_true, beq_iff_eq]
    constructor <;> intro hh <;> simp_all

theorem ebytes_ref (e : Nat → Int) (hk : isK (e 0) = true) : ebytes e = be (e 0) 1 ++ be (e 1) 4 ++ (nums e).flatMap (fun x => be x 4) ++ (if wide (e 0) then be (e 8) 8 else []) := by
  rcases kind_cases (e 0) with h | h | h | h | h | h | h | h | h
  case inr.inr.inr.inr.inr.inr.inr.inr => rw [h] at hk; cases hk
  all_goals
    simp only [ebytes, nums, lay, layn, wide, h]
    simp [wid]

theorem nums_len (e : Nat → Int) : (nums e).length ≤ 4 := by
  simp only [nums, List.length_map, layn]
  repeat' split
  all_goals simp

theorem be_mod (V : Int) (n : Nat) (h : n ≤ 8) : be (V % 18446744073709551616) n = be V n := by
  induction n with
  | zero => rfl
  | succ n ih =>
    simp only [be]
    rw [ih (by omega)]
    congr 1
    have h8 : n = 0 ∨ n = 1 ∨ n = 2 ∨ n = 3 ∨ n = 4 ∨ n = 5 ∨ n = 6 ∨ n = 7 := by omega
    rcases h8 with rfl | rfl | rfl | rfl | rfl | rfl | rfl | rfl <;> omega
end Go.Proofs.YtmiiejinahnpkaaGreatDoor
