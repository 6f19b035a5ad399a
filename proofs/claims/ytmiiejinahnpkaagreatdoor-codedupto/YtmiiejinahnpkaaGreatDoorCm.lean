/- What Decode and Encode answer, of the program and of the document: one relation each, with one answer. -/
import Derived.Test.YtmiiejinahnpkaaGreatDoorCl
import Derived.Test.YtmiiejinahnpkaaGreatDoorCk
namespace Go.Proofs.YtmiiejinahnpkaaGreatDoor
open Go.RowKit

/-- how Decode ends: the number of events, the errno, the place -/
def DRes (X : Nat → Int) (N n : Nat) (e : Int) (p : Nat) : Prop :=
  ∃ i, (∀ q, q < i → good X N q) ∧ ((pos X i < N ∧ isK (X (pos X i)) = false ∧ n = 0 ∧ e = 3 ∧ p = pos X i) ∨ (pos X i < N ∧ isK (X (pos X i)) = true ∧ N < pos X i + elen (X (pos X i)) ∧ n = 0 ∧ e = 2 ∧ p = pos X i) ∨ (pos X i = N ∧ n = i ∧ e = 0 ∧ p = 0))

theorem DRes.unique {X : Nat → Int} {N n n' : Nat} {e e' : Int} {p p' : Nat} (h : DRes X N n e p) (h' : DRes X N n' e' p') : n = n' ∧ e = e' ∧ p = p' := by
  obtain ⟨i, hi, h⟩ := h
  obtain ⟨j, hj, h'⟩ := h'
  have hni : ¬ good X N i := by
    rintro ⟨g1, g2, g3⟩
    rcases h with h | h | h
    · rw [h.2.1] at g2; cases g2
    · omega
    · omega
  have hnj : ¬ good X N j := by
    rintro ⟨g1, g2, g3⟩
    rcases h' with h' | h' | h'
    · rw [h'.2.1] at g2; cases g2
    · omega
    · omega
  obtain rfl := first_unique X N i j hi hj hni hnj
  rcases h with ⟨a1, a2, rfl, rfl, rfl⟩ | ⟨a1, a2, a3, rfl, rfl, rfl⟩ | ⟨a1, rfl, rfl, rfl⟩ <;> rcases h' with ⟨b1, b2, rfl, rfl, rfl⟩ | ⟨b1, b2, b3, rfl, rfl, rfl⟩ | ⟨b1, rfl, rfl, rfl⟩
  all_goals first | exact ⟨rfl, rfl, rfl⟩ | (rw [a2] at b2; cases b2) | omega

theorem DRes.le {X : Nat → Int} {N n : Nat} {e : Int} {p : Nat} (h : DRes X N n e p) : n ≤ N := by
  obtain ⟨i, hi, h⟩ := h
  have := pos_ge X N i hi
  rcases h with h | h | h <;> omega

theorem dcells_nil (X : Nat → Int) : dcells X 0 = [] := rfl

theorem dcells_len (X : Nat → Int) (n : Nat) : (dcells X n).length = n * 10 := by
  induction n with
  | zero => rfl
  | succ n ih => rw [dcells_succ, List.length_append, ih]; simp; omega

theorem dcells_get (X : Nat → Int) (n k j : Nat) (hk : k < n) (hj : j < 10) : (dcells X n)[k * 10 + j]? = some (iv (dev X (pos X k) j)) := by
  induction n with
  | zero => omega
  | succ n ih =>
    rw [dcells_succ]
    by_cases h : k < n
    · rw [List.getElem?_append_left (by rw [dcells_len]; omega)]
      exact ih h
    · obtain rfl : k = n := by omega
      rw [List.getElem?_append_right (by rw [dcells_len]; omega), dcells_len, Nat.add_sub_cancel_left]
      simp [hj]

theorem Decode_res (a : Option Addr) (N c : Nat) (X : Nat → Int) (w : World) (R : Ending → World → Prop) (hL : LayAt w) (hN : N ≤ 1048576) (hcap : N ≤ c) (hx : BsAt w a N X) (hb : ∀ i, i < N → 0 ≤ X i ∧ X i ≤ 255)
   (hR : ∀ n e p v w', DRes X N n e p → Below w.heap.size w w' → w'.ownsRow w.heap.size 42 10 v n (dcells X n) → R (.returned (.tuple #[v, .int .i64 e, .int .i64 (p : Nat)])) w') :
    Calls Tryz.prog 19 #[.slice a N c] w R := by
  refine Decode_any a N c X w R hL hN hcap hx hb ?_ ?_ ?_
  · intro i w' h1 h2 h3 h4
    exact hR 0 3 (pos X i) _ w' ⟨i, h1, .inl ⟨h2, h3, rfl, rfl, rfl⟩⟩ h4 (World.ownsRow_nil _ _ _ _)
  · intro i w' h1 h2 h3 h4 h5
    exact hR 0 2 (pos X i) _ w' ⟨i, h1, .inr (.inl ⟨h2, h3, h4, rfl, rfl, rfl⟩)⟩ h5 (World.ownsRow_nil _ _ _ _)
  · intro i v w' h1 h2 h3 h4
    exact hR i 0 0 v w' ⟨i, h1, .inr (.inr ⟨h2, rfl, rfl, rfl⟩)⟩ h3 h4

theorem refDecode_res (a : Option Addr) (N c : Nat) (X : Nat → Int) (w : World) (R : Ending → World → Prop) (hN : N ≤ 1048576) (hx : BsAt w a N X) (hb : ∀ i, i < N → 0 ≤ X i ∧ X i ≤ 255)
   (hR : ∀ n e p v w', DRes X N n e p → Below w.heap.size w w' → w'.ownsRow w.heap.size 42 10 v n (dcells X n) → R (.returned (.tuple #[v, .int .i64 e, .int .i64 (p : Nat)])) w') :
    Calls Tryz.prog 76 #[.slice a N c] w R := by
  refine refDecode_any a N c X w R hN hx hb ?_ ?_ ?_
  · intro i w' h1 h2 h3 h4
    exact hR 0 3 (pos X i) _ w' ⟨i, h1, .inl ⟨h2, h3, rfl, rfl, rfl⟩⟩ h4 (World.ownsRow_nil _ _ _ _)
  · intro i w' h1 h2 h3 h4 h5
    exact hR 0 2 (pos X i) _ w' ⟨i, h1, .inr (.inl ⟨h2, h3, h4, rfl, rfl, rfl⟩)⟩ h5 (World.ownsRow_nil _ _ _ _)
  · intro i v w' h1 h2 h3 h4
    exact hR i 0 0 v w' ⟨i, h1, .inr (.inr ⟨h2, rfl, rfl, rfl⟩)⟩ h3 h4

/-- how Encode ends: the bytes, the errno, the place -/
def ERes (es : Nat → Nat → Int) (n : Nat) (L : List Int) (e : Int) (p : Nat) : Prop :=
  (∃ i, i < n ∧ (∀ q, q < i → fits (es q) = true) ∧ fits (es i) = false ∧ L = [] ∧ e = 3 ∧ p = i) ∨ ((∀ q, q < n → fits (es q) = true) ∧ L = allbytes es n ∧ e = 0 ∧ p = 0)

theorem ERes.unique {es : Nat → Nat → Int} {n : Nat} {L L' : List Int} {e e' : Int} {p p' : Nat} (h : ERes es n L e p) (h' : ERes es n L' e' p') : L = L' ∧ e = e' ∧ p = p' := by
  rcases h with ⟨i, a1, a2, a3, rfl, rfl, rfl⟩ | ⟨a1, rfl, rfl, rfl⟩ <;> rcases h' with ⟨j, b1, b2, b3, rfl, rfl, rfl⟩ | ⟨b1, rfl, rfl, rfl⟩
  · refine ⟨rfl, rfl, ?_⟩
    rcases Nat.lt_trichotomy p p' with h | h | h
    · rw [b2 p h] at a3; cases a3
    · exact h
    · rw [a2 p' h] at b3; cases b3
  · rw [b1 p a1] at a3; cases a3
  · rw [a1 p' b1] at b3; cases b3
  · exact ⟨rfl, rfl, rfl⟩

theorem ERes.len {es : Nat → Nat → Int} {n : Nat} {L : List Int} {e : Int} {p : Nat} (h : ERes es n L e p) : L.length ≤ 40 * n := by
  rcases h with ⟨_, _, _, _, rfl, _⟩ | ⟨_, rfl, _⟩
  · simp
  · exact allbytes_len es n

theorem Encode_res (a : Option Addr) (n c : Nat) (es : Nat → Nat → Int) (w : World) (R : Ending → World → Prop) (hL : LayAt w) (hn : n ≤ 1048576) (hes : EvsAt w a n es)
   (hr : ∀ i j, -9223372036854775808 ≤ es i j ∧ es i j ≤ 9223372036854775807)
   (hR : ∀ L e p v w', ERes es n L e p → Below w.heap.size w w' → w'.ownsRow w.heap.size 5 1 v L.length (L.map bv) → R (.returned (.tuple #[v, .int .i64 e, .int .i64 (p : Nat)])) w') :
    Calls Tryz.prog 15 #[.slice a n c] w R := by
  refine Encode_any a n c es w R hL hn hes hr ?_ ?_
  · intro i w' h1 h2 h3 h4
    exact hR [] 3 i _ w' (.inl ⟨i, h1, h2, h3, rfl, rfl, rfl⟩) h4 (World.ownsRow_nil _ _ _ _)
  · intro v w' h1 h2 h3
    exact hR _ 0 0 v w' (.inr ⟨h1, rfl, rfl, rfl⟩) h2 h3

theorem refEncode_res (a : Option Addr) (n c : Nat) (es : Nat → Nat → Int) (w : World) (R : Ending → World → Prop) (hn : n ≤ 1048576) (hes : EvsAt w a n es)
   (hR : ∀ L e p v w', ERes es n L e p → Below w.heap.size w w' → w'.ownsRow w.heap.size 5 1 v L.length (L.map bv) → R (.returned (.tuple #[v, .int .i64 e, .int .i64 (p : Nat)])) w') :
    Calls Tryz.prog 70 #[.slice a n c] w R := by
  refine refEncode_any a n c es w R hn hes ?_ ?_
  · intro i w' h1 h2 h3 h4
    exact hR [] 3 i _ w' (.inl ⟨i, h1, h2, h3, rfl, rfl, rfl⟩) h4 (World.ownsRow_nil _ _ _ _)
  · intro v w' h1 h2 h3
    exact hR _ 0 0 v w' (.inr ⟨h1, rfl, rfl, rfl⟩) h2 h3
#print axioms refEncode_res
#print axioms DRes.unique
end Go.Proofs.YtmiiejinahnpkaaGreatDoor
