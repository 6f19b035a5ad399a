/- What Encode (of the program) answers: the bytes of events, or the place of the first that has none. -/
import Derived.Test.YtmiiejinahnpkaaGreatDoorBg
namespace Go.Proofs.YtmiiejinahnpkaaGreatDoor
open Go.RowKit

/-- the bytes of the first k events -/
def allbytes (es : Nat → Nat → Int) (k : Nat) : List Int := (List.range k).flatMap fun q => ebytes (es q)

theorem allbytes_succ (es : Nat → Nat → Int) (k : Nat) : allbytes es (k + 1) = allbytes es k ++ ebytes (es k) := by simp [allbytes, List.range_succ]

theorem ebytes_len (e : Nat → Int) : (ebytes e).length ≤ 40 := by
  have h1 := be_len_flat e (lay (e 0))
  have h2 := lay_len (e 0)
  simp only [ebytes, List.length_append, be_length]
  simp only [lbytes] at h1
  omega

theorem allbytes_len (es : Nat → Nat → Int) (k : Nat) : (allbytes es k).length ≤ 40 * k := by
  induction k with
  | zero => simp [allbytes]
  | succ k ih =>
    rw [allbytes_succ, List.length_append]
    have := ebytes_len (es k)
    omega

/-- a slice of events holds the numbers es -/
def EvsAt (w : World) (a : Option Addr) (n : Nat) (es : Nat → Nat → Int) : Prop := ∀ i, i < n → ∃ b o, a = some ⟨b, o, none⟩ ∧ ∀ j, j < 10 → w.cell? ⟨b, o + i * 10 + j, none⟩ = some (.int .i64 (es i j))

theorem EvsAt.below {w w' : World} {B : Nat} {a : Option Addr} {n : Nat} {es : Nat → Nat → Int} (h : EvsAt w a n es) (hb : Below B w w') (hB : w.heap.size ≤ B) : EvsAt w' a n es := by
  intro i hi
  obtain ⟨b, o, h1, h2⟩ := h i hi
  exact ⟨b, o, h1, fun j hj => (hb.cell (Nat.lt_of_lt_of_le (lt_of_cell (h2 j hj)) hB)).trans (h2 j hj)⟩

theorem Fits_of (e : Nat → Int) (V : Value) (hV : V = evv e) (w : World) (R : Ending → World → Prop) (hL : LayAt w) (hR : ∀ w', Below w.heap.size w w' → R (.returned (.bool (fits e))) w') :
    Calls Tryz.prog 43 #[V] w R := hV ▸ Fits_any e w R hL hR

theorem Append_of (w0 : World) (hL : LayAt w0) (v : Value) (n : Nat) (xs : List Int) (e : Nat → Int) (V : Value) (hV : V = evv e) (w : World) (R : Ending → World → Prop) (h0 : Below w0.heap.size w0 w) (hown : w.ownsRow w0.heap.size 5 1 v n (xs.map bv))
   (hf : fits e = true) (hr : ∀ j, -9223372036854775808 ≤ e j ∧ e j ≤ 9223372036854775807) (hn : n + 64 ≤ 1073741824)
   (hR : ∀ v' w', Grew w0.heap.size 5 1 w v w' v' (n + (ebytes e).length) ((xs ++ ebytes e).map bv) → R (.returned v') w') :
    Calls Tryz.prog 44 #[v, V] w R := by
  subst hV
  have hk : 1 ≤ e 0 ∧ e 0 ≤ 8 := by simp only [fits, Bool.and_eq_true, isK, decide_eq_true_eq] at hf; exact hf.1.1.1
  obtain ⟨k, hkk⟩ := Int.eq_ofNat_of_zero_le (show 0 ≤ e 0 by omega)
  exact Append_any w0 hL v n xs e w R h0 hown k (by omega) (by omega) hkk hr hn hR

set_option maxHeartbeats 1000000 in
theorem Encode_any (a : Option Addr) (n c : Nat) (es : Nat → Nat → Int) (w : World) (R : Ending → World → Prop) (hL : LayAt w) (hn : n ≤ 1048576) (hes : EvsAt w a n es)
   (hr : ∀ i j, -9223372036854775808 ≤ es i j ∧ es i j ≤ 9223372036854775807)
   (hR1 : ∀ i w', i < n → (∀ q, q < i → fits (es q) = true) → fits (es i) = false → Below w.heap.size w w' → R (.returned (.tuple #[.slice none 0 0, .int .i64 3, .int .i64 i])) w')
   (hR2 : ∀ v w', (∀ q, q < n → fits (es q) = true) → Below w.heap.size w w' → w'.ownsRow w.heap.size 5 1 v (allbytes es n).length ((allbytes es n).map bv) → R (.returned (.tuple #[v, .int .i64 0, .int .i64 0])) w') :
    Calls Tryz.prog 15 #[.slice a n c] w R := by
  have HR1 : Hid (∀ i w', i < n → (∀ q, q < i → fits (es q) = true) → fits (es i) = false → Below w.heap.size w w' → R (.returned (.tuple #[.slice none 0 0, .int .i64 3, .int .i64 i])) w') := hR1
  have HR2 : Hid (∀ v w', (∀ q, q < n → fits (es q) = true) → Below w.heap.size w w' → w'.ownsRow w.heap.size 5 1 v (allbytes es n).length ((allbytes es n).map bv) → R (.returned (.tuple #[v, .int .i64 0, .int .i64 0])) w') := hR2
  have HR : Hid (∀ i j, -9223372036854775808 ≤ es i j ∧ es i j ≤ 9223372036854775807) := hr
  have HL : Hid (LayAt w) := hL
  have HE : Hid (EvsAt w a n es) := hes
  clear hR1 hR2 hr hL hes
  go_enter Tryz.func15, Tryz.ntmps15
  go_wp2_with fail
  go_loopw [5, 6, 7, 10] (fun b' _ _ i wr => ∃ k : Nat, k ≤ n ∧ i = .int .i64 k ∧ (∀ q, q < k → fits (es q) = true) ∧ Grew w.heap.size 5 1 w (.slice none 0 0) wr b' (allbytes es k).length ((allbytes es k).map bv)) (fun _ _ _ i _ => n - (intOf i).toNat)
  case atStart => exact ⟨0, Nat.zero_le _, rfl, fun q hq => absurd hq (by omega), Grew.refl (World.ownsRow_nil _ _ _ _)⟩
  case round =>
    obtain ⟨k, hk, rfl, hq, hG⟩ := hrel
    have hBr : Below w.heap.size w wr := hG.below (Nat.le_refl _) (fun g hg => by simp [Value.ownBlock] at hg)
    have HG : Hid (Grew w.heap.size 5 1 w (.slice none 0 0) wr u5 (allbytes es k).length ((allbytes es k).map bv)) := hG
    have HQ : Hid (∀ q, q < k → fits (es q) = true) := hq
    have HB : Hid (Below w.heap.size w wr) := hBr
    clear hq hG hBr
    by_cases hkn : k < n
    · obtain ⟨b, o, rfl, hc⟩ := HE.out k hkn
      have hc' : ∀ j, j < 10 → wr.cell? ⟨b, o + k * 10 + j, none⟩ = some (.int .i64 (es k j)) := fun j hj => (HB.out.cell (lt_of_cell (hc j hj))).trans (hc j hj)
      have c0 := hc' 0 (by decide)
      rw [Nat.add_zero] at c0
      have hzb := lt_of_cell c0
      clear hc
      have hE : Ints (wr.alloc (.cells #[.int .i64 (es k 0), .int .i64 (es k 1), .int .i64 (es k 2), .int .i64 (es k 3), .int .i64 (es k 4), .int .i64 (es k 5), .int .i64 (es k 6), .int .i64 (es k 7), .int .i64 (es k 8), .int .i64 (es k 9)] 42)) wr.heap.size 10 (es k) := Ints.new 10 (es k) (evv_cells (es k))
      have hG1 := HG.out.ext ((Below.refl _ _).alloc (Nat.le_refl _) (.cells #[.int .i64 (es k 0), .int .i64 (es k 1), .int .i64 (es k 2), .int .i64 (es k 3), .int .i64 (es k 4), .int .i64 (es k 5), .int .i64 (es k 6), .int .i64 (es k 7), .int .i64 (es k 8), .int .i64 (es k 9)] 42))
      have HE1 : Hid (Ints (wr.alloc (.cells #[.int .i64 (es k 0), .int .i64 (es k 1), .int .i64 (es k 2), .int .i64 (es k 3), .int .i64 (es k 4), .int .i64 (es k 5), .int .i64 (es k 6), .int .i64 (es k 7), .int .i64 (es k 8), .int .i64 (es k 9)] 42)) wr.heap.size 10 (es k)) := hE
      have HG1 : Hid (Grew w.heap.size 5 1 w (.slice none 0 0) (wr.alloc (.cells #[.int .i64 (es k 0), .int .i64 (es k 1), .int .i64 (es k 2), .int .i64 (es k 3), .int .i64 (es k 4), .int .i64 (es k 5), .int .i64 (es k 6), .int .i64 (es k 7), .int .i64 (es k 8), .int .i64 (es k 9)] 42)) u5 (allbytes es k).length ((allbytes es k).map bv)) := hG1
      clear hE hG1
      go_wp2_with fail
      generalize wr.alloc (.cells #[.int .i64 (es k 0), .int .i64 (es k 1), .int .i64 (es k 2), .int .i64 (es k 3), .int .i64 (es k 4), .int .i64 (es k 5), .int .i64 (es k 6), .int .i64 (es k 7), .int .i64 (es k 8), .int .i64 (es k 9)] 42) = W1 at *
      have hB1 : Below w.heap.size w W1 := HG1.out.below (Nat.le_refl _) (fun g hg => by simp [Value.ownBlock] at hg)
      refine Fits_of (es k) _ (by rfl) _ _ (HL.out.below hB1 (Nat.le_refl _)) ?_
      intro w2 hb2
      have hB2 : Below w.heap.size w w2 := hB1.trans (hb2.mono hB1.size)
      have HB2 : Hid (Below w.heap.size w w2) := hB2
      cases hf : fits (es k) with
      | false =>
        have hfin : Hid (R (.returned (.tuple #[.slice none 0 0, .int .i64 3, .int .i64 k])) w2) := HR1.out k w2 hkn HQ.out hf hB2
        clear hf hB1 hB2 hc' c0 hb2 hzb
        go_wp2_with fail
        go_ret3
        exact hfin.out
      | true =>
        have HF : Hid (fits (es k) = true) := hf
        have hE2 := HE1.out.ext hb2
        have HG2 : Hid (Grew w.heap.size 5 1 w (.slice none 0 0) w2 u5 (allbytes es k).length ((allbytes es k).map bv)) := HG1.out.ext hb2
        have hcE := hE2.cell
        clear hf hB1 hB2 hc' c0 hb2 hzb hE2
        go_wp2_with fail
        refine Append_of w HL.out u5 _ (allbytes es k) (es k) _ (by rfl) _ _ HB2.out HG2.out.own HF.out (HR.out k) ?_ ?_
        · have := allbytes_len es k
          omega
        intro v3 w3 hg3
        have HG3 : Hid (Grew w.heap.size 5 1 w (.slice none 0 0) w3 v3 (allbytes es (k + 1)).length ((allbytes es (k + 1)).map bv)) := (HG2.out.trans hg3).cast (by rw [allbytes_succ, List.length_append]) (by rw [allbytes_succ])
        have HQ' : Hid (∀ q, q < k + 1 → fits (es q) = true) := by
          intro q hq
          by_cases h : q = k
          · rw [h]; exact HF.out
          · exact HQ.out q (by omega)
        clear hg3 hcE
        go_wp2_with fail
        go_roundw
        case rel => exact ⟨k + 1, by omega, by go_num, HQ'.out, HG3.out⟩
        case measure => simp [intOf]; omega
    · have hk' : k = n := by omega
      subst hk'
      have hfin : Hid (R (.returned (.tuple #[u5, .int .i64 0, .int .i64 0])) wr) := HR2.out u5 wr HQ.out HB.out HG.out.own
      go_wp2_with fail
      go_ret3
      exact hfin.out
#print axioms Encode_any
end Go.Proofs.YtmiiejinahnpkaaGreatDoor
