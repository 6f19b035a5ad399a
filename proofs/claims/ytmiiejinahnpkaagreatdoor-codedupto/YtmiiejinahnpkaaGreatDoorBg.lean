/- What Append (of the program) appends: the bytes of an event. -/
import Derived.Test.YtmiiejinahnpkaaGreatDoorBc
import Derived.Test.YtmiiejinahnpkaaGreatDoorBf
import Derived.Deep.RegionWith
import Derived.Deep.DrawnRows
namespace Go.Proofs.YtmiiejinahnpkaaGreatDoor
open Go.RowKit
attribute [local go_sem ↓] Go.wp_at_zero Go.wp_at_succ

theorem Grew.ext {B : Nat} {e : TypeId} {size : Nat} {w w2 w3 : World} {v v2 : Value} {n : Nat} {xs : List Value} (h : Grew B e size w v w2 v2 n xs) (hb : Below w2.heap.size w2 w3) : Grew B e size w v w3 v2 n xs := by
  refine ⟨h.own.kept (row := none) ⟨hb.os, hb.tape, hb.output, hb.size, fun k hk _ => hb.block k hk⟩ (by cases hv : v2.ownBlock <;> simp), ⟨hb.os.trans h.grown.os, hb.tape.trans h.grown.tape, hb.output.trans h.grown.output, Nat.le_trans h.grown.size hb.size, fun k hk hne => (hb.block k (Nat.lt_of_lt_of_le hk h.grown.size)).trans (h.grown.block k hk hne)⟩, h.lies⟩

theorem appendBytes_of (B : Nat) (v : Value) (n : Nat) (xs : List Int) (V M : Int) (m : Nat) (hM : M = m) (w : World) (R : Ending → World → Prop)
   (hV : -9223372036854775808 ≤ V ∧ V ≤ 9223372036854775807) (hm : m ≤ 8) (hn : n + m ≤ 1073741824) (hB : B ≤ w.heap.size)
   (hown : w.ownsRow B 5 1 v n (xs.map bv))
   (hR : ∀ v' w', Grew B 5 1 w v w' v' (n + m) ((xs ++ be V m).map bv) → R (.returned v') w') :
    Calls Tryz.prog 82 #[v, .int .i64 V, .int .i64 M] w R := by
  subst hM
  exact appendBytes_any B v n xs V m w R hV.1 hV.2 hm hn hB hown hR

theorem width_nat (f : Nat) (w : World) (R : Ending → World → Prop) (hR : R (.returned (.int .i64 (wid f : Nat))) w) : Calls Tryz.prog 83 #[.int .i64 (f : Nat)] w R :=
  width_any f w R (by
    have : (if (f : Int) = 6 then (8 : Int) else 4) = (wid f : Nat) := by
      unfold wid
      by_cases h : f = 6
      · simp [h]
      · rw [if_neg (by omega), if_neg h]; rfl
    rw [this]
    exact hR)

theorem wid_le (f : Nat) : wid f ≤ 8 := by unfold wid; split <;> omega

theorem Grew.of_drewN {B : Nat} {e : TypeId} {size k : Nat} {w w2 : World} {v v2 : Value} {n : Nat} {xs : List Value} (h : Grew B e size (w.drewN k) v w2 v2 n xs) : Grew B e size w v w2 v2 n xs :=
  ⟨h.own, ⟨h.grown.os, h.grown.tape, h.grown.output, h.grown.size, h.grown.block⟩, h.lies⟩
theorem Grew.of_drew {B : Nat} {e : TypeId} {size : Nat} {w w2 : World} {v v2 : Value} {n : Nat} {xs : List Value} (h : Grew B e size w.drew v w2 v2 n xs) : Grew B e size w v w2 v2 n xs :=
  ⟨h.own, ⟨h.grown.os, h.grown.tape, h.grown.output, h.grown.size, h.grown.block⟩, h.lies⟩

/-- the bytes of the numbers at the first places of a layout -/
def lbytes (e : Nat → Int) (l : List Nat) : List Int := l.flatMap fun f => be (e (f + 2)) (wid f)

theorem be_len_flat (e : Nat → Int) (l : List Nat) : (lbytes e l).length ≤ 8 * l.length := by
  induction l with
  | nil => simp [lbytes]
  | cons f l ih =>
    simp only [lbytes, List.flatMap_cons, List.length_append, be_length, List.length_cons] at ih ⊢
    have := wid_le f
    omega

theorem lbytes_step (e : Nat → Int) (l : List Nat) (j f : Nat) (h : l[j]? = some f) : lbytes e (l.take (j + 1)) = lbytes e (l.take j) ++ be (e (f + 2)) (wid f) := by
  rw [take_succ_of_get l j f h]
  simp [lbytes]

set_option maxHeartbeats 1000000 in
theorem Append_any (w0 : World) (hL : LayAt w0) (v : Value) (n : Nat) (xs : List Int) (e : Nat → Int) (w : World) (R : Ending → World → Prop) (h0 : Below w0.heap.size w0 w) (hown : w.ownsRow w0.heap.size 5 1 v n (xs.map bv))
   (k : Nat) (hk1 : 1 ≤ k) (hk8 : k ≤ 8) (hk : e 0 = k) (hr : ∀ j, -9223372036854775808 ≤ e j ∧ e j ≤ 9223372036854775807) (hn : n + 64 ≤ 1073741824)
   (hR : ∀ v' w', Grew w0.heap.size 5 1 w v w' v' (n + (ebytes e).length) ((xs ++ ebytes e).map bv) → R (.returned v') w') :
    Calls Tryz.prog 44 #[v, evv e] w R := by
  have hR' : Hid (∀ v' w', Grew w0.heap.size 5 1 w v w' v' (n + (ebytes e).length) ((xs ++ ebytes e).map bv) → R (.returned v') w') := hR
  have HK : Hid (e 0 = k) := hk
  have HR : Hid (∀ j, -9223372036854775808 ≤ e j ∧ e j ≤ 9223372036854775807) := hr
  have hsz := h0.size
  clear hR hk hr
  unfold evv
  rw [HK.out]
  have hE : Ints (w.alloc (.cells #[.int .i64 (k : Int), .int .i64 (e 1), .int .i64 (e 2), .int .i64 (e 3), .int .i64 (e 4), .int .i64 (e 5), .int .i64 (e 6), .int .i64 (e 7), .int .i64 (e 8), .int .i64 (e 9)] 42)) w.heap.size 10 e := Ints.new 10 e (by rw [← HK.out]; exact evv_cells e)
  have hG0 : Grew w0.heap.size 5 1 w v (w.alloc (.cells #[.int .i64 (k : Int), .int .i64 (e 1), .int .i64 (e 2), .int .i64 (e 3), .int .i64 (e 4), .int .i64 (e 5), .int .i64 (e 6), .int .i64 (e 7), .int .i64 (e 8), .int .i64 (e 9)] 42)) v n (xs.map bv) := (Grew.refl hown).ext ((Below.refl _ _).alloc (Nat.le_refl _) _)
  have hvE : v.ownBlock ≠ some w.heap.size := fun h => by have := (hown.lt _ h).2; omega
  have HE : Hid (Ints (w.alloc (.cells #[.int .i64 (k : Int), .int .i64 (e 1), .int .i64 (e 2), .int .i64 (e 3), .int .i64 (e 4), .int .i64 (e 5), .int .i64 (e 6), .int .i64 (e 7), .int .i64 (e 8), .int .i64 (e 9)] 42)) w.heap.size 10 e) := hE
  have HG0 : Hid (Grew w0.heap.size 5 1 w v (w.alloc (.cells #[.int .i64 (k : Int), .int .i64 (e 1), .int .i64 (e 2), .int .i64 (e 3), .int .i64 (e 4), .int .i64 (e 5), .int .i64 (e 6), .int .i64 (e 7), .int .i64 (e 8), .int .i64 (e 9)] 42)) v n (xs.map bv)) := hG0
  have HO : Hid (w.ownsRow w0.heap.size 5 1 v n (xs.map bv)) := hown
  clear hE hG0 hown
  go_enter Tryz.func44, Tryz.ntmps44
  go_wp2_with fail
  have hs0 : w.heap.size < (w.alloc (.cells #[.int .i64 (k : Int), .int .i64 (e 1), .int .i64 (e 2), .int .i64 (e 3), .int .i64 (e 4), .int .i64 (e 5), .int .i64 (e 6), .int .i64 (e 7), .int .i64 (e 8), .int .i64 (e 9)] 42)).heap.size := by simp
  generalize w.alloc (.cells #[.int .i64 (k : Int), .int .i64 (e 1), .int .i64 (e 2), .int .i64 (e 3), .int .i64 (e 4), .int .i64 (e 5), .int .i64 (e 6), .int .i64 (e 7), .int .i64 (e 8), .int .i64 (e 9)] 42) = W0 at *
  refine appendBytes_of w0.heap.size v n xs _ _ 1 (by rfl) _ _ (by have := HR.out 0; rw [HK.out] at this; exact this) (by decide) (by omega) (by omega) HG0.out.own ?_
  intro v1 w1 hg1
  have hG1 := HG0.out.trans hg1
  have hE1 := HE.out.grown hg1.grown hvE
  have HG1 : Hid (Grew w0.heap.size 5 1 w v w1 v1 (n + 1) ((xs ++ be k 1).map bv)) := hG1
  have HE1 : Hid (Ints w1 w.heap.size 10 e) := hE1
  have HW1 : Hid (Grew w0.heap.size 5 1 W0 v w1 v1 (n + 1) ((xs ++ be k 1).map bv)) := hg1
  have hz1 := hg1.grown.size
  have hc1 := hE1.cell
  clear hG1 hE1 hg1
  go_wp2_with fail
  refine appendBytes_of w0.heap.size v1 (n + 1) (xs ++ be k 1) _ _ 4 (by rfl) _ _ (HR.out 1) (by decide) (by omega) (by omega) HG1.out.own ?_
  intro v2 w2 hg2
  have HG2 : Hid (Grew w0.heap.size 5 1 w v w2 v2 (n + 1 + 4) ((xs ++ be k 1 ++ be (e 1) 4).map bv)) := HG1.out.trans hg2
  have HW2 := HW1.out.trans hg2
  have hE2 := HE.out.grown HW2.grown hvE
  have HE2 : Hid (Ints w2 w.heap.size 10 e) := hE2
  have hz2 := hg2.grown.size
  have hc2 := hE2.cell
  have hl2 := hE2.lt
  clear hg2 HW2 hE2 hc1
  have hk := HK.out
  go_wp2_with fail
  refine values_of e _ ?_ _ _ ?_
  · simp [evv, hk]
  intro w3 hb3
  have HG3 : Hid (Grew w0.heap.size 5 1 w v w3 v2 (n + 1 + 4) ((xs ++ be k 1 ++ be (e 1) 4).map bv)) := HG2.out.ext hb3
  have hE3 := HE2.out.ext hb3
  have hB3 : Below w0.heap.size w0 w3 := h0.trans (HG3.out.below hsz fun g hg => (HO.out.lt g hg).1)
  obtain ⟨b, o, c, ht0, hc0⟩ := hL k hk1 hk8
  have ht := (hB3.cell (lt_of_cell ht0)).trans ht0
  have hl0 := lt_of_cell ht
  obtain ⟨m, hnl⟩ : ∃ m, m = (lay k).length := ⟨_, rfl⟩
  have hn4 : m ≤ 4 := by rw [hnl]; exact lay_len k
  rw [← hnl] at ht
  have HN : Hid (m = (lay k).length) := hnl
  have HC : Hid (∀ i f, (lay k)[i]? = some f → w0.cell? ⟨b, o + i, none⟩ = some (.int .i64 (f : Nat))) := hc0
  have hc3 := hE3.cell
  have hl3 := hE3.lt
  have HB3 : Hid (Below w0.heap.size w0 w3) := hB3
  clear hnl hc0 hb3 hE3 hB3 hc2 hl2 ht0
  unfold v8
  go_wp2_with fail
  clear hk hc3 hl3 ht hl0
  have hA4 := Ints.new (w := w3) (t := 131) 8 (fun f => e (f + 2)) (v8_cells (fun f => e (f + 2)))
  simp only [Nat.zero_add, Nat.reduceAdd] at hA4
  have hG4 := HG3.out.ext ((Below.refl _ _).alloc (Nat.le_refl _) (.cells #[.int .i64 (e 2), .int .i64 (e 3), .int .i64 (e 4), .int .i64 (e 5), .int .i64 (e 6), .int .i64 (e 7), .int .i64 (e 8), .int .i64 (e 9)] 131))
  have hB4 : Below w0.heap.size w0 (w3.alloc (.cells #[.int .i64 (e 2), .int .i64 (e 3), .int .i64 (e 4), .int .i64 (e 5), .int .i64 (e 6), .int .i64 (e 7), .int .i64 (e 8), .int .i64 (e 9)] 131)) := HB3.out.alloc HB3.out.size _
  have hv2 : v2.ownBlock ≠ some w3.heap.size := fun h => by have := (HG3.out.own.lt _ h).2; omega
  generalize w3.alloc (.cells #[.int .i64 (e 2), .int .i64 (e 3), .int .i64 (e 4), .int .i64 (e 5), .int .i64 (e 6), .int .i64 (e 7), .int .i64 (e 8), .int .i64 (e 9)] 131) = W4 at *
  generalize w3.heap.size = L at *
  have HG4 : Hid (Grew w0.heap.size 5 1 w v W4 v2 (n + 1 + 4) ((xs ++ be k 1 ++ be (e 1) 4).map bv)) := hG4
  have HA4 : Hid (Ints W4 L 8 (fun f => e (f + 2))) := hA4
  have HB4 : Hid (Below w0.heap.size w0 W4) := hB4
  clear hA4 hG4 hB4
  go_loopw [0, 7, 23] (fun b' _ i wr => ∃ j : Nat, j ≤ m ∧ i = .int .i64 j ∧ Grew w0.heap.size 5 1 W4 v2 wr b' (n + 1 + 4 + (lbytes e ((lay k).take j)).length) ((xs ++ be k 1 ++ be (e 1) 4 ++ lbytes e ((lay k).take j)).map bv)) (fun _ _ i _ => m - (intOf i).toNat)
  case atStart => exact ⟨0, Nat.zero_le _, rfl, (Grew.refl HG4.out.own).cast (by simp [lbytes]) (by simp [lbytes])⟩
  case round =>
    obtain ⟨j, hj, rfl, hG⟩ := hrel
    by_cases hjm : j < m
    · obtain ⟨f, hf⟩ : ∃ f, (lay k)[j]? = some f := ⟨_, List.getElem?_eq_getElem (by rw [← HN.out]; exact hjm)⟩
      have hf8 : f < 8 := lay_lt k f (List.mem_of_getElem? hf)
      have hBr : Below w0.heap.size w0 wr := HB4.out.trans (hG.below HB4.out.size fun g hg => (HG4.out.own.lt g hg).1)
      have hcf : wr.cell? ⟨b, o + j, none⟩ = some (.int .i64 (f : Nat)) := (hBr.cell (lt_of_cell (HC.out j f hf))).trans (HC.out j f hf)
      have hA := HA4.out.grown hG.grown hv2
      have hcA := hA.cell f hf8
      have hzr := hBr.size
      have HF : Hid ((lay k)[j]? = some f) := hf
      have HG : Hid (Grew w0.heap.size 5 1 W4 v2 wr u0 (n + 1 + 4 + (lbytes e ((lay k).take j)).length) ((xs ++ be k 1 ++ be (e 1) 4 ++ lbytes e ((lay k).take j)).map bv)) := hG
      clear hA hBr hf hG
      go_wp2_with fail
      have hlb : (lbytes e ((lay k).take j)).length ≤ 32 := by
        have h1 := be_len_flat e ((lay k).take j)
        have h2 : ((lay k).take j).length ≤ 4 := Nat.le_trans (List.length_take_le' _ _) (lay_len k)
        omega
      have hw8 := wid_le f
      have hbd : n + 1 + 4 + (lbytes e ((lay k).take j)).length + wid f ≤ 1073741824 := by omega
      go_region_with (first | (go_at_call 83; refine width_nat _ _ _ ?_) | (go_at_call 82; refine appendBytes_of w0.heap.size u0 _ _ _ _ (wid f) (by rfl) _ _ (HR.out _) hw8 hbd (by exact hzr) (by exact HG.out.own) ?_; intro v1 w1 hg1))
      all_goals
        have G : Hid (Grew w0.heap.size 5 1 W4 v2 w1 v1 (n + 1 + 4 + (lbytes e ((lay k).take (j + 1))).length) ((xs ++ be k 1 ++ be (e 1) 4 ++ lbytes e ((lay k).take (j + 1))).map bv)) :=
          (HG.out.trans (by first | exact Grew.of_drew hg1 | exact Grew.of_drewN hg1 | exact hg1)).cast (by rw [lbytes_step e (lay k) j f HF.out]; simp only [List.length_append, be_length]; omega) (by rw [lbytes_step e (lay k) j f HF.out]; simp only [List.append_assoc])
        clear hg1
        go_wp2
        go_roundw
        case rel => exact ⟨j + 1, by omega, by go_num, G.out⟩
        case measure => simp [intOf]; omega
    · have hj' : j = m := by omega
      subst hj'
      have hbytes : be (k : Int) 1 ++ be (e 1) 4 ++ lbytes e ((lay k).take j) = ebytes e := by
        rw [List.take_of_length_le (by rw [← HN.out]; omega)]
        simp only [ebytes, lbytes, HK.out]
      have hf := hR'.out _ _ ((HG4.out.trans hG).cast (by rw [← hbytes]; simp only [List.length_append, be_length]; omega) (by rw [← hbytes]; simp only [List.append_assoc]))
      have HF : Hid (R (.returned u0) wr) := hf
      clear hf hG hbytes
      go_wp2_with fail
      exact HF.out
#print axioms Append_any
end Go.Proofs.YtmiiejinahnpkaaGreatDoor
