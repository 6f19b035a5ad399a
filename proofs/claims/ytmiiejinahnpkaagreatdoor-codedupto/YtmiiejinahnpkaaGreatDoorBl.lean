/- What Event of the program's reader reads, or how it gives up. -/
import Derived.Test.YtmiiejinahnpkaaGreatDoorBn
namespace Go.Proofs.YtmiiejinahnpkaaGreatDoor
open Go.RowKit
attribute [local go_sem ↓] Go.wp_at_zero Go.wp_at_succ

/-- the eight numbers, those at the first places of the layout read -/
def part8 (X : Nat → Int) (p : Nat) (l : List Nat) : Nat → Int := fun f => if l.contains f then dval X p f else 0

theorem lay_mid (k : Int) (j : Nat) (h : j < (lay k).length) : (((lay k).take j).map wid).sum = 4 * j := by
  rcases kind_cases k with h' | h' | h' | h' | h' | h' | h' | h' | h'
  case inr.inr.inr.inr.inr.inr.inr.inr =>
    obtain ⟨h1, h2, h3, h4, h5, h6, h7, h8⟩ := isK_not h'
    simp only [beq_eq_false_iff_ne] at h1 h2 h3 h4 h5 h6 h7 h8
    simp [lay, h1, h2, h3, h4, h5, h6, h7, h8] at h
  all_goals
    subst h'
    simp [lay] at h
  all_goals
    have hj : j = 0 ∨ j = 1 ∨ j = 2 ∨ j = 3 := by omega
    rcases hj with rfl | rfl | rfl | rfl
  all_goals first | omega | (simp [lay, wid]; done) | rfl

theorem lay_sum (k : Int) (h : isK k = true) : 5 + ((lay k).map wid).sum = elen k := by
  rcases kind_cases k with h' | h' | h' | h' | h' | h' | h' | h' | h'
  case inr.inr.inr.inr.inr.inr.inr.inr => rw [h'] at h; cases h
  all_goals
    subst h'
    rfl

theorem lay_idx (k : Int) (j f : Nat) (h : (lay k)[j]? = some f) : (lay k).idxOf f = j := by
  obtain ⟨hj, he⟩ := List.getElem?_eq_some_iff.1 h
  rw [← he]
  exact (lay_nodup k).idxOf_getElem j hj

theorem lay_prefix (k : Int) (j f : Nat) (h : (lay k)[j]? = some f) : (((lay k).take j).map wid).sum + wid f ≤ ((lay k).map wid).sum := by
  have e : (lay k).take (j + 1) = (lay k).take j ++ [f] := take_succ_of_get _ _ _ h
  have : (lay k) = (lay k).take (j + 1) ++ (lay k).drop (j + 1) := (List.take_append_drop _ _).symm
  have h2 := congrArg (fun l => (l.map wid).sum) this
  simp only [List.map_append, List.sum_append, e, List.map_cons, List.map_nil, List.sum_cons, List.sum_nil] at h2
  omega

theorem part8_step (X : Nat → Int) (p j f : Nat) (h : (lay (X p))[j]? = some f) :
    (fun i => if i = f then dval X p f else part8 X p ((lay (X p)).take j) i) = part8 X p ((lay (X p)).take (j + 1)) := by
  funext i
  rw [take_succ_of_get _ j f h]
  simp only [part8, List.contains_iff_mem, List.mem_append, List.mem_singleton]
  by_cases hi : i = f
  · simp [hi]
  · simp [hi]

theorem nb1 (X : Nat → Int) (p : Nat) : nb X p 1 = X p := by simp [nb]

theorem Ints.set_other {W : World} {E n B i : Nat} {e : Nat → Int} {x : Value} (h : Ints W E n e) (hB : B ≠ E) : Ints (W.setCell ⟨B, i, none⟩ x) E n e := h.store_other hB

theorem below_grown {w0 w w' : World} {B : Nat} (hb : Below w0.heap.size w0 w) (hg : w.grownBy w' (some B)) (hB : w0.heap.size ≤ B) : Below w0.heap.size w0 w' :=
  ⟨hg.os.trans hb.os, hg.tape.trans hb.tape, hg.output.trans hb.output, Nat.le_trans hb.size hg.size, fun k hk => by rw [hg.block k (Nat.lt_of_lt_of_le hk hb.size) (by simp; omega), hb.block k hk]⟩

set_option maxHeartbeats 4000000 in
set_option maxRecDepth 8000 in
theorem Event_any (w0 : World) (hL : LayAt w0) (B : Nat) (a : Option Addr) (N c p s : Nat) (X : Nat → Int) (w : World) (R : Ending → World → Prop) (h0 : Below w0.heap.size w0 w) (hB : w0.heap.size ≤ B)
   (hr : Rdr w B (.slice a N c) p s) (hN : N ≤ 1048576) (hcap : N ≤ c) (hp : p < N) (hx : BsAt w a N X) (hb : ∀ i, i < N → 0 ≤ X i ∧ X i ≤ 255) (hBx : ∀ b o, a = some ⟨b, o, none⟩ → b ≠ B)
   (hR1 : isK (X p) = false → ∀ w', w.grownBy w' (some B) → R (.panicked [{ v := .iface 95 (.agg #[.int .i64 3, .int .i64 (p : Nat)]), recovered := false }]) w')
   (hR2 : isK (X p) = true → N < p + elen (X p) → ∀ w', w.grownBy w' (some B) → R (.panicked [{ v := .iface 95 (.agg #[.int .i64 2, .int .i64 (p : Nat)]), recovered := false }]) w')
   (hR3 : isK (X p) = true → p + elen (X p) ≤ N → ∀ w', Rdr w' B (.slice a N c) (p + elen (X p)) p → w.grownBy w' (some B) → R (.returned (evv (dev X p))) w') :
    Calls Tryz.prog 50 #[.pointer (some ⟨B, 0, none⟩)] w R := by
  have HR1 : Hid (isK (X p) = false → ∀ w', w.grownBy w' (some B) → R (.panicked [{ v := .iface 95 (.agg #[.int .i64 3, .int .i64 (p : Nat)]), recovered := false }]) w') := hR1
  have HR2 : Hid (isK (X p) = true → N < p + elen (X p) → ∀ w', w.grownBy w' (some B) → R (.panicked [{ v := .iface 95 (.agg #[.int .i64 2, .int .i64 (p : Nat)]), recovered := false }]) w') := hR2
  have HR3 : Hid (isK (X p) = true → p + elen (X p) ≤ N → ∀ w', Rdr w' B (.slice a N c) (p + elen (X p)) p → w.grownBy w' (some B) → R (.returned (evv (dev X p))) w') := hR3
  have HRd : Hid (Rdr w B (.slice a N c) p s) := hr
  have HX : Hid (BsAt w a N X) := hx
  have HB : Hid (∀ i, i < N → 0 ≤ X i ∧ X i ≤ 255) := hb
  have HBx : Hid (∀ b o, a = some ⟨b, o, none⟩ → b ≠ B) := hBx
  have HL : Hid (LayAt w0) := hL
  have H0 : Hid (Below w0.heap.size w0 w) := h0
  have h1 := hr.at_
  have h2 := hr.start
  have hf2 := hr.free 2
  have hlt := hr.lt
  obtain ⟨hb0, hb1⟩ := hb p hp
  clear hR1 hR2 hR3 hr hx hb hBx hL h0
  go_enter Tryz.func50, Tryz.ntmps50
  go_wp2_with fail
  have hg1 : w.grownBy ((w.setCell ⟨B, 2, none⟩ (.int .i64 (p : Nat))).alloc (.cells #[.int .i64 0, .int .i64 0, .int .i64 0, .int .i64 0, .int .i64 0, .int .i64 0, .int .i64 0, .int .i64 0, .int .i64 0, .int .i64 0] 42)) (some B) := grownBy_trans (grownBy_set _ _ _ _) (World.grownBy_alloc _ _ _)
  have hr1 : Rdr ((w.setCell ⟨B, 2, none⟩ (.int .i64 (p : Nat))).alloc (.cells #[.int .i64 0, .int .i64 0, .int .i64 0, .int .i64 0, .int .i64 0, .int .i64 0, .int .i64 0, .int .i64 0, .int .i64 0, .int .i64 0] 42)) B (.slice a N c) p p := (HRd.out.setStart p).ext ((Below.refl _ _).alloc (Nat.le_refl _) _)
  have hE1 : Ints ((w.setCell ⟨B, 2, none⟩ (.int .i64 (p : Nat))).alloc (.cells #[.int .i64 0, .int .i64 0, .int .i64 0, .int .i64 0, .int .i64 0, .int .i64 0, .int .i64 0, .int .i64 0, .int .i64 0, .int .i64 0] 42)) w.heap.size 10 (fun _ => 0) := by
    have := Ints.new (w := w.setCell ⟨B, 2, none⟩ (.int .i64 (p : Nat))) (t := 42) 10 (fun _ => 0) (evv_cells (fun _ => 0))
    simpa using this
  generalize (w.setCell ⟨B, 2, none⟩ (.int .i64 (p : Nat))).alloc (.cells #[.int .i64 0, .int .i64 0, .int .i64 0, .int .i64 0, .int .i64 0, .int .i64 0, .int .i64 0, .int .i64 0, .int .i64 0, .int .i64 0] 42) = W1 at *
  have hEB : B ≠ w.heap.size := by omega
  clear h1 h2 hf2
  refine choice_of B a N c p p _ 8 (by rfl) X _ _ hr1 hN hcap (by omega) (by decide) (HX.out.grown hg1 HBx.out) HB.out HBx.out (fun h => by omega) ?_ ?_
  · intro _ hnk w2 hg2
    exact ⟨rfl, HR1.out (by simp only [isK, decide_eq_false_iff_not]; exact hnk) w2 (grownBy_trans hg1 hg2)⟩
  intro _ hk18 w2 hr2 hg2
  have hG2 := grownBy_trans hg1 hg2
  have hE2 := hE1.grown hg2 (by simpa using hEB)
  have HG2 : Hid (w.grownBy w2 (some B)) := hG2
  have HE2 : Hid (Ints w2 w.heap.size 10 (fun _ => 0)) := hE2
  have HR2d : Hid (Rdr w2 B (.slice a N c) (p + 1) p) := hr2
  clear hg1 hr1 hE1 hg2 hr2 hG2 hE2
  have hk18 : 1 ≤ X p ∧ X p ≤ 8 := hk18
  have hk : isK (X p) = true := by simp only [isK, decide_eq_true_eq]; exact hk18
  have HK : Hid (isK (X p) = true) := hk
  have he9 := elen_pos (X p) hk
  have HLS : Hid (5 + ((lay (X p)).map wid).sum = elen (X p)) := lay_sum (X p) hk
  obtain ⟨k, hkk⟩ := Int.eq_ofNat_of_zero_le (show 0 ≤ X p by omega)
  clear hk
  go_wp2_with fail
  refine numberW_any B a N c (p + 1) p X _ _ HR2d.out hN hcap (by omega) (HX.out.grown HG2.out HBx.out) HB.out HBx.out ?_ ?_
  · intro hlong w3 hb3
    exact ⟨rfl, HR2.out HK.out (by omega) w3 (grownBy_trans HG2.out (grownBy_below hb3))⟩
  intro hshort w3 hr3 hg3
  have hnb := nb_bound X (p + 1) 4 fun q hq => HB.out _ (by omega)
  have hs0 := hnb.1
  have hs1 : nb X (p + 1) 4 ≤ 4294967295 := by omega
  have HG3 : Hid (w.grownBy w3 (some B)) := grownBy_trans HG2.out hg3
  have HE3 : Hid (Ints w3 w.heap.size 10 (fun _ => 0)) := HE2.out.grown hg3 (by simpa using hEB)
  have HR3d : Hid (Rdr w3 B (.slice a N c) (p + 5) p) := by
    have e : p + 1 + 4 = p + 5 := by omega
    rw [e] at hr3
    exact hr3
  have hB3 := below_grown H0.out HG3.out hB
  have hlay := HL.out.below hB3 (Nat.le_refl _)
  obtain ⟨tb, to, tc, ht0, hc0⟩ := HL.out k (by omega) (by omega)
  have ht := (hB3.cell (lt_of_cell ht0)).trans ht0
  have hl0 := lt_of_cell ht
  obtain ⟨m, hm⟩ : ∃ m, m = (lay k).length := ⟨_, rfl⟩
  have hm4 : m ≤ 4 := by rw [hm]; exact lay_len k
  rw [← hm] at ht
  have HM : Hid (m = (lay (X p)).length) := by show _ = _; rw [hkk]; exact hm
  have HC : Hid (∀ i f, (lay (X p))[i]? = some f → w0.cell? ⟨tb, to + i, none⟩ = some (.int .i64 (f : Nat))) := by rw [hkk]; exact hc0
  have HKK : Hid (X p = (k : Nat)) := hkk
  have HB3 : Hid (Below w0.heap.size w0 w3) := hB3
  have hlt3 : B < w3.heap.size := HR3d.out.lt
  have hge3 := HG3.out.size
  clear hnb hr3 hg3 hB3 hlay ht0 hc0 hm
  generalize hsq : nb X (p + 1) 4 = sq at *
  have HSQ : Hid (nb X (p + 1) 4 = sq) := hsq
  clear hsq
  go_wp2_with fail
  have hA4 : Ints (w3.alloc (.cells #[.int .i64 0, .int .i64 0, .int .i64 0, .int .i64 0, .int .i64 0, .int .i64 0, .int .i64 0, .int .i64 0] 131)) w3.heap.size 8 (part8 X p []) := Ints.new (w := w3) (t := 131) 8 (fun _ => 0) (v8_cells (fun _ => 0))
  have hG4 : w.grownBy (w3.alloc (.cells #[.int .i64 0, .int .i64 0, .int .i64 0, .int .i64 0, .int .i64 0, .int .i64 0, .int .i64 0, .int .i64 0] 131)) (some B) := grownBy_trans HG3.out (World.grownBy_alloc _ _ _)
  have hR4 : Rdr (w3.alloc (.cells #[.int .i64 0, .int .i64 0, .int .i64 0, .int .i64 0, .int .i64 0, .int .i64 0, .int .i64 0, .int .i64 0] 131)) B (.slice a N c) (p + 5) p := HR3d.out.ext ((Below.refl _ _).alloc (Nat.le_refl _) _)
  have hE4 : Ints (w3.alloc (.cells #[.int .i64 0, .int .i64 0, .int .i64 0, .int .i64 0, .int .i64 0, .int .i64 0, .int .i64 0, .int .i64 0] 131)) w.heap.size 10 (fun _ => 0) := HE3.out.alloc _
  have hLs : w3.heap.size < (w3.alloc (.cells #[.int .i64 0, .int .i64 0, .int .i64 0, .int .i64 0, .int .i64 0, .int .i64 0, .int .i64 0, .int .i64 0] 131)).heap.size := by simp
  generalize w3.alloc (.cells #[.int .i64 0, .int .i64 0, .int .i64 0, .int .i64 0, .int .i64 0, .int .i64 0, .int .i64 0, .int .i64 0] 131) = W4 at *
  obtain ⟨L, hLL⟩ : ∃ L, L = w3.heap.size := ⟨_, rfl⟩
  rw [← hLL] at hA4 hlt3 hge3 hl0 hLs ⊢
  have HA4 : Hid (Ints W4 L 8 (part8 X p [])) := hA4
  have HG4 : Hid (w.grownBy W4 (some B)) := hG4
  have HR4 : Hid (Rdr W4 B (.slice a N c) (p + 5) p) := hR4
  have HE4 : Hid (Ints W4 w.heap.size 10 (fun _ => 0)) := hE4
  have hLB : B ≠ L := by omega
  have hEL : L ≠ w.heap.size := by
    intro e
    have := HE3.out.lt
    omega
  clear ht hA4 hG4 hR4 hE4 hLL hl0
  go_loopw [7, 23] (fun _ i wr => ∃ j : Nat, j ≤ m ∧ i = .int .i64 j ∧ Rdr wr B (.slice a N c) (p + 5 + (((lay (X p)).take j).map wid).sum) p ∧ w.grownBy wr (some B) ∧ Ints wr L 8 (part8 X p ((lay (X p)).take j)) ∧ Ints wr w.heap.size 10 (fun _ => 0) ∧ p + 5 + (((lay (X p)).take j).map wid).sum ≤ N) (fun _ i _ => m - (intOf i).toNat)
  case atStart => exact ⟨0, Nat.zero_le _, rfl, HR4.out, HG4.out, HA4.out, HE4.out, by simp; omega⟩
  case round =>
    obtain ⟨j, hj, rfl, hRr, hGr, hAr, hEr, hps⟩ := hrel
    have HGr : Hid (w.grownBy wr (some B)) := hGr
    have HAr : Hid (Ints wr L 8 (part8 X p ((lay (X p)).take j))) := hAr
    have HEr : Hid (Ints wr w.heap.size 10 (fun _ => 0)) := hEr
    clear hGr hAr hEr
    by_cases hjm : j < m
    · obtain ⟨f, hf⟩ : ∃ f, (lay (X p))[j]? = some f := ⟨_, List.getElem?_eq_getElem (by rw [← HM.out]; exact hjm)⟩
      have hf8 : f < 8 := lay_lt (X p) f (List.mem_of_getElem? hf)
      have hmid := lay_mid (X p) j (by rw [← HM.out]; exact hjm)
      have hpre := lay_prefix (X p) j f hf
      rw [hmid] at hRr hpre hps
      have hBr := below_grown H0.out HGr.out hB
      have hcf : wr.cell? ⟨tb, to + j, none⟩ = some (.int .i64 (f : Nat)) := (hBr.cell (lt_of_cell (HC.out j f hf))).trans (HC.out j f hf)
      have HRr : Hid (Rdr wr B (.slice a N c) (p + 5 + 4 * j) p) := hRr
      have hls := HLS.out
      have HF : Hid ((lay (X p))[j]? = some f) := hf
      have HS1 : Hid ((((lay (X p)).take (j + 1)).map wid).sum = 4 * j + wid f) := by
        show _ = _
        rw [take_succ_of_get _ j f hf]
        simp only [List.map_append, List.sum_append, hmid, List.map_cons, List.map_nil, List.sum_cons, List.sum_nil]
        omega
      have hwp : 1 ≤ wid f := by unfold wid; split <;> omega
      have hw8 := wid_le f
      clear hBr hf hmid hRr
      generalize hsum : ((lay (X p)).map wid).sum = SM at *
      clear hsum
      go_wp2_with fail
      refine width_nat _ _ _ ?_
      go_wp2_with fail
      refine take_of B a N c (p + 5 + 4 * j) p X _ (wid f) (by rfl) _ _ HRr.out hN hcap hwp hw8 ?_ (HX.out.grown HGr.out HBx.out) HB.out HBx.out ?_ ?_
      · omega
      · intro hlong w5 hb5
        exact ⟨rfl, HR2.out HK.out (by omega) w5 (grownBy_trans HGr.out (grownBy_below hb5))⟩
      intro hsh w5 hr5 hg5
      have hnb := nb_bound X (p + 5 + 4 * j) (wid f) fun q hq => HB.out _ (by omega)
      have hdv : dval X p f = if f = 6 then IntKind.i64.wrap (nb X (p + 5 + 4 * j) 8) else nb X (p + 5 + 4 * j) 4 := by
        simp only [dval]
        rw [if_pos (by rw [List.contains_iff_mem]; exact List.mem_of_getElem? HF.out), lay_idx (X p) j f HF.out]
      have HG5 : Hid (w.grownBy w5 (some B)) := grownBy_trans HGr.out hg5
      have hA5 := HAr.out.grown hg5 (by simpa using hLB)
      have HE5 : Hid (Ints w5 w.heap.size 10 (fun _ => 0)) := HEr.out.grown hg5 (by simpa using hEB)
      have HR5 : Hid (Rdr w5 B (.slice a N c) (p + 5 + 4 * j + wid f) p) := hr5
      have hAf := hA5.cell f hf8
      have hAfr := hA5.free f
      have HA5 : Hid (Ints w5 L 8 (part8 X p ((lay (X p)).take j))) := hA5
      have HEND : Hid (∀ x, x = dval X p f → Rdr (w5.setCell ⟨L, f, none⟩ (.int .i64 x)) B (.slice a N c) (p + 5 + (((lay (X p)).take (j + 1)).map wid).sum) p ∧ w.grownBy (w5.setCell ⟨L, f, none⟩ (.int .i64 x)) (some B) ∧ Ints (w5.setCell ⟨L, f, none⟩ (.int .i64 x)) L 8 (part8 X p ((lay (X p)).take (j + 1))) ∧ Ints (w5.setCell ⟨L, f, none⟩ (.int .i64 x)) w.heap.size 10 (fun _ => 0) ∧ p + 5 + (((lay (X p)).take (j + 1)).map wid).sum ≤ N) := by
        intro x hx
        refine ⟨?_, ?_, ?_, ?_, ?_⟩
        · rw [HS1.out, show p + 5 + (4 * j + wid f) = p + 5 + 4 * j + wid f by omega]
          exact HR5.out.grown (grownBy_set w5 L f _) (by simpa using Ne.symm hLB)
        · have hbl : Below w.heap.size w5 (w5.setCell ⟨L, f, none⟩ (.int .i64 x)) := (Below.refl _ _).setCell (by show w.heap.size ≤ L; omega) _
          have h5 := HG5.out
          exact ⟨h5.os, h5.tape, h5.output, Nat.le_trans h5.size hbl.size, fun q hq hne => (hbl.block q hq).trans (h5.block q hq hne)⟩
        · have := HA5.out.store f x
          rw [hx, part8_step X p j f HF.out] at this
          rw [hx]
          exact this
        · exact HE5.out.store_other hEL
        · rw [HS1.out]; omega
      clear hr5 hg5 hA5 HA5 HAr HGr HEr HR2 HR1 HR3
      by_cases h6 : f = 6
      · have hw : wid f = 8 := by simp [wid, h6]
        rw [hw] at hnb ⊢
        rw [if_pos h6] at hdv
        have HDV : Hid (wrap64 (nb X (p + 5 + 4 * j) 8) = dval X p f) := by rw [hdv, wrap_is]; rfl
        generalize nb X (p + 5 + 4 * j) 8 = V at *
        clear hdv hnb h6
        go_wp2_with fail
        go_roundw
        case rel => exact ⟨j + 1, by omega, by go_num, HEND.out _ HDV.out⟩
        case measure => simp only [intOf]; omega
      · have hw : wid f = 4 := by simp [wid, h6]
        rw [hw] at hnb ⊢
        rw [if_neg h6] at hdv
        have HDV : Hid (nb X (p + 5 + 4 * j) 4 = dval X p f) := hdv.symm
        have hv0 := hnb.1
        have hv1 : nb X (p + 5 + 4 * j) 4 ≤ 4294967295 := by omega
        generalize nb X (p + 5 + 4 * j) 4 = V at *
        clear hdv hnb
        go_wp2_with fail
        go_roundw
        case rel => exact ⟨j + 1, by omega, by go_num, HEND.out _ HDV.out⟩
        case measure => simp only [intOf]; omega
    · have hj' : j = m := by omega
      subst hj'
      have htk : (lay (X p)).take j = lay (X p) := List.take_of_length_le (by rw [← HM.out]; omega)
      rw [htk] at hRr hps
      have hAm := HAr.out
      rw [htk] at hAm
      have hpd : part8 X p (lay (X p)) = dval X p := by
        funext f
        simp only [part8, dval]
        by_cases hc : (lay (X p)).contains f = true
        · rw [if_pos hc, if_pos hc]
        · rw [if_neg hc, if_neg hc]
      rw [hpd] at hAm
      have hls := HLS.out
      have HRm : Hid (Rdr wr B (.slice a N c) (p + elen (X p)) p) := by
        rw [← hls, ← Nat.add_assoc]
        exact hRr
      have hcA := hAm.cell
      have hltA := hAm.lt
      clear hRr hAm hpd htk
      go_wp2_with fail
      refine event_any _ _ (dval X p) _ _ ?_
      intro w6 hb6
      have HG6 : Hid (w.grownBy w6 (some B)) := grownBy_trans HGr.out (grownBy_below hb6)
      have HR6 : Hid (Rdr w6 B (.slice a N c) (p + elen (X p)) p) := HRm.out.ext hb6
      have hE6 := HEr.out.ext hb6
      have hcE := hE6.cell
      have hfE := hE6.free
      have hd0 : dev X p 0 = k := by simp [dev, HKK.out]
      have hd1 : dev X p 1 = sq := by simp [dev, HSQ.out]
      have hdj : ∀ f, dev X p (f + 2) = dval X p f := by intro f; simp [dev]
      have HD : Hid (evv (dev X p) = .agg #[.int .i64 k, .int .i64 sq, .int .i64 (dval X p 0), .int .i64 (dval X p 1), .int .i64 (dval X p 2), .int .i64 (dval X p 3), .int .i64 (dval X p 4), .int .i64 (dval X p 5), .int .i64 (dval X p 6), .int .i64 (dval X p 7)]) := by
        show _ = _
        unfold evv
        rw [hd0, hd1, ← hdj 0, ← hdj 1, ← hdj 2, ← hdj 3, ← hdj 4, ← hdj 5, ← hdj 6, ← hdj 7]
      generalize dval X p = d at *
      clear hcA hltA hb6 hd0 hd1 hdj
      have key : ∀ (W : World) (i : Nat) (x : Value), (Rdr W B (.slice a N c) (p + elen (X p)) p ∧ w.grownBy W (some B)) → (Rdr (W.setCell ⟨w.heap.size, i, none⟩ x) B (.slice a N c) (p + elen (X p)) p ∧ w.grownBy (W.setCell ⟨w.heap.size, i, none⟩ x) (some B)) := by
        intro W i x hh
        refine ⟨hh.1.grown (grownBy_set W w.heap.size i x) (fun h => hEB (Option.some.inj h).symm), ?_⟩
        have hbl : Below w.heap.size W (W.setCell ⟨w.heap.size, i, none⟩ x) := (Below.refl w.heap.size W).setCell (p := ⟨w.heap.size, i, none⟩) (Nat.le_refl w.heap.size) x
        exact ⟨hh.2.os, hh.2.tape, hh.2.output, Nat.le_trans hh.2.size hbl.size, fun q hq hne => (hbl.block q hq).trans (hh.2.block q hq hne)⟩
      have hfinW : Hid (Rdr ((((((((((w6.setCell ⟨w.heap.size, 0, none⟩ (.int .i64 k)).setCell ⟨w.heap.size, 1, none⟩ (.int .i64 sq)).setCell ⟨w.heap.size, 2, none⟩ (.int .i64 (d 0))).setCell ⟨w.heap.size, 3, none⟩ (.int .i64 (d 1))).setCell ⟨w.heap.size, 4, none⟩ (.int .i64 (d 2))).setCell ⟨w.heap.size, 5, none⟩ (.int .i64 (d 3))).setCell ⟨w.heap.size, 6, none⟩ (.int .i64 (d 4))).setCell ⟨w.heap.size, 7, none⟩ (.int .i64 (d 5))).setCell ⟨w.heap.size, 8, none⟩ (.int .i64 (d 6))).setCell ⟨w.heap.size, 9, none⟩ (.int .i64 (d 7))) B (.slice a N c) (p + elen (X p)) p ∧ w.grownBy ((((((((((w6.setCell ⟨w.heap.size, 0, none⟩ (.int .i64 k)).setCell ⟨w.heap.size, 1, none⟩ (.int .i64 sq)).setCell ⟨w.heap.size, 2, none⟩ (.int .i64 (d 0))).setCell ⟨w.heap.size, 3, none⟩ (.int .i64 (d 1))).setCell ⟨w.heap.size, 4, none⟩ (.int .i64 (d 2))).setCell ⟨w.heap.size, 5, none⟩ (.int .i64 (d 3))).setCell ⟨w.heap.size, 6, none⟩ (.int .i64 (d 4))).setCell ⟨w.heap.size, 7, none⟩ (.int .i64 (d 5))).setCell ⟨w.heap.size, 8, none⟩ (.int .i64 (d 6))).setCell ⟨w.heap.size, 9, none⟩ (.int .i64 (d 7))) (some B)) := key _ 9 _ (key _ 8 _ (key _ 7 _ (key _ 6 _ (key _ 5 _ (key _ 4 _ (key _ 3 _ (key _ 2 _ (key _ 1 _ (key _ 0 _ (⟨HR6.out, HG6.out⟩))))))))))
      have hfinE : Hid (Ints ((((((((((w6.setCell ⟨w.heap.size, 0, none⟩ (.int .i64 k)).setCell ⟨w.heap.size, 1, none⟩ (.int .i64 sq)).setCell ⟨w.heap.size, 2, none⟩ (.int .i64 (d 0))).setCell ⟨w.heap.size, 3, none⟩ (.int .i64 (d 1))).setCell ⟨w.heap.size, 4, none⟩ (.int .i64 (d 2))).setCell ⟨w.heap.size, 5, none⟩ (.int .i64 (d 3))).setCell ⟨w.heap.size, 6, none⟩ (.int .i64 (d 4))).setCell ⟨w.heap.size, 7, none⟩ (.int .i64 (d 5))).setCell ⟨w.heap.size, 8, none⟩ (.int .i64 (d 6))).setCell ⟨w.heap.size, 9, none⟩ (.int .i64 (d 7))) w.heap.size 10 (fun i => if i = 9 then d 7 else if i = 8 then d 6 else if i = 7 then d 5 else if i = 6 then d 4 else if i = 5 then d 3 else if i = 4 then d 2 else if i = 3 then d 1 else if i = 2 then d 0 else if i = 1 then sq else if i = 0 then (k : Int) else 0)) := ((((((((((hE6.store 0 k).store 1 sq).store 2 (d 0)).store 3 (d 1)).store 4 (d 2)).store 5 (d 3)).store 6 (d 4)).store 7 (d 5)).store 8 (d 6)).store 9 (d 7))
      clear key
      go_wp2_with fail
      clear hcE hfE hE6
      generalize ((((((((((w6.setCell ⟨w.heap.size, 0, none⟩ (.int .i64 k)).setCell ⟨w.heap.size, 1, none⟩ (.int .i64 sq)).setCell ⟨w.heap.size, 2, none⟩ (.int .i64 (d 0))).setCell ⟨w.heap.size, 3, none⟩ (.int .i64 (d 1))).setCell ⟨w.heap.size, 4, none⟩ (.int .i64 (d 2))).setCell ⟨w.heap.size, 5, none⟩ (.int .i64 (d 3))).setCell ⟨w.heap.size, 6, none⟩ (.int .i64 (d 4))).setCell ⟨w.heap.size, 7, none⟩ (.int .i64 (d 5))).setCell ⟨w.heap.size, 8, none⟩ (.int .i64 (d 6))).setCell ⟨w.heap.size, 9, none⟩ (.int .i64 (d 7))) = WF at *
      have hcF := hfinE.out.cell
      have c0 := hcF 0 (by decide)
      have c1 := hcF 1 (by decide)
      have c2 := hcF 2 (by decide)
      have c3 := hcF 3 (by decide)
      have c4 := hcF 4 (by decide)
      have c5 := hcF 5 (by decide)
      have c6 := hcF 6 (by decide)
      have c7 := hcF 7 (by decide)
      have c8 := hcF 8 (by decide)
      have c9 := hcF 9 (by decide)
      clear hcF
      simp at c0 c1 c2 c3 c4 c5 c6 c7 c8 c9
      refine bodyPost_ret (v := .agg #[.int .i64 k, .int .i64 sq, .int .i64 (d 0), .int .i64 (d 1), .int .i64 (d 2), .int .i64 (d 3), .int .i64 (d 4), .int .i64 (d 5), .int .i64 (d 6), .int .i64 (d 7)]) (by simp [results, Tryz.results50, go_sem, c0, c1, c2, c3, c4, c5, c6, c7, c8, c9]) rfl ?_
      rw [← HD.out]
      exact HR3.out HK.out (by omega) WF hfinW.out.1 hfinW.out.2
#print axioms Event_any
end Go.Proofs.YtmiiejinahnpkaaGreatDoor
