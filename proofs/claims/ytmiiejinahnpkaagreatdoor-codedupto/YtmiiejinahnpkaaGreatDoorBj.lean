/- What length and Decode of the document's answer give. -/
import Derived.Test.YtmiiejinahnpkaaGreatDoorAd
import Derived.Test.YtmiiejinahnpkaaGreatDoorBb
import Derived.Test.YtmiiejinahnpkaaGreatDoorBe
import Derived.Test.YtmiiejinahnpkaaGreatDoorBi
namespace Go.Proofs.YtmiiejinahnpkaaGreatDoor
open Go.RowKit
attribute [local go_sem ↓] Go.wp_at_zero Go.wp_at_succ

theorem Tryz.infoInt : (Tryz.prog.info? 3).map (fun i => (i.zero, i.size, i.bytes)) = some (some (.int .i64 0), 1, 8) := by kernel_rfl
theorem Tryz.infoEvent : (Tryz.prog.info? 42).map (fun i => (i.zero, i.size, i.bytes)) = some (some (.agg #[.int .i64 0, .int .i64 0, .int .i64 0, .int .i64 0, .int .i64 0, .int .i64 0, .int .i64 0, .int .i64 0, .int .i64 0, .int .i64 0]), 10, 80) := by kernel_rfl

set_option maxHeartbeats 1000000 in
theorem length_any (k : Int) (w : World) (R : Ending → World → Prop) (hR : ∀ w', Below w.heap.size w w' → R (.returned (.int .i64 (elen k : Nat))) w') :
    Calls Tryz.prog 110 #[.int .i64 k] w R := by
  have HR : Hid (∀ w', Below w.heap.size w w' → R (.returned (.int .i64 (elen k : Nat))) w') := hR
  clear hR
  go_enter Tryz.func110, Tryz.ntmps110
  go_wp2_with fail
  refine Fields_of (fun j => if j = 0 then k else 0) _ (by simp [evv]) _ _ ?_
  intro fv w2 hb2 hf2
  have hr := HR.out w2 hb2
  simp only [if_true] at *
  cases hk : isK k with
  | false =>
    rw [show elen k = 0 by simp [elen, hk]] at hr
    have hfin : Hid (R (.returned (.int .i64 0)) w2) := hr
    clear hr hk hf2
    go_wp2_with fail
    exact hfin.out
  | true =>
    obtain ⟨g, cap, rfl, hg1, hg2, hfc⟩ := nums_cells hf2 (by simpa using hk)
    have hl : (nums (fun j => if j = 0 then k else 0)).length = (layn k).length := by simp [nums]
    have hl4 := nums_len (fun j => if j = 0 then k else 0)
    rw [hl] at hl4 ⊢
    rcases (show k = 6 ∨ k = 7 ∨ (k ≠ 6 ∧ k ≠ 7) by omega) with h | h | h
    · have hfin : Hid (R (.returned (.int .i64 (5 + 4 * (layn k).length + 8 : Nat))) w2) := by
        have he : elen k = 5 + 4 * (layn k).length + 8 := by unfold elen; rw [if_pos hk, if_pos (by simp [wide, h])]
        rw [he] at hr
        exact hr
      have t6 : (k == 6) = true := by simp [h]
      generalize (layn k).length = m at *
      clear hr hk hf2 hfc h
      go_wp2_with fail
      refine ret_val hfin.out ?_
      congr 1
    · have hfin : Hid (R (.returned (.int .i64 (5 + 4 * (layn k).length + 8 : Nat))) w2) := by
        have he : elen k = 5 + 4 * (layn k).length + 8 := by unfold elen; rw [if_pos hk, if_pos (by simp [wide, h])]
        rw [he] at hr
        exact hr
      have t6 : (k == 6) = false := by simp [h]
      have t7 : (k == 7) = true := by simp [h]
      generalize (layn k).length = m at *
      clear hr hk hf2 hfc h
      go_wp2_with fail
      refine ret_val hfin.out ?_
      congr 1
    · have hfin : Hid (R (.returned (.int .i64 (5 + 4 * (layn k).length : Nat))) w2) := by simpa [Hid, elen, hk, wide, h.1, h.2] using hr
      have t6 : (k == 6) = false := by simp [h.1]
      have t7 : (k == 7) = false := by simp [h.2]
      generalize (layn k).length = m at *
      clear hr hk hf2 hfc h
      go_wp2_with fail
      refine ret_val hfin.out ?_
      congr 1

theorem wrap_is (x : Int) : IntKind.i64.wrap x = wrap64 x := by unfold wrap64; exact IntKind.wrap_i64 x

/-- a slice of bytes holds the numbers X -/
def BsAt (w : World) (a : Option Addr) (n : Nat) (X : Nat → Int) : Prop := ∀ i, i < n → ∃ b o, a = some ⟨b, o, none⟩ ∧ w.cell? ⟨b, o + i, none⟩ = some (.int .u8 (X i))

theorem BsAt.below {w w' : World} {B : Nat} {a : Option Addr} {n : Nat} {X : Nat → Int} (h : BsAt w a n X) (hb : Below B w w') (hB : w.heap.size ≤ B) : BsAt w' a n X := by
  intro i hi
  obtain ⟨b, o, h1, h2⟩ := h i hi
  exact ⟨b, o, h1, (hb.cell (Nat.lt_of_lt_of_le (lt_of_cell h2) hB)).trans h2⟩

theorem nb_bound (X : Nat → Int) (a n : Nat) (h : ∀ j, j < n → 0 ≤ X (a + j) ∧ X (a + j) ≤ 255) : 0 ≤ nb X a n ∧ nb X a n < 256 ^ n := by
  induction n with
  | zero => simp [nb]
  | succ n ih =>
    have h1 := ih fun j hj => h j (by omega)
    have h2 := h n (by omega)
    simp only [nb]
    rw [Int.pow_succ]
    constructor <;> omega

theorem number_of (a : Option Addr) (n c : Nat) (X : Nat → Int) (A : Int) (at_ : Nat) (hA : A = at_) (w : World) (R : Ending → World → Prop) (hn : n ≤ 1073741824) (hat : at_ + 4 ≤ n)
   (hx : BsAt w a n X) (hb : ∀ i, i < n → 0 ≤ X i ∧ X i ≤ 255) (hR : R (.returned (.int .i64 (nb X at_ 4))) w) :
    Calls Tryz.prog 104 #[.slice a n c, .int .i64 A] w R := by
  subst hA
  refine number_any a n c X at_ w R hn hat hx hb ?_
  have : nb X at_ 4 = ((X at_ * 256 + X (at_ + 1)) * 256 + X (at_ + 2)) * 256 + X (at_ + 3) := by simp [nb]
  rw [← this]
  exact hR

theorem filled_of (k s u : Int) (V : Value) (xs : Nat → Int) (w : World) (R : Ending → World → Prop) (B n : Nat) (hk : isK k = true) (hn : n = (layn k).length)
   (hf : w.ownsRow B 3 1 V n ((List.range n).map fun i => iv (xs i)))
   (hR : ∀ w', Below w.heap.size w w' → R (.returned (evv (fill k s xs u))) w') :
    Calls Tryz.prog 101 #[.int .i64 k, .int .i64 s, V, .int .i64 u] w R := by
  have hp : 0 < n := by
    rw [hn]
    rcases kind_cases k with h | h | h | h | h | h | h | h | h
    case inr.inr.inr.inr.inr.inr.inr.inr => rw [h] at hk; cases hk
    all_goals simp [layn, h]
  obtain ⟨g, cap, rfl, _, _, _, _, _⟩ := own_cell hf 0 (iv (xs 0)) (by simp [hp])
  refine filled_any k s _ n cap xs u w R hk (by omega) ?_ hR
  intro i hi
  obtain ⟨g', cap', h4, _, _, _, h5, _⟩ := own_cell hf i (iv (xs i)) (by rw [List.getElem?_map, List.getElem?_range (by omega)]; rfl)
  simp only [Value.slice.injEq, Option.some.injEq, Addr.mk.injEq] at h4
  rw [← h4.1.1] at h5
  exact ⟨g, 0, rfl, by rw [Nat.zero_add]; exact h5⟩

set_option maxHeartbeats 4000000 in
set_option maxRecDepth 8000 in
theorem refDecode_any (a : Option Addr) (N c : Nat) (X : Nat → Int) (w : World) (R : Ending → World → Prop) (hN : N ≤ 1048576) (hx : BsAt w a N X) (hb : ∀ i, i < N → 0 ≤ X i ∧ X i ≤ 255)
   (hR1 : ∀ i w', (∀ q, q < i → good X N q) → pos X i < N → isK (X (pos X i)) = false → Below w.heap.size w w' → R (.returned (.tuple #[.slice none 0 0, .int .i64 3, .int .i64 (pos X i)])) w')
   (hR2 : ∀ i w', (∀ q, q < i → good X N q) → pos X i < N → isK (X (pos X i)) = true → N < pos X i + elen (X (pos X i)) → Below w.heap.size w w' → R (.returned (.tuple #[.slice none 0 0, .int .i64 2, .int .i64 (pos X i)])) w')
   (hR3 : ∀ i v w', (∀ q, q < i → good X N q) → pos X i = N → Below w.heap.size w w' → w'.ownsRow w.heap.size 42 10 v i (dcells X i) → R (.returned (.tuple #[v, .int .i64 0, .int .i64 0])) w') :
    Calls Tryz.prog 76 #[.slice a N c] w R := by
  have HR1 : Hid (∀ i w', (∀ q, q < i → good X N q) → pos X i < N → isK (X (pos X i)) = false → Below w.heap.size w w' → R (.returned (.tuple #[.slice none 0 0, .int .i64 3, .int .i64 (pos X i)])) w') := hR1
  have HR2 : Hid (∀ i w', (∀ q, q < i → good X N q) → pos X i < N → isK (X (pos X i)) = true → N < pos X i + elen (X (pos X i)) → Below w.heap.size w w' → R (.returned (.tuple #[.slice none 0 0, .int .i64 2, .int .i64 (pos X i)])) w') := hR2
  have HR3 : Hid (∀ i v w', (∀ q, q < i → good X N q) → pos X i = N → Below w.heap.size w w' → w'.ownsRow w.heap.size 42 10 v i (dcells X i) → R (.returned (.tuple #[v, .int .i64 0, .int .i64 0])) w') := hR3
  have HX : Hid (BsAt w a N X) := hx
  have HB : Hid (∀ i, i < N → 0 ≤ X i ∧ X i ≤ 255) := hb
  clear hR1 hR2 hR3 hx hb
  go_enter Tryz.func76, Tryz.ntmps76
  go_wp2_with fail
  go_loopw [5, 6, 7, 8, 9, 10, 11, 12, 13, 14] (fun l i _ _ _ _ _ _ _ _ wr => ∃ k : Nat, (∀ q, q < k → good X N q) ∧ i = .int .i64 (pos X k) ∧ Grew w.heap.size 42 10 w (.slice none 0 0) wr l k (dcells X k)) (fun _ i _ _ _ _ _ _ _ _ _ => N - (intOf i).toNat)
  case atStart => exact ⟨0, fun q hq => absurd hq (by omega), rfl, Grew.refl (World.ownsRow_nil _ _ _ _)⟩
  case round =>
    obtain ⟨k, hgd, rfl, hG⟩ := hrel
    have hBr : Below w.heap.size w wr := hG.below (Nat.le_refl _) (fun g hg => by simp [Value.ownBlock] at hg)
    have HG : Hid (Grew w.heap.size 42 10 w (.slice none 0 0) wr u5 k (dcells X k)) := hG
    have HGD : Hid (∀ q, q < k → good X N q) := hgd
    have HBr : Hid (Below w.heap.size w wr) := hBr
    have hpN := pos_le X N k hgd
    have hpk := pos_ge X N k hgd
    obtain ⟨p, hp⟩ : ∃ p, p = pos X k := ⟨_, rfl⟩
    have HP : Hid (p = pos X k) := hp
    rw [← hp] at hpN hpk ⊢
    clear hgd hG hBr hp
    by_cases hpn : p < N
    · obtain ⟨b, o, rfl, hc⟩ := HX.out p hpn
      have hc' := (HBr.out.cell (lt_of_cell hc)).trans hc
      obtain ⟨hb0, hb1⟩ := HB.out p hpn
      clear hc
      go_wp2_with fail
      refine length_any _ _ _ ?_
      intro w2 hb2
      have HB2 : Hid (Below w.heap.size w w2) := HBr.out.trans (hb2.mono HBr.out.size)
      have HG2 : Hid (Grew w.heap.size 42 10 w (.slice none 0 0) w2 u5 k (dcells X k)) := HG.out.ext hb2
      have HX2 : Hid (BsAt w2 (some ⟨b, o, none⟩) N X) := HX.out.below HB2.out (Nat.le_refl _)
      have hle := elen_le (X p)
      clear hc' hb2
      cases hk : isK (X p) with
      | false =>
        have hz : elen (X p) = 0 := by simp [elen, hk]
        have hfin : Hid (R (.returned (.tuple #[.slice none 0 0, .int .i64 3, .int .i64 p])) w2) := by
          have := HR1.out k w2 HGD.out (by rw [← HP.out]; exact hpn) (by rw [← HP.out]; exact hk) HB2.out
          rw [← HP.out] at this
          exact this
        rw [hz]
        clear hk hz
        go_wp2_with fail
        go_ret3
        exact hfin.out
      | true =>
        have he9 := elen_pos (X p) hk
        have hez : ((elen (X p) : Int) == 0) = false := by simp; omega
        by_cases hlong : N < p + elen (X p)
        · have hfin : Hid (R (.returned (.tuple #[.slice none 0 0, .int .i64 2, .int .i64 p])) w2) := by
            have := HR2.out k w2 HGD.out (by rw [← HP.out]; exact hpn) (by rw [← HP.out]; exact hk) (by rw [← HP.out]; exact hlong) HB2.out
            rw [← HP.out] at this
            exact this
          clear hk
          go_wp2_with fail
          go_ret3
          exact hfin.out
        · have HK : Hid (isK (X p) = true) := hk
          clear hk
          go_wp2_with fail
          refine Fields_of (fun j => if j = 0 then X p else 0) _ (by simp [evv]) _ _ ?_
          intro gv w3 hb3 hg3
          obtain ⟨g, cap, rfl, hg1, hg2, _⟩ := nums_cells hg3 (by simpa using HK.out)
          obtain ⟨m, hm⟩ : ∃ m, m = (layn (X p)).length := ⟨_, rfl⟩
          have hl : (nums (fun j => if j = 0 then X p else 0)).length = m := by simp [nums, hm]
          have hm4 : m ≤ 4 := by rw [← hl]; exact nums_len _
          rw [hl]
          have HM : Hid (m = (layn (X p)).length) := hm
          have HEL : Hid (elen (X p) = 5 + 4 * m + (if wide (X p) then 8 else 0)) := by show _ = _; unfold elen; rw [if_pos HK.out, hm]
          have hel : 5 + 4 * m ≤ elen (X p) := by rw [HEL.out]; omega
          have HB3 : Hid (Below w.heap.size w w3) := HB2.out.trans (hb3.mono HB2.out.size)
          have HG3 : Hid (Grew w.heap.size 42 10 w (.slice none 0 0) w3 u5 k (dcells X k)) := HG2.out.ext hb3
          have HX3 : Hid (BsAt w3 (some ⟨b, o, none⟩) N X) := HX2.out.below hb3 (Nat.le_refl _)
          clear hb3 hg3 hl hm hg1 hg2 HX2 HG2 HB2
          obtain ⟨wa, hwa⟩ : ∃ x, x = wr := ⟨_, rfl⟩
          subst hwa
          obtain ⟨ua, hua⟩ : ∃ x, x = u5 := ⟨_, rfl⟩
          subst hua
          go_wp2_with fail
          go_loopw [9, 12] (fun f i wc => ∃ r : Nat, r ≤ m ∧ i = .int .i64 r ∧ Grew w3.heap.size 3 1 w3 (.slice none 0 0) wc f r ((List.range r).map fun q => iv (nb X (p + 5 + 4 * q) 4))) (fun _ i _ => m - (intOf i).toNat)
          case atStart => exact ⟨0, Nat.zero_le _, rfl, Grew.refl (World.ownsRow_nil _ _ _ _)⟩
          case round =>
            obtain ⟨r, hr, rfl, hF⟩ := hrel
            have hBw : Below w3.heap.size w3 wr := hF.below (Nat.le_refl _) (fun g hg => by simp [Value.ownBlock] at hg)
            have HBw : Hid (Below w3.heap.size w3 wr) := hBw
            have HF : Hid (Grew w3.heap.size 3 1 w3 (.slice none 0 0) wr u9 r ((List.range r).map fun q => iv (nb X (p + 5 + 4 * q) 4))) := hF
            have hzw := hBw.size
            clear hF hBw
            by_cases hrm : r < m
            · go_wp2_with fail
              refine number_of _ N c X _ (p + 5 + 4 * r) (by simp) _ _ (by omega) (by omega) (HX3.out.below HBw.out (Nat.le_refl _)) HB.out ?_
              generalize hv : nb X (p + 5 + 4 * r) 4 = v at *
              have HV : Hid (nb X (p + 5 + 4 * r) 4 = v) := hv
              clear hv
              go_wp2_with (at_builtin; go_must (refine push_one w3.heap.size 1 8 r _ _ _ HF.out.own hzw Tryz.infoInt rfl (by decide) rfl ?c2 ?c3 (by decide) _ _ 26 Tryz.underlying26 rfl rfl rfl rfl ?_))
              case c2 => rfl
              case c3 => omega
              intro v1 w1 hG1
              have HF1 : Hid (Grew w3.heap.size 3 1 w3 (.slice none 0 0) w1 v1 (r + 1) ((List.range (r + 1)).map fun q => iv (nb X (p + 5 + 4 * q) 4))) := (HF.out.trans hG1).cast rfl (by simp [List.range_succ, HV.out, iv])
              clear hG1
              go_wp2_with fail
              go_roundw
              case rel => exact ⟨r + 1, by omega, by go_num, HF1.out⟩
              case measure => simp only [intOf]; omega
            · have hr' : r = m := by omega
              subst hr'
              have hplN : p + elen (X p) ≤ N := by omega
              rcases (show X p = 6 ∨ X p = 7 ∨ (X p ≠ 6 ∧ X p ≠ 7) by omega) with h | h | h
              case inr.inr =>
                have t6 : (X p == 6) = false := by simp [h.1]
                have t7 : (X p == 7) = false := by simp [h.2]
                have HU : Hid ((if wide (X p) then IntKind.i64.wrap (nb X (p + elen (X p) - 8) 8) else 0) = 0) := by simp [Hid, wide, h.1, h.2]
                clear h
                go_wp2_with fail
                refine number_of _ N c X _ (p + 1) (by rfl) _ _ (by omega) (by omega) (HX3.out.below HBw.out (Nat.le_refl _)) HB.out ?_
                go_wp2_with fail
                refine filled_of _ _ _ u9 (fun q => nb X (p + 5 + 4 * q) 4) _ _ w3.heap.size r HK.out HM.out HF.out.own ?_
                intro w5 hb5
                have HB5 : Hid (Below w3.heap.size w3 w5) := HBw.out.trans (hb5.mono HBw.out.size)
                have HG5 : Hid (Grew w.heap.size 42 10 w (.slice none 0 0) w5 ua k (dcells X k)) := HG3.out.ext HB5.out
                have hz5 : w.heap.size ≤ w5.heap.size := HG5.out.grown.size
                have hfd := evv_congr (fill_dev X p HK.out)
                rw [HU.out] at hfd
                rw [hfd]
                obtain ⟨d, hd⟩ : ∃ d, d = dev X p := ⟨_, rfl⟩
                rw [← hd]
                have HD : Hid (d = dev X p) := hd
                clear hfd hd hb5
                unfold evv
                go_wp2_with (at_builtin; go_must (refine push_one w.heap.size 10 80 k _ _ _ HG5.out.own hz5 Tryz.infoEvent rfl (by decide) rfl ?c2 ?c3 (by decide) _ _ 32 Tryz.underlying32 rfl rfl rfl rfl ?_))
                case c2 => exact ⟨rfl, rfl, rfl, rfl, rfl, rfl, rfl, rfl, rfl, rfl⟩
                case c3 => omega
                intro v6 w6 hg6
                have HG6 : Hid (Grew w.heap.size 42 10 w (.slice none 0 0) w6 v6 (k + 1) (dcells X (k + 1))) := (HG5.out.trans hg6).cast rfl (by rw [dcells_succ, ← HP.out, ← HD.out, ← evv_toList]; rfl)
                have HGD' : Hid (∀ q, q < k + 1 → good X N q) := by
                  intro q hq
                  by_cases h : q = k
                  · rw [h]
                    exact ⟨by rw [← HP.out]; exact hpn, by rw [← HP.out]; exact HK.out, by rw [← HP.out]; omega⟩
                  · exact HGD.out q (by omega)
                have HP' : Hid (pos X (k + 1) = p + elen (X p)) := by show _ = _; rw [pos, ← HP.out]
                clear hg6
                go_wp2_with fail
                go_roundw
                case rel => exact ⟨k + 1, HGD'.out, by rw [HP'.out]; go_num, HG6.out⟩
                case measure => simp only [intOf]; omega
              case inl =>
                have t6 : (X p == 6) = true := by simp [h]
                have HW : Hid (wide (X p) = true) := by simp [Hid, wide, h]
                have he8 : elen (X p) = 5 + 4 * r + 8 := by rw [HEL.out, HW.out]; rfl
                have HE8 : Hid (elen (X p) = 5 + 4 * r + 8) := he8
                have HXw : Hid (BsAt wr (some ⟨b, o, none⟩) N X) := HX3.out.below HBw.out (Nat.le_refl _)
                clear h
                rw [he8] at hplN
                go_wp2_with fail
                go_loop [13, 14] (fun t i => ∃ y : Nat, y ≤ 8 ∧ i = .int .i64 (5 + 4 * r + y : Nat) ∧ t = .int .u64 (nb X (p + 5 + 4 * r) y)) (fun _ i => elen (X p) - (intOf i).toNat)
                case atStart => exact ⟨0, by omega, by congr 1 <;> omega, rfl⟩
                case round =>
                  obtain ⟨y, hy, rfl, rfl⟩ := hrel
                  by_cases hy8 : y < 8
                  · obtain ⟨b', o', hbo, hcy⟩ := HXw.out (p + 5 + 4 * r + y) (by omega)
                    simp only [Option.some.injEq, Addr.mk.injEq] at hbo
                    obtain ⟨rfl, rfl, _⟩ := hbo
                    have hcy' : wr.cell? ⟨b, o + (p + (5 + 4 * r + y)), none⟩ = some (.int .u8 (X (p + 5 + 4 * r + y))) := by rw [← hcy]; congr 2; omega
                    obtain ⟨hxb0, hxb1⟩ := HB.out (p + 5 + 4 * r + y) (by omega)
                    have hnb := nb_bound X (p + 5 + 4 * r) y fun q hq => HB.out _ (by omega)
                    have hpw : (256 : Int) ^ y ≤ 72057594037927936 := by
                      have : y = 0 ∨ y = 1 ∨ y = 2 ∨ y = 3 ∨ y = 4 ∨ y = 5 ∨ y = 6 ∨ y = 7 := by omega
                      rcases this with rfl | rfl | rfl | rfl | rfl | rfl | rfl | rfl <;> decide
                    have hs0 := hnb.1
                    have hs1 : nb X (p + 5 + 4 * r) y < 72057594037927936 := by omega
                    have HS : Hid (nb X (p + 5 + 4 * r) (y + 1) = nb X (p + 5 + 4 * r) y * 256 + X (p + 5 + 4 * r + y)) := rfl
                    generalize nb X (p + 5 + 4 * r) y = s at *
                    generalize X (p + 5 + 4 * r + y) = x at *
                    clear hcy hnb hpw hel hlong
                    go_wp2_with fail
                    go_round
                    case rel => exact ⟨y + 1, by omega, by congr 1, by rw [HS.out]⟩
                    case measure => simp only [intOf]; omega
                  · have hy' : y = 8 := by omega
                    subst hy'
                    have HU : Hid ((if wide (X p) then IntKind.i64.wrap (nb X (p + elen (X p) - 8) 8) else 0) = wrap64 (nb X (p + 5 + 4 * r) 8)) := by
                      show _ = _
                      rw [HW.out, if_pos rfl, HE8.out, show p + (5 + 4 * r + 8) - 8 = p + 5 + 4 * r by omega]
                      exact wrap_is _
                    clear hy8
                    go_wp2_with fail
                    refine number_of _ N c X _ (p + 1) (by rfl) _ _ (by omega) (by omega) (HX3.out.below HBw.out (Nat.le_refl _)) HB.out ?_
                    go_wp2_with fail
                    refine filled_of _ _ _ u9 (fun q => nb X (p + 5 + 4 * q) 4) _ _ w3.heap.size r HK.out HM.out HF.out.own ?_
                    intro w5 hb5
                    have HB5 : Hid (Below w3.heap.size w3 w5) := HBw.out.trans (hb5.mono HBw.out.size)
                    have HG5 : Hid (Grew w.heap.size 42 10 w (.slice none 0 0) w5 ua k (dcells X k)) := HG3.out.ext HB5.out
                    have hz5 : w.heap.size ≤ w5.heap.size := HG5.out.grown.size
                    have hfd := evv_congr (fill_dev X p HK.out)
                    rw [HU.out] at hfd
                    rw [hfd]
                    obtain ⟨d, hd⟩ : ∃ d, d = dev X p := ⟨_, rfl⟩
                    rw [← hd]
                    have HD : Hid (d = dev X p) := hd
                    clear hfd hd hb5
                    unfold evv
                    go_wp2_with (at_builtin; go_must (refine push_one w.heap.size 10 80 k _ _ _ HG5.out.own hz5 Tryz.infoEvent rfl (by decide) rfl ?c2 ?c3 (by decide) _ _ 32 Tryz.underlying32 rfl rfl rfl rfl ?_))
                    case c2 => exact ⟨rfl, rfl, rfl, rfl, rfl, rfl, rfl, rfl, rfl, rfl⟩
                    case c3 => omega
                    intro v6 w6 hg6
                    have HG6 : Hid (Grew w.heap.size 42 10 w (.slice none 0 0) w6 v6 (k + 1) (dcells X (k + 1))) := (HG5.out.trans hg6).cast rfl (by rw [dcells_succ, ← HP.out, ← HD.out, ← evv_toList]; rfl)
                    have HGD' : Hid (∀ q, q < k + 1 → good X N q) := by
                      intro q hq
                      by_cases h : q = k
                      · rw [h]
                        exact ⟨by rw [← HP.out]; exact hpn, by rw [← HP.out]; exact HK.out, by rw [← HP.out]; omega⟩
                      · exact HGD.out q (by omega)
                    have HP' : Hid (pos X (k + 1) = p + elen (X p)) := by show _ = _; rw [pos, ← HP.out]
                    clear hg6
                    go_wp2_with fail
                    go_roundw
                    case rel => exact ⟨k + 1, HGD'.out, by rw [HP'.out]; first | go_num | (congr 1; have := HE8.out; omega), HG6.out⟩
                    case measure => simp only [intOf]; omega
              case inr.inl =>
                have t6 : (X p == 6) = false := by simp [h]
                have t7 : (X p == 7) = true := by simp [h]
                have HW : Hid (wide (X p) = true) := by simp [Hid, wide, h]
                have he8 : elen (X p) = 5 + 4 * r + 8 := by rw [HEL.out, HW.out]; rfl
                have HE8 : Hid (elen (X p) = 5 + 4 * r + 8) := he8
                have HXw : Hid (BsAt wr (some ⟨b, o, none⟩) N X) := HX3.out.below HBw.out (Nat.le_refl _)
                clear h
                rw [he8] at hplN
                go_wp2_with fail
                go_loop [13, 14] (fun t i => ∃ y : Nat, y ≤ 8 ∧ i = .int .i64 (5 + 4 * r + y : Nat) ∧ t = .int .u64 (nb X (p + 5 + 4 * r) y)) (fun _ i => elen (X p) - (intOf i).toNat)
                case atStart => exact ⟨0, by omega, by congr 1 <;> omega, rfl⟩
                case round =>
                  obtain ⟨y, hy, rfl, rfl⟩ := hrel
                  by_cases hy8 : y < 8
                  · obtain ⟨b', o', hbo, hcy⟩ := HXw.out (p + 5 + 4 * r + y) (by omega)
                    simp only [Option.some.injEq, Addr.mk.injEq] at hbo
                    obtain ⟨rfl, rfl, _⟩ := hbo
                    have hcy' : wr.cell? ⟨b, o + (p + (5 + 4 * r + y)), none⟩ = some (.int .u8 (X (p + 5 + 4 * r + y))) := by rw [← hcy]; congr 2; omega
                    obtain ⟨hxb0, hxb1⟩ := HB.out (p + 5 + 4 * r + y) (by omega)
                    have hnb := nb_bound X (p + 5 + 4 * r) y fun q hq => HB.out _ (by omega)
                    have hpw : (256 : Int) ^ y ≤ 72057594037927936 := by
                      have : y = 0 ∨ y = 1 ∨ y = 2 ∨ y = 3 ∨ y = 4 ∨ y = 5 ∨ y = 6 ∨ y = 7 := by omega
                      rcases this with rfl | rfl | rfl | rfl | rfl | rfl | rfl | rfl <;> decide
                    have hs0 := hnb.1
                    have hs1 : nb X (p + 5 + 4 * r) y < 72057594037927936 := by omega
                    have HS : Hid (nb X (p + 5 + 4 * r) (y + 1) = nb X (p + 5 + 4 * r) y * 256 + X (p + 5 + 4 * r + y)) := rfl
                    generalize nb X (p + 5 + 4 * r) y = s at *
                    generalize X (p + 5 + 4 * r + y) = x at *
                    clear hcy hnb hpw hel hlong
                    go_wp2_with fail
                    go_round
                    case rel => exact ⟨y + 1, by omega, by congr 1, by rw [HS.out]⟩
                    case measure => simp only [intOf]; omega
                  · have hy' : y = 8 := by omega
                    subst hy'
                    have HU : Hid ((if wide (X p) then IntKind.i64.wrap (nb X (p + elen (X p) - 8) 8) else 0) = wrap64 (nb X (p + 5 + 4 * r) 8)) := by
                      show _ = _
                      rw [HW.out, if_pos rfl, HE8.out, show p + (5 + 4 * r + 8) - 8 = p + 5 + 4 * r by omega]
                      exact wrap_is _
                    clear hy8
                    go_wp2_with fail
                    refine number_of _ N c X _ (p + 1) (by rfl) _ _ (by omega) (by omega) (HX3.out.below HBw.out (Nat.le_refl _)) HB.out ?_
                    go_wp2_with fail
                    refine filled_of _ _ _ u9 (fun q => nb X (p + 5 + 4 * q) 4) _ _ w3.heap.size r HK.out HM.out HF.out.own ?_
                    intro w5 hb5
                    have HB5 : Hid (Below w3.heap.size w3 w5) := HBw.out.trans (hb5.mono HBw.out.size)
                    have HG5 : Hid (Grew w.heap.size 42 10 w (.slice none 0 0) w5 ua k (dcells X k)) := HG3.out.ext HB5.out
                    have hz5 : w.heap.size ≤ w5.heap.size := HG5.out.grown.size
                    have hfd := evv_congr (fill_dev X p HK.out)
                    rw [HU.out] at hfd
                    rw [hfd]
                    obtain ⟨d, hd⟩ : ∃ d, d = dev X p := ⟨_, rfl⟩
                    rw [← hd]
                    have HD : Hid (d = dev X p) := hd
                    clear hfd hd hb5
                    unfold evv
                    go_wp2_with (at_builtin; go_must (refine push_one w.heap.size 10 80 k _ _ _ HG5.out.own hz5 Tryz.infoEvent rfl (by decide) rfl ?c2 ?c3 (by decide) _ _ 32 Tryz.underlying32 rfl rfl rfl rfl ?_))
                    case c2 => exact ⟨rfl, rfl, rfl, rfl, rfl, rfl, rfl, rfl, rfl, rfl⟩
                    case c3 => omega
                    intro v6 w6 hg6
                    have HG6 : Hid (Grew w.heap.size 42 10 w (.slice none 0 0) w6 v6 (k + 1) (dcells X (k + 1))) := (HG5.out.trans hg6).cast rfl (by rw [dcells_succ, ← HP.out, ← HD.out, ← evv_toList]; rfl)
                    have HGD' : Hid (∀ q, q < k + 1 → good X N q) := by
                      intro q hq
                      by_cases h : q = k
                      · rw [h]
                        exact ⟨by rw [← HP.out]; exact hpn, by rw [← HP.out]; exact HK.out, by rw [← HP.out]; omega⟩
                      · exact HGD.out q (by omega)
                    have HP' : Hid (pos X (k + 1) = p + elen (X p)) := by show _ = _; rw [pos, ← HP.out]
                    clear hg6
                    go_wp2_with fail
                    go_roundw
                    case rel => exact ⟨k + 1, HGD'.out, by rw [HP'.out]; first | go_num | (congr 1; have := HE8.out; omega), HG6.out⟩
                    case measure => simp only [intOf]; omega
    · have hp' : p = N := by omega
      subst hp'
      have hfin : Hid (R (.returned (.tuple #[u5, .int .i64 0, .int .i64 0])) wr) := HR3.out k u5 wr HGD.out HP.out.symm HBr.out HG.out.own
      go_wp2_with fail
      go_ret3
      exact hfin.out
#print axioms refDecode_any
end Go.Proofs.YtmiiejinahnpkaaGreatDoor
