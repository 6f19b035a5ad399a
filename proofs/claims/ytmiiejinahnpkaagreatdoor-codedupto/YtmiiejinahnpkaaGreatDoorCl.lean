/- What keepEvents of the law does. -/
import Derived.Test.YtmiiejinahnpkaaGreatDoorCj
namespace Go.Proofs.YtmiiejinahnpkaaGreatDoor
open Go.RowKit

set_option maxHeartbeats 1000000 in
set_option maxRecDepth 8000 in
theorem keepEvents_w {Z base B : Nat} {own : Nat → Nat × Int} {w : World} {f : Nat → Value} {xs : Nat → List Value} {ms : List Nat} {em : List Int} {last : Int} {many : Nat} {R : Ending → World → Prop} {n : Nat} {v : Value} {ys : List Value}
    (hW : WK Z base B own w f xs ms em last many) (h1 : (xs 5).length + 4 ≤ 4 * Z) (hm : -(Z : Int) ≤ last - 1) (hn : n ≤ 67108860) (hl : w.ownsRow base 42 10 v n ys) (hg : ∀ g, v.ownBlock = some g → own g = (3, last - 1))
    (hR : ∀ own' f' xs' em' w', WK Z base B own' w' f' xs' ms em' (last - 1) many → (∀ i, i ≠ 5 → i ≠ 6 → xs' i = xs i) → (xs' 5).length = (xs 5).length + 4 → Below base w w' → R (.returned (.tuple #[])) w') :
    Calls Tryz.prog 77 #[.pointer (some ⟨B, 0, none⟩), v] w R := by
  have HR : Hid (∀ own' f' xs' em' w', WK Z base B own' w' f' xs' ms em' (last - 1) many → (∀ i, i ≠ 5 → i ≠ 6 → xs' i = xs i) → (xs' 5).length = (xs 5).length + 4 → Below base w w' → R (.returned (.tuple #[])) w') := hR
  have HW : Hid (WK Z base B own w f xs ms em last many) := hW
  obtain ⟨a, c, rfl⟩ := own_form hl
  have HL : Hid (w.ownsRow base 42 10 (.slice a n c) n ys) := hl
  have HG : Hid (∀ g, (Value.slice a n c).ownBlock = some g → own g = (3, last - 1)) := hg
  have H1 : Hid ((xs 5).length + 4 ≤ 4 * Z) := h1
  have hZ := hW.hZ
  have c9 : w.cell? ⟨B, 9, none⟩ = some (.int .i64 last) := by rw [cell_of_row w B 9 _ _ (0, 0) hW.wj.blk]; rfl
  have z9 := hW.wj.free 9
  have hlast := hW.nn.2.2.2.2.2
  clear hR hW hl hg h1
  go_enter Tryz.func77, Tryz.ntmps77
  go_wp2_with fail
  refine mark_any B last _ _ c9 z9 (by omega) (by omega) ?_
  obtain ⟨L, hL⟩ : ∃ L, L = last - 1 := ⟨_, rfl⟩
  obtain ⟨hj1, hs1⟩ := HW.out.wj.setLast (last - 1)
  have hbB : base ≤ B := HW.out.wj.hB
  have hb1 : Below base w (w.setCell ⟨B, 9, none⟩ (.int .i64 (last - 1))) := (Below.refl base w).setCell hbB _
  rw [← hL] at hj1 hs1 hb1 ⊢
  have HM : Hid (L = last - 1) := hL
  have hTN : TagNew (3, L) last many := ⟨by simp, by simp, by simp, by intro m hm q; simp only [Prod.mk.injEq, true_and] at q; omega, by simp, by simp⟩
  have HTN : Hid (TagNew (3, L) last many) := hTN
  have HG' : Hid (∀ g, (Value.slice a n c).ownBlock = some g → own g = (3, L)) := by rw [hL]; exact HG.out
  obtain ⟨w1, hw1⟩ : ∃ w1, w1 = w.setCell ⟨B, 9, none⟩ (.int .i64 L) := ⟨_, rfl⟩
  rw [← hw1] at hj1 hs1 hb1 ⊢
  obtain ⟨hl1, ht1⟩ := own_stays' HL.out HG'.out hs1 (by simp)
  have HJ1 : Hid (WJ base B own w1 f xs L many) := hj1
  have HS1 : Hid (Stays base own (fun t => t ≠ (0, 0)) w own w1) := hs1
  have HB1 : Hid (Below base w w1) := hb1
  have HL1 : Hid (w1.ownsRow base 42 10 (.slice a n c) n ys) := hl1
  have hL1 : -1073741824 ≤ L := by omega
  have hL2 : L ≤ 0 := by omega
  clear hl1 ht1 hj1 hs1 hb1 hw1 hL hTN c9 z9
  go_wp2_with fail
  go_loopw [5] (fun t wr => ∃ (i : Nat) (zs : List Value), i ≤ n ∧ t = .int .i64 i ∧ wr.ownsRow base 42 10 (.slice a n c) n zs ∧ (∀ k, k < i * 10 → zs[k]? = some (kcell L k)) ∧ Stays base own (fun t => t ≠ (3, L)) w1 own wr ∧ Below base w1 wr) (fun t _ => n - (intOf t).toNat)
  case atStart => exact ⟨0, _, Nat.zero_le _, rfl, HL1.out, fun k hk => absurd hk (by omega), ⟨Nat.le_refl _, fun _ _ => rfl, fun _ _ _ _ => rfl⟩, Below.refl _ _⟩
  case round =>
    obtain ⟨i, zs, hi, rfl, ho, hk, hs, hb⟩ := hrel
    by_cases hlt : i < n
    · have hyl : zs.length = n * 10 := ho.1
      obtain ⟨g, cap, q1, hgb, _, _, _, _⟩ := own_cells_of ho (i * 10) _ (List.getElem?_eq_getElem (by omega))
      simp only [Value.slice.injEq] at q1
      obtain ⟨rfl, _⟩ := q1
      have hc : ∀ j, j < 10 → ∃ u, wr.cell? ⟨g, i * 10 + j, none⟩ = some u ∧ wr.frozen? ⟨g, i * 10 + j, none⟩ = false := by
        intro j hj
        obtain ⟨g', cap', q1, _, _, _, hc, hf⟩ := own_cells_of ho (i * 10 + j) _ (List.getElem?_eq_getElem (by omega))
        simp only [Value.slice.injEq, Option.some.injEq, Addr.mk.injEq, and_true] at q1
        obtain ⟨rfl, _⟩ := q1
        exact ⟨_, hc, hf⟩
      obtain ⟨u0, d0, e0⟩ := hc 0 (by decide)
      obtain ⟨u1, d1, e1⟩ := hc 1 (by decide)
      obtain ⟨u2, d2, e2⟩ := hc 2 (by decide)
      obtain ⟨u3, d3, e3⟩ := hc 3 (by decide)
      obtain ⟨u4, d4, e4⟩ := hc 4 (by decide)
      obtain ⟨u5, d5, e5⟩ := hc 5 (by decide)
      obtain ⟨u6, d6, e6⟩ := hc 6 (by decide)
      obtain ⟨u7, d7, e7⟩ := hc 7 (by decide)
      obtain ⟨u8, d8, e8⟩ := hc 8 (by decide)
      obtain ⟨u9, d9, e9⟩ := hc 9 (by decide)
      rw [Nat.add_zero] at d0 e0
      have HO : Hid (wr.ownsRow base 42 10 (.slice (some ⟨g, 0, none⟩) n c) n zs ∧ (∀ k, k < i * 10 → zs[k]? = some (kcell L k)) ∧ Stays base own (fun t => t ≠ (3, L)) w1 own wr ∧ Below base w1 wr) := ⟨ho, hk, hs, hb⟩
      clear ho hk hs hb hc
      have E := paint10 HO.out.1 hlt HO.out.2.1 HO.out.2.2.1 (HG'.out g rfl) HO.out.2.2.2 hgb
      have HE : Hid (∃ zs', (set10 wr g (i * 10) L).ownsRow base 42 10 (.slice (some ⟨g, 0, none⟩) n c) n zs' ∧ (∀ k, k < (i + 1) * 10 → zs'[k]? = some (kcell L k)) ∧ Stays base own (fun x => x ≠ (3, L)) w1 own (set10 wr g (i * 10) L) ∧ Below base w1 (set10 wr g (i * 10) L)) := by
        obtain ⟨zs', q1, q2, q3, q4, _⟩ := E
        exact ⟨zs', q1, q2, q3, q4⟩
      clear E HO
      go_wp2_with fail
      go_roundw
      case rel =>
        obtain ⟨zs', q1, q2, q3, q4⟩ := HE.out
        exact ⟨i + 1, zs', by omega, by go_num, q1, q2, q3, q4⟩
      case measure => simp only [intOf]; omega
    · have hi' : i = n := by omega
      subst hi'
      have hkb : KB base B (3, L) 42 10 (kcell L) L many last many ms em xs w own wr f xs i (.slice a i c) [] := by
        have hst : Stays base own (fun t => t ≠ (0, 0) ∧ t ≠ (3, L)) w own wr := (HS1.out.mono fun _ h => h.1).trans (hs.mono fun _ h => h.2)
        refine ⟨HJ1.out.stays hs (by simp) (by simp), HW.out.lb.stays hst (by simp), HW.out.le.stays hst (fun m hm => ⟨by simp, HTN.out.h3 m hm⟩), HW.out.li.stays hst (by simp), HW.out.ll.stays hst (by simp), ?_, HG'.out, by simp, HB1.out.trans hb⟩
        rw [← told_of ho.1 hk]
        exact ho
      have HKB : Hid (KB base B (3, L) 42 10 (kcell L) L many last many ms em xs w own wr f xs i (.slice a i c) []) := hkb
      clear hkb ho hk hs hb
      obtain ⟨wa, hwa⟩ : ∃ y, y = wr := ⟨_, rfl⟩
      subst hwa
      go_wp2_with fail
      go_loopw [1, 6, 7] (fun l t _ wr => ∃ (k : Nat) (own' : Nat → Nat × Int) (f' : Nat → Value) (xs' : Nat → List Value) (ns : List Value), k ≤ 4 ∧ t = .int .i64 k ∧ KB base B (3, L) 42 10 (kcell L) L many last many ms em xs w own' wr f' xs' (i + k) l ns ∧ ns.length = k ∧ xs' 5 = xs 5 ++ ns ∧ xs' 6 = xs 6 ++ List.replicate k (.int .i64 L) ∧ ∀ q, q ≠ 5 → q ≠ 6 → xs' q = xs q) (fun _ t _ _ => 4 - (intOf t).toNat)
      case atStart => exact ⟨0, own, f, xs, [], by decide, rfl, HKB.out, rfl, by simp, by simp, fun _ _ _ => rfl⟩
      case round =>
        obtain ⟨k, own', f', xs', ns, hk, rfl, hK, hn1, hx1, hx2, hxo⟩ := hrel
        have HK : Hid (KB base B (3, L) 42 10 (kcell L) L many last many ms em xs w own' wr f' xs' (i + k) u1 ns) := hK
        have HXX : Hid (ns.length = k ∧ xs' 5 = xs 5 ++ ns ∧ xs' 6 = xs 6 ++ List.replicate k (.int .i64 L) ∧ ∀ q, q ≠ 5 → q ≠ 6 → xs' q = xs q) := ⟨hn1, hx1, hx2, hxo⟩
        by_cases hlt : k < 4
        · have hroom := hK.room
          have c1 := hK.wj.cell 5 (by decide)
          have r1 := hK.wj.rows 5 (by simp [isRow])
          have h67 : (xs' 5).length + 1 ≤ 1073741824 := by have := H1.out; rw [hx1, List.length_append, hn1]; omega
          obtain ⟨a1, k1, e1⟩ := own_form r1
          have F1 : Hid (f' 5 = .slice a1 (xs' 5).length k1) := e1
          rw [e1] at c1 r1
          have R1 : Hid (wr.ownsRow base 32 1 (.slice a1 (xs' 5).length k1) (xs' 5).length (xs' 5)) := r1
          obtain ⟨al, cl, rfl⟩ := own_form hK.lo
          clear hK hn1 hx1 hx2 hxo r1 e1
          go_wp2_with (at_builtin; go_must (refine push_one base 1 24 (xs' 5).length _ (xs' 5) _ R1.out hroom Tryz.infoEvents rfl (by decide) rfl ?c2 ?c3 (by decide) _ _ 28 Tryz.underlying28 rfl rfl rfl rfl ?_))
          case c2 => simp [Value.oneCell']
          case c3 => exact h67
          intro v1 w2 hG
          obtain ⟨b1, j1, rfl⟩ := own_form hG.own
          have HG2 : Hid (Grew base (ty 5) 1 wr (f' 5) w2 (.slice b1 ((xs' 5).length + 1) j1) ((xs' 5).length + 1) (xs' 5 ++ [.slice al (i + k) cl])) := by rw [F1.out]; exact hG
          clear hG c1
          obtain ⟨hc, hz, _⟩ := HK.out.wj.grew 5 (by simp [isRow]) HG2.out
          have HK3 : Hid (KB base B (3, L) 42 10 (kcell L) L many last many ms em xs w (newTag own' wr (.slice b1 ((xs' 5).length + 1) j1) (1, ((5 : Nat) : Int))) (w2.setCell ⟨B, 5, none⟩ (.slice b1 ((xs' 5).length + 1) j1)) (fun q => if q = 5 then .slice b1 ((xs' 5).length + 1) j1 else f' q) (fun q => if q = 5 then xs' 5 ++ [.slice al (i + k) cl] else xs' q) (i + k) (.slice al (i + k) cl) (ns ++ [.slice al (i + k) cl])) := (HK.out.row HTN.out 5 (by simp [isRow]) HG2.out).mem (by omega)
          have c1 : w2.cell? ⟨B, 5, none⟩ = some (f' 5) := (hc 5).trans (HK.out.wj.cell 5 (by decide))
          have z1 := hz 5
          have c6 : w2.cell? ⟨B, 6, none⟩ = some (f' 6) := (hc 6).trans (HK.out.wj.cell 6 (by decide))
          clear hc hz HG2 R1 F1
          obtain ⟨o3, ho3⟩ : ∃ y, y = newTag own' wr (.slice b1 ((xs' 5).length + 1) j1) (1, ((5 : Nat) : Int)) := ⟨_, rfl⟩
          obtain ⟨f3, hf3⟩ : ∃ y, y = (fun q => if q = 5 then .slice b1 ((xs' 5).length + 1) j1 else f' q) := ⟨_, rfl⟩
          obtain ⟨x3, hx3⟩ : ∃ y, y = (fun q => if q = 5 then xs' 5 ++ [.slice al (i + k) cl] else xs' q) := ⟨_, rfl⟩
          rw [← ho3, ← hf3, ← hx3] at HK3
          have HX3 : Hid (x3 5 = xs 5 ++ (ns ++ [.slice al (i + k) cl]) ∧ x3 6 = xs 6 ++ List.replicate k (.int .i64 L) ∧ ∀ q, q ≠ 5 → q ≠ 6 → x3 q = xs q) := by
            obtain ⟨q1, q2, q3, q4⟩ := HXX.out
            rw [hx3]
            exact ⟨by simp [q2], by simpa using q3, fun q h1 h2 => by simp [h1, q4 q h1 h2]⟩
          have hf6 : f' 6 = f3 6 := by rw [hf3]; rfl
          rw [hf6] at c6
          clear hx3 hf3 ho3 HK hf6
          have hroom3 := HK3.out.room
          have r2 := HK3.out.wj.rows 6 (by simp [isRow])
          have h67' : (x3 6).length + 1 ≤ 1073741824 := by
            have := H1.out
            have h2 := HW.out.l6
            rw [HX3.out.2.1, HW.out.x6, List.length_append, List.length_map, List.length_replicate, h2]
            omega
          obtain ⟨a2, k2, e2⟩ := own_form r2
          have F2 : Hid (f3 6 = .slice a2 (x3 6).length k2) := e2
          rw [e2] at r2 c6
          have R2 : Hid ((w2.setCell ⟨B, 5, none⟩ (.slice b1 ((xs' 5).length + 1) j1)).ownsRow base 3 1 (.slice a2 (x3 6).length k2) (x3 6).length (x3 6)) := r2
          clear e2 r2
          go_wp2_with (at_builtin; go_must (refine push_at _ (size_set w2 _ _) base 1 8 (x3 6).length _ (x3 6) _ R2.out hroom3 Tryz.infoInt rfl (by decide) rfl ?c2 ?c3 (by decide) _ _ 26 Tryz.underlying26 rfl rfl rfl rfl ?_))
          case c2 => simp [Value.oneCell']
          case c3 => exact h67'
          intro v4 w4 hG4
          obtain ⟨w3, hw3⟩ : ∃ y, y = w2.setCell ⟨B, 5, none⟩ (.slice b1 ((xs' 5).length + 1) j1) := ⟨_, rfl⟩
          rw [← hw3] at hG4 HK3
          obtain ⟨b2, j2, rfl⟩ := own_form hG4.own
          have HG4 : Hid (Grew base (ty 6) 1 w3 (f3 6) w4 (.slice b2 ((x3 6).length + 1) j2) ((x3 6).length + 1) (x3 6 ++ [.int .i64 L])) := by rw [F2.out]; exact hG4
          obtain ⟨hc, hz, _⟩ := HK3.out.wj.grew 6 (by simp [isRow]) HG4.out
          have c4 : w4.cell? ⟨B, 6, none⟩ = some (f3 6) := (hc 6).trans (HK3.out.wj.cell 6 (by decide))
          have z4 := hz 6
          have HK5 := HK3.out.row HTN.out 6 (by simp [isRow]) HG4.out
          clear hc hz hG4 HG4 c1 z1 c6 hroom3 h67' R2 F2 HK3 h67 hroom hw3
          obtain ⟨o5, ho5⟩ : ∃ y, y = newTag o3 w3 (.slice b2 ((x3 6).length + 1) j2) (1, ((6 : Nat) : Int)) := ⟨_, rfl⟩
          obtain ⟨f5, hf5⟩ : ∃ y, y = (fun q => if q = 6 then .slice b2 ((x3 6).length + 1) j2 else f3 q) := ⟨_, rfl⟩
          obtain ⟨x5, hx5⟩ : ∃ y, y = (fun q => if q = 6 then x3 6 ++ [.int .i64 L] else x3 q) := ⟨_, rfl⟩
          rw [← ho5, ← hf5, ← hx5] at HK5
          have HX5 : Hid (x5 5 = xs 5 ++ (ns ++ [.slice al (i + k) cl]) ∧ x5 6 = xs 6 ++ List.replicate (k + 1) (.int .i64 L) ∧ ∀ q, q ≠ 5 → q ≠ 6 → x5 q = xs q) := by
            obtain ⟨q1, q2, q3⟩ := HX3.out
            rw [hx5]
            exact ⟨by simpa using q1, by simp [q2, List.replicate_succ'], fun q h1 h2 => by simp [h2, q3 q h1 h2]⟩
          have HKK5 : Hid (KB base B (3, L) 42 10 (kcell L) L many last many ms em xs w o5 (w4.setCell ⟨B, 6, none⟩ (.slice b2 ((x3 6).length + 1) j2)) f5 x5 (i + k) (.slice al (i + k) cl) (ns ++ [.slice al (i + k) cl])) := HK5
          clear hx5 hf5 ho5 HX3
          have hroom5 := HK5.room
          have HL5 : Hid ((w4.setCell ⟨B, 6, none⟩ (.slice b2 ((x3 6).length + 1) j2)).ownsRow base 42 10 (.slice al (i + k) cl) (i + k) (told (kcell L) ((i + k) * 10))) := HK5.lo
          clear HK5
          go_wp2_with (at_builtin; go_must (refine push_kept_at _ (size_set w4 _ _) base 10 80 (i + k) _ _ _ HL5.out hroom5 Tryz.infoEvent rfl (by decide) rfl ?c2 ?c3 (by decide) _ _ 32 Tryz.underlying32 rfl rfl rfl rfl ?_))
          case c2 => simp [Value.oneCell']
          case c3 => omega
          intro v6 w6 hG6 hA6
          have HK6 : Hid (KB base B (3, L) 42 10 (kcell L) L many last many ms em xs w (newTag o5 (w4.setCell ⟨B, 6, none⟩ (.slice b2 ((x3 6).length + 1) j2)) v6 (3, L)) w6 f5 x5 (i + k + 1) v6 (ns ++ [.slice al (i + k) cl])) := by
            refine HKK5.out.grow HTN.out (hG6.cast rfl ?_) hA6
            refine told_of (by simp [told_length]; omega) fun q hq => ?_
            by_cases hlt' : q < (i + k) * 10
            · rw [List.getElem?_append_left (by rw [told_length]; exact hlt'), told_get _ _ _ hlt']
            · rw [List.getElem?_append_right (by rw [told_length]; omega), told_length]
              obtain ⟨j, rfl⟩ : ∃ j, q = (i + k) * 10 + j := ⟨q - (i + k) * 10, by omega⟩
              have hj : j < 10 := by omega
              have hkc : kcell L ((i + k) * 10 + j) = .int .i64 (kev L j) := by unfold kcell; rw [show ((i + k) * 10 + j) % 10 = j by omega]
              rw [hkc, Nat.add_sub_cancel_left]
              rcases (show j = 0 ∨ j = 1 ∨ j = 2 ∨ j = 3 ∨ j = 4 ∨ j = 5 ∨ j = 6 ∨ j = 7 ∨ j = 8 ∨ j = 9 by omega) with rfl | rfl | rfl | rfl | rfl | rfl | rfl | rfl | rfl | rfl <;> rfl
          clear hG6 hA6 HKK5 HL5 c4 z4
          go_wp2_with fail
          go_roundw
          case rel => exact ⟨k + 1, _, f5, x5, _, by omega, by go_num, HK6.out, by simp [HXX.out.1], HX5.out⟩
          case measure => simp only [intOf]; omega
        · have hk' : k = 4 := by omega
          subst hk'
          have hfin : Hid (R (.returned (.tuple #[])) wr) := by
            refine HR.out own' f' xs' _ wr (KB.events HW.out H1.out (by have := HM.out; omega) (by rw [← HM.out]; exact hK) hxo hx1 (by rw [← HM.out]; exact hx2) hn1) hxo ?_ hK.hb
            rw [hx1, List.length_append, hn1]
          clear hK hn1 hx1 hx2 hxo HK HXX
          go_wp2_with fail
          go_end0
          exact hfin.out
#print axioms keepEvents_w
end Go.Proofs.YtmiiejinahnpkaaGreatDoor
