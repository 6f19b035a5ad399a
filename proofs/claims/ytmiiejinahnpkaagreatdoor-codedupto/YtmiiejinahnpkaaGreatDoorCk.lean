/- What keepBytes of the law does. -/
import Derived.Test.YtmiiejinahnpkaaGreatDoorCj
namespace Go.Proofs.YtmiiejinahnpkaaGreatDoor
open Go.RowKit

set_option maxHeartbeats 1000000 in
set_option maxRecDepth 8000 in
theorem keepBytes_w {Z base B : Nat} {own : Nat → Nat × Int} {w : World} {f : Nat → Value} {xs : Nat → List Value} {ms : List Nat} {em : List Int} {last : Int} {many : Nat} {R : Ending → World → Prop} {n : Nat} {v : Value} {ys : List Value}
    (hW : WK Z base B own w f xs ms em last many) (h1 : (xs 1).length + 4 ≤ 4 * Z) (hm : many + 1 ≤ Z) (hn : n ≤ 67108860) (hl : w.ownsRow base 5 1 v n ys) (hg : ∀ g, v.ownBlock = some g → own g = (2, ((many + 1 : Nat) : Int)))
    (hR : ∀ own' f' xs' ms' w', WK Z base B own' w' f' xs' ms' em last (many + 1) → (∀ i, i ≠ 1 → i ≠ 2 → xs' i = xs i) → (xs' 1).length = (xs 1).length + 4 → Below base w w' → R (.returned (.tuple #[])) w') :
    Calls Tryz.prog 73 #[.pointer (some ⟨B, 0, none⟩), v] w R := by
  have HR : Hid (∀ own' f' xs' ms' w', WK Z base B own' w' f' xs' ms' em last (many + 1) → (∀ i, i ≠ 1 → i ≠ 2 → xs' i = xs i) → (xs' 1).length = (xs 1).length + 4 → Below base w w' → R (.returned (.tuple #[])) w') := hR
  have HW : Hid (WK Z base B own w f xs ms em last many) := hW
  obtain ⟨a, c, rfl⟩ := own_form hl
  have HL : Hid (w.ownsRow base 5 1 (.slice a n c) n ys) := hl
  have HG : Hid (∀ g, (Value.slice a n c).ownBlock = some g → own g = (2, ((many + 1 : Nat) : Int))) := hg
  have H1 : Hid ((xs 1).length + 4 ≤ 4 * Z) := h1
  have hZ := hW.hZ
  have c10 : w.cell? ⟨B, 10, none⟩ = some (.int .i64 (many : Nat)) := by rw [cell_of_row w B 10 _ _ (0, 0) hW.wj.blk]; rfl
  have z10 := hW.wj.free 10
  clear hR hW hl hg h1
  go_enter Tryz.func73, Tryz.ntmps73
  go_wp2_with fail
  rw [show ((many : Int) + 1) = ((many + 1 : Nat) : Int) by omega]
  obtain ⟨M, hM⟩ : ∃ M, M = many + 1 := ⟨_, rfl⟩
  obtain ⟨hj1, hs1⟩ := HW.out.wj.setMany (many + 1)
  have hbB : base ≤ B := HW.out.wj.hB
  have hb1 : Below base w (w.setCell ⟨B, 10, none⟩ (.int .i64 ((many + 1 : Nat) : Int))) := (Below.refl base w).setCell hbB _
  rw [← hM] at hj1 hs1 hb1 ⊢
  have HM : Hid (M = many + 1) := hM
  have hTN : TagNew (2, (M : Int)) last many := ⟨by simp, by simp, by intro m hm q; simp only [Prod.mk.injEq, true_and] at q; omega, by simp, by simp, by simp⟩
  have HTN : Hid (TagNew (2, (M : Int)) last many) := hTN
  have HG' : Hid (∀ g, (Value.slice a n c).ownBlock = some g → own g = (2, (M : Int))) := by rw [hM]; exact HG.out
  obtain ⟨w1, hw1⟩ : ∃ w1, w1 = w.setCell ⟨B, 10, none⟩ (.int .i64 (M : Int)) := ⟨_, rfl⟩
  rw [← hw1] at hj1 hs1 hb1 ⊢
  obtain ⟨hl1, ht1⟩ := own_stays' HL.out HG'.out hs1 (by simp)
  have HJ1 : Hid (WJ base B own w1 f xs last M) := hj1
  have HS1 : Hid (Stays base own (fun t => t ≠ (0, 0)) w own w1) := hs1
  have HB1 : Hid (Below base w w1) := hb1
  have HL1 : Hid (w1.ownsRow base 5 1 (.slice a n c) n ys) := hl1
  refine digit_any M 0 _ _ (by omega) (by decide) ?_
  obtain ⟨x, hx⟩ : ∃ x, x = dg M 0 := ⟨_, rfl⟩
  rw [← hx]
  have HX : Hid (x = dg M 0) := hx
  clear hx hl1 ht1 hj1 hs1 hb1 hw1 hM hTN c10 z10
  go_wp2_with fail
  go_loopw [5] (fun t wr => ∃ (i : Nat) (zs : List Value), i ≤ n ∧ t = .int .i64 i ∧ wr.ownsRow base 5 1 (.slice a n c) n zs ∧ (∀ k, k < i → zs[k]? = some (.int .u8 (x : Nat))) ∧ Stays base own (fun t => t ≠ (2, (M : Int))) w1 own wr ∧ Below base w1 wr) (fun t _ => n - (intOf t).toNat)
  case atStart => exact ⟨0, _, Nat.zero_le _, rfl, HL1.out, fun k hk => absurd hk (by omega), ⟨Nat.le_refl _, fun _ _ => rfl, fun _ _ _ _ => rfl⟩, Below.refl _ _⟩
  case round =>
    obtain ⟨i, zs, hi, rfl, ho, hk, hs, hb⟩ := hrel
    by_cases hlt : i < n
    · have hyl : zs.length = n := by have := ho.1; omega
      obtain ⟨g, cap, q1, hgb, _, _, hc, hf⟩ := own_cells_of ho i _ (List.getElem?_eq_getElem (by omega))
      simp only [Value.slice.injEq] at q1
      obtain ⟨rfl, _⟩ := q1
      have E : Hid ((wr.setCell ⟨g, i, none⟩ (.int .u8 (x : Nat))).ownsRow base 5 1 (.slice (some ⟨g, 0, none⟩) n c) n (zs.set i (.int .u8 (x : Nat))) ∧ (∀ k, k < i + 1 → (zs.set i (.int .u8 (x : Nat)))[k]? = some (.int .u8 (x : Nat))) ∧ Stays base own (fun t => t ≠ (2, (M : Int))) w1 own (wr.setCell ⟨g, i, none⟩ (.int .u8 (x : Nat))) ∧ Below base w1 (wr.setCell ⟨g, i, none⟩ (.int .u8 (x : Nat)))) := by
        refine ⟨own_set ho g i _ rfl, ?_, hs.trans (Stays.set.mono (by intro t ht; rw [HG'.out g rfl]; exact ht)), hb.setCell hgb _⟩
        intro k hk'
        by_cases he : k = i
        · subst he
          simp [hyl, hlt]
        · rw [List.getElem?_set_ne (by omega)]
          exact hk k (by omega)
      clear ho hk hs hb
      go_wp2_with fail
      go_roundw
      case rel => exact ⟨i + 1, _, by omega, by go_num, E.out⟩
      case measure => simp only [intOf]; omega
    · have hi' : i = n := by omega
      subst hi'
      have hkb : KB base B (2, (M : Int)) 5 1 (fun _ => .int .u8 (x : Nat)) last M last many ms em xs w own wr f xs i (.slice a i c) [] := by
        have hst : Stays base own (fun t => t ≠ (0, 0) ∧ t ≠ (2, (M : Int))) w own wr := (HS1.out.mono fun _ h => h.1).trans (hs.mono fun _ h => h.2)
        refine ⟨HJ1.out.stays hs (by simp) (by simp), HW.out.lb.stays hst (fun m hm => ⟨by simp, HTN.out.h2 m hm⟩), HW.out.le.stays hst (by simp), HW.out.li.stays hst (by simp), HW.out.ll.stays hst (by simp), ?_, HG'.out, by simp, HB1.out.trans hb⟩
        rw [← told_of (by have := ho.1; omega) (by rw [Nat.mul_one]; exact hk)]
        exact ho
      have HKB : Hid (KB base B (2, (M : Int)) 5 1 (fun _ => .int .u8 (x : Nat)) last M last many ms em xs w own wr f xs i (.slice a i c) []) := hkb
      clear hkb ho hk hs hb
      obtain ⟨wa, hwa⟩ : ∃ y, y = wr := ⟨_, rfl⟩
      subst hwa
      go_wp2_with fail
      go_loopw [1, 6, 7] (fun l t _ wr => ∃ (k : Nat) (own' : Nat → Nat × Int) (f' : Nat → Value) (xs' : Nat → List Value) (ns : List Value), k ≤ 4 ∧ t = .int .i64 k ∧ KB base B (2, (M : Int)) 5 1 (fun _ => .int .u8 (x : Nat)) last M last many ms em xs w own' wr f' xs' (i + k) l ns ∧ ns.length = k ∧ xs' 1 = xs 1 ++ ns ∧ xs' 2 = xs 2 ++ List.replicate k (.int .i64 (M : Int)) ∧ ∀ q, q ≠ 1 → q ≠ 2 → xs' q = xs q) (fun _ t _ _ => 4 - (intOf t).toNat)
      case atStart => exact ⟨0, own, f, xs, [], by decide, rfl, HKB.out, rfl, by simp, by simp, fun _ _ _ => rfl⟩
      case round =>
        obtain ⟨k, own', f', xs', ns, hk, rfl, hK, hn1, hx1, hx2, hxo⟩ := hrel
        have HK : Hid (KB base B (2, (M : Int)) 5 1 (fun _ => .int .u8 (x : Nat)) last M last many ms em xs w own' wr f' xs' (i + k) u1 ns) := hK
        have HXX : Hid (ns.length = k ∧ xs' 1 = xs 1 ++ ns ∧ xs' 2 = xs 2 ++ List.replicate k (.int .i64 (M : Int)) ∧ ∀ q, q ≠ 1 → q ≠ 2 → xs' q = xs q) := ⟨hn1, hx1, hx2, hxo⟩
        by_cases hlt : k < 4
        · have hroom := hK.room
          have c1 := hK.wj.cell 1 (by decide)
          have r1 := hK.wj.rows 1 (by simp [isRow])
          have h67 : (xs' 1).length + 1 ≤ 1073741824 := by have := H1.out; rw [hx1, List.length_append, hn1]; omega
          obtain ⟨a1, k1, e1⟩ := own_form r1
          have F1 : Hid (f' 1 = .slice a1 (xs' 1).length k1) := e1
          rw [e1] at c1 r1
          have R1 : Hid (wr.ownsRow base 31 1 (.slice a1 (xs' 1).length k1) (xs' 1).length (xs' 1)) := r1
          obtain ⟨al, cl, rfl⟩ := own_form hK.lo
          clear hK hn1 hx1 hx2 hxo r1 e1
          go_wp2_with (at_builtin; go_must (refine push_one base 1 24 (xs' 1).length _ (xs' 1) _ R1.out hroom Tryz.infoBytes rfl (by decide) rfl ?c2 ?c3 (by decide) _ _ 25 Tryz.underlying25 rfl rfl rfl rfl ?_))
          case c2 => simp [Value.oneCell']
          case c3 => exact h67
          intro v1 w2 hG
          obtain ⟨b1, j1, rfl⟩ := own_form hG.own
          have HG2 : Hid (Grew base (ty 1) 1 wr (f' 1) w2 (.slice b1 ((xs' 1).length + 1) j1) ((xs' 1).length + 1) (xs' 1 ++ [.slice al (i + k) cl])) := by rw [F1.out]; exact hG
          clear hG c1
          obtain ⟨hc, hz, _⟩ := HK.out.wj.grew 1 (by simp [isRow]) HG2.out
          have c1 : w2.cell? ⟨B, 1, none⟩ = some (f' 1) := (hc 1).trans (HK.out.wj.cell 1 (by decide))
          have z1 := hz 1
          clear hc hz
          go_wp2_with fail
          have HK3 : Hid (KB base B (2, (M : Int)) 5 1 (fun _ => .int .u8 (x : Nat)) last M last many ms em xs w (newTag own' wr (.slice b1 ((xs' 1).length + 1) j1) (1, ((1 : Nat) : Int))) (w2.setCell ⟨B, 1, none⟩ (.slice b1 ((xs' 1).length + 1) j1)) (fun q => if q = 1 then .slice b1 ((xs' 1).length + 1) j1 else f' q) (fun q => if q = 1 then xs' 1 ++ [.slice al (i + k) cl] else xs' q) (i + k) (.slice al (i + k) cl) (ns ++ [.slice al (i + k) cl])) := (HK.out.row HTN.out 1 (by simp [isRow]) HG2.out).mem (by omega)
          clear c1 z1 HG2 R1 F1
          obtain ⟨o3, ho3⟩ : ∃ y, y = newTag own' wr (.slice b1 ((xs' 1).length + 1) j1) (1, ((1 : Nat) : Int)) := ⟨_, rfl⟩
          obtain ⟨f3, hf3⟩ : ∃ y, y = (fun q => if q = 1 then .slice b1 ((xs' 1).length + 1) j1 else f' q) := ⟨_, rfl⟩
          obtain ⟨x3, hx3⟩ : ∃ y, y = (fun q => if q = 1 then xs' 1 ++ [.slice al (i + k) cl] else xs' q) := ⟨_, rfl⟩
          obtain ⟨w3, hw3⟩ : ∃ y, y = w2.setCell ⟨B, 1, none⟩ (.slice b1 ((xs' 1).length + 1) j1) := ⟨_, rfl⟩
          rw [← ho3, ← hf3, ← hx3, ← hw3] at HK3
          rw [← hw3]
          have HX3 : Hid (x3 1 = xs 1 ++ (ns ++ [.slice al (i + k) cl]) ∧ x3 2 = xs 2 ++ List.replicate k (.int .i64 (M : Int)) ∧ ∀ q, q ≠ 1 → q ≠ 2 → x3 q = xs q) := by
            obtain ⟨q1, q2, q3, q4⟩ := HXX.out
            rw [hx3]
            exact ⟨by simp [q2], by simpa using q3, fun q h1 h2 => by simp [h1, q4 q h1 h2]⟩
          clear hw3 hx3 hf3 ho3 HK
          have hroom3 := HK3.out.room
          have c2 := HK3.out.wj.cell 2 (by decide)
          have c10 : w3.cell? ⟨B, 10, none⟩ = some (.int .i64 (M : Int)) := by rw [cell_of_row w3 B 10 _ _ (0, 0) HK3.out.wj.blk]; rfl
          have hB3 : B < w3.heap.size := lt_of_heap HK3.out.wj.blk
          have r2 := HK3.out.wj.rows 2 (by simp [isRow])
          have h67' : (x3 2).length + 1 ≤ 1073741824 := by
            have := H1.out
            have h2 := HW.out.l2
            rw [HX3.out.2.1, HW.out.x2, List.length_append, List.length_map, List.length_replicate, h2]
            omega
          obtain ⟨a2, k2, e2⟩ := own_form r2
          have F2 : Hid (f3 2 = .slice a2 (x3 2).length k2) := e2
          rw [e2] at c2 r2
          have R2 : Hid (w3.ownsRow base 3 1 (.slice a2 (x3 2).length k2) (x3 2).length (x3 2)) := r2
          clear e2 r2
          have KEY : ∀ v4 w4, Grew base 3 1 w3.drew (.slice a2 (x3 2).length k2) w4 v4 ((x3 2).length + 1) (x3 2 ++ [.int .i64 (M : Int)]) → ∃ b2 j2, v4 = .slice b2 ((x3 2).length + 1) j2 ∧ Hid (Grew base (ty 2) 1 w3 (f3 2) w4 (.slice b2 ((x3 2).length + 1) j2) ((x3 2).length + 1) (x3 2 ++ [.int .i64 (M : Int)])) ∧ w4.cell? ⟨B, 2, none⟩ = some (f3 2) ∧ w4.frozen? ⟨B, 2, none⟩ = false := by
            intro v4 w4 hG
            obtain ⟨b2, j2, rfl⟩ := own_form hG.own
            have hG' : Grew base (ty 2) 1 w3 (f3 2) w4 (.slice b2 ((x3 2).length + 1) j2) ((x3 2).length + 1) (x3 2 ++ [.int .i64 (M : Int)]) := by rw [F2.out]; exact hG.undrew
            obtain ⟨hc, hz, _⟩ := HK3.out.wj.grew 2 (by simp [isRow]) hG'
            exact ⟨b2, j2, rfl, hG', (hc 2).trans (HK3.out.wj.cell 2 (by decide)), hz 2⟩
          go_region_law (refine step_push base 1 8 (x3 2).length _ (x3 2) _ (World.ownsRow.drew R2.out) hroom3 Tryz.infoInt rfl (by decide) rfl (by simp [Value.oneCell']) h67' (by decide) _ _ 26 Tryz.underlying26 rfl rfl rfl rfl ?_; intro v4 w4 hG4; obtain ⟨b2, j2, rfl, HG4, c4, z4⟩ := KEY v4 w4 hG4; clear hG4)
          all_goals
            have HK5 := HK3.out.row HTN.out 2 (by simp [isRow]) HG4.out
            clear c4 z4 HG4 c2 c10 hroom3 hB3 h67' KEY R2 F2 HK3 h67 hroom
            obtain ⟨o5, ho5⟩ : ∃ y, y = newTag o3 w3 (.slice b2 ((x3 2).length + 1) j2) (1, ((2 : Nat) : Int)) := ⟨_, rfl⟩
            obtain ⟨f5, hf5⟩ : ∃ y, y = (fun q => if q = 2 then .slice b2 ((x3 2).length + 1) j2 else f3 q) := ⟨_, rfl⟩
            obtain ⟨x5, hx5⟩ : ∃ y, y = (fun q => if q = 2 then x3 2 ++ [.int .i64 (M : Int)] else x3 q) := ⟨_, rfl⟩
            obtain ⟨w5, hw5⟩ : ∃ y, y = w4.setCell ⟨B, 2, none⟩ (.slice b2 ((x3 2).length + 1) j2) := ⟨_, rfl⟩
            rw [← ho5, ← hf5, ← hx5, ← hw5] at HK5
            rw [← hw5]
            have HX5 : Hid (x5 1 = xs 1 ++ (ns ++ [.slice al (i + k) cl]) ∧ x5 2 = xs 2 ++ List.replicate (k + 1) (.int .i64 (M : Int)) ∧ ∀ q, q ≠ 1 → q ≠ 2 → x5 q = xs q) := by
              obtain ⟨q1, q2, q3⟩ := HX3.out
              rw [hx5]
              exact ⟨by simpa using q1, by simp [q2, List.replicate_succ'], fun q h1 h2 => by simp [h2, q3 q h1 h2]⟩
            have HKK5 : Hid (KB base B (2, (M : Int)) 5 1 (fun _ => .int .u8 (x : Nat)) last M last many ms em xs w o5 w5 f5 x5 (i + k) (.slice al (i + k) cl) (ns ++ [.slice al (i + k) cl])) := HK5
            clear hw5 hx5 hf5 ho5 HX3
            have hroom5 := HK5.room
            have hl5 := HK5.lo
            rw [Nat.mul_one] at hl5
            have HL5 : Hid (w5.ownsRow base 5 1 (.slice al (i + k) cl) (i + k) (told (fun _ => .int .u8 (x : Nat)) (i + k))) := hl5
            clear HK5 hl5
            go_wp2_with (at_builtin; go_must (refine push_kept base 1 1 (i + k) _ _ _ HL5.out hroom5 Tryz.infoU8 rfl (by decide) rfl ?c2 ?c3 (by decide) _ _ 31 Tryz.underlying31 rfl rfl rfl rfl ?_))
            case c2 => simp [Value.oneCell']
            case c3 => omega
            intro v6 w6 hG6 hA6
            have HK6 : Hid (KB base B (2, (M : Int)) 5 1 (fun _ => .int .u8 (x : Nat)) last M last many ms em xs w (newTag o5 w5 v6 (2, (M : Int))) w6 f5 x5 (i + k + 1) v6 (ns ++ [.slice al (i + k) cl])) := by
              refine HKK5.out.grow HTN.out (hG6.cast rfl ?_) hA6
              rw [Nat.mul_one]
              refine told_of (by simp [told_length]) fun q hq => ?_
              by_cases hlt' : q < i + k
              · rw [List.getElem?_append_left (by rw [told_length]; exact hlt'), told_get _ _ _ hlt']
              · rw [List.getElem?_append_right (by rw [told_length]; omega), told_length, show q - (i + k) = 0 by omega]
                rfl
            clear hG6 hA6 HKK5 HL5
            go_wp2_with fail
            go_roundw
            case rel => exact ⟨k + 1, _, f5, x5, _, by omega, by go_num, HK6.out, by simp [HXX.out.1], HX5.out⟩
            case measure => simp only [intOf]; omega
        · have hk' : k = 4 := by omega
          subst hk'
          have hfin : Hid (R (.returned (.tuple #[])) wr) := by
            refine HR.out own' f' xs' _ wr (KB.bytes HW.out H1.out (by have := HM.out; omega) (by rw [← HM.out, ← HX.out]; exact hK) hxo hx1 (by rw [← HM.out]; exact hx2) hn1) hxo ?_ hK.hb
            rw [hx1, List.length_append, hn1]
          clear hK hn1 hx1 hx2 hxo HK HXX
          go_wp2_with fail
          go_end0
          exact hfin.out
#print axioms keepBytes_w
end Go.Proofs.YtmiiejinahnpkaaGreatDoor
