/- What returned of the law does. -/
import Derived.Test.YtmiiejinahnpkaaGreatDoorCh
namespace Go.Proofs.YtmiiejinahnpkaaGreatDoor
open Go.RowKit

theorem Tryz.infoBytes : (Tryz.prog.info? 31).map (fun i => (i.zero, i.size, i.bytes)) = some (some (.slice none 0 0), 1, 24) := by kernel_rfl
theorem Tryz.infoEvents : (Tryz.prog.info? 32).map (fun i => (i.zero, i.size, i.bytes)) = some (some (.slice none 0 0), 1, 24) := by kernel_rfl

theorem told_bytes {w : World} {base g n : Nat} {X : Nat → Int} {N : Nat} (h : w.ownsRow base 5 1 (.slice (some ⟨g, 0, none⟩) n n) n (told (lcell X N) n)) (i : Nat) (hi : i < n) :
    w.cell? ⟨g, i, none⟩ = some (.int .u8 (if i < N then X i else 0)) ∧ w.frozen? ⟨g, i, none⟩ = false := by
  obtain ⟨g', cap, h1, _, _, _, h5, h6⟩ := own_cells_of h i _ (told_get _ _ _ hi)
  simp only [Value.slice.injEq, Option.some.injEq, Addr.mk.injEq, and_true] at h1
  obtain ⟨rfl, _⟩ := h1
  exact ⟨h5, h6⟩

set_option maxHeartbeats 1000000 in
set_option maxRecDepth 8000 in
theorem returned_w {Z base B : Nat} {own : Nat → Nat × Int} {w : World} {f : Nat → Value} {xs : Nat → List Value} {ms : List Nat} {em : List Int} {last : Int} {many : Nat} {R : Ending → World → Prop} {g N c : Nat} {a : Option Addr} {X : Nat → Int}
    (hW : WK Z base B own w f xs ms em last many) (h7 : (xs 7).length + 1 ≤ Z) (hN : N ≤ 1048576) (hl : w.ownsRow base 5 1 (.slice (some ⟨g, 0, none⟩) (N + 1) (N + 1)) (N + 1) (told (lcell X N) (N + 1))) (hg : own g = (4, ((xs 7).length : Int)))
    (hx : BsAt w a N X)
    (hR : ∀ own' f' xs' w', WK Z base B own' w' f' xs' ms em last many → (∀ i, i ≠ 7 → xs' i = xs i) → (xs' 7).length = (xs 7).length + 1 → Stays base own (fun t => t ≠ (4, ((xs 7).length : Int)) ∧ t ≠ (1, 7) ∧ t ≠ (0, 0)) w own' w' → Below base w w' → R (.returned (.bool true)) w') :
    Calls Tryz.prog 72 #[.pointer (some ⟨B, 0, none⟩), .slice (some ⟨g, 0, none⟩) (N + 1) (N + 1), .slice a N c] w R := by
  have HR : Hid (∀ own' f' xs' w', WK Z base B own' w' f' xs' ms em last many → (∀ i, i ≠ 7 → xs' i = xs i) → (xs' 7).length = (xs 7).length + 1 → Stays base own (fun t => t ≠ (4, ((xs 7).length : Int)) ∧ t ≠ (1, 7) ∧ t ≠ (0, 0)) w own' w' → Below base w w' → R (.returned (.bool true)) w') := hR
  have HW : Hid (WK Z base B own w f xs ms em last many) := hW
  have HL : Hid (w.ownsRow base 5 1 (.slice (some ⟨g, 0, none⟩) (N + 1) (N + 1)) (N + 1) (told (lcell X N) (N + 1))) := hl
  have HG : Hid (own g = (4, ((xs 7).length : Int))) := hg
  have HX : Hid (BsAt w a N X) := hx
  have H7 : Hid ((xs 7).length + 1 ≤ Z) := h7
  have hgb : base ≤ g := (hl.lt g rfl).1
  clear hR hW hl hg hx h7
  go_enter Tryz.func72, Tryz.ntmps72
  go_wp2_with fail
  refine sameBytes_any _ _ _ _ _ _ X X _ _ (by omega) (by omega) ?a1 ?a2 ?_
  case a1 => exact fun i hi => ⟨g, 0, rfl, by rw [Nat.zero_add, (told_bytes HL.out i (by omega)).1, if_pos hi]⟩
  case a2 => exact fun i hi => HX.out i hi
  intro w1 hb1
  have hdec : decide (N = N ∧ ∀ i, i < N → X i = X i) = true := by simp
  rw [hdec]
  clear hdec
  have HW1 : Hid (WK Z base B own w1 f xs ms em last many) := HW.out.ext hb1
  have HB1 : Hid (Below w.heap.size w w1) := hb1
  have HL1 : Hid (w1.ownsRow base 5 1 (.slice (some ⟨g, 0, none⟩) (N + 1) (N + 1)) (N + 1) (told (lcell X N) (N + 1))) := (own_stays' (tag := own g) HL.out (fun q hq => by simp [Value.ownBlock] at hq; rw [hq]) (Stays.of_below (own := own) hb1) trivial).1
  have hz : w1.cell? ⟨g, N, none⟩ = some (.int .u8 0) := by rw [(told_bytes HL1.out N (by omega)).1, if_neg (by omega)]
  clear hb1
  go_wp2_with fail
  clear hz
  go_loopw [9] (fun t wr => ∃ (i : Nat) (ys : List Value), i ≤ N + 1 ∧ t = .int .i64 i ∧ wr.ownsRow base 5 1 (.slice (some ⟨g, 0, none⟩) (N + 1) (N + 1)) (N + 1) ys ∧ (∀ k, k < i → ys[k]? = some (.int .u8 (77 : Nat))) ∧ Stays base own (fun t => t ≠ (4, ((xs 7).length : Int))) w1 own wr ∧ Below base w1 wr) (fun t _ => N + 1 - (intOf t).toNat)
  case atStart => exact ⟨0, _, Nat.zero_le _, rfl, HL1.out, fun k hk => absurd hk (by omega), ⟨Nat.le_refl _, fun _ _ => rfl, fun _ _ _ _ => rfl⟩, Below.refl _ _⟩
  case round =>
    obtain ⟨i, ys, hi, rfl, ho, hk, hs, hb⟩ := hrel
    by_cases hlt : i < N + 1
    · have hyl : ys.length = N + 1 := by have := ho.1; omega
      obtain ⟨g', cap, q1, _, _, _, hc, hf⟩ := own_cells_of ho i _ (List.getElem?_eq_getElem (by omega))
      simp only [Value.slice.injEq, Option.some.injEq, Addr.mk.injEq, and_true] at q1
      obtain ⟨rfl, _⟩ := q1
      have E : Hid ((wr.setCell ⟨g, i, none⟩ (.int .u8 (77 : Nat))).ownsRow base 5 1 (.slice (some ⟨g, 0, none⟩) (N + 1) (N + 1)) (N + 1) (ys.set i (.int .u8 (77 : Nat))) ∧ (∀ k, k < i + 1 → (ys.set i (.int .u8 (77 : Nat)))[k]? = some (.int .u8 (77 : Nat))) ∧ Stays base own (fun t => t ≠ (4, ((xs 7).length : Int))) w1 own (wr.setCell ⟨g, i, none⟩ (.int .u8 (77 : Nat))) ∧ Below base w1 (wr.setCell ⟨g, i, none⟩ (.int .u8 (77 : Nat)))) := by
        refine ⟨own_set ho g i _ rfl, ?_, hs.trans (Stays.set.mono (by intro t ht; rw [HG.out]; exact ht)), hb.setCell hgb _⟩
        intro k hk'
        by_cases he : k = i
        · subst he
          simp [hyl, hlt]
        · rw [List.getElem?_set_ne (by omega)]
          exact hk k (by omega)
      clear ho hk hs hb
      go_wp2_with fail
      go_roundw
      case rel => exact ⟨i + 1, _, by omega, by go_num, E.out⟩
      case measure => simp only [intOf]; omega
    · have hi' : i = N + 1 := by omega
      subst hi'
      have HO : Hid (wr.ownsRow base 5 1 (.slice (some ⟨g, 0, none⟩) (N + 1) (N + 1)) (N + 1) (told (fun _ => .int .u8 (77 : Nat)) (N + 1))) := by
        rw [← told_of (by have := ho.1; omega) hk]
        exact ho
      have HWr : Hid (WK Z base B own wr f xs ms em last many) := HW1.out.stays hs (by simp) (by simp) (by simp) (by simp) (by intro q hq; simp; omega) (by simp)
      have HS : Hid (Stays base own (fun t => t ≠ (4, ((xs 7).length : Int))) w own wr) := ((Stays.of_below HB1.out).mono fun _ _ => trivial).trans hs
      have HBr : Hid (Below base w wr) := (HB1.out.mono (by have := lt_of_heap HW.out.wj.blk; have := HW.out.wj.hB; omega)).trans hb
      have c7 := HWr.out.wj.cell 7 (by decide)
      have r7 := HWr.out.wj.rows 7 (by simp [isRow])
      have hsz : base ≤ wr.heap.size := by have := lt_of_heap HWr.out.wj.blk; have := HWr.out.wj.hB; omega
      have h67 : (xs 7).length + 1 ≤ 1073741824 := by have := H7.out; have := HWr.out.hZ; omega
      obtain ⟨a7, k7, e7⟩ := own_form r7
      have F7 : Hid (f 7 = .slice a7 (xs 7).length k7) := e7
      rw [e7] at c7 r7
      have R7 : Hid (wr.ownsRow base 31 1 (.slice a7 (xs 7).length k7) (xs 7).length (xs 7)) := r7
      clear ho hk hs hb r7 e7
      go_wp2_with (at_builtin; go_must (refine push_one base 1 24 (xs 7).length _ (xs 7) _ R7.out hsz Tryz.infoBytes rfl (by decide) rfl ?c2 ?c3 (by decide) _ _ 25 Tryz.underlying25 rfl rfl rfl rfl ?_))
      case c2 => simp [Value.oneCell']
      case c3 => exact h67
      intro v1 w2 hG
      obtain ⟨a1, k1, rfl⟩ := own_form hG.own
      have HG2 : Hid (Grew base (ty 7) 1 wr (f 7) w2 (.slice a1 ((xs 7).length + 1) k1) ((xs 7).length + 1) (xs 7 ++ [.slice (some ⟨g, 0, none⟩) (N + 1) (N + 1)])) := by rw [F7.out]; exact hG
      clear hG c7
      obtain ⟨hc, hz, HBB⟩ := HWr.out.wj.grew 7 (by simp [isRow]) HG2.out
      have HBB' : Hid (Below base wr (w2.setCell ⟨B, 7, none⟩ (.slice a1 ((xs 7).length + 1) k1))) := HBB
      have c7 : w2.cell? ⟨B, 7, none⟩ = some (f 7) := (hc 7).trans (HWr.out.wj.cell 7 (by decide))
      have z7 := hz 7
      clear hc hz HBB
      have hfin : Hid (R (.returned (.bool true)) (w2.setCell ⟨B, 7, none⟩ (.slice a1 ((xs 7).length + 1) k1))) := by
        obtain ⟨hk, hs⟩ := HWr.out.push7 H7.out HG2.out (EntN.own (by rw [Nat.mul_one]; exact HO.out) (fun q hq => by simp [Value.ownBlock] at hq; rw [← hq]; exact HG.out) (by omega)).1
        refine HR.out _ _ _ _ hk (fun i hi => by simp [hi]) (by simp) ?_ (HBr.out.trans HBB'.out)
        exact (HS.out.mono (fun _ h => h.1)).trans (hs.mono fun _ h => h.2)
      go_wp2_with fail
      exact hfin.out
#print axioms returned_w
end Go.Proofs.YtmiiejinahnpkaaGreatDoor
