/- What write of the law does: each list of bytes holds the digit, and nothing else has turned. -/
import Derived.Test.YtmiiejinahnpkaaGreatDoorBa
namespace Go.Proofs.YtmiiejinahnpkaaGreatDoor
open Go.RowKit

/-- a cell that one of the lists covers -/
def Cov (bs : Nat → Value) (n g k : Nat) : Prop := ∃ i l c, i < n ∧ bs i = .slice (some ⟨g, 0, none⟩) l c ∧ k < l

/-- two worlds that differ in covered cells alone -/
structure Painted (bs : Nat → Value) (n : Nat) (W W' : World) : Prop where
  os : W'.os = W.os
  tape : W'.tape = W.tape
  output : W'.output = W.output
  size : W'.heap.size = W.heap.size
  blk : ∀ g : Nat, W'.heap[g]? = W.heap[g]? ∨ ∃ (cur cur' : Array Value) (e : TypeId) (fr : Nat × Nat), W.heap[g]? = some (.cells cur e fr) ∧ W'.heap[g]? = some (.cells cur' e fr) ∧ cur'.size = cur.size
  cell : ∀ g k, ¬ Cov bs n g k → W'.cell? ⟨g, k, none⟩ = W.cell? ⟨g, k, none⟩

theorem Painted.refl (bs : Nat → Value) (n : Nat) (W : World) : Painted bs n W W := ⟨rfl, rfl, rfl, rfl, fun _ => .inl rfl, fun _ _ _ => rfl⟩

theorem Painted.trans {bs : Nat → Value} {n : Nat} {a b c : World} (h : Painted bs n a b) (k : Painted bs n b c) : Painted bs n a c := by
  refine ⟨k.os.trans h.os, k.tape.trans h.tape, k.output.trans h.output, k.size.trans h.size, fun g => ?_, fun g i hc => (k.cell g i hc).trans (h.cell g i hc)⟩
  rcases k.blk g with k1 | ⟨cu, cu', e, fr, k1, k2, k3⟩
  · rw [k1]; exact h.blk g
  · rcases h.blk g with h1 | ⟨du, du', e', fr', h1, h2, h3⟩
    · exact .inr ⟨cu, cu', e, fr, by rw [← h1]; exact k1, k2, k3⟩
    · rw [k1] at h2
      simp only [Option.some.injEq, Obj.cells.injEq] at h2
      obtain ⟨rfl, rfl, rfl⟩ := h2
      exact .inr ⟨du, cu', _, _, h1, k2, k3.trans h3⟩

theorem Painted.some {bs : Nat → Value} {n : Nat} {W W' : World} (h : Painted bs n W W') {g k : Nat} {x : Value} (hx : W.cell? ⟨g, k, none⟩ = some x) : ∃ x', W'.cell? ⟨g, k, none⟩ = some x' := by
  rcases h.blk g with h1 | ⟨cu, cu', e, fr, h1, h2, h3⟩
  · exact ⟨x, (World.cell?_of_block (w := W) (w' := W') (a := ⟨g, k, none⟩) h1).trans hx⟩
  · rw [cell_of_row W g k cu e fr h1] at hx
    rw [cell_of_row W' g k cu' e fr h2]
    obtain ⟨hlt, _⟩ := Array.getElem?_eq_some_iff.1 hx
    exact ⟨_, Array.getElem?_eq_getElem (by omega)⟩

theorem Painted.frozen {bs : Nat → Value} {n : Nat} {W W' : World} (h : Painted bs n W W') (g k : Nat) : W'.frozen? ⟨g, k, none⟩ = W.frozen? ⟨g, k, none⟩ := by
  rcases h.blk g with h1 | ⟨cu, cu', e, fr, h1, h2, _⟩
  · exact World.frozen?_of_block (w := W) (w' := W') (a := ⟨g, k, none⟩) h1
  · simp only [World.frozen?, h1, h2]

theorem Painted.set {bs : Nat → Value} {n : Nat} {W : World} {g k : Nat} (hc : Cov bs n g k) (v : Value) : Painted bs n W (W.setCell ⟨g, k, none⟩ v) := by
  refine ⟨rfl, rfl, rfl, by simp [World.setCell], fun q => ?_, fun q i hq => ?_⟩
  · by_cases h : q = g
    · subst h
      cases hb : W.heap[q]? with
      | none => left; simp [World.setCell, Array.getElem?_modify, hb]
      | some o =>
        cases o with
        | cells cur e fr => right; exact ⟨cur, cur.setIfInBounds k v, e, fr, rfl, by simp [World.setCell, Array.getElem?_modify, hb], by simp⟩
        | _ => left; simp [World.setCell, Array.getElem?_modify, hb]
    · left
      exact Below.heap_setCell W ⟨g, k, none⟩ v q h
  · refine World.cell?_setCell_other _ _ _ _ (fun e => hq ?_)
    simp only [Addr.mk.injEq, and_true] at e
    obtain ⟨rfl, rfl⟩ := e
    exact hc

/-- both worlds hold the same in the covered cells too: then nothing has turned -/
theorem Painted.same {bs : Nat → Value} {n : Nat} {W W' : World} (h : Painted bs n W W') (hc : ∀ g k, Cov bs n g k → W'.cell? ⟨g, k, none⟩ = W.cell? ⟨g, k, none⟩) : ∀ g : Nat, W'.heap[g]? = W.heap[g]? := by
  intro g
  rcases h.blk g with h1 | ⟨cu, cu', e, fr, h1, h2, h3⟩
  · exact h1
  · rw [h1, h2]
    congr 2
    refine Array.ext (by omega) fun i hi1 hi2 => ?_
    have hh : W'.cell? ⟨g, i, none⟩ = W.cell? ⟨g, i, none⟩ := by
      by_cases hcv : Cov bs n g i
      · exact hc g i hcv
      · exact h.cell g i hcv
    rw [cell_of_row W g i cu e fr h1, cell_of_row W' g i cu' e fr h2, Array.getElem?_eq_getElem hi1, Array.getElem?_eq_getElem hi2] at hh
    exact Option.some.inj hh

set_option maxHeartbeats 1000000 in
set_option maxRecDepth 4000 in
theorem write_any (B : Nat) (ab ao : Option Addr) (n cb co d : Nat) (bs : Nat → Value) (ms : Nat → Nat) (w : World) (R : Ending → World → Prop)
   (c1 : w.cell? ⟨B, 1, none⟩ = some (.slice ab n cb)) (c2 : w.cell? ⟨B, 2, none⟩ = some (.slice ao n co)) (hn : n ≤ 1073741824) (hd : d ≤ 3)
   (h1 : ∀ i, i < n → ∃ g, ab = some ⟨g, 0, none⟩ ∧ w.cell? ⟨g, i, none⟩ = some (bs i) ∧ ∀ k, ¬ Cov bs n g k)
   (h2 : ∀ i, i < n → ∃ g, ao = some ⟨g, 0, none⟩ ∧ w.cell? ⟨g, i, none⟩ = some (.int .i64 (ms i : Nat)) ∧ ∀ k, ¬ Cov bs n g k)
   (h3 : ∀ i, i < n → ms i ≤ 1073741824 ∧ ∃ a l c, bs i = .slice a l c ∧ l ≤ 1073741824 ∧ ∀ k, k < l → ∃ g, a = some ⟨g, 0, none⟩ ∧ (∃ x, w.cell? ⟨g, k, none⟩ = some x) ∧ w.frozen? ⟨g, k, none⟩ = false)
   (h4 : ∀ k, ¬ Cov bs n B k)
   (h5 : ∀ i j g l c l' c', i < n → j < n → bs i = .slice (some ⟨g, 0, none⟩) l c → bs j = .slice (some ⟨g, 0, none⟩) l' c' → 0 < l → 0 < l' → ms i = ms j)
   (hR : ∀ w', Painted bs n w w' → (∀ i g l c k, i < n → bs i = .slice (some ⟨g, 0, none⟩) l c → k < l → w'.cell? ⟨g, k, none⟩ = some (.int .u8 (dg (ms i) d : Nat))) → R (.returned (.tuple #[])) w') :
    Calls Tryz.prog 41 #[.pointer (some ⟨B, 0, none⟩), .int .i64 (d : Nat)] w R := by
  have HR : Hid (∀ w', Painted bs n w w' → (∀ i g l c k, i < n → bs i = .slice (some ⟨g, 0, none⟩) l c → k < l → w'.cell? ⟨g, k, none⟩ = some (.int .u8 (dg (ms i) d : Nat))) → R (.returned (.tuple #[])) w') := hR
  have C1 : Hid (w.cell? ⟨B, 1, none⟩ = some (.slice ab n cb)) := c1
  have C2 : Hid (w.cell? ⟨B, 2, none⟩ = some (.slice ao n co)) := c2
  have H1 : Hid (∀ i, i < n → ∃ g, ab = some ⟨g, 0, none⟩ ∧ w.cell? ⟨g, i, none⟩ = some (bs i) ∧ ∀ k, ¬ Cov bs n g k) := h1
  have H2 : Hid (∀ i, i < n → ∃ g, ao = some ⟨g, 0, none⟩ ∧ w.cell? ⟨g, i, none⟩ = some (.int .i64 (ms i : Nat)) ∧ ∀ k, ¬ Cov bs n g k) := h2
  have H3 : Hid (∀ i, i < n → ms i ≤ 1073741824 ∧ ∃ a l c, bs i = .slice a l c ∧ l ≤ 1073741824 ∧ ∀ k, k < l → ∃ g, a = some ⟨g, 0, none⟩ ∧ (∃ x, w.cell? ⟨g, k, none⟩ = some x) ∧ w.frozen? ⟨g, k, none⟩ = false) := h3
  have H4 : Hid (∀ k, ¬ Cov bs n B k) := h4
  have H5 : Hid (∀ i j g l c l' c', i < n → j < n → bs i = .slice (some ⟨g, 0, none⟩) l c → bs j = .slice (some ⟨g, 0, none⟩) l' c' → 0 < l → 0 < l' → ms i = ms j) := h5
  clear hR h1 h2 h3 h4 h5 c1 c2
  go_enter Tryz.func41, Tryz.ntmps41
  go_wp2_with fail
  go_loopw [4, 5, 6] (fun t _ _ wr => ∃ i : Nat, i ≤ n ∧ t = .int .i64 i ∧ Painted bs n w wr ∧ (∀ j g l c k, j < i → bs j = .slice (some ⟨g, 0, none⟩) l c → k < l → wr.cell? ⟨g, k, none⟩ = some (.int .u8 (dg (ms j) d : Nat)))) (fun t _ _ _ => n - (intOf t).toNat)
  case atStart => exact ⟨0, Nat.zero_le _, rfl, Painted.refl _ _ _, fun j g l c k hj => absurd hj (by omega)⟩
  case round =>
    obtain ⟨i, hi, rfl, hP, hD⟩ := hrel
    have c1 := (hP.cell B 1 (H4.out 1)).trans C1.out
    have c2 := (hP.cell B 2 (H4.out 2)).trans C2.out
    by_cases hin : i < n
    · obtain ⟨g1, rfl, hg1, hn1⟩ := H1.out i hin
      obtain ⟨g2, rfl, hg2, hn2⟩ := H2.out i hin
      obtain ⟨hmi, a, l, c, hbi, hl, hcs⟩ := H3.out i hin
      have HC : Hid (∀ k, k < l → ∃ g, a = some ⟨g, 0, none⟩ ∧ (∃ x, w.cell? ⟨g, k, none⟩ = some x) ∧ w.frozen? ⟨g, k, none⟩ = false) := hcs
      have HBI : Hid (bs i = .slice a l c) := hbi
      rw [hbi] at hg1
      have hg1' := (hP.cell g1 i (hn1 i)).trans hg1
      have hg2' := (hP.cell g2 i (hn2 i)).trans hg2
      have HG1 : Hid (w.cell? ⟨g1, i, none⟩ = some (.slice a l c)) := hg1
      have HN1 : Hid (∀ k, ¬ Cov bs n g1 k) := hn1
      have HP : Hid (Painted bs n w wr) := hP
      have HD : Hid (∀ j g l c k, j < i → bs j = .slice (some ⟨g, 0, none⟩) l c → k < l → wr.cell? ⟨g, k, none⟩ = some (.int .u8 (dg (ms j) d : Nat))) := hD
      clear hbi hcs hg1 hg2 hn1 hn2 hP hD
      go_wp2_with fail
      refine digit_any _ d _ _ hmi hd ?_
      obtain ⟨x, hx⟩ : ∃ x, x = dg (ms i) d := ⟨_, rfl⟩
      rw [← hx]
      have HXd : Hid (x = dg (ms i) d) := hx
      clear hx
      go_wp2_with fail
      obtain ⟨wa, hwa⟩ : ∃ y, y = wr := ⟨_, rfl⟩
      subst hwa
      clear c1 c2 hg1' hg2'
      go_loopw [6] (fun t wc => ∃ k : Nat, k ≤ l ∧ t = .int .i64 k ∧ Painted bs n w wc ∧ (∀ j g l c q, j < i → bs j = .slice (some ⟨g, 0, none⟩) l c → q < l → wc.cell? ⟨g, q, none⟩ = some (.int .u8 (dg (ms j) d : Nat))) ∧ (∀ g q, a = some ⟨g, 0, none⟩ → q < k → wc.cell? ⟨g, q, none⟩ = some (.int .u8 (x : Nat)))) (fun t _ => l - (intOf t).toNat)
      case atStart => exact ⟨0, Nat.zero_le _, rfl, HP.out, HD.out, fun g q _ hq => absurd hq (by omega)⟩
      case round =>
        obtain ⟨k, hk, rfl, hP2, hD2, hK2⟩ := hrel
        have c1 := (hP2.cell B 1 (H4.out 1)).trans C1.out
        have e1 := (hP2.cell g1 i (HN1.out i)).trans HG1.out
        have HP2 : Hid (Painted bs n w wr) := hP2
        have HD2 : Hid (∀ j g l c q, j < i → bs j = .slice (some ⟨g, 0, none⟩) l c → q < l → wr.cell? ⟨g, q, none⟩ = some (.int .u8 (dg (ms j) d : Nat))) := hD2
        have HK2 : Hid (∀ g q, a = some ⟨g, 0, none⟩ → q < k → wr.cell? ⟨g, q, none⟩ = some (.int .u8 (x : Nat))) := hK2
        clear hP2 hD2 hK2
        by_cases hkl : k < l
        · obtain ⟨g3, rfl, ⟨y, hy⟩, hfz⟩ := HC.out k hkl
          obtain ⟨y', hy'⟩ := HP2.out.some hy
          have hfz' := (HP2.out.frozen g3 k).trans hfz
          have hcov : Cov bs n g3 k := ⟨i, l, c, hin, HBI.out, hkl⟩
          have HE : Hid (Painted bs n w (wr.setCell ⟨g3, k, none⟩ (.int .u8 (x : Nat))) ∧ (∀ j g l c q, j < i → bs j = .slice (some ⟨g, 0, none⟩) l c → q < l → (wr.setCell ⟨g3, k, none⟩ (.int .u8 (x : Nat))).cell? ⟨g, q, none⟩ = some (.int .u8 (dg (ms j) d : Nat))) ∧ (∀ g q, some (⟨g3, 0, none⟩ : Addr) = some ⟨g, 0, none⟩ → q < k + 1 → (wr.setCell ⟨g3, k, none⟩ (.int .u8 (x : Nat))).cell? ⟨g, q, none⟩ = some (.int .u8 (x : Nat)))) := by
            refine ⟨HP2.out.trans (Painted.set hcov _), ?_, ?_⟩
            · intro j g l' c' q hj hbj hq
              by_cases he : g = g3 ∧ q = k
              · obtain ⟨rfl, rfl⟩ := he
                rw [World.cell?_setCell_same _ _ _ hy', HXd.out, H5.out i j g l c l' c' hin (by omega) HBI.out hbj (by omega) (by omega)]
              · rw [World.cell?_setCell_other _ _ _ _ (by intro e; simp only [Addr.mk.injEq, and_true] at e; exact he ⟨e.1.symm, e.2.symm⟩)]
                exact HD2.out j g l' c' q hj hbj hq
            · intro g q hgq hq
              simp only [Option.some.injEq, Addr.mk.injEq, and_true] at hgq
              subst hgq
              by_cases he : q = k
              · subst he
                exact World.cell?_setCell_same _ _ _ hy'
              · rw [World.cell?_setCell_other _ _ _ _ (by intro e; simp only [Addr.mk.injEq, and_true, true_and] at e; exact he e.symm)]
                exact HK2.out g3 q rfl (by omega)
          clear hcov hfz hy
          go_wp2_with fail
          go_roundw
          case rel => exact ⟨k + 1, by omega, by go_num, HE.out⟩
          case measure => simp only [intOf]; omega
        · have hk' : k = l := by omega
          subst hk'
          go_wp2_with fail
          go_roundw
          case rel =>
            refine ⟨i + 1, by omega, by go_num, HP2.out, ?_⟩
            intro j g l' c' q hj hbj hq
            by_cases he : j = i
            · subst he
              have hb := HBI.out
              rw [hbj] at hb
              simp only [Value.slice.injEq] at hb
              obtain ⟨h1, h2, _⟩ := hb
              rw [← HXd.out]
              exact HK2.out g q h1.symm (by omega)
            · exact HD2.out j g l' c' q (by omega) hbj hq
          case measure => simp only [intOf]; omega
    · have hfin : Hid (R (.returned (.tuple #[])) wr) := HR.out wr hP fun j g l c k hj => hD j g l c k (by omega)
      clear hP hD
      go_wp2_with fail
      go_end0
      exact hfin.out
#print axioms write_any
end Go.Proofs.YtmiiejinahnpkaaGreatDoor
