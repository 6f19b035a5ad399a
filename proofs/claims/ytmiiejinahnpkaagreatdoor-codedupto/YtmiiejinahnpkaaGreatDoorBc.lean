/- What put (of the document's answer) and appendBytes (of the program) append: the bytes of a number, the highest first. -/
import Derived.Test.YtmiiejinahnpkaaGreatDoorProg
import Derived.Test.YtmiiejinahnpkaaGreatDoorAa
import Derived.BigQuiet
import Derived.Deep.QuietTactic
import Derived.Deep.AppendLies
namespace Go.Proofs.YtmiiejinahnpkaaGreatDoor
open Go.RowKit

theorem Tryz.infoU8 : (Tryz.prog.info? 5).map (fun i => (i.zero, i.size, i.bytes)) = some (some (.int .u8 0), 1, 1) := by kernel_rfl

set_option maxHeartbeats 400000 in
set_option maxRecDepth 4000 in
theorem appendBytes_any (B : Nat) (v : Value) (n : Nat) (xs : List Int) (V : Int) (m : Nat) (w : World) (R : Ending → World → Prop)
   (_hV1 : -9223372036854775808 ≤ V) (_hV2 : V ≤ 9223372036854775807) (hm : m ≤ 8) (hn : n + m ≤ 1073741824) (hB : B ≤ w.heap.size)
   (hown : w.ownsRow B 5 1 v n (xs.map bv))
   (hR : ∀ v' w', Grew B 5 1 w v w' v' (n + m) ((xs ++ be V m).map bv) → R (.returned v') w') :
    Calls Tryz.prog 82 #[v, .int .i64 V, .int .i64 m] w R := by
  have hR' : Hid (∀ v' w', Grew B 5 1 w v w' v' (n + m) ((xs ++ be V m).map bv) → R (.returned v') w') := hR
  obtain ⟨i0, hi, hz0, hz1, hz2⟩ := info_parts Tryz.infoU8
  clear hR
  go_enter Tryz.func82, Tryz.ntmps82
  go_wp2
  go_loopw [0, 7] (fun b i wr => ∃ j : Nat, j ≤ m ∧ i = .int .i64 ((m : Int) - 1 - j) ∧ Grew B 5 1 w v wr b (n + j) ((xs ++ (be V m).take j).map bv)) (fun _ i _ => (intOf i + 1).toNat)
  case atStart => exact ⟨0, Nat.zero_le _, by simp, by simpa using Grew.refl hown⟩
  case round =>
    obtain ⟨j, hj, rfl, hG⟩ := hrel
    by_cases hlt : j < m
    · have hsz := hG.grown.size
      obtain ⟨k, hk⟩ : ∃ k : Nat, (m : Int) - 1 - j = k := ⟨m - 1 - j, by omega⟩
      have hk8 : k < 8 := by omega
      have HK : Hid ((m : Int) - 1 - j = k) := hk
      rw [hk]
      clear hR' _hV1 _hV2 hk
      have hB' : B ≤ wr.heap.size := by omega
      go_wp2_with (first | (at_builtin; go_must (refine push_one B 1 1 (n + j) _ _ _ hG.own hB' Tryz.infoU8 rfl (by decide) rfl ?c2 ?c3 (by decide) _ _ 31 Tryz.underlying31 rfl rfl rfl rfl ?_)) | go_in)
      case c2 => rfl
      case c3 => omega
      · intro v1 w1 hG1
        have G : Hid (Grew B 5 1 w v w1 v1 (n + (j + 1)) ((xs ++ (be V m).take (j + 1)).map bv)) := (hG.trans hG1).cast rfl (by rw [be_take V m j k hlt HK.out]; simp [bv, pow256])
        clear hG1
        go_wp2
        go_roundw
        case rel => exact ⟨j + 1, by omega, by have := HK.out; congr 1; omega, G.out⟩
        case measure => simp [intOf]
    · have hj' : j = m := by omega
      subst hj'
      have hf := hR'.out _ _ (hG.cast rfl (by rw [List.take_of_length_le (by rw [be_length]; omega)]))
      have HF : Hid (R (.returned u0) wr) := hf
      clear hf hR' hG
      go_wp2
      exact HF.out
#print axioms appendBytes_any

set_option maxHeartbeats 400000 in
set_option maxRecDepth 4000 in
theorem put_any (B : Nat) (v : Value) (n : Nat) (xs : List Int) (V : Int) (m : Nat) (w : World) (R : Ending → World → Prop)
   (hV1 : 0 ≤ V) (hV2 : V < 18446744073709551616) (hm : m ≤ 8) (hn : n + m ≤ 1073741824) (hB : B ≤ w.heap.size)
   (hown : w.ownsRow B 5 1 v n (xs.map bv))
   (hR : ∀ v' w', Grew B 5 1 w v w' v' (n + m) ((xs ++ be V m).map bv) → R (.returned v') w') :
    Calls Tryz.prog 102 #[v, .int .u64 V, .int .i64 m] w R := by
  have hR' : Hid (∀ v' w', Grew B 5 1 w v w' v' (n + m) ((xs ++ be V m).map bv) → R (.returned v') w') := hR
  clear hR
  have HV : Hid (V < 18446744073709551616) := hV2
  have HO : Hid (w.ownsRow B 5 1 v n (xs.map bv)) := hown
  clear hV2 hown
  go_enter Tryz.func102, Tryz.ntmps102
  go_wp2
  go_loopw [1, 7, 8] (fun t l i wr => ∃ k : Nat, k ≤ m ∧ i = .int .i64 k ∧ t = .int .u64 (V / 256 ^ k) ∧ Grew w.heap.size 5 1 w (.slice none 0 0) wr l k (((List.range k).map fun q => V / 256 ^ q % 256).map bv)) (fun _ _ i _ => m - (intOf i).toNat)
  case atStart => exact ⟨0, Nat.zero_le _, rfl, by simp, Grew.refl (World.ownsRow_nil _ _ _ _)⟩
  case round =>
    obtain ⟨k, hk, rfl, rfl, hG⟩ := hrel
    by_cases hlt : k < m
    · have hsz := hG.grown.size
      have hq0 : 0 ≤ V / 256 ^ k := Int.ediv_nonneg hV1 (Int.pow_nonneg (by decide))
      have hst : V / 256 ^ k / 256 = V / 256 ^ (k + 1) := by rw [Int.ediv_ediv_of_nonneg (Int.pow_nonneg (by decide)), Int.pow_succ]
      generalize hq : V / 256 ^ k = q at *
      have HQ : Hid (V / 256 ^ k = q) := hq
      have HS : Hid (q / 256 = V / 256 ^ (k + 1)) := hst
      clear hR' hst hq
      go_wp2_with (first | (at_builtin; go_must (refine push_one w.heap.size 1 1 k _ _ _ hG.own hsz Tryz.infoU8 rfl (by decide) rfl ?c2 ?c3 (by decide) _ _ 31 Tryz.underlying31 rfl rfl rfl rfl ?_)) | go_in)
      case c2 => rfl
      case c3 => omega
      · intro v1 w1 hG1
        have G : Hid (Grew w.heap.size 5 1 w (.slice none 0 0) w1 v1 (k + 1) (((List.range (k + 1)).map fun q => V / 256 ^ q % 256).map bv)) := (hG.trans hG1).cast rfl (by simp [List.range_succ, bv, HQ.out])
        clear hG1 hG
        have hq1 : q < 18446744073709551616 := by
          have h1 := HV.out
          have h2 := HQ.out
          have h3 : V / 256 ^ k ≤ V := Int.ediv_le_self _ hV1
          omega
        have HW : Hid (IntKind.u64.wrap (q.tdiv 256) = V / 256 ^ (k + 1)) := by
          show _ = _
          rw [Int.tdiv_eq_ediv_of_nonneg hq0, HS.out, u64_wrap _ (by rw [← HS.out]; omega) (by rw [← HS.out]; omega)]
        clear hq1
        go_wp2
        go_roundw
        case rel => exact ⟨k + 1, by omega, by go_num, by rw [HW.out], G.out⟩
        case measure => simp [intOf]; omega
    · have hk' : k = m := by omega
      subst hk'
      obtain ⟨wa, hwa⟩ : ∃ x, x = wr := ⟨_, rfl⟩
      subst hwa
      have hcells : ∀ q, q < k → ∃ g cap, u7 = Value.slice (some ⟨g, 0, none⟩) k cap ∧ g < wa.heap.size ∧ w.heap.size ≤ g ∧ wa.cell? ⟨g, q, none⟩ = some (.int .u8 (V / 256 ^ q % 256)) := by
        intro q hq
        obtain ⟨g, cap, h1, h2, h3, _, h5, _⟩ := own_cell hG.own q (bv (V / 256 ^ q % 256)) (by simp [hq])
        exact ⟨g, cap, h1, h3, h2, h5⟩
      have HC : Hid (∀ q, q < k → ∃ g cap, u7 = Value.slice (some ⟨g, 0, none⟩) k cap ∧ g < wa.heap.size ∧ w.heap.size ≤ g ∧ wa.cell? ⟨g, q, none⟩ = some (.int .u8 (V / 256 ^ q % 256))) := hcells
      have hO1 : wa.ownsRow B 5 1 v n (xs.map bv) := HO.out.kept hG.grown (by cases hv : v.ownBlock <;> simp [Value.ownBlock])
      have hvlt := HO.out.lt
      have G1 : Grew B 5 1 w v wa v n (xs.map bv) := ⟨hO1, ⟨hG.grown.os, hG.grown.tape, hG.grown.output, hG.grown.size, fun b hb _ => hG.grown.block b hb (by simp [Value.ownBlock])⟩, .inl rfl⟩
      have HG1 : Hid (Grew B 5 1 w v wa v n (xs.map bv)) := G1
      have hsz := hG.grown.size
      clear hcells hG G1
      have HO1 : Hid (wa.ownsRow B 5 1 v n (xs.map bv)) := hO1
      have HL : Hid (∀ g, v.ownBlock = some g → B ≤ g ∧ g < w.heap.size) := hvlt
      clear hO1 hvlt
      go_wp2
      go_loopw [0, 9] (fun b i w2 => ∃ j : Nat, j ≤ k ∧ i = .int .i64 ((k : Int) - 1 - j) ∧ Grew B 5 1 wa v w2 b (n + j) ((xs ++ (be V k).take j).map bv)) (fun _ i _ => (intOf i + 1).toNat)
      case atStart => exact ⟨0, Nat.zero_le _, by simp, by simpa using Grew.refl HO1.out⟩
      case round =>
        obtain ⟨j, hj, rfl, hG⟩ := hrel
        by_cases hlt : j < k
        · obtain ⟨i, hi⟩ : ∃ i : Nat, (k : Int) - 1 - j = i := ⟨k - 1 - j, by omega⟩
          have HK : Hid ((k : Int) - 1 - j = i) := hi
          have hik : i < k := by omega
          obtain ⟨g, cap, rfl, hg1, hg2, hc⟩ := HC.out i hik
          have hc2 : wr.cell? ⟨g, i, none⟩ = some (.int .u8 (V / 256 ^ i % 256)) := by
            rw [hG.grown.cell_far ⟨g, i, none⟩ hg1 (fun e => by have := (HL.out g e.symm).2; omega)]
            exact hc
          have hB' : B ≤ wr.heap.size := by have := hG.grown.size; omega
          rw [hi]
          clear hR' hi hc
          go_wp2_with (first | (at_builtin; go_must (refine push_one B 1 1 (n + j) _ _ _ hG.own hB' Tryz.infoU8 rfl (by decide) rfl ?c2 ?c3 (by decide) _ _ 31 Tryz.underlying31 rfl rfl rfl rfl ?_)) | go_in)
          case c2 => rfl
          case c3 => omega
          · intro v1 w1 hG1
            have G : Hid (Grew B 5 1 wa v w1 v1 (n + (j + 1)) ((xs ++ (be V k).take (j + 1)).map bv)) := (hG.trans hG1).cast rfl (by rw [be_take V k j i hlt HK.out]; simp [bv])
            clear hG1
            go_wp2
            go_roundw
            case rel => exact ⟨j + 1, by omega, by have := HK.out; congr 1; omega, G.out⟩
            case measure => simp [intOf]
        · have hj' : j = k := by omega
          subst hj'
          have hf := hR'.out _ _ (HG1.out.trans (hG.cast rfl (by rw [List.take_of_length_le (by rw [be_length]; omega)])))
          have HF : Hid (R (.returned u0) wr) := hf
          clear hf hR' hG
          go_wp2
          exact HF.out
#print axioms put_any
end Go.Proofs.YtmiiejinahnpkaaGreatDoor
