/- What lent and mark of the law do; the law of copy into a row that was just made. -/
import Derived.Test.YtmiiejinahnpkaaGreatDoorCf
import Derived.Laws.CopyRow
import Derived.OwnWalk
namespace Go.Proofs.YtmiiejinahnpkaaGreatDoor
open Go.RowKit

theorem run_copy_told {P : Program} (w : World) (dT sT ty elem e : TypeId) (size : Nat) (hu : P.underlying dT = some (.slice elem)) (hz : (P.info? elem).map (·.size) = some size)
    (base g n cap : Nat) (xs : List Value) (hown : w.ownsRow base e size (.slice (some ⟨g, 0, none⟩) n cap) n xs) (sp : Option Addr) (N c : Nat) (hN : N ≤ n) (ψ : Nat → Value)
    (hsrc : ∀ k, k < N * size → ∃ b o, sp = some ⟨b, o, none⟩ ∧ w.cell? ⟨b, o + k, none⟩ = some (ψ k)) (hrest : ∀ k, N * size ≤ k → k < n * size → xs[k]? = some (ψ k)) (h1 : ∀ k, (ψ k).oneCell' = true) :
    ∃ w', (Builtin.copy_ #[dT, sT] ty #[.slice (some ⟨g, 0, none⟩) n cap, .slice sp N c]).run P w = .ok (goInt N) w' ∧ w.grownBy w' (some g) ∧ w'.heap.size = w.heap.size ∧ w'.ownsRow base e size (.slice (some ⟨g, 0, none⟩) n cap) n (told ψ (n * size)) := by
  rcases hown.2 with ⟨h0, _⟩ | ⟨g', cap', cur, hv, hbg, hg, hnc, hcm, hcs, htake⟩
  · simp at h0
  · simp only [Value.slice.injEq, Option.some.injEq, Addr.mk.injEq, true_and, and_true] at hv
    obtain ⟨rfl, rfl⟩ := hv
    have hle : N * size ≤ n * size := Nat.mul_le_mul_right _ hN
    have hfit : 0 + (told ψ (N * size)).length ≤ cur.size := by
      rw [told_length, hcs, Nat.zero_add]
      exact Nat.mul_le_mul_right _ (Nat.le_trans hN hnc)
    have hst := run_storeCells_at P g 0 e (told ψ (N * size)) 0 cur w hg (by simpa using hfit) (by
      intro v hv
      simp only [told, List.mem_map] at hv
      obtain ⟨k, _, rfl⟩ := hv
      exact h1 k)
    have hmin : Nat.min N n = N := Nat.min_eq_left hN
    have hf : (Builtin.firstCells size N (.slice sp N c)).run P w = .ok (told ψ (N * size)).toArray w := by
      by_cases h0 : N * size = 0
      · cases sp with
        | none => simp [run_firstCells_none, told, h0]
        | some ad =>
          have := run_firstCells_some (P := P) w size N ad N c [] (by simp [h0]) (by simp)
          rw [this]
          simp [told, h0]
      · obtain ⟨b, o, rfl, _⟩ := hsrc 0 (by omega)
        refine run_firstCells_some w size N ⟨b, o, none⟩ N c _ (told_length _ _) fun j v hj => ?_
        have hjl : j < N * size := by
          obtain ⟨q, _⟩ := List.getElem?_eq_some_iff.1 hj
          rwa [told_length] at q
        rw [told_get ψ _ j hjl] at hj
        obtain ⟨b', o', hb, hc⟩ := hsrc j hjl
        simp only [Option.some.injEq, Addr.mk.injEq, and_true] at hb
        obtain ⟨rfl, rfl⟩ := hb
        rw [show (⟨b, o, none⟩ : Addr).add j = ⟨b, o + j, none⟩ by unfold Addr.add; split <;> simp_all, hc]
        exact hj
    cases hq : P.info? elem with
    | none => simp [hq] at hz
    | some i =>
      have hi : i.size = size := by simpa [hq] using hz
      refine ⟨w.setRow g (cur.toList.take 0 ++ told ψ (N * size) ++ cur.toList.drop (0 + (told ψ (N * size)).length)).toArray, ?_, ⟨rfl, rfl, rfl, by simp [World.setRow], fun k _ hk => setRow_other w g k _ (fun e => hk (by rw [e]))⟩, by simp [World.setRow], told_length _ _, .inr ⟨g, cap, _, rfl, hbg, setRow_heap w g cur _ e _ hg, hnc, hcm, ?_, ?_⟩⟩
      · simp only [Nat.add_zero, Nat.zero_add] at hst
        simp [Builtin.copy_, run_underlying hu, Builtin.lenOf, sizeOf, typeInfo, hq, hi, hmin, hf, hst]
      · simp only [List.size_toArray, List.length_append, List.length_take, List.length_drop, Array.length_toList]
        omega
      · refine told_of ?_ ?_
        · simp only [List.take_zero, List.nil_append, List.length_take, List.length_append, List.length_drop, Array.length_toList]
          have : n * size ≤ cur.size := by rw [hcs]; exact Nat.mul_le_mul_right _ hnc
          omega
        · intro k hk
          simp only [List.take_zero, List.nil_append, List.getElem?_take, if_pos hk]
          by_cases hkN : k < N * size
          · rw [List.getElem?_append_left (by rw [told_length]; exact hkN), told_get _ _ _ hkN]
          · rw [List.getElem?_append_right (by rw [told_length]; omega), told_length, List.getElem?_drop, ← hrest k (by omega) hk, ← htake, List.getElem?_take, if_pos hk]
            congr 1
            omega

theorem wpList_copy_told {P : Program} {W : World} {ops : Array Oper} {rest : List Oper} {o : Oper} {a : Act} {Q : Exit → Act → World → Prop} (hgd : o.guard = none) (d s : Operand) (dT sT : TypeId)
    (ho : o.op = .call { callee := .builtin .copy, args := #[d, s], argTypes := #[dT, sT] }) (elem e : TypeId) (size : Nat) (hu : P.underlying dT = some (.slice elem)) (hz : (P.info? elem).map (·.size) = some size)
    (base g n cap : Nat) (xs : List Value) (hown : W.ownsRow base e size (.slice (some ⟨g, 0, none⟩) n cap) n xs) (sp : Option Addr) (N c : Nat) (hN : N ≤ n) (ψ : Nat → Value)
    (hd : a.eval d = .slice (some ⟨g, 0, none⟩) n cap) (hs : a.eval s = .slice sp N c)
    (hsrc : ∀ k, k < N * size → ∃ b o, sp = some ⟨b, o, none⟩ ∧ W.cell? ⟨b, o + k, none⟩ = some (ψ k)) (hrest : ∀ k, N * size ≤ k → k < n * size → xs[k]? = some (ψ k)) (h1 : ∀ k, (ψ k).oneCell' = true)
    (h : ∀ w', W.grownBy w' (some g) → w'.heap.size = W.heap.size → w'.ownsRow base e size (.slice (some ⟨g, 0, none⟩) n cap) n (told ψ (n * size)) → wpList P ops Q rest (a.put o.dst (goInt N)) w') :
    wpList P ops Q (o :: rest) a W := by
  refine wpList_plain hgd fun K hK => ?_
  obtain ⟨w', hr, h2, h3, h4⟩ := run_copy_told (P := P) W dT sT o.type elem e size hu hz base g n cap xs hown sp N c hN ψ hsrc hrest h1
  unfold Oper.wp execOp
  simp only [ho, resolve, invoke, builtin, Sem.run_bind, Sem.run_pure, Result.andThen_ok, List.map_toArray, List.map_cons, List.map_nil, hd, hs, hr]
  exact hK _ _ (h w' h2 h3 h4)
#print axioms wpList_copy_told
end Go.Proofs.YtmiiejinahnpkaaGreatDoor
