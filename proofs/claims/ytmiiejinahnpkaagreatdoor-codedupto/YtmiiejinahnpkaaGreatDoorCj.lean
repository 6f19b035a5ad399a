/- A list that came out is painted, put onto its shelf four times, and grows: what stays of the caller's world. -/
import Derived.Test.YtmiiejinahnpkaaGreatDoorCi
namespace Go.Proofs.YtmiiejinahnpkaaGreatDoor
open Go.RowKit

theorem Grew.undrew {B : Nat} {e : TypeId} {size : Nat} {w w1 : World} {v v' : Value} {n : Nat} {xs : List Value} (h : Grew B e size w.drew v w1 v' n xs) : Grew B e size w v w1 v' n xs :=
  ⟨h.own, ⟨h.grown.os, h.grown.tape, h.grown.output, h.grown.size, h.grown.block⟩, h.lies⟩

theorem size_set (w : World) (p : Addr) (v : Value) : (w.setCell p v).heap.size = w.heap.size := by simp [World.setCell]

/-- push_one, the block of the element under a name -/
theorem push_at {P : Program} {ops : Array Oper} {rest : List Oper} {o : Oper} {a : Act} {Q : Exit → Act → World → Prop} {W : World} {arr : Array Value} {e : TypeId}
    (H : Nat) (hH : W.heap.size = H) (B size bytes n : Nat) (v : Value) (xs : List Value) (z : Value) (hown : W.ownsRow B e size v n xs) (hB : B ≤ W.heap.size)
    (hinfo : (P.info? e).map (fun i => (i.zero, i.size, i.bytes)) = some (some z, size, bytes)) (hzs : z.cells.size = size) (hsz : 0 < size) (harr : arr.size = size)
    (h1 : ∀ u ∈ arr.toList, u.oneCell' = true) (hn : n + 1 ≤ 1073741824) (hby : bytes ≤ 256)
    (s y : Operand) (t : TypeId) (ht : P.underlying t = some (.slice e)) (hgd : o.guard = none) (ho : o.op = .call { callee := .builtin .append, args := #[s, y], argTypes := #[t, t] })
    (hs : a.eval s = v) (hy : a.eval y = .slice (some ⟨H, 0, none⟩) 1 1)
    (h : ∀ v' w', Grew B e size W v w' v' (n + 1) (xs ++ arr.toList) → wpList P ops Q rest (a.put o.dst v') w') :
    wpList P ops Q (o :: rest) a (W.alloc (.cells arr e)) := by
  subst hH
  exact push_one B size bytes n v xs z hown hB hinfo hzs hsz harr h1 hn hby s y t ht hgd ho hs hy h

/-- a tag that nothing bears yet -/
structure TagNew (t : Nat × Int) (last : Int) (many : Nat) : Prop where
  h0 : t.1 ≠ 0
  h1 : t.1 ≠ 1
  h2 : ∀ m : Nat, m ≤ many → ((2, (m : Int)) : Nat × Int) ≠ t
  h3 : ∀ m : Int, last ≤ m → ((3, m) : Nat × Int) ≠ t
  h4 : t.1 ≠ 4
  h5 : t.1 ≠ 5

structure KB (base B : Nat) (t : Nat × Int) (e : TypeId) (size : Nat) (φ : Nat → Value) (lastW : Int) (manyW : Nat) (last : Int) (many : Nat) (ms : List Nat) (em : List Int) (x0 : Nat → List Value) (w0 : World)
    (own : Nat → Nat × Int) (w : World) (f : Nat → Value) (xs : Nat → List Value) (n : Nat) (l : Value) (ns : List Value) : Prop where
  wj : WJ base B own w f xs lastW manyW
  lb : EB base own w (x0 1) ms many
  le : EE base own w (x0 5) em last
  li : EI base own w (x0 7)
  ll : EL base own w (x0 8)
  lo : w.ownsRow base e size l n (told φ (n * size))
  lt : ∀ g, l.ownBlock = some g → own g = t
  ns : ∀ x, x ∈ ns → EntN base own t w e size φ n x
  hb : Below base w0 w

section
variable {base B : Nat} {t : Nat × Int} {e : TypeId} {size : Nat} {φ : Nat → Value} {lastW : Int} {manyW : Nat} {last : Int} {many : Nat} {ms : List Nat} {em : List Int} {x0 : Nat → List Value} {w0 : World}
    {own : Nat → Nat × Int} {w w1 : World} {f : Nat → Value} {xs : Nat → List Value} {n : Nat} {l : Value} {ns : List Value}

theorem KB.room (h : KB base B t e size φ lastW manyW last many ms em x0 w0 own w f xs n l ns) : base ≤ w.heap.size := by
  have := lt_of_heap h.wj.blk
  have := h.wj.hB
  omega

/-- onto a shelf's row -/
theorem KB.row (h : KB base B t e size φ lastW manyW last many ms em x0 w0 own w f xs n l ns) (ht : TagNew t last many) (j : Nat) (hj : isRow j) {v' x : Value} (hG : Grew base (ty j) 1 w (f j) w1 v' ((xs j).length + 1) (xs j ++ [x])) :
    KB base B t e size φ lastW manyW last many ms em x0 w0 (newTag own w v' (1, (j : Int))) (w1.setCell ⟨B, j, none⟩ v') (fun i => if i = j then v' else f i) (fun i => if i = j then xs j ++ [x] else xs i) n l ns := by
  obtain ⟨hw, hs⟩ := h.wj.push j hj hG
  have htt : t ≠ (1, (j : Int)) ∧ t ≠ (0, 0) := ⟨fun q => ht.h1 (by rw [q]), fun q => ht.h0 (by rw [q])⟩
  obtain ⟨ho, hot⟩ := own_stays' h.lo h.lt hs htt
  exact ⟨hw, h.lb.stays hs (by simp), h.le.stays hs (by simp), h.li.stays hs (by simp), h.ll.stays hs (by simp), ho, hot, fun x hx => (h.ns x hx).stays hs htt, h.hb.trans (h.wj.grew j hj hG).2.2⟩

theorem KB.mem (h : KB base B t e size φ lastW manyW last many ms em x0 w0 own w f xs n l ns) (hn : n ≤ 67108864) : KB base B t e size φ lastW manyW last many ms em x0 w0 own w f xs n l (ns ++ [l]) := by
  refine ⟨h.wj, h.lb, h.le, h.li, h.ll, h.lo, h.lt, fun x hx => ?_, h.hb⟩
  simp only [List.mem_append, List.mem_singleton] at hx
  rcases hx with hx | rfl
  · exact h.ns x hx
  · exact EntN.own h.lo h.lt hn

theorem KB.grow (h : KB base B t e size φ lastW manyW last many ms em x0 w0 own w f xs n l ns) (ht : TagNew t last many) {l' : Value} (hG : Grew base e size w l w1 l' (n + 1) (told φ ((n + 1) * size))) (hA : Apart w l w1 l') :
    KB base B t e size φ lastW manyW last many ms em x0 w0 (newTag own w l' t) w1 f xs (n + 1) l' ns := by
  obtain ⟨hs, hl⟩ := hG.stays h.lt
  exact ⟨h.wj.stays hs (fun q => ht.h0 (by rw [← q])) (fun j _ q => ht.h1 (by rw [← q])), h.lb.stays hs ht.h2, h.le.stays hs ht.h3, h.li.stays hs (fun i _ q => ht.h4 (by rw [← q])), h.ll.stays hs (fun i _ q => ht.h5 (by rw [← q])), hG.own, hl, fun x hx => (h.ns x hx).push hG hA,
    h.hb.trans (hG.below h.room fun g hg => (h.lo.lt g hg).1)⟩
end

/-- the last step for lists of bytes -/
theorem KB.bytes {Z base B : Nat} {last : Int} {many : Nat} {ms : List Nat} {em : List Int} {x0 : Nat → List Value} {w0 : World}
    {own : Nat → Nat × Int} {w : World} {f : Nat → Value} {xs : Nat → List Value} {n : Nat} {l : Value} {ns : List Value} {own0 : Nat → Nat × Int} {f0 : Nat → Value} {w00 : World}
    (h0 : WK Z base B own0 w00 f0 x0 ms em last many) (h1 : (x0 1).length + 4 ≤ 4 * Z) (hm : many + 1 ≤ Z)
    (h : KB base B (2, ((many + 1 : Nat) : Int)) 5 1 (fun _ => .int .u8 (dg (many + 1) 0 : Nat)) last (many + 1) last many ms em x0 w0 own w f xs n l ns)
    (hx : ∀ i, i ≠ 1 → i ≠ 2 → xs i = x0 i) (hx1 : xs 1 = x0 1 ++ ns) (hx2 : xs 2 = x0 2 ++ List.replicate 4 (.int .i64 ((many + 1 : Nat) : Int))) (hns : ns.length = 4) :
    WK Z base B own w f xs (ms ++ List.replicate 4 (many + 1)) em last (many + 1) := by
  have nn := h0.nn
  have hl2 := h0.l2
  refine ⟨h.wj, ?_, ?_, ?_, ?_, ?_, ?_, ?_, ?_, ?_, h0.hZ⟩
  · rw [hx2, h0.x2]
    simp
  · rw [hx 6 (by decide) (by decide), h0.x6]
  · rw [hx1]
    simp [hns, hl2]
  · rw [hx 5 (by decide) (by decide), h0.l6]
  · intro i v m q1 q2
    rw [hx1] at q1
    by_cases hi : i < (x0 1).length
    · rw [List.getElem?_append_left hi] at q1
      rw [List.getElem?_append_left (by omega)] at q2
      obtain ⟨r1, r2⟩ := h.lb i v m q1 q2
      exact ⟨r1, by omega⟩
    · rw [List.getElem?_append_right (by omega)] at q1
      rw [List.getElem?_append_right (by omega), List.getElem?_replicate] at q2
      split at q2
      · simp only [Option.some.injEq] at q2
        subst q2
        exact ⟨(h.ns v (List.mem_of_getElem? q1)).1, Nat.le_refl _⟩
      · simp at q2
  · rw [hx 5 (by decide) (by decide)]
    exact h.le
  · rw [hx 7 (by decide) (by decide)]
    exact h.li
  · rw [hx 8 (by decide) (by decide)]
    exact h.ll
  · rw [hx 5 (by decide) (by decide), hx 7 (by decide) (by decide), hx 8 (by decide) (by decide), hx1]
    simp only [List.length_append, hns]
    omega

/-- the last step for lists of events -/
theorem KB.events {Z base B : Nat} {last : Int} {many : Nat} {ms : List Nat} {em : List Int} {x0 : Nat → List Value} {w0 : World}
    {own : Nat → Nat × Int} {w : World} {f : Nat → Value} {xs : Nat → List Value} {n : Nat} {l : Value} {ns : List Value} {own0 : Nat → Nat × Int} {f0 : Nat → Value} {w00 : World}
    (h0 : WK Z base B own0 w00 f0 x0 ms em last many) (h1 : (x0 5).length + 4 ≤ 4 * Z) (hm : -(Z : Int) ≤ last - 1)
    (h : KB base B (3, last - 1) 42 10 (fun k => .int .i64 (kev (last - 1) (k % 10))) (last - 1) many last many ms em x0 w0 own w f xs n l ns)
    (hx : ∀ i, i ≠ 5 → i ≠ 6 → xs i = x0 i) (hx1 : xs 5 = x0 5 ++ ns) (hx2 : xs 6 = x0 6 ++ List.replicate 4 (.int .i64 (last - 1))) (hns : ns.length = 4) :
    WK Z base B own w f xs ms (em ++ List.replicate 4 (last - 1)) (last - 1) many := by
  have nn := h0.nn
  have hl2 := h0.l6
  refine ⟨h.wj, ?_, ?_, ?_, ?_, ?_, ?_, ?_, ?_, ?_, h0.hZ⟩
  · rw [hx 2 (by decide) (by decide), h0.x2]
  · rw [hx2, h0.x6]
    simp
  · rw [hx 1 (by decide) (by decide), h0.l2]
  · rw [hx1]
    simp [hns, hl2]
  · rw [hx 1 (by decide) (by decide)]
    exact h.lb
  · intro i v m q1 q2
    rw [hx1] at q1
    by_cases hi : i < (x0 5).length
    · rw [List.getElem?_append_left hi] at q1
      rw [List.getElem?_append_left (by omega)] at q2
      obtain ⟨r1, r2⟩ := h.le i v m q1 q2
      exact ⟨r1, by omega⟩
    · rw [List.getElem?_append_right (by omega)] at q1
      rw [List.getElem?_append_right (by omega), List.getElem?_replicate] at q2
      split at q2
      · simp only [Option.some.injEq] at q2
        subst q2
        exact ⟨(h.ns v (List.mem_of_getElem? q1)).1, Int.le_refl _⟩
      · simp at q2
  · rw [hx 7 (by decide) (by decide)]
    exact h.li
  · rw [hx 8 (by decide) (by decide)]
    exact h.ll
  · rw [hx 1 (by decide) (by decide), hx 7 (by decide) (by decide), hx 8 (by decide) (by decide), hx1]
    simp only [List.length_append, hns]
    omega

/-- the cell of a painted event -/
def kcell (L : Int) (k : Nat) : Value := .int .i64 (kev L (k % 10))

/-- an event of which only Kind is told, stored -/
def set10 (w : World) (g o : Nat) (L : Int) : World :=
  (((((((((w.setCell ⟨g, o, none⟩ (.int .i64 L)).setCell ⟨g, o + 1, none⟩ (.int .i64 0)).setCell ⟨g, o + 2, none⟩ (.int .i64 0)).setCell ⟨g, o + 3, none⟩ (.int .i64 0)).setCell ⟨g, o + 4, none⟩ (.int .i64 0)).setCell ⟨g, o + 5, none⟩ (.int .i64 0)).setCell ⟨g, o + 6, none⟩ (.int .i64 0)).setCell ⟨g, o + 7, none⟩ (.int .i64 0)).setCell ⟨g, o + 8, none⟩ (.int .i64 0)).setCell ⟨g, o + 9, none⟩ (.int .i64 0)

theorem paint10 {base D g n c i : Nat} {own : Nat → Nat × Int} {t : Nat × Int} {w1 wr : World} {e : TypeId} {zs : List Value} {L : Int} (ho : wr.ownsRow base e 10 (.slice (some ⟨g, 0, none⟩) n c) n zs) (hi : i < n) (hk : ∀ k, k < i * 10 → zs[k]? = some (kcell L k))
    (hs : Stays base own (fun x => x ≠ t) w1 own wr) (hg : own g = t) (hb : Below D w1 wr) (hgb : D ≤ g) :
    ∃ zs', (set10 wr g (i * 10) L).ownsRow base e 10 (.slice (some ⟨g, 0, none⟩) n c) n zs' ∧ (∀ k, k < (i + 1) * 10 → zs'[k]? = some (kcell L k)) ∧ Stays base own (fun x => x ≠ t) w1 own (set10 wr g (i * 10) L) ∧ Below D w1 (set10 wr g (i * 10) L) ∧ ∀ k, (i + 1) * 10 ≤ k → zs'[k]? = zs[k]? := by
  have hyl : zs.length = n * 10 := ho.1
  have hS : ∀ (w : World) (k : Nat) (x : Value), Stays base own (fun x => x ≠ t) w1 own w → Stays base own (fun x => x ≠ t) w1 own (w.setCell ⟨g, k, none⟩ x) := fun w k x h => h.trans (Stays.set.mono (by intro t ht; rw [hg]; exact ht))
  refine ⟨_, own_set (own_set (own_set (own_set (own_set (own_set (own_set (own_set (own_set (own_set ho g (i * 10) (.int .i64 L) rfl) g (i * 10 + 1) (.int .i64 0) rfl) g (i * 10 + 2) (.int .i64 0) rfl) g (i * 10 + 3) (.int .i64 0) rfl) g (i * 10 + 4) (.int .i64 0) rfl) g (i * 10 + 5) (.int .i64 0) rfl) g (i * 10 + 6) (.int .i64 0) rfl) g (i * 10 + 7) (.int .i64 0) rfl) g (i * 10 + 8) (.int .i64 0) rfl) g (i * 10 + 9) (.int .i64 0) rfl, ?_, ?_, ?_, ?_⟩
  · intro k hk'
    by_cases hlt : k < i * 10
    · rw [List.getElem?_set_ne (by omega), List.getElem?_set_ne (by omega), List.getElem?_set_ne (by omega), List.getElem?_set_ne (by omega), List.getElem?_set_ne (by omega), List.getElem?_set_ne (by omega), List.getElem?_set_ne (by omega), List.getElem?_set_ne (by omega), List.getElem?_set_ne (by omega), List.getElem?_set_ne (by omega)]
      exact hk k hlt
    · obtain ⟨j, rfl⟩ : ∃ j, k = i * 10 + j := ⟨k - i * 10, by omega⟩
      have hj : j < 10 := by omega
      have hkc : kcell L (i * 10 + j) = .int .i64 (kev L j) := by unfold kcell; rw [show (i * 10 + j) % 10 = j by omega]
      rw [hkc]
      have hb0 : ∀ q, q < 10 → i * 10 + q < n * 10 := fun q hq => by omega
      rcases (show j = 0 ∨ j = 1 ∨ j = 2 ∨ j = 3 ∨ j = 4 ∨ j = 5 ∨ j = 6 ∨ j = 7 ∨ j = 8 ∨ j = 9 by omega) with rfl | rfl | rfl | rfl | rfl | rfl | rfl | rfl | rfl | rfl <;> simp [List.getElem?_set, hyl, kev] <;> omega
  · exact hS _ _ _ (hS _ _ _ (hS _ _ _ (hS _ _ _ (hS _ _ _ (hS _ _ _ (hS _ _ _ (hS _ _ _ (hS _ _ _ (hS _ _ _ hs)))))))))
  · exact ((((((((((hb.setCell hgb _).setCell hgb _).setCell hgb _).setCell hgb _).setCell hgb _).setCell hgb _).setCell hgb _).setCell hgb _).setCell hgb _).setCell hgb _)
  · intro k hk'
    rw [List.getElem?_set_ne (by omega), List.getElem?_set_ne (by omega), List.getElem?_set_ne (by omega), List.getElem?_set_ne (by omega), List.getElem?_set_ne (by omega), List.getElem?_set_ne (by omega), List.getElem?_set_ne (by omega), List.getElem?_set_ne (by omega), List.getElem?_set_ne (by omega), List.getElem?_set_ne (by omega)]
#print axioms KB.events
end Go.Proofs.YtmiiejinahnpkaaGreatDoor
