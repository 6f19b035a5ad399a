/- What an append to a shelf, or a new number in the caller's struct, leaves of the caller's world. -/
import Derived.Test.YtmiiejinahnpkaaGreatDoorCd
namespace Go.Proofs.YtmiiejinahnpkaaGreatDoor
open Go.RowKit

def isRow (j : Nat) : Prop := j = 1 ∨ j = 2 ∨ j = 5 ∨ j = 6 ∨ j = 7 ∨ j = 8
def ty (j : Nat) : TypeId := if j = 1 then 31 else if j = 7 then 31 else if j = 5 then 32 else if j = 8 then 32 else 3

/-- the struct and the rows of its shelves -/
structure WJ (base B : Nat) (own : Nat → Nat × Int) (w : World) (f : Nat → Value) (xs : Nat → List Value) (last : Int) (many : Nat) : Prop where
  blk : w.heap[B]? = some (.cells #[f 0, f 1, f 2, f 3, f 4, f 5, f 6, f 7, f 8, .int .i64 last, .int .i64 (many : Nat)] 30 (0, 0))
  hB : base ≤ B
  oB : own B = (0, 0)
  o3 : f 3 = .slice none 0 0
  rows : ∀ j, isRow j → w.ownsRow base (ty j) 1 (f j) (xs j).length (xs j)
  tags : ∀ j, isRow j → ∀ g, (f j).ownBlock = some g → own g = (1, (j : Int))

theorem set_blk {w : World} {B j : Nat} {cur : Array Value} {e : TypeId} {v : Value} (h : w.heap[B]? = some (.cells cur e (0, 0))) : (w.setCell ⟨B, j, none⟩ v).heap[B]? = some (.cells (cur.setIfInBounds j v) e (0, 0)) := by
  simp [World.setCell, Array.getElem?_modify, h]

theorem Stays.trans {base : Nat} {o1 o2 o3 : Nat → Nat × Int} {T : Nat × Int → Prop} {a b c : World} (h : Stays base o1 T a o2 b) (k : Stays base o2 T b o3 c) : Stays base o1 T a o3 c := by
  refine ⟨Nat.le_trans h.size k.size, fun g hg => (k.tag g (Nat.lt_of_lt_of_le hg h.size)).trans (h.tag g hg), fun g hg hb hT => ?_⟩
  rw [k.blk g (Nat.lt_of_lt_of_le hg h.size) hb (by rw [h.tag g hg]; exact hT), h.blk g hg hb hT]

theorem Stays.mono {base : Nat} {o1 o2 : Nat → Nat × Int} {T T' : Nat × Int → Prop} {a b : World} (h : Stays base o1 T a o2 b) (hT : ∀ t, T' t → T t) : Stays base o1 T' a o2 b :=
  ⟨h.size, h.tag, fun g hg hb ht => h.blk g hg hb (hT _ ht)⟩

/-- blocks that are new bear a tag -/
def newTag (own : Nat → Nat × Int) (w : World) (v : Value) (t : Nat × Int) : Nat → Nat × Int := fun g => if w.heap.size ≤ g ∧ v.ownBlock = some g then t else own g

theorem newTag_old {own : Nat → Nat × Int} {w : World} {v : Value} {t : Nat × Int} {g : Nat} (h : g < w.heap.size) : newTag own w v t g = own g := by
  unfold newTag
  rw [if_neg (by omega)]

/-- behind an append to a row that bears a tag (or is nothing yet) -/
theorem Grew.stays {base : Nat} {own : Nat → Nat × Int} {e : TypeId} {size n' : Nat} {w w1 : World} {v v' : Value} {xs' : List Value} {t : Nat × Int} (h : Grew base e size w v w1 v' n' xs') (ht : ∀ g, v.ownBlock = some g → own g = t) :
    Stays base own (fun x => x ≠ t) w (newTag own w v' t) w1 ∧ ∀ g, v'.ownBlock = some g → newTag own w v' t g = t := by
  refine ⟨⟨h.grown.size, fun g hg => newTag_old hg, fun g hg _ hT => h.grown.block g hg (fun e => hT (ht g e.symm))⟩, fun g hg => ?_⟩
  unfold newTag
  by_cases hlt : w.heap.size ≤ g
  · rw [if_pos ⟨hlt, hg⟩]
  · rw [if_neg (by omega)]
    rcases h.lies with hl | hl
    · exact ht g (by rw [← hl]; exact hg)
    · exact absurd (hl g hg) hlt

theorem WJ.stays {base B : Nat} {own own' : Nat → Nat × Int} {w w' : World} {f : Nat → Value} {xs : Nat → List Value} {last : Int} {many : Nat} {T : Nat × Int → Prop}
    (h : WJ base B own w f xs last many) (hs : Stays base own T w own' w') (h0 : T (0, 0)) (h1 : ∀ j : Nat, isRow j → T (1, (j : Int))) : WJ base B own' w' f xs last many := by
  have hlt := lt_of_heap h.blk
  exact ⟨by rw [hs.blk B hlt h.hB (by rw [h.oB]; exact h0)]; exact h.blk, h.hB, by rw [hs.tag B hlt]; exact h.oB, h.o3, fun j hj => (own_stays (h.rows j hj) (h.tags j hj) hs (h1 j hj)).1, fun j hj => (own_stays (h.rows j hj) (h.tags j hj) hs (h1 j hj)).2⟩

theorem WJ.cell {base B : Nat} {own : Nat → Nat × Int} {w : World} {f : Nat → Value} {xs : Nat → List Value} {last : Int} {many : Nat} (h : WJ base B own w f xs last many) (j : Nat) (hj : j < 9) : w.cell? ⟨B, j, none⟩ = some (f j) := by
  rw [cell_of_row w B j _ _ (0, 0) h.blk]
  match j, hj with
  | 0, _ => rfl
  | 1, _ => rfl
  | 2, _ => rfl
  | 3, _ => rfl
  | 4, _ => rfl
  | 5, _ => rfl
  | 6, _ => rfl
  | 7, _ => rfl
  | 8, _ => rfl

theorem WJ.free {base B : Nat} {own : Nat → Nat × Int} {w : World} {f : Nat → Value} {xs : Nat → List Value} {last : Int} {many : Nat} (h : WJ base B own w f xs last many) (j : Nat) : w.frozen? ⟨B, j, none⟩ = false := by simp [World.frozen?, h.blk]

/-- a row's new value is stored into the struct -/
theorem WJ.push {base B : Nat} {own : Nat → Nat × Int} {w w1 : World} {f : Nat → Value} {xs : Nat → List Value} {last : Int} {many : Nat} {v' x : Value}
    (h : WJ base B own w f xs last many) (j : Nat) (hj : isRow j) (hG : Grew base (ty j) 1 w (f j) w1 v' ((xs j).length + 1) (xs j ++ [x])) :
    WJ base B (newTag own w v' (1, (j : Int))) (w1.setCell ⟨B, j, none⟩ v') (fun i => if i = j then v' else f i) (fun i => if i = j then xs j ++ [x] else xs i) last many ∧
    Stays base own (fun t => t ≠ (1, (j : Int)) ∧ t ≠ (0, 0)) w (newTag own w v' (1, (j : Int))) (w1.setCell ⟨B, j, none⟩ v') := by
  obtain ⟨hs, htv⟩ := hG.stays (h.tags j hj)
  have hlt := lt_of_heap h.blk
  have hB1 : w1.heap[B]? = w.heap[B]? := hs.blk B hlt h.hB (by rw [h.oB]; simp)
  have hset : ∀ g : Nat, g ≠ B → (w1.setCell ⟨B, j, none⟩ v').heap[g]? = w1.heap[g]? := fun g hg => Below.heap_setCell w1 ⟨B, j, none⟩ v' g hg
  have hst : Stays base own (fun t => t ≠ (1, (j : Int)) ∧ t ≠ (0, 0)) w (newTag own w v' (1, (j : Int))) (w1.setCell ⟨B, j, none⟩ v') := by
    refine ⟨Nat.le_trans hs.size (by simp [World.setCell]), hs.tag, fun g hg hb hT => ?_⟩
    rw [hset g (fun e => hT.2 (by rw [e]; exact h.oB)), hs.blk g hg hb hT.1]
  refine ⟨⟨?_, h.hB, ?_, ?_, ?_, ?_⟩, hst⟩
  · rw [set_blk (hB1.trans h.blk)]
    rcases hj with rfl | rfl | rfl | rfl | rfl | rfl <;> rfl
  · rw [newTag_old hlt]; exact h.oB
  · have : ¬ (3 : Nat) = j := by rcases hj with rfl | rfl | rfl | rfl | rfl | rfl <;> decide
    simp only [if_neg this]
    exact h.o3
  · intro i hi
    by_cases hij : i = j
    · subst hij
      simp only [if_true]
      have hn : (xs i ++ [x]).length = (xs i).length + 1 := by simp
      rw [hn]
      have ho := hG.own
      refine ⟨ho.1, ?_⟩
      rcases ho.2 with h2 | ⟨g, cap, cur, rfl, hb, hg, r⟩
      · exact .inl h2
      · refine .inr ⟨g, cap, cur, rfl, hb, ?_, r⟩
        rw [hset g (fun e => by have := htv g rfl; rw [e, newTag_old hlt, h.oB] at this; simp at this)]
        exact hg
    · simp only [if_neg hij]
      exact (own_stays (h.rows i hi) (h.tags i hi) hst ⟨by simp; omega, by simp⟩).1
  · intro i hi g hg
    by_cases hij : i = j
    · subst hij
      simp only [if_true] at hg
      exact htv g hg
    · simp only [if_neg hij] at hg
      exact (own_stays (h.rows i hi) (h.tags i hi) hst ⟨by simp; omega, by simp⟩).2 g hg

/-- a new number in the struct -/
theorem WJ.setMany {base B : Nat} {own : Nat → Nat × Int} {w : World} {f : Nat → Value} {xs : Nat → List Value} {last : Int} {many : Nat} (h : WJ base B own w f xs last many) (m : Nat) :
    WJ base B own (w.setCell ⟨B, 10, none⟩ (.int .i64 (m : Nat))) f xs last m ∧ Stays base own (fun t => t ≠ (0, 0)) w own (w.setCell ⟨B, 10, none⟩ (.int .i64 (m : Nat))) := by
  have hst : Stays base own (fun t => t ≠ (0, 0)) w own (w.setCell ⟨B, 10, none⟩ (.int .i64 (m : Nat))) := by
    refine ⟨by simp [World.setCell], fun _ _ => rfl, fun g hg hb hT => ?_⟩
    exact Below.heap_setCell w ⟨B, 10, none⟩ _ g (fun e => hT (by rw [e]; exact h.oB))
  refine ⟨⟨?_, h.hB, h.oB, h.o3, fun j hj => (own_stays (h.rows j hj) (h.tags j hj) hst (by simp)).1, h.tags⟩, hst⟩
  rw [set_blk h.blk]
  rfl

theorem WJ.setLast {base B : Nat} {own : Nat → Nat × Int} {w : World} {f : Nat → Value} {xs : Nat → List Value} {last : Int} {many : Nat} (h : WJ base B own w f xs last many) (m : Int) :
    WJ base B own (w.setCell ⟨B, 9, none⟩ (.int .i64 m)) f xs m many ∧ Stays base own (fun t => t ≠ (0, 0)) w own (w.setCell ⟨B, 9, none⟩ (.int .i64 m)) := by
  have hst : Stays base own (fun t => t ≠ (0, 0)) w own (w.setCell ⟨B, 9, none⟩ (.int .i64 m)) := by
    refine ⟨by simp [World.setCell], fun _ _ => rfl, fun g hg hb hT => ?_⟩
    exact Below.heap_setCell w ⟨B, 9, none⟩ _ g (fun e => hT (by rw [e]; exact h.oB))
  refine ⟨⟨?_, h.hB, h.oB, h.o3, fun j hj => (own_stays (h.rows j hj) (h.tags j hj) hst (by simp)).1, h.tags⟩, hst⟩
  rw [set_blk h.blk]
  rfl
end Go.Proofs.YtmiiejinahnpkaaGreatDoor
