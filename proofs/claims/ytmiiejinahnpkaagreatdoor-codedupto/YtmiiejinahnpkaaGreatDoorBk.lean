/- What the reader of the program does: NewReader, More, giveUp, take. -/
import Derived.Test.YtmiiejinahnpkaaGreatDoorBj
namespace Go.Proofs.YtmiiejinahnpkaaGreatDoor
open Go.RowKit
attribute [local go_sem ↓] Go.wp_at_zero Go.wp_at_succ

/-- a reader: its bytes, its place, where the event that is being read begins -/
structure Rdr (W : World) (B : Nat) (v : Value) (p s : Nat) : Prop where
  bytes : W.cell? ⟨B, 0, none⟩ = some v
  at_ : W.cell? ⟨B, 1, none⟩ = some (.int .i64 (p : Nat))
  start : W.cell? ⟨B, 2, none⟩ = some (.int .i64 (s : Nat))
  free : ∀ i, W.frozen? ⟨B, i, none⟩ = false
  lt : B < W.heap.size

theorem Rdr.ext {W w1 : World} {B : Nat} {v : Value} {p s : Nat} (h : Rdr W B v p s) (hb : Below W.heap.size W w1) : Rdr w1 B v p s :=
  ⟨(hb.cell h.lt).trans h.bytes, (hb.cell h.lt).trans h.at_, (hb.cell h.lt).trans h.start, fun i => (hb.frozen h.lt).trans (h.free i), Nat.lt_of_lt_of_le h.lt hb.size⟩

theorem Rdr.grown {W w1 : World} {B : Nat} {v : Value} {p s : Nat} {r : Option Nat} (h : Rdr W B v p s) (hg : W.grownBy w1 r) (hr : r ≠ some B) : Rdr w1 B v p s :=
  ⟨(hg.cell_far _ h.lt (Ne.symm hr)).trans h.bytes, (hg.cell_far _ h.lt (Ne.symm hr)).trans h.at_, (hg.cell_far _ h.lt (Ne.symm hr)).trans h.start, fun i => (hg.frozen_far _ h.lt (Ne.symm hr)).trans (h.free i), Nat.lt_of_lt_of_le h.lt hg.size⟩

theorem Rdr.setAt {W : World} {B : Nat} {v : Value} {p s : Nat} (h : Rdr W B v p s) (q : Nat) : Rdr (W.setCell ⟨B, 1, none⟩ (.int .i64 (q : Nat))) B v q s :=
  ⟨(World.cell?_setCell_other _ _ _ _ (by simp)).trans h.bytes, World.cell?_setCell_same _ _ _ h.at_, (World.cell?_setCell_other _ _ _ _ (by simp)).trans h.start, fun i => by rw [World.frozen?_setCell]; exact h.free i, by simpa using h.lt⟩

theorem Rdr.setStart {W : World} {B : Nat} {v : Value} {p s : Nat} (h : Rdr W B v p s) (q : Nat) : Rdr (W.setCell ⟨B, 2, none⟩ (.int .i64 (q : Nat))) B v p q :=
  ⟨(World.cell?_setCell_other _ _ _ _ (by simp)).trans h.bytes, (World.cell?_setCell_other _ _ _ _ (by simp)).trans h.at_, World.cell?_setCell_same _ _ _ h.start, fun i => by rw [World.frozen?_setCell]; exact h.free i, by simpa using h.lt⟩

theorem grownBy_trans {a b c : World} {r : Option Nat} (h : a.grownBy b r) (k : b.grownBy c r) : a.grownBy c r :=
  ⟨k.os.trans h.os, k.tape.trans h.tape, k.output.trans h.output, Nat.le_trans h.size k.size, fun i hi hne => (k.block i (Nat.lt_of_lt_of_le hi h.size) hne).trans (h.block i hi hne)⟩

theorem grownBy_below {a b : World} {r : Option Nat} (h : Below a.heap.size a b) : a.grownBy b r := ⟨h.os, h.tape, h.output, h.size, fun k hk _ => h.block k hk⟩

theorem grownBy_set (w : World) (B i : Nat) (v : Value) : w.grownBy (w.setCell ⟨B, i, none⟩ v) (some B) :=
  ⟨rfl, rfl, rfl, by simp [World.setCell], fun k _ hne => Below.heap_setCell w ⟨B, i, none⟩ v k (fun e => hne (by simp [e]))⟩

theorem giveUp_any (B : Nat) (v : Value) (p s : Nat) (e : Int) (w : World) (R : Ending → World → Prop) (hr : Rdr w B v p s)
   (hR : R (.panicked [{ v := .iface 95 (.agg #[.int .i64 e, .int .i64 (s : Nat)]), recovered := false }]) w) :
    Calls Tryz.prog 93 #[.pointer (some ⟨B, 0, none⟩), .int .i64 e] w R := by
  have HR : Hid (R (.panicked [{ v := .iface 95 (.agg #[.int .i64 e, .int .i64 (s : Nat)]), recovered := false }]) w) := hR
  have h2 := hr.start
  clear hR hr
  go_enter Tryz.func93, Tryz.ntmps93
  go_wp2_with fail
  exact ⟨rfl, HR.out⟩

theorem NewReader_any (a : Option Addr) (N c : Nat) (w : World) (R : Ending → World → Prop)
   (hR : ∀ w', Rdr w' w.heap.size (.slice a N c) 0 0 → Below w.heap.size w w' → R (.returned (.pointer (some ⟨w.heap.size, 0, none⟩))) w') :
    Calls Tryz.prog 48 #[.slice a N c] w R := by
  have HR : Hid (∀ w', Rdr w' w.heap.size (.slice a N c) 0 0 → Below w.heap.size w w' → R (.returned (.pointer (some ⟨w.heap.size, 0, none⟩))) w') := hR
  clear hR
  go_enter Tryz.func48, Tryz.ntmps48
  go_wp2_with fail
  have hb := heap_alloc_new w (.cells #[.slice a N c, .int .i64 0, .int .i64 0] 139)
  refine HR.out _ ⟨?_, ?_, ?_, ?_, by simp⟩ ((Below.refl _ _).alloc (Nat.le_refl _) _)
  · rw [cell_of_row _ _ 0 _ _ (0, 0) hb]; rfl
  · rw [cell_of_row _ _ 1 _ _ (0, 0) hb]; rfl
  · rw [cell_of_row _ _ 2 _ _ (0, 0) hb]; rfl
  · intro i
    simp only [World.frozen?, hb]
    simp

theorem More_any (B : Nat) (a : Option Addr) (N c p s : Nat) (w : World) (R : Ending → World → Prop) (hr : Rdr w B (.slice a N c) p s)
   (hR : ∀ w', Below w.heap.size w w' → R (.returned (.bool (decide (p < N)))) w') :
    Calls Tryz.prog 49 #[.pointer (some ⟨B, 0, none⟩)] w R := by
  have HR : Hid (∀ w', Below w.heap.size w w' → R (.returned (.bool (decide (p < N)))) w') := hR
  have h0 := hr.bytes
  have h1 := hr.at_
  clear hR hr
  go_enter Tryz.func49, Tryz.ntmps49
  go_wp2_with fail
  go_quiet (fail)
  go_wp2_with fail
  exact HR.out _ (below_drewN (Below.refl _ _) _)

theorem or256 (t x : Int) (h0 : 0 ≤ t) (h1 : t < 72057594037927936) (h2 : 0 ≤ x) (h3 : x ≤ 255) : bits .or .u64 (t * 256) x = t * 256 + x := by
  obtain ⟨T, rfl⟩ := Int.eq_ofNat_of_zero_le h0
  obtain ⟨x, rfl⟩ := Int.eq_ofNat_of_zero_le h2
  have e : ((T : Int) * 256) = ((T * 256 : Nat) : Int) := by omega
  rw [e, u64_or_nat _ _ (by omega) (by omega)]
  have := Nat.shiftLeft_add_eq_or_of_lt (i := 8) (b := x) (by omega) T
  rw [Nat.shiftLeft_eq] at this
  rw [show T * 256 = T * 2 ^ 8 from rfl, ← this]
  omega

set_option maxHeartbeats 1000000 in
set_option maxRecDepth 8000 in
theorem take_any (B : Nat) (a : Option Addr) (N c p s : Nat) (X : Nat → Int) (n : Nat) (w : World) (R : Ending → World → Prop) (hr : Rdr w B (.slice a N c) p s) (hN : N ≤ 1048576) (hcap : N ≤ c) (hn1 : 1 ≤ n) (hn : n ≤ 8) (hp : p ≤ N)
   (hx : BsAt w a N X) (hb : ∀ i, i < N → 0 ≤ X i ∧ X i ≤ 255) (_hBx : ∀ b o, a = some ⟨b, o, none⟩ → b ≠ B)
   (hR1 : N < p + n → ∀ w', Below w.heap.size w w' → R (.panicked [{ v := .iface 95 (.agg #[.int .i64 2, .int .i64 (s : Nat)]), recovered := false }]) w')
   (hR2 : p + n ≤ N → ∀ w', Rdr w' B (.slice a N c) (p + n) s → w.grownBy w' (some B) → R (.returned (.int .u64 (nb X p n))) w') :
    Calls Tryz.prog 86 #[.pointer (some ⟨B, 0, none⟩), .int .i64 (n : Nat)] w R := by
  have h0 := hr.bytes
  have h1 := hr.at_
  have HRd : Hid (Rdr w B (.slice a N c) p s) := hr
  have HX : Hid (BsAt w a N X) := hx
  have HB : Hid (∀ i, i < N → 0 ≤ X i ∧ X i ≤ 255) := hb
  clear hr hx hb
  by_cases hlong : N < p + n
  · have HR1 : Hid (∀ w', Below w.heap.size w w' → R (.panicked [{ v := .iface 95 (.agg #[.int .i64 2, .int .i64 (s : Nat)]), recovered := false }]) w') := hR1 hlong
    clear hR1 hR2
    have hd : decide ((N : Int) - p < n) = true := by simp; omega
    go_enter Tryz.func86, Tryz.ntmps86
    go_wp2_with fail
    go_quiet (fail)
    go_wp2_with fail
    refine giveUp_any B _ p s _ _ _ (HRd.out.ext (below_drewN (Below.refl _ _) _)) ?_
    exact ⟨rfl, HR1.out _ (below_drewN (Below.refl _ _) _)⟩
  · have HR2 : Hid (∀ w', Rdr w' B (.slice a N c) (p + n) s → w.grownBy w' (some B) → R (.returned (.int .u64 (nb X p n))) w') := hR2 (by omega)
    clear hR1 hR2
    have hd : decide ((N : Int) - p < n) = false := by simp; omega
    obtain ⟨b, o, rfl, _⟩ := HX.out p (by omega)
    have hcp : p < c := by omega
    go_enter Tryz.func86, Tryz.ntmps86
    go_wp2_with fail
    go_quiet (fail)
    go_wp2_with fail
    go_quiet (fail)
    go_wp2_with fail
    clear h0 h1 hd
    go_loop [5, 7, 38] (fun t _ i => ∃ y : Nat, y ≤ n ∧ i = .int .i64 (y : Nat) ∧ t = .int .u64 (nb X p y)) (fun _ _ i => n - (intOf i).toNat)
    case atStart => exact ⟨0, Nat.zero_le _, rfl, rfl⟩
    case round =>
      obtain ⟨y, hy, rfl, rfl⟩ := hrel
      by_cases hyn : y < n
      · obtain ⟨b', o', hbo, hcy⟩ := HX.out (p + y) (by omega)
        simp only [Option.some.injEq, Addr.mk.injEq] at hbo
        obtain ⟨rfl, rfl, _⟩ := hbo
        rw [← Nat.add_assoc] at hcy
        obtain ⟨hxb0, hxb1⟩ := HB.out (p + y) (by omega)
        have hnb := nb_bound X p y fun q hq => HB.out _ (by omega)
        have hpw : (256 : Int) ^ y ≤ 72057594037927936 := by
          have : y = 0 ∨ y = 1 ∨ y = 2 ∨ y = 3 ∨ y = 4 ∨ y = 5 ∨ y = 6 ∨ y = 7 := by omega
          rcases this with rfl | rfl | rfl | rfl | rfl | rfl | rfl | rfl <;> decide
        have hs0 := hnb.1
        have hs1 : nb X p y < 72057594037927936 := by omega
        have HS : Hid (nb X p (y + 1) = nb X p y * 256 + X (p + y)) := rfl
        generalize nb X p y = t at *
        generalize X (p + y) = x at *
        clear hnb hpw
        go_wp2_with fail
        have hor := or256 t x hs0 hs1 hxb0 hxb1
        exact ⟨⟨_, _, _, ⟨y + 1, by omega, rfl, rfl⟩, by rw [hor, HS.out], rfl, by go_num⟩, by simp only [intOf]; omega⟩
      · have hy' : y = n := by omega
        subst hy'
        have h1 := HRd.out.at_
        have hf1 := HRd.out.free 1
        go_wp2_with fail
        have hb0 : ∀ n, Below w.heap.size w (w.drewN n) := fun n => below_drewN (Below.refl _ _) n
        exact HR2.out _ ((HRd.out.ext (hb0 _)).setAt (p + y)) (grownBy_trans (grownBy_below (hb0 _)) (grownBy_set _ _ _ _))
#print axioms take_any

theorem take_of (B : Nat) (a : Option Addr) (N c p s : Nat) (X : Nat → Int) (M : Int) (n : Nat) (hM : M = (n : Nat)) (w : World) (R : Ending → World → Prop) (hr : Rdr w B (.slice a N c) p s) (hN : N ≤ 1048576) (hcap : N ≤ c) (hn1 : 1 ≤ n) (hn : n ≤ 8) (hp : p ≤ N)
   (hx : BsAt w a N X) (hb : ∀ i, i < N → 0 ≤ X i ∧ X i ≤ 255) (hBx : ∀ b o, a = some ⟨b, o, none⟩ → b ≠ B)
   (hR1 : N < p + n → ∀ w', Below w.heap.size w w' → R (.panicked [{ v := .iface 95 (.agg #[.int .i64 2, .int .i64 (s : Nat)]), recovered := false }]) w')
   (hR2 : p + n ≤ N → ∀ w', Rdr w' B (.slice a N c) (p + n) s → w.grownBy w' (some B) → R (.returned (.int .u64 (nb X p n))) w') :
    Calls Tryz.prog 86 #[.pointer (some ⟨B, 0, none⟩), .int .i64 M] w R := by
  subst hM
  exact take_any B a N c p s X n w R hr hN hcap hn1 hn hp hx hb hBx hR1 hR2

theorem BsAt.grown {w w' : World} {a : Option Addr} {n : Nat} {X : Nat → Int} {B : Nat} (h : BsAt w a n X) (hg : w.grownBy w' (some B)) (hBx : ∀ b o, a = some ⟨b, o, none⟩ → b ≠ B) : BsAt w' a n X := by
  intro i hi
  obtain ⟨b, o, h1, h2⟩ := h i hi
  exact ⟨b, o, h1, (hg.cell_far _ (lt_of_cell h2) (by simpa using hBx b o h1)).trans h2⟩

theorem LayAt.grown {w0 w w' : World} {B : Nat} (_h : LayAt w) (hg : w.grownBy w' (some B)) (h0 : LayAt w0) (hb : Below w0.heap.size w0 w) (hB : w0.heap.size ≤ B) : LayAt w' := by
  refine h0.below (B := w0.heap.size) ⟨hg.os.trans hb.os, hg.tape.trans hb.tape, hg.output.trans hb.output, Nat.le_trans hb.size hg.size, fun k hk => ?_⟩ (Nat.le_refl _)
  rw [hg.block k (Nat.lt_of_lt_of_le hk hb.size) (by simp; omega), hb.block k hk]
end Go.Proofs.YtmiiejinahnpkaaGreatDoor
