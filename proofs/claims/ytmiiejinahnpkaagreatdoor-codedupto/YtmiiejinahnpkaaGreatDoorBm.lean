/- What the deferred function of Decode does, and what Decode (of the program) answers. -/
import Derived.Test.YtmiiejinahnpkaaGreatDoorBl
import Derived.Recover
import Derived.Defers
import Derived.Deep.RegionHeld3
import Derived.Deep.RegionLaw
namespace Go.Proofs.YtmiiejinahnpkaaGreatDoor
open Go.RowKit
attribute [local go_sem ↓] Go.wp_at_zero Go.wp_at_succ

theorem catch_idle (p0 p1 p2 : Value) (w : World) :
    CallsD Tryz.prog 47 #[p0, p1, p2] .returning w fun e u' w' => e = .returned (.tuple #[]) ∧ u' = .returning ∧ w' = w := by
  refine callsD_of_wpS Tryz.func47 rfl fun c₀ cs hu => ?_
  apply wpS_seq
  apply wpS_region
  simp [wpOpsS, go_sem, recoverD, hu, Tryz.ntmps47, Exit.thenS]
  apply wpS_seq
  apply wpS_region
  simp [wpOpsS, go_sem, Exit.thenS]
  refine wpS_cond (t := false) (by simp [Act.eval, Array.replicate]) ?_
  simp only [Bool.false_eq_true, if_false]
  refine wpS_of_wp (wp_skip ?_)
  cases c₀
  simp_all [bodyPostS, results, Tryz.results47]

theorem assert_fault (e s : Int) (w : World) : (Instr.typeAssert (.iface 95 (.agg #[.int .i64 e, .int .i64 s])) 20 95 false).run Tryz.prog w = .ok (.agg #[.int .i64 e, .int .i64 s]) w := by kernel_rfl

theorem catch_panicking (H E0 E1 E2 : Nat) (e s : Int) (x0 x1 x2 : Value) (w : World) (h0 : H ≤ E0) (h1 : H ≤ E1) (h2 : H ≤ E2) (h01 : E0 ≠ E1) (h02 : E0 ≠ E2) (h12 : E1 ≠ E2)
    (c0 : w.cell? ⟨E0, 0, none⟩ = some x0) (c1 : w.cell? ⟨E1, 0, none⟩ = some x1) (c2 : w.cell? ⟨E2, 0, none⟩ = some x2)
    (f0 : w.frozen? ⟨E0, 0, none⟩ = false) (f1 : w.frozen? ⟨E1, 0, none⟩ = false) (f2 : w.frozen? ⟨E2, 0, none⟩ = false) :
    CallsD Tryz.prog 47 #[.pointer (some ⟨E0, 0, none⟩), .pointer (some ⟨E1, 0, none⟩), .pointer (some ⟨E2, 0, none⟩)] (.panicking [{ v := .iface 95 (.agg #[.int .i64 e, .int .i64 s]), recovered := false }]) w fun en u' w' =>
      en = .returned (.tuple #[]) ∧ u' = .panicking [{ v := .iface 95 (.agg #[.int .i64 e, .int .i64 s]), recovered := true }] ∧
      (w'.cell? ⟨E0, 0, none⟩ = some (.slice none 0 0) ∧ w'.cell? ⟨E1, 0, none⟩ = some (.int .i64 e) ∧ w'.cell? ⟨E2, 0, none⟩ = some (.int .i64 s) ∧ Below H w w') := by
  refine callsD_of_wpS Tryz.func47 rfl fun c₀ cs hu => ?_
  apply wpS_seq
  apply wpS_region
  simp [wpOpsS, go_sem, recoverD, hu, Tryz.ntmps47, Exit.thenS]
  refine wpS_of_wp ?_
  simp only [Array.replicate]
  refine wp_mono (Q := fun ex a' w' => ex = .normal ∧ a'.defers = [] ∧ (w'.cell? ⟨E0, 0, none⟩ = some (.slice none 0 0) ∧ w'.cell? ⟨E1, 0, none⟩ = some (.int .i64 e) ∧ w'.cell? ⟨E2, 0, none⟩ = some (.int .i64 s) ∧ Below H w w')) ?_ ?_
  · clear hu
    simp
    have hta := assert_fault e s
    have l0 := lt_of_cell c0
    have l1 := lt_of_cell c1
    have l2 := lt_of_cell c2
    have hh : H ≤ w.heap.size := by omega
    set_option maxRecDepth 4000 in
    go_wp2_with fail
    go_region
    obtain ⟨Y, hY⟩ : ∃ Y, Y = ((w.setCell ⟨E0, 0, none⟩ (.slice none 0 0)).setCell ⟨E1, 0, none⟩ (.int .i64 e)).setCell ⟨E2, 0, none⟩ (.int .i64 s) := ⟨_, rfl⟩
    have hsz : Y.heap.size = w.heap.size := by rw [hY]; simp [World.setCell]
    have hb : Below Y.heap.size Y ((Y.alloc (.cells #[.int .i64 e, .int .i64 s] 95)).drew) := ((Below.refl _ _).alloc (Nat.le_refl _) _).drew
    have y0 : Y.cell? ⟨E0, 0, none⟩ = some (.slice none 0 0) := by
      rw [hY, World.cell?_setCell_other _ _ _ _ (by simp <;> omega), World.cell?_setCell_other _ _ _ _ (by simp <;> omega)]
      exact World.cell?_setCell_same _ _ _ c0
    have y1 : Y.cell? ⟨E1, 0, none⟩ = some (.int .i64 e) := by
      rw [hY, World.cell?_setCell_other _ _ _ _ (by simp <;> omega)]
      exact World.cell?_setCell_same _ _ _ (by rw [World.cell?_setCell_other _ _ _ _ (by simp <;> omega)]; exact c1)
    have y2 : Y.cell? ⟨E2, 0, none⟩ = some (.int .i64 s) := by
      rw [hY]
      exact World.cell?_setCell_same _ _ _ (by rw [World.cell?_setCell_other _ _ _ _ (by simp <;> omega), World.cell?_setCell_other _ _ _ _ (by simp <;> omega)]; exact c2)
    have hBY : Below H w Y := by
      rw [hY]
      exact (((Below.refl H w).setCell (p := ⟨E0, 0, none⟩) h0 _).setCell (p := ⟨E1, 0, none⟩) h1 _).setCell (p := ⟨E2, 0, none⟩) h2 _
    rw [← hY]
    exact ⟨rfl, rfl, (hb.cell (by show E0 < Y.heap.size; omega)).trans y0, (hb.cell (by show E1 < Y.heap.size; omega)).trans y1, (hb.cell (by show E2 < Y.heap.size; omega)).trans y2, hBY.trans (hb.mono (by omega))⟩
  · intro ex a' w' hh
    obtain ⟨rfl, hd, hp⟩ := hh
    cases c₀
    simp_all [bodyPostS, results, Tryz.results47]

/-- a variable of one cell -/
structure Var (W : World) (E : Nat) (v : Value) : Prop where
  cell : W.cell? ⟨E, 0, none⟩ = some v
  free : W.frozen? ⟨E, 0, none⟩ = false
  lt : E < W.heap.size

theorem Var.ext {W w1 : World} {E : Nat} {v : Value} (h : Var W E v) (hb : Below W.heap.size W w1) : Var w1 E v :=
  ⟨(hb.cell h.lt).trans h.cell, (hb.frozen h.lt).trans h.free, Nat.lt_of_lt_of_le h.lt hb.size⟩

theorem Var.grown {W w1 : World} {E : Nat} {v : Value} {r : Option Nat} (h : Var W E v) (hg : W.grownBy w1 r) (hr : r ≠ some E) : Var w1 E v :=
  ⟨(hg.cell_far _ h.lt (Ne.symm hr)).trans h.cell, (hg.frozen_far _ h.lt (Ne.symm hr)).trans h.free, Nat.lt_of_lt_of_le h.lt hg.size⟩

theorem Var.set {W : World} {E : Nat} {v : Value} (h : Var W E v) (x : Value) : Var (W.setCell ⟨E, 0, none⟩ x) E x :=
  ⟨World.cell?_setCell_same _ _ _ h.cell, by rw [World.frozen?_setCell]; exact h.free, by simpa using h.lt⟩

theorem Var.new (w : World) (v : Value) (t : TypeId) : Var (w.alloc (.cells #[v] t)) w.heap.size v := by
  have hb := heap_alloc_new w (.cells #[v] t)
  refine ⟨by rw [cell_of_row _ _ 0 _ _ (0, 0) hb]; rfl, ?_, by simp⟩
  simp only [World.frozen?, hb]
  simp

theorem Var.alloc {W : World} {E : Nat} {v : Value} (h : Var W E v) (o : Obj) : Var (W.alloc o) E v := h.ext ((Below.refl _ _).alloc (Nat.le_refl _) _)

theorem own_form {w : World} {B : Nat} {e : TypeId} {size : Nat} {v : Value} {n : Nat} {xs : List Value} (h : w.ownsRow B e size v n xs) : ∃ ao cap, v = .slice ao n cap := by
  rcases h.2 with ⟨h1, h2⟩ | ⟨g, cap, _, h1, _⟩
  · exact ⟨none, 0, by rw [h1, h2]⟩
  · exact ⟨_, cap, h1⟩

theorem own_base {w : World} {B B' : Nat} {e : TypeId} {size : Nat} {v : Value} {n : Nat} {xs : List Value} (h : w.ownsRow B e size v n xs) (hB : B' ≤ B) : w.ownsRow B' e size v n xs := by
  refine ⟨h.1, ?_⟩
  rcases h.2 with h2 | ⟨g, cap, cur, h1, h2, h3⟩
  · exact .inl h2
  · exact .inr ⟨g, cap, cur, h1, Nat.le_trans hB h2, h3⟩

theorem Var.set_other {W : World} {E D : Nat} {v x : Value} (h : Var W E v) (hD : D ≠ E) : Var (W.setCell ⟨D, 0, none⟩ x) E v :=
  h.grown (grownBy_set W D 0 x) (by simpa using hD)

/-- the number in a reader's second cell: for a loop's measure -/
def atOf (W : World) (B : Nat) : Nat := match W.cell? ⟨B, 1, none⟩ with | some (.int _ n) => n.toNat | _ => 0

theorem Rdr.atOf_eq {W : World} {B : Nat} {v : Value} {p s : Nat} (h : Rdr W B v p s) : atOf W B = p := by
  unfold atOf
  rw [h.at_]
  simp

theorem wp_normal {P : Program} {c : Code} {Q : Exit → Act → World → Prop} {a : Act} {w : World} (h : c.wp P (Exit.then (Q .normal) fun _ _ _ => False) a w) : c.wp P Q a w :=
  wp_mono h (by intro e a w h; cases e <;> first | exact h | exact h.elim)

/-- 'b = append(b, x)' at a step of a region that draws its order -/
theorem step_push {P : Program} {ops : Array Oper} {o : Oper} {a : Act} {K : Act → World → Prop} {Q : Exit → Act → World → Prop} {E : Prop} {W : World} {arr : Array Value} {e : TypeId}
    (B size bytes n : Nat) (v : Value) (xs : List Value) (z : Value) (hown : W.ownsRow B e size v n xs) (hB : B ≤ W.heap.size)
    (hinfo : (P.info? e).map (fun i => (i.zero, i.size, i.bytes)) = some (some z, size, bytes)) (hzs : z.cells.size = size) (hsz : 0 < size) (harr : arr.size = size)
    (h1 : ∀ u ∈ arr.toList, u.oneCell' = true) (hn : n + 1 ≤ 1073741824) (hby : bytes ≤ 256)
    (s y : Operand) (t : TypeId) (ht : P.underlying t = some (.slice e)) (hgd : o.guard = none) (ho : o.op = .call { callee := .builtin .append, args := #[s, y], argTypes := #[t, t] })
    (hs : a.eval s = v) (hy : a.eval y = .slice (some ⟨W.heap.size, 0, none⟩) 1 1)
    (h : ∀ v' w', Grew B e size W v w' v' (n + 1) (xs ++ arr.toList) → K (a.put o.dst v') w') :
    if Region.wanted o (yielded ops a.tmps) = true then Oper.wp P o a (W.alloc (.cells arr e)) K Q else E := by
  obtain ⟨i0, hi, hz0, hz1, hz2⟩ := info_parts hinfo
  refine step_append_lies _ hgd s y t ho B e i0 z size bytes ht hi hz0 hz1 hz2 hzs hsz v n xs hs (hown.alloc _) ⟨W.heap.size, 0, none⟩ 1 1 arr.toList hy (by simp [harr])
    (World.news_of_block (heap_alloc_new W _)) h1 (by decide) (by unfold maxLen; omega) ?_ (by simp; omega) (W.heap.size + 1) (by simp) ?_
  · exact Nat.le_trans (Nat.mul_le_mul hn hby) (by decide)
  · intro g cap w1 hown1 hgrow hat _
    exact h _ _ (Grew.of_lies _ hown1 hgrow hat)

set_option maxHeartbeats 4000000 in
set_option maxRecDepth 8000 in
theorem Decode_any (a : Option Addr) (N c : Nat) (X : Nat → Int) (w : World) (R : Ending → World → Prop) (hL : LayAt w) (hN : N ≤ 1048576) (hcap : N ≤ c) (hx : BsAt w a N X) (hb : ∀ i, i < N → 0 ≤ X i ∧ X i ≤ 255)
   (hR1 : ∀ i w', (∀ q, q < i → good X N q) → pos X i < N → isK (X (pos X i)) = false → Below w.heap.size w w' → R (.returned (.tuple #[.slice none 0 0, .int .i64 3, .int .i64 (pos X i)])) w')
   (hR2 : ∀ i w', (∀ q, q < i → good X N q) → pos X i < N → isK (X (pos X i)) = true → N < pos X i + elen (X (pos X i)) → Below w.heap.size w w' → R (.returned (.tuple #[.slice none 0 0, .int .i64 2, .int .i64 (pos X i)])) w')
   (hR3 : ∀ i v w', (∀ q, q < i → good X N q) → pos X i = N → Below w.heap.size w w' → w'.ownsRow w.heap.size 42 10 v i (dcells X i) → R (.returned (.tuple #[v, .int .i64 0, .int .i64 0])) w') :
    Calls Tryz.prog 19 #[.slice a N c] w R := by
  have HR1 : Hid (∀ i w', (∀ q, q < i → good X N q) → pos X i < N → isK (X (pos X i)) = false → Below w.heap.size w w' → R (.returned (.tuple #[.slice none 0 0, .int .i64 3, .int .i64 (pos X i)])) w') := hR1
  have HR2 : Hid (∀ i w', (∀ q, q < i → good X N q) → pos X i < N → isK (X (pos X i)) = true → N < pos X i + elen (X (pos X i)) → Below w.heap.size w w' → R (.returned (.tuple #[.slice none 0 0, .int .i64 2, .int .i64 (pos X i)])) w') := hR2
  have HR3 : Hid (∀ i v w', (∀ q, q < i → good X N q) → pos X i = N → Below w.heap.size w w' → w'.ownsRow w.heap.size 42 10 v i (dcells X i) → R (.returned (.tuple #[v, .int .i64 0, .int .i64 0])) w') := hR3
  have HX : Hid (BsAt w a N X) := hx
  have HB : Hid (∀ i, i < N → 0 ≤ X i ∧ X i ≤ 255) := hb
  have HL : Hid (LayAt w) := hL
  clear hR1 hR2 hR3 hx hb hL
  have hmf : ∀ (fn : Fn) (first cap : Array Value) (w : World), (Instr.makeFunc fn first cap).run Tryz.prog w = .ok (.func fn first cap) w := fun _ _ _ _ => rfl
  go_enter_defers Tryz.func19, Tryz.ntmps19
  go_wp2_with fail
  have v0 : Var (((w.alloc (.cells #[.slice none 0 0] 32)).alloc (.cells #[.int .i64 0] 37)).alloc (.cells #[.int .i64 0] 3)) w.heap.size (.slice none 0 0) := ((Var.new w _ _).alloc _).alloc _
  have v1 : Var (((w.alloc (.cells #[.slice none 0 0] 32)).alloc (.cells #[.int .i64 0] 37)).alloc (.cells #[.int .i64 0] 3)) (w.heap.size + 1) (.int .i64 0) := by have := (Var.new (w.alloc (.cells #[.slice none 0 0] 32)) (.int .i64 0) 37).alloc (.cells #[.int .i64 0] 3); simpa using this
  have v2 : Var (((w.alloc (.cells #[.slice none 0 0] 32)).alloc (.cells #[.int .i64 0] 37)).alloc (.cells #[.int .i64 0] 3)) (w.heap.size + 1 + 1) (.int .i64 0) := by have := Var.new ((w.alloc (.cells #[.slice none 0 0] 32)).alloc (.cells #[.int .i64 0] 37)) (.int .i64 0) 3; simpa using this
  have hB0 : Below w.heap.size w (((w.alloc (.cells #[.slice none 0 0] 32)).alloc (.cells #[.int .i64 0] 37)).alloc (.cells #[.int .i64 0] 3)) := (((Below.refl _ _).alloc (Nat.le_refl _) _).alloc (by simp) _).alloc (by simp; omega) _
  have hS3 : (((w.alloc (.cells #[.slice none 0 0] 32)).alloc (.cells #[.int .i64 0] 37)).alloc (.cells #[.int .i64 0] 3)).heap.size = w.heap.size + 3 := by simp
  generalize ((w.alloc (.cells #[.slice none 0 0] 32)).alloc (.cells #[.int .i64 0] 37)).alloc (.cells #[.int .i64 0] 3) = W3 at *
  obtain ⟨H, hH⟩ : ∃ H, H = w.heap.size := ⟨_, rfl⟩
  have HH : Hid (H = w.heap.size) := hH
  rw [← hH] at v0 v1 v2 hS3 ⊢
  refine NewReader_any a N c _ _ ?_
  intro w4 hr4 hb4
  have v0' := v0.ext hb4
  have v1' := v1.ext hb4
  have v2' := v2.ext hb4
  have hB4 : Below w.heap.size w w4 := hB0.trans (hb4.mono hB0.size)
  rw [hS3] at hr4 ⊢
  have V0 : Hid (Var w4 H (.slice none 0 0)) := v0'
  have V1 : Hid (Var w4 (H + 1) (.int .i64 0)) := v1'
  have V2 : Hid (Var w4 (H + 1 + 1) (.int .i64 0)) := v2'
  have HB4 : Hid (Below w.heap.size w w4) := hB4
  have HR4 : Hid (Rdr w4 (H + 3) (.slice a N c) 0 0) := hr4
  clear v0 v1 v2 v0' v1' v2' hB0 hb4 hB4 hr4 hS3 hH
  go_wp2_with fail
  go_loopw [10] (fun _ wr => ∃ (k s : Nat) (v : Value), (∀ q, q < k → good X N q) ∧ Rdr wr (H + 3) (.slice a N c) (pos X k) s ∧ Var wr H v ∧ Var wr (H + 1) (.int .i64 0) ∧ Var wr (H + 1 + 1) (.int .i64 0) ∧ wr.ownsRow (H + 4) 42 10 v k (dcells X k) ∧ Below w.heap.size w wr) (fun _ wr => N - atOf wr (H + 3))
  case atStart => exact ⟨0, 0, _, fun q hq => absurd hq (by omega), HR4.out, V0.out, V1.out, V2.out, World.ownsRow_nil _ _ _ _, HB4.out⟩
  case round =>
    obtain ⟨k, s, v, hgd, hR, hv0, hv1, hv2, hown, hBr⟩ := hrel
    obtain ⟨ao, cap, rfl⟩ := own_form hown
    have hpN := pos_le X N k hgd
    have hpk := pos_ge X N k hgd
    have HRr : Hid (Rdr wr (H + 3) (.slice a N c) (pos X k) s) := hR
    have HV0 : Hid (Var wr H (.slice ao k cap)) := hv0
    have HV1 : Hid (Var wr (H + 1) (.int .i64 0)) := hv1
    have HV2 : Hid (Var wr (H + 1 + 1) (.int .i64 0)) := hv2
    have HO : Hid (wr.ownsRow (H + 4) 42 10 (.slice ao k cap) k (dcells X k)) := hown
    have HBr : Hid (Below w.heap.size w wr) := hBr
    have HGD : Hid (∀ q, q < k → good X N q) := hgd
    clear hgd hR hv0 hv1 hv2 hown hBr
    obtain ⟨p, hp⟩ : ∃ p, p = pos X k := ⟨_, rfl⟩
    have HP : Hid (p = pos X k) := hp
    have HRp : Hid (Rdr wr (H + 3) (.slice a N c) p s) := by rw [hp]; exact HRr.out
    rw [← hp] at hpN hpk
    clear hp HRr
    go_wp2_with fail
    refine More_any (H + 3) a N c p s _ _ HRp.out ?_
    intro w5 hb5
    have hv0 := HV0.out.ext hb5
    have hR5 := HRp.out.ext hb5
    have V05 : Hid (Var w5 H (.slice ao k cap)) := hv0
    have V15 : Hid (Var w5 (H + 1) (.int .i64 0)) := HV1.out.ext hb5
    have V25 : Hid (Var w5 (H + 1 + 1) (.int .i64 0)) := HV2.out.ext hb5
    have HR5 : Hid (Rdr w5 (H + 3) (.slice a N c) p s) := hR5
    have HO5 : Hid (w5.ownsRow (H + 4) 42 10 (.slice ao k cap) k (dcells X k)) := HO.out.kept (row := none) (grownBy_below hb5) (by cases hv : Value.ownBlock (.slice ao k cap) <;> simp)
    have HB5 : Hid (Below w.heap.size w w5) := HBr.out.trans (hb5.mono HBr.out.size)
    have hH3 : H + 3 < w5.heap.size := hR5.lt
    have hMs : Hid (atOf wr (H + 3) = p) := HRp.out.atOf_eq
    clear hb5 hR5 HV0 HV1 HV2 HRp HO HBr
    by_cases hpn : p < N
    · have hd : decide (p < N) = true := by simpa using hpn
      rw [hd]
      have c0 := hv0.cell
      have hH := HH.out
      have hBx : ∀ b o, a = some ⟨b, o, none⟩ → b ≠ H + 3 := by
        intro b o hab
        obtain ⟨b', o', h1, h2⟩ := HX.out p hpn
        rw [hab] at h1
        simp only [Option.some.injEq, Addr.mk.injEq] at h1
        have := lt_of_cell h2
        omega
      have HBx : Hid (∀ b o, a = some ⟨b, o, none⟩ → b ≠ H + 3) := hBx
      have HX5 : Hid (BsAt w5 a N X) := HX.out.below HB5.out (Nat.le_refl _)
      clear hd hv0 hBx
      by_cases hbad : isK (X p) = true ∧ p + elen (X p) ≤ N
      case neg =>
        have HPAN : Hid (∀ e : Int, ((isK (X p) = false ∧ e = 3) ∨ (isK (X p) = true ∧ N < p + elen (X p) ∧ e = 2)) → ∀ w6, w5.drew.grownBy w6 (some (H + 3)) → ∀ tmps : Array Value, tmps[2]?.getD undef = .pointer (some ⟨H, 0, none⟩) → tmps[3]?.getD undef = .pointer (some ⟨H + 1, 0, none⟩) → tmps[4]?.getD undef = .pointer (some ⟨H + 1 + 1, 0, none⟩) →
            Leaves Tryz.prog Tryz.f19 tmps R [{ target := .fn (.func 47) #[.pointer (some ⟨H, 0, none⟩), .pointer (some ⟨H + 1, 0, none⟩), .pointer (some ⟨H + 1 + 1, 0, none⟩)], args := #[] }] (.panicking [{ v := .iface 95 (.agg #[.int .i64 e, .int .i64 (p : Nat)]), recovered := false }]) w6) := by
          intro e he w6 hg6 tmps ht2 ht3 ht4
          refine leaves_cons (f := 47) (args := #[.pointer (some ⟨H, 0, none⟩), .pointer (some ⟨H + 1, 0, none⟩), .pointer (some ⟨H + 1 + 1, 0, none⟩)]) (by simp) (by simp [go_sem]) ?_
          have hg : w5.grownBy w6 (some (H + 3)) := ⟨hg6.os, hg6.tape, hg6.output, hg6.size, hg6.block⟩
          have x0 := V05.out.grown hg (by simp)
          have x1 := V15.out.grown hg (by simp)
          have x2 := V25.out.grown hg (by simp)
          refine (catch_panicking w.heap.size H (H + 1) (H + 1 + 1) e p _ _ _ w6 (by omega) (by omega) (by omega) (by omega) (by omega) (by omega) x0.cell x1.cell x2.cell x0.free x1.free x2.free).mono ?_
          rintro en u' w7 ⟨rfl, rfl, y0, y1, y2, hb7⟩
          have hBw : Below w.heap.size w w7 := (below_grown HB5.out hg (by omega)).trans (hb7.mono (Nat.le_refl _))
          have hfin : R (.returned (.tuple #[.slice none 0 0, .int .i64 e, .int .i64 (p : Nat)])) w7 := by
            rcases he with ⟨h1, rfl⟩ | ⟨h1, h2, rfl⟩
            · have := HR1.out k w7 HGD.out (by rw [← HP.out]; exact hpn) (by rw [← HP.out]; exact h1) hBw
              rw [← HP.out] at this
              exact this
            · have := HR2.out k w7 HGD.out (by rw [← HP.out]; exact hpn) (by rw [← HP.out]; exact h1) (by rw [← HP.out]; exact h2) hBw
              rw [← HP.out] at this
              exact this
          simp [Leaves, settle, results, Tryz.results19, go_sem, y0, y1, y2, ht2, ht3, ht4]
          exact hfin
        clear hH
        go_wp2_with fail
        refine wp_region_any (by kernel_rfl) ?_
        refine wpAny_ready (rs := [0, 1]) (by kernel_rfl) (by simp) ?_
        refine AllReady.cons rfl (fun K1 hK1 => ?_) (AllReady.cons rfl (fun K1 hK1 => ?_) AllReady.nil)
        · go_simp
          refine hK1 _ _ ?_
          clear hK1 K1
          refine wpAny_ready (rs := [1]) (by kernel_rfl) (by simp) ?_
          refine AllReady.cons rfl (fun K1 hK1 => ?_) AllReady.nil
          go_simp
          refine hK1 _ _ ?_
          clear hK1 K1
          refine wpAny_ready (rs := [2]) (by kernel_rfl) (by simp) ?_
          refine AllReady.cons rfl (fun K1 hK1 => ?_) AllReady.nil
          go_simp
          refine Event_any w HL.out (H + 3) a N c p s X _ _ HB5.out.drew (by have := HH.out; omega) (HR5.out.ext ((Below.refl _ _).drew)) hN hcap hpn (HX5.out.below (B := w5.heap.size) ((Below.refl _ _).drew) (Nat.le_refl _)) HB.out HBx.out (fun hk1 w6 hg6 => ?_) (fun hk1 hk2 w6 hg6 => ?_) (fun hk1 hk2 => ?_)
          · exact HPAN.out 3 (.inl ⟨hk1, rfl⟩) w6 hg6 _ rfl rfl rfl
          · exact HPAN.out 2 (.inr ⟨hk1, hk2, rfl⟩) w6 hg6 _ rfl rfl rfl
          · exact absurd ⟨hk1, hk2⟩ hbad
        · go_simp
          refine hK1 _ _ ?_
          clear hK1 K1
          refine wpAny_ready (rs := [0, 2]) (by kernel_rfl) (by simp) ?_
          refine AllReady.cons rfl (fun K1 hK1 => ?_) (AllReady.cons rfl (fun K1 hK1 => ?_) AllReady.nil)
          · go_simp
            refine hK1 _ _ ?_
            clear hK1 K1
            refine wpAny_ready (rs := [2]) (by kernel_rfl) (by simp) ?_
            refine AllReady.cons rfl (fun K1 hK1 => ?_) AllReady.nil
            go_simp
            refine Event_any w HL.out (H + 3) a N c p s X _ _ HB5.out.drew (by have := HH.out; omega) (HR5.out.ext ((Below.refl _ _).drew)) hN hcap hpn (HX5.out.below (B := w5.heap.size) ((Below.refl _ _).drew) (Nat.le_refl _)) HB.out HBx.out (fun hk1 w6 hg6 => ?_) (fun hk1 hk2 w6 hg6 => ?_) (fun hk1 hk2 => ?_)
            · exact HPAN.out 3 (.inl ⟨hk1, rfl⟩) w6 hg6 _ rfl rfl rfl
            · exact HPAN.out 2 (.inr ⟨hk1, hk2, rfl⟩) w6 hg6 _ rfl rfl rfl
            · exact absurd ⟨hk1, hk2⟩ hbad
          · go_simp
            refine Event_any w HL.out (H + 3) a N c p s X _ _ HB5.out.drew (by have := HH.out; omega) (HR5.out.ext ((Below.refl _ _).drew)) hN hcap hpn (HX5.out.below (B := w5.heap.size) ((Below.refl _ _).drew) (Nat.le_refl _)) HB.out HBx.out (fun hk1 w6 hg6 => ?_) (fun hk1 hk2 w6 hg6 => ?_) (fun hk1 hk2 => ?_)
            · exact HPAN.out 3 (.inl ⟨hk1, rfl⟩) w6 hg6 _ rfl rfl rfl
            · exact HPAN.out 2 (.inr ⟨hk1, hk2, rfl⟩) w6 hg6 _ rfl rfl rfl
            · exact absurd ⟨hk1, hk2⟩ hbad
      case pos =>
        obtain ⟨hk, hfit⟩ := hbad
        have HK : Hid (isK (X p) = true) := hk
        have he9 := elen_pos (X p) hk
        have f0 := V05.out.free
        clear hk hH
        go_wp2_with fail
        have hall : ∀ (d : Nat → Int), ∀ u ∈ (#[.int .i64 (d 0), .int .i64 (d 1), .int .i64 (d 2), .int .i64 (d 3), .int .i64 (d 4), .int .i64 (d 5), .int .i64 (d 6), .int .i64 (d 7), .int .i64 (d 8), .int .i64 (d 9)] : Array Value).toList, u.oneCell' = true := by
          intro d u hu
          simp only [List.mem_cons, List.not_mem_nil, or_false] at hu
          rcases hu with rfl | rfl | rfl | rfl | rfl | rfl | rfl | rfl | rfl | rfl <;> rfl
        have HALL : Hid (∀ (d : Nat → Int), ∀ u ∈ (#[.int .i64 (d 0), .int .i64 (d 1), .int .i64 (d 2), .int .i64 (d 3), .int .i64 (d 4), .int .i64 (d 5), .int .i64 (d 6), .int .i64 (d 7), .int .i64 (d 8), .int .i64 (d 9)] : Array Value).toList, u.oneCell' = true) := hall
        clear hall
        have HOB : Hid (Value.ownBlock (.slice ao k cap) ≠ some (H + 3)) := fun h => by have := (HO5.out.lt _ h).1; omega
        have HOB1 : Hid (Value.ownBlock (.slice ao k cap) ≠ some (H + 1)) := fun h => by have := (HO5.out.lt _ h).1; omega
        have HOB2 : Hid (Value.ownBlock (.slice ao k cap) ≠ some (H + 1 + 1)) := fun h => by have := (HO5.out.lt _ h).1; omega
        have HOB0 : Hid (some H ≠ Value.ownBlock (.slice ao k cap)) := fun h => by have := (HO5.out.lt _ h.symm).1; omega
        refine wp_region_any (by kernel_rfl) ?_
        refine wpAny_ready (rs := [0, 1]) (by kernel_rfl) (by simp) ?_
        refine AllReady.cons rfl (fun K1 hK1 => ?_) (AllReady.cons rfl (fun K1 hK1 => ?_) AllReady.nil)
        · go_simp
          refine hK1 _ _ ?_
          clear hK1 K1
          refine wpAny_ready (rs := [1]) (by kernel_rfl) (by simp) ?_
          refine AllReady.cons rfl (fun K1 hK1 => ?_) AllReady.nil
          go_simp
          refine hK1 _ _ ?_
          clear hK1 K1
          refine wpAny_ready (rs := [2]) (by kernel_rfl) (by simp) ?_
          refine AllReady.cons rfl (fun K1 hK1 => ?_) AllReady.nil
          go_simp
          refine Event_any w HL.out (H + 3) a N c p s X _ _ HB5.out.drew (by have := HH.out; omega) (HR5.out.ext ((Below.refl _ _).drew)) hN hcap hpn (HX5.out.below (B := w5.heap.size) ((Below.refl _ _).drew) (Nat.le_refl _)) HB.out HBx.out (fun hk1 => absurd (hk1.symm.trans HK.out) (by simp)) (fun _ hk2 => absurd hk2 (by omega)) (fun _ _ w6 hr6 hg6 => ?_)
          have hg6' : w5.grownBy w6 (some (H + 3)) := ⟨hg6.os, hg6.tape, hg6.output, hg6.size, hg6.block⟩
          have hcv : w6.cell? ⟨H, 0, none⟩ = some (.slice ao k cap) := (hg6'.cell_far ⟨H, 0, none⟩ V05.out.lt (by simp)).trans V05.out.cell
          have HO6 : Hid (w6.ownsRow (H + 4) 42 10 (.slice ao k cap) k (dcells X k)) := HO5.out.kept hg6' (.inr HOB.out)
          have hz6 : H + 4 ≤ w6.heap.size := hr6.lt
          have hlt6 : H < w6.heap.size := by omega
          have HR6 : Hid (Rdr w6 (H + 3) (.slice a N c) (p + elen (X p)) p) := hr6
          have HG6 : Hid (w5.grownBy w6 (some (H + 3))) := hg6'
          clear hg6 hr6 hg6' c0 f0
          unfold evv
          refine hK1 _ _ ?_
          clear hK1 K1
          refine wpAny_ready (rs := [3]) (by kernel_rfl) (by simp) ?_
          refine AllReady.cons rfl (fun K1 hK1 => ?_) AllReady.nil
          go_simp
          refine hK1 _ _ ?_
          clear hK1 K1
          refine wpAny_ready (rs := [4]) (by kernel_rfl) (by simp) ?_
          refine AllReady.cons rfl (fun K1 hK1 => ?_) AllReady.nil
          refine step_push (H + 4) 10 80 k _ _ _ HO6.out hz6 Tryz.infoEvent rfl (by decide) rfl (HALL.out (dev X p)) (by omega) (by decide) _ _ 32 Tryz.underlying32 rfl rfl rfl rfl ?_
          intro v7 w7 hg7
          obtain ⟨ao7, cap7, rfl⟩ := own_form hg7.own
          have hcv7 : w7.cell? ⟨H, 0, none⟩ = some (.slice ao k cap) := (hg7.grown.cell_far ⟨H, 0, none⟩ (by show H < w6.heap.size; omega) HOB0.out).trans hcv
          have hfv7 : w7.frozen? ⟨H, 0, none⟩ = false := (hg7.grown.frozen_far ⟨H, 0, none⟩ (by show H < w6.heap.size; omega) HOB0.out).trans ((HG6.out.frozen_far ⟨H, 0, none⟩ V05.out.lt (by simp)).trans V05.out.free)
          have HG7 : Hid (Grew (H + 4) 42 10 w6 (.slice ao k cap) w7 (.slice ao7 (k + 1) cap7) (k + 1) (dcells X (k + 1))) := hg7.cast rfl (by rw [dcells_succ, ← HP.out, ← evv_toList]; rfl)
          refine hK1 _ _ ?_
          clear hK1 K1 hg7
          refine wpAny_ready (rs := [5]) (by kernel_rfl) (by simp) ?_
          refine AllReady.cons rfl (fun K1 hK1 => ?_) AllReady.nil
          go_simp
          refine hK1 _ _ ?_
          clear hK1 K1
          refine wpAny_done (by kernel_rfl) ?_ _
          have hg67 := HG7.out
          have x0 : H < w7.heap.size := Nat.lt_of_lt_of_le hlt6 hg67.grown.size
          have y0 : Var (w7.setCell ⟨H, 0, none⟩ (.slice ao7 (k + 1) cap7)) H (.slice ao7 (k + 1) cap7) := Var.set ⟨hcv7, hfv7, x0⟩ _
          have y1 : Var (w7.setCell ⟨H, 0, none⟩ (.slice ao7 (k + 1) cap7)) (H + 1) (.int .i64 0) := ((V15.out.grown HG6.out (by simp)).grown hg67.grown HOB1.out).set_other (by omega)
          have y2 : Var (w7.setCell ⟨H, 0, none⟩ (.slice ao7 (k + 1) cap7)) (H + 1 + 1) (.int .i64 0) := ((V25.out.grown HG6.out (by simp)).grown hg67.grown HOB2.out).set_other (by omega)
          have yr : Rdr (w7.setCell ⟨H, 0, none⟩ (.slice ao7 (k + 1) cap7)) (H + 3) (.slice a N c) (pos X (k + 1)) p := by
            have h1 := (HR6.out.grown hg67.grown HOB.out).grown (grownBy_set w7 H 0 (.slice ao7 (k + 1) cap7)) (by simp)
            rw [pos, ← HP.out]
            exact h1
          have yo : (w7.setCell ⟨H, 0, none⟩ (.slice ao7 (k + 1) cap7)).ownsRow (H + 4) 42 10 (.slice ao7 (k + 1) cap7) (k + 1) (dcells X (k + 1)) := ownsRow_setCell_below hg67.own (by show H < H + 4; omega) _
          have yb : Below w.heap.size w (w7.setCell ⟨H, 0, none⟩ (.slice ao7 (k + 1) cap7)) := by
            have h6 := below_grown HB5.out HG6.out (by have := HH.out; omega)
            have h7 : Below w.heap.size w w7 := h6.trans (hg67.below h6.size fun g hg => by have := (HO6.out.lt g hg).1; have := HH.out; omega)
            exact h7.setCell (p := ⟨H, 0, none⟩) (by show w.heap.size ≤ H; exact Nat.le_of_eq HH.out.symm) _
          have YALL : Hid ((∀ q, q < k + 1 → good X N q) ∧ Rdr (w7.setCell ⟨H, 0, none⟩ (.slice ao7 (k + 1) cap7)) (H + 3) (.slice a N c) (pos X (k + 1)) p ∧ Var (w7.setCell ⟨H, 0, none⟩ (.slice ao7 (k + 1) cap7)) H (.slice ao7 (k + 1) cap7) ∧ Var (w7.setCell ⟨H, 0, none⟩ (.slice ao7 (k + 1) cap7)) (H + 1) (.int .i64 0) ∧ Var (w7.setCell ⟨H, 0, none⟩ (.slice ao7 (k + 1) cap7)) (H + 1 + 1) (.int .i64 0) ∧ (w7.setCell ⟨H, 0, none⟩ (.slice ao7 (k + 1) cap7)).ownsRow (H + 4) 42 10 (.slice ao7 (k + 1) cap7) (k + 1) (dcells X (k + 1)) ∧ Below w.heap.size w (w7.setCell ⟨H, 0, none⟩ (.slice ao7 (k + 1) cap7))) := by
            refine ⟨?_, yr, y0, y1, y2, yo, yb⟩
            intro q hq
            by_cases h : q = k
            · rw [h]
              exact ⟨by rw [← HP.out]; exact hpn, by rw [← HP.out]; exact HK.out, by rw [← HP.out]; exact hfit⟩
            · exact HGD.out q (by omega)
          have hm7 : atOf (w7.setCell ⟨H, 0, none⟩ (.slice ao7 (k + 1) cap7)) (H + 3) = p + elen (X p) := by
            rw [yr.atOf_eq, pos, ← HP.out]
          have HM7 : Hid (atOf (w7.setCell ⟨H, 0, none⟩ (.slice ao7 (k + 1) cap7)) (H + 3) = p + elen (X p)) := hm7
          clear x0 y0 y1 y2 yr yo yb hg67 hm7 hcv7 hfv7 hcv
          go_wp2_with fail
          go_roundw
          case rel => exact ⟨k + 1, p, _, YALL.out⟩
          case measure => rw [HM7.out, hMs.out]; omega
        · go_simp
          refine hK1 _ _ ?_
          clear hK1 K1
          refine wpAny_ready (rs := [0, 2]) (by kernel_rfl) (by simp) ?_
          refine AllReady.cons rfl (fun K1 hK1 => ?_) (AllReady.cons rfl (fun K1 hK1 => ?_) AllReady.nil)
          · go_simp
            refine hK1 _ _ ?_
            clear hK1 K1
            refine wpAny_ready (rs := [2]) (by kernel_rfl) (by simp) ?_
            refine AllReady.cons rfl (fun K1 hK1 => ?_) AllReady.nil
            go_simp
            refine Event_any w HL.out (H + 3) a N c p s X _ _ HB5.out.drew (by have := HH.out; omega) (HR5.out.ext ((Below.refl _ _).drew)) hN hcap hpn (HX5.out.below (B := w5.heap.size) ((Below.refl _ _).drew) (Nat.le_refl _)) HB.out HBx.out (fun hk1 => absurd (hk1.symm.trans HK.out) (by simp)) (fun _ hk2 => absurd hk2 (by omega)) (fun _ _ w6 hr6 hg6 => ?_)
            have hg6' : w5.grownBy w6 (some (H + 3)) := ⟨hg6.os, hg6.tape, hg6.output, hg6.size, hg6.block⟩
            have hcv : w6.cell? ⟨H, 0, none⟩ = some (.slice ao k cap) := (hg6'.cell_far ⟨H, 0, none⟩ V05.out.lt (by simp)).trans V05.out.cell
            have HO6 : Hid (w6.ownsRow (H + 4) 42 10 (.slice ao k cap) k (dcells X k)) := HO5.out.kept hg6' (.inr HOB.out)
            have hz6 : H + 4 ≤ w6.heap.size := hr6.lt
            have hlt6 : H < w6.heap.size := by omega
            have HR6 : Hid (Rdr w6 (H + 3) (.slice a N c) (p + elen (X p)) p) := hr6
            have HG6 : Hid (w5.grownBy w6 (some (H + 3))) := hg6'
            clear hg6 hr6 hg6' c0 f0
            unfold evv
            refine hK1 _ _ ?_
            clear hK1 K1
            refine wpAny_ready (rs := [3]) (by kernel_rfl) (by simp) ?_
            refine AllReady.cons rfl (fun K1 hK1 => ?_) AllReady.nil
            go_simp
            refine hK1 _ _ ?_
            clear hK1 K1
            refine wpAny_ready (rs := [4]) (by kernel_rfl) (by simp) ?_
            refine AllReady.cons rfl (fun K1 hK1 => ?_) AllReady.nil
            refine step_push (H + 4) 10 80 k _ _ _ HO6.out hz6 Tryz.infoEvent rfl (by decide) rfl (HALL.out (dev X p)) (by omega) (by decide) _ _ 32 Tryz.underlying32 rfl rfl rfl rfl ?_
            intro v7 w7 hg7
            obtain ⟨ao7, cap7, rfl⟩ := own_form hg7.own
            have hcv7 : w7.cell? ⟨H, 0, none⟩ = some (.slice ao k cap) := (hg7.grown.cell_far ⟨H, 0, none⟩ (by show H < w6.heap.size; omega) HOB0.out).trans hcv
            have hfv7 : w7.frozen? ⟨H, 0, none⟩ = false := (hg7.grown.frozen_far ⟨H, 0, none⟩ (by show H < w6.heap.size; omega) HOB0.out).trans ((HG6.out.frozen_far ⟨H, 0, none⟩ V05.out.lt (by simp)).trans V05.out.free)
            have HG7 : Hid (Grew (H + 4) 42 10 w6 (.slice ao k cap) w7 (.slice ao7 (k + 1) cap7) (k + 1) (dcells X (k + 1))) := hg7.cast rfl (by rw [dcells_succ, ← HP.out, ← evv_toList]; rfl)
            refine hK1 _ _ ?_
            clear hK1 K1 hg7
            refine wpAny_ready (rs := [5]) (by kernel_rfl) (by simp) ?_
            refine AllReady.cons rfl (fun K1 hK1 => ?_) AllReady.nil
            go_simp
            refine hK1 _ _ ?_
            clear hK1 K1
            refine wpAny_done (by kernel_rfl) ?_ _
            have hg67 := HG7.out
            have x0 : H < w7.heap.size := Nat.lt_of_lt_of_le hlt6 hg67.grown.size
            have y0 : Var (w7.setCell ⟨H, 0, none⟩ (.slice ao7 (k + 1) cap7)) H (.slice ao7 (k + 1) cap7) := Var.set ⟨hcv7, hfv7, x0⟩ _
            have y1 : Var (w7.setCell ⟨H, 0, none⟩ (.slice ao7 (k + 1) cap7)) (H + 1) (.int .i64 0) := ((V15.out.grown HG6.out (by simp)).grown hg67.grown HOB1.out).set_other (by omega)
            have y2 : Var (w7.setCell ⟨H, 0, none⟩ (.slice ao7 (k + 1) cap7)) (H + 1 + 1) (.int .i64 0) := ((V25.out.grown HG6.out (by simp)).grown hg67.grown HOB2.out).set_other (by omega)
            have yr : Rdr (w7.setCell ⟨H, 0, none⟩ (.slice ao7 (k + 1) cap7)) (H + 3) (.slice a N c) (pos X (k + 1)) p := by
              have h1 := (HR6.out.grown hg67.grown HOB.out).grown (grownBy_set w7 H 0 (.slice ao7 (k + 1) cap7)) (by simp)
              rw [pos, ← HP.out]
              exact h1
            have yo : (w7.setCell ⟨H, 0, none⟩ (.slice ao7 (k + 1) cap7)).ownsRow (H + 4) 42 10 (.slice ao7 (k + 1) cap7) (k + 1) (dcells X (k + 1)) := ownsRow_setCell_below hg67.own (by show H < H + 4; omega) _
            have yb : Below w.heap.size w (w7.setCell ⟨H, 0, none⟩ (.slice ao7 (k + 1) cap7)) := by
              have h6 := below_grown HB5.out HG6.out (by have := HH.out; omega)
              have h7 : Below w.heap.size w w7 := h6.trans (hg67.below h6.size fun g hg => by have := (HO6.out.lt g hg).1; have := HH.out; omega)
              exact h7.setCell (p := ⟨H, 0, none⟩) (by show w.heap.size ≤ H; exact Nat.le_of_eq HH.out.symm) _
            have YALL : Hid ((∀ q, q < k + 1 → good X N q) ∧ Rdr (w7.setCell ⟨H, 0, none⟩ (.slice ao7 (k + 1) cap7)) (H + 3) (.slice a N c) (pos X (k + 1)) p ∧ Var (w7.setCell ⟨H, 0, none⟩ (.slice ao7 (k + 1) cap7)) H (.slice ao7 (k + 1) cap7) ∧ Var (w7.setCell ⟨H, 0, none⟩ (.slice ao7 (k + 1) cap7)) (H + 1) (.int .i64 0) ∧ Var (w7.setCell ⟨H, 0, none⟩ (.slice ao7 (k + 1) cap7)) (H + 1 + 1) (.int .i64 0) ∧ (w7.setCell ⟨H, 0, none⟩ (.slice ao7 (k + 1) cap7)).ownsRow (H + 4) 42 10 (.slice ao7 (k + 1) cap7) (k + 1) (dcells X (k + 1)) ∧ Below w.heap.size w (w7.setCell ⟨H, 0, none⟩ (.slice ao7 (k + 1) cap7))) := by
              refine ⟨?_, yr, y0, y1, y2, yo, yb⟩
              intro q hq
              by_cases h : q = k
              · rw [h]
                exact ⟨by rw [← HP.out]; exact hpn, by rw [← HP.out]; exact HK.out, by rw [← HP.out]; exact hfit⟩
              · exact HGD.out q (by omega)
            have hm7 : atOf (w7.setCell ⟨H, 0, none⟩ (.slice ao7 (k + 1) cap7)) (H + 3) = p + elen (X p) := by
              rw [yr.atOf_eq, pos, ← HP.out]
            have HM7 : Hid (atOf (w7.setCell ⟨H, 0, none⟩ (.slice ao7 (k + 1) cap7)) (H + 3) = p + elen (X p)) := hm7
            clear x0 y0 y1 y2 yr yo yb hg67 hm7 hcv7 hfv7 hcv
            go_wp2_with fail
            go_roundw
            case rel => exact ⟨k + 1, p, _, YALL.out⟩
            case measure => rw [HM7.out, hMs.out]; omega
          · go_simp
            refine Event_any w HL.out (H + 3) a N c p s X _ _ HB5.out.drew (by have := HH.out; omega) (HR5.out.ext ((Below.refl _ _).drew)) hN hcap hpn (HX5.out.below (B := w5.heap.size) ((Below.refl _ _).drew) (Nat.le_refl _)) HB.out HBx.out (fun hk1 => absurd (hk1.symm.trans HK.out) (by simp)) (fun _ hk2 => absurd hk2 (by omega)) (fun _ _ w6 hr6 hg6 => ?_)
            have hg6' : w5.grownBy w6 (some (H + 3)) := ⟨hg6.os, hg6.tape, hg6.output, hg6.size, hg6.block⟩
            have hcv : w6.cell? ⟨H, 0, none⟩ = some (.slice ao k cap) := (hg6'.cell_far ⟨H, 0, none⟩ V05.out.lt (by simp)).trans V05.out.cell
            have HO6 : Hid (w6.ownsRow (H + 4) 42 10 (.slice ao k cap) k (dcells X k)) := HO5.out.kept hg6' (.inr HOB.out)
            have hz6 : H + 4 ≤ w6.heap.size := hr6.lt
            have hlt6 : H < w6.heap.size := by omega
            have HR6 : Hid (Rdr w6 (H + 3) (.slice a N c) (p + elen (X p)) p) := hr6
            have HG6 : Hid (w5.grownBy w6 (some (H + 3))) := hg6'
            clear hg6 hr6 hg6' c0 f0
            unfold evv
            refine hK1 _ _ ?_
            clear hK1 K1
            refine wpAny_ready (rs := [0, 3]) (by kernel_rfl) (by simp) ?_
            refine AllReady.cons rfl (fun K1 hK1 => ?_) (AllReady.cons rfl (fun K1 hK1 => ?_) AllReady.nil)
            · go_simp
              refine hK1 _ _ ?_
              clear hK1 K1
              refine wpAny_ready (rs := [3]) (by kernel_rfl) (by simp) ?_
              refine AllReady.cons rfl (fun K1 hK1 => ?_) AllReady.nil
              go_simp
              refine hK1 _ _ ?_
              clear hK1 K1
              refine wpAny_ready (rs := [4]) (by kernel_rfl) (by simp) ?_
              refine AllReady.cons rfl (fun K1 hK1 => ?_) AllReady.nil
              refine step_push (H + 4) 10 80 k _ _ _ HO6.out hz6 Tryz.infoEvent rfl (by decide) rfl (HALL.out (dev X p)) (by omega) (by decide) _ _ 32 Tryz.underlying32 rfl rfl rfl rfl ?_
              intro v7 w7 hg7
              obtain ⟨ao7, cap7, rfl⟩ := own_form hg7.own
              have hcv7 : w7.cell? ⟨H, 0, none⟩ = some (.slice ao k cap) := (hg7.grown.cell_far ⟨H, 0, none⟩ (by show H < w6.heap.size; omega) HOB0.out).trans hcv
              have hfv7 : w7.frozen? ⟨H, 0, none⟩ = false := (hg7.grown.frozen_far ⟨H, 0, none⟩ (by show H < w6.heap.size; omega) HOB0.out).trans ((HG6.out.frozen_far ⟨H, 0, none⟩ V05.out.lt (by simp)).trans V05.out.free)
              have HG7 : Hid (Grew (H + 4) 42 10 w6 (.slice ao k cap) w7 (.slice ao7 (k + 1) cap7) (k + 1) (dcells X (k + 1))) := hg7.cast rfl (by rw [dcells_succ, ← HP.out, ← evv_toList]; rfl)
              refine hK1 _ _ ?_
              clear hK1 K1 hg7
              refine wpAny_ready (rs := [5]) (by kernel_rfl) (by simp) ?_
              refine AllReady.cons rfl (fun K1 hK1 => ?_) AllReady.nil
              go_simp
              refine hK1 _ _ ?_
              clear hK1 K1
              refine wpAny_done (by kernel_rfl) ?_ _
              have hg67 := HG7.out
              have x0 : H < w7.heap.size := Nat.lt_of_lt_of_le hlt6 hg67.grown.size
              have y0 : Var (w7.setCell ⟨H, 0, none⟩ (.slice ao7 (k + 1) cap7)) H (.slice ao7 (k + 1) cap7) := Var.set ⟨hcv7, hfv7, x0⟩ _
              have y1 : Var (w7.setCell ⟨H, 0, none⟩ (.slice ao7 (k + 1) cap7)) (H + 1) (.int .i64 0) := ((V15.out.grown HG6.out (by simp)).grown hg67.grown HOB1.out).set_other (by omega)
              have y2 : Var (w7.setCell ⟨H, 0, none⟩ (.slice ao7 (k + 1) cap7)) (H + 1 + 1) (.int .i64 0) := ((V25.out.grown HG6.out (by simp)).grown hg67.grown HOB2.out).set_other (by omega)
              have yr : Rdr (w7.setCell ⟨H, 0, none⟩ (.slice ao7 (k + 1) cap7)) (H + 3) (.slice a N c) (pos X (k + 1)) p := by
                have h1 := (HR6.out.grown hg67.grown HOB.out).grown (grownBy_set w7 H 0 (.slice ao7 (k + 1) cap7)) (by simp)
                rw [pos, ← HP.out]
                exact h1
              have yo : (w7.setCell ⟨H, 0, none⟩ (.slice ao7 (k + 1) cap7)).ownsRow (H + 4) 42 10 (.slice ao7 (k + 1) cap7) (k + 1) (dcells X (k + 1)) := ownsRow_setCell_below hg67.own (by show H < H + 4; omega) _
              have yb : Below w.heap.size w (w7.setCell ⟨H, 0, none⟩ (.slice ao7 (k + 1) cap7)) := by
                have h6 := below_grown HB5.out HG6.out (by have := HH.out; omega)
                have h7 : Below w.heap.size w w7 := h6.trans (hg67.below h6.size fun g hg => by have := (HO6.out.lt g hg).1; have := HH.out; omega)
                exact h7.setCell (p := ⟨H, 0, none⟩) (by show w.heap.size ≤ H; exact Nat.le_of_eq HH.out.symm) _
              have YALL : Hid ((∀ q, q < k + 1 → good X N q) ∧ Rdr (w7.setCell ⟨H, 0, none⟩ (.slice ao7 (k + 1) cap7)) (H + 3) (.slice a N c) (pos X (k + 1)) p ∧ Var (w7.setCell ⟨H, 0, none⟩ (.slice ao7 (k + 1) cap7)) H (.slice ao7 (k + 1) cap7) ∧ Var (w7.setCell ⟨H, 0, none⟩ (.slice ao7 (k + 1) cap7)) (H + 1) (.int .i64 0) ∧ Var (w7.setCell ⟨H, 0, none⟩ (.slice ao7 (k + 1) cap7)) (H + 1 + 1) (.int .i64 0) ∧ (w7.setCell ⟨H, 0, none⟩ (.slice ao7 (k + 1) cap7)).ownsRow (H + 4) 42 10 (.slice ao7 (k + 1) cap7) (k + 1) (dcells X (k + 1)) ∧ Below w.heap.size w (w7.setCell ⟨H, 0, none⟩ (.slice ao7 (k + 1) cap7))) := by
                refine ⟨?_, yr, y0, y1, y2, yo, yb⟩
                intro q hq
                by_cases h : q = k
                · rw [h]
                  exact ⟨by rw [← HP.out]; exact hpn, by rw [← HP.out]; exact HK.out, by rw [← HP.out]; exact hfit⟩
                · exact HGD.out q (by omega)
              have hm7 : atOf (w7.setCell ⟨H, 0, none⟩ (.slice ao7 (k + 1) cap7)) (H + 3) = p + elen (X p) := by
                rw [yr.atOf_eq, pos, ← HP.out]
              have HM7 : Hid (atOf (w7.setCell ⟨H, 0, none⟩ (.slice ao7 (k + 1) cap7)) (H + 3) = p + elen (X p)) := hm7
              clear x0 y0 y1 y2 yr yo yb hg67 hm7 hcv7 hfv7 hcv
              go_wp2_with fail
              go_roundw
              case rel => exact ⟨k + 1, p, _, YALL.out⟩
              case measure => rw [HM7.out, hMs.out]; omega
            · go_simp
              refine hK1 _ _ ?_
              clear hK1 K1
              refine wpAny_ready (rs := [0]) (by kernel_rfl) (by simp) ?_
              refine AllReady.cons rfl (fun K1 hK1 => ?_) AllReady.nil
              go_simp
              refine hK1 _ _ ?_
              clear hK1 K1
              refine wpAny_ready (rs := [4]) (by kernel_rfl) (by simp) ?_
              refine AllReady.cons rfl (fun K1 hK1 => ?_) AllReady.nil
              refine step_push (H + 4) 10 80 k _ _ _ HO6.out hz6 Tryz.infoEvent rfl (by decide) rfl (HALL.out (dev X p)) (by omega) (by decide) _ _ 32 Tryz.underlying32 rfl rfl rfl rfl ?_
              intro v7 w7 hg7
              obtain ⟨ao7, cap7, rfl⟩ := own_form hg7.own
              have hcv7 : w7.cell? ⟨H, 0, none⟩ = some (.slice ao k cap) := (hg7.grown.cell_far ⟨H, 0, none⟩ (by show H < w6.heap.size; omega) HOB0.out).trans hcv
              have hfv7 : w7.frozen? ⟨H, 0, none⟩ = false := (hg7.grown.frozen_far ⟨H, 0, none⟩ (by show H < w6.heap.size; omega) HOB0.out).trans ((HG6.out.frozen_far ⟨H, 0, none⟩ V05.out.lt (by simp)).trans V05.out.free)
              have HG7 : Hid (Grew (H + 4) 42 10 w6 (.slice ao k cap) w7 (.slice ao7 (k + 1) cap7) (k + 1) (dcells X (k + 1))) := hg7.cast rfl (by rw [dcells_succ, ← HP.out, ← evv_toList]; rfl)
              refine hK1 _ _ ?_
              clear hK1 K1 hg7
              refine wpAny_ready (rs := [5]) (by kernel_rfl) (by simp) ?_
              refine AllReady.cons rfl (fun K1 hK1 => ?_) AllReady.nil
              go_simp
              refine hK1 _ _ ?_
              clear hK1 K1
              refine wpAny_done (by kernel_rfl) ?_ _
              have hg67 := HG7.out
              have x0 : H < w7.heap.size := Nat.lt_of_lt_of_le hlt6 hg67.grown.size
              have y0 : Var (w7.setCell ⟨H, 0, none⟩ (.slice ao7 (k + 1) cap7)) H (.slice ao7 (k + 1) cap7) := Var.set ⟨hcv7, hfv7, x0⟩ _
              have y1 : Var (w7.setCell ⟨H, 0, none⟩ (.slice ao7 (k + 1) cap7)) (H + 1) (.int .i64 0) := ((V15.out.grown HG6.out (by simp)).grown hg67.grown HOB1.out).set_other (by omega)
              have y2 : Var (w7.setCell ⟨H, 0, none⟩ (.slice ao7 (k + 1) cap7)) (H + 1 + 1) (.int .i64 0) := ((V25.out.grown HG6.out (by simp)).grown hg67.grown HOB2.out).set_other (by omega)
              have yr : Rdr (w7.setCell ⟨H, 0, none⟩ (.slice ao7 (k + 1) cap7)) (H + 3) (.slice a N c) (pos X (k + 1)) p := by
                have h1 := (HR6.out.grown hg67.grown HOB.out).grown (grownBy_set w7 H 0 (.slice ao7 (k + 1) cap7)) (by simp)
                rw [pos, ← HP.out]
                exact h1
              have yo : (w7.setCell ⟨H, 0, none⟩ (.slice ao7 (k + 1) cap7)).ownsRow (H + 4) 42 10 (.slice ao7 (k + 1) cap7) (k + 1) (dcells X (k + 1)) := ownsRow_setCell_below hg67.own (by show H < H + 4; omega) _
              have yb : Below w.heap.size w (w7.setCell ⟨H, 0, none⟩ (.slice ao7 (k + 1) cap7)) := by
                have h6 := below_grown HB5.out HG6.out (by have := HH.out; omega)
                have h7 : Below w.heap.size w w7 := h6.trans (hg67.below h6.size fun g hg => by have := (HO6.out.lt g hg).1; have := HH.out; omega)
                exact h7.setCell (p := ⟨H, 0, none⟩) (by show w.heap.size ≤ H; exact Nat.le_of_eq HH.out.symm) _
              have YALL : Hid ((∀ q, q < k + 1 → good X N q) ∧ Rdr (w7.setCell ⟨H, 0, none⟩ (.slice ao7 (k + 1) cap7)) (H + 3) (.slice a N c) (pos X (k + 1)) p ∧ Var (w7.setCell ⟨H, 0, none⟩ (.slice ao7 (k + 1) cap7)) H (.slice ao7 (k + 1) cap7) ∧ Var (w7.setCell ⟨H, 0, none⟩ (.slice ao7 (k + 1) cap7)) (H + 1) (.int .i64 0) ∧ Var (w7.setCell ⟨H, 0, none⟩ (.slice ao7 (k + 1) cap7)) (H + 1 + 1) (.int .i64 0) ∧ (w7.setCell ⟨H, 0, none⟩ (.slice ao7 (k + 1) cap7)).ownsRow (H + 4) 42 10 (.slice ao7 (k + 1) cap7) (k + 1) (dcells X (k + 1)) ∧ Below w.heap.size w (w7.setCell ⟨H, 0, none⟩ (.slice ao7 (k + 1) cap7))) := by
                refine ⟨?_, yr, y0, y1, y2, yo, yb⟩
                intro q hq
                by_cases h : q = k
                · rw [h]
                  exact ⟨by rw [← HP.out]; exact hpn, by rw [← HP.out]; exact HK.out, by rw [← HP.out]; exact hfit⟩
                · exact HGD.out q (by omega)
              have hm7 : atOf (w7.setCell ⟨H, 0, none⟩ (.slice ao7 (k + 1) cap7)) (H + 3) = p + elen (X p) := by
                rw [yr.atOf_eq, pos, ← HP.out]
              have HM7 : Hid (atOf (w7.setCell ⟨H, 0, none⟩ (.slice ao7 (k + 1) cap7)) (H + 3) = p + elen (X p)) := hm7
              clear x0 y0 y1 y2 yr yo yb hg67 hm7 hcv7 hfv7 hcv
              go_wp2_with fail
              go_roundw
              case rel => exact ⟨k + 1, p, _, YALL.out⟩
              case measure => rw [HM7.out, hMs.out]; omega
    · have hd : decide (p < N) = false := by simpa using hpn
      have hp' : p = N := by omega
      rw [hd]
      have c0 := hv0.cell
      have f0 := hv0.free
      have c1 := V15.out.cell
      have f1 := V15.out.free
      have c2 := V25.out.cell
      have f2 := V25.out.free
      clear hd hv0
      go_wp2_with fail
      have x0 : Var (((w5.setCell ⟨H, 0, none⟩ (.slice ao k cap)).setCell ⟨H + 1, 0, none⟩ (.int .i64 0)).setCell ⟨H + 1 + 1, 0, none⟩ (.int .i64 0)) H (.slice ao k cap) := ((V05.out.set _).set_other (by omega)).set_other (by omega)
      have x1 : Var (((w5.setCell ⟨H, 0, none⟩ (.slice ao k cap)).setCell ⟨H + 1, 0, none⟩ (.int .i64 0)).setCell ⟨H + 1 + 1, 0, none⟩ (.int .i64 0)) (H + 1) (.int .i64 0) := ((V15.out.set_other (by omega)).set _).set_other (by omega)
      have x2 : Var (((w5.setCell ⟨H, 0, none⟩ (.slice ao k cap)).setCell ⟨H + 1, 0, none⟩ (.int .i64 0)).setCell ⟨H + 1 + 1, 0, none⟩ (.int .i64 0)) (H + 1 + 1) (.int .i64 0) := ((V25.out.set_other (by omega)).set_other (by omega)).set _
      have xo : (((w5.setCell ⟨H, 0, none⟩ (.slice ao k cap)).setCell ⟨H + 1, 0, none⟩ (.int .i64 0)).setCell ⟨H + 1 + 1, 0, none⟩ (.int .i64 0)).ownsRow H 42 10 (.slice ao k cap) k (dcells X k) := own_base (ownsRow_setCell_below (ownsRow_setCell_below (ownsRow_setCell_below HO5.out (by show H < H + 4; omega) _) (by show H + 1 < H + 4; omega) _) (by show H + 1 + 1 < H + 4; omega) _) (by omega)
      have xb : Below w.heap.size w (((w5.setCell ⟨H, 0, none⟩ (.slice ao k cap)).setCell ⟨H + 1, 0, none⟩ (.int .i64 0)).setCell ⟨H + 1 + 1, 0, none⟩ (.int .i64 0)) := ((HB5.out.setCell (p := ⟨H, 0, none⟩) (by show w.heap.size ≤ H; exact Nat.le_of_eq HH.out.symm) _).setCell (p := ⟨H + 1, 0, none⟩) (by show w.heap.size ≤ H + 1; have := HH.out; omega) _).setCell (p := ⟨H + 1 + 1, 0, none⟩) (by show w.heap.size ≤ H + 1 + 1; have := HH.out; omega) _
      generalize ((w5.setCell ⟨H, 0, none⟩ (.slice ao k cap)).setCell ⟨H + 1, 0, none⟩ (.int .i64 0)).setCell ⟨H + 1 + 1, 0, none⟩ (.int .i64 0) = WF at *
      have hfin : R (.returned (.tuple #[.slice ao k cap, .int .i64 0, .int .i64 0])) WF := HR3.out k _ WF HGD.out (by rw [← HP.out]; exact hp') xb (by rw [← HH.out]; exact xo)
      have d0 := x0.cell
      have d1 := x1.cell
      have d2 := x2.cell
      refine leaves_cons (f := 47) (args := #[.pointer (some ⟨H, 0, none⟩), .pointer (some ⟨H + 1, 0, none⟩), .pointer (some ⟨H + 1 + 1, 0, none⟩)]) (by simp) (by simp [go_sem]) ?_
      refine (catch_idle _ _ _ _).mono ?_
      rintro e u' w'' ⟨rfl, rfl, rfl⟩
      simp [Leaves, settle, results, Tryz.results19, go_sem, d0, d1, d2]
      exact hfin
end Go.Proofs.YtmiiejinahnpkaaGreatDoor
