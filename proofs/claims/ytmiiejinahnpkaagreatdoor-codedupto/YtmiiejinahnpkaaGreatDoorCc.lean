/- What kept of the law answers: true, where every list holds what the caller wrote; and nothing that was there has turned. (Here: where no list of orders has come out.) -/
import Derived.Test.YtmiiejinahnpkaaGreatDoorCa
import Derived.Test.YtmiiejinahnpkaaGreatDoorCb
import Derived.Test.YtmiiejinahnpkaaGreatDoorBi
import Derived.Deep.RegionHeld3
namespace Go.Proofs.YtmiiejinahnpkaaGreatDoor
open Go.RowKit
attribute [local go_sem ↓] Go.wp_at_zero Go.wp_at_succ

/-- the row of a shelf lies in memory: its entries -/
def Shelf (w : World) (a : Option Addr) (n : Nat) (vs : Nat → Value) : Prop := ∀ i, i < n → ∃ g, a = some ⟨g, 0, none⟩ ∧ w.cell? ⟨g, i, none⟩ = some (vs i)

theorem Shelf.ext {w w' : World} {a : Option Addr} {n : Nat} {vs : Nat → Value} (h : Shelf w a n vs) (hb : Below w.heap.size w w') : Shelf w' a n vs := by
  intro i hi
  obtain ⟨g, h1, h2⟩ := h i hi
  exact ⟨g, h1, (hb.cell (lt_of_cell h2)).trans h2⟩

/-- an event of which only Kind is told -/
def kev (m : Int) : Nat → Int := fun j => if j = 0 then m else 0

/-- lists of events on a shelf: each holds events of which only Kind is told -/
def EvLists (w : World) (n : Nat) (vs : Nat → Value) (ms : Nat → Int) : Prop := ∀ i, i < n → ∃ a l c, vs i = .slice a l c ∧ l ≤ 1073741824 ∧ ∀ k, k < l → ∃ g, a = some ⟨g, 0, none⟩ ∧ ∀ j, j < 10 → w.cell? ⟨g, k * 10 + j, none⟩ = some (.int .i64 (kev (ms i) j))

theorem EvLists.ext {w w' : World} {n : Nat} {vs : Nat → Value} {ms : Nat → Int} (h : EvLists w n vs ms) (hb : Below w.heap.size w w') : EvLists w' n vs ms := by
  intro i hi
  obtain ⟨a, l, c, h1, h2, h3⟩ := h i hi
  refine ⟨a, l, c, h1, h2, fun k hk => ?_⟩
  obtain ⟨g, h4, h5⟩ := h3 k hk
  exact ⟨g, h4, fun j hj => (hb.cell (lt_of_cell (h5 j hj))).trans (h5 j hj)⟩

/-- lists of bytes on a shelf, all of one byte -/
def ByLists (w : World) (n : Nat) (vs : Nat → Value) (x : Nat → Nat) : Prop := ∀ i, i < n → ∃ a l c, vs i = .slice a l c ∧ l ≤ 1073741824 ∧ ∀ k, k < l → ∃ g, a = some ⟨g, 0, none⟩ ∧ w.cell? ⟨g, k, none⟩ = some (.int .u8 (x i : Nat)) ∧ w.frozen? ⟨g, k, none⟩ = false

theorem ByLists.ext {w w' : World} {n : Nat} {vs : Nat → Value} {x : Nat → Nat} (h : ByLists w n vs x) (hb : Below w.heap.size w w') : ByLists w' n vs x := by
  intro i hi
  obtain ⟨a, l, c, h1, h2, h3⟩ := h i hi
  refine ⟨a, l, c, h1, h2, fun k hk => ?_⟩
  obtain ⟨g, h4, h5, h6⟩ := h3 k hk
  exact ⟨g, h4, (hb.cell (lt_of_cell h5)).trans h5, (hb.frozen (lt_of_cell h5)).trans h6⟩

theorem sameEv_kev (e : Nat → Int) (m : Int) (h : ∀ j, j < 10 → e j = kev m j) : sameEv e (kev m) = true := (sameEv_iff e (kev m)).2 h
theorem sameEv_self (m : Int) : sameEv (kev m) (kev m) = true := (sameEv_iff _ _).2 fun _ _ => rfl

theorem evv_kev (m : Int) : (.agg #[.int .i64 m, .int .i64 0, .int .i64 0, .int .i64 0, .int .i64 0, .int .i64 0, .int .i64 0, .int .i64 0, .int .i64 0, .int .i64 0] : Value) = evv (kev m) := rfl

/-- all that kept asks of memory -/
structure Held (w : World) (B : Nat) (ab ao ae am ai al : Option Addr) (n cb co ne ce cm ni ci nl cl : Nat) (aq : Option Addr) (cq : Nat) (bs : Nat → Value) (ms : Nat → Nat) (es : Nat → Value) (em : Nat → Int) (is_ ls : Nat → Value) : Prop where
  c1 : w.cell? ⟨B, 1, none⟩ = some (.slice ab n cb)
  c2 : w.cell? ⟨B, 2, none⟩ = some (.slice ao n co)
  c3 : w.cell? ⟨B, 3, none⟩ = some (.slice aq 0 cq)
  c5 : w.cell? ⟨B, 5, none⟩ = some (.slice ae ne ce)
  c6 : w.cell? ⟨B, 6, none⟩ = some (.slice am ne cm)
  c7 : w.cell? ⟨B, 7, none⟩ = some (.slice ai ni ci)
  c8 : w.cell? ⟨B, 8, none⟩ = some (.slice al nl cl)
  hn : n ≤ 1073741824 ∧ ne ≤ 1073741824 ∧ ni ≤ 1073741824 ∧ nl ≤ 1073741824
  hm : ∀ i, i < n → ms i ≤ 1073741824
  s1 : Shelf w ab n bs
  s2 : Shelf w ao n fun i => .int .i64 (ms i : Nat)
  s5 : Shelf w ae ne es
  s6 : Shelf w am ne fun i => .int .i64 (em i)
  s7 : Shelf w ai ni is_
  s8 : Shelf w al nl ls
  lb : ByLists w n bs fun i => dg (ms i) 0
  le : EvLists w ne es em
  li : ByLists w ni is_ fun _ => 77
  ll : EvLists w nl ls fun _ => -7
  nB : ∀ k, ¬ Cov bs n B k
  n1 : ∀ g k, ab = some ⟨g, 0, none⟩ → ¬ Cov bs n g k
  n2 : ∀ g k, ao = some ⟨g, 0, none⟩ → ¬ Cov bs n g k
  one : ∀ i j g l c l' c', i < n → j < n → bs i = .slice (some ⟨g, 0, none⟩) l c → bs j = .slice (some ⟨g, 0, none⟩) l' c' → 0 < l → 0 < l' → ms i = ms j

set_option maxHeartbeats 4000000 in
set_option maxRecDepth 8000 in
theorem kept_any {w : World} {B : Nat} {ab ao ae am ai al : Option Addr} {n cb co ne ce cm ni ci nl cl : Nat} {aq : Option Addr} {cq : Nat} {bs : Nat → Value} {ms : Nat → Nat} {es : Nat → Value} {em : Nat → Int} {is_ ls : Nat → Value}
   (h : Held w B ab ao ae am ai al n cb co ne ce cm ni ci nl cl aq cq bs ms es em is_ ls) (R : Ending → World → Prop)
   (hR : ∀ w', Below w.heap.size w w' → R (.returned (.bool true)) w') :
    Calls Tryz.prog 14 #[.pointer (some ⟨B, 0, none⟩)] w R := by
  have HR : Hid (∀ w', Below w.heap.size w w' → R (.returned (.bool true)) w') := hR
  have HH : Hid (Held w B ab ao ae am ai al n cb co ne ce cm ni ci nl cl aq cq bs ms es em is_ ls) := h
  obtain ⟨hn, hne, hni, hnl⟩ := h.hn
  -- what write and read ask, in a world that differs in covered cells alone
  have HW : Hid (∀ wr x, Painted bs n w wr → (∀ i g l c k, i < n → bs i = .slice (some ⟨g, 0, none⟩) l c → k < l → wr.cell? ⟨g, k, none⟩ = some (.int .u8 (dg (ms i) x : Nat))) →
      wr.cell? ⟨B, 1, none⟩ = some (.slice ab n cb) ∧ wr.cell? ⟨B, 2, none⟩ = some (.slice ao n co) ∧
      (∀ i, i < n → ∃ g, ab = some ⟨g, 0, none⟩ ∧ wr.cell? ⟨g, i, none⟩ = some (bs i) ∧ ∀ k, ¬ Cov bs n g k) ∧
      (∀ i, i < n → ∃ g, ao = some ⟨g, 0, none⟩ ∧ wr.cell? ⟨g, i, none⟩ = some (.int .i64 (ms i : Nat)) ∧ ∀ k, ¬ Cov bs n g k) ∧
      (∀ i, i < n → ms i ≤ 1073741824 ∧ ∃ a l c, bs i = .slice a l c ∧ l ≤ 1073741824 ∧ ∀ k, k < l → ∃ g, a = some ⟨g, 0, none⟩ ∧ wr.cell? ⟨g, k, none⟩ = some (.int .u8 (dg (ms i) x : Nat)) ∧ wr.frozen? ⟨g, k, none⟩ = false)) := by
    intro wr x hP hx
    refine ⟨(hP.cell B 1 (h.nB 1)).trans h.c1, (hP.cell B 2 (h.nB 2)).trans h.c2, ?_, ?_, ?_⟩
    · intro i hi
      obtain ⟨g, h1, h2⟩ := h.s1 i hi
      exact ⟨g, h1, (hP.cell g i (h.n1 g i h1)).trans h2, fun k => h.n1 g k h1⟩
    · intro i hi
      obtain ⟨g, h1, h2⟩ := h.s2 i hi
      exact ⟨g, h1, (hP.cell g i (h.n2 g i h1)).trans h2, fun k => h.n2 g k h1⟩
    · intro i hi
      obtain ⟨a, l, c, h1, h2, h3⟩ := h.lb i hi
      refine ⟨h.hm i hi, a, l, c, h1, h2, fun k hk => ?_⟩
      obtain ⟨g, h4, _, h6⟩ := h3 k hk
      exact ⟨g, h4, hx i g l c k hi (by rw [h1, h4]) hk, (hP.frozen g k).trans h6⟩
  have HX0 : Hid (∀ i g l c k, i < n → bs i = .slice (some ⟨g, 0, none⟩) l c → k < l → w.cell? ⟨g, k, none⟩ = some (.int .u8 (dg (ms i) 0 : Nat))) := by
    intro i g l c k hi hbi hk
    obtain ⟨a, l', c', h1, _, h3⟩ := h.lb i hi
    rw [hbi] at h1
    simp only [Value.slice.injEq] at h1
    obtain ⟨ha, rfl, _⟩ := h1
    obtain ⟨g', h4, h5, _⟩ := h3 k hk
    rw [← ha] at h4
    simp only [Option.some.injEq, Addr.mk.injEq, and_true] at h4
    rw [h4]
    exact h5
  clear h hR
  go_enter Tryz.func14, Tryz.ntmps14
  go_wp2_with fail
  obtain ⟨r1, r2, r3, r4, r5⟩ := HW.out w 0 (Painted.refl _ _ _) HX0.out
  refine read_any B ab ao n cb co 0 bs ms _ _ r1 r2 hn (by decide) (fun i hi => by obtain ⟨g, q1, q2, _⟩ := r3 i hi; exact ⟨g, q1, q2⟩) (fun i hi => by obtain ⟨g, q1, q2, _⟩ := r4 i hi; exact ⟨g, q1, q2⟩) (fun i hi => by obtain ⟨q0, a, l, c, q1, q2, q3⟩ := r5 i hi; exact ⟨q0, a, l, c, q1, q2, fun k hk => by obtain ⟨g, q4, q5, _⟩ := q3 k hk; exact ⟨g, q4, q5⟩⟩) ?_
  clear r1 r2 r3 r4 r5
  go_wp2_with fail
  go_loopw [3, 4] (fun t i wr => ∃ e : Nat, e ≤ 4 ∧ t = .bool true ∧ i = .int .i64 ((e : Int) - 1) ∧ Painted bs n w wr ∧ (∀ i g l c k, i < n → bs i = .slice (some ⟨g, 0, none⟩) l c → k < l → wr.cell? ⟨g, k, none⟩ = some (.int .u8 (dg (ms i) (if e = 4 then 0 else e) : Nat)))) (fun _ i _ => (intOf i + 1).toNat)
  case atStart => exact ⟨4, by omega, rfl, rfl, Painted.refl _ _ _, HX0.out⟩
  case round =>
    obtain ⟨e, he, rfl, rfl, hP, hX⟩ := hrel
    by_cases he0 : 0 < e
    · obtain ⟨d, rfl⟩ : ∃ d, e = d + 1 := ⟨e - 1, by omega⟩
      have hd : (((d + 1 : Nat) : Int) - 1) = (d : Int) := by omega
      rw [hd]
      have HP : Hid (Painted bs n w wr) := hP
      have HX : Hid (∀ i g l c k, i < n → bs i = .slice (some ⟨g, 0, none⟩) l c → k < l → wr.cell? ⟨g, k, none⟩ = some (.int .u8 (dg (ms i) (if d + 1 = 4 then 0 else d + 1) : Nat))) := hX
      clear hP hX hd
      go_wp2_with fail
      obtain ⟨r1, r2, r3, r4, r5⟩ := HW.out wr _ HP.out HX.out
      refine write_any B ab ao n cb co d bs ms _ _ r1 r2 hn (by omega) r3 r4 (fun i hi => by obtain ⟨q0, a, l, c, q1, q2, q3⟩ := r5 i hi; exact ⟨q0, a, l, c, q1, q2, fun k hk => by obtain ⟨g, q4, q5, q6⟩ := q3 k hk; exact ⟨g, q4, ⟨_, q5⟩, q6⟩⟩) HH.out.nB HH.out.one ?_
      intro w1 hP1 hX1
      have HP1 : Hid (Painted bs n w w1) := HP.out.trans hP1
      have HX1 : Hid (∀ i g l c k, i < n → bs i = .slice (some ⟨g, 0, none⟩) l c → k < l → w1.cell? ⟨g, k, none⟩ = some (.int .u8 (dg (ms i) d : Nat))) := hX1
      clear r1 r2 r3 r4 r5 hP1 hX1
      go_wp2_with fail
      obtain ⟨r1, r2, r3, r4, r5⟩ := HW.out w1 _ HP1.out HX1.out
      refine read_any B ab ao n cb co d bs ms _ _ r1 r2 hn (by omega) (fun i hi => by obtain ⟨g, q1, q2, _⟩ := r3 i hi; exact ⟨g, q1, q2⟩) (fun i hi => by obtain ⟨g, q1, q2, _⟩ := r4 i hi; exact ⟨g, q1, q2⟩) (fun i hi => by obtain ⟨q0, a, l, c, q1, q2, q3⟩ := r5 i hi; exact ⟨q0, a, l, c, q1, q2, fun k hk => by obtain ⟨g, q4, q5, _⟩ := q3 k hk; exact ⟨g, q4, q5⟩⟩) ?_
      clear r1 r2 r3 r4 r5
      go_wp2_with fail
      go_roundw
      case rel => exact ⟨d, by omega, rfl, by congr 1, HP1.out, by rw [if_neg (by omega)]; exact HX1.out⟩
      case measure => simp only [intOf]; omega
    · have he' : e = 0 := by omega
      subst he'
      rw [show ((0 : Nat) : Int) - 1 = -1 from rfl]
      have hBl : Below w.heap.size w wr := by
        have hs := hP.same (fun g k hc => by
          obtain ⟨i, l, c, hi, hbi, hk⟩ := hc
          rw [hX i g l c k hi hbi hk, HX0.out i g l c k hi hbi hk]
          rfl)
        exact ⟨hP.os, hP.tape, hP.output, Nat.le_of_eq hP.size.symm, fun k _ => hs k⟩
      have HBl : Hid (Below w.heap.size w wr) := hBl
      have c3 := (hBl.cell (lt_of_cell HH.out.c3)).trans HH.out.c3
      clear hP hX
      obtain ⟨wa, hwa⟩ : ∃ y, y = wr := ⟨_, rfl⟩
      subst hwa
      go_wp2_with fail
      refine wp_loop_rounds 1 ?_
      rw [rounds_succ]
      go_wp2_with fail
      clear c3
      go_loopw [8, 9, 10] (fun t _ _ wr => ∃ i : Nat, i ≤ ne ∧ t = .int .i64 i ∧ Below w.heap.size w wr) (fun t _ _ _ => ne - (intOf t).toNat)
      case atStart => exact ⟨0, Nat.zero_le _, rfl, HBl.out⟩
      case round =>
        obtain ⟨i, hi, rfl, hB1⟩ := hrel
        have HB1 : Hid (Below w.heap.size w wr) := hB1
        have c5 := (hB1.cell (lt_of_cell HH.out.c5)).trans HH.out.c5
        clear hB1
        by_cases hin : i < ne
        · obtain ⟨g1, hae, hg1⟩ := HH.out.s5.ext HB1.out i hin
          obtain ⟨g2, ham, hg2⟩ := HH.out.s6.ext HB1.out i hin
          subst hae
          subst ham
          obtain ⟨a, l, c, hbi, hl, hcs⟩ := HH.out.le i hin
          have HC : Hid (∀ k, k < l → ∃ g, a = some ⟨g, 0, none⟩ ∧ ∀ j, j < 10 → w.cell? ⟨g, k * 10 + j, none⟩ = some (.int .i64 (kev (em i) j))) := hcs
          have HG2 : Hid (w.cell? ⟨g2, i, none⟩ = some (.int .i64 (em i))) := by obtain ⟨g, q1, q2⟩ := HH.out.s6 i hin; simp only [Option.some.injEq, Addr.mk.injEq, and_true] at q1; rw [q1]; exact q2
          have HG1 : Hid (w.cell? ⟨g1, i, none⟩ = some (.slice a l c)) := by obtain ⟨g, q1, q2⟩ := HH.out.s5 i hin; simp only [Option.some.injEq, Addr.mk.injEq, and_true] at q1; rw [q1, ← hbi]; exact q2
          rw [hbi] at hg1
          clear hbi hcs hg2
          go_wp2_with fail
          obtain ⟨wb, hwb⟩ : ∃ y, y = wr := ⟨_, rfl⟩
          subst hwb
          clear c5 hg1
          go_loopw [9, 10] (fun t _ wr => ∃ k : Nat, k ≤ l ∧ t = .int .i64 k ∧ Below w.heap.size w wr) (fun t _ _ => l - (intOf t).toNat)
          case atStart => exact ⟨0, Nat.zero_le _, rfl, HB1.out⟩
          case round =>
            obtain ⟨k, hk, rfl, hB2⟩ := hrel
            have HB2 : Hid (Below w.heap.size w wr) := hB2
            have c5 := (hB2.cell (lt_of_cell HH.out.c5)).trans HH.out.c5
            have c6 := (hB2.cell (lt_of_cell HH.out.c6)).trans HH.out.c6
            have e1 := (hB2.cell (lt_of_cell HG1.out)).trans HG1.out
            have e2 := (hB2.cell (lt_of_cell HG2.out)).trans HG2.out
            clear hB2
            by_cases hkl : k < l
            · obtain ⟨g3, rfl, hg3⟩ := HC.out k hkl
              have e3 : ∀ j, j < 10 → wr.cell? ⟨g3, k * 10 + j, none⟩ = some (.int .i64 (kev (em i) j)) := fun j hj => (HB2.out.cell (lt_of_cell (hg3 j hj))).trans (hg3 j hj)
              have e30 := e3 0 (by decide)
              rw [Nat.add_zero] at e30
              clear hg3
              have hi0 : (0 : Int) ≤ (i : Int) := by omega
              have hi1 : (i : Int) < (ne : Int) := by omega
              have hk0 : (0 : Int) ≤ (k : Int) := by omega
              have hk1 : (k : Int) < (l : Int) := by omega
              have hst : sameEv (kev (em i)) (kev (em i)) = true := sameEv_self _
              have KB : ∀ {w1 : World} (_ : Below wr.heap.size wr w1) (x : Addr) (v : Value), wr.cell? x = some v → w1.cell? x = some v := fun {w1} h x v hx => (h.cell (World.block_lt_of_cell? wr x hx)).trans hx
              go_wp2_with fail
              go_region_held3 (fun w' => w'.cell? ⟨B, 5, none⟩ = some (.slice (some ⟨g1, 0, none⟩) ne ce) ∧ w'.cell? ⟨g1, i, none⟩ = some (.slice (some ⟨g3, 0, none⟩) l c) ∧ w'.cell? ⟨g3, k * 10, none⟩ = some (.int .i64 (kev (em i) 0)) ∧ w'.cell? ⟨g3, k * 10 + 1, none⟩ = some (.int .i64 (kev (em i) 1)) ∧ w'.cell? ⟨g3, k * 10 + 2, none⟩ = some (.int .i64 (kev (em i) 2)) ∧ w'.cell? ⟨g3, k * 10 + 3, none⟩ = some (.int .i64 (kev (em i) 3)) ∧ w'.cell? ⟨g3, k * 10 + 4, none⟩ = some (.int .i64 (kev (em i) 4)) ∧ w'.cell? ⟨g3, k * 10 + 5, none⟩ = some (.int .i64 (kev (em i) 5)) ∧ w'.cell? ⟨g3, k * 10 + 6, none⟩ = some (.int .i64 (kev (em i) 6)) ∧ w'.cell? ⟨g3, k * 10 + 7, none⟩ = some (.int .i64 (kev (em i) 7)) ∧ w'.cell? ⟨g3, k * 10 + 8, none⟩ = some (.int .i64 (kev (em i) 8)) ∧ w'.cell? ⟨g3, k * 10 + 9, none⟩ = some (.int .i64 (kev (em i) 9)) ∧ w'.cell? ⟨B, 6, none⟩ = some (.slice (some ⟨g2, 0, none⟩) ne cm) ∧ w'.cell? ⟨g2, i, none⟩ = some (.int .i64 (em i))) (first | go_keep | exact ⟨KB hb5 _ _ c5, KB hb5 _ _ e1, KB hb5 _ _ e30, KB hb5 _ _ (e3 1 (by decide)), KB hb5 _ _ (e3 2 (by decide)), KB hb5 _ _ (e3 3 (by decide)), KB hb5 _ _ (e3 4 (by decide)), KB hb5 _ _ (e3 5 (by decide)), KB hb5 _ _ (e3 6 (by decide)), KB hb5 _ _ (e3 7 (by decide)), KB hb5 _ _ (e3 8 (by decide)), KB hb5 _ _ (e3 9 (by decide)), KB hb5 _ _ c6, KB hb5 _ _ e2⟩) (first | (go_at_call 42; refine SameEvent_of (kev (em i)) (kev (em i)) _ _ (by rfl) (by rfl) _ _ ?_; intro w5 hb5'; have hb5 : Below wr.heap.size wr w5 := Below.trans ((Below.refl _ _).drew) hb5'; rw [hst]))
              have HB5 : Hid (Below w.heap.size w w5) := HB2.out.trans (hb5.mono HB2.out.size)
              clear hb5 hb5' c5 c6 e1 e2 e3 e30 KB hst
              go_wp2_with fail
              go_roundw
              case rel => exact ⟨k + 1, by omega, by go_num, HB5.out⟩
              case measure => simp only [intOf]; omega
            · go_wp2_with fail
              go_roundw
              case rel => exact ⟨i + 1, by omega, by go_num, HB2.out⟩
              case measure => simp only [intOf]; omega
        · go_wp2_with fail
          clear c5
          obtain ⟨wb, hwb⟩ : ∃ y, y = wr := ⟨_, rfl⟩
          subst hwb
          go_loop [11, 12] (fun t _ => ∃ i : Nat, i ≤ ni ∧ t = .int .i64 i) (fun t _ => ni - (intOf t).toNat)
          case atStart => exact ⟨0, Nat.zero_le _, rfl⟩
          case round =>
            obtain ⟨i, hi, rfl⟩ := hrel
            have c7 := (HB1.out.cell (lt_of_cell HH.out.c7)).trans HH.out.c7
            by_cases hin : i < ni
            · obtain ⟨g1, hai, hg1⟩ := HH.out.s7.ext HB1.out i hin
              subst hai
              obtain ⟨a, l, c, hbi, hl, hcs⟩ := HH.out.li.ext HB1.out i hin
              have HC : Hid (∀ k, k < l → ∃ g, a = some ⟨g, 0, none⟩ ∧ wb.cell? ⟨g, k, none⟩ = some (.int .u8 (77 : Nat)) ∧ wb.frozen? ⟨g, k, none⟩ = false) := hcs
              rw [hbi] at hg1
              clear hbi hcs
              go_wp2_with fail
              go_loop [12] (fun t => ∃ k : Nat, k ≤ l ∧ t = .int .i64 k) (fun t => l - (intOf t).toNat)
              case atStart => exact ⟨0, Nat.zero_le _, rfl⟩
              case round =>
                obtain ⟨k, hk, rfl⟩ := hrel
                by_cases hkl : k < l
                · obtain ⟨g3, rfl, hg3, _⟩ := HC.out k hkl
                  go_wp2_with fail
                  go_round
                  case rel => exact ⟨k + 1, by omega, by go_num⟩
                  case measure => simp only [intOf]; omega
                · go_wp2_with fail
                  go_round
                  case rel => exact ⟨i + 1, by omega, by go_num⟩
                  case measure => simp only [intOf]; omega
            · go_wp2_with fail
              clear c7
              go_loopw [13, 14, 15] (fun t _ _ wr => ∃ i : Nat, i ≤ nl ∧ t = .int .i64 i ∧ Below w.heap.size w wr) (fun t _ _ _ => nl - (intOf t).toNat)
              case atStart => exact ⟨0, Nat.zero_le _, rfl, HB1.out⟩
              case round =>
                obtain ⟨i, hi, rfl, hB3⟩ := hrel
                have HB3 : Hid (Below w.heap.size w wr) := hB3
                have c8 := (hB3.cell (lt_of_cell HH.out.c8)).trans HH.out.c8
                clear hB3
                by_cases hin : i < nl
                · obtain ⟨g1, hal, hg1⟩ := HH.out.s8.ext HB3.out i hin
                  subst hal
                  obtain ⟨a, l, c, hbi, hl, hcs⟩ := HH.out.ll i hin
                  have HC : Hid (∀ k, k < l → ∃ g, a = some ⟨g, 0, none⟩ ∧ ∀ j, j < 10 → w.cell? ⟨g, k * 10 + j, none⟩ = some (.int .i64 (kev (-7) j))) := hcs
                  have HG1 : Hid (w.cell? ⟨g1, i, none⟩ = some (.slice a l c)) := by obtain ⟨g, q1, q2⟩ := HH.out.s8 i hin; simp only [Option.some.injEq, Addr.mk.injEq, and_true] at q1; rw [q1, ← hbi]; exact q2
                  rw [hbi] at hg1
                  clear hbi hcs
                  go_wp2_with fail
                  obtain ⟨wc, hwc⟩ : ∃ y, y = wr := ⟨_, rfl⟩
                  subst hwc
                  clear c8 hg1
                  go_loopw [14, 15] (fun t _ wr => ∃ k : Nat, k ≤ l ∧ t = .int .i64 k ∧ Below w.heap.size w wr) (fun t _ _ => l - (intOf t).toNat)
                  case atStart => exact ⟨0, Nat.zero_le _, rfl, HB3.out⟩
                  case round =>
                    obtain ⟨k, hk, rfl, hB4⟩ := hrel
                    have HB4 : Hid (Below w.heap.size w wr) := hB4
                    have c8 := (hB4.cell (lt_of_cell HH.out.c8)).trans HH.out.c8
                    have e1 := (hB4.cell (lt_of_cell HG1.out)).trans HG1.out
                    clear hB4
                    by_cases hkl : k < l
                    · obtain ⟨g3, rfl, hg3⟩ := HC.out k hkl
                      have e3 : ∀ j, j < 10 → wr.cell? ⟨g3, k * 10 + j, none⟩ = some (.int .i64 (kev (-7) j)) := fun j hj => (HB4.out.cell (lt_of_cell (hg3 j hj))).trans (hg3 j hj)
                      have e30 := e3 0 (by decide)
                      rw [Nat.add_zero] at e30
                      clear hg3
                      go_wp2_with fail
                      refine SameEvent_of (kev (-7)) (kev (-7)) _ _ (by rfl) (by rfl) _ _ ?_
                      intro w5 hb5
                      rw [sameEv_self]
                      have HB5 : Hid (Below w.heap.size w w5) := HB4.out.trans (hb5.mono HB4.out.size)
                      clear hb5 c8 e1 e3 e30
                      go_wp2_with fail
                      go_roundw
                      case rel => exact ⟨k + 1, by omega, by go_num, HB5.out⟩
                      case measure => simp only [intOf]; omega
                    · go_wp2_with fail
                      go_roundw
                      case rel => exact ⟨i + 1, by omega, by go_num, HB4.out⟩
                      case measure => simp only [intOf]; omega
                · go_wp2_with fail
                  exact HR.out _ HB3.out
#print axioms kept_any
end Go.Proofs.YtmiiejinahnpkaaGreatDoor
