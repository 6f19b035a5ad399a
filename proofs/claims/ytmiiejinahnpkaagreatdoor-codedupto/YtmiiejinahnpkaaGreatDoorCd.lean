/- The caller's world of the law, in memory: its struct, its shelves, the lists on them; what each step leaves of it. (Here: where no list of orders has come out.) -/
import Derived.Test.YtmiiejinahnpkaaGreatDoorCc
import Derived.Test.YtmiiejinahnpkaaGreatDoorBm
namespace Go.Proofs.YtmiiejinahnpkaaGreatDoor
open Go.RowKit

/-- a list on a shelf: nothing, or a row of its own block that bears the tag, all of whose cells are told -/
def Ent (base : Nat) (own : Nat → Nat × Int) (tag : Nat × Int) (w : World) (e : TypeId) (size : Nat) (v : Value) (φ : Nat → Value) : Prop :=
  ∃ a n c, v = .slice a n c ∧ n ≤ 67108864 ∧ (n = 0 ∨ ∃ (g : Nat) (cur : Array Value), a = some ⟨g, 0, none⟩ ∧ base ≤ g ∧ own g = tag ∧ w.heap[g]? = some (.cells cur e (0, 0)) ∧ n * size ≤ cur.size ∧ ∀ k, k < n * size → cur[k]? = some (φ k))

/-- what holds a tag stays -/
structure Stays (base : Nat) (own : Nat → Nat × Int) (T : Nat × Int → Prop) (w : World) (own' : Nat → Nat × Int) (w' : World) : Prop where
  size : w.heap.size ≤ w'.heap.size
  tag : ∀ g, g < w.heap.size → own' g = own g
  blk : ∀ g, g < w.heap.size → base ≤ g → T (own g) → w'.heap[g]? = w.heap[g]?

theorem lt_of_heap {w : World} {g : Nat} {o : Obj} (h : w.heap[g]? = some o) : g < w.heap.size := (Array.getElem?_eq_some_iff.1 h).1

theorem Ent.stays {base : Nat} {own own' : Nat → Nat × Int} {tag : Nat × Int} {T : Nat × Int → Prop} {w w' : World} {e : TypeId} {size : Nat} {v : Value} {φ : Nat → Value} (h : Ent base own tag w e size v φ) (hs : Stays base own T w own' w') (hT : T tag) : Ent base own' tag w' e size v φ := by
  obtain ⟨a, n, c, h1, h2, h3⟩ := h
  refine ⟨a, n, c, h1, h2, ?_⟩
  rcases h3 with h3 | ⟨g, cur, h4, h5, h6, h7, h8, h9⟩
  · exact .inl h3
  · have hlt := lt_of_heap h7
    exact .inr ⟨g, cur, h4, h5, by rw [hs.tag g hlt]; exact h6, by rw [hs.blk g hlt h5 (by rw [h6]; exact hT)]; exact h7, h8, h9⟩

theorem own_stays {base : Nat} {own own' : Nat → Nat × Int} {tag : Nat × Int} {T : Nat × Int → Prop} {w w' : World} {e : TypeId} {v : Value} {n : Nat} {xs : List Value} (h : w.ownsRow base e 1 v n xs) (ht : ∀ g, v.ownBlock = some g → own g = tag) (hs : Stays base own T w own' w') (hT : T tag) :
    w'.ownsRow base e 1 v n xs ∧ ∀ g, v.ownBlock = some g → own' g = tag := by
  have hl := h.lt
  refine ⟨⟨h.1, ?_⟩, fun g hg => by rw [hs.tag g (hl g hg).2]; exact ht g hg⟩
  rcases h.2 with h2 | ⟨g, cap, cur, rfl, hb, hg, r⟩
  · exact .inl h2
  · refine .inr ⟨g, cap, cur, rfl, hb, ?_, r⟩
    rw [hs.blk g (lt_of_heap hg) hb (by rw [ht g rfl]; exact hT)]
    exact hg

/-- the world -/
structure WI (base B : Nat) (own : Nat → Nat × Int) (w : World) (f : Nat → Value) (bs : List Value) (ms : List Nat) (es : List Value) (em : List Int) (is_ ls : List Value) (last : Int) (many : Nat) : Prop where
  blk : w.heap[B]? = some (.cells #[f 0, f 1, f 2, f 3, f 4, f 5, f 6, f 7, f 8, .int .i64 last, .int .i64 (many : Nat)] 30 (0, 0))
  hB : base ≤ B
  oB : own B = (0, 0)
  o3 : f 3 = .slice none 0 0
  r1 : w.ownsRow base 31 1 (f 1) bs.length bs
  t1 : ∀ g, (f 1).ownBlock = some g → own g = (1, 1)
  r2 : w.ownsRow base 3 1 (f 2) ms.length (ms.map fun m => .int .i64 (m : Nat))
  t2 : ∀ g, (f 2).ownBlock = some g → own g = (1, 2)
  r5 : w.ownsRow base 32 1 (f 5) es.length es
  t5 : ∀ g, (f 5).ownBlock = some g → own g = (1, 5)
  r6 : w.ownsRow base 3 1 (f 6) em.length (em.map fun m => .int .i64 m)
  t6 : ∀ g, (f 6).ownBlock = some g → own g = (1, 6)
  r7 : w.ownsRow base 31 1 (f 7) is_.length is_
  t7 : ∀ g, (f 7).ownBlock = some g → own g = (1, 7)
  r8 : w.ownsRow base 32 1 (f 8) ls.length ls
  t8 : ∀ g, (f 8).ownBlock = some g → own g = (1, 8)
  lb : ∀ (i : Nat) (v : Value) (m : Nat), bs[i]? = some v → ms[i]? = some m → Ent base own (2, m) w 5 1 v (fun _ => .int .u8 (dg m 0 : Nat)) ∧ m ≤ many
  le : ∀ (i : Nat) (v : Value) (m : Int), es[i]? = some v → em[i]? = some m → Ent base own (3, m) w 42 10 v (fun k => .int .i64 (kev m (k % 10)))
  li : ∀ (i : Nat) (v : Value), is_[i]? = some v → Ent base own (4, i) w 5 1 v (fun _ => .int .u8 (77 : Nat))
  ll : ∀ (i : Nat) (v : Value), ls[i]? = some v → Ent base own (5, i) w 42 10 v (fun k => .int .i64 (kev (-7) (k % 10)))
  nn : bs.length ≤ 67108864 ∧ es.length ≤ 67108864 ∧ is_.length ≤ 67108864 ∧ ls.length ≤ 67108864 ∧ many ≤ 67108864 ∧ ms.length ≤ 67108864 ∧ em.length ≤ 67108864

theorem Stays.of_below {base : Nat} {own : Nat → Nat × Int} {w w' : World} (h : Below w.heap.size w w') : Stays base own (fun _ => True) w own w' := ⟨h.size, fun _ _ => rfl, fun g hg _ _ => h.block g hg⟩

/-- nothing that it holds has turned -/
theorem WI.stays {base B : Nat} {own own' : Nat → Nat × Int} {w w' : World} {f : Nat → Value} {bs : List Value} {ms : List Nat} {es : List Value} {em : List Int} {is_ ls : List Value} {last : Int} {many : Nat}
    (h : WI base B own w f bs ms es em is_ ls last many) (T : Nat × Int → Prop) (hs : Stays base own T w own' w') (h0 : T (0, 0)) (h1 : ∀ x, T (1, x)) (h2 : ∀ m : Nat, m ≤ many → T (2, m)) (h3 : ∀ m, T (3, m)) (h4 : ∀ m : Nat, T (4, m)) (h5 : ∀ m : Nat, T (5, m)) :
    WI base B own' w' f bs ms es em is_ ls last many := by
  have hlt := lt_of_heap h.blk
  refine ⟨by rw [hs.blk B hlt h.hB (by rw [h.oB]; exact h0)]; exact h.blk, h.hB, by rw [hs.tag B hlt]; exact h.oB, h.o3, (own_stays h.r1 h.t1 hs (h1 _)).1, (own_stays h.r1 h.t1 hs (h1 _)).2, (own_stays h.r2 h.t2 hs (h1 _)).1, (own_stays h.r2 h.t2 hs (h1 _)).2, (own_stays h.r5 h.t5 hs (h1 _)).1, (own_stays h.r5 h.t5 hs (h1 _)).2, (own_stays h.r6 h.t6 hs (h1 _)).1, (own_stays h.r6 h.t6 hs (h1 _)).2, (own_stays h.r7 h.t7 hs (h1 _)).1, (own_stays h.r7 h.t7 hs (h1 _)).2, (own_stays h.r8 h.t8 hs (h1 _)).1, (own_stays h.r8 h.t8 hs (h1 _)).2, ?_, ?_, ?_, ?_, h.nn⟩
  · intro i v m q1 q2
    obtain ⟨q3, q4⟩ := h.lb i v m q1 q2
    exact ⟨q3.stays hs (h2 m q4), q4⟩
  · intro i v m q1 q2
    exact (h.le i v m q1 q2).stays hs (h3 m)
  · intro i v q1
    exact (h.li i v q1).stays hs (h4 i)
  · intro i v q1
    exact (h.ll i v q1).stays hs (h5 i)

theorem WI.ext {base B : Nat} {own : Nat → Nat × Int} {w w' : World} {f : Nat → Value} {bs : List Value} {ms : List Nat} {es : List Value} {em : List Int} {is_ ls : List Value} {last : Int} {many : Nat}
    (h : WI base B own w f bs ms es em is_ ls last many) (hb : Below w.heap.size w w') : WI base B own w' f bs ms es em is_ ls last many :=
  h.stays (fun _ => True) (Stays.of_below hb) trivial (fun _ => trivial) (fun _ _ => trivial) (fun _ => trivial) (fun _ => trivial) (fun _ => trivial)

theorem shelf_of {w : World} {base : Nat} {e : TypeId} {v : Value} {n : Nat} {xs : List Value} (h : w.ownsRow base e 1 v n xs) :
    ∃ a c, v = .slice a n c ∧ Shelf w a n (fun i => xs.getD i undef) ∧ ∀ g o, a = some ⟨g, o, none⟩ → v.ownBlock = some g := by
  obtain ⟨a, c, rfl⟩ := own_form h
  refine ⟨a, c, rfl, ?_, ?_⟩
  · intro i hi
    have hl : xs.length = n := by have := h.1; omega
    obtain ⟨g, cap, h1, _, _, _, h5, _⟩ := own_cell h i (xs[i]'(by omega)) (List.getElem?_eq_getElem (by omega))
    simp only [Value.slice.injEq] at h1
    refine ⟨g, h1.1, ?_⟩
    rw [h5]
    simp [hl, hi]
  · intro g o hg
    rw [hg]
    rfl

theorem WI.held {base B : Nat} {own : Nat → Nat × Int} {w : World} {f : Nat → Value} {bs : List Value} {ms : List Nat} {es : List Value} {em : List Int} {is_ ls : List Value} {last : Int} {many : Nat}
    (h : WI base B own w f bs ms es em is_ ls last many) (hl : ms.length = bs.length) (hle : em.length = es.length) :
    ∃ ab ao ae am ai al cb co ce cm ci cl, Held w B ab ao ae am ai al bs.length cb co es.length ce cm is_.length ci ls.length cl none 0 (fun i => bs.getD i undef) (fun i => ms.getD i 0) (fun i => es.getD i undef) (fun i => em.getD i 0) (fun i => is_.getD i undef) (fun i => ls.getD i undef) := by
  obtain ⟨ab, cb, e1, s1, g1⟩ := shelf_of h.r1
  obtain ⟨ao, co, e2, s2, g2⟩ := shelf_of h.r2
  obtain ⟨ae, ce, e5, s5, _⟩ := shelf_of h.r5
  obtain ⟨am, cm, e6, s6, _⟩ := shelf_of h.r6
  obtain ⟨ai, ci, e7, s7, _⟩ := shelf_of h.r7
  obtain ⟨al, cl, e8, s8, _⟩ := shelf_of h.r8
  rw [hl] at e2 s2
  rw [hle] at e6 s6
  obtain ⟨n1, n2, n3, n4, n5, _⟩ := h.nn
  have hcell : ∀ (i : Nat) (v : Value), (#[f 0, f 1, f 2, f 3, f 4, f 5, f 6, f 7, f 8, .int .i64 last, .int .i64 (many : Nat)] : Array Value)[i]? = some v → w.cell? ⟨B, i, none⟩ = some v := fun i v hv => by rw [cell_of_row w B i _ _ (0, 0) h.blk]; exact hv
  have getb : ∀ i, i < bs.length → bs[i]? = some (bs.getD i undef) := fun i hi => by simp [hi]
  have getm : ∀ i, i < bs.length → ms[i]? = some (ms.getD i 0) := fun i hi => by rw [← hl] at hi; simp [hi]
  have hent : ∀ i g l c, i < bs.length → bs.getD i undef = .slice (some ⟨g, 0, none⟩) l c → 0 < l → own g = (2, ((ms.getD i 0 : Nat) : Int)) := by
    intro i g l c hi hb hl0
    obtain ⟨⟨a, n, c', q1, _, q3⟩, _⟩ := h.lb i _ _ (getb i hi) (getm i hi)
    rw [hb] at q1
    simp only [Value.slice.injEq] at q1
    obtain ⟨q4, rfl, _⟩ := q1
    rcases q3 with q3 | ⟨g', cur, q5, _, q6, _⟩
    · omega
    · rw [← q4] at q5
      simp only [Option.some.injEq, Addr.mk.injEq, and_true] at q5
      rw [q5]
      exact q6
  have hcov : ∀ g k, Cov (fun i => bs.getD i undef) bs.length g k → ∃ m : Nat, own g = (2, (m : Int)) := by
    rintro g k ⟨i, l, c, hi, hb, hk⟩
    exact ⟨_, hent i g l c hi hb (by omega)⟩
  refine ⟨ab, ao, ae, am, ai, al, cb, co, ce, cm, ci, cl, hcell 1 _ (by rw [← e1]; rfl), hcell 2 _ (by rw [← e2]; rfl), hcell 3 _ (by rw [← h.o3]; rfl), hcell 5 _ (by rw [← e5]; rfl), hcell 6 _ (by rw [← e6]; rfl), hcell 7 _ (by rw [← e7]; rfl), hcell 8 _ (by rw [← e8]; rfl), ⟨by omega, by omega, by omega, by omega⟩, ?_, s1, ?_, s5, ?_, s7, s8, ?_, ?_, ?_, ?_, ?_, ?_, ?_, ?_⟩
  · intro i hi
    have := (h.lb i _ _ (getb i hi) (getm i hi)).2
    omega
  · intro i hi
    obtain ⟨g, q1, q2⟩ := s2 i hi
    refine ⟨g, q1, ?_⟩
    rw [q2]
    simp only [List.getD_eq_getElem?_getD, List.getElem?_map]
    rw [getm i hi]
    simp
  · intro i hi
    obtain ⟨g, q1, q2⟩ := s6 i hi
    refine ⟨g, q1, ?_⟩
    rw [q2]
    rw [← hle] at hi
    simp [hi]
  · intro i hi
    obtain ⟨⟨a, n, c, q1, q2, q3⟩, _⟩ := h.lb i _ _ (getb i hi) (getm i hi)
    refine ⟨a, n, c, q1, by omega, fun k hk => ?_⟩
    rcases q3 with q3 | ⟨g, cur, q4, _, _, q6, _, q8⟩
    · omega
    · exact ⟨g, q4, by rw [cell_of_row w g k cur _ (0, 0) q6]; exact q8 k (by omega), by simp [World.frozen?, q6]⟩
  · intro i hi
    have gm : em[i]? = some (em.getD i 0) := by rw [← hle] at hi; simp [hi]
    obtain ⟨a, n, c, q1, q2, q3⟩ := h.le i _ _ (show es[i]? = some (es.getD i undef) by simp [hi]) gm
    refine ⟨a, n, c, q1, by omega, fun k hk => ?_⟩
    rcases q3 with q3 | ⟨g, cur, q4, _, _, q6, _, q8⟩
    · omega
    · refine ⟨g, q4, fun j hj => ?_⟩
      rw [cell_of_row w g _ cur _ (0, 0) q6, q8 (k * 10 + j) (by omega)]
      simp only
      rw [show (k * 10 + j) % 10 = j by omega]
  · intro i hi
    obtain ⟨a, n, c, q1, q2, q3⟩ := h.li i _ (show is_[i]? = some (is_.getD i undef) by simp [hi])
    refine ⟨a, n, c, q1, by omega, fun k hk => ?_⟩
    rcases q3 with q3 | ⟨g, cur, q4, _, _, q6, _, q8⟩
    · omega
    · exact ⟨g, q4, by rw [cell_of_row w g k cur _ (0, 0) q6]; exact q8 k (by omega), by simp [World.frozen?, q6]⟩
  · intro i hi
    obtain ⟨a, n, c, q1, q2, q3⟩ := h.ll i _ (show ls[i]? = some (ls.getD i undef) by simp [hi])
    refine ⟨a, n, c, q1, by omega, fun k hk => ?_⟩
    rcases q3 with q3 | ⟨g, cur, q4, _, _, q6, _, q8⟩
    · omega
    · refine ⟨g, q4, fun j hj => ?_⟩
      rw [cell_of_row w g _ cur _ (0, 0) q6, q8 (k * 10 + j) (by omega)]
      simp only
      rw [show (k * 10 + j) % 10 = j by omega]
  · intro k hc
    obtain ⟨m, hm⟩ := hcov B k hc
    rw [h.oB] at hm
    simp at hm
  · intro g k hg hc
    obtain ⟨m, hm⟩ := hcov g k hc
    rw [h.t1 g (g1 g 0 hg)] at hm
    simp at hm
  · intro g k hg hc
    obtain ⟨m, hm⟩ := hcov g k hc
    rw [h.t2 g (g2 g 0 hg)] at hm
    simp at hm
  · intro i j g l c l' c' hi hj hbi hbj hl0 hl0'
    have q1 := hent i g l c hi hbi hl0
    have q2 := hent j g l' c' hj hbj hl0'
    rw [q1] at q2
    simp only [Prod.mk.injEq, true_and] at q2
    exact Int.ofNat.inj q2
end Go.Proofs.YtmiiejinahnpkaaGreatDoor
