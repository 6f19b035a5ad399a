/- Appends whose older rows are still held; lists that were painted; the caller's world whole. -/
import Derived.Test.YtmiiejinahnpkaaGreatDoorCe
namespace Go.Proofs.YtmiiejinahnpkaaGreatDoor
open Go.RowKit

/-- behind an append: in the same block, or in a new one, and then nothing that was there has turned -/
def Apart (w : World) (v : Value) (w1 : World) (v' : Value) : Prop := v'.ownBlock = v.ownBlock ∨ ∀ k, k < w.heap.size → w1.heap[k]? = w.heap[k]?

theorem run_push_kept {P : Program} (w : World) (t ty : TypeId) (base : Nat) (e : TypeId) (i : TypeInfo) (z : Value) (size bytes : Nat) (ht : P.underlying t = some (.slice e)) (hi : P.info? e = some i) (hz : i.zero = some z)
    (hsize : i.size = size) (hby : i.bytes = bytes) (hzs : z.cells.size = size) (hsz : 0 < size)
    (v : Value) (n : Nat) (xs : List Value) (hown : w.ownsRow base e size v n xs)
    (ad : Addr) (c : Nat) (news : List Value) (hl : news.length = 1 * size) (hnews : ∀ j u, news[j]? = some u → w.cell? (ad.add j) = some u) (h1 : ∀ u ∈ news, u.oneCell' = true)
    (h63 : n + 1 ≤ maxLen) (hbytes : (n + 1) * bytes ≤ 140737488355328) (hbase : base ≤ w.heap.size) (H : Nat) (hH : w.heap.size = H) :
    ∃ g cap w', (Builtin.append_ #[t, t] ty #[v, .slice (some ad) 1 c]).run P w = .ok (.slice (some ⟨g, 0, none⟩) (n + 1) cap) w' ∧
      w'.ownsRow base e size (.slice (some ⟨g, 0, none⟩) (n + 1) cap) (n + 1) (xs ++ news) ∧ w.grownBy w' v.ownBlock ∧ (v.ownBlock = some g ∨ g = H) ∧ Apart w v w' (.slice (some ⟨g, 0, none⟩) (n + 1) cap) := by
  obtain ⟨g, cap, w', hr, h2, h3, h4, h5⟩ := run_append_lies (P := P) w t ty base e i z size bytes ht hi hz hsize hby hzs hsz v n xs hown ad 1 c news hl hnews h1 (by decide) h63 hbytes hbase H hH
  refine ⟨g, cap, w', hr, h2, h3, h4, ?_⟩
  have hsmall : n + 1 ≤ 9223372036854775807 := by simp only [maxLen] at h63; omega
  subst hsize
  subst hby
  rcases hown.2 with ⟨rfl, rfl⟩ | ⟨g', cap', cur, rfl, hbg, hg, hnc, hcm, hcs, htake⟩
  · right
    have hq := run_append_nil (P := P) w t ty e i z ht hi hz ad 1 c news hl hnews (by decide) (by decide) (by have hb := hbytes; simp only [Nat.zero_add] at hb; omega)
    rw [hr] at hq
    simp only [Result.ok.injEq] at hq
    rw [hq.2]
    exact fun k hk => Below.heap_alloc w.drew _ k hk
  · by_cases hroom : n + 1 ≤ cap'
    · left
      have hfit : n * i.size + news.length ≤ cur.size := by rw [hl, hcs, ← Nat.add_mul]; exact Nat.mul_le_mul_right _ hroom
      have hq := run_append_room (P := P) w t ty e i ht hi g' n cap' cur hg ad 1 c news hl hnews h1 hroom hfit
      rw [hr] at hq
      simp only [Result.ok.injEq] at hq
      rw [hq.1]
      rfl
    · right
      have holds : ∀ j u, xs[j]? = some u → w.cell? ((⟨g', 0, none⟩ : Addr).add j) = some u := hown.cells (g := g') rfl
      have hq := run_append_grow (P := P) w t ty e i z ht hi hz ⟨g', 0, none⟩ n cap' xs hown.1 holds ad 1 c news hl hnews (by omega) (by omega) (growslice_fits (by omega) hbytes)
      rw [hr] at hq
      simp only [Result.ok.injEq] at hq
      rw [hq.2]
      exact fun k hk => Below.heap_alloc w.drew _ k hk

theorem Apart.alloc {w : World} {o : Obj} {v : Value} {w1 : World} {v' : Value} (h : Apart (w.alloc o) v w1 v') : Apart w v w1 v' := by
  rcases h with h | h
  · exact .inl h
  · exact .inr fun k hk => (h k (by simp; omega)).trans (Below.heap_alloc _ _ _ hk)

/-- 'b = append(b, x)', where older lists of b's block are still held -/
theorem push_kept {P : Program} {ops : Array Oper} {rest : List Oper} {o : Oper} {a : Act} {Q : Exit → Act → World → Prop} {W : World} {arr : Array Value} {e : TypeId}
    (B size bytes n : Nat) (v : Value) (xs : List Value) (z : Value) (hown : W.ownsRow B e size v n xs) (hB : B ≤ W.heap.size)
    (hinfo : (P.info? e).map (fun i => (i.zero, i.size, i.bytes)) = some (some z, size, bytes)) (hzs : z.cells.size = size) (hsz : 0 < size) (harr : arr.size = size)
    (h1 : ∀ u ∈ arr.toList, u.oneCell' = true) (hn : n + 1 ≤ 1073741824) (hby : bytes ≤ 256)
    (s y : Operand) (t : TypeId) (ht : P.underlying t = some (.slice e)) (hgd : o.guard = none) (ho : o.op = .call { callee := .builtin .append, args := #[s, y], argTypes := #[t, t] })
    (hs : a.eval s = v) (hy : a.eval y = .slice (some ⟨W.heap.size, 0, none⟩) 1 1)
    (h : ∀ v' w', Grew B e size W v w' v' (n + 1) (xs ++ arr.toList) → Apart W v w' v' → wpList P ops Q rest (a.put o.dst v') w') :
    wpList P ops Q (o :: rest) a (W.alloc (.cells arr e)) := by
  obtain ⟨i0, hi, hz0, hz1, hz2⟩ := info_parts hinfo
  refine wpList_plain hgd fun K hK => ?_
  obtain ⟨g, cap, w1, hr, h2, h3, h4, h5⟩ := run_push_kept (P := P) (W.alloc (.cells arr e)) t o.type B e i0 z size bytes ht hi hz0 hz1 hz2 hzs hsz v n xs (hown.alloc _) ⟨W.heap.size, 0, none⟩ 1 arr.toList (by simp [harr])
    (World.news_of_block (heap_alloc_new W _)) h1 (by unfold maxLen; omega) (Nat.le_trans (Nat.mul_le_mul hn hby) (by decide)) (by simp; omega) (W.heap.size + 1) (by simp)
  unfold Oper.wp execOp
  simp only [ho, resolve, invoke, builtin, Sem.run_bind, Sem.run_pure, Result.andThen_ok, List.map_toArray, List.map_cons, List.map_nil, hs, hy, hr]
  exact hK _ _ (h _ _ (Grew.of_lies _ h2 h3 h4) h5.alloc)

theorem push_kept_at {P : Program} {ops : Array Oper} {rest : List Oper} {o : Oper} {a : Act} {Q : Exit → Act → World → Prop} {W : World} {arr : Array Value} {e : TypeId}
    (H : Nat) (hH : W.heap.size = H) (B size bytes n : Nat) (v : Value) (xs : List Value) (z : Value) (hown : W.ownsRow B e size v n xs) (hB : B ≤ W.heap.size)
    (hinfo : (P.info? e).map (fun i => (i.zero, i.size, i.bytes)) = some (some z, size, bytes)) (hzs : z.cells.size = size) (hsz : 0 < size) (harr : arr.size = size)
    (h1 : ∀ u ∈ arr.toList, u.oneCell' = true) (hn : n + 1 ≤ 1073741824) (hby : bytes ≤ 256)
    (s y : Operand) (t : TypeId) (ht : P.underlying t = some (.slice e)) (hgd : o.guard = none) (ho : o.op = .call { callee := .builtin .append, args := #[s, y], argTypes := #[t, t] })
    (hs : a.eval s = v) (hy : a.eval y = .slice (some ⟨H, 0, none⟩) 1 1)
    (h : ∀ v' w', Grew B e size W v w' v' (n + 1) (xs ++ arr.toList) → Apart W v w' v' → wpList P ops Q rest (a.put o.dst v') w') :
    wpList P ops Q (o :: rest) a (W.alloc (.cells arr e)) := by
  subst hH
  exact push_kept B size bytes n v xs z hown hB hinfo hzs hsz harr h1 hn hby s y t ht hgd ho hs hy h

/-- a cell of an owned row is set -/
theorem own_set {w : World} {base : Nat} {e : TypeId} {size : Nat} {v : Value} {n : Nat} {xs : List Value} (h : w.ownsRow base e size v n xs) (g k : Nat) (x : Value) (hg : v.ownBlock = some g) :
    (w.setCell ⟨g, k, none⟩ x).ownsRow base e size v n (xs.set k x) := by
  refine ⟨by rw [List.length_set]; exact h.1, ?_⟩
  rcases h.2 with ⟨rfl, _⟩ | ⟨g', cap, cur, rfl, hb, hgg, r1, r2, r3, r4⟩
  · simp [Value.ownBlock] at hg
  · simp [Value.ownBlock] at hg
    subst hg
    refine .inr ⟨g', cap, cur.setIfInBounds k x, rfl, hb, set_blk hgg, r1, r2, by simpa using r3, ?_⟩
    rw [Array.toList_setIfInBounds, ← r4, List.take_set]

theorem own_cells_of {w : World} {base : Nat} {e : TypeId} {size : Nat} {v : Value} {n : Nat} {xs : List Value} (h : w.ownsRow base e size v n xs) (i : Nat) (u : Value) (hu : xs[i]? = some u) :
    ∃ g cap, v = .slice (some ⟨g, 0, none⟩) n cap ∧ base ≤ g ∧ g < w.heap.size ∧ n ≤ cap ∧ w.cell? ⟨g, i, none⟩ = some u ∧ w.frozen? ⟨g, i, none⟩ = false := by
  rcases h.2 with ⟨_, h0⟩ | ⟨g, cap, cur, hv, hb, hg, hnc, _, _, htake⟩
  · have := h.1
    rw [h0] at this
    have : xs = [] := List.eq_nil_of_length_eq_zero (by simpa using this)
    rw [this] at hu
    simp at hu
  · refine ⟨g, cap, hv, hb, (Array.getElem?_eq_some_iff.1 hg).1, hnc, ?_, ?_⟩
    · rw [cell_of_row w g i cur e (0, 0) hg]
      rw [← htake, List.getElem?_take] at hu
      split at hu
      · simpa using hu
      · cases hu
    · simp [World.frozen?, hg]

theorem Stays.set {base : Nat} {own : Nat → Nat × Int} {w : World} {g k : Nat} {x : Value} : Stays base own (fun t => t ≠ own g) w own (w.setCell ⟨g, k, none⟩ x) :=
  ⟨by simp [World.setCell], fun _ _ => rfl, fun q _ _ hT => Below.heap_setCell w ⟨g, k, none⟩ x q (fun e => hT (by rw [e]))⟩

/-- told cells, in number -/
def told (φ : Nat → Value) (n : Nat) : List Value := (List.range n).map φ

theorem told_length (φ : Nat → Value) (n : Nat) : (told φ n).length = n := by simp [told]
theorem told_get (φ : Nat → Value) (n i : Nat) (h : i < n) : (told φ n)[i]? = some (φ i) := by simp [told, h]
theorem told_of {xs : List Value} {φ : Nat → Value} {n : Nat} (hl : xs.length = n) (h : ∀ i, i < n → xs[i]? = some (φ i)) : xs = told φ n := by
  refine List.ext_getElem? fun i => ?_
  by_cases hi : i < n
  · rw [h i hi, told_get φ n i hi]
  · rw [List.getElem?_eq_none (by omega), List.getElem?_eq_none (by rw [told_length]; omega)]

/-- a list that came out, of a mark, no longer than N -/
def EntN (base : Nat) (own : Nat → Nat × Int) (tag : Nat × Int) (w : World) (e : TypeId) (size : Nat) (φ : Nat → Value) (N : Nat) (v : Value) : Prop :=
  Ent base own tag w e size v φ ∧ ∃ a n c, v = .slice a n c ∧ n ≤ N

theorem EntN.own {base : Nat} {own : Nat → Nat × Int} {tag : Nat × Int} {w : World} {e : TypeId} {size : Nat} {φ : Nat → Value} {n : Nat} {v : Value}
    (h : w.ownsRow base e size v n (told φ (n * size))) (ht : ∀ g, v.ownBlock = some g → own g = tag) (hn : n ≤ 67108864) : EntN base own tag w e size φ n v := by
  rcases h.2 with ⟨rfl, rfl⟩ | ⟨g, cap, cur, rfl, hb, hg, r1, r2, r3, r4⟩
  · exact ⟨⟨none, 0, 0, rfl, by omega, .inl rfl⟩, none, 0, 0, rfl, Nat.le_refl _⟩
  · refine ⟨⟨_, n, cap, rfl, hn, .inr ⟨g, cur, rfl, hb, ht g rfl, hg, by rw [r3]; exact Nat.mul_le_mul_right _ r1, fun k hk => ?_⟩⟩, _, n, cap, rfl, Nat.le_refl _⟩
    have hq := told_get φ (n * size) k hk
    rw [← r4, List.getElem?_take, if_pos hk] at hq
    simpa using hq

theorem EntN.push {base : Nat} {own : Nat → Nat × Int} {tag : Nat × Int} {w w1 : World} {e : TypeId} {size : Nat} {φ : Nat → Value} {n : Nat} {l l' v : Value} (h : EntN base own tag w e size φ n v)
    (hG : Grew base e size w l w1 l' (n + 1) (told φ ((n + 1) * size))) (hA : Apart w l w1 l') : EntN base (newTag own w l' tag) tag w1 e size φ (n + 1) v := by
  obtain ⟨⟨a, m, c, rfl, h2, h3⟩, a', m', c', h4, h5⟩ := h
  simp only [Value.slice.injEq] at h4
  obtain ⟨rfl, rfl, rfl⟩ := h4
  refine ⟨⟨a, m, c, rfl, h2, ?_⟩, a, m, c, rfl, by omega⟩
  rcases h3 with h3 | ⟨g, cur, q1, q2, q3, q4, q5, q6⟩
  · exact .inl h3
  · have hlt := lt_of_heap q4
    have keep : w1.heap[g]? = w.heap[g]? → m = 0 ∨ ∃ (g : Nat) (cur : Array Value), a = some ⟨g, 0, none⟩ ∧ base ≤ g ∧ newTag own w l' tag g = tag ∧ w1.heap[g]? = some (.cells cur e (0, 0)) ∧ m * size ≤ cur.size ∧ ∀ k, k < m * size → cur[k]? = some (φ k) :=
      fun hk => .inr ⟨g, cur, q1, q2, by rw [newTag_old hlt]; exact q3, by rw [hk]; exact q4, q5, q6⟩
    rcases hA with hA | hA
    · by_cases hgl : some g = l.ownBlock
      · rw [← hA] at hgl
        rcases hG.own.2 with ⟨_, r0⟩ | ⟨g', cap', cur', rfl, _, r2, r3, _, r5, r6⟩
        · omega
        · simp only [Value.ownBlock, Option.some.injEq] at hgl
          subst hgl
          refine .inr ⟨g, cur', q1, q2, by rw [newTag_old hlt]; exact q3, r2, ?_, fun k hk => ?_⟩
          · rw [r5]
            exact Nat.mul_le_mul_right _ (by omega)
          · have hk' : k < (n + 1) * size := Nat.lt_of_lt_of_le hk (Nat.mul_le_mul_right _ (by omega))
            have hq := told_get φ ((n + 1) * size) k hk'
            rw [← r6, List.getElem?_take, if_pos hk'] at hq
            simpa using hq
      · exact keep (hG.grown.block g hlt hgl)
    · exact keep (hA g hlt)

theorem EntN.stays {base : Nat} {own own' : Nat → Nat × Int} {tag : Nat × Int} {T : Nat × Int → Prop} {w w' : World} {e : TypeId} {size : Nat} {v : Value} {φ : Nat → Value} {N : Nat} (h : EntN base own tag w e size φ N v) (hs : Stays base own T w own' w') (hT : T tag) : EntN base own' tag w' e size φ N v :=
  ⟨h.1.stays hs hT, h.2⟩

theorem own_stays' {base : Nat} {own own' : Nat → Nat × Int} {tag : Nat × Int} {T : Nat × Int → Prop} {w w' : World} {e : TypeId} {size : Nat} {v : Value} {n : Nat} {xs : List Value} (h : w.ownsRow base e size v n xs) (ht : ∀ g, v.ownBlock = some g → own g = tag) (hs : Stays base own T w own' w') (hT : T tag) :
    w'.ownsRow base e size v n xs ∧ ∀ g, v.ownBlock = some g → own' g = tag := by
  have hl := h.lt
  refine ⟨⟨h.1, ?_⟩, fun g hg => by rw [hs.tag g (hl g hg).2]; exact ht g hg⟩
  rcases h.2 with h2 | ⟨g, cap, cur, rfl, hb, hg, r⟩
  · exact .inl h2
  · refine .inr ⟨g, cap, cur, rfl, hb, ?_, r⟩
    rw [hs.blk g (lt_of_heap hg) hb (by rw [ht g rfl]; exact hT)]
    exact hg

/-- what a call made, adopted under a tag -/
theorem adopt {base : Nat} {own : Nat → Nat × Int} {w w' : World} {v : Value} {t : Nat × Int} {e : TypeId} {size n : Nat} {xs : List Value} (hb : Below w.heap.size w w') (hv : w'.ownsRow w.heap.size e size v n xs) (hbase : base ≤ w.heap.size) :
    Stays base own (fun _ => True) w (newTag own w v t) w' ∧ w'.ownsRow base e size v n xs ∧ ∀ g, v.ownBlock = some g → newTag own w v t g = t :=
  ⟨⟨hb.size, fun _ hg => newTag_old hg, fun g hg _ _ => hb.block g hg⟩, own_base hv hbase, fun g hg => by unfold newTag; rw [if_pos ⟨(hv.lt g hg).1, hg⟩]⟩

def EB (base : Nat) (own : Nat → Nat × Int) (w : World) (vs : List Value) (ms : List Nat) (many : Nat) : Prop :=
  ∀ (i : Nat) (v : Value) (m : Nat), vs[i]? = some v → ms[i]? = some m → Ent base own (2, m) w 5 1 v (fun _ => .int .u8 (dg m 0 : Nat)) ∧ m ≤ many
def EE (base : Nat) (own : Nat → Nat × Int) (w : World) (vs : List Value) (em : List Int) (last : Int) : Prop :=
  ∀ (i : Nat) (v : Value) (m : Int), vs[i]? = some v → em[i]? = some m → Ent base own (3, m) w 42 10 v (fun k => .int .i64 (kev m (k % 10))) ∧ last ≤ m
def EI (base : Nat) (own : Nat → Nat × Int) (w : World) (vs : List Value) : Prop :=
  ∀ (i : Nat) (v : Value), vs[i]? = some v → Ent base own (4, i) w 5 1 v (fun _ => .int .u8 (77 : Nat))
def EL (base : Nat) (own : Nat → Nat × Int) (w : World) (vs : List Value) : Prop :=
  ∀ (i : Nat) (v : Value), vs[i]? = some v → Ent base own (5, i) w 42 10 v (fun k => .int .i64 (kev (-7) (k % 10)))

/-- the caller's world whole; Z: how many steps are behind -/
structure WK (Z base B : Nat) (own : Nat → Nat × Int) (w : World) (f : Nat → Value) (xs : Nat → List Value) (ms : List Nat) (em : List Int) (last : Int) (many : Nat) : Prop where
  wj : WJ base B own w f xs last many
  x2 : xs 2 = ms.map fun m => .int .i64 (m : Nat)
  x6 : xs 6 = em.map fun m => .int .i64 m
  l2 : ms.length = (xs 1).length
  l6 : em.length = (xs 5).length
  lb : EB base own w (xs 1) ms many
  le : EE base own w (xs 5) em last
  li : EI base own w (xs 7)
  ll : EL base own w (xs 8)
  nn : (xs 1).length ≤ 4 * Z ∧ (xs 5).length ≤ 4 * Z ∧ (xs 7).length ≤ Z ∧ (xs 8).length ≤ Z ∧ many ≤ Z ∧ -(Z : Int) ≤ last ∧ last ≤ 0
  hZ : Z ≤ 1048577

theorem WK.stays {Z base B : Nat} {own own' : Nat → Nat × Int} {w w' : World} {f : Nat → Value} {xs : Nat → List Value} {ms : List Nat} {em : List Int} {last : Int} {many : Nat} {T : Nat × Int → Prop}
    (h : WK Z base B own w f xs ms em last many) (hs : Stays base own T w own' w') (h0 : T (0, 0)) (h1 : ∀ j : Nat, isRow j → T (1, (j : Int))) (h2 : ∀ m : Nat, m ≤ many → T (2, m)) (h3 : ∀ m, last ≤ m → T (3, m)) (h4 : ∀ i : Nat, i < (xs 7).length → T (4, i)) (h5 : ∀ i : Nat, i < (xs 8).length → T (5, i)) :
    WK Z base B own' w' f xs ms em last many := by
  refine ⟨h.wj.stays hs h0 h1, h.x2, h.x6, h.l2, h.l6, ?_, ?_, ?_, ?_, h.nn, h.hZ⟩
  · intro i v m q1 q2
    obtain ⟨q3, q4⟩ := h.lb i v m q1 q2
    exact ⟨q3.stays hs (h2 m q4), q4⟩
  · intro i v m q1 q2
    obtain ⟨q3, q4⟩ := h.le i v m q1 q2
    exact ⟨q3.stays hs (h3 m q4), q4⟩
  · intro i v q1
    exact (h.li i v q1).stays hs (h4 i (by obtain ⟨q, _⟩ := List.getElem?_eq_some_iff.1 q1; exact q))
  · intro i v q1
    exact (h.ll i v q1).stays hs (h5 i (by obtain ⟨q, _⟩ := List.getElem?_eq_some_iff.1 q1; exact q))

theorem WK.all {Z base B : Nat} {own own' : Nat → Nat × Int} {w w' : World} {f : Nat → Value} {xs : Nat → List Value} {ms : List Nat} {em : List Int} {last : Int} {many : Nat}
    (h : WK Z base B own w f xs ms em last many) (hs : Stays base own (fun _ => True) w own' w') : WK Z base B own' w' f xs ms em last many :=
  h.stays hs trivial (fun _ _ => trivial) (fun _ _ => trivial) (fun _ _ => trivial) (fun _ _ => trivial) (fun _ _ => trivial)

theorem WK.ext {Z base B : Nat} {own : Nat → Nat × Int} {w w' : World} {f : Nat → Value} {xs : Nat → List Value} {ms : List Nat} {em : List Int} {last : Int} {many : Nat}
    (h : WK Z base B own w f xs ms em last many) (hb : Below w.heap.size w w') : WK Z base B own w' f xs ms em last many := h.all (Stays.of_below hb)

theorem WK.wi {Z base B : Nat} {own : Nat → Nat × Int} {w : World} {f : Nat → Value} {xs : Nat → List Value} {ms : List Nat} {em : List Int} {last : Int} {many : Nat}
    (h : WK Z base B own w f xs ms em last many) : WI base B own w f (xs 1) ms (xs 5) em (xs 7) (xs 8) last many := by
  have hr := h.wj.rows
  have ht := h.wj.tags
  obtain ⟨n1, n2, n3, n4, n5, n6, n7⟩ := h.nn
  have hZ := h.hZ
  have hl2 := h.l2
  have hl6 := h.l6
  refine ⟨h.wj.blk, h.wj.hB, h.wj.oB, h.wj.o3, hr 1 (by simp [isRow]), ht 1 (by simp [isRow]), ?_, ht 2 (by simp [isRow]), hr 5 (by simp [isRow]), ht 5 (by simp [isRow]), ?_, ht 6 (by simp [isRow]), hr 7 (by simp [isRow]), ht 7 (by simp [isRow]), hr 8 (by simp [isRow]), ht 8 (by simp [isRow]), h.lb, fun i v m q1 q2 => (h.le i v m q1 q2).1, h.li, h.ll, ⟨by omega, by omega, by omega, by omega, by omega, by omega, by omega⟩⟩
  · have := hr 2 (by simp [isRow])
    rw [h.x2, List.length_map] at this
    exact this
  · have := hr 6 (by simp [isRow])
    rw [h.x6, List.length_map] at this
    exact this

theorem kept_w {Z base B : Nat} {own : Nat → Nat × Int} {w : World} {f : Nat → Value} {xs : Nat → List Value} {ms : List Nat} {em : List Int} {last : Int} {many : Nat} {R : Ending → World → Prop}
    (h : WK Z base B own w f xs ms em last many) (hR : ∀ w', Below w.heap.size w w' → R (.returned (.bool true)) w') : Calls Tryz.prog 14 #[.pointer (some ⟨B, 0, none⟩)] w R := by
  obtain ⟨ab, ao, ae, am, ai, al, cb, co, ce, cm, ci, cl, hh⟩ := h.wi.held h.l2 h.l6
  exact kept_any hh _ hR

theorem EB.stays {base : Nat} {own own' : Nat → Nat × Int} {T : Nat × Int → Prop} {w w' : World} {vs : List Value} {ms : List Nat} {many : Nat} (h : EB base own w vs ms many) (hs : Stays base own T w own' w') (hT : ∀ m : Nat, m ≤ many → T (2, m)) : EB base own' w' vs ms many :=
  fun i v m q1 q2 => ⟨(h i v m q1 q2).1.stays hs (hT m (h i v m q1 q2).2), (h i v m q1 q2).2⟩
theorem EE.stays {base : Nat} {own own' : Nat → Nat × Int} {T : Nat × Int → Prop} {w w' : World} {vs : List Value} {em : List Int} {last : Int} (h : EE base own w vs em last) (hs : Stays base own T w own' w') (hT : ∀ m : Int, last ≤ m → T (3, m)) : EE base own' w' vs em last :=
  fun i v m q1 q2 => ⟨(h i v m q1 q2).1.stays hs (hT m (h i v m q1 q2).2), (h i v m q1 q2).2⟩
theorem EI.stays {base : Nat} {own own' : Nat → Nat × Int} {T : Nat × Int → Prop} {w w' : World} {vs : List Value} (h : EI base own w vs) (hs : Stays base own T w own' w') (hT : ∀ i : Nat, i < vs.length → T (4, i)) : EI base own' w' vs :=
  fun i v q1 => (h i v q1).stays hs (hT i (by obtain ⟨q, _⟩ := List.getElem?_eq_some_iff.1 q1; exact q))
theorem EL.stays {base : Nat} {own own' : Nat → Nat × Int} {T : Nat × Int → Prop} {w w' : World} {vs : List Value} (h : EL base own w vs) (hs : Stays base own T w own' w') (hT : ∀ i : Nat, i < vs.length → T (5, i)) : EL base own' w' vs :=
  fun i v q1 => (h i v q1).stays hs (hT i (by obtain ⟨q, _⟩ := List.getElem?_eq_some_iff.1 q1; exact q))

/-- a list that was handed in goes onto its shelf -/
theorem WK.push7 {Z base B : Nat} {own : Nat → Nat × Int} {w w1 : World} {f : Nat → Value} {xs : Nat → List Value} {ms : List Nat} {em : List Int} {last : Int} {many : Nat} {v' x : Value}
    (h : WK Z base B own w f xs ms em last many) (h7 : (xs 7).length + 1 ≤ Z) (hG : Grew base (ty 7) 1 w (f 7) w1 v' ((xs 7).length + 1) (xs 7 ++ [x])) (hx : Ent base own (4, ((xs 7).length : Int)) w 5 1 x (fun _ => .int .u8 (77 : Nat))) :
    WK Z base B (newTag own w v' (1, 7)) (w1.setCell ⟨B, 7, none⟩ v') (fun i => if i = 7 then v' else f i) (fun i => if i = 7 then xs 7 ++ [x] else xs i) ms em last many ∧
    Stays base own (fun t => t ≠ (1, 7) ∧ t ≠ (0, 0)) w (newTag own w v' (1, 7)) (w1.setCell ⟨B, 7, none⟩ v') := by
  obtain ⟨hj, hs⟩ := h.wj.push 7 (by simp [isRow]) hG
  refine ⟨⟨hj, by simpa using h.x2, by simpa using h.x6, by simpa using h.l2, by simpa using h.l6, ?_, ?_, ?_, ?_, ?_, h.hZ⟩, hs⟩
  · simpa using h.lb.stays hs (by simp)
  · simpa using h.le.stays hs (by simp)
  · intro i v q
    simp only [if_true] at q
    by_cases hi : i < (xs 7).length
    · rw [List.getElem?_append_left hi] at q
      exact (h.li i v q).stays hs (by simp)
    · rw [List.getElem?_append_right (by omega)] at q
      obtain ⟨q1, q2⟩ := List.getElem?_eq_some_iff.1 q
      simp only [List.length_cons, List.length_nil] at q1
      have hi' : i = (xs 7).length := by omega
      subst hi'
      simp only [Nat.sub_self, List.getElem_cons_zero] at q2
      subst q2
      exact hx.stays hs (by simp)
  · simpa using h.ll.stays hs (by simp)
  · have := h.nn
    simpa using ⟨this.1, this.2.1, h7, this.2.2.2⟩

theorem WK.push8 {Z base B : Nat} {own : Nat → Nat × Int} {w w1 : World} {f : Nat → Value} {xs : Nat → List Value} {ms : List Nat} {em : List Int} {last : Int} {many : Nat} {v' x : Value}
    (h : WK Z base B own w f xs ms em last many) (h7 : (xs 8).length + 1 ≤ Z) (hG : Grew base (ty 8) 1 w (f 8) w1 v' ((xs 8).length + 1) (xs 8 ++ [x])) (hx : Ent base own (5, ((xs 8).length : Int)) w 42 10 x (fun k => .int .i64 (kev (-7) (k % 10)))) :
    WK Z base B (newTag own w v' (1, 8)) (w1.setCell ⟨B, 8, none⟩ v') (fun i => if i = 8 then v' else f i) (fun i => if i = 8 then xs 8 ++ [x] else xs i) ms em last many ∧
    Stays base own (fun t => t ≠ (1, 8) ∧ t ≠ (0, 0)) w (newTag own w v' (1, 8)) (w1.setCell ⟨B, 8, none⟩ v') := by
  obtain ⟨hj, hs⟩ := h.wj.push 8 (by simp [isRow]) hG
  refine ⟨⟨hj, by simpa using h.x2, by simpa using h.x6, by simpa using h.l2, by simpa using h.l6, ?_, ?_, ?_, ?_, ?_, h.hZ⟩, hs⟩
  · simpa using h.lb.stays hs (by simp)
  · simpa using h.le.stays hs (by simp)
  · simpa using h.li.stays hs (by simp)
  · intro i v q
    simp only [if_true] at q
    by_cases hi : i < (xs 8).length
    · rw [List.getElem?_append_left hi] at q
      exact (h.ll i v q).stays hs (by simp)
    · rw [List.getElem?_append_right (by omega)] at q
      obtain ⟨q1, q2⟩ := List.getElem?_eq_some_iff.1 q
      simp only [List.length_cons, List.length_nil] at q1
      have hi' : i = (xs 8).length := by omega
      subst hi'
      simp only [Nat.sub_self, List.getElem_cons_zero] at q2
      subst q2
      exact hx.stays hs (by simp)
  · have := h.nn
    simpa using ⟨this.1, this.2.1, this.2.2.1, h7, this.2.2.2.2⟩

/-- behind an append to a shelf, ahead of the store -/
theorem WJ.grew {base B : Nat} {own : Nat → Nat × Int} {w w1 : World} {f : Nat → Value} {xs : Nat → List Value} {last : Int} {many : Nat} {v' x : Value}
    (h : WJ base B own w f xs last many) (j : Nat) (hj : isRow j) (hG : Grew base (ty j) 1 w (f j) w1 v' ((xs j).length + 1) (xs j ++ [x])) :
    (∀ i, w1.cell? ⟨B, i, none⟩ = w.cell? ⟨B, i, none⟩) ∧ (∀ i, w1.frozen? ⟨B, i, none⟩ = false) ∧ Below base w (w1.setCell ⟨B, j, none⟩ v') := by
  obtain ⟨hst, _⟩ := hG.stays (h.tags j hj)
  have hB2 : w1.heap[B]? = w.heap[B]? := hst.blk B (lt_of_heap h.blk) h.hB (by rw [h.oB]; simp)
  refine ⟨fun i => World.cell?_of_block (w := w) (w' := w1) (a := ⟨B, i, none⟩) hB2, fun i => (World.frozen?_of_block (w := w) (w' := w1) (a := ⟨B, i, none⟩) hB2).trans (h.free i), ?_⟩
  refine Below.setCell (hG.below (by have := lt_of_heap h.blk; have := h.hB; omega) fun g hg => ((h.rows j hj).lt g hg).1) h.hB _
#print axioms kept_w
end Go.Proofs.YtmiiejinahnpkaaGreatDoor
