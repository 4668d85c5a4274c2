/- Choosing a pivot, at rows of numbers of 32 bits: which one is chosen is not said, but that it is one of them. -/
import Derived.Test.YtglcbhfkoigedaaSortC
namespace Go.Proofs.Ytglcbhfkoigedaa
open Go.ChangeShapes Go.WideShapes Go.ChangeAt Go.RowKit Go.Maps Go.Deep Go.Sort

/-- The row d at b, a number s at S; all blocks but S are as they were in W. -/
structure RowS (W w : World) (b : Nat) (d : Array Int) (S : Nat) (s : Int) : Prop where
  cell : ∀ t, t < d.size → w.cell? ⟨b, t, none⟩ = some (.int .u32 (gt d t))
  fro : ∀ t, w.frozen? ⟨b, t, none⟩ = false
  sc : w.cell? ⟨S, 0, none⟩ = some (.int .i64 s)
  sf : w.frozen? ⟨S, 0, none⟩ = false
  but : But (· = S) W w
  ne : b ≠ S
  s0 : 0 ≤ s
theorem RowS.draws {W w : World} {b : Nat} {d : Array Int} {S : Nat} {s : Int} (h : RowS W w b d S s) : ∀ n, RowS W (w.drewN n) b d S s
  | 0 => h
  | n + 1 => have k := h.draws n; ⟨k.cell, k.fro, k.sc, k.sf, k.but.drew, k.ne, k.s0⟩
theorem RowS.put {W w : World} {b : Nat} {d : Array Int} {S : Nat} {s : Int} (h : RowS W w b d S s) (s' : Int) (h0 : 0 ≤ s') : RowS W (w.setCell ⟨S, 0, none⟩ (.int .i64 s')) b d S s' :=
  ⟨fun t ht => (World.cell?_setCell_other _ _ _ _ (by simp; intro e; exact absurd e.symm h.ne)).trans (h.cell t ht), fun t => by rw [World.frozen?_setCell]; exact h.fro t, World.cell?_setCell_same _ _ _ h.sc, by rw [World.frozen?_setCell]; exact h.sf, h.but.setCell (a := ⟨S, 0, none⟩) (fun _ => rfl) _, h.ne, h0⟩
set_option maxRecDepth 100000 in
set_option maxHeartbeats 2000000 in
theorem order2_any (b cap i j S : Nat) (s : Int) (d : Array Int) (W w : World) (hr : RowS W w b d S s) (h1 : i < d.size) (h2 : j < d.size) (hs : s < 1152921504606846976) :
    Calls Try.prog 47 #[.slice (some ⟨b, 0, none⟩) d.size cap, .int .i64 i, .int .i64 j, .pointer (some ⟨S, 0, none⟩)] w fun e w' => ∃ (p q : Nat) (s' : Int), e = .returned (.tuple #[.int .i64 p, .int .i64 q]) ∧ ((p = i ∧ q = j) ∨ (p = j ∧ q = i)) ∧ s' ≤ s + 1 ∧ RowS W w' b d S s' := by
  obtain ⟨n, hn⟩ : ∃ n, d.size = n := ⟨_, rfl⟩
  rw [hn] at h1 h2 ⊢
  have i0 : (0 : Int) ≤ (i : Int) := by omega
  have i1 : (i : Int) < (n : Int) := by omega
  have i2 : (0 : Int) ≤ (j : Int) := by omega
  have i3 : (j : Int) < (n : Int) := by omega
  have c0 := hr.cell i (by omega)
  have c1 := hr.cell j (by omega)
  have HR := Lib.hid hr
  have ws : IntKind.i64.wrap (s + 1) = s + 1 := by have := hr.s0; rw [IntKind.wrap_i64]; omega
  clear hr
  go_enter Try.func47, Try.ntmps47
  go_wp2_with fail
  go_big_quiet (first | (go_at_call 36; refine Calls.quiet_of_same (less_any _ _ _)))
  have hr2 := HR.out.draws nq
  generalize w.drewN nq = w2 at *
  clear c0 c1
  have c2 := hr2.sc
  have c3 := hr2.sf
  have hp := hr2.put (s + 1) (by have := hr2.s0; omega)
  have HR2 := Lib.hid hr2
  have HP := Lib.hid hp
  clear hr2 hp
  go_wp2_with fail
  · go_ret2
    exact ⟨j, i, s + 1, rfl, .inr ⟨rfl, rfl⟩, Int.le_refl _, HP.out⟩
  · go_ret2
    exact ⟨i, j, s, rfl, .inl ⟨rfl, rfl⟩, by omega, HR2.out⟩
set_option maxRecDepth 100000 in
set_option maxHeartbeats 2000000 in
theorem median_any (b cap i j k S : Nat) (s : Int) (d : Array Int) (W w : World) (hr : RowS W w b d S s) (h1 : i < d.size) (h2 : j < d.size) (h4 : k < d.size) (hs : s < 1152921504606846900) :
    Calls Try.prog 45 #[.slice (some ⟨b, 0, none⟩) d.size cap, .int .i64 i, .int .i64 j, .int .i64 k, .pointer (some ⟨S, 0, none⟩)] w fun e w' => ∃ (p : Nat) (s' : Int), e = .returned (.int .i64 p) ∧ (p = i ∨ p = j ∨ p = k) ∧ s' ≤ s + 3 ∧ RowS W w' b d S s' := by
  go_enter Try.func45, Try.ntmps45
  go_wp2_with fail
  refine (order2_any b cap i j S s d W _ hr h1 h2 (by omega)).mono ?_
  rintro e w1 ⟨p1, q1, s1, rfl, hp1, hs1, hr1⟩
  have hq1 : q1 < d.size := by rcases hp1 with ⟨_, rfl⟩ | ⟨_, rfl⟩ <;> assumption
  have hp1' : p1 < d.size := by rcases hp1 with ⟨rfl, _⟩ | ⟨rfl, _⟩ <;> assumption
  go_wp2_with fail
  refine (order2_any b cap q1 k S s1 d W _ hr1 hq1 h4 (by omega)).mono ?_
  rintro e w2 ⟨p2, q2, s2, rfl, hp2, hs2, hr2⟩
  have hp2' : p2 < d.size := by rcases hp2 with ⟨rfl, _⟩ | ⟨rfl, _⟩ <;> assumption
  go_wp2_with fail
  refine (order2_any b cap p1 p2 S s2 d W _ hr2 hp1' hp2' (by omega)).mono ?_
  rintro e w3 ⟨p3, q3, s3, rfl, hp3, hs3, hr3⟩
  go_wp2_with fail
  go_ret
  exact ⟨q3, s3, rfl, by omega, by omega, hr3⟩
set_option maxRecDepth 100000 in
set_option maxHeartbeats 2000000 in
theorem medianAdj_any (b cap i S : Nat) (s : Int) (d : Array Int) (W w : World) (hr : RowS W w b d S s) (h1 : 1 ≤ i) (h2 : i + 1 < d.size) (h3 : d.size < 1152921504606846976) (hs : s < 1152921504606846900) :
    Calls Try.prog 44 #[.slice (some ⟨b, 0, none⟩) d.size cap, .int .i64 i, .pointer (some ⟨S, 0, none⟩)] w fun e w' => ∃ (p : Nat) (s' : Int), e = .returned (.int .i64 p) ∧ i ≤ p + 1 ∧ p ≤ i + 1 ∧ s' ≤ s + 3 ∧ RowS W w' b d S s' := by
  have w1 : IntKind.i64.wrap ((i : Int) - 1) = ((i - 1 : Nat) : Int) := by rw [IntKind.wrap_i64]; omega
  have w2 : IntKind.i64.wrap ((i : Int) + 1) = ((i + 1 : Nat) : Int) := by rw [IntKind.wrap_i64]; omega
  go_enter Try.func44, Try.ntmps44
  go_wp2_with fail
  have hm := (median_any b cap (i - 1) i (i + 1) S s d W _ hr (by omega) (by omega) h2 hs)
  simp only [Int.natCast_add, Int.natCast_one] at hm
  refine hm.mono ?_
  rintro e w1 ⟨p, s1, rfl, hp, hs1, hr1⟩
  go_wp2_with fail
  go_ret
  exact ⟨p, s1, rfl, by omega, by omega, hs1, hr1⟩
set_option maxRecDepth 100000 in
set_option maxHeartbeats 4000000 in
theorem pivot_any (b cap lo hi : Nat) (d : Array Int) (W w : World) (hr : Row W w b d) (h1 : lo + 12 < hi) (h2 : hi ≤ d.size) (h3 : d.size < 1152921504606846976) :
    Calls Try.prog 33 #[.slice (some ⟨b, 0, none⟩) d.size cap, .int .i64 lo, .int .i64 hi] w fun e w' => ∃ (p : Nat) (h : Int), e = .returned (.tuple #[.int .i64 p, .int .i64 h]) ∧ lo ≤ p ∧ p < hi ∧ Row W w' b d := by
  obtain ⟨l, hl⟩ : ∃ l, l = hi - lo := ⟨_, rfl⟩
  obtain ⟨q, hq⟩ : ∃ q, q = l / 4 := ⟨_, rfl⟩
  have e1 : IntKind.i64.wrap ((hi : Int) - (lo : Int)) = (l : Int) := by rw [IntKind.wrap_i64]; omega
  have e2 : (l : Int).tdiv 4 = (q : Int) := by rw [Int.tdiv_eq_ediv_of_nonneg (by omega)]; omega
  have hl12 : 12 < l := by omega
  have hll : lo + l = hi := by omega
  have hq4 : q * 4 ≤ l := by omega
  have hq5 : l < q * 4 + 4 := by omega
  clear hl hq
  have hbl : b < w.heap.size := cell_lt (hr.cell 0 (by omega))
  have hS : RowS (w.alloc (.cells #[.int .i64 0] 3)) (w.alloc (.cells #[.int .i64 0] 3)) b d w.heap.size 0 :=
    ⟨fun t ht => (World.cell?_alloc_lt _ _ _ hbl).trans (hr.cell t ht), fun t => by rw [World.frozen?_of_block (Below.heap_alloc _ _ b hbl)]; exact hr.fro t, by simp, by simp, But.refl _ _, by omega, Int.le_refl 0⟩
  have hW : But (· = b) W (w.alloc (.cells #[.int .i64 0] 3)) := hr.but.alloc _
  have hWs := hr.but.size
  have hend : ∀ (w2 : World) (s : Int), RowS (w.alloc (.cells #[.int .i64 0] 3)) w2 b d w.heap.size s → Row W w2 b d := fun w2 s h => ⟨h.cell, h.fro, hW.trans h.but (fun i hi e => by omega)⟩
  have HE := Lib.hid hend
  have d8 : decide ((8 : Int) ≤ (l : Int)) = true := decide_eq_true (by omega)
  clear hend hW hr
  go_enter Try.func33, Try.ntmps33
  by_cases h50 : 50 ≤ l
  · have d50 : decide ((50 : Int) ≤ (l : Int)) = true := decide_eq_true (by omega)
    have hm1 := fun w2 (s : Int) h hs => medianAdj_any b cap (lo + q) w.heap.size s d (w.alloc (.cells #[.int .i64 0] 3)) w2 h (by omega) (by omega) h3 hs
    have hm2 := fun w2 (s : Int) h hs => medianAdj_any b cap (lo + q * 2) w.heap.size s d (w.alloc (.cells #[.int .i64 0] 3)) w2 h (by omega) (by omega) h3 hs
    have hm3 := fun w2 (s : Int) h hs => medianAdj_any b cap (lo + q * 3) w.heap.size s d (w.alloc (.cells #[.int .i64 0] 3)) w2 h (by omega) (by omega) h3 hs
    push_cast at hm1 hm2 hm3
    go_wp2_with fail
    refine (hm1 _ _ hS (by omega)).mono ?_
    rintro e w1 ⟨p1, s1, rfl, hp1, hp1', hs1, hr1⟩
    go_wp2_with fail
    refine (hm2 _ _ hr1 (by omega)).mono ?_
    rintro e w2 ⟨p2, s2, rfl, hp2, hp2', hs2, hr2⟩
    go_wp2_with fail
    refine (hm3 _ _ hr2 (by omega)).mono ?_
    rintro e w3 ⟨p3, s3, rfl, hp3, hp3', hs3, hr3⟩
    go_wp2_with fail
    refine (median_any b cap p1 p2 p3 w.heap.size s3 d _ _ hr3 (by omega) (by omega) (by omega) (by omega)).mono ?_
    rintro e w4 ⟨p, s4, rfl, hp, hs4, hr4⟩
    have hs := hr4.sc
    go_wp2_with fail
    all_goals (go_ret2; exact ⟨p, _, rfl, by omega, by omega, HE.out _ _ hr4⟩)
  · have d50 : decide ((50 : Int) ≤ (l : Int)) = false := decide_eq_false (by omega)
    have hm := fun w2 (s : Int) h hs => median_any b cap (lo + q) (lo + q * 2) (lo + q * 3) w.heap.size s d (w.alloc (.cells #[.int .i64 0] 3)) w2 h (by omega) (by omega) (by omega) hs
    push_cast at hm
    go_wp2_with fail
    refine (hm _ _ hS (by omega)).mono ?_
    rintro e w1 ⟨p, s1, rfl, hp, hs1, hr1⟩
    have hs := hr1.sc
    go_wp2_with fail
    all_goals (go_ret2; exact ⟨p, _, rfl, by omega, by omega, HE.out _ _ hr1⟩)
end Go.Proofs.Ytglcbhfkoigedaa
