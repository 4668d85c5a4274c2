/- What the landed package seg answers, for every input. -/
import Derived.Test.YtfnbnhgcjpfdhaaRef7b
import Derived.Deep.RegionHeld3
namespace Go.Proofs.Ytfnbnhgcjpfdhaa
open Go.ChangeShapes Go.WideShapes Go.ChangeAt Go.RowKit

theorem send_any (b z : Int) (r q x : Bool) (b0 : 0 ≤ b) (b1 : b < 4294967296) (z0 : 0 ≤ z) (z1 : z < 4294967296) (w : World) : Calls Try.prog 17 #[.agg #[.int .u32 b, .int .u32 z, .bool r, .bool q, .bool x]] w fun e w' => e = .returned (.int .u64 (b + z)) ∧ Below w.heap.size w w' := by
  go_enter Try.func17, Try.ntmps17
  go_wp2
  go_ret
  exact ⟨rfl, below_last (Below.refl _ _) _⟩
set_option maxRecDepth 100000 in
theorem smay_any (b z : Int) (r q x : Bool) (what : Int) (w : World) : Calls Try.prog 16 #[.agg #[.int .u32 b, .int .u32 z, .bool r, .bool q, .bool x], .int .i64 what] w fun e w' => e = .returned (.bool (mayB r q x what)) ∧ Below w.heap.size w w' := by
  have hw : what = 0 ∨ what = 1 ∨ what = 2 ∨ what < 0 ∨ 3 ≤ what := by omega
  rcases hw with rfl | rfl | rfl | h | h
  · go_enter Try.func16, Try.ntmps16
    go_wp2
    go_ret
    exact ⟨rfl, below_last (below_last (Below.refl _ _) _) _⟩
  · go_enter Try.func16, Try.ntmps16
    go_wp2
    go_ret
    exact ⟨rfl, below_last (below_last (Below.refl _ _) _) _⟩
  · go_enter Try.func16, Try.ntmps16
    go_wp2
    go_ret
    exact ⟨rfl, below_last (below_last (Below.refl _ _) _) _⟩
  · have hV := Lib.hid (show mayB r q x what = false by unfold mayB; rw [if_neg (by omega), if_neg (by omega), if_neg (by omega)])
    go_enter Try.func16, Try.ntmps16
    go_wp2
    go_ret
    exact ⟨by rw [hV.out]; rfl, below_last (below_last (Below.refl _ _) _) _⟩
  · have hV := Lib.hid (show mayB r q x what = false by unfold mayB; rw [if_neg (by omega), if_neg (by omega), if_neg (by omega)])
    go_enter Try.func16, Try.ntmps16
    go_wp2
    go_ret
    exact ⟨by rw [hV.out]; rfl, below_last (below_last (Below.refl _ _) _) _⟩
theorem sright_any (b z : Int) (r q x : Bool) (b0 : 0 ≤ b) (b1 : b < 4294967296) (z0 : 0 ≤ z) (z1 : z < 4294967296) (w : World) : Calls Try.prog 12 #[.agg #[.int .u32 b, .int .u32 z, .bool r, .bool q, .bool x]] w fun e w' => e = .returned (.bool (segR b z)) ∧ Below w.heap.size w w' := by
  go_enter Try.func12, Try.ntmps12
  go_wp2_with (go_at_call 17; refine (send_any b z _ _ _ b0 b1 z0 z1 _).mono ?_; rintro e w1 ⟨rfl, hb1⟩; obtain ⟨hc, hz⟩ := bcell hb1)
  go_ret
  exact ⟨rfl, below_next (Below.refl _ _) hb1⟩
theorem swithin_any (b z a : Int) (r q x : Bool) (b0 : 0 ≤ b) (b1 : b < 4294967296) (z0 : 0 ≤ z) (z1 : z < 4294967296) (a0 : 0 ≤ a) (a1 : a < 4294967296) (w : World) : Calls Try.prog 10 #[.agg #[.int .u32 b, .int .u32 z, .bool r, .bool q, .bool x], .int .u32 a] w fun e w' => e = .returned (.bool (inB b z a)) ∧ Below w.heap.size w w' := by
  rcases Int.lt_or_le a b with h | h
  · have hV := Lib.hid (show inB b z a = false by unfold inB; rw [decide_eq_false (by omega), Bool.false_and])
    go_enter Try.func10, Try.ntmps10
    go_wp2_with (go_at_call 17; refine (send_any b z _ _ _ b0 b1 z0 z1 _).mono ?_; rintro e w1 ⟨rfl, hb1⟩; obtain ⟨hc, hz⟩ := bcell hb1)
    go_ret
    exact ⟨by rw [hV.out]; rfl, by first | exact below_last (Below.refl _ _) _ | exact below_next (Below.refl _ _) hb1⟩
  · have hV := Lib.hid (show inB b z a = decide (a < b + z) by unfold inB; rw [decide_eq_true h, Bool.true_and])
    go_enter Try.func10, Try.ntmps10
    go_wp2_with (go_at_call 17; refine (send_any b z _ _ _ b0 b1 z0 z1 _).mono ?_; rintro e w1 ⟨rfl, hb1⟩; obtain ⟨hc, hz⟩ := bcell hb1)
    go_ret
    exact ⟨by rw [hV.out]; rfl, by first | exact below_last (Below.refl _ _) _ | exact below_next (Below.refl _ _) hb1⟩
set_option maxRecDepth 100000 in
set_option maxHeartbeats 8000000 in
theorem sat_any (b z : Int) (r q x : Bool) (off n what : Int) (b0 : 0 ≤ b) (b1 : b < 4294967296) (z0 : 0 ≤ z) (z1 : z < 4294967296) (o0 : 0 ≤ off) (o1 : off < 4294967296) (w : World) : Calls Try.prog 8 #[.agg #[.int .u32 b, .int .u32 z, .bool r, .bool q, .bool x], .int .u32 off, .int .i64 n, .int .i64 what] w fun e w' => e = .returned (.tuple #[.int .u32 (atV b z r q x off n what), .int .i64 (atE b z r q x off n what)]) ∧ Below w.heap.size w w' := by
  cases hm : mayB r q x what
  · have hV := Lib.hid (show atV b z r q x off n what = 0 by unfold atV; rw [hm]; rfl)
    have hE := Lib.hid (show atE b z r q x off n what = 25 by unfold atE; rw [hm]; rfl)
    have smay : ∀ w, Calls Try.prog 16 #[.agg #[.int .u32 b, .int .u32 z, .bool r, .bool q, .bool x], .int .i64 what] w fun e w' => e = .returned (.bool false) ∧ Below w.heap.size w w' := fun w => by
      have h := smay_any b z r q x what w
      rw [hm] at h
      exact h
    have sright := sright_any b z r q x b0 b1 z0 z1
    clear hm
    go_enter Try.func8, Try.ntmps8
    go_wp2_with (first | (go_at_call 16; refine (smay _).mono ?_; rintro e w1 ⟨rfl, hb1⟩; obtain ⟨hc, hz⟩ := bcell hb1; (have hs1 := bsize hb1)) | (go_at_call 12; refine (sright _).mono ?_; rintro e w2 ⟨rfl, hb2⟩; obtain ⟨hc2, hz2⟩ := bcell hb2; (have hs2 := hb2.size)))
    go_ret2
    exact ⟨by rw [hV.out, hE.out]; rfl, by first | exact (below_next (Below.refl _ _) hb1).trans (hb2.mono (by have := hs1; omega)) | exact below_next (Below.refl _ _) hb1⟩
  · have smay : ∀ w, Calls Try.prog 16 #[.agg #[.int .u32 b, .int .u32 z, .bool r, .bool q, .bool x], .int .i64 what] w fun e w' => e = .returned (.bool true) ∧ Below w.heap.size w w' := fun w => by
      have h := smay_any b z r q x what w
      rw [hm] at h
      exact h
    have hyes : fitB b z off n = true → atV b z r q x off n what = b + off ∧ atE b z r q x off n what = 0 := by
      intro h2; unfold atV atE; rw [hm, h2]; exact ⟨rfl, rfl⟩
    have hun : fitB b z off n = false → atV b z r q x off n what = 0 ∧ atE b z r q x off n what = 24 := by
      intro h2; unfold atV atE; rw [hm, h2]; exact ⟨rfl, rfl⟩
    clear hm
    obtain ⟨c, hcl⟩ : ∃ c, c = clampN n := ⟨_, rfl⟩
    have hn : (n < 1 ∧ c = 1) ∨ (1 ≤ n ∧ n ≤ 16 ∧ c = n) ∨ (16 < n ∧ c = 16) := by
      rw [hcl]; unfold clampN; split <;> (try split) <;> omega
    have hf : (z < off + c ∧ fitB b z off n = false) ∨ (off + c ≤ z ∧ segR b z = false ∧ fitB b z off n = false) ∨ (off + c ≤ z ∧ segR b z = true ∧ fitB b z off n = true ∧ b + off < 4294967296) := by
      rw [hcl]
      have c0 := clampN_lo n
      unfold fitB
      by_cases h : off + clampN n ≤ z
      · cases hs : segR b z
        · exact .inr (.inl ⟨h, rfl, rfl⟩)
        · unfold segR at hs
          simp only [decide_eq_true_eq] at hs
          exact .inr (.inr ⟨h, rfl, by rw [decide_eq_true h]; rfl, by omega⟩)
      · exact .inl ⟨by omega, by rw [decide_eq_false h, Bool.and_false]⟩
    have sr : ∀ v : Bool, segR b z = v → ∀ w, Calls Try.prog 12 #[.agg #[.int .u32 b, .int .u32 z, .bool r, .bool q, .bool x]] w fun e w' => e = .returned (.bool v) ∧ Below w.heap.size w w' := fun v hv w => by
      have h := sright_any b z r q x b0 b1 z0 z1 w
      rw [hv] at h
      exact h
    clear hcl
    rcases hf with ⟨hl, hf⟩ | ⟨hl, hs, hf⟩ | ⟨hl, hs, hf, hl2⟩
    · obtain ⟨hv, he⟩ := hun hf
      have hV := Lib.hid hv
      have hE := Lib.hid he
      have sright := sright_any b z r q x b0 b1 z0 z1
      clear hyes hun hv he hf sr
      rcases hn with ⟨hn, rfl⟩ | ⟨hn, hn', rfl⟩ | ⟨hn, rfl⟩
      · go_enter Try.func8, Try.ntmps8
        go_wp2_with (first | (go_at_call 16; refine (smay _).mono ?_; rintro e w1 ⟨rfl, hb1⟩; obtain ⟨hc, hz⟩ := bcell hb1; (have hs1 := bsize hb1)) | (go_at_call 12; refine (sright _).mono ?_; rintro e w2 ⟨rfl, hb2⟩; obtain ⟨hc2, hz2⟩ := bcell hb2; (have hs2 := hb2.size)))
        go_ret2
        exact ⟨by rw [hV.out, hE.out]; rfl, by first | exact (below_next (Below.refl _ _) hb1).trans (hb2.mono (by have := hs1; omega)) | exact below_next (Below.refl _ _) hb1⟩
      · go_enter Try.func8, Try.ntmps8
        go_wp2_with (first | (go_at_call 16; refine (smay _).mono ?_; rintro e w1 ⟨rfl, hb1⟩; obtain ⟨hc, hz⟩ := bcell hb1; (have hs1 := bsize hb1)) | (go_at_call 12; refine (sright _).mono ?_; rintro e w2 ⟨rfl, hb2⟩; obtain ⟨hc2, hz2⟩ := bcell hb2; (have hs2 := hb2.size)))
        go_ret2
        exact ⟨by rw [hV.out, hE.out]; rfl, by first | exact (below_next (Below.refl _ _) hb1).trans (hb2.mono (by have := hs1; omega)) | exact below_next (Below.refl _ _) hb1⟩
      · go_enter Try.func8, Try.ntmps8
        go_wp2_with (first | (go_at_call 16; refine (smay _).mono ?_; rintro e w1 ⟨rfl, hb1⟩; obtain ⟨hc, hz⟩ := bcell hb1; (have hs1 := bsize hb1)) | (go_at_call 12; refine (sright _).mono ?_; rintro e w2 ⟨rfl, hb2⟩; obtain ⟨hc2, hz2⟩ := bcell hb2; (have hs2 := hb2.size)))
        go_ret2
        exact ⟨by rw [hV.out, hE.out]; rfl, by first | exact (below_next (Below.refl _ _) hb1).trans (hb2.mono (by have := hs1; omega)) | exact below_next (Below.refl _ _) hb1⟩
    · obtain ⟨hv, he⟩ := hun hf
      have hV := Lib.hid hv
      have hE := Lib.hid he
      have sright := sr _ hs
      clear hyes hun hv he hf sr hs
      rcases hn with ⟨hn, rfl⟩ | ⟨hn, hn', rfl⟩ | ⟨hn, rfl⟩
      · go_enter Try.func8, Try.ntmps8
        go_wp2_with (first | (go_at_call 16; refine (smay _).mono ?_; rintro e w1 ⟨rfl, hb1⟩; obtain ⟨hc, hz⟩ := bcell hb1; (have hs1 := bsize hb1)) | (go_at_call 12; refine (sright _).mono ?_; rintro e w2 ⟨rfl, hb2⟩; obtain ⟨hc2, hz2⟩ := bcell hb2; (have hs2 := hb2.size)))
        go_ret2
        exact ⟨by rw [hV.out, hE.out]; rfl, by first | exact (below_next (Below.refl _ _) hb1).trans (hb2.mono (by have := hs1; omega)) | exact below_next (Below.refl _ _) hb1⟩
      · go_enter Try.func8, Try.ntmps8
        go_wp2_with (first | (go_at_call 16; refine (smay _).mono ?_; rintro e w1 ⟨rfl, hb1⟩; obtain ⟨hc, hz⟩ := bcell hb1; (have hs1 := bsize hb1)) | (go_at_call 12; refine (sright _).mono ?_; rintro e w2 ⟨rfl, hb2⟩; obtain ⟨hc2, hz2⟩ := bcell hb2; (have hs2 := hb2.size)))
        go_ret2
        exact ⟨by rw [hV.out, hE.out]; rfl, by first | exact (below_next (Below.refl _ _) hb1).trans (hb2.mono (by have := hs1; omega)) | exact below_next (Below.refl _ _) hb1⟩
      · go_enter Try.func8, Try.ntmps8
        go_wp2_with (first | (go_at_call 16; refine (smay _).mono ?_; rintro e w1 ⟨rfl, hb1⟩; obtain ⟨hc, hz⟩ := bcell hb1; (have hs1 := bsize hb1)) | (go_at_call 12; refine (sright _).mono ?_; rintro e w2 ⟨rfl, hb2⟩; obtain ⟨hc2, hz2⟩ := bcell hb2; (have hs2 := hb2.size)))
        go_ret2
        exact ⟨by rw [hV.out, hE.out]; rfl, by first | exact (below_next (Below.refl _ _) hb1).trans (hb2.mono (by have := hs1; omega)) | exact below_next (Below.refl _ _) hb1⟩
    · obtain ⟨hv, he⟩ := hyes hf
      have hV := Lib.hid hv
      have hE := Lib.hid he
      have sright := sr _ hs
      clear hyes hun hv he hf sr hs
      rcases hn with ⟨hn, rfl⟩ | ⟨hn, hn', rfl⟩ | ⟨hn, rfl⟩
      · go_enter Try.func8, Try.ntmps8
        go_wp2_with (first | (go_at_call 16; refine (smay _).mono ?_; rintro e w1 ⟨rfl, hb1⟩; obtain ⟨hc, hz⟩ := bcell hb1; (have hs1 := bsize hb1)) | (go_at_call 12; refine (sright _).mono ?_; rintro e w2 ⟨rfl, hb2⟩; obtain ⟨hc2, hz2⟩ := bcell hb2; (have hs2 := hb2.size)))
        go_ret2
        exact ⟨by rw [hV.out, hE.out]; rfl, by first | exact (below_next (Below.refl _ _) hb1).trans (hb2.mono (by have := hs1; omega)) | exact below_next (Below.refl _ _) hb1⟩
      · go_enter Try.func8, Try.ntmps8
        go_wp2_with (first | (go_at_call 16; refine (smay _).mono ?_; rintro e w1 ⟨rfl, hb1⟩; obtain ⟨hc, hz⟩ := bcell hb1; (have hs1 := bsize hb1)) | (go_at_call 12; refine (sright _).mono ?_; rintro e w2 ⟨rfl, hb2⟩; obtain ⟨hc2, hz2⟩ := bcell hb2; (have hs2 := hb2.size)))
        go_ret2
        exact ⟨by rw [hV.out, hE.out]; rfl, by first | exact (below_next (Below.refl _ _) hb1).trans (hb2.mono (by have := hs1; omega)) | exact below_next (Below.refl _ _) hb1⟩
      · go_enter Try.func8, Try.ntmps8
        go_wp2_with (first | (go_at_call 16; refine (smay _).mono ?_; rintro e w1 ⟨rfl, hb1⟩; obtain ⟨hc, hz⟩ := bcell hb1; (have hs1 := bsize hb1)) | (go_at_call 12; refine (sright _).mono ?_; rintro e w2 ⟨rfl, hb2⟩; obtain ⟨hc2, hz2⟩ := bcell hb2; (have hs2 := hb2.size)))
        go_ret2
        exact ⟨by rw [hV.out, hE.out]; rfl, by first | exact (below_next (Below.refl _ _) hb1).trans (hb2.mono (by have := hs1; omega)) | exact below_next (Below.refl _ _) hb1⟩
theorem carryG {fn : FuncId} {args : Array Value} {v : Value} {w : World} {p0 p1 p2 p3 p4 p5 p6 p7 p8 p9 : Addr} {v0 v1 v2 v3 v4 v5 v6 v7 v8 v9 : Value} (h : ∀ w, Calls Try.prog fn args w fun e w' => e = .returned v ∧ Below w.heap.size w w') (u : World)
    (hu : Below w.heap.size w u ∧ w.heap.size ≤ u.heap.size ∧ u.cell? p0 = some v0 ∧ u.cell? p1 = some v1 ∧ u.cell? p2 = some v2 ∧ u.cell? p3 = some v3 ∧ u.cell? p4 = some v4 ∧ u.cell? p5 = some v5 ∧ u.cell? p6 = some v6 ∧ u.cell? p7 = some v7 ∧ u.cell? p8 = some v8 ∧ u.cell? p9 = some v9) :
    Calls Try.prog fn args u fun e u' => e = .returned v ∧ (Below w.heap.size w u' ∧ w.heap.size ≤ u'.heap.size ∧ u'.cell? p0 = some v0 ∧ u'.cell? p1 = some v1 ∧ u'.cell? p2 = some v2 ∧ u'.cell? p3 = some v3 ∧ u'.cell? p4 = some v4 ∧ u'.cell? p5 = some v5 ∧ u'.cell? p6 = some v6 ∧ u'.cell? p7 = some v7 ∧ u'.cell? p8 = some v8 ∧ u'.cell? p9 = some v9) := by
  obtain ⟨h0, h1, k0, k1, k2, k3, k4, k5, k6, k7, k8, k9⟩ := hu
  refine (h u).mono ?_
  rintro e u' ⟨rfl, hb⟩
  exact ⟨rfl, h0.trans (hb.mono h1), Nat.le_trans h1 hb.size, cell_call hb k0, cell_call hb k1, cell_call hb k2, cell_call hb k3, cell_call hb k4, cell_call hb k5, cell_call hb k6, cell_call hb k7, cell_call hb k8, cell_call hb k9⟩
set_option maxHeartbeats 4000000 in
theorem sapart_any (b z c y : Int) (r q x r' q' x' : Bool) (b0 : 0 ≤ b) (b1 : b < 4294967296) (z0 : 0 ≤ z) (z1 : z < 4294967296) (c0 : 0 ≤ c) (c1 : c < 4294967296) (y0 : 0 ≤ y) (y1 : y < 4294967296) (w : World) :
    Calls Try.prog 14 #[.agg #[.int .u32 b, .int .u32 z, .bool r, .bool q, .bool x], .agg #[.int .u32 c, .int .u32 y, .bool r', .bool q', .bool x']] w fun e w' => e = .returned (.bool (apB b z c y)) ∧ Below w.heap.size w w' := by
  obtain ⟨vA, h1⟩ : ∃ v, segR b z = v := ⟨_, rfl⟩
  obtain ⟨vB, h2⟩ : ∃ v, segR c y = v := ⟨_, rfl⟩
  have srA : ∀ w, Calls Try.prog 12 #[.agg #[.int .u32 b, .int .u32 z, .bool r, .bool q, .bool x]] w fun e w' => e = .returned (.bool vA) ∧ Below w.heap.size w w' := fun w => by
    have h := sright_any b z r q x b0 b1 z0 z1 w
    rw [h1] at h
    exact h
  have srB : ∀ w, Calls Try.prog 12 #[.agg #[.int .u32 c, .int .u32 y, .bool r', .bool q', .bool x']] w fun e w' => e = .returned (.bool vB) ∧ Below w.heap.size w w' := fun w => by
    have h := sright_any c y r' q' x' c0 c1 y0 y1 w
    rw [h2] at h
    exact h
  have seA := send_any b z r q x b0 b1 z0 z1
  have seB := send_any c y r' q' x' c0 c1 y0 y1
  cases vA
  · have hV := Lib.hid (show apB b z c y = false by unfold apB; rw [h1]; rfl)
    clear h1 h2
    go_enter Try.func14, Try.ntmps14
    go_wp2_with (first | (go_at_call 12; refine (srA _).mono ?_; rintro e w1 ⟨rfl, hb1⟩; obtain ⟨hc1, hz1⟩ := bcell hb1; (have hs1 : w.heap.size + 1 < w1.heap.size := by have := hb1.size; simp at this; omega); (have hn1 : w.heap.size < w1.heap.size := by omega)) | (go_at_call 12; refine (srB _).mono ?_; rintro e w2 ⟨rfl, hb2⟩; obtain ⟨hc2, hz2⟩ := bcell hb2; (have hs2 : w.heap.size + 1 < w2.heap.size := by have := hb2.size; omega); (have hn2 : w.heap.size < w2.heap.size := by omega)) | (go_at_call 17; refine (seA _).mono ?_; rintro e w3 ⟨rfl, hb3⟩; obtain ⟨hc3, hz3⟩ := bcell hb3; (have hs3 : w.heap.size + 1 < w3.heap.size := by have := hb3.size; omega); (have hn3 : w.heap.size < w3.heap.size := by omega)) | (go_at_call 17; refine (seB _).mono ?_; rintro e w4 ⟨rfl, hb4⟩; obtain ⟨hc4, hz4⟩ := bcell hb4; (have hs4 : w.heap.size + 1 < w4.heap.size := by have := hb4.size; omega); (have hn4 : w.heap.size < w4.heap.size := by omega)))
    go_ret
    exact ⟨by rw [hV.out]; rfl, by first | exact ((((below_last (below_last (Below.refl _ _) _) _).trans (hb1.mono (by simp; omega))).trans (hb2.mono (by omega))).trans (hb3.mono (by omega))).trans (hb4.mono (by omega)) | exact (((below_last (below_last (Below.refl _ _) _) _).trans (hb1.mono (by simp; omega))).trans (hb2.mono (by omega))).trans (hb3.mono (by omega)) | exact ((below_last (below_last (Below.refl _ _) _) _).trans (hb1.mono (by simp; omega))).trans (hb2.mono (by omega)) | exact (below_last (below_last (Below.refl _ _) _) _).trans (hb1.mono (by simp; omega))⟩
  cases vB
  · have hV := Lib.hid (show apB b z c y = false by unfold apB; rw [h1, h2]; rfl)
    clear h1 h2
    go_enter Try.func14, Try.ntmps14
    go_wp2_with (first | (go_at_call 12; refine (srA _).mono ?_; rintro e w1 ⟨rfl, hb1⟩; obtain ⟨hc1, hz1⟩ := bcell hb1; (have hs1 : w.heap.size + 1 < w1.heap.size := by have := hb1.size; simp at this; omega); (have hn1 : w.heap.size < w1.heap.size := by omega)) | (go_at_call 12; refine (srB _).mono ?_; rintro e w2 ⟨rfl, hb2⟩; obtain ⟨hc2, hz2⟩ := bcell hb2; (have hs2 : w.heap.size + 1 < w2.heap.size := by have := hb2.size; omega); (have hn2 : w.heap.size < w2.heap.size := by omega)) | (go_at_call 17; refine (seA _).mono ?_; rintro e w3 ⟨rfl, hb3⟩; obtain ⟨hc3, hz3⟩ := bcell hb3; (have hs3 : w.heap.size + 1 < w3.heap.size := by have := hb3.size; omega); (have hn3 : w.heap.size < w3.heap.size := by omega)) | (go_at_call 17; refine (seB _).mono ?_; rintro e w4 ⟨rfl, hb4⟩; obtain ⟨hc4, hz4⟩ := bcell hb4; (have hs4 : w.heap.size + 1 < w4.heap.size := by have := hb4.size; omega); (have hn4 : w.heap.size < w4.heap.size := by omega)))
    go_ret
    exact ⟨by rw [hV.out]; rfl, by first | exact ((((below_last (below_last (Below.refl _ _) _) _).trans (hb1.mono (by simp; omega))).trans (hb2.mono (by omega))).trans (hb3.mono (by omega))).trans (hb4.mono (by omega)) | exact (((below_last (below_last (Below.refl _ _) _) _).trans (hb1.mono (by simp; omega))).trans (hb2.mono (by omega))).trans (hb3.mono (by omega)) | exact ((below_last (below_last (Below.refl _ _) _) _).trans (hb1.mono (by simp; omega))).trans (hb2.mono (by omega)) | exact (below_last (below_last (Below.refl _ _) _) _).trans (hb1.mono (by simp; omega))⟩
  by_cases hz : z = 0
  · have hV := Lib.hid (show apB b z c y = true by unfold apB; rw [h1, h2, hz]; rfl)
    have hz' : (z == 0) = true := by rw [hz]; rfl
    clear hz h1 h2
    go_enter Try.func14, Try.ntmps14
    go_wp2_with (first | (go_at_call 12; refine (srA _).mono ?_; rintro e w1 ⟨rfl, hb1⟩; obtain ⟨hc1, hz1⟩ := bcell hb1; (have hs1 : w.heap.size + 1 < w1.heap.size := by have := hb1.size; simp at this; omega); (have hn1 : w.heap.size < w1.heap.size := by omega)) | (go_at_call 12; refine (srB _).mono ?_; rintro e w2 ⟨rfl, hb2⟩; obtain ⟨hc2, hz2⟩ := bcell hb2; (have hs2 : w.heap.size + 1 < w2.heap.size := by have := hb2.size; omega); (have hn2 : w.heap.size < w2.heap.size := by omega)) | (go_at_call 17; refine (seA _).mono ?_; rintro e w3 ⟨rfl, hb3⟩; obtain ⟨hc3, hz3⟩ := bcell hb3; (have hs3 : w.heap.size + 1 < w3.heap.size := by have := hb3.size; omega); (have hn3 : w.heap.size < w3.heap.size := by omega)) | (go_at_call 17; refine (seB _).mono ?_; rintro e w4 ⟨rfl, hb4⟩; obtain ⟨hc4, hz4⟩ := bcell hb4; (have hs4 : w.heap.size + 1 < w4.heap.size := by have := hb4.size; omega); (have hn4 : w.heap.size < w4.heap.size := by omega)))
    go_ret
    exact ⟨by rw [hV.out]; rfl, by first | exact ((((below_last (below_last (Below.refl _ _) _) _).trans (hb1.mono (by simp; omega))).trans (hb2.mono (by omega))).trans (hb3.mono (by omega))).trans (hb4.mono (by omega)) | exact (((below_last (below_last (Below.refl _ _) _) _).trans (hb1.mono (by simp; omega))).trans (hb2.mono (by omega))).trans (hb3.mono (by omega)) | exact ((below_last (below_last (Below.refl _ _) _) _).trans (hb1.mono (by simp; omega))).trans (hb2.mono (by omega)) | exact (below_last (below_last (Below.refl _ _) _) _).trans (hb1.mono (by simp; omega))⟩
  have hz' : (z == 0) = false := by simpa using hz
  clear hz
  by_cases hy : y = 0
  · have hV := Lib.hid (show apB b z c y = true by unfold apB; rw [h1, h2, hz', hy]; rfl)
    have hy' : (y == 0) = true := by rw [hy]; rfl
    clear hy h1 h2
    go_enter Try.func14, Try.ntmps14
    go_wp2_with (first | (go_at_call 12; refine (srA _).mono ?_; rintro e w1 ⟨rfl, hb1⟩; obtain ⟨hc1, hz1⟩ := bcell hb1; (have hs1 : w.heap.size + 1 < w1.heap.size := by have := hb1.size; simp at this; omega); (have hn1 : w.heap.size < w1.heap.size := by omega)) | (go_at_call 12; refine (srB _).mono ?_; rintro e w2 ⟨rfl, hb2⟩; obtain ⟨hc2, hz2⟩ := bcell hb2; (have hs2 : w.heap.size + 1 < w2.heap.size := by have := hb2.size; omega); (have hn2 : w.heap.size < w2.heap.size := by omega)) | (go_at_call 17; refine (seA _).mono ?_; rintro e w3 ⟨rfl, hb3⟩; obtain ⟨hc3, hz3⟩ := bcell hb3; (have hs3 : w.heap.size + 1 < w3.heap.size := by have := hb3.size; omega); (have hn3 : w.heap.size < w3.heap.size := by omega)) | (go_at_call 17; refine (seB _).mono ?_; rintro e w4 ⟨rfl, hb4⟩; obtain ⟨hc4, hz4⟩ := bcell hb4; (have hs4 : w.heap.size + 1 < w4.heap.size := by have := hb4.size; omega); (have hn4 : w.heap.size < w4.heap.size := by omega)))
    go_ret
    exact ⟨by rw [hV.out]; rfl, by first | exact ((((below_last (below_last (Below.refl _ _) _) _).trans (hb1.mono (by simp; omega))).trans (hb2.mono (by omega))).trans (hb3.mono (by omega))).trans (hb4.mono (by omega)) | exact (((below_last (below_last (Below.refl _ _) _) _).trans (hb1.mono (by simp; omega))).trans (hb2.mono (by omega))).trans (hb3.mono (by omega)) | exact ((below_last (below_last (Below.refl _ _) _) _).trans (hb1.mono (by simp; omega))).trans (hb2.mono (by omega)) | exact (below_last (below_last (Below.refl _ _) _) _).trans (hb1.mono (by simp; omega))⟩
  have hy' : (y == 0) = false := by simpa using hy
  clear hy
  rcases Int.lt_or_le c (b + z) with hl | hl
  · have hV := Lib.hid (show apB b z c y = decide (c + y ≤ b) by unfold apB; rw [h1, h2, hz', hy', decide_eq_false (show ¬ b + z ≤ c by omega)]; simp)
    have hd : decide (b + z ≤ c) = false := by simp; omega
    have wc : IntKind.u64.wrap c = c := by rw [IntKind.wrap_u64]; omega
    have wb : IntKind.u64.wrap b = b := by rw [IntKind.wrap_u64]; omega
    clear h1 h2
    go_enter Try.func14, Try.ntmps14
    go_wp2_with (first | (go_at_call 12; refine (srA _).mono ?_; rintro e w1 ⟨rfl, hb1⟩; obtain ⟨hc1, hz1⟩ := bcell hb1; (have hs1 : w.heap.size + 1 < w1.heap.size := by have := hb1.size; simp at this; omega); (have hn1 : w.heap.size < w1.heap.size := by omega)) | (go_at_call 12; refine (srB _).mono ?_; rintro e w2 ⟨rfl, hb2⟩; obtain ⟨hc2, hz2⟩ := bcell hb2; (have hs2 : w.heap.size + 1 < w2.heap.size := by have := hb2.size; omega); (have hn2 : w.heap.size < w2.heap.size := by omega)) | (go_at_call 17; refine (seA _).mono ?_; rintro e w3 ⟨rfl, hb3⟩; obtain ⟨hc3, hz3⟩ := bcell hb3; (have hs3 : w.heap.size + 1 < w3.heap.size := by have := hb3.size; omega); (have hn3 : w.heap.size < w3.heap.size := by omega)) | (go_at_call 17; refine (seB _).mono ?_; rintro e w4 ⟨rfl, hb4⟩; obtain ⟨hc4, hz4⟩ := bcell hb4; (have hs4 : w.heap.size + 1 < w4.heap.size := by have := hb4.size; omega); (have hn4 : w.heap.size < w4.heap.size := by omega)))
    have hO : Below w.heap.size w w2 := ((below_last (below_last (Below.refl _ _) _) _).trans (hb1.mono (by simp; omega))).trans (hb2.mono (by omega))
    have hs0 : w.heap.size ≤ w2.heap.size := by omega
    have s0 : w2.cell? ⟨w.heap.size, 0, none⟩ = some (.int .u32 b) := by rw [hc2 _ _ (by omega), hc1 _ _ (by simp <;> omega)]; simp
    have s1 : w2.cell? ⟨w.heap.size, 1, none⟩ = some (.int .u32 z) := by rw [hc2 _ _ (by omega), hc1 _ _ (by simp <;> omega)]; simp
    have s2 : w2.cell? ⟨w.heap.size, 2, none⟩ = some (.bool r) := by rw [hc2 _ _ (by omega), hc1 _ _ (by simp <;> omega)]; simp
    have s3 : w2.cell? ⟨w.heap.size, 3, none⟩ = some (.bool q) := by rw [hc2 _ _ (by omega), hc1 _ _ (by simp <;> omega)]; simp
    have s4 : w2.cell? ⟨w.heap.size, 4, none⟩ = some (.bool x) := by rw [hc2 _ _ (by omega), hc1 _ _ (by simp <;> omega)]; simp
    have s5 : w2.cell? ⟨w.heap.size + 1, 0, none⟩ = some (.int .u32 c) := by rw [hc2 _ _ (by omega), hc1 _ _ (by simp <;> omega)]; simp
    have s6 : w2.cell? ⟨w.heap.size + 1, 1, none⟩ = some (.int .u32 y) := by rw [hc2 _ _ (by omega), hc1 _ _ (by simp <;> omega)]; simp
    have s7 : w2.cell? ⟨w.heap.size + 1, 2, none⟩ = some (.bool r') := by rw [hc2 _ _ (by omega), hc1 _ _ (by simp <;> omega)]; simp
    have s8 : w2.cell? ⟨w.heap.size + 1, 3, none⟩ = some (.bool q') := by rw [hc2 _ _ (by omega), hc1 _ _ (by simp <;> omega)]; simp
    have s9 : w2.cell? ⟨w.heap.size + 1, 4, none⟩ = some (.bool x') := by rw [hc2 _ _ (by omega), hc1 _ _ (by simp <;> omega)]; simp
    have hK : ∀ (fn : FuncId) (args : Array Value) (v : Value), (∀ w, Calls Try.prog fn args w fun e w' => e = .returned v ∧ Below w.heap.size w w') → ∀ u' : World, (Below w.heap.size w u' ∧ w.heap.size ≤ u'.heap.size ∧ u'.cell? ⟨w.heap.size, 0, none⟩ = some (.int .u32 b) ∧ u'.cell? ⟨w.heap.size, 1, none⟩ = some (.int .u32 z) ∧ u'.cell? ⟨w.heap.size, 2, none⟩ = some (.bool r) ∧ u'.cell? ⟨w.heap.size, 3, none⟩ = some (.bool q) ∧ u'.cell? ⟨w.heap.size, 4, none⟩ = some (.bool x) ∧ u'.cell? ⟨w.heap.size + 1, 0, none⟩ = some (.int .u32 c) ∧ u'.cell? ⟨w.heap.size + 1, 1, none⟩ = some (.int .u32 y) ∧ u'.cell? ⟨w.heap.size + 1, 2, none⟩ = some (.bool r') ∧ u'.cell? ⟨w.heap.size + 1, 3, none⟩ = some (.bool q') ∧ u'.cell? ⟨w.heap.size + 1, 4, none⟩ = some (.bool x')) → Calls Try.prog fn args u' fun e u'' => e = .returned v ∧ (Below w.heap.size w u'' ∧ w.heap.size ≤ u''.heap.size ∧ u''.cell? ⟨w.heap.size, 0, none⟩ = some (.int .u32 b) ∧ u''.cell? ⟨w.heap.size, 1, none⟩ = some (.int .u32 z) ∧ u''.cell? ⟨w.heap.size, 2, none⟩ = some (.bool r) ∧ u''.cell? ⟨w.heap.size, 3, none⟩ = some (.bool q) ∧ u''.cell? ⟨w.heap.size, 4, none⟩ = some (.bool x) ∧ u''.cell? ⟨w.heap.size + 1, 0, none⟩ = some (.int .u32 c) ∧ u''.cell? ⟨w.heap.size + 1, 1, none⟩ = some (.int .u32 y) ∧ u''.cell? ⟨w.heap.size + 1, 2, none⟩ = some (.bool r') ∧ u''.cell? ⟨w.heap.size + 1, 3, none⟩ = some (.bool q') ∧ u''.cell? ⟨w.heap.size + 1, 4, none⟩ = some (.bool x')) := fun fn args v h u' hu' => carryG h u' hu'
    clear hb1 hb2 hc1 hc2 hz1 hz2 hs1 hs2 hn1 hn2
    first | go_region_held3 (fun w' => Below w.heap.size w w' ∧ w.heap.size ≤ w'.heap.size ∧ w'.cell? ⟨w.heap.size, 0, none⟩ = some (.int .u32 b) ∧ w'.cell? ⟨w.heap.size, 1, none⟩ = some (.int .u32 z) ∧ w'.cell? ⟨w.heap.size, 2, none⟩ = some (.bool r) ∧ w'.cell? ⟨w.heap.size, 3, none⟩ = some (.bool q) ∧ w'.cell? ⟨w.heap.size, 4, none⟩ = some (.bool x) ∧ w'.cell? ⟨w.heap.size + 1, 0, none⟩ = some (.int .u32 c) ∧ w'.cell? ⟨w.heap.size + 1, 1, none⟩ = some (.int .u32 y) ∧ w'.cell? ⟨w.heap.size + 1, 2, none⟩ = some (.bool r') ∧ w'.cell? ⟨w.heap.size + 1, 3, none⟩ = some (.bool q') ∧ w'.cell? ⟨w.heap.size + 1, 4, none⟩ = some (.bool x')) (first | (exact ⟨hO.drew, by simpa using hs0, by simpa using s0, by simpa using s1, by simpa using s2, by simpa using s3, by simpa using s4, by simpa using s5, by simpa using s6, by simpa using s7, by simpa using s8, by simpa using s9⟩) | assumption | go_keep)
      (first | (go_at_call 17; first | ((with_reducible refine (hK _ _ _ seA _ ?_).mono ?_); (first | assumption | simp [*]); rintro e w' ⟨rfl, hS'⟩) | ((with_reducible refine (hK _ _ _ seB _ ?_).mono ?_); (first | assumption | simp [*]); rintro e w' ⟨rfl, hS'⟩))) | fail
    all_goals
      have e1 := hS'.1
      clear hK
      go_wp2_with fail
      go_ret
      exact ⟨by rw [hV.out]; rfl, e1⟩
  · have hV := Lib.hid (show apB b z c y = true by unfold apB; rw [h1, h2, hz', hy', decide_eq_true hl]; rfl)
    have hd : decide (b + z ≤ c) = true := by simp; omega
    have wc : IntKind.u64.wrap c = c := by rw [IntKind.wrap_u64]; omega
    have wb : IntKind.u64.wrap b = b := by rw [IntKind.wrap_u64]; omega
    clear h1 h2
    go_enter Try.func14, Try.ntmps14
    go_wp2_with (first | (go_at_call 12; refine (srA _).mono ?_; rintro e w1 ⟨rfl, hb1⟩; obtain ⟨hc1, hz1⟩ := bcell hb1; (have hs1 : w.heap.size + 1 < w1.heap.size := by have := hb1.size; simp at this; omega); (have hn1 : w.heap.size < w1.heap.size := by omega)) | (go_at_call 12; refine (srB _).mono ?_; rintro e w2 ⟨rfl, hb2⟩; obtain ⟨hc2, hz2⟩ := bcell hb2; (have hs2 : w.heap.size + 1 < w2.heap.size := by have := hb2.size; omega); (have hn2 : w.heap.size < w2.heap.size := by omega)) | (go_at_call 17; refine (seA _).mono ?_; rintro e w3 ⟨rfl, hb3⟩; obtain ⟨hc3, hz3⟩ := bcell hb3; (have hs3 : w.heap.size + 1 < w3.heap.size := by have := hb3.size; omega); (have hn3 : w.heap.size < w3.heap.size := by omega)) | (go_at_call 17; refine (seB _).mono ?_; rintro e w4 ⟨rfl, hb4⟩; obtain ⟨hc4, hz4⟩ := bcell hb4; (have hs4 : w.heap.size + 1 < w4.heap.size := by have := hb4.size; omega); (have hn4 : w.heap.size < w4.heap.size := by omega)))
    have hO : Below w.heap.size w w2 := ((below_last (below_last (Below.refl _ _) _) _).trans (hb1.mono (by simp; omega))).trans (hb2.mono (by omega))
    have hs0 : w.heap.size ≤ w2.heap.size := by omega
    have s0 : w2.cell? ⟨w.heap.size, 0, none⟩ = some (.int .u32 b) := by rw [hc2 _ _ (by omega), hc1 _ _ (by simp <;> omega)]; simp
    have s1 : w2.cell? ⟨w.heap.size, 1, none⟩ = some (.int .u32 z) := by rw [hc2 _ _ (by omega), hc1 _ _ (by simp <;> omega)]; simp
    have s2 : w2.cell? ⟨w.heap.size, 2, none⟩ = some (.bool r) := by rw [hc2 _ _ (by omega), hc1 _ _ (by simp <;> omega)]; simp
    have s3 : w2.cell? ⟨w.heap.size, 3, none⟩ = some (.bool q) := by rw [hc2 _ _ (by omega), hc1 _ _ (by simp <;> omega)]; simp
    have s4 : w2.cell? ⟨w.heap.size, 4, none⟩ = some (.bool x) := by rw [hc2 _ _ (by omega), hc1 _ _ (by simp <;> omega)]; simp
    have s5 : w2.cell? ⟨w.heap.size + 1, 0, none⟩ = some (.int .u32 c) := by rw [hc2 _ _ (by omega), hc1 _ _ (by simp <;> omega)]; simp
    have s6 : w2.cell? ⟨w.heap.size + 1, 1, none⟩ = some (.int .u32 y) := by rw [hc2 _ _ (by omega), hc1 _ _ (by simp <;> omega)]; simp
    have s7 : w2.cell? ⟨w.heap.size + 1, 2, none⟩ = some (.bool r') := by rw [hc2 _ _ (by omega), hc1 _ _ (by simp <;> omega)]; simp
    have s8 : w2.cell? ⟨w.heap.size + 1, 3, none⟩ = some (.bool q') := by rw [hc2 _ _ (by omega), hc1 _ _ (by simp <;> omega)]; simp
    have s9 : w2.cell? ⟨w.heap.size + 1, 4, none⟩ = some (.bool x') := by rw [hc2 _ _ (by omega), hc1 _ _ (by simp <;> omega)]; simp
    have hK : ∀ (fn : FuncId) (args : Array Value) (v : Value), (∀ w, Calls Try.prog fn args w fun e w' => e = .returned v ∧ Below w.heap.size w w') → ∀ u' : World, (Below w.heap.size w u' ∧ w.heap.size ≤ u'.heap.size ∧ u'.cell? ⟨w.heap.size, 0, none⟩ = some (.int .u32 b) ∧ u'.cell? ⟨w.heap.size, 1, none⟩ = some (.int .u32 z) ∧ u'.cell? ⟨w.heap.size, 2, none⟩ = some (.bool r) ∧ u'.cell? ⟨w.heap.size, 3, none⟩ = some (.bool q) ∧ u'.cell? ⟨w.heap.size, 4, none⟩ = some (.bool x) ∧ u'.cell? ⟨w.heap.size + 1, 0, none⟩ = some (.int .u32 c) ∧ u'.cell? ⟨w.heap.size + 1, 1, none⟩ = some (.int .u32 y) ∧ u'.cell? ⟨w.heap.size + 1, 2, none⟩ = some (.bool r') ∧ u'.cell? ⟨w.heap.size + 1, 3, none⟩ = some (.bool q') ∧ u'.cell? ⟨w.heap.size + 1, 4, none⟩ = some (.bool x')) → Calls Try.prog fn args u' fun e u'' => e = .returned v ∧ (Below w.heap.size w u'' ∧ w.heap.size ≤ u''.heap.size ∧ u''.cell? ⟨w.heap.size, 0, none⟩ = some (.int .u32 b) ∧ u''.cell? ⟨w.heap.size, 1, none⟩ = some (.int .u32 z) ∧ u''.cell? ⟨w.heap.size, 2, none⟩ = some (.bool r) ∧ u''.cell? ⟨w.heap.size, 3, none⟩ = some (.bool q) ∧ u''.cell? ⟨w.heap.size, 4, none⟩ = some (.bool x) ∧ u''.cell? ⟨w.heap.size + 1, 0, none⟩ = some (.int .u32 c) ∧ u''.cell? ⟨w.heap.size + 1, 1, none⟩ = some (.int .u32 y) ∧ u''.cell? ⟨w.heap.size + 1, 2, none⟩ = some (.bool r') ∧ u''.cell? ⟨w.heap.size + 1, 3, none⟩ = some (.bool q') ∧ u''.cell? ⟨w.heap.size + 1, 4, none⟩ = some (.bool x')) := fun fn args v h u' hu' => carryG h u' hu'
    clear hb1 hb2 hc1 hc2 hz1 hz2 hs1 hs2 hn1 hn2
    refine wp_region_held_drew (S := fun w' => Below w.heap.size w w' ∧ w.heap.size ≤ w'.heap.size ∧ w'.cell? ⟨w.heap.size, 0, none⟩ = some (.int .u32 b) ∧ w'.cell? ⟨w.heap.size, 1, none⟩ = some (.int .u32 z) ∧ w'.cell? ⟨w.heap.size, 2, none⟩ = some (.bool r) ∧ w'.cell? ⟨w.heap.size, 3, none⟩ = some (.bool q) ∧ w'.cell? ⟨w.heap.size, 4, none⟩ = some (.bool x) ∧ w'.cell? ⟨w.heap.size + 1, 0, none⟩ = some (.int .u32 c) ∧ w'.cell? ⟨w.heap.size + 1, 1, none⟩ = some (.int .u32 y) ∧ w'.cell? ⟨w.heap.size + 1, 2, none⟩ = some (.bool r') ∧ w'.cell? ⟨w.heap.size + 1, 3, none⟩ = some (.bool q') ∧ w'.cell? ⟨w.heap.size + 1, 4, none⟩ = some (.bool x')) (by kernel_rfl) ⟨hO.drew, by simpa using hs0, by simpa using s0, by simpa using s1, by simpa using s2, by simpa using s3, by simpa using s4, by simpa using s5, by simpa using s6, by simpa using s7, by simpa using s8, by simpa using s9⟩ (fun hH => ?_)
    refine wpAnyH_take (i := 0) (oi := _) (v := .agg #[.int .u32 b, .int .u32 z, .bool r, .bool q, .bool x]) rfl (by kernel_rfl) (by kernel_rfl) (by kernel_rfl) (fun _ _ _ h => h) (Or.inl ⟨rfl, fun w' hS' => by dsimp only at hS'; go_simp⟩) hH ?_
    simp only [Act.put, List.getElem_toArray, List.getElem_cons_zero, List.setIfInBounds_toArray, List.set_cons_zero, List.set_cons_succ]
    refine wpAnyH_take (i := 2) (oi := _) (v := .pointer (some ⟨w.heap.size + 1, 0, none⟩)) rfl (by kernel_rfl) (by kernel_rfl) (by kernel_rfl) (fun _ _ _ h => h) (Or.inl ⟨rfl, fun w' hS' => by dsimp only at hS'; go_simp⟩) hH ?_
    simp only [Act.put, List.getElem_toArray, List.getElem_cons_zero, List.getElem_cons_succ, List.setIfInBounds_toArray, List.set_cons_zero, List.set_cons_succ]
    refine wpAnyH_take (i := 3) (oi := _) (v := .int .u32 c) rfl (by kernel_rfl) (by kernel_rfl) (by kernel_rfl) (fun _ _ _ h => h) (Or.inl ⟨rfl, fun w' hS' => by dsimp only at hS'; go_simp⟩) hH ?_
    simp only [Act.put, List.getElem_toArray, List.getElem_cons_zero, List.getElem_cons_succ, List.setIfInBounds_toArray, List.set_cons_zero, List.set_cons_succ]
    refine wpAnyH_take (i := 4) (oi := _) (v := .int .u64 c) rfl (by kernel_rfl) (by kernel_rfl) (by kernel_rfl) (fun _ _ _ h => h) (Or.inl ⟨rfl, fun w' hS' => by dsimp only at hS'; go_simp⟩) hH ?_
    simp only [Act.put, List.getElem_toArray, List.getElem_cons_zero, List.getElem_cons_succ, List.setIfInBounds_toArray, List.set_cons_zero, List.set_cons_succ]
    refine wpAnyH_ready (rs := [1]) (by kernel_rfl) (by simp) ?_
    refine AllReadyH.cons rfl (fun K hC => ?_) AllReadyH.nil
    go_simp
    refine (hK _ _ _ seA _ hH).mono ?_
    clear hH
    rintro e w' ⟨rfl, hH⟩
    go_wp2_with fail
    refine hC.out _ _ hH (fun _ => ?_)
    clear hC K
    refine wpAnyH_take (i := 5) (oi := _) (v := .bool true) rfl (by kernel_rfl) (by kernel_rfl) (by kernel_rfl) (fun _ _ _ h => h) (Or.inl ⟨rfl, fun w' hS' => by dsimp only at hS'; go_simp⟩) hH ?_
    simp only [Act.put, List.getElem_toArray, List.getElem_cons_zero, List.getElem_cons_succ, List.setIfInBounds_toArray, List.set_cons_zero, List.set_cons_succ]
    refine wpAnyH_take (i := 6) (oi := _) (v := .bool true) rfl (by kernel_rfl) (by kernel_rfl) (by kernel_rfl) (fun _ _ _ h => h) (Or.inl ⟨rfl, fun w' hS' => by dsimp only at hS'; go_simp⟩) hH ?_
    simp only [Act.put, List.getElem_toArray, List.getElem_cons_zero, List.getElem_cons_succ, List.setIfInBounds_toArray, List.set_cons_zero, List.set_cons_succ]
    refine wpAnyH_take (i := 7) (oi := _) (v := undef) rfl (by kernel_rfl) (by kernel_rfl) (by kernel_rfl) (fun _ _ _ h => h) (Or.inr ⟨rfl, rfl⟩) hH ?_
    simp only [Act.put, List.getElem_toArray, List.getElem_cons_zero, List.getElem_cons_succ, List.setIfInBounds_toArray, List.set_cons_zero, List.set_cons_succ]
    refine wpAnyH_take (i := 8) (oi := _) (v := undef) rfl (by kernel_rfl) (by kernel_rfl) (by kernel_rfl) (fun _ _ _ h => h) (Or.inr ⟨rfl, rfl⟩) hH ?_
    simp only [Act.put, List.getElem_toArray, List.getElem_cons_zero, List.getElem_cons_succ, List.setIfInBounds_toArray, List.set_cons_zero, List.set_cons_succ]
    refine wpAnyH_take (i := 9) (oi := _) (v := undef) rfl (by kernel_rfl) (by kernel_rfl) (by kernel_rfl) (fun _ _ _ h => h) (Or.inr ⟨rfl, rfl⟩) hH ?_
    simp only [Act.put, List.getElem_toArray, List.getElem_cons_zero, List.getElem_cons_succ, List.setIfInBounds_toArray, List.set_cons_zero, List.set_cons_succ]
    refine wpAnyH_take (i := 10) (oi := _) (v := undef) rfl (by kernel_rfl) (by kernel_rfl) (by kernel_rfl) (fun _ _ _ h => h) (Or.inr ⟨rfl, rfl⟩) hH ?_
    simp only [Act.put, List.getElem_toArray, List.getElem_cons_zero, List.getElem_cons_succ, List.setIfInBounds_toArray, List.set_cons_zero, List.set_cons_succ]
    refine wpAnyH_take (i := 11) (oi := _) (v := undef) rfl (by kernel_rfl) (by kernel_rfl) (by kernel_rfl) (fun _ _ _ h => h) (Or.inr ⟨rfl, rfl⟩) hH ?_
    simp only [Act.put, List.getElem_toArray, List.getElem_cons_zero, List.getElem_cons_succ, List.setIfInBounds_toArray, List.set_cons_zero, List.set_cons_succ]
    refine wpAnyH_take (i := 12) (oi := _) (v := undef) rfl (by kernel_rfl) (by kernel_rfl) (by kernel_rfl) (fun _ _ _ h => h) (Or.inr ⟨rfl, rfl⟩) hH ?_
    simp only [Act.put, List.getElem_toArray, List.getElem_cons_zero, List.getElem_cons_succ, List.setIfInBounds_toArray, List.set_cons_zero, List.set_cons_succ]
    refine wpAnyH_take (i := 13) (oi := _) (v := .bool true) rfl (by kernel_rfl) (by kernel_rfl) (by kernel_rfl) (fun _ _ _ h => h) (Or.inl ⟨rfl, fun w' hS' => by dsimp only at hS'; go_simp⟩) hH ?_
    simp only [Act.put, List.getElem_toArray, List.getElem_cons_zero, List.getElem_cons_succ, List.setIfInBounds_toArray, List.set_cons_zero, List.set_cons_succ]
    refine wpAnyH_take (i := 14) (oi := _) (v := .bool true) rfl (by kernel_rfl) (by kernel_rfl) (by kernel_rfl) (fun _ _ _ h => h) (Or.inl ⟨rfl, fun w' hS' => by dsimp only at hS'; go_simp⟩) hH ?_
    simp only [Act.put, List.getElem_toArray, List.getElem_cons_zero, List.getElem_cons_succ, List.setIfInBounds_toArray, List.set_cons_zero, List.set_cons_succ]
    refine wpAnyH_done (by kernel_rfl) ?_ _
    have e1 := hH.1
    clear hK
    go_wp2_with fail
    go_ret
    exact ⟨by rw [hV.out]; rfl, e1⟩
end Go.Proofs.Ytfnbnhgcjpfdhaa
