import Derived.Deep.RegionHeld3
import Derived.Test.YtbbegbaaefgikaaKTQ
namespace Go.Proofs.Ytbbegbaaefgikaa
open Go.ChangeShapes Go.WideShapes Go.ChangeAt Go.RowKit
set_option maxRecDepth 100000
theorem send_any (b z : Int) (r q x : Bool) (b0 : 0 ≤ b) (b1 : b < 4294967296) (z0 : 0 ≤ z) (z1 : z < 4294967296) (w : World) : Calls Try.prog 38 #[.agg #[.int .u32 b, .int .u32 z, .bool r, .bool q, .bool x]] w fun e w' => e = .returned (.int .u64 (b + z)) ∧ Below w.heap.size w w' := by
  go_enter Try.func38, Try.ntmps38
  go_wp2
  go_ret
  exact ⟨rfl, below_last (Below.refl _ _) _⟩
set_option maxRecDepth 100000
theorem smay_any (b z : Int) (r q x : Bool) (what : Int) (w : World) : Calls Try.prog 35 #[.agg #[.int .u32 b, .int .u32 z, .bool r, .bool q, .bool x], .int .i64 what] w fun e w' => e = .returned (.bool (mayB r q x what)) ∧ Below w.heap.size w w' := by
  have hw : what = 0 ∨ what = 1 ∨ what = 2 ∨ what < 0 ∨ 3 ≤ what := by omega
  rcases hw with rfl | rfl | rfl | h | h
  · go_enter Try.func35, Try.ntmps35
    go_wp2
    go_ret
    exact ⟨rfl, below_last (below_last (Below.refl _ _) _) _⟩
  · go_enter Try.func35, Try.ntmps35
    go_wp2
    go_ret
    exact ⟨rfl, below_last (below_last (Below.refl _ _) _) _⟩
  · go_enter Try.func35, Try.ntmps35
    go_wp2
    go_ret
    exact ⟨rfl, below_last (below_last (Below.refl _ _) _) _⟩
  · have hV := Lib.hid (show mayB r q x what = false by unfold mayB; rw [if_neg (by omega), if_neg (by omega), if_neg (by omega)])
    go_enter Try.func35, Try.ntmps35
    go_wp2
    go_ret
    exact ⟨by rw [hV.out]; rfl, below_last (below_last (Below.refl _ _) _) _⟩
  · have hV := Lib.hid (show mayB r q x what = false by unfold mayB; rw [if_neg (by omega), if_neg (by omega), if_neg (by omega)])
    go_enter Try.func35, Try.ntmps35
    go_wp2
    go_ret
    exact ⟨by rw [hV.out]; rfl, below_last (below_last (Below.refl _ _) _) _⟩
set_option maxRecDepth 512
theorem sright_any (b z : Int) (r q x : Bool) (b0 : 0 ≤ b) (b1 : b < 4294967296) (z0 : 0 ≤ z) (z1 : z < 4294967296) (w : World) : Calls Try.prog 36 #[.agg #[.int .u32 b, .int .u32 z, .bool r, .bool q, .bool x]] w fun e w' => e = .returned (.bool (segR b z)) ∧ Below w.heap.size w w' := by
  go_enter Try.func36, Try.ntmps36
  go_wp2_with (go_at_call 38; refine (send_any b z _ _ _ b0 b1 z0 z1 _).mono ?_; rintro e w1 ⟨rfl, hb1⟩; obtain ⟨hc, hz⟩ := bcell hb1)
  go_ret
  exact ⟨rfl, below_next (Below.refl _ _) hb1⟩
set_option maxRecDepth 100000
set_option maxHeartbeats 8000000
theorem sat_any (b z : Int) (r q x : Bool) (off n what : Int) (b0 : 0 ≤ b) (b1 : b < 4294967296) (z0 : 0 ≤ z) (z1 : z < 4294967296) (o0 : 0 ≤ off) (o1 : off < 4294967296) (w : World) : Calls Try.prog 25 #[.agg #[.int .u32 b, .int .u32 z, .bool r, .bool q, .bool x], .int .u32 off, .int .i64 n, .int .i64 what] w fun e w' => e = .returned (.tuple #[.int .u32 (atV b z r q x off n what), .int .i64 (atE b z r q x off n what)]) ∧ Below w.heap.size w w' := by
  cases hm : mayB r q x what
  · have hV := Lib.hid (show atV b z r q x off n what = 0 by unfold atV; rw [hm]; rfl)
    have hE := Lib.hid (show atE b z r q x off n what = 25 by unfold atE; rw [hm]; rfl)
    have smay : ∀ w, Calls Try.prog 35 #[.agg #[.int .u32 b, .int .u32 z, .bool r, .bool q, .bool x], .int .i64 what] w fun e w' => e = .returned (.bool false) ∧ Below w.heap.size w w' := fun w => by
      have h := smay_any b z r q x what w
      rw [hm] at h
      exact h
    have sright := sright_any b z r q x b0 b1 z0 z1
    clear hm
    go_enter Try.func25, Try.ntmps25
    go_wp2_with (first | (go_at_call 35; refine (smay _).mono ?_; rintro e w1 ⟨rfl, hb1⟩; obtain ⟨hc, hz⟩ := bcell hb1; (have hs1 := bsize hb1)) | (go_at_call 36; refine (sright _).mono ?_; rintro e w2 ⟨rfl, hb2⟩; obtain ⟨hc2, hz2⟩ := bcell hb2; (have hs2 := hb2.size)))
    go_ret2
    exact ⟨by rw [hV.out, hE.out]; rfl, by first | exact (below_next (Below.refl _ _) hb1).trans (hb2.mono (by have := hs1; omega)) | exact below_next (Below.refl _ _) hb1⟩
  · have smay : ∀ w, Calls Try.prog 35 #[.agg #[.int .u32 b, .int .u32 z, .bool r, .bool q, .bool x], .int .i64 what] w fun e w' => e = .returned (.bool true) ∧ Below w.heap.size w w' := fun w => by
      have h := smay_any b z r q x what w
      rw [hm] at h
      exact h
    have hyes : fitB b z off n = true → atV b z r q x off n what = b + off ∧ atE b z r q x off n what = 0 := by
      intro h2; unfold atV atE; rw [hm, h2]; exact ⟨rfl, rfl⟩
    have hun : fitB b z off n = false → atV b z r q x off n what = 0 ∧ atE b z r q x off n what = 24 := by
      intro h2; unfold atV atE; rw [hm, h2]; exact ⟨rfl, rfl⟩
    clear hm
    obtain ⟨c, hcl⟩ : ∃ c, c = clampN n := ⟨_, rfl⟩
    have hn : (n < 1 ∧ c = 1) ∨ (1 ≤ n ∧ n ≤ 16 ∧ c = n) ∨ (16 < n ∧ c = 16) := by
      rw [hcl]; unfold clampN; split <;> (try split) <;> omega
    have hf : (z < off + c ∧ fitB b z off n = false) ∨ (off + c ≤ z ∧ segR b z = false ∧ fitB b z off n = false) ∨ (off + c ≤ z ∧ segR b z = true ∧ fitB b z off n = true ∧ b + off < 4294967296) := by
      rw [hcl]
      have c0 := clampN_lo n
      unfold fitB
      by_cases h : off + clampN n ≤ z
      · cases hs : segR b z
        · exact .inr (.inl ⟨h, rfl, rfl⟩)
        · unfold segR at hs
          simp only [decide_eq_true_eq] at hs
          exact .inr (.inr ⟨h, rfl, by rw [decide_eq_true h]; rfl, by omega⟩)
      · exact .inl ⟨by omega, by rw [decide_eq_false h, Bool.and_false]⟩
    have sr : ∀ v : Bool, segR b z = v → ∀ w, Calls Try.prog 36 #[.agg #[.int .u32 b, .int .u32 z, .bool r, .bool q, .bool x]] w fun e w' => e = .returned (.bool v) ∧ Below w.heap.size w w' := fun v hv w => by
      have h := sright_any b z r q x b0 b1 z0 z1 w
      rw [hv] at h
      exact h
    clear hcl
    rcases hf with ⟨hl, hf⟩ | ⟨hl, hs, hf⟩ | ⟨hl, hs, hf, hl2⟩
    · obtain ⟨hv, he⟩ := hun hf
      have hV := Lib.hid hv
      have hE := Lib.hid he
      have sright := sright_any b z r q x b0 b1 z0 z1
      clear hyes hun hv he hf sr
      rcases hn with ⟨hn, rfl⟩ | ⟨hn, hn', rfl⟩ | ⟨hn, rfl⟩
      · go_enter Try.func25, Try.ntmps25
        go_wp2_with (first | (go_at_call 35; refine (smay _).mono ?_; rintro e w1 ⟨rfl, hb1⟩; obtain ⟨hc, hz⟩ := bcell hb1; (have hs1 := bsize hb1)) | (go_at_call 36; refine (sright _).mono ?_; rintro e w2 ⟨rfl, hb2⟩; obtain ⟨hc2, hz2⟩ := bcell hb2; (have hs2 := hb2.size)))
        go_ret2
        exact ⟨by rw [hV.out, hE.out]; rfl, by first | exact (below_next (Below.refl _ _) hb1).trans (hb2.mono (by have := hs1; omega)) | exact below_next (Below.refl _ _) hb1⟩
      · go_enter Try.func25, Try.ntmps25
        go_wp2_with (first | (go_at_call 35; refine (smay _).mono ?_; rintro e w1 ⟨rfl, hb1⟩; obtain ⟨hc, hz⟩ := bcell hb1; (have hs1 := bsize hb1)) | (go_at_call 36; refine (sright _).mono ?_; rintro e w2 ⟨rfl, hb2⟩; obtain ⟨hc2, hz2⟩ := bcell hb2; (have hs2 := hb2.size)))
        go_ret2
        exact ⟨by rw [hV.out, hE.out]; rfl, by first | exact (below_next (Below.refl _ _) hb1).trans (hb2.mono (by have := hs1; omega)) | exact below_next (Below.refl _ _) hb1⟩
      · go_enter Try.func25, Try.ntmps25
        go_wp2_with (first | (go_at_call 35; refine (smay _).mono ?_; rintro e w1 ⟨rfl, hb1⟩; obtain ⟨hc, hz⟩ := bcell hb1; (have hs1 := bsize hb1)) | (go_at_call 36; refine (sright _).mono ?_; rintro e w2 ⟨rfl, hb2⟩; obtain ⟨hc2, hz2⟩ := bcell hb2; (have hs2 := hb2.size)))
        go_ret2
        exact ⟨by rw [hV.out, hE.out]; rfl, by first | exact (below_next (Below.refl _ _) hb1).trans (hb2.mono (by have := hs1; omega)) | exact below_next (Below.refl _ _) hb1⟩
    · obtain ⟨hv, he⟩ := hun hf
      have hV := Lib.hid hv
      have hE := Lib.hid he
      have sright := sr _ hs
      clear hyes hun hv he hf sr hs
      rcases hn with ⟨hn, rfl⟩ | ⟨hn, hn', rfl⟩ | ⟨hn, rfl⟩
      · go_enter Try.func25, Try.ntmps25
        go_wp2_with (first | (go_at_call 35; refine (smay _).mono ?_; rintro e w1 ⟨rfl, hb1⟩; obtain ⟨hc, hz⟩ := bcell hb1; (have hs1 := bsize hb1)) | (go_at_call 36; refine (sright _).mono ?_; rintro e w2 ⟨rfl, hb2⟩; obtain ⟨hc2, hz2⟩ := bcell hb2; (have hs2 := hb2.size)))
        go_ret2
        exact ⟨by rw [hV.out, hE.out]; rfl, by first | exact (below_next (Below.refl _ _) hb1).trans (hb2.mono (by have := hs1; omega)) | exact below_next (Below.refl _ _) hb1⟩
      · go_enter Try.func25, Try.ntmps25
        go_wp2_with (first | (go_at_call 35; refine (smay _).mono ?_; rintro e w1 ⟨rfl, hb1⟩; obtain ⟨hc, hz⟩ := bcell hb1; (have hs1 := bsize hb1)) | (go_at_call 36; refine (sright _).mono ?_; rintro e w2 ⟨rfl, hb2⟩; obtain ⟨hc2, hz2⟩ := bcell hb2; (have hs2 := hb2.size)))
        go_ret2
        exact ⟨by rw [hV.out, hE.out]; rfl, by first | exact (below_next (Below.refl _ _) hb1).trans (hb2.mono (by have := hs1; omega)) | exact below_next (Below.refl _ _) hb1⟩
      · go_enter Try.func25, Try.ntmps25
        go_wp2_with (first | (go_at_call 35; refine (smay _).mono ?_; rintro e w1 ⟨rfl, hb1⟩; obtain ⟨hc, hz⟩ := bcell hb1; (have hs1 := bsize hb1)) | (go_at_call 36; refine (sright _).mono ?_; rintro e w2 ⟨rfl, hb2⟩; obtain ⟨hc2, hz2⟩ := bcell hb2; (have hs2 := hb2.size)))
        go_ret2
        exact ⟨by rw [hV.out, hE.out]; rfl, by first | exact (below_next (Below.refl _ _) hb1).trans (hb2.mono (by have := hs1; omega)) | exact below_next (Below.refl _ _) hb1⟩
    · obtain ⟨hv, he⟩ := hyes hf
      have hV := Lib.hid hv
      have hE := Lib.hid he
      have sright := sr _ hs
      clear hyes hun hv he hf sr hs
      rcases hn with ⟨hn, rfl⟩ | ⟨hn, hn', rfl⟩ | ⟨hn, rfl⟩
      · go_enter Try.func25, Try.ntmps25
        go_wp2_with (first | (go_at_call 35; refine (smay _).mono ?_; rintro e w1 ⟨rfl, hb1⟩; obtain ⟨hc, hz⟩ := bcell hb1; (have hs1 := bsize hb1)) | (go_at_call 36; refine (sright _).mono ?_; rintro e w2 ⟨rfl, hb2⟩; obtain ⟨hc2, hz2⟩ := bcell hb2; (have hs2 := hb2.size)))
        go_ret2
        exact ⟨by rw [hV.out, hE.out]; rfl, by first | exact (below_next (Below.refl _ _) hb1).trans (hb2.mono (by have := hs1; omega)) | exact below_next (Below.refl _ _) hb1⟩
      · go_enter Try.func25, Try.ntmps25
        go_wp2_with (first | (go_at_call 35; refine (smay _).mono ?_; rintro e w1 ⟨rfl, hb1⟩; obtain ⟨hc, hz⟩ := bcell hb1; (have hs1 := bsize hb1)) | (go_at_call 36; refine (sright _).mono ?_; rintro e w2 ⟨rfl, hb2⟩; obtain ⟨hc2, hz2⟩ := bcell hb2; (have hs2 := hb2.size)))
        go_ret2
        exact ⟨by rw [hV.out, hE.out]; rfl, by first | exact (below_next (Below.refl _ _) hb1).trans (hb2.mono (by have := hs1; omega)) | exact below_next (Below.refl _ _) hb1⟩
      · go_enter Try.func25, Try.ntmps25
        go_wp2_with (first | (go_at_call 35; refine (smay _).mono ?_; rintro e w1 ⟨rfl, hb1⟩; obtain ⟨hc, hz⟩ := bcell hb1; (have hs1 := bsize hb1)) | (go_at_call 36; refine (sright _).mono ?_; rintro e w2 ⟨rfl, hb2⟩; obtain ⟨hc2, hz2⟩ := bcell hb2; (have hs2 := hb2.size)))
        go_ret2
        exact ⟨by rw [hV.out, hE.out]; rfl, by first | exact (below_next (Below.refl _ _) hb1).trans (hb2.mono (by have := hs1; omega)) | exact below_next (Below.refl _ _) hb1⟩
end Go.Proofs.Ytbbegbaaefgikaa
