/- Two segments of the document's own: are they apart? -/
import Derived.Test.YtfnbnhgcjpfdhaaRef7
namespace Go.Proofs.Ytfnbnhgcjpfdhaa
open Go.ChangeShapes Go.WideShapes Go.ChangeAt Go.RowKit

set_option maxHeartbeats 1000000 in
theorem rapart_any (b z c y : Int) (r q x r' q' x' : Bool) (b0 : 0 ≤ b) (b1 : b < 4294967296) (z0 : 0 ≤ z) (z1 : z < 4294967296) (c0 : 0 ≤ c) (c1 : c < 4294967296) (y0 : 0 ≤ y) (y1 : y < 4294967296) (w : World) :
    Calls Try.prog 15 #[.agg #[.int .u32 b, .int .u32 z, .bool r, .bool q, .bool x], .agg #[.int .u32 c, .int .u32 y, .bool r', .bool q', .bool x']] w fun e w' => e = .returned (.bool (apB b z c y)) ∧ Below w.heap.size w w' := by
  cases h1 : segR b z
  · have hV := Lib.hid (show apB b z c y = false by unfold apB; rw [h1]; rfl)
    go_enter Try.func15, Try.ntmps15
    go_wp2_with (go_at_call 13; first | ((with_reducible refine (rsegright_any b z _ _ _ b0 b1 z0 z1 _).mono ?_); rintro e w1 ⟨rfl, hb1⟩; obtain ⟨hc1, hz1⟩ := bcell hb1; (have hs1 : w.heap.size + 1 < w1.heap.size := by have := hb1.size; simp at this; omega); (have hs0 : w.heap.size < w1.heap.size := by omega)) | ((with_reducible refine (rsegright_any c y _ _ _ c0 c1 y0 y1 _).mono ?_); rintro e w2 ⟨rfl, hb2⟩; obtain ⟨hc2, hz2⟩ := bcell hb2))
    go_ret
    exact ⟨by rw [hV.out]; rfl, by first | exact (below_last (below_last (Below.refl _ _) _) _).trans (hb1.mono (by simp; omega)) | exact ((below_last (below_last (Below.refl _ _) _) _).trans (hb1.mono (by simp; omega))).trans (hb2.mono (by have := hb1.size; simp at this; omega))⟩
  cases h2 : segR c y
  · have hV := Lib.hid (show apB b z c y = false by unfold apB; rw [h1, h2]; rfl)
    go_enter Try.func15, Try.ntmps15
    go_wp2_with (go_at_call 13; first | ((with_reducible refine (rsegright_any b z _ _ _ b0 b1 z0 z1 _).mono ?_); rintro e w1 ⟨rfl, hb1⟩; obtain ⟨hc1, hz1⟩ := bcell hb1; (have hs1 : w.heap.size + 1 < w1.heap.size := by have := hb1.size; simp at this; omega); (have hs0 : w.heap.size < w1.heap.size := by omega)) | ((with_reducible refine (rsegright_any c y _ _ _ c0 c1 y0 y1 _).mono ?_); rintro e w2 ⟨rfl, hb2⟩; obtain ⟨hc2, hz2⟩ := bcell hb2))
    go_ret
    exact ⟨by rw [hV.out]; rfl, by first | exact (below_last (below_last (Below.refl _ _) _) _).trans (hb1.mono (by simp; omega)) | exact ((below_last (below_last (Below.refl _ _) _) _).trans (hb1.mono (by simp; omega))).trans (hb2.mono (by have := hb1.size; simp at this; omega))⟩
  by_cases hz : z = 0
  · have hV := Lib.hid (show apB b z c y = true by unfold apB; rw [h1, h2, hz]; rfl)
    have hz' : (z == 0) = true := by rw [hz]; rfl
    clear hz
    go_enter Try.func15, Try.ntmps15
    go_wp2_with (go_at_call 13; first | ((with_reducible refine (rsegright_any b z _ _ _ b0 b1 z0 z1 _).mono ?_); rintro e w1 ⟨rfl, hb1⟩; obtain ⟨hc1, hz1⟩ := bcell hb1; (have hs1 : w.heap.size + 1 < w1.heap.size := by have := hb1.size; simp at this; omega); (have hs0 : w.heap.size < w1.heap.size := by omega)) | ((with_reducible refine (rsegright_any c y _ _ _ c0 c1 y0 y1 _).mono ?_); rintro e w2 ⟨rfl, hb2⟩; obtain ⟨hc2, hz2⟩ := bcell hb2))
    go_ret
    exact ⟨by rw [hV.out]; rfl, by first | exact (below_last (below_last (Below.refl _ _) _) _).trans (hb1.mono (by simp; omega)) | exact ((below_last (below_last (Below.refl _ _) _) _).trans (hb1.mono (by simp; omega))).trans (hb2.mono (by have := hb1.size; simp at this; omega))⟩
  have hz' : (z == 0) = false := by simpa using hz
  clear hz
  by_cases hy : y = 0
  · have hV := Lib.hid (show apB b z c y = true by unfold apB; rw [h1, h2, hz', hy]; rfl)
    have hy' : (y == 0) = true := by rw [hy]; rfl
    clear hy
    go_enter Try.func15, Try.ntmps15
    go_wp2_with (go_at_call 13; first | ((with_reducible refine (rsegright_any b z _ _ _ b0 b1 z0 z1 _).mono ?_); rintro e w1 ⟨rfl, hb1⟩; obtain ⟨hc1, hz1⟩ := bcell hb1; (have hs1 : w.heap.size + 1 < w1.heap.size := by have := hb1.size; simp at this; omega); (have hs0 : w.heap.size < w1.heap.size := by omega)) | ((with_reducible refine (rsegright_any c y _ _ _ c0 c1 y0 y1 _).mono ?_); rintro e w2 ⟨rfl, hb2⟩; obtain ⟨hc2, hz2⟩ := bcell hb2))
    go_ret
    exact ⟨by rw [hV.out]; rfl, by first | exact (below_last (below_last (Below.refl _ _) _) _).trans (hb1.mono (by simp; omega)) | exact ((below_last (below_last (Below.refl _ _) _) _).trans (hb1.mono (by simp; omega))).trans (hb2.mono (by have := hb1.size; simp at this; omega))⟩
  have hy' : (y == 0) = false := by simpa using hy
  clear hy
  rcases Int.lt_or_le c (b + z) with hl | hl
  · have hV := Lib.hid (show apB b z c y = (decide (b + z ≤ c) || decide (c + y ≤ b)) by unfold apB; rw [h1, h2, hz', hy']; simp)
    go_enter Try.func15, Try.ntmps15
    go_wp2_with (go_at_call 13; first | ((with_reducible refine (rsegright_any b z _ _ _ b0 b1 z0 z1 _).mono ?_); rintro e w1 ⟨rfl, hb1⟩; obtain ⟨hc1, hz1⟩ := bcell hb1; (have hs1 : w.heap.size + 1 < w1.heap.size := by have := hb1.size; simp at this; omega); (have hs0 : w.heap.size < w1.heap.size := by omega)) | ((with_reducible refine (rsegright_any c y _ _ _ c0 c1 y0 y1 _).mono ?_); rintro e w2 ⟨rfl, hb2⟩; obtain ⟨hc2, hz2⟩ := bcell hb2))
    go_ret
    exact ⟨by rw [hV.out]; rfl, by first | exact (below_last (below_last (Below.refl _ _) _) _).trans (hb1.mono (by simp; omega)) | exact ((below_last (below_last (Below.refl _ _) _) _).trans (hb1.mono (by simp; omega))).trans (hb2.mono (by have := hb1.size; simp at this; omega))⟩
  · have hV := Lib.hid (show apB b z c y = true by unfold apB; rw [h1, h2, hz', hy', decide_eq_true hl]; rfl)
    go_enter Try.func15, Try.ntmps15
    go_wp2_with (go_at_call 13; first | ((with_reducible refine (rsegright_any b z _ _ _ b0 b1 z0 z1 _).mono ?_); rintro e w1 ⟨rfl, hb1⟩; obtain ⟨hc1, hz1⟩ := bcell hb1; (have hs1 : w.heap.size + 1 < w1.heap.size := by have := hb1.size; simp at this; omega); (have hs0 : w.heap.size < w1.heap.size := by omega)) | ((with_reducible refine (rsegright_any c y _ _ _ c0 c1 y0 y1 _).mono ?_); rintro e w2 ⟨rfl, hb2⟩; obtain ⟨hc2, hz2⟩ := bcell hb2))
    go_ret
    exact ⟨by rw [hV.out]; rfl, by first | exact (below_last (below_last (Below.refl _ _) _) _).trans (hb1.mono (by simp; omega)) | exact ((below_last (below_last (Below.refl _ _) _) _).trans (hb1.mono (by simp; omega))).trans (hb2.mono (by have := hb1.size; simp at this; omega))⟩
end Go.Proofs.Ytfnbnhgcjpfdhaa
