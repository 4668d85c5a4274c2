/- What arith.Step answers, for every input. -/
import Derived.Test.YtdnmbehkejjmmaaArith
namespace Go.Proofs.Ytdnmbehkejjmmaa
open Go.ChangeShapes Go.WideShapes Go.ChangeAt Go.RowKit

attribute [local go_sem] isSome_setCell
set_option maxHeartbeats 1000000 in
theorem step_pos (fc fp fz fs fo fd : Bool) (v n i : Int) (hi0 : 0 < i) (w : World) : Calls Try.prog 16 #[.agg #[.bool fc, .bool fp, .bool fz, .bool fs, .bool fo, .bool fd], .int .u32 v, .int .i64 n, .int .i64 i] w fun e w' =>
   e = .returned (.tuple #[.int .u32 (addV v 1 n false), .agg #[.bool fc, .bool (par (addV v 1 n false)), .bool (zer (addV v 1 n false)), .bool (hi (addV v 1 n false) n), .bool (addO v 1 n false), .bool fd]]) ∧ Below w.heap.size w w' := by
  go_enter Try.func16, Try.ntmps16
  go_wp2_with (first | (go_at_call 12; refine (sub_any _ _ _ _ _).mono ?_; rintro e w1 ⟨rfl, hb⟩; obtain ⟨hc, hf⟩ := bcell hb; have hz : w.heap.size + 1 < w1.heap.size := (by have := hb.size; simp at this; omega); have hy : w.heap.size < w1.heap.size := (by omega); have hy1 : w.heap.size < w1.heap.size + 1 := (by omega); have hy2 : w.heap.size + 1 < w1.heap.size + 1 := (by omega)) |
    (go_at_call 10; refine (add_any _ _ _ _ _).mono ?_; rintro e w2 ⟨rfl, hb2⟩; obtain ⟨hc2, hf2⟩ := bcell hb2; have hz2 : w1.heap.size < w2.heap.size := (by have := hb2.size; simp at this; omega); have q0 : (w2.cell? ⟨w1.heap.size, 0, none⟩).isSome = true := (by rw [hc2 _ _ (by simp)]; simp [go_sem]); have q1 : (w2.cell? ⟨w1.heap.size, 1, none⟩).isSome = true := (by rw [hc2 _ _ (by simp)]; simp [go_sem]); have q2 : (w2.cell? ⟨w1.heap.size, 2, none⟩).isSome = true := (by rw [hc2 _ _ (by simp)]; simp [go_sem]); have q3 : (w2.cell? ⟨w1.heap.size, 3, none⟩).isSome = true := (by rw [hc2 _ _ (by simp)]; simp [go_sem]); have q4 : (w2.cell? ⟨w1.heap.size, 4, none⟩).isSome = true := (by rw [hc2 _ _ (by simp)]; simp [go_sem]); have q5 : (w2.cell? ⟨w1.heap.size, 5, none⟩).isSome = true := (by rw [hc2 _ _ (by simp)]; simp [go_sem]); have hz3 : w.heap.size < w2.heap.size := (by omega); have hz4 : w.heap.size + 1 < w2.heap.size := (by omega)))
  go_region
  all_goals go_wp2
  go_region
  all_goals go_wp2
  all_goals
    have hB : Below w.heap.size w w1 := (((Below.refl _ _).alloc (Nat.le_refl _) _).alloc (by simp) _).trans (hb.mono (by simp; omega))
    have hB2 : Below w.heap.size w w2 := (hB.alloc (by omega) _).trans (hb2.mono (by simp; omega))
    refine bodyPost_ret (v := .tuple #[.int .u32 (addV v 1 n false), .agg #[.bool fc, .bool (par (addV v 1 n false)), .bool (zer (addV v 1 n false)), .bool (hi (addV v 1 n false) n), .bool (addO v 1 n false), .bool fd]]) (by simp [results, Try.results16, go_sem, hc, hz, hy2, hc2]) rfl ⟨rfl, ?_⟩
    repeat' (first | (with_reducible exact hB2) | (with_reducible refine Below.drew ?_) | (with_reducible refine Below.setCell ?_ ?_ _) | (simp <;> omega))

set_option maxHeartbeats 1000000 in
theorem step_neg (fc fp fz fs fo fd : Bool) (v n i : Int) (hi0 : i ≤ 0) (w : World) : Calls Try.prog 16 #[.agg #[.bool fc, .bool fp, .bool fz, .bool fs, .bool fo, .bool fd], .int .u32 v, .int .i64 n, .int .i64 i] w fun e w' =>
   e = .returned (.tuple #[.int .u32 (subV v 1 n false), .agg #[.bool fc, .bool (par (subV v 1 n false)), .bool (zer (subV v 1 n false)), .bool (hi (subV v 1 n false) n), .bool (subO v 1 n false), .bool fd]]) ∧ Below w.heap.size w w' := by
  go_enter Try.func16, Try.ntmps16
  go_wp2_with (go_at_call 12; refine (sub_any _ _ _ _ _).mono ?_; rintro e w1 ⟨rfl, hb⟩; obtain ⟨hc, hf⟩ := bcell hb; have hz : w.heap.size + 1 < w1.heap.size := (by have := hb.size; simp at this; omega); have hy : w.heap.size < w1.heap.size := (by omega); have hy1 : w.heap.size < w1.heap.size + 1 := (by omega); have hy2 : w.heap.size + 1 < w1.heap.size + 1 := (by omega))
  go_region
  all_goals go_wp2
  go_region
  all_goals go_wp2
  all_goals
    have hB : Below w.heap.size w w1 := (((Below.refl _ _).alloc (Nat.le_refl _) _).alloc (by simp) _).trans (hb.mono (by simp; omega))
    refine bodyPost_ret (v := .tuple #[.int .u32 (subV v 1 n false), .agg #[.bool fc, .bool (par (subV v 1 n false)), .bool (zer (subV v 1 n false)), .bool (hi (subV v 1 n false) n), .bool (subO v 1 n false), .bool fd]]) (by simp [results, Try.results16, go_sem, hc, hz]) rfl ⟨rfl, ?_⟩
    repeat' (first | (with_reducible exact hB) | (with_reducible refine Below.drew ?_) | (with_reducible refine Below.setCell ?_ ?_ _) | (with_reducible refine Below.alloc ?_ ?_ _) | (simp <;> omega))

theorem step_any (fc fp fz fs fo fd : Bool) (v n i : Int) (w : World) : Calls Try.prog 16 #[.agg #[.bool fc, .bool fp, .bool fz, .bool fs, .bool fo, .bool fd], .int .u32 v, .int .i64 n, .int .i64 i] w fun e w' =>
   e = .returned (.tuple #[.int .u32 (stepV v n i), .agg #[.bool fc, .bool (par (stepV v n i)), .bool (zer (stepV v n i)), .bool (hi (stepV v n i) n), .bool (stepO v n i), .bool fd]]) ∧ Below w.heap.size w w' := by
  unfold stepV stepO
  by_cases h : 0 < i
  · simp only [if_pos h]
    exact step_pos fc fp fz fs fo fd v n i h w
  · simp only [if_neg h]
    exact step_neg fc fp fz fs fo fd v n i (by omega) w
end Go.Proofs.Ytdnmbehkejjmmaa
