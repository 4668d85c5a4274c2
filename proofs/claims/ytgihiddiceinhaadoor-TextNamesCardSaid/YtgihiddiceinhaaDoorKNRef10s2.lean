import Derived.Test.YtgihiddiceinhaaDoorKNE
namespace Go.Proofs.YtgihiddiceinhaaDoor
open Go.ChangeShapes Go.WideShapes Go.ChangeAt Go.RowKit
set_option maxRecDepth 100000
set_option maxHeartbeats 4000000
theorem second_242_16 (w : World) : Calls Tryd.prog 24 #[.int .u8 242, .int .u8 16] w fun e w' => e = .returned (secL (secondF 242 16)) ∧ Below w.heap.size w w' := by
  go_enter Tryd.func24, Tryd.ntmps24
  go_wp2
  go_region
  all_goals
    go_wp2
    go_returns
    refine ⟨by rfl, ?_⟩
    repeat (first | exact Below.refl _ _ | (with_reducible refine Below.drew ?_) | (with_reducible refine below_last ?_ _))
theorem second_242_17 (w : World) : Calls Tryd.prog 24 #[.int .u8 242, .int .u8 17] w fun e w' => e = .returned (secL (secondF 242 17)) ∧ Below w.heap.size w w' := by
  go_enter Tryd.func24, Tryd.ntmps24
  go_wp2
  go_region
  all_goals
    go_wp2
    go_returns
    refine ⟨by rfl, ?_⟩
    repeat (first | exact Below.refl _ _ | (with_reducible refine Below.drew ?_) | (with_reducible refine below_last ?_ _))
theorem second_242_42 (w : World) : Calls Tryd.prog 24 #[.int .u8 242, .int .u8 42] w fun e w' => e = .returned (secL (secondF 242 42)) ∧ Below w.heap.size w w' := by
  go_enter Tryd.func24, Tryd.ntmps24
  go_wp2
  go_region
  all_goals
    go_wp2
    go_returns
    refine ⟨by rfl, ?_⟩
    repeat (first | exact Below.refl _ _ | (with_reducible refine Below.drew ?_) | (with_reducible refine below_last ?_ _))
theorem second_242_44 (w : World) : Calls Tryd.prog 24 #[.int .u8 242, .int .u8 44] w fun e w' => e = .returned (secL (secondF 242 44)) ∧ Below w.heap.size w w' := by
  go_enter Tryd.func24, Tryd.ntmps24
  go_wp2
  go_region
  all_goals
    go_wp2
    go_returns
    refine ⟨by rfl, ?_⟩
    repeat (first | exact Below.refl _ _ | (with_reducible refine Below.drew ?_) | (with_reducible refine below_last ?_ _))
set_option maxRecDepth 512
theorem s2_maps (w : World) : (Instr.mapUpdate 75 (.map (some (w.heap.size + 1 + 1))) (.int .u8 81) (.int .i64 58)).run Tryd.prog (((w.alloc (.cells #[.int .i64 0, .int .i64 0, .int .i64 0, .string ⟨#[]⟩, .int .i64 0] 43)).alloc (.cells #[.int .i64 0, .int .i64 0, .int .i64 8, .string ⟨#[]⟩, .int .i64 0] 43)).alloc (.map #[] 0)) = .ok () (((w.alloc (.cells #[.int .i64 0, .int .i64 0, .int .i64 0, .string ⟨#[]⟩, .int .i64 0] 43)).alloc (.cells #[.int .i64 0, .int .i64 0, .int .i64 8, .string ⟨#[]⟩, .int .i64 0] 43)).alloc (.map #[{ key := .int .u8 81, val := .int .i64 58, born := 0 }] 1)) ∧
    (Instr.mapUpdate 75 (.map (some (w.heap.size + 1 + 1))) (.int .u8 88) (.int .i64 52)).run Tryd.prog (((w.alloc (.cells #[.int .i64 0, .int .i64 0, .int .i64 0, .string ⟨#[]⟩, .int .i64 0] 43)).alloc (.cells #[.int .i64 0, .int .i64 0, .int .i64 8, .string ⟨#[]⟩, .int .i64 0] 43)).alloc (.map #[{ key := .int .u8 81, val := .int .i64 58, born := 0 }] 1)) = .ok () (((w.alloc (.cells #[.int .i64 0, .int .i64 0, .int .i64 0, .string ⟨#[]⟩, .int .i64 0] 43)).alloc (.cells #[.int .i64 0, .int .i64 0, .int .i64 8, .string ⟨#[]⟩, .int .i64 0] 43)).alloc (.map #[{ key := .int .u8 81, val := .int .i64 58, born := 0 }, { key := .int .u8 88, val := .int .i64 52, born := 1 }] 2)) ∧
    (Instr.mapUpdate 75 (.map (some (w.heap.size + 1 + 1))) (.int .u8 89) (.int .i64 53)).run Tryd.prog (((w.alloc (.cells #[.int .i64 0, .int .i64 0, .int .i64 0, .string ⟨#[]⟩, .int .i64 0] 43)).alloc (.cells #[.int .i64 0, .int .i64 0, .int .i64 8, .string ⟨#[]⟩, .int .i64 0] 43)).alloc (.map #[{ key := .int .u8 81, val := .int .i64 58, born := 0 }, { key := .int .u8 88, val := .int .i64 52, born := 1 }] 2)) = .ok () (((w.alloc (.cells #[.int .i64 0, .int .i64 0, .int .i64 0, .string ⟨#[]⟩, .int .i64 0] 43)).alloc (.cells #[.int .i64 0, .int .i64 0, .int .i64 8, .string ⟨#[]⟩, .int .i64 0] 43)).alloc (.map #[{ key := .int .u8 81, val := .int .i64 58, born := 0 }, { key := .int .u8 88, val := .int .i64 52, born := 1 }, { key := .int .u8 89, val := .int .i64 53, born := 2 }] 3)) ∧
    (Instr.mapUpdate 75 (.map (some (w.heap.size + 1 + 1))) (.int .u8 92) (.int .i64 54)).run Tryd.prog (((w.alloc (.cells #[.int .i64 0, .int .i64 0, .int .i64 0, .string ⟨#[]⟩, .int .i64 0] 43)).alloc (.cells #[.int .i64 0, .int .i64 0, .int .i64 8, .string ⟨#[]⟩, .int .i64 0] 43)).alloc (.map #[{ key := .int .u8 81, val := .int .i64 58, born := 0 }, { key := .int .u8 88, val := .int .i64 52, born := 1 }, { key := .int .u8 89, val := .int .i64 53, born := 2 }] 3)) = .ok () (((w.alloc (.cells #[.int .i64 0, .int .i64 0, .int .i64 0, .string ⟨#[]⟩, .int .i64 0] 43)).alloc (.cells #[.int .i64 0, .int .i64 0, .int .i64 8, .string ⟨#[]⟩, .int .i64 0] 43)).alloc (.map #[{ key := .int .u8 81, val := .int .i64 58, born := 0 }, { key := .int .u8 88, val := .int .i64 52, born := 1 }, { key := .int .u8 89, val := .int .i64 53, born := 2 }, { key := .int .u8 92, val := .int .i64 54, born := 3 }] 4)) ∧
    (Instr.mapUpdate 75 (.map (some (w.heap.size + 1 + 1))) (.int .u8 93) (.int .i64 55)).run Tryd.prog (((w.alloc (.cells #[.int .i64 0, .int .i64 0, .int .i64 0, .string ⟨#[]⟩, .int .i64 0] 43)).alloc (.cells #[.int .i64 0, .int .i64 0, .int .i64 8, .string ⟨#[]⟩, .int .i64 0] 43)).alloc (.map #[{ key := .int .u8 81, val := .int .i64 58, born := 0 }, { key := .int .u8 88, val := .int .i64 52, born := 1 }, { key := .int .u8 89, val := .int .i64 53, born := 2 }, { key := .int .u8 92, val := .int .i64 54, born := 3 }] 4)) = .ok () (((w.alloc (.cells #[.int .i64 0, .int .i64 0, .int .i64 0, .string ⟨#[]⟩, .int .i64 0] 43)).alloc (.cells #[.int .i64 0, .int .i64 0, .int .i64 8, .string ⟨#[]⟩, .int .i64 0] 43)).alloc (.map #[{ key := .int .u8 81, val := .int .i64 58, born := 0 }, { key := .int .u8 88, val := .int .i64 52, born := 1 }, { key := .int .u8 89, val := .int .i64 53, born := 2 }, { key := .int .u8 92, val := .int .i64 54, born := 3 }, { key := .int .u8 93, val := .int .i64 55, born := 4 }] 5)) ∧
    (Instr.mapUpdate 75 (.map (some (w.heap.size + 1 + 1))) (.int .u8 94) (.int .i64 56)).run Tryd.prog (((w.alloc (.cells #[.int .i64 0, .int .i64 0, .int .i64 0, .string ⟨#[]⟩, .int .i64 0] 43)).alloc (.cells #[.int .i64 0, .int .i64 0, .int .i64 8, .string ⟨#[]⟩, .int .i64 0] 43)).alloc (.map #[{ key := .int .u8 81, val := .int .i64 58, born := 0 }, { key := .int .u8 88, val := .int .i64 52, born := 1 }, { key := .int .u8 89, val := .int .i64 53, born := 2 }, { key := .int .u8 92, val := .int .i64 54, born := 3 }, { key := .int .u8 93, val := .int .i64 55, born := 4 }] 5)) = .ok () (((w.alloc (.cells #[.int .i64 0, .int .i64 0, .int .i64 0, .string ⟨#[]⟩, .int .i64 0] 43)).alloc (.cells #[.int .i64 0, .int .i64 0, .int .i64 8, .string ⟨#[]⟩, .int .i64 0] 43)).alloc (.map #[{ key := .int .u8 81, val := .int .i64 58, born := 0 }, { key := .int .u8 88, val := .int .i64 52, born := 1 }, { key := .int .u8 89, val := .int .i64 53, born := 2 }, { key := .int .u8 92, val := .int .i64 54, born := 3 }, { key := .int .u8 93, val := .int .i64 55, born := 4 }, { key := .int .u8 94, val := .int .i64 56, born := 5 }] 6)) ∧
    (Instr.mapUpdate 75 (.map (some (w.heap.size + 1 + 1))) (.int .u8 95) (.int .i64 57)).run Tryd.prog (((w.alloc (.cells #[.int .i64 0, .int .i64 0, .int .i64 0, .string ⟨#[]⟩, .int .i64 0] 43)).alloc (.cells #[.int .i64 0, .int .i64 0, .int .i64 8, .string ⟨#[]⟩, .int .i64 0] 43)).alloc (.map #[{ key := .int .u8 81, val := .int .i64 58, born := 0 }, { key := .int .u8 88, val := .int .i64 52, born := 1 }, { key := .int .u8 89, val := .int .i64 53, born := 2 }, { key := .int .u8 92, val := .int .i64 54, born := 3 }, { key := .int .u8 93, val := .int .i64 55, born := 4 }, { key := .int .u8 94, val := .int .i64 56, born := 5 }] 6)) = .ok () (((w.alloc (.cells #[.int .i64 0, .int .i64 0, .int .i64 0, .string ⟨#[]⟩, .int .i64 0] 43)).alloc (.cells #[.int .i64 0, .int .i64 0, .int .i64 8, .string ⟨#[]⟩, .int .i64 0] 43)).alloc (.map #[{ key := .int .u8 81, val := .int .i64 58, born := 0 }, { key := .int .u8 88, val := .int .i64 52, born := 1 }, { key := .int .u8 89, val := .int .i64 53, born := 2 }, { key := .int .u8 92, val := .int .i64 54, born := 3 }, { key := .int .u8 93, val := .int .i64 55, born := 4 }, { key := .int .u8 94, val := .int .i64 56, born := 5 }, { key := .int .u8 95, val := .int .i64 57, born := 6 }] 7)) ∧
    ∀ c v i, Instr.findNow (.int .u8) (.int .u8 c) (#[{ key := .int .u8 81, val := .int .i64 58, born := 0 }, { key := .int .u8 88, val := .int .i64 52, born := 1 }, { key := .int .u8 89, val := .int .i64 53, born := 2 }, { key := .int .u8 92, val := .int .i64 54, born := 3 }, { key := .int .u8 93, val := .int .i64 55, born := 4 }, { key := .int .u8 94, val := .int .i64 56, born := 5 }, { key := .int .u8 95, val := .int .i64 57, born := 6 }] : Array MapEntry).toList 0 = some (some (i, v)) → (Instr.lookup 75 (.map (some (w.heap.size + 1 + 1))) (.int .u8 c) false).run Tryd.prog (((w.alloc (.cells #[.int .i64 0, .int .i64 0, .int .i64 0, .string ⟨#[]⟩, .int .i64 0] 43)).alloc (.cells #[.int .i64 0, .int .i64 0, .int .i64 8, .string ⟨#[]⟩, .int .i64 0] 43)).alloc (.map #[{ key := .int .u8 81, val := .int .i64 58, born := 0 }, { key := .int .u8 88, val := .int .i64 52, born := 1 }, { key := .int .u8 89, val := .int .i64 53, born := 2 }, { key := .int .u8 92, val := .int .i64 54, born := 3 }, { key := .int .u8 93, val := .int .i64 55, born := 4 }, { key := .int .u8 94, val := .int .i64 56, born := 5 }, { key := .int .u8 95, val := .int .i64 57, born := 6 }] 7)) = .ok v (((w.alloc (.cells #[.int .i64 0, .int .i64 0, .int .i64 0, .string ⟨#[]⟩, .int .i64 0] 43)).alloc (.cells #[.int .i64 0, .int .i64 0, .int .i64 8, .string ⟨#[]⟩, .int .i64 0] 43)).alloc (.map #[{ key := .int .u8 81, val := .int .i64 58, born := 0 }, { key := .int .u8 88, val := .int .i64 52, born := 1 }, { key := .int .u8 89, val := .int .i64 53, born := 2 }, { key := .int .u8 92, val := .int .i64 54, born := 3 }, { key := .int .u8 93, val := .int .i64 55, born := 4 }, { key := .int .u8 94, val := .int .i64 56, born := 5 }, { key := .int .u8 95, val := .int .i64 57, born := 6 }] 7)) :=
  ⟨litmap_put _ _ (by simp) _ 5 3 .u8 _ 0 81 _ Tryd.underlying75 Tryd.underlying5 rfl,
   litmap_put _ _ (by simp) _ 5 3 .u8 _ 1 88 _ Tryd.underlying75 Tryd.underlying5 rfl,
   litmap_put _ _ (by simp) _ 5 3 .u8 _ 2 89 _ Tryd.underlying75 Tryd.underlying5 rfl,
   litmap_put _ _ (by simp) _ 5 3 .u8 _ 3 92 _ Tryd.underlying75 Tryd.underlying5 rfl,
   litmap_put _ _ (by simp) _ 5 3 .u8 _ 4 93 _ Tryd.underlying75 Tryd.underlying5 rfl,
   litmap_put _ _ (by simp) _ 5 3 .u8 _ 5 94 _ Tryd.underlying75 Tryd.underlying5 rfl,
   litmap_put _ _ (by simp) _ 5 3 .u8 _ 6 95 _ Tryd.underlying75 Tryd.underlying5 rfl,
   fun c v i h => litmap_get _ _ (by simp) _ 5 3 .u8 _ 7 c v i Tryd.underlying75 Tryd.underlying5 h⟩
set_option maxRecDepth 100000
set_option maxHeartbeats 8000000
theorem second_242_m (c : Int) (h : c = 81 ∨ c = 88 ∨ c = 89 ∨ c = 92 ∨ c = 93 ∨ c = 94 ∨ c = 95) (w : World) : Calls Tryd.prog 24 #[.int .u8 242, .int .u8 c] w fun e w' => e = .returned (secL (secondF 242 c)) ∧ Below w.heap.size w w' := by
  obtain ⟨hm0, hm1, hm2, hm3, hm4, hm5, hm6, hG⟩ := s2_maps w
  have hmm := @run_makeMap Tryd.prog
  have hg0 := hG 81 (.int .i64 58) 0 rfl
  have hg1 := hG 88 (.int .i64 52) 1 rfl
  have hg2 := hG 89 (.int .i64 53) 2 rfl
  have hg3 := hG 92 (.int .i64 54) 3 rfl
  have hg4 := hG 93 (.int .i64 55) 4 rfl
  have hg5 := hG 94 (.int .i64 56) 5 rfl
  have hg6 := hG 95 (.int .i64 57) 6 rfl
  clear hG
  rcases h with rfl | rfl | rfl | rfl | rfl | rfl | rfl
  all_goals
    go_enter Tryd.func24, Tryd.ntmps24
    go_wp2
    go_region
    all_goals
      go_wp2
      go_returns
      refine ⟨by rfl, ?_⟩
      repeat (first | exact Below.refl _ _ | (with_reducible refine Below.drew ?_) | (with_reducible refine below_last ?_ _))
set_option maxRecDepth 512
theorem second_242_81 (w : World) : Calls Tryd.prog 24 #[.int .u8 242, .int .u8 81] w fun e w' => e = .returned (secL (secondF 242 81)) ∧ Below w.heap.size w w' := second_242_m 81 (by decide) w
theorem second_242_88 (w : World) : Calls Tryd.prog 24 #[.int .u8 242, .int .u8 88] w fun e w' => e = .returned (secL (secondF 242 88)) ∧ Below w.heap.size w w' := second_242_m 88 (by decide) w
theorem second_242_89 (w : World) : Calls Tryd.prog 24 #[.int .u8 242, .int .u8 89] w fun e w' => e = .returned (secL (secondF 242 89)) ∧ Below w.heap.size w w' := second_242_m 89 (by decide) w
theorem second_242_92 (w : World) : Calls Tryd.prog 24 #[.int .u8 242, .int .u8 92] w fun e w' => e = .returned (secL (secondF 242 92)) ∧ Below w.heap.size w w' := second_242_m 92 (by decide) w
theorem second_242_93 (w : World) : Calls Tryd.prog 24 #[.int .u8 242, .int .u8 93] w fun e w' => e = .returned (secL (secondF 242 93)) ∧ Below w.heap.size w w' := second_242_m 93 (by decide) w
theorem second_242_94 (w : World) : Calls Tryd.prog 24 #[.int .u8 242, .int .u8 94] w fun e w' => e = .returned (secL (secondF 242 94)) ∧ Below w.heap.size w w' := second_242_m 94 (by decide) w
theorem second_242_95 (w : World) : Calls Tryd.prog 24 #[.int .u8 242, .int .u8 95] w fun e w' => e = .returned (secL (secondF 242 95)) ∧ Below w.heap.size w w' := second_242_m 95 (by decide) w
end Go.Proofs.YtgihiddiceinhaaDoor
