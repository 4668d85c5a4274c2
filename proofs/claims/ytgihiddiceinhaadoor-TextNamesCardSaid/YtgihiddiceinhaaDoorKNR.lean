import Derived.Deep.DeepCutAuto
import Derived.Test.YtgihiddiceinhaaDoorKND
namespace Go.Proofs.YtgihiddiceinhaaDoor
open Go.ChangeShapes Go.WideShapes Go.ChangeAt Go.RowKit
section
attribute [local go_sem] isSome_setCell
set_option maxRecDepth 100000
set_option maxHeartbeats 16000000
theorem first_h1 (c : Int) (h : c = 104 ∨ c = 106 ∨ c = 132 ∨ c = 133 ∨ c = 134 ∨ c = 135 ∨ c = 136 ∨ c = 137 ∨ c = 138 ∨ c = 139) (reg : Int) (m3 : Bool) (w : World) : Calls Tryd.prog 23 #[.int .u8 c, .int .i64 reg, .bool m3] w fun e w' => e = .returned (fstL (firstF c reg m3)) ∧ Below w.heap.size w w' := by
  rcases h with rfl | rfl | rfl | rfl | rfl | rfl | rfl | rfl | rfl | rfl
  all_goals
    go_enter Tryd.func23, Tryd.ntmps23
    go_wp2_with (first | (go_at_call 42; refine (size4_any _ (by first | decide | omega) (by first | decide | omega) _).mono ?_; rintro e w' ⟨rfl, rfl⟩) | (go_at_call 43; refine (is_any _ _ _ _ (by first | decide | omega) (by first | decide | omega) _).mono ?_; rintro e w1 ⟨rfl, B1⟩; have HB := Lib.hid (below_step (below_last (Below.refl _ _) _) B1); obtain ⟨q1, hz⟩ := bcell B1; clear B1))
    refine bodyPost_ret (v := fstL (firstF _ reg m3)) (by simp [results, Tryd.results23, go_sem, q1, fstL, firstF, isF]) rfl ⟨rfl, ?_⟩
    exact below5 HB.out _ (Nat.le_refl _)
end
section
attribute [local go_sem] isSome_setCell
set_option maxRecDepth 100000
set_option maxHeartbeats 16000000
theorem first_h2 (c : Int) (h : c = 144 ∨ c = 152 ∨ c = 153 ∨ c = 160 ∨ c = 161 ∨ c = 162 ∨ c = 163 ∨ c = 164 ∨ c = 165 ∨ c = 168) (reg : Int) (m3 : Bool) (w : World) : Calls Tryd.prog 23 #[.int .u8 c, .int .i64 reg, .bool m3] w fun e w' => e = .returned (fstL (firstF c reg m3)) ∧ Below w.heap.size w w' := by
  rcases h with rfl | rfl | rfl | rfl | rfl | rfl | rfl | rfl | rfl | rfl
  all_goals
    go_enter Tryd.func23, Tryd.ntmps23
    go_wp2_with (first | (go_at_call 42; refine (size4_any _ (by first | decide | omega) (by first | decide | omega) _).mono ?_; rintro e w' ⟨rfl, rfl⟩) | (go_at_call 43; refine (is_any _ _ _ _ (by first | decide | omega) (by first | decide | omega) _).mono ?_; rintro e w1 ⟨rfl, B1⟩; have HB := Lib.hid (below_step (below_last (Below.refl _ _) _) B1); obtain ⟨q1, hz⟩ := bcell B1; clear B1))
    refine bodyPost_ret (v := fstL (firstF _ reg m3)) (by simp [results, Tryd.results23, go_sem, q1, fstL, firstF, isF]) rfl ⟨rfl, ?_⟩
    exact below5 HB.out _ (Nat.le_refl _)
end
end Go.Proofs.YtgihiddiceinhaaDoor
