/- What package cond answers, for every input: whether a condition holds, and its name. -/
import Derived.Test.YtknpcohllghopaaRef5
namespace Go.Proofs.Ytknpcohllghopaa
open Go.ChangeShapes Go.WideShapes Go.ChangeAt Go.RowKit

set_option maxRecDepth 100000 in
theorem pair_0 (fc fp fz fs fo fd : Bool) (w : World) : Calls Try.prog 11 #[.int .i64 0, .agg #[.bool fc, .bool fp, .bool fz, .bool fs, .bool fo, .bool fd]] w fun e w' => e = .returned (.tuple #[.bool fo, .bool true]) ∧ Below w.heap.size w w' := by
  go_enter Try.func11, Try.ntmps11
  go_wp2
  go_ret2
  exact ⟨rfl, below_last (Below.refl _ _) _⟩

set_option maxRecDepth 100000 in
theorem pair_1 (fc fp fz fs fo fd : Bool) (w : World) : Calls Try.prog 11 #[.int .i64 1, .agg #[.bool fc, .bool fp, .bool fz, .bool fs, .bool fo, .bool fd]] w fun e w' => e = .returned (.tuple #[.bool fc, .bool true]) ∧ Below w.heap.size w w' := by
  go_enter Try.func11, Try.ntmps11
  go_wp2
  go_ret2
  exact ⟨rfl, below_last (Below.refl _ _) _⟩

set_option maxRecDepth 100000 in
theorem pair_2 (fc fp fz fs fo fd : Bool) (w : World) : Calls Try.prog 11 #[.int .i64 2, .agg #[.bool fc, .bool fp, .bool fz, .bool fs, .bool fo, .bool fd]] w fun e w' => e = .returned (.tuple #[.bool fz, .bool true]) ∧ Below w.heap.size w w' := by
  go_enter Try.func11, Try.ntmps11
  go_wp2
  go_ret2
  exact ⟨rfl, below_last (Below.refl _ _) _⟩

set_option maxRecDepth 100000 in
theorem pair_3 (fc fp fz fs fo fd : Bool) (w : World) : Calls Try.prog 11 #[.int .i64 3, .agg #[.bool fc, .bool fp, .bool fz, .bool fs, .bool fo, .bool fd]] w fun e w' => e = .returned (.tuple #[.bool (fc || fz), .bool true]) ∧ Below w.heap.size w w' := by
  cases fc
  all_goals
    go_enter Try.func11, Try.ntmps11
    go_wp2
    go_ret2
    exact ⟨rfl, below_last (Below.refl _ _) _⟩

set_option maxRecDepth 100000 in
theorem pair_4 (fc fp fz fs fo fd : Bool) (w : World) : Calls Try.prog 11 #[.int .i64 4, .agg #[.bool fc, .bool fp, .bool fz, .bool fs, .bool fo, .bool fd]] w fun e w' => e = .returned (.tuple #[.bool fs, .bool true]) ∧ Below w.heap.size w w' := by
  go_enter Try.func11, Try.ntmps11
  go_wp2
  go_ret2
  exact ⟨rfl, below_last (Below.refl _ _) _⟩

set_option maxRecDepth 100000 in
theorem pair_5 (fc fp fz fs fo fd : Bool) (w : World) : Calls Try.prog 11 #[.int .i64 5, .agg #[.bool fc, .bool fp, .bool fz, .bool fs, .bool fo, .bool fd]] w fun e w' => e = .returned (.tuple #[.bool fp, .bool true]) ∧ Below w.heap.size w w' := by
  go_enter Try.func11, Try.ntmps11
  go_wp2
  go_ret2
  exact ⟨rfl, below_last (Below.refl _ _) _⟩

set_option maxRecDepth 100000 in
theorem pair_6 (fc fp fz fs fo fd : Bool) (w : World) : Calls Try.prog 11 #[.int .i64 6, .agg #[.bool fc, .bool fp, .bool fz, .bool fs, .bool fo, .bool fd]] w fun e w' => e = .returned (.tuple #[.bool (!(fs == fo)), .bool true]) ∧ Below w.heap.size w w' := by
  go_enter Try.func11, Try.ntmps11
  go_wp2
  go_ret2
  exact ⟨rfl, below_last (Below.refl _ _) _⟩

set_option maxRecDepth 100000 in
theorem pair_7 (fc fp fz fs fo fd : Bool) (w : World) : Calls Try.prog 11 #[.int .i64 7, .agg #[.bool fc, .bool fp, .bool fz, .bool fs, .bool fo, .bool fd]] w fun e w' => e = .returned (.tuple #[.bool (fz || !(fs == fo)), .bool true]) ∧ Below w.heap.size w w' := by
  cases fz
  all_goals
    go_enter Try.func11, Try.ntmps11
    go_wp2
    go_ret2
    exact ⟨rfl, below_last (Below.refl _ _) _⟩

set_option maxRecDepth 100000 in
theorem pair_out (p : Int) (fc fp fz fs fo fd : Bool) (w : World) (h0 : (p == 0) = false) (h1 : (p == 1) = false) (h2 : (p == 2) = false) (h3 : (p == 3) = false) (h4 : (p == 4) = false) (h5 : (p == 5) = false) (h6 : (p == 6) = false) (h7 : (p == 7) = false) : Calls Try.prog 11 #[.int .i64 p, .agg #[.bool fc, .bool fp, .bool fz, .bool fs, .bool fo, .bool fd]] w fun e w' => e = .returned (.tuple #[.bool false, .bool false]) ∧ Below w.heap.size w w' := by
  go_enter Try.func11, Try.ntmps11
  go_wp2
  go_ret2
  exact ⟨rfl, below_last (Below.refl _ _) _⟩

theorem pair_any (p : Int) (h0 : 0 ≤ p) (h1 : p ≤ 7) (fc fp fz fs fo fd : Bool) (w : World) : Calls Try.prog 11 #[.int .i64 p, .agg #[.bool fc, .bool fp, .bool fz, .bool fs, .bool fo, .bool fd]] w fun e w' => e = .returned (.tuple #[.bool (condP p.toNat fc fp fz fs fo), .bool true]) ∧ Below w.heap.size w w' := by
  obtain rfl | rfl | rfl | rfl | rfl | rfl | rfl | rfl : p = 0 ∨ p = 1 ∨ p = 2 ∨ p = 3 ∨ p = 4 ∨ p = 5 ∨ p = 6 ∨ p = 7 := by omega
  all_goals first | exact pair_0 fc fp fz fs fo fd w | exact pair_1 fc fp fz fs fo fd w | exact pair_2 fc fp fz fs fo fd w | exact pair_3 fc fp fz fs fo fd w | exact pair_4 fc fp fz fs fo fd w | exact pair_5 fc fp fz fs fo fd w | exact pair_6 fc fp fz fs fo fd w | exact pair_7 fc fp fz fs fo fd w
set_option maxRecDepth 100000 in
theorem cholds_in (c : Int) (fc fp fz fs fo fd : Bool) (w : World) (c0 : 0 ≤ c) (c1 : c ≤ 15) : Calls Try.prog 7 #[.int .i64 c, .agg #[.bool fc, .bool fp, .bool fz, .bool fs, .bool fo, .bool fd]] w fun e w' => e = .returned (.bool (condP (c / 2).toNat fc fp fz fs fo != (c % 2 == 1))) ∧ Below w.heap.size w w' := by
  have p0 : 0 ≤ c / 2 := by omega
  have p1 : c / 2 ≤ 7 := by omega
  have hP := pair_any (c / 2) p0 p1 fc fp fz fs fo fd
  generalize condP (c / 2).toNat fc fp fz fs fo = B at *
  go_enter Try.func7, Try.ntmps7
  go_wp2_with fail
  refine (hP _).mono ?_
  rintro e w1 ⟨rfl, hb1⟩
  go_wp2_with fail
  go_ret
  have hB : (bits .and .i64 c 1 != 0) = (c % 2 == 1) := by
    rcases sixteen c with h | h | rfl | rfl | rfl | rfl | rfl | rfl | rfl | rfl | rfl | rfl | rfl | rfl | rfl | rfl | rfl | rfl
    · omega
    · omega
    all_goals rfl
  refine ⟨?_, ((Below.refl _ _).alloc (Nat.le_refl _) _).trans (hb1.mono (by simp))⟩
  show Ending.returned (Value.bool (!(B == (bits .and .i64 c 1 != 0)))) = _
  rw [hB]; rfl
theorem pairs_out (p : Int) (h : p < 0 ∨ 7 < p) (fc fp fz fs fo fd : Bool) (w : World) : Calls Try.prog 11 #[.int .i64 p, .agg #[.bool fc, .bool fp, .bool fz, .bool fs, .bool fo, .bool fd]] w fun e w' => e = .returned (.tuple #[.bool false, .bool false]) ∧ Below w.heap.size w w' :=
  pair_out p fc fp fz fs fo fd w (by simp; omega) (by simp; omega) (by simp; omega) (by simp; omega) (by simp; omega) (by simp; omega) (by simp; omega) (by simp; omega)
set_option maxRecDepth 100000 in
theorem cholds_out (c : Int) (fc fp fz fs fo fd : Bool) (w : World) (h : c < 0 ∨ 15 < c) (c0 : -9223372036854775808 ≤ c) (c1 : c ≤ 9223372036854775807) : Calls Try.prog 7 #[.int .i64 c, .agg #[.bool fc, .bool fp, .bool fz, .bool fs, .bool fo, .bool fd]] w fun e w' => e = .returned (.bool false) ∧ Below w.heap.size w w' := by
  have hP := pairs_out (c / 2) (by omega) fc fp fz fs fo fd
  clear h
  go_enter Try.func7, Try.ntmps7
  go_wp2_with fail
  refine (hP _).mono ?_
  rintro e w1 ⟨rfl, hb1⟩
  go_wp2_with fail
  go_ret
  exact ⟨rfl, ((Below.refl _ _).alloc (Nat.le_refl _) _).trans (hb1.mono (by simp))⟩
theorem cholds_any (c : Int) (fc fp fz fs fo fd : Bool) (c0 : -9223372036854775808 ≤ c) (c1 : c ≤ 9223372036854775807) (w : World) : Calls Try.prog 7 #[.int .i64 c, .agg #[.bool fc, .bool fp, .bool fz, .bool fs, .bool fo, .bool fd]] w fun e w' => e = .returned (.bool (condH c fc fp fz fs fo)) ∧ Below w.heap.size w w' := by
  by_cases h : 0 ≤ c ∧ c ≤ 15
  · rw [condH_in c fc fp fz fs fo h.1 h.2]; exact cholds_in c fc fp fz fs fo fd w h.1 h.2
  · rw [condH_out c fc fp fz fs fo (by omega)]; exact cholds_out c fc fp fz fs fo fd w (by omega) c0 c1

set_option maxRecDepth 100000 in
set_option maxHeartbeats 2000000 in
theorem cname_any (c : Int) (w : World) : Calls Try.prog 9 #[.int .i64 c] w fun e w' => e = .returned (.string (condN c)) ∧ Below w.heap.size w w' := by
  rcases sixteen c with h | h | rfl | rfl | rfl | rfl | rfl | rfl | rfl | rfl | rfl | rfl | rfl | rfl | rfl | rfl | rfl | rfl
  rotate_left 2
  · go_enter Try.func9, Try.ntmps9
    go_wp2
    go_ret
    exact ⟨rfl, Below.refl _ _⟩
  · go_enter Try.func9, Try.ntmps9
    go_wp2
    go_ret
    exact ⟨rfl, Below.refl _ _⟩
  · go_enter Try.func9, Try.ntmps9
    go_wp2
    go_ret
    exact ⟨rfl, Below.refl _ _⟩
  · go_enter Try.func9, Try.ntmps9
    go_wp2
    go_ret
    exact ⟨rfl, Below.refl _ _⟩
  · go_enter Try.func9, Try.ntmps9
    go_wp2
    go_ret
    exact ⟨rfl, Below.refl _ _⟩
  · go_enter Try.func9, Try.ntmps9
    go_wp2
    go_ret
    exact ⟨rfl, Below.refl _ _⟩
  · go_enter Try.func9, Try.ntmps9
    go_wp2
    go_ret
    exact ⟨rfl, Below.refl _ _⟩
  · go_enter Try.func9, Try.ntmps9
    go_wp2
    go_ret
    exact ⟨rfl, Below.refl _ _⟩
  · go_enter Try.func9, Try.ntmps9
    go_wp2
    go_ret
    exact ⟨rfl, Below.refl _ _⟩
  · go_enter Try.func9, Try.ntmps9
    go_wp2
    go_ret
    exact ⟨rfl, Below.refl _ _⟩
  · go_enter Try.func9, Try.ntmps9
    go_wp2
    go_ret
    exact ⟨rfl, Below.refl _ _⟩
  · go_enter Try.func9, Try.ntmps9
    go_wp2
    go_ret
    exact ⟨rfl, Below.refl _ _⟩
  · go_enter Try.func9, Try.ntmps9
    go_wp2
    go_ret
    exact ⟨rfl, Below.refl _ _⟩
  · go_enter Try.func9, Try.ntmps9
    go_wp2
    go_ret
    exact ⟨rfl, Below.refl _ _⟩
  · go_enter Try.func9, Try.ntmps9
    go_wp2
    go_ret
    exact ⟨rfl, Below.refl _ _⟩
  · go_enter Try.func9, Try.ntmps9
    go_wp2
    go_ret
    exact ⟨rfl, Below.refl _ _⟩
  all_goals
    have hN := Lib.hid (show condN c = ⟨#[]⟩ by unfold condN; rw [if_pos (by omega)])
    have k0 : (c == 0) = false := by simp; omega
    have k1 : (c == 1) = false := by simp; omega
    have k2 : (c == 2) = false := by simp; omega
    have k3 : (c == 3) = false := by simp; omega
    have k4 : (c == 4) = false := by simp; omega
    have k5 : (c == 5) = false := by simp; omega
    have k6 : (c == 6) = false := by simp; omega
    have k7 : (c == 7) = false := by simp; omega
    have k8 : (c == 8) = false := by simp; omega
    have k9 : (c == 9) = false := by simp; omega
    have k10 : (c == 10) = false := by simp; omega
    have k11 : (c == 11) = false := by simp; omega
    have k12 : (c == 12) = false := by simp; omega
    have k13 : (c == 13) = false := by simp; omega
    have k14 : (c == 14) = false := by simp; omega
    have k15 : (c == 15) = false := by simp; omega
    clear h
    go_enter Try.func9, Try.ntmps9
    go_wp2
    go_ret
    exact ⟨by rw [hN.out]; rfl, Below.refl _ _⟩

end Go.Proofs.Ytknpcohllghopaa
