/- What package muldiv answers, for every input: products and quotients, with their flags. -/
import Derived.Test.YtahmclgegbinbaaRef3b
import Derived.Test.YtahmclgegbinbaaArith
import Derived.Deep.RegionWith
namespace Go.Proofs.Ytahmclgegbinbaa
open Go.ChangeShapes Go.WideShapes Go.ChangeAt Go.RowKit

theorem sgn_four (v : Int) : sgn v 4 = wrap32 v := by
  unfold sgn hi bt cut wid wrap32
  simp
  split <;> omega
theorem msigned_any (v : Int) (w : World) : Calls Try.prog 21 #[.int .u32 v] w fun e w' => e = .returned (.int .i64 (wrap32 v)) ∧ w = w' := by
  have h0 := wrap32_lo v
  have h1 := wrap32_hi v
  have e := sgn_four v
  go_enter Try.func21, Try.ntmps21
  go_wp2_with (go_at_call 24; refine (signed_any _ _ _).mono ?_; rintro e w' ⟨rfl, rfl⟩)
  go_ret
  exact ⟨rfl, rfl⟩
theorem fits_any (v : Int) (w : World) : Calls Try.prog 22 #[.int .i64 v] w fun e w' => e = .returned (.bool (v == wrap32 v)) ∧ w = w' := by
  have h0 := wrap32_lo v
  have h1 := wrap32_hi v
  go_enter Try.func22, Try.ntmps22
  go_wp2
  go_ret
  exact ⟨rfl, rfl⟩
theorem halves_any (v : Int) (h0 : 0 ≤ v) (h1 : v ≤ 18446744073709551615) (w : World) : Calls Try.prog 19 #[.int .u64 v] w fun e w' => e = .returned (.tuple #[.int .u32 (v / 4294967296), .int .u32 (v % 4294967296)]) ∧ w = w' := by
  go_enter Try.func19, Try.ntmps19
  go_wp2
  go_ret2
  exact ⟨rfl, rfl⟩
theorem halves_w (v : Int) (w : World) : Calls Try.prog 19 #[.int .u64 (IntKind.u64.wrap v)] w fun e w' => e = .returned (.tuple #[.int .u32 (v % 18446744073709551616 / 4294967296), .int .u32 (v % 4294967296)]) ∧ w = w' := by
  have h := halves_any (IntKind.u64.wrap v) (by rw [IntKind.wrap_u64]; omega) (by rw [IntKind.wrap_u64]; omega) w
  rw [IntKind.wrap_u64, show v % 18446744073709551616 % 4294967296 = v % 4294967296 by omega] at h
  rw [IntKind.wrap_u64]
  exact h
theorem joined_any (h l : Int) (h0 : 0 ≤ h) (h1 : h < 4294967296) (l0 : 0 ≤ l) (l1 : l < 4294967296) (w : World) : Calls Try.prog 23 #[.int .u32 h, .int .u32 l] w fun e w' => e = .returned (.int .u64 (both h l)) ∧ w = w' := by
  have hO := both_or h l h0 h1 l0 l1
  go_enter Try.func23, Try.ntmps23
  go_wp2
  go_ret
  exact ⟨rfl, rfl⟩
theorem told_any (fc fp fz fs fo fd o : Bool) (w : World) : Calls Try.prog 20 #[.agg #[.bool fc, .bool fp, .bool fz, .bool fs, .bool fo, .bool fd], .bool o] w fun e w' =>
   e = .returned (.agg #[.bool o, .bool fp, .bool fz, .bool fs, .bool o, .bool fd]) ∧ Below w.heap.size w w' := by
  go_enter Try.func20, Try.ntmps20
  go_wp2
  refine bodyPost_ret (v := .agg #[.bool o, .bool fp, .bool fz, .bool fs, .bool o, .bool fd]) (by simp [results, Try.results20, go_sem]) rfl ⟨rfl, ?_⟩
  exact ((Below.refl _ _).alloc (Nat.le_refl _) _).alloc (by simp) _

attribute [local go_sem] isSome_setCell
set_option maxHeartbeats 1000000 in
theorem mul_any (fc fp fz fs fo fd : Bool) (a b : Int) (h0 : 0 ≤ a) (h1 : a < 4294967296) (k0 : 0 ≤ b) (k1 : b < 4294967296) (w : World) :
    Calls Try.prog 11 #[.agg #[.bool fc, .bool fp, .bool fz, .bool fs, .bool fo, .bool fd], .int .u32 a, .int .u32 b] w fun e w' =>
   e = .returned (.tuple #[.int .u32 (mulH a b), .int .u32 (mulL a b), .agg #[.bool (mulC a b), .bool fp, .bool fz, .bool fs, .bool (mulC a b), .bool fd]]) ∧ Below w.heap.size w w' := by
  have m0 := mul_lo a b h0 k0
  have m1 := mul_hi a b h1 k0 k1
  have hH := Lib.hid (show mulH a b = a * b / 4294967296 from rfl)
  have hL := Lib.hid (show mulL a b = a * b % 4294967296 from rfl)
  have hC := Lib.hid (show mulC a b = (a * b / 4294967296 != 0) from rfl)
  generalize hP : a * b = P at *
  go_enter Try.func11, Try.ntmps11
  go_wp2_with (first | (go_at_call 19; refine (halves_any _ ?_ ?_ _).mono ?_; rotate_left 2; rintro e w' ⟨rfl, rfl⟩; rotate_left 1; omega; omega) | (go_at_call 20; refine (told_any _ _ _ _ _ _ _ _).mono ?_; rintro e w1 ⟨rfl, hb⟩; obtain ⟨hc, hf⟩ := bcell hb; have hz : w.heap.size + 1 < w1.heap.size := (by have := hb.size; simp at this; omega); have hy : w.heap.size < w1.heap.size := (by omega)))
  all_goals
    go_wp2
    have hB : Below w.heap.size w w1 := (((Below.refl _ _).alloc (Nat.le_refl _) _).alloc (by simp) _).trans (hb.mono (by simp; omega))
    refine bodyPost_ret (v := .tuple #[.int .u32 (mulH a b), .int .u32 (mulL a b), .agg #[.bool (mulC a b), .bool fp, .bool fz, .bool fs, .bool (mulC a b), .bool fd]]) (by rw [hH.out, hL.out, hC.out]; simp [results, Try.results11, go_sem, hc]) rfl ⟨rfl, ?_⟩
    repeat' (first | (with_reducible exact hB) | (with_reducible refine Below.drew ?_) | (with_reducible refine Below.setCell ?_ ?_ _) | (with_reducible refine Below.alloc ?_ ?_ _) | (simp <;> omega))

theorem imulC_eq (a b : Int) : imulC a b = !(imulP a b == wrap32 (imulP a b)) := by
  unfold imulC
  generalize imulP a b = P
  rw [Bool.eq_iff_iff]
  unfold wrap32
  simp
  omega
set_option maxHeartbeats 1000000 in
theorem imul_any (fc fp fz fs fo fd : Bool) (a b : Int) (_h0 : 0 ≤ a) (_h1 : a < 4294967296) (_k0 : 0 ≤ b) (_k1 : b < 4294967296) (w : World) :
    Calls Try.prog 13 #[.agg #[.bool fc, .bool fp, .bool fz, .bool fs, .bool fo, .bool fd], .int .u32 a, .int .u32 b] w fun e w' =>
   e = .returned (.tuple #[.int .u32 (imulH a b), .int .u32 (imulL a b), .agg #[.bool (imulC a b), .bool fp, .bool fz, .bool fs, .bool (imulC a b), .bool fd]]) ∧ Below w.heap.size w w' := by
  have a0 := wrap32_lo a
  have a1 := wrap32_hi a
  have b0 := wrap32_lo b
  have b1 := wrap32_hi b
  have p0 := imul_lo a b
  have p1 := imul_hi a b
  have hP : wrap32 a * wrap32 b = imulP a b := rfl
  have hH := Lib.hid (show imulH a b = imulP a b % 18446744073709551616 / 4294967296 from rfl)
  have hL := Lib.hid (show imulL a b = imulP a b % 4294967296 from rfl)
  have hC := Lib.hid (imulC_eq a b)
  generalize imulP a b = P at *
  go_enter Try.func13, Try.ntmps13
  go_wp2_with (first | (go_at_call 21; refine (msigned_any _ _).mono ?_; rintro e w' ⟨rfl, rfl⟩) | (go_at_call 19; refine (halves_w _ _).mono ?_; rintro e w' ⟨rfl, rfl⟩))
  go_region_with (first | (go_at_call 22; (with_reducible refine (fits_any _ _).mono ?_); rintro e w' ⟨rfl, rfl⟩) | (go_at_call 20; (with_reducible refine (told_any fc fp fz fs fo fd _ _).mono ?_); rintro e w1 ⟨rfl, hb'⟩; have hb := below_undrew hb'; clear hb'; obtain ⟨hc, hf⟩ := bcell hb; have hz : w.heap.size + 1 < w1.heap.size := (by have := hb.size; simp at this; omega); have hy : w.heap.size < w1.heap.size := (by omega)))
  all_goals
    go_wp2
    have hB : Below w.heap.size w w1 := (((Below.refl _ _).alloc (Nat.le_refl _) _).alloc (by simp) _).trans (hb.mono (by simp; omega))
    refine bodyPost_ret (v := .tuple #[.int .u32 (imulH a b), .int .u32 (imulL a b), .agg #[.bool (imulC a b), .bool fp, .bool fz, .bool fs, .bool (imulC a b), .bool fd]]) (by rw [hH.out, hL.out, hC.out]; simp [results, Try.results13, go_sem, hc]) rfl ⟨rfl, ?_⟩
    repeat' (first | (with_reducible exact hB) | (with_reducible refine Below.drew ?_) | (with_reducible refine Below.setCell ?_ ?_ _) | (with_reducible refine Below.alloc ?_ ?_ _) | (simp <;> omega))

theorem fits_iff (q : Int) : (q == wrap32 q) = decide (-2147483648 ≤ q ∧ q ≤ 2147483647) := by
  rw [Bool.eq_iff_iff]
  unfold wrap32
  simp
  omega
theorem both_q' (h l d : Int) (l0 : 0 ≤ l) (d0 : 0 < d) (hd : ¬ h < d) : ((both h l / d) / 4294967296 != 0) = true := by
  have : 4294967296 ≤ both h l / d := by
    rw [Int.le_ediv_iff_mul_le d0]
    unfold both
    have := Int.mul_le_mul_of_nonneg_left (show d ≤ h by omega) (show (0 : Int) ≤ 4294967296 by decide)
    rw [Int.mul_comm h]
    omega
  generalize both h l / d = q at *
  simp
  omega

set_option maxHeartbeats 1000000 in
theorem div_any (h l d : Int) (h0 : 0 ≤ h) (h1 : h < 4294967296) (l0 : 0 ≤ l) (l1 : l < 4294967296) (k0 : 0 ≤ d) (k1 : d < 4294967296) (w : World) :
    Calls Try.prog 15 #[.int .u32 h, .int .u32 l, .int .u32 d] w fun e w' =>
   e = .returned (.tuple #[.int .u32 (divQ h l d), .int .u32 (divR h l d), .bool (divOk h d)]) ∧ Below w.heap.size w w' := by
  by_cases dz : d = 0
  · have hQ := Lib.hid (show divQ h l d = 0 by unfold divQ; rw [if_neg (by omega)])
    have hR := Lib.hid (show divR h l d = 0 by unfold divR; rw [if_neg (by omega)])
    have hK := Lib.hid (show divOk h d = false by unfold divOk; simp; omega)
    have dz' : (d == 0) = true := by rw [beq_iff_eq]; exact dz
    clear dz
    go_enter Try.func15, Try.ntmps15
    go_wp2
    refine bodyPost_ret (v := .tuple #[.int .u32 (divQ h l d), .int .u32 (divR h l d), .bool (divOk h d)]) (by rw [hQ.out, hR.out, hK.out]; simp [results, Try.results15, go_sem]) rfl ⟨rfl, Below.refl _ _⟩
  · have dz' : (d == 0) = false := by rw [beq_eq_false_iff_ne]; exact dz
    have dp : 0 < d := by omega
    have n0 : 0 ≤ both h l := by unfold both; omega
    have n1 : both h l ≤ 18446744073709551615 := by unfold both; omega
    have r0 : 0 ≤ both h l % d := Int.emod_nonneg _ (by omega)
    have r1 : both h l % d < 4294967296 := by have := Int.emod_lt_of_pos (both h l) dp; omega
    have q0 : 0 ≤ both h l / d := Int.ediv_nonneg n0 (by omega)
    have q1 : both h l / d ≤ 18446744073709551615 := by have := Int.ediv_le_self d n0; omega
    by_cases hd : h < d
    · obtain ⟨q2, q3⟩ := both_q h l d h0 l0 l1 hd
      have hQ := Lib.hid (show divQ h l d = both h l / d by unfold divQ; rw [if_pos hd])
      have hR := Lib.hid (show divR h l d = both h l % d by unfold divR; rw [if_pos hd])
      have hK := Lib.hid (show divOk h d = true by unfold divOk; simp [hd])
      have ho : (both h l / d / 4294967296 != 0) = false := by
        generalize both h l / d = q at *
        simp
        omega
      generalize hN : both h l = N at *
      go_enter Try.func15, Try.ntmps15
      go_wp2_with (first | (go_at_call 23; refine (joined_any _ _ h0 h1 l0 l1 _).mono ?_; rintro e w' ⟨rfl, rfl⟩) | (go_at_call 19; refine (halves_any _ q0 q1 _).mono ?_; rintro e w' ⟨rfl, rfl⟩))
      go_region
      all_goals
        go_wp2_with (go_at_call 19; refine (halves_any _ q0 q1 _).mono ?_; rintro e w' ⟨rfl, rfl⟩)
        (try go_region)
        all_goals
          (try go_wp2)
          refine bodyPost_ret (v := .tuple #[.int .u32 (divQ h l d), .int .u32 (divR h l d), .bool (divOk h d)]) (by rw [hQ.out, hR.out, hK.out]; simp [results, Try.results15, go_sem]) rfl ⟨rfl, ?_⟩
          repeat' (first | (with_reducible exact Below.refl _ _) | (with_reducible refine Below.drew ?_))
    · have ho := both_q' h l d l0 dp hd
      have hQ := Lib.hid (show divQ h l d = 0 by unfold divQ; rw [if_neg hd])
      have hR := Lib.hid (show divR h l d = 0 by unfold divR; rw [if_neg hd])
      have hK := Lib.hid (show divOk h d = false by unfold divOk; simp; omega)
      generalize hN : both h l = N at *
      go_enter Try.func15, Try.ntmps15
      go_wp2_with (first | (go_at_call 23; refine (joined_any _ _ h0 h1 l0 l1 _).mono ?_; rintro e w' ⟨rfl, rfl⟩) | (go_at_call 19; refine (halves_any _ q0 q1 _).mono ?_; rintro e w' ⟨rfl, rfl⟩))
      go_region
      all_goals
        go_wp2_with (go_at_call 19; refine (halves_any _ q0 q1 _).mono ?_; rintro e w' ⟨rfl, rfl⟩)
        (try go_region)
        all_goals
          (try go_wp2)
          refine bodyPost_ret (v := .tuple #[.int .u32 (divQ h l d), .int .u32 (divR h l d), .bool (divOk h d)]) (by rw [hQ.out, hR.out, hK.out]; simp [results, Try.results15, go_sem]) rfl ⟨rfl, ?_⟩
          repeat' (first | (with_reducible exact Below.refl _ _) | (with_reducible refine Below.drew ?_))

set_option maxHeartbeats 2000000 in
theorem idiv_any (h l b : Int) (h0 : 0 ≤ h) (h1 : h < 4294967296) (l0 : 0 ≤ l) (l1 : l < 4294967296) (k0 : 0 ≤ b) (k1 : b < 4294967296) (w : World) :
    Calls Try.prog 17 #[.int .u32 h, .int .u32 l, .int .u32 b] w fun e w' =>
   e = .returned (.tuple #[.int .u32 (idQ h l b), .int .u32 (idR h l b), .bool (idOk h l b)]) ∧ Below w.heap.size w w' := by
  have n0 : -9223372036854775808 ≤ idN h l := wrap64_lo _
  have n1 : idN h l ≤ 9223372036854775807 := wrap64_hi _
  have b0 := wrap32_lo b
  have b1 := wrap32_hi b
  have hN : wrap64 (both h l) = idN h l := rfl
  have hK := Lib.hid (show idOk h l b = decide (wrap32 b ≠ 0 ∧ -2147483648 ≤ (idN h l).tdiv (wrap32 b) ∧ (idN h l).tdiv (wrap32 b) ≤ 2147483647) from rfl)
  have hQ := Lib.hid (show idQ h l b = if idOk h l b then (idN h l).tdiv (wrap32 b) % 4294967296 else 0 from rfl)
  have hR := Lib.hid (show idR h l b = if idOk h l b then (idN h l).tmod (wrap32 b) % 4294967296 else 0 from rfl)
  obtain ⟨D, hD⟩ : ∃ D : Int, wrap32 b = D := ⟨_, rfl⟩
  have hbD : b = 0 ↔ D = 0 := by
    rw [← hD]; unfold wrap32; omega
  rw [hD] at b0 b1 hK hQ hR
  generalize idN h l = N at *
  by_cases dz : b = 0
  · have dz' : (b == 0) = true := by rw [beq_iff_eq]; exact dz
    have hK' := Lib.hid (show idOk h l b = false by rw [hK.out]; simp [hbD.1 dz])
    clear dz hbD
    go_enter Try.func17, Try.ntmps17
    go_wp2
    refine bodyPost_ret (v := .tuple #[.int .u32 (idQ h l b), .int .u32 (idR h l b), .bool (idOk h l b)]) (by rw [hQ.out, hR.out, hK'.out]; simp [results, Try.results17, go_sem]) rfl ⟨rfl, Below.refl _ _⟩
  · have dz' : (b == 0) = false := by rw [beq_eq_false_iff_ne]; exact dz
    have dD : D ≠ 0 := fun e => dz (hbD.2 e)
    have dD' : (D == 0) = false := by rw [beq_eq_false_iff_ne]; exact dD
    clear hbD dz
    have hS : ∀ w : World, Calls Try.prog 21 #[.int .u32 b] w fun e w' => e = .returned (.int .i64 D) ∧ w = w' := by
      intro w; have h := msigned_any b w; rw [hD] at h; exact h
    by_cases hx : N = -9223372036854775808 ∧ D = -1
    · obtain ⟨rfl, rfl⟩ := hx
      have hK' := Lib.hid (show idOk h l b = false by rw [hK.out]; decide)
      have hF : ∀ w : World, Calls Try.prog 22 #[.int .i64 (wrap64 9223372036854775808)] w fun e w' => e = .returned (.bool false) ∧ w = w' := by
        intro w; have h := fits_any (wrap64 9223372036854775808) w; rw [show (wrap64 9223372036854775808 == wrap32 (wrap64 9223372036854775808)) = false by unfold wrap64 wrap32; decide] at h; exact h
      go_enter Try.func17, Try.ntmps17
      go_wp2_with (first | (go_at_call 23; refine (joined_any _ _ h0 h1 l0 l1 _).mono ?_; rintro e w' ⟨rfl, rfl⟩) | (go_at_call 21; refine (hS _).mono ?_; rintro e w' ⟨rfl, rfl⟩))
      rw [hN]
      go_region_with (go_at_call 21; (with_reducible refine (hS _).mono ?_); rintro e w' ⟨rfl, rfl⟩)
      all_goals
        go_wp2_with (go_at_call 22; refine (hF _).mono ?_; rintro e w' ⟨rfl, rfl⟩)
        (try go_region)
        all_goals
          (try go_wp2)
          refine bodyPost_ret (v := .tuple #[.int .u32 (idQ h l b), .int .u32 (idR h l b), .bool (idOk h l b)]) (by rw [hQ.out, hR.out, hK'.out]; simp [results, Try.results17, go_sem]) rfl ⟨rfl, ?_⟩
          repeat' (first | (with_reducible exact Below.refl _ _) | (with_reducible refine Below.drew ?_))
    · obtain ⟨t0, t1⟩ := tdiv_64 N D n0 n1 hx
      obtain ⟨r0, r1⟩ := tmod_32 N D b0 b1 dD
      clear hx
      by_cases c : -2147483648 ≤ N.tdiv D ∧ N.tdiv D ≤ 2147483647
      · have hK' := Lib.hid (show idOk h l b = true by rw [hK.out]; simp; omega)
        have hF : ∀ w : World, Calls Try.prog 22 #[.int .i64 (N.tdiv D)] w fun e w' => e = .returned (.bool true) ∧ w = w' := by
          intro w; have h := fits_any (N.tdiv D) w; rw [fits_iff, decide_eq_true c] at h; exact h
        clear c
        go_enter Try.func17, Try.ntmps17
        go_wp2_with (first | (go_at_call 23; refine (joined_any _ _ h0 h1 l0 l1 _).mono ?_; rintro e w' ⟨rfl, rfl⟩) | (go_at_call 21; refine (hS _).mono ?_; rintro e w' ⟨rfl, rfl⟩))
        rw [hN]
        go_region_with (go_at_call 21; (with_reducible refine (hS _).mono ?_); rintro e w' ⟨rfl, rfl⟩)
        all_goals
          go_wp2_with (go_at_call 22; refine (hF _).mono ?_; rintro e w' ⟨rfl, rfl⟩)
          (try go_region)
          all_goals
            (try go_wp2)
            refine bodyPost_ret (v := .tuple #[.int .u32 (idQ h l b), .int .u32 (idR h l b), .bool (idOk h l b)]) (by rw [hQ.out, hR.out, hK'.out]; simp [results, Try.results17, go_sem]) rfl ⟨rfl, ?_⟩
            repeat' (first | (with_reducible exact Below.refl _ _) | (with_reducible refine Below.drew ?_))
      · have hK' := Lib.hid (show idOk h l b = false by rw [hK.out]; simp; omega)
        have hF : ∀ w : World, Calls Try.prog 22 #[.int .i64 (N.tdiv D)] w fun e w' => e = .returned (.bool false) ∧ w = w' := by
          intro w; have h := fits_any (N.tdiv D) w; rw [fits_iff, decide_eq_false c] at h; exact h
        clear c
        go_enter Try.func17, Try.ntmps17
        go_wp2_with (first | (go_at_call 23; refine (joined_any _ _ h0 h1 l0 l1 _).mono ?_; rintro e w' ⟨rfl, rfl⟩) | (go_at_call 21; refine (hS _).mono ?_; rintro e w' ⟨rfl, rfl⟩))
        rw [hN]
        go_region_with (go_at_call 21; (with_reducible refine (hS _).mono ?_); rintro e w' ⟨rfl, rfl⟩)
        all_goals
          go_wp2_with (go_at_call 22; refine (hF _).mono ?_; rintro e w' ⟨rfl, rfl⟩)
          (try go_region)
          all_goals
            (try go_wp2)
            refine bodyPost_ret (v := .tuple #[.int .u32 (idQ h l b), .int .u32 (idR h l b), .bool (idOk h l b)]) (by rw [hQ.out, hR.out, hK'.out]; simp [results, Try.results17, go_sem]) rfl ⟨rfl, ?_⟩
            repeat' (first | (with_reducible exact Below.refl _ _) | (with_reducible refine Below.drew ?_))
end Go.Proofs.Ytahmclgegbinbaa
