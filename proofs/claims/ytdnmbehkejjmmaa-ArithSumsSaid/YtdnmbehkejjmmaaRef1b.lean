/- What the document's own Add, Sub and Step (package salternref1) answer, for every input. -/
import Derived.Test.YtdnmbehkejjmmaaRef1
namespace Go.Proofs.Ytdnmbehkejjmmaa
open Go.ChangeShapes Go.WideShapes Go.ChangeAt Go.RowKit

theorem rlogic_add (a b n : Int) (c : Bool) (w : World) : Calls Try.prog 15 #[.int .u32 ((cut a n + cut b n + ↑c.toNat) % 4294967296), .int .i64 n] w fun e w' =>
   e = .returned (.tuple #[.int .u32 (addV a b n c), .agg #[.bool false, .bool (par (addV a b n c)), .bool (zer (addV a b n c)), .bool (hi (addV a b n c) n), .bool false, .bool false]]) ∧ Below w.heap.size w w' := by
  have h := rlogic_any ((cut a n + cut b n + ↑c.toNat) % 4294967296) n w (by omega) (by omega)
  rw [cut_cut32] at h
  exact h
theorem rlogic_sub (a b n : Int) (c : Bool) (w : World) : Calls Try.prog 15 #[.int .u32 ((cut a n - cut b n - ↑c.toNat) % 4294967296), .int .i64 n] w fun e w' =>
   e = .returned (.tuple #[.int .u32 (subV a b n c), .agg #[.bool false, .bool (par (subV a b n c)), .bool (zer (subV a b n c)), .bool (hi (subV a b n c) n), .bool false, .bool false]]) ∧ Below w.heap.size w w' := by
  have h := rlogic_any ((cut a n - cut b n - ↑c.toNat) % 4294967296) n w (by omega) (by omega)
  rw [cut_cut32] at h
  exact h

set_option maxHeartbeats 400000 in
theorem radd_any (a b n : Int) (c : Bool) (w : World) (h0 : 0 ≤ a) (h1 : a < 4294967296) (k0 : 0 ≤ b) (k1 : b < 4294967296) : Calls Try.prog 11 #[.int .u32 a, .int .u32 b, .int .i64 n, .bool c] w fun e w' =>
   e = .returned (.tuple #[.int .u32 (addV a b n c), .agg #[.bool (addC a b n c), .bool (par (addV a b n c)), .bool (zer (addV a b n c)), .bool (hi (addV a b n c) n), .bool (addO a b n c), .bool false]]) ∧ Below w.heap.size w w' := by
  have a0 := cut_lo a n
  have a1 := cut_hi a n
  have b0 := cut_lo b n
  have b1 := cut_hi b n
  have c1 := toNat_hi c
  have y0 := byt_lo n
  have y1 := byt_hi n
  have t0 := tp_lo n
  have t1 := tp_hi n
  have hE := tp_eq (cut a n) (cut b n) n b0 b1 a0 a1
  have hC := Lib.hid (raddC_eq a b n c)
  cases hx : (hi (cut a n) n == hi (cut b n) n)
  · have hO := Lib.hid (addO_neg a b n c hx)
    rw [hx] at hE
    clear hx
    go_enter Try.func11, Try.ntmps11
    go_wp2_with (first | (go_at_call 19; first | ((with_reducible refine (rcut_any a _ _ h0 h1).mono ?_); rintro e w' ⟨rfl, rfl⟩) | ((with_reducible refine (rcut_any b _ _ k0 k1).mono ?_); rintro e w' ⟨rfl, rfl⟩)) | (go_at_call 27; refine (rone_any _ _).mono ?_; rintro e w' ⟨rfl, rfl⟩) | (go_at_call 28; refine (rbytes_any _ _).mono ?_; rintro e w' ⟨rfl, rfl⟩) | (go_at_call 29; refine (rtop_any _ _).mono ?_; rintro e w' ⟨rfl, rfl⟩) |
      (go_at_call 15; refine (rlogic_add _ _ _ _ _).mono ?_; rintro e w1 ⟨rfl, hb⟩; obtain ⟨hc, hf⟩ := bcell hb; have hz : w.heap.size < w1.heap.size := (by have := hb.size; simp at this; omega)))
    go_region
    all_goals
      go_wp2
      refine bodyPost_ret (v := .tuple #[.int .u32 (addV a b n c), .agg #[.bool (addC a b n c), .bool (par (addV a b n c)), .bool (zer (addV a b n c)), .bool (hi (addV a b n c) n), .bool (addO a b n c), .bool false]]) (by rw [← hC.out, hO.out]; simp [results, Try.results11, go_sem, hc, hz]) rfl ⟨rfl, ?_⟩
      have hB : Below w.heap.size w w1 := ((Below.refl _ _).alloc (Nat.le_refl _) _).trans (hb.mono (by simp))
      repeat' (first | (with_reducible exact hB) | (with_reducible refine Below.drew ?_) | (with_reducible refine Below.setCell ?_ ?_ _) | (with_reducible refine Below.alloc ?_ ?_ _) | (simp <;> omega))
  · have hO := Lib.hid (raddO_pos' a b n c hx)
    rw [hx] at hE
    clear hx
    go_enter Try.func11, Try.ntmps11
    go_wp2_with (first | (go_at_call 19; first | ((with_reducible refine (rcut_any a _ _ h0 h1).mono ?_); rintro e w' ⟨rfl, rfl⟩) | ((with_reducible refine (rcut_any b _ _ k0 k1).mono ?_); rintro e w' ⟨rfl, rfl⟩)) | (go_at_call 27; refine (rone_any _ _).mono ?_; rintro e w' ⟨rfl, rfl⟩) | (go_at_call 28; refine (rbytes_any _ _).mono ?_; rintro e w' ⟨rfl, rfl⟩) | (go_at_call 29; refine (rtop_any _ _).mono ?_; rintro e w' ⟨rfl, rfl⟩) |
      (go_at_call 15; refine (rlogic_add _ _ _ _ _).mono ?_; rintro e w1 ⟨rfl, hb⟩; obtain ⟨hc, hf⟩ := bcell hb; have hz : w.heap.size < w1.heap.size := (by have := hb.size; simp at this; omega)))
    go_region
    all_goals
      go_wp2
      refine bodyPost_ret (v := .tuple #[.int .u32 (addV a b n c), .agg #[.bool (addC a b n c), .bool (par (addV a b n c)), .bool (zer (addV a b n c)), .bool (hi (addV a b n c) n), .bool (addO a b n c), .bool false]]) (by rw [← hC.out, ← hO.out]; simp [results, Try.results11, go_sem, hc, hz]) rfl ⟨rfl, ?_⟩
      have hB : Below w.heap.size w w1 := ((Below.refl _ _).alloc (Nat.le_refl _) _).trans (hb.mono (by simp))
      repeat' (first | (with_reducible exact hB) | (with_reducible refine Below.drew ?_) | (with_reducible refine Below.setCell ?_ ?_ _) | (with_reducible refine Below.alloc ?_ ?_ _) | (simp <;> omega))

set_option maxHeartbeats 400000 in
theorem rsub_any (a b n : Int) (c : Bool) (w : World) (h0 : 0 ≤ a) (h1 : a < 4294967296) (k0 : 0 ≤ b) (k1 : b < 4294967296) : Calls Try.prog 13 #[.int .u32 a, .int .u32 b, .int .i64 n, .bool c] w fun e w' =>
   e = .returned (.tuple #[.int .u32 (subV a b n c), .agg #[.bool (subC a b n c), .bool (par (subV a b n c)), .bool (zer (subV a b n c)), .bool (hi (subV a b n c) n), .bool (subO a b n c), .bool false]]) ∧ Below w.heap.size w w' := by
  have a0 := cut_lo a n
  have a1 := cut_hi a n
  have b0 := cut_lo b n
  have b1 := cut_hi b n
  have c1 := toNat_hi c
  have t0 := tp_lo n
  have t1 := tp_hi n
  have hE := tp_neq (cut a n) (cut b n) n b0 b1 a0 a1
  cases hx : (hi (cut a n) n != hi (cut b n) n)
  · have hO := Lib.hid (subO_neg a b n c hx)
    rw [hx] at hE
    clear hx
    go_enter Try.func13, Try.ntmps13
    go_wp2_with (first | (go_at_call 19; first | ((with_reducible refine (rcut_any a _ _ h0 h1).mono ?_); rintro e w' ⟨rfl, rfl⟩) | ((with_reducible refine (rcut_any b _ _ k0 k1).mono ?_); rintro e w' ⟨rfl, rfl⟩)) | (go_at_call 27; refine (rone_any _ _).mono ?_; rintro e w' ⟨rfl, rfl⟩) | (go_at_call 29; refine (rtop_any _ _).mono ?_; rintro e w' ⟨rfl, rfl⟩) |
      (go_at_call 15; refine (rlogic_sub _ _ _ _ _).mono ?_; rintro e w1 ⟨rfl, hb⟩; obtain ⟨hc, hf⟩ := bcell hb; have hz : w.heap.size < w1.heap.size := (by have := hb.size; simp at this; omega)))
    go_region
    all_goals
      go_wp2
      refine bodyPost_ret (v := .tuple #[.int .u32 (subV a b n c), .agg #[.bool (subC a b n c), .bool (par (subV a b n c)), .bool (zer (subV a b n c)), .bool (hi (subV a b n c) n), .bool (subO a b n c), .bool false]]) (by rw [hO.out]; simp [results, Try.results13, go_sem, hc, hz, subC]) rfl ⟨rfl, ?_⟩
      have hB : Below w.heap.size w w1 := ((Below.refl _ _).alloc (Nat.le_refl _) _).trans (hb.mono (by simp))
      repeat' (first | (with_reducible exact hB) | (with_reducible refine Below.drew ?_) | (with_reducible refine Below.setCell ?_ ?_ _) | (with_reducible refine Below.alloc ?_ ?_ _) | (simp <;> omega))
  · have hO := Lib.hid (rsubO_pos a b n c hx)
    rw [hx] at hE
    clear hx
    go_enter Try.func13, Try.ntmps13
    go_wp2_with (first | (go_at_call 19; first | ((with_reducible refine (rcut_any a _ _ h0 h1).mono ?_); rintro e w' ⟨rfl, rfl⟩) | ((with_reducible refine (rcut_any b _ _ k0 k1).mono ?_); rintro e w' ⟨rfl, rfl⟩)) | (go_at_call 27; refine (rone_any _ _).mono ?_; rintro e w' ⟨rfl, rfl⟩) | (go_at_call 29; refine (rtop_any _ _).mono ?_; rintro e w' ⟨rfl, rfl⟩) |
      (go_at_call 15; refine (rlogic_sub _ _ _ _ _).mono ?_; rintro e w1 ⟨rfl, hb⟩; obtain ⟨hc, hf⟩ := bcell hb; have hz : w.heap.size < w1.heap.size := (by have := hb.size; simp at this; omega)))
    go_region
    all_goals
      go_wp2
      refine bodyPost_ret (v := .tuple #[.int .u32 (subV a b n c), .agg #[.bool (subC a b n c), .bool (par (subV a b n c)), .bool (zer (subV a b n c)), .bool (hi (subV a b n c) n), .bool (subO a b n c), .bool false]]) (by rw [← hO.out]; simp [results, Try.results13, go_sem, hc, hz, subC]) rfl ⟨rfl, ?_⟩
      have hB : Below w.heap.size w w1 := ((Below.refl _ _).alloc (Nat.le_refl _) _).trans (hb.mono (by simp))
      repeat' (first | (with_reducible exact hB) | (with_reducible refine Below.drew ?_) | (with_reducible refine Below.setCell ?_ ?_ _) | (with_reducible refine Below.alloc ?_ ?_ _) | (simp <;> omega))

attribute [local go_sem] isSome_setCell
set_option maxHeartbeats 1000000 in
theorem rstep_pos (fc fp fz fs fo fd : Bool) (v n i : Int) (h0 : 0 ≤ v) (h1 : v < 4294967296) (hi0 : 0 < i) (w : World) : Calls Try.prog 17 #[.agg #[.bool fc, .bool fp, .bool fz, .bool fs, .bool fo, .bool fd], .int .u32 v, .int .i64 n, .int .i64 i] w fun e w' =>
   e = .returned (.tuple #[.int .u32 (addV v 1 n false), .agg #[.bool fc, .bool (par (addV v 1 n false)), .bool (zer (addV v 1 n false)), .bool (hi (addV v 1 n false) n), .bool (addO v 1 n false), .bool fd]]) ∧ Below w.heap.size w w' := by
  go_enter Try.func17, Try.ntmps17
  go_wp2_with (go_at_call 11; refine (radd_any _ _ _ _ _ h0 h1 (by decide) (by decide)).mono ?_; rintro e w1 ⟨rfl, hb⟩; obtain ⟨hc, hf⟩ := bcell hb; have hz : w.heap.size + 2 < w1.heap.size := (by have := hb.size; simp at this; omega); have hy : w.heap.size < w1.heap.size := (by omega); have hy1 : w.heap.size + 1 < w1.heap.size := (by omega))
  go_region
  all_goals go_wp2
  go_region
  all_goals go_wp2
  all_goals
    have hB : Below w.heap.size w w1 := ((((Below.refl _ _).alloc (Nat.le_refl _) _).alloc (by simp) _).alloc (by simp; omega) _).trans (hb.mono (by simp; omega))
    refine bodyPost_ret (v := .tuple #[.int .u32 (addV v 1 n false), .agg #[.bool fc, .bool (par (addV v 1 n false)), .bool (zer (addV v 1 n false)), .bool (hi (addV v 1 n false) n), .bool (addO v 1 n false), .bool fd]]) (by simp [results, Try.results17, go_sem, hc]) rfl ⟨rfl, ?_⟩
    repeat' (first | (with_reducible exact hB) | (with_reducible refine Below.drew ?_) | (with_reducible refine Below.setCell ?_ ?_ _) | (with_reducible refine Below.alloc ?_ ?_ _) | (simp <;> omega))

set_option maxHeartbeats 1000000 in
theorem rstep_neg (fc fp fz fs fo fd : Bool) (v n i : Int) (h0 : 0 ≤ v) (h1 : v < 4294967296) (hi0 : i ≤ 0) (w : World) : Calls Try.prog 17 #[.agg #[.bool fc, .bool fp, .bool fz, .bool fs, .bool fo, .bool fd], .int .u32 v, .int .i64 n, .int .i64 i] w fun e w' =>
   e = .returned (.tuple #[.int .u32 (subV v 1 n false), .agg #[.bool fc, .bool (par (subV v 1 n false)), .bool (zer (subV v 1 n false)), .bool (hi (subV v 1 n false) n), .bool (subO v 1 n false), .bool fd]]) ∧ Below w.heap.size w w' := by
  go_enter Try.func17, Try.ntmps17
  go_wp2_with (go_at_call 13; refine (rsub_any _ _ _ _ _ h0 h1 (by decide) (by decide)).mono ?_; rintro e w1 ⟨rfl, hb⟩; obtain ⟨hc, hf⟩ := bcell hb; have hz : w.heap.size + 2 < w1.heap.size := (by have := hb.size; simp at this; omega); have hy : w.heap.size < w1.heap.size := (by omega); have hy1 : w.heap.size + 1 < w1.heap.size := (by omega))
  go_region
  all_goals go_wp2
  go_region
  all_goals go_wp2
  all_goals
    have hB : Below w.heap.size w w1 := ((((Below.refl _ _).alloc (Nat.le_refl _) _).alloc (by simp) _).alloc (by simp; omega) _).trans (hb.mono (by simp; omega))
    refine bodyPost_ret (v := .tuple #[.int .u32 (subV v 1 n false), .agg #[.bool fc, .bool (par (subV v 1 n false)), .bool (zer (subV v 1 n false)), .bool (hi (subV v 1 n false) n), .bool (subO v 1 n false), .bool fd]]) (by simp [results, Try.results17, go_sem, hc]) rfl ⟨rfl, ?_⟩
    repeat' (first | (with_reducible exact hB) | (with_reducible refine Below.drew ?_) | (with_reducible refine Below.setCell ?_ ?_ _) | (with_reducible refine Below.alloc ?_ ?_ _) | (simp <;> omega))

theorem rstep_any (fc fp fz fs fo fd : Bool) (v n i : Int) (h0 : 0 ≤ v) (h1 : v < 4294967296) (w : World) : Calls Try.prog 17 #[.agg #[.bool fc, .bool fp, .bool fz, .bool fs, .bool fo, .bool fd], .int .u32 v, .int .i64 n, .int .i64 i] w fun e w' =>
   e = .returned (.tuple #[.int .u32 (stepV v n i), .agg #[.bool fc, .bool (par (stepV v n i)), .bool (zer (stepV v n i)), .bool (hi (stepV v n i) n), .bool (stepO v n i), .bool fd]]) ∧ Below w.heap.size w w' := by
  unfold stepV stepO
  by_cases h : 0 < i
  · simp only [if_pos h]
    exact rstep_pos fc fp fz fs fo fd v n i h0 h1 h w
  · simp only [if_neg h]
    exact rstep_neg fc fp fz fs fo fd v n i h0 h1 (by omega) w
end Go.Proofs.Ytdnmbehkejjmmaa
