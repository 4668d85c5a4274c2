/- What each function of package arith answers, for every input: the number and the flags. -/
import Derived.Test.YtceahlpchlepaaaRows
import Derived.Test.YtceahlpchlepaaaPure1
import Derived.ProofKit
import Derived.OpenShut
import Derived.BigRegion
import Derived.Lib.Hide
namespace Go.Proofs.Ytceahlpchlepaaa
open Go.ChangeShapes Go.WideShapes Go.ChangeAt Go.RowKit

theorem width_any (n : Int) (w : World) : Calls Try.prog 25 #[.int .i64 n] w fun e w' => e = .returned (.int .u64 (wid n)) ∧ w = w' := by
  by_cases h : n < 2
  · go_enter Try.func25, Try.ntmps25
    go_wp2
    go_ret
    exact ⟨by simp [wid, h], rfl⟩
  · by_cases h4 : n < 4
    all_goals
      go_enter Try.func25, Try.ntmps25
      go_wp2
      go_ret
      exact ⟨by rw [wid, if_neg (by omega)]; first | rw [if_pos (by omega)]; rfl | rw [if_neg (by omega)]; rfl, rfl⟩

theorem cut_any (v n : Int) (w : World) : Calls Try.prog 21 #[.int .u32 v, .int .i64 n] w fun e w' => e = .returned (.int .u32 (cut v n)) ∧ w = w' := by
  have hl := wid_lo n
  have hh := wid_hi n
  have hE := Lib.hid (cut_eq v n)
  go_enter Try.func21, Try.ntmps21
  go_wp2_with (go_at_call 25; refine (width_any _ _).mono ?_; rintro e w' ⟨rfl, rfl⟩)
  go_ret
  exact ⟨by rw [← hE.out]; rfl, rfl⟩

theorem high_any (v n : Int) (w : World) (h0 : 0 ≤ v) (h1 : v < 4294967296) : Calls Try.prog 22 #[.int .u32 v, .int .i64 n] w fun e w' => e = .returned (.bool (hi v n)) ∧ w = w' := by
  have hl := wid_lo n
  have hh := wid_hi n
  have hE := Lib.hid (high_eq v n h0 h1)
  go_enter Try.func22, Try.ntmps22
  go_wp2_with (go_at_call 25; refine (width_any _ _).mono ?_; rintro e w' ⟨rfl, rfl⟩)
  go_ret
  exact ⟨by rw [← hE.out]; rfl, rfl⟩

theorem parity_any (v : Int) (w : World) : Calls Try.prog 23 #[.int .u32 v] w fun e w' => e = .returned (.bool (par v)) ∧ w = w' := by
  have hE := Lib.hid (par_eq v)
  go_enter Try.func23, Try.ntmps23
  go_wp2
  go_ret
  exact ⟨by rw [← hE.out]; rfl, rfl⟩

theorem logic_any (v n : Int) (w : World) : Calls Try.prog 17 #[.int .u32 v, .int .i64 n] w fun e w' =>
   e = .returned (.tuple #[.int .u32 (cut v n), .agg #[.bool false, .bool (par (cut v n)), .bool (zer (cut v n)), .bool (hi (cut v n) n), .bool false, .bool false]]) ∧ Below w.heap.size w w' := by
  have b0 := cut_lo v n
  have b1 := cut_hi v n
  go_enter Try.func17, Try.ntmps17
  go_wp2_with (first | (go_at_call 21; refine (cut_any _ _ _).mono ?_; rintro e w' ⟨rfl, rfl⟩) | (go_at_call 22; refine (high_any _ _ _ (by assumption) (by assumption)).mono ?_; rintro e w' ⟨rfl, rfl⟩) | (go_at_call 23; refine (parity_any _ _).mono ?_; rintro e w' ⟨rfl, rfl⟩))
  refine bodyPost_ret (v := .tuple #[.int .u32 (cut v n), .agg #[.bool false, .bool (par (cut v n)), .bool (zer (cut v n)), .bool (hi (cut v n) n), .bool false, .bool false]]) (by simp [results, Try.results17, go_sem, zer]) rfl ⟨rfl, ?_⟩
  exact (Below.refl _ _).alloc (Nat.le_refl _) _

theorem logic_add (a b n : Int) (c : Bool) (w : World) : Calls Try.prog 17 #[.int .u32 ((cut a n + cut b n + ↑c.toNat) % 4294967296), .int .i64 n] w fun e w' =>
   e = .returned (.tuple #[.int .u32 (addV a b n c), .agg #[.bool false, .bool (par (addV a b n c)), .bool (zer (addV a b n c)), .bool (hi (addV a b n c) n), .bool false, .bool false]]) ∧ Below w.heap.size w w' := by
  have h := logic_any ((cut a n + cut b n + ↑c.toNat) % 4294967296) n w
  rw [cut_cut32] at h
  exact h
theorem logic_sub (a b n : Int) (c : Bool) (w : World) : Calls Try.prog 17 #[.int .u32 (IntKind.u64.wrap (cut a n - (cut b n + ↑c.toNat)) % 4294967296), .int .i64 n] w fun e w' =>
   e = .returned (.tuple #[.int .u32 (subV a b n c), .agg #[.bool false, .bool (par (subV a b n c)), .bool (zer (subV a b n c)), .bool (hi (subV a b n c) n), .bool false, .bool false]]) ∧ Below w.heap.size w w' := by
  have h := logic_any (IntKind.u64.wrap (cut a n - (cut b n + ↑c.toNat)) % 4294967296) n w
  have e : cut (IntKind.u64.wrap (cut a n - (cut b n + ↑c.toNat)) % 4294967296) n = subV a b n c := by
    rw [cut_cut32, IntKind.wrap_u64, ← cut_cut32, show (cut a n - (cut b n + ↑c.toNat)) % 18446744073709551616 % 4294967296 = (cut a n - cut b n - ↑c.toNat) % 4294967296 by omega, cut_cut32]
    rfl
  rw [e] at h
  exact h
theorem high_add (a b n : Int) (c : Bool) (w : World) : Calls Try.prog 22 #[.int .u32 (bits .and .u32 (bits .xor .u32 (cut a n) (addV a b n c)) (bits .xor .u32 (cut b n) (addV a b n c))), .int .i64 n] w fun e w' => e = .returned (.bool (addO a b n c)) ∧ w = w' := by
  have a0 := cut_lo a n
  have a1 := cut_hi a n
  have b0 := cut_lo b n
  have b1 := cut_hi b n
  have v0 := addV_lo a b n c
  have v1 := addV_hi a b n c
  have h := high_any _ n w (and_lo _ _ (xor_lo _ _ a0 a1 v0 v1) (xor_hi _ _ a0 a1 v0 v1) (xor_lo _ _ b0 b1 v0 v1) (xor_hi _ _ b0 b1 v0 v1)) (and_hi _ _ (xor_lo _ _ a0 a1 v0 v1) (xor_hi _ _ a0 a1 v0 v1) (xor_lo _ _ b0 b1 v0 v1) (xor_hi _ _ b0 b1 v0 v1))
  rw [addO_eq] at h
  exact h
theorem high_sub (a b n : Int) (c : Bool) (w : World) : Calls Try.prog 22 #[.int .u32 (bits .and .u32 (bits .xor .u32 (cut a n) (cut b n)) (bits .xor .u32 (cut a n) (subV a b n c))), .int .i64 n] w fun e w' => e = .returned (.bool (subO a b n c)) ∧ w = w' := by
  have a0 := cut_lo a n
  have a1 := cut_hi a n
  have b0 := cut_lo b n
  have b1 := cut_hi b n
  have v0 := subV_lo a b n c
  have v1 := subV_hi a b n c
  have h := high_any _ n w (and_lo _ _ (xor_lo _ _ a0 a1 b0 b1) (xor_hi _ _ a0 a1 b0 b1) (xor_lo _ _ a0 a1 v0 v1) (xor_hi _ _ a0 a1 v0 v1)) (and_hi _ _ (xor_lo _ _ a0 a1 b0 b1) (xor_hi _ _ a0 a1 b0 b1) (xor_lo _ _ a0 a1 v0 v1) (xor_hi _ _ a0 a1 v0 v1))
  rw [subO_eq] at h
  exact h

end Go.Proofs.Ytceahlpchlepaaa
