/- What the document's own sums (package salternref1) answer, for every input: the same numbers and flags. -/
import Derived.Test.YtceahlpchlepaaaRows
import Derived.Test.YtceahlpchlepaaaPure1
import Derived.ProofKit
import Derived.OpenShut
import Derived.BigRegion
import Derived.Lib.Hide
namespace Go.Proofs.Ytceahlpchlepaaa
open Go.ChangeShapes Go.WideShapes Go.ChangeAt Go.RowKit

theorem rbytes_any (n : Int) (w : World) : Calls Try.prog 24 #[.int .i64 n] w fun e w' => e = .returned (.int .i64 (byt n)) ∧ w = w' := by
  by_cases h : n ≤ 1
  · go_enter Try.func24, Try.ntmps24
    go_wp2
    go_ret
    exact ⟨by rw [byt, if_pos (by omega)]; rfl, rfl⟩
  · by_cases h4 : n ≤ 3
    all_goals
      go_enter Try.func24, Try.ntmps24
      go_wp2
      go_ret
      exact ⟨by rw [byt, if_neg (by omega)]; first | rw [if_pos (by omega)]; rfl | rw [if_neg (by omega)]; rfl, rfl⟩

theorem rtop_any (n : Int) (w : World) : Calls Try.prog 19 #[.int .i64 n] w fun e w' => e = .returned (.int .u32 (tp n)) ∧ w = w' := by
  have hl := byt_lo n
  have hh := byt_hi n
  go_enter Try.func19, Try.ntmps19
  go_wp2_with (go_at_call 24; refine (rbytes_any _ _).mono ?_; rintro e w' ⟨rfl, rfl⟩)
  go_ret
  exact ⟨by rw [← tp_pow]; rfl, rfl⟩

theorem rcut_any (v n : Int) (w : World) (h0 : 0 ≤ v) (h1 : v < 4294967296) : Calls Try.prog 18 #[.int .u32 v, .int .i64 n] w fun e w' => e = .returned (.int .u32 (cut v n)) ∧ w = w' := by
  have hl := tp_lo n
  have hh := tp_hi n
  have hE := Lib.hid (rcut_eq v n h0 h1)
  go_enter Try.func18, Try.ntmps18
  go_wp2_with (go_at_call 19; refine (rtop_any _ _).mono ?_; rintro e w' ⟨rfl, rfl⟩)
  go_ret
  exact ⟨by rw [← hE.out]; rfl, rfl⟩

attribute [local go_sem] signed_u32 max_u32
set_option maxHeartbeats 400000 in
theorem rparity_any (v : Int) (w : World) (h0 : 0 ≤ v) (h1 : v < 4294967296) : Calls Try.prog 20 #[.int .u32 v] w fun e w' => e = .returned (.bool (par v)) ∧ w = w' := by
  have hE := Lib.hid (ones_par v)
  go_enter Try.func20, Try.ntmps20
  go_wp2
  go_loop [3, 4] (fun n i => ∃ k : Nat, k ≤ 8 ∧ i = .int .i64 k ∧ n = .int .i64 (ones v k)) (fun _ i => 8 - (intOf i).toNat)
  case atStart => exact ⟨0, by omega, rfl, rfl⟩
  case round =>
    obtain ⟨k, hk, rfl, rfl⟩ := hrel
    have o0 := ones_lo v k
    have o1 := ones_hi v k
    by_cases hlt : k < 8
    · have b0 := bit_div_lo v k h0 h1
      have b1 := bit_div_hi v k h0 h1
      have hB := Lib.hid (bit_div v k h0 h1)
      go_wp2
      go_round
      case rel => exact ⟨k + 1, by omega, by go_num, by rw [hB.out]; rfl⟩
      case measure => simp [intOf]; omega
    · obtain rfl : k = 8 := by omega
      go_wp2
      go_ret
      exact ⟨by rw [← hE.out]; rfl, rfl⟩

theorem rlogic_any (v n : Int) (w : World) (h0 : 0 ≤ v) (h1 : v < 4294967296) : Calls Try.prog 16 #[.int .u32 v, .int .i64 n] w fun e w' =>
   e = .returned (.tuple #[.int .u32 (cut v n), .agg #[.bool false, .bool (par (cut v n)), .bool (zer (cut v n)), .bool (hi (cut v n) n), .bool false, .bool false]]) ∧ Below w.heap.size w w' := by
  have b0 := cut_lo v n
  have b1 := cut_hi v n
  have hE := tp_ne (cut v n) n b0 b1
  go_enter Try.func16, Try.ntmps16
  go_wp2_with (first | (go_at_call 18; refine (rcut_any _ _ _ (by assumption) (by assumption)).mono ?_; rintro e w' ⟨rfl, rfl⟩) | (go_at_call 19; refine (rtop_any _ _).mono ?_; rintro e w' ⟨rfl, rfl⟩) | (go_at_call 20; refine (rparity_any _ _ (by assumption) (by assumption)).mono ?_; rintro e w' ⟨rfl, rfl⟩))
  refine bodyPost_ret (v := .tuple #[.int .u32 (cut v n), .agg #[.bool false, .bool (par (cut v n)), .bool (zer (cut v n)), .bool (hi (cut v n) n), .bool false, .bool false]]) (by simp [results, Try.results16, go_sem, zer]) rfl ⟨rfl, ?_⟩
  exact (Below.refl _ _).alloc (Nat.le_refl _) _
end Go.Proofs.Ytceahlpchlepaaa
