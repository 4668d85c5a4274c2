/- What Do answers of Shl, for every number, count and flags. -/
import Derived.Test.YtceahlpchlepaaaShift
import Derived.Deep.RegionWith
namespace Go.Proofs.Ytceahlpchlepaaa
open Go.ChangeShapes Go.WideShapes Go.ChangeAt Go.RowKit
attribute [local go_sem] isSome_setCell
set_option maxHeartbeats 4000000 in
theorem do_shl (fc fp fz fs fo fd : Bool) (v n : Int) (k : Nat) (h0 : 0 ≤ v) (h1 : v < 4294967296) (hk1 : 1 ≤ k) (hk : k < 32) (hn : bits .and .u32 n 31 = (k : Int)) (w : World) :
    Calls Try.prog 9 #[.int .i64 28, .agg #[.bool fc, .bool fp, .bool fz, .bool fs, .bool fo, .bool fd], .int .u32 v, .int .u32 n] w fun e w' =>
   e = .returned (.tuple #[.int .u32 (shlV v k), .agg #[.bool (bt v (32 - k)), .bool (par (shlV v k)), .bool (zer (shlV v k)), .bool (bt (shlV v k) 31), .bool (!(bt (shlV v k) 31 == bt v (32 - k))), .bool fd]]) ∧ Below w.heap.size w w' := by
  have hk0 : ((k : Int) == 0) = false := by rw [beq_eq_false_iff_ne]; omega
  have hE := Lib.hid (show v * 2 ^ k % 4294967296 = shlV v k from rfl)
  have r0 := shl_lo v k
  have r1 := shl_hi v k
  have hkk : (32 - (k : Int)) % 4294967296 = ((32 - k : Nat) : Int) := by omega
  go_enter Try.func9, Try.ntmps9
  go_wp2_with (go_at_call 14; (with_reducible refine (bit_up v k hk1 hk h0 h1 _).mono ?_); rintro e w' ⟨rfl, rfl⟩)
  rw [hE.out]
  go_region_with (first | (go_at_call 14; first | ((with_reducible refine (bit_31 (shlV v k) r0 r1 _).mono ?_); rintro e w' ⟨rfl, rfl⟩)) | (go_at_call 15; (with_reducible refine (moved_any fc fp fz fs fo fd _ _ (shlV v k) r0 r1 _).mono ?_); rintro e w1 ⟨rfl, hb'⟩; have hb := below_undrew hb'; clear hb'; obtain ⟨hc, hf⟩ := bcell hb; have hz : w.heap.size + 1 < w1.heap.size := (by have := hb.size; simp at this; omega); have hy : w.heap.size < w1.heap.size := (by omega)))
  all_goals
    go_wp2
    have hB : Below w.heap.size w w1 := (((Below.refl _ _).alloc (Nat.le_refl _) _).alloc (by simp) _).trans (hb.mono (by simp; omega))
    refine bodyPost_ret (v := .tuple #[.int .u32 (shlV v k), .agg #[.bool (bt v (32 - k)), .bool (par (shlV v k)), .bool (zer (shlV v k)), .bool (bt (shlV v k) 31), .bool (!(bt (shlV v k) 31 == bt v (32 - k))), .bool fd]]) (by simp [results, Try.results9, go_sem, hc]) rfl ⟨rfl, ?_⟩
    repeat' (first | (with_reducible exact hB) | (with_reducible refine Below.drew ?_) | (with_reducible refine Below.setCell ?_ ?_ _) | (with_reducible refine Below.alloc ?_ ?_ _) | (simp <;> omega))
end Go.Proofs.Ytceahlpchlepaaa
