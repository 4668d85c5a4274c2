/- What Do answers, for every operation, number, count and flags. -/
import Derived.Test.YtceahlpchlepaaaShiftRol
import Derived.Test.YtceahlpchlepaaaShiftRor
import Derived.Test.YtceahlpchlepaaaShiftShl
import Derived.Test.YtceahlpchlepaaaShiftShr
namespace Go.Proofs.Ytceahlpchlepaaa
open Go.ChangeShapes Go.WideShapes Go.ChangeAt Go.RowKit

theorem do_odd (op : Int) (fc fp fz fs fo fd : Bool) (v n : Int) (k : Nat) (hk1 : 1 ≤ k) (hn : bits .and .u32 n 31 = (k : Int)) (e1 : (op == 26) = false) (e2 : (op == 27) = false) (e3 : (op == 28) = false) (e4 : (op == 29) = false) (e5 : (op == 30) = false) (w : World) :
    Calls Try.prog 9 #[.int .i64 op, .agg #[.bool fc, .bool fp, .bool fz, .bool fs, .bool fo, .bool fd], .int .u32 v, .int .u32 n] w fun e w' =>
   e = .returned (.tuple #[.int .u32 v, .agg #[.bool fc, .bool fp, .bool fz, .bool fs, .bool fo, .bool fd]]) ∧ Below w.heap.size w w' := by
  have hk0 : ((k : Int) == 0) = false := by rw [beq_eq_false_iff_ne]; omega
  go_enter Try.func9, Try.ntmps9
  go_wp2
  go_region
  all_goals
    go_wp2
    refine bodyPost_ret (v := .tuple #[.int .u32 v, .agg #[.bool fc, .bool fp, .bool fz, .bool fs, .bool fo, .bool fd]]) (by simp [results, Try.results9, go_sem]) rfl ⟨rfl, ?_⟩
    repeat' (first | (with_reducible exact Below.refl _ _) | (with_reducible refine Below.drew ?_) | (with_reducible refine Below.setCell ?_ ?_ _) | (with_reducible refine Below.alloc ?_ ?_ _) | (simp <;> omega))

theorem do_any (op : Int) (fc fp fz fs fo fd : Bool) (v n : Int) (h0 : 0 ≤ v) (h1 : v < 4294967296) (k0 : 0 ≤ n) (k1 : n < 4294967296) (w : World) :
    Calls Try.prog 9 #[.int .i64 op, .agg #[.bool fc, .bool fp, .bool fz, .bool fs, .bool fo, .bool fd], .int .u32 v, .int .u32 n] w fun e w' =>
   e = .returned (.tuple #[.int .u32 (shV op v (n % 32).toNat), .agg #[.bool (sfC op v (n % 32).toNat fc), .bool (sfP op v (n % 32).toNat fp), .bool (sfZ op v (n % 32).toNat fz), .bool (sfS op v (n % 32).toNat fs), .bool (sfO op v (n % 32).toNat fo), .bool fd]]) ∧ Below w.heap.size w w' := by
  obtain ⟨k, hk⟩ : ∃ k : Nat, (n % 32).toNat = k := ⟨_, rfl⟩
  have hk32 : k < 32 := by omega
  have hn : bits .and .u32 n 31 = (k : Int) := by rw [bits31 n k0 k1]; omega
  rw [hk]
  rcases shift_ways op k with hx | ⟨hx, h1k, ho⟩
  · have e : shV op v k = v ∧ sfC op v k fc = fc ∧ sfP op v k fp = fp ∧ sfZ op v k fz = fz ∧ sfS op v k fs = fs ∧ sfO op v k fo = fo := by
      simp [shV, sfC, sfP, sfZ, sfS, sfO, hx]
    rw [e.1, e.2.1, e.2.2.1, e.2.2.2.1, e.2.2.2.2.1, e.2.2.2.2.2]
    rcases Nat.eq_zero_or_pos k with hk0 | hk0
    · subst hk0
      exact do_none op fc fp fz fs fo fd v n hn w
    · rcases kept_ways op k hx with rfl | ⟨e1, e2, e3, e4, e5⟩
      · omega
      · exact do_odd op fc fp fz fs fo fd v n k hk0 hn e1 e2 e3 e4 e5 w
  · obtain ⟨j, rfl⟩ : ∃ j : Nat, k = j + 1 := ⟨k - 1, by omega⟩
    rcases ho with rfl | rfl | rfl | rfl | rfl
    · have h := do_rol fc fp fz fs fo fd v n (j + 1) h0 h1 h1k hk32 hn w
      simpa [shV, sfC, sfP, sfZ, sfS, sfO, hx, rolC] using h
    · have h := do_ror fc fp fz fs fo fd v n (j + 1) h0 h1 h1k hk32 hn w
      simpa [shV, sfC, sfP, sfZ, sfS, sfO, hx, rorC, bne] using h
    · have h := do_shl fc fp fz fs fo fd v n (j + 1) h0 h1 h1k hk32 hn w
      rw [show 32 - (j + 1) = 31 - j by omega, ← shl_out v j (by omega)] at h
      simpa [shV, sfC, sfP, sfZ, sfS, sfO, hx] using h
    · have h := do_shr fc fp fz fs fo fd v n (j + 1) h0 h1 h1k hk32 hn w
      rw [show (j + 1) - 1 = j by omega, ← shr_out v j] at h
      simpa [shV, sfC, sfP, sfZ, sfS, sfO, hx] using h
    · have h := do_sar fc fp fz fs fo fd v n (j + 1) h0 h1 h1k hk32 hn w
      rw [show (j + 1) - 1 = j by omega, ← sar_out v j (by omega)] at h
      simpa [shV, sfC, sfP, sfZ, sfS, sfO, hx] using h
end Go.Proofs.Ytceahlpchlepaaa
