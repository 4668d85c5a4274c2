/- The landed registers (package regs): Get, Set. -/
import Derived.Test.YtbbegbaaefgikaaLand13
namespace Go.Proofs.Ytbbegbaaefgikaa
set_option maxRecDepth 100000
open Go.ChangeShapes Go.WideShapes Go.ChangeAt Go.RowKit

theorem shr_at (j : Nat) (hj : j < 8) (x : Int) : x / (if (j : Int) < 4 then 1 else 256) = x / 2 ^ (if j < 4 then 0 else 8) := by
  by_cases h : j < 4
  · rw [if_pos h, if_pos (by omega)]; rfl
  · rw [if_neg h, if_neg (by omega)]; rfl
set_option maxRecDepth 100000 in
set_option maxHeartbeats 8000000 in
theorem get_any : GetC 19 := by
  intro s o hs d0 d1 w
  obtain ⟨k, r, b, i, c, d⟩ := o
  dsimp only at d0 d1
  have HS := Lib.hid hs
  clear hs
  obtain ⟨B, hB⟩ : ∃ B, decide (0 ≤ r ∧ r ≤ 7) = B := ⟨_, rfl⟩
  have HIN := Lib.hid (there_is hB)
  obtain ⟨G, hG⟩ : ∃ G, getG s ⟨k, r, b, i, c, d⟩ = G := ⟨_, rfl⟩
  rw [hG]
  have HG := Lib.hid (show (if 0 ≤ r ∧ r ≤ 7 then (if k = 4 then d else if 0 ≤ r ∧ r ≤ 7 then (if k = 1 then s.r r.toNat else if k = 2 then s.r (r % 4).toNat / (if r < 4 then 1 else 256) % 256 else if k = 5 then s.x r.toNat else 0) else 0) else 0) = G from hG)
  have HB := Lib.hid hB
  clear hB hG
  unfold staV opV
  go_enter Try.func19, Try.ntmps19
  go_upto_region 1 with fail
  obtain ⟨W, hW⟩ : ∃ W, W = (w.alloc (.cells (staL s).toArray 29)).alloc (.cells #[.int .i64 k, .int .i64 r, .int .i64 b, .int .i64 i, .int .i64 c, .int .u32 d] 32) := ⟨_, rfl⟩
  rw [← hW]
  obtain ⟨hS, hO, hbel⟩ := heap_two hW
  have HBEL := Lib.hid hbel
  have k0 : W.cell? ⟨w.heap.size + 1, 0, none⟩ = some (.int .i64 k) := (cell_block hO 0).1
  have k1 : W.cell? ⟨w.heap.size + 1, 1, none⟩ = some (.int .i64 r) := (cell_block hO 1).1
  have k5 : W.cell? ⟨w.heap.size + 1, 5, none⟩ = some (.int .u32 d) := (cell_block hO 5).1
  have HST := Lib.hid hS
  clear hW hS hO hbel
  go_wp2_with fail
  ((with_reducible refine (HIN.out _).mono ?_); rintro e w' ⟨rfl, rfl⟩)
  cases B with
  | false =>
    have HV := Lib.hid (show G = 0 by rw [← HG.out]; exact if_neg (of_decide_eq_false HB.out))
    go_wp2_with fail
    go_ret
    exact ⟨by rw [HV.out]; rfl, HBEL.out⟩
  | true =>
    have hr := of_decide_eq_true HB.out
    obtain ⟨j, rfl⟩ := Int.eq_ofNat_of_zero_le hr.1
    have hj : j < 8 := by omega
    have HG := Lib.hid ((if_pos hr).symm.trans HG.out)
    have hj8 : (j : Int) < 8 := by omega
    by_cases h4 : k = 4
    · subst h4
      have HV := Lib.hid (show G = d by rw [← HG.out, if_pos rfl])
      clear hr
      go_wp2_with fail
      go_ret
      exact ⟨by rw [HV.out]; rfl, HBEL.out⟩
    have e4 : (k == 4) = false := by simpa using h4
    have HG := Lib.hid ((if_neg h4).symm.trans HG.out)
    have HG := Lib.hid ((if_pos hr).symm.trans HG.out)
    clear hr h4
    by_cases h1 : k = 1
    · subst h1
      have hc : W.cell? ⟨w.heap.size, j, none⟩ = some (.int .u32 (s.r j)) := (cell_block HST.out j).1.trans (by simpa using sta_r s j hj)
      have HV := Lib.hid (show G = s.r j by rw [← HG.out, if_pos rfl]; rfl)
      have hb := HS.out.r j hj
      obtain ⟨v, hv⟩ : ∃ v, s.r j = v := ⟨_, rfl⟩
      rw [hv] at hc hb HV
      obtain ⟨b0, b1⟩ := hb
      clear hv
      go_wp2_with fail
      go_ret
      exact ⟨by rw [HV.out]; rfl, HBEL.out⟩
    have e1 : (k == 1) = false := by simpa using h1
    by_cases h2 : k = 2
    · subst h2
      have HH := Lib.hid (fun u => home_any j hj u)
      obtain ⟨m, hm⟩ : ∃ m, j % 4 = m := ⟨_, rfl⟩
      have m4 : m < 8 := by omega
      have m8 : (m : Int) < 8 := by omega
      have hc : W.cell? ⟨w.heap.size, m, none⟩ = some (.int .u32 (s.r m)) := (cell_block HST.out m).1.trans (by simpa using sta_r s m m4)
      have HG := Lib.hid ((if_neg h1).symm.trans HG.out)
      have HG := Lib.hid ((if_pos rfl).symm.trans HG.out)
      rw [hm] at HH
      rw [show ((j : Int) % 4).toNat = m by omega] at HG
      obtain ⟨v, hv⟩ : ∃ v, s.r m = v := ⟨_, rfl⟩
      have hb := HS.out.r m m4
      rw [hv] at hc hb HG
      obtain ⟨b0, b1⟩ := hb
      clear hv hm h1 hj8
      by_cases hlo : j < 4
      · rw [if_pos hlo] at HH
        rw [if_pos (show (j : Int) < 4 by omega), Int.ediv_one] at HG
        have HC := Lib.hid (fun u => cut_any v 1 u)
        rw [show cut v 1 = G from HG.out] at HC
        have g0 : 0 ≤ G := by rw [← HG.out]; omega
        have g1 : G < 256 := by rw [← HG.out]; omega
        clear hlo
        go_wp2_with fail
        ((with_reducible refine (HH.out _).mono ?_); rintro e w' ⟨rfl, rfl⟩)
        go_wp2_with (go_at_call 34; refine (HC.out _).mono ?_; rintro e w' ⟨rfl, rfl⟩)
        go_ret
        exact ⟨rfl, HBEL.out⟩
      · rw [if_neg hlo] at HH
        rw [if_neg (show ¬ (j : Int) < 4 by omega)] at HG
        have HC := Lib.hid (fun u => cut_any (v / 256) 1 u)
        rw [show cut (v / 256) 1 = G from HG.out] at HC
        have g0 : 0 ≤ G := by rw [← HG.out]; omega
        have g1 : G < 256 := by rw [← HG.out]; omega
        clear hlo
        go_wp2_with fail
        ((with_reducible refine (HH.out _).mono ?_); rintro e w' ⟨rfl, rfl⟩)
        go_wp2_with (go_at_call 34; refine (HC.out _).mono ?_; rintro e w' ⟨rfl, rfl⟩)
        go_ret
        exact ⟨rfl, HBEL.out⟩
    have e2 : (k == 2) = false := by simpa using h2
    by_cases h5 : k = 5
    · subst h5
      have hc : W.cell? ⟨w.heap.size, 15 + j, none⟩ = some (.int .u64 (s.x j)) := (cell_block HST.out (15 + j)).1.trans (by simpa using sta_x s j hj)
      have HV := Lib.hid (show G = s.x j by rw [← HG.out, if_neg h1, if_neg h2, if_pos rfl]; rfl)
      clear h1 h2
      go_wp2_with fail
      go_ret
      exact ⟨by rw [HV.out]; rfl, HBEL.out⟩
    have e5 : (k == 5) = false := by simpa using h5
    have HV := Lib.hid (show G = 0 by rw [← HG.out, if_neg h1, if_neg h2, if_neg h5])
    clear h1 h2 h5
    go_wp2_with fail
    go_ret
    exact ⟨by rw [HV.out]; rfl, HBEL.out⟩
end Go.Proofs.Ytbbegbaaefgikaa
