/- Parting a row by a pivot, where none is less than it. -/
import Derived.Test.YtglcbhfkoigedaaSortF
import Derived.Deep.CutBlock
namespace Go.Proofs.Ytglcbhfkoigedaa
open Go.ChangeShapes Go.WideShapes Go.ChangeAt Go.RowKit Go.Maps Go.Deep Go.Sort

set_option maxRecDepth 100000 in
set_option maxHeartbeats 4000000 in
theorem parteq_any (b cap lo hi pv : Nat) (d : Array Int) (W w : World) (hr : Row W w b d) (h1 : lo ≤ pv) (h1' : pv < hi) (h2 : hi ≤ d.size) (h3 : d.size < 1152921504606846976) (hP : ∀ t, lo ≤ t → t < hi → gt d pv ≤ gt d t) :
    Calls Try.prog 37 #[.slice (some ⟨b, 0, none⟩) d.size cap, .int .i64 lo, .int .i64 hi, .int .i64 pv] w fun e w' => ∃ (mid : Nat) (d' : Array Int), e = .returned (.int .i64 mid) ∧ lo < mid ∧ mid ≤ hi ∧ PermIn lo hi d d' ∧ (∀ t, lo ≤ t → t < mid → gt d' t ≤ gt d pv) ∧ (∀ t, mid ≤ t → t < hi → gt d pv < gt d' t) ∧ Row W w' b d' := by
  obtain ⟨n, hn⟩ : ∃ n, d.size = n := ⟨_, rfl⟩
  rw [hn] at h2 h3 ⊢
  obtain ⟨P, hPv⟩ : ∃ P, gt d pv = P := ⟨_, rfl⟩
  have e1 : IntKind.i64.wrap ((hi : Int) - 1) = ((hi - 1 : Nat) : Int) := by rw [IntKind.wrap_i64]; omega
  have i0 : (0 : Int) ≤ (lo : Int) := by omega
  have i1 : (lo : Int) < (n : Int) := by omega
  have i2 : (0 : Int) ≤ (pv : Int) := by omega
  have i3 : (pv : Int) < (n : Int) := by omega
  have c0 := hr.cell lo (by omega)
  have c1 := hr.cell pv (by omega)
  have f0 := hr.fro lo
  have f1 := hr.fro pv
  have HSW := Lib.hid (hr.drew.swap lo pv (by omega) (by omega))
  have HPV := Lib.hid hPv
  have HP := Lib.hid hP
  clear hr hP hPv
  go_enter Try.func37, Try.ntmps37
  go_upto_region 1 with (fail)
  go_cut [8] (fun s8 wc => s8 = .int .i64 0 ∧ Row W wc b (swp d lo pv))
  case first =>
    by_cases hlp : pv = lo
    · subst hlp
      go_region
      go_wp2_with fail
      go_meet
      exact ⟨rfl, HSW.out⟩
    · have hlp' : ¬ (lo = pv) := by omega
      go_region
      go_wp2_with fail
      go_meet
      exact ⟨rfl, HSW.out⟩
  case rest =>
  obtain ⟨rfl, hrw⟩ := hcut
  have hsz : (swp d lo pv).size = n := by rw [size_swp]; exact hn
  have hpm : PermIn lo hi d (swp d lo pv) := swp_permIn _ _ _ _ _ (by omega) (by omega) h1 h1' (by omega)
  have hlo : gt (swp d lo pv) lo = P := by
    rw [gt_swp _ _ _ _ (by omega) (by omega)]
    by_cases e : lo = pv
    · rw [if_pos e, e]; exact HPV.out
    · rw [if_neg e, if_pos rfl]; exact HPV.out
  have HRW := Lib.hid hrw
  have HPM := Lib.hid hpm
  have HLO0 := Lib.hid hlo
  clear c0 c1 f0 f1 HSW hrw hpm hlo HP
  generalize swp d lo pv = d1 at *
  go_wp2_with fail
  go_loopw [9, 10] (fun v9 v10 wr => ∃ (i j : Nat) (dk : Array Int), v9 = .int .i64 i ∧ v10 = .int .i64 j ∧ lo + 1 ≤ i ∧ i ≤ j + 1 ∧ j < hi ∧ dk.size = n ∧ PermIn lo hi d dk ∧ gt dk lo = P ∧ (∀ t, lo ≤ t → t < i → gt dk t ≤ P) ∧ (∀ t, j < t → t < hi → P < gt dk t) ∧ Row W wr b dk) (fun v9 v10 _ => (intOf v10 - intOf v9 + 1).toNat)
  case atStart => exact ⟨lo + 1, hi - 1, d1, by simp, rfl, Nat.le_refl _, by omega, by omega, hsz, HPM.out, HLO0.out, fun t t0 t1 => by rw [show t = lo by omega, HLO0.out]; exact Int.le_refl _, fun t t0 t1 => by omega, HRW.out⟩
  case round =>
    obtain ⟨i, j, dk, rfl, rfl, hia, hij, hj, hsk, hpk, hlo, hup, hdn, hrk⟩ := hrel
    have HPK := Lib.hid hpk
    have HLO := Lib.hid hlo
    have HUP := Lib.hid hup
    have HDN := Lib.hid hdn
    have HRk := Lib.hid hrk
    clear hpk hlo hup hdn hrk HRW HPM HLO0 hsz
    go_upto_block 2 with (fail)
    go_cut [9] (fun sv wc => ∃ i2 : Nat, sv = .int .i64 i2 ∧ i ≤ i2 ∧ i2 ≤ j + 1 ∧ (∀ t, lo ≤ t → t < i2 → gt dk t ≤ P) ∧ (i2 ≤ j → P < gt dk i2) ∧ Row W wc b dk)
    case first =>
      go_wp2_with fail
      go_loopw [9] (fun sv ws => ∃ i3 : Nat, sv = .int .i64 i3 ∧ i ≤ i3 ∧ i3 ≤ j + 1 ∧ (∀ t, lo ≤ t → t < i3 → gt dk t ≤ P) ∧ Row W ws b dk) (fun v _ => j + 1 - (intOf v).toNat)
      case atStart => exact ⟨i, rfl, Nat.le_refl _, by omega, HUP.out, HRk.out⟩
      case round =>
        obtain ⟨i3, rfl, y1, y2, hy, hrs⟩ := hrel
        have HY := Lib.hid hy
        have HRs := Lib.hid hrs
        clear hy hrs
        by_cases hc : i3 ≤ j
        · have d1 : decide ((i3 : Int) ≤ (j : Int)) = true := decide_eq_true (by omega)
          have j0 : (0 : Int) ≤ (i3 : Int) := by omega
          have j1 : (i3 : Int) < (n : Int) := by omega
          have k0 := HRs.out.cell lo (by omega)
          have k1 := HRs.out.cell i3 (by omega)
          go_wp2_with fail
          go_quiet (first | (go_at_call 36; refine Calls.quiet_of_same (less_any _ _ _)))
          have hr2 := HRs.out.draws nq
          generalize wr.drewN nq = w5 at *
          clear k0 k1 HRs
          go_wp2_with fail
          · have h0 : (!decide (gt dk lo < gt dk i3)) = true := by assumption
            have hl : ¬ (gt dk lo < gt dk i3) := by simpa using h0
            go_roundw
            case rel => exact ⟨i3 + 1, by simp, by omega, by omega, fun t t0 t1 => by
              by_cases e : t = i3
              · subst e; exact by rw [← HLO.out]; exact Int.not_lt.1 hl
              · exact HY.out t (by omega) (by omega), hr2⟩
            case measure => simp [intOf]; omega
          · have h0 : (!decide (gt dk lo < gt dk i3)) = false := by assumption
            have hl : gt dk lo < gt dk i3 := by simpa using h0
            go_meet
            exact ⟨i3, rfl, by omega, by omega, HY.out, fun _ => by rw [← HLO.out]; exact hl, hr2⟩
        · have d1 : decide ((i3 : Int) ≤ (j : Int)) = false := decide_eq_false (by omega)
          go_wp2_with fail
          go_quiet (first | (go_at_call 36; refine Calls.quiet_of_same (less_any _ _ _)))
          have hr2 := HRs.out.draws nq
          generalize wr.drewN nq = w5 at *
          clear HRs
          go_wp2_with fail
          go_meet
          exact ⟨i3, rfl, by omega, by omega, HY.out, fun h => absurd h hc, hr2⟩
    case rest =>
    obtain ⟨i2, rfl, y1, y2, hy, hno, hrs⟩ := hcut
    have HNO1 := Lib.hid hno
    have HUP2 := Lib.hid hy
    have HRk := Lib.hid hrs
    have z1 := y1
    have z2 := y2
    clear hno hy hrs y1 y2
    go_upto_block 4 with (fail)
    go_cut [10] (fun sv wc => ∃ j2 : Nat, sv = .int .i64 j2 ∧ j2 ≤ j ∧ i2 ≤ j2 + 1 ∧ (∀ t, j2 < t → t < hi → P < gt dk t) ∧ (i2 ≤ j2 → gt dk j2 ≤ P) ∧ Row W wc b dk)
    case first =>
      go_wp2_with fail
      go_loopw [10] (fun sv ws => ∃ j3 : Nat, sv = .int .i64 j3 ∧ j3 ≤ j ∧ i2 ≤ j3 + 1 ∧ (∀ t, j3 < t → t < hi → P < gt dk t) ∧ Row W ws b dk) (fun v _ => (intOf v).toNat)
      case atStart => exact ⟨j, rfl, Nat.le_refl _, by omega, HDN.out, HRk.out⟩
      case round =>
        obtain ⟨j3, rfl, y1, y2, hy, hrs⟩ := hrel
        have HY := Lib.hid hy
        have HRs := Lib.hid hrs
        clear hy hrs
        by_cases hc : i2 ≤ j3
        · have d1 : decide ((i2 : Int) ≤ (j3 : Int)) = true := decide_eq_true (by omega)
          have j0 : (0 : Int) ≤ (j3 : Int) := by omega
          have j1 : (j3 : Int) < (n : Int) := by omega
          have k0 := HRs.out.cell lo (by omega)
          have k1 := HRs.out.cell j3 (by omega)
          have w1 : IntKind.i64.wrap ((j3 : Int) - 1) = ((j3 - 1 : Nat) : Int) := by rw [IntKind.wrap_i64]; omega
          go_wp2_with fail
          go_quiet (first | (go_at_call 36; refine Calls.quiet_of_same (less_any _ _ _)))
          have hr2 := HRs.out.draws nq
          generalize wr.drewN nq = w5 at *
          clear k0 k1 HRs
          go_wp2_with fail
          · have hl : gt dk lo < gt dk j3 := by assumption
            go_roundw
            case rel => exact ⟨j3 - 1, by rfl, by omega, by omega, fun t t0 t1 => by
              by_cases e : t = j3
              · subst e; exact by rw [← HLO.out]; exact hl
              · exact HY.out t (by omega) (by omega), hr2⟩
            case measure => simp [intOf]; omega
          · have hl : ¬ (gt dk lo < gt dk j3) := by first | assumption | (rw [Int.not_lt]; assumption)
            go_meet
            exact ⟨j3, rfl, by omega, by omega, HY.out, fun _ => by rw [← HLO.out]; exact Int.not_lt.1 hl, hr2⟩
        · have d1 : decide ((i2 : Int) ≤ (j3 : Int)) = false := decide_eq_false (by omega)
          go_wp2_with fail
          go_quiet (first | (go_at_call 36; refine Calls.quiet_of_same (less_any _ _ _)))
          have hr2 := HRs.out.draws nq
          generalize wr.drewN nq = w5 at *
          clear HRs
          go_wp2_with fail
          go_meet
          exact ⟨j3, rfl, by omega, by omega, HY.out, fun h => absurd h hc, hr2⟩
    case rest =>
    obtain ⟨j2, rfl, y1, y2, hy, hno, hrs⟩ := hcut
    have HDN2 := Lib.hid hy
    have hno1 := HNO1.out
    by_cases hgo : i2 ≤ j2
    · have hno2 := hno hgo
      have hno1 := hno1 (by omega)
      have hne : i2 ≠ j2 := fun e => by rw [← e] at hno2; omega
      have d1 : decide ((j2 : Int) < (i2 : Int)) = false := decide_eq_false (by omega)
      have a0 : (0 : Int) ≤ (i2 : Int) := by omega
      have a1 : (i2 : Int) < (n : Int) := by omega
      have a2 : (0 : Int) ≤ (j2 : Int) := by omega
      have a3 : (j2 : Int) < (n : Int) := by omega
      have c0 := hrs.cell i2 (by omega)
      have c1 := hrs.cell j2 (by omega)
      have f0 := hrs.fro i2
      have f1 := hrs.fro j2
      have w1 : IntKind.i64.wrap ((j2 : Int) - 1) = ((j2 - 1 : Nat) : Int) := by rw [IntKind.wrap_i64]; omega
      have hne1 : ¬ (i2 = j2) := hne
      have hne2 : ¬ (j2 = i2) := fun e => hne e.symm
      have HSW := Lib.hid (hrs.drew.swap i2 j2 (by omega) (by omega))
      have HA := Lib.hid hno1
      have HB := Lib.hid hno2
      clear hrs hno hy hno1 hno2
      go_wp2_with fail
      go_region
      all_goals go_wp2_with fail
      go_roundw
      case rel => exact ⟨i2 + 1, j2 - 1, swp dk i2 j2, by simp, rfl, by omega, by omega, by omega, by rw [size_swp]; exact hsk, permIn_trans _ _ _ _ _ HPK.out (swp_permIn _ _ _ _ _ (by omega) (by omega) (by omega) (by omega) (by omega)),
        by rw [gt_swp _ _ _ _ (by omega) (by omega), if_neg (by omega), if_neg (by omega)]; exact HLO.out,
        fun t t0 t1 => by
          rw [gt_swp _ _ _ _ (by omega) (by omega)]
          by_cases e : t = j2
          · omega
          · rw [if_neg e]
            by_cases e2 : t = i2
            · rw [if_pos e2]; exact HB.out
            · rw [if_neg e2]; exact HUP2.out t t0 (by omega),
        fun t t0 t1 => by
          rw [gt_swp _ _ _ _ (by omega) (by omega)]
          by_cases e : t = j2
          · rw [if_pos e]; exact HA.out
          · rw [if_neg e]
            by_cases e2 : t = i2
            · omega
            · rw [if_neg e2]; exact HDN2.out t (by omega) t1, HSW.out⟩
      case measure => simp [intOf]; omega
    · have d1 : decide ((j2 : Int) < (i2 : Int)) = true := decide_eq_true (by omega)
      have HRz := Lib.hid hrs
      clear hno hy hrs hno1
      go_wp2_with fail
      go_ret
      exact ⟨i2, dk, rfl, by omega, by omega, HPK.out, fun t t0 t1 => by rw [HPV.out]; exact HUP2.out t t0 t1, fun t t0 t1 => by rw [HPV.out]; exact HDN2.out t (by omega) t1, HRz.out⟩
end Go.Proofs.Ytglcbhfkoigedaa
