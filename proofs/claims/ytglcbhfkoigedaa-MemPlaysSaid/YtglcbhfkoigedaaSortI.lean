/- Sorting what is nearly sorted. -/
import Derived.Test.YtglcbhfkoigedaaSortH
namespace Go.Proofs.Ytglcbhfkoigedaa
open Go.ChangeShapes Go.WideShapes Go.ChangeAt Go.RowKit Go.Maps Go.Deep Go.Sort

theorem scanS_go (d : Array Int) (b i : Nat) (h : i < b) (hl : ls d i (i - 1) = false) : scanSorted ltInt d b i = scanSorted ltInt d b (i + 1) := by
  rw [scanSorted.eq_def, if_pos]
  simp only [Bool.and_eq_true, decide_eq_true_eq]
  exact ⟨h, by rw [show ltInt d[i]! d[i - 1]! = false from hl]; rfl⟩
theorem scanS_stop (d : Array Int) (b i : Nat) (h : b ≤ i ∨ ls d i (i - 1) = true) : scanSorted ltInt d b i = i := by
  rw [scanSorted.eq_def, if_neg]
  simp only [Bool.and_eq_true, decide_eq_true_eq]
  rintro ⟨h1, h2⟩
  rcases h with h | h
  · omega
  · rw [show ltInt d[i]! d[i - 1]! = true from h] at h2; cases h2
theorem shiftD_go (d : Array Int) (j : Nat) (h : 1 ≤ j) (hl : ls d j (j - 1) = true) : shiftDown ltInt j d = shiftDown ltInt (j - 1) (swp d j (j - 1)) := by
  obtain ⟨k, rfl⟩ : ∃ k, j = k + 1 := ⟨j - 1, by omega⟩
  rw [shiftDown]
  rw [if_neg (by rw [show ltInt d[k + 1]! d[k]! = true from hl]; simp)]
  rfl
theorem shiftD_stop (d : Array Int) (j : Nat) (h : j = 0 ∨ ls d j (j - 1) = false) : shiftDown ltInt j d = d := by
  cases j with
  | zero => rw [shiftDown]
  | succ k =>
    rw [shiftDown]
    rcases h with h | h
    · omega
    · rw [if_pos (by rw [show ltInt d[k + 1]! d[k]! = false from h]; rfl)]
theorem shiftU_go (d : Array Int) (b j : Nat) (h : j < b) (hl : ls d j (j - 1) = true) : shiftUp ltInt b j d = shiftUp ltInt b (j + 1) (swp d j (j - 1)) := by
  rw [shiftUp.eq_def, if_pos h, if_neg (by rw [show ltInt d[j]! d[j - 1]! = true from hl]; simp)]
theorem shiftU_stop (d : Array Int) (b j : Nat) (h : b ≤ j ∨ ls d j (j - 1) = false) : shiftUp ltInt b j d = d := by
  rw [shiftUp.eq_def]
  by_cases h0 : j < b
  · rw [if_pos h0]
    rcases h with h | h
    · omega
    · rw [if_pos (by rw [show ltInt d[j]! d[j - 1]! = false from h]; rfl)]
  · rw [if_neg h0]
theorem shiftD_size : ∀ (j : Nat) (d : Array Int), (shiftDown ltInt j d).size = d.size
  | 0, d => by rw [shiftDown]
  | j + 1, d => by
    rw [shiftDown]
    split
    · rfl
    · rw [shiftD_size j, size_swp]
theorem shiftU_size (b : Nat) : ∀ (k j : Nat) (d : Array Int), b - j ≤ k → (shiftUp ltInt b j d).size = d.size
  | k, j, d, h => by
    rw [shiftUp.eq_def]
    split
    · split
      · rfl
      · match k, h with
        | k + 1, h => rw [shiftU_size b k (j + 1) _ (by omega), size_swp]
        | 0, h => omega
    · rfl
set_option maxRecDepth 100000 in
set_option maxHeartbeats 8000000 in
theorem pins_any (b cap lo hi : Nat) (d : Array Int) (W w : World) (hr : Row W w b d) (h1 : lo < hi) (h2 : hi ≤ d.size) (h3 : d.size < 1152921504606846976) :
    Calls Try.prog 35 #[.slice (some ⟨b, 0, none⟩) d.size cap, .int .i64 lo, .int .i64 hi] w fun e w' => e = .returned (.bool (partialInsertionSort ltInt d lo hi).2) ∧ Row W w' b (partialInsertionSort ltInt d lo hi).1 := by
  obtain ⟨n, hn⟩ : ∃ n, d.size = n := ⟨_, rfl⟩
  rw [hn] at h2 h3 ⊢
  have HR0 := Lib.hid hr
  clear hr
  go_enter Try.func35, Try.ntmps35
  go_wp2_with fail
  go_loopw [7, 8] (fun v7 v8 wr => ∃ (i s : Nat) (k : Nat) (dk : Array Int), v7 = .int .i64 i ∧ v8 = .int .i64 k ∧ k + s = 5 ∧ lo + 1 ≤ i ∧ i ≤ hi ∧ dk.size = n ∧ partialIns ltInt lo hi s i dk = partialInsertionSort ltInt d lo hi ∧ Row W wr b dk) (fun _ v8 _ => (5 - intOf v8).toNat)
  case atStart => exact ⟨lo + 1, 5, 0, d, by simp, rfl, rfl, Nat.le_refl _, by omega, hn, rfl, HR0.out⟩
  case round =>
    obtain ⟨i, s, k, dk, rfl, rfl, hks, hi1, hi2, hsk, hO, hrk⟩ := hrel
    have HO := Lib.hid hO
    have HRk := Lib.hid hrk
    clear hO hrk HR0
    cases s with
    | zero =>
      obtain rfl : k = 5 := by omega
      go_wp2_with fail
      go_ret
      exact ⟨by rw [← HO.out]; rfl, by rw [← HO.out]; exact HRk.out⟩
    | succ s =>
      have d1 : decide ((k : Int) < 5) = true := decide_eq_true (by omega)
      go_upto_block 2 with (fail)
      go_cut [7] (fun s7 wc => ∃ i2 : Nat, s7 = .int .i64 i2 ∧ i ≤ i2 ∧ i2 ≤ hi ∧ i2 = scanSorted ltInt dk hi i ∧ Row W wc b dk)
      case first =>
        go_wp2_with fail
        go_loopw [7] (fun sv ws => ∃ i3 : Nat, sv = .int .i64 i3 ∧ i ≤ i3 ∧ i3 ≤ hi ∧ scanSorted ltInt dk hi i3 = scanSorted ltInt dk hi i ∧ Row W ws b dk) (fun v _ => hi - (intOf v).toNat)
        case atStart => exact ⟨i, rfl, Nat.le_refl _, hi2, rfl, HRk.out⟩
        case round =>
          obtain ⟨i3, rfl, y1, y2, hS, hrs⟩ := hrel
          have HS := Lib.hid hS
          have HRs := Lib.hid hrs
          clear hS hrs
          by_cases hc : i3 < hi
          · have d3 : decide ((i3 : Int) < (hi : Int)) = true := decide_eq_true (by omega)
            have j0 : (0 : Int) ≤ (i3 : Int) := by omega
            have j1 : (i3 : Int) < (n : Int) := by omega
            have w1 : IntKind.i64.wrap ((i3 : Int) - 1) = ((i3 - 1 : Nat) : Int) := by rw [IntKind.wrap_i64]; omega
            have j2 : (0 : Int) ≤ ((i3 - 1 : Nat) : Int) := by omega
            have j3 : ((i3 - 1 : Nat) : Int) < (n : Int) := by omega
            have k0 := HRs.out.cell i3 (by omega)
            have k1 := HRs.out.cell (i3 - 1) (by omega)
            go_wp2_with fail
            go_quiet (first | (go_at_call 36; refine Calls.quiet_of_same (less_any _ _ _)))
            have hr2 := HRs.out.draws nq
            generalize wr.drewN nq = w5 at *
            clear k0 k1 HRs
            go_wp2_with fail
            · have h0 : (!decide (gt dk i3 < gt dk (i3 - 1))) = true := by assumption
              have hl : ls dk i3 (i3 - 1) = false := decide_eq_false (Int.not_lt.2 (by simpa using h0))
              go_roundw
              case rel => exact ⟨i3 + 1, by simp, by omega, by omega, by rw [← HS.out, scanS_go _ _ _ hc hl], hr2⟩
              case measure => simp [intOf]; omega
            · have h0 : (!decide (gt dk i3 < gt dk (i3 - 1))) = false := by assumption
              have hl : ls dk i3 (i3 - 1) = true := decide_eq_true (by simpa using h0)
              go_meet
              exact ⟨i3, rfl, y1, y2, by rw [← HS.out, scanS_stop _ _ _ (.inr hl)], hr2⟩
          · have d3 : decide ((i3 : Int) < (hi : Int)) = false := decide_eq_false (by omega)
            go_wp2_with fail
            go_quiet (first | (go_at_call 36; refine Calls.quiet_of_same (less_any _ _ _)))
            have hr2 := HRs.out.draws nq
            generalize wr.drewN nq = w5 at *
            clear HRs
            go_wp2_with fail
            go_meet
            exact ⟨i3, rfl, y1, y2, by rw [← HS.out, scanS_stop _ _ _ (.inl (by omega))], hr2⟩
      case rest =>
      obtain ⟨i2, rfl, x1, x2, hI, hrs⟩ := hcut
      have hstep : partialIns ltInt lo hi (s + 1) i dk = if i2 = hi then (dk, true) else if hi - lo < 50 then (dk, false) else partialIns ltInt lo hi s i2 (if hi - i2 ≥ 2 then shiftUp ltInt hi (i2 + 1) (if i2 - lo ≥ 2 then shiftDown ltInt (i2 - 1) (swp dk i2 (i2 - 1)) else swp dk i2 (i2 - 1)) else (if i2 - lo ≥ 2 then shiftDown ltInt (i2 - 1) (swp dk i2 (i2 - 1)) else swp dk i2 (i2 - 1))) := by rw [hI]; rfl
      rw [HO.out] at hstep
      have HRs := Lib.hid hrs
      clear hI hrs HO
      by_cases hih : i2 = hi
      · rw [if_pos hih] at hstep
        have HST := Lib.hid hstep
        subst hih
        clear hstep
        go_wp2_with fail
        go_ret
        exact ⟨by rw [HST.out]; rfl, by rw [HST.out]; exact HRs.out⟩
      · rw [if_neg hih] at hstep
        have d2 : decide ((i2 : Int) = (hi : Int)) = false := decide_eq_false (by omega)
        have d2' : ((i2 : Int) == (hi : Int)) = false := by rw [beq_eq_false_iff_ne]; omega
        have ew : IntKind.i64.wrap ((hi : Int) - (lo : Int)) = ((hi - lo : Nat) : Int) := by rw [IntKind.wrap_i64]; omega
        by_cases h50 : hi - lo < 50
        · rw [if_pos h50] at hstep
          have HST := Lib.hid hstep
          have d4 : decide (((hi - lo : Nat) : Int) < 50) = true := decide_eq_true (by omega)
          clear hstep
          go_wp2_with fail
          go_ret
          exact ⟨by rw [HST.out]; rfl, by rw [HST.out]; exact HRs.out⟩
        · rw [if_neg h50] at hstep
          have d4 : decide (((hi - lo : Nat) : Int) < 50) = false := decide_eq_false (by omega)
          obtain ⟨SD, hSD⟩ : ∃ SD, SD = if i2 - lo ≥ 2 then shiftDown ltInt (i2 - 1) (swp dk i2 (i2 - 1)) else swp dk i2 (i2 - 1) := ⟨_, rfl⟩
          rw [← hSD] at hstep
          obtain ⟨SU, hSU⟩ : ∃ SU, SU = if hi - i2 ≥ 2 then shiftUp ltInt hi (i2 + 1) SD else SD := ⟨_, rfl⟩
          rw [← hSU] at hstep
          have hzz : (swp dk i2 (i2 - 1)).size = n := by rw [size_swp]; exact hsk
          have hzd : SD.size = n := by rw [hSD]; split; rw [shiftD_size]; exact hzz; exact hzz
          have hzu : SU.size = n := by rw [hSU]; split; rw [shiftU_size hi _ _ _ (Nat.le_refl _)]; exact hzd; exact hzd
          have hSD1 : 2 ≤ i2 - lo → SD = shiftDown ltInt (i2 - 1) (swp dk i2 (i2 - 1)) := fun h => by rw [hSD, if_pos h]
          have hSD2 : ¬ (2 ≤ i2 - lo) → SD = swp dk i2 (i2 - 1) := fun h => by rw [hSD, if_neg h]
          have hSU1 : 2 ≤ hi - i2 → SU = shiftUp ltInt hi (i2 + 1) SD := fun h => by rw [hSU, if_pos h]
          have hSU2 : ¬ (2 ≤ hi - i2) → SU = SD := fun h => by rw [hSU, if_neg h]
          have XSD1 := Lib.hid hSD1
          have XSD2 := Lib.hid hSD2
          have XSU1 := Lib.hid hSU1
          have XSU2 := Lib.hid hSU2
          have HST := Lib.hid hstep
          have HZ0 := Lib.hid hzz
          have HZD := Lib.hid hzd
          have HZU := Lib.hid hzu
          clear hSD hSU hSD1 hSD2 hSU1 hSU2 hstep hzz hzd hzu
          have j0 : (0 : Int) ≤ (i2 : Int) := by omega
          have j1 : (i2 : Int) < (n : Int) := by omega
          have w1 : IntKind.i64.wrap ((i2 : Int) - 1) = ((i2 - 1 : Nat) : Int) := by rw [IntKind.wrap_i64]; omega
          have j2 : (0 : Int) ≤ ((i2 - 1 : Nat) : Int) := by omega
          have j3 : ((i2 - 1 : Nat) : Int) < (n : Int) := by omega
          have k0 := HRs.out.cell i2 (by omega)
          have k1 := HRs.out.cell (i2 - 1) (by omega)
          have f0 := HRs.out.fro i2
          have f1 := HRs.out.fro (i2 - 1)
          have hne : ¬ (i2 = i2 - 1) := by omega
          have hne2 : ¬ (i2 - 1 = i2) := by omega
          have HS := Lib.hid (HRs.out.drew.swap i2 (i2 - 1) (by omega) (by omega))
          have ew2 : IntKind.i64.wrap ((i2 : Int) - (lo : Int)) = ((i2 - lo : Nat) : Int) := by rw [IntKind.wrap_i64]; omega
          have ew3 : IntKind.i64.wrap ((hi : Int) - (i2 : Int)) = ((hi - i2 : Nat) : Int) := by rw [IntKind.wrap_i64]; omega
          go_wp2_with fail
          go_region
          go_upto_if 61 with (fail)
          clear k0 k1 f0 f1 HRs
          have HZ := HZ0
          go_cut [9] (fun _ wc => Row W wc b SD)
          case first =>
            by_cases hif : 2 ≤ i2 - lo
            · have d2 : decide ((2 : Int) ≤ ((i2 - lo : Nat) : Int)) = true := decide_eq_true (by omega)
              go_wp2_with fail
              go_loopw [9] (fun sv ws => ∃ (j : Nat) (dj : Array Int), sv = .int .i64 j ∧ j < n ∧ dj.size = n ∧ shiftDown ltInt j dj = shiftDown ltInt (i2 - 1) (swp dk i2 (i2 - 1)) ∧ Row W ws b dj) (fun v _ => (intOf v).toNat)
              case atStart => exact ⟨(i2 - 1), (swp dk i2 (i2 - 1)), by first | rfl | simp, by omega, HZ.out, rfl, HS.out⟩
              case round =>
                obtain ⟨j, dj, rfl, hj, hsj, hL, hrj⟩ := hrel
                have HL := Lib.hid hL
                have HRj := Lib.hid hrj
                clear hL hrj
                by_cases hc : 1 ≤ j
                · have d3 : decide ((1 : Int) ≤ (j : Int)) = true := decide_eq_true (by omega)
                  have j0 : (0 : Int) ≤ (j : Int) := by omega
                  have j1 : (j : Int) < (n : Int) := by omega
                  have w1 : IntKind.i64.wrap ((j : Int) - 1) = ((j - 1 : Nat) : Int) := by rw [IntKind.wrap_i64]; omega
                  have j2 : (0 : Int) ≤ ((j - 1 : Nat) : Int) := by omega
                  have j3 : ((j - 1 : Nat) : Int) < (n : Int) := by omega
                  have k0 := HRj.out.cell j (by omega)
                  have k1 := HRj.out.cell (j - 1) (by omega)
                  go_wp2_with fail
                  go_quiet (first | (go_at_call 36; refine Calls.quiet_of_same (less_any _ _ _)))
                  have hr2 := HRj.out.draws nq
                  generalize wr.drewN nq = w5 at *
                  clear k0 k1 HRj
                  have k0 := hr2.cell j (by omega)
                  have k1 := hr2.cell (j - 1) (by omega)
                  have f0 := hr2.fro j
                  have f1 := hr2.fro (j - 1)
                  have HR2 := Lib.hid hr2
                  clear hr2
                  go_wp2_with fail
                  · have h0 : (!decide (gt dj j < gt dj (j - 1))) = true := by assumption
                    have hl : ls dj j (j - 1) = false := decide_eq_false (Int.not_lt.2 (by simpa using h0))
                    go_meet
                    have e := HL.out
                    rw [shiftD_stop _ _ (.inr hl)] at e
                    rw [XSD1.out hif, ← e]
                    exact HR2.out
                  · have h0 : (!decide (gt dj j < gt dj (j - 1))) = false := by assumption
                    have hl : ls dj j (j - 1) = true := decide_eq_true (by simpa using h0)
                    have hne : ¬ (j = j - 1) := by omega
                    have hne2 : ¬ (j - 1 = j) := by omega
                    go_region
                    all_goals go_wp2_with fail
                    go_roundw
                    case rel => exact ⟨j - 1, swp dj j (j - 1), by first | rfl | simp, by omega, by rw [size_swp]; exact hsj, by rw [← HL.out, shiftD_go _ _ hc hl], HR2.out.drew.swap j (j - 1) (by omega) (by omega)⟩
                    case measure => simp [intOf]; omega
                · have d3 : decide ((1 : Int) ≤ (j : Int)) = false := decide_eq_false (by omega)
                  go_wp2_with fail
                  go_meet
                  have e := HL.out
                  rw [shiftD_stop _ _ (.inl (by omega))] at e
                  rw [XSD1.out hif, ← e]
                  exact HRj.out
            · have d2 : decide ((2 : Int) ≤ ((i2 - lo : Nat) : Int)) = false := decide_eq_false (by omega)
              go_wp2_with fail
              go_meet
              rw [XSD2.out hif]
              exact HS.out
          case rest =>
          have HS := Lib.hid hcut
          have HZ := HZD
          clear hcut
          by_cases hif : 2 ≤ hi - i2
          · have d2 : decide ((2 : Int) ≤ ((hi - i2 : Nat) : Int)) = true := decide_eq_true (by omega)
            go_wp2_with fail
            go_loopw [10] (fun sv ws => ∃ (j : Nat) (dj : Array Int), sv = .int .i64 j ∧ (i2 + 1 ≤ j ∧ j ≤ hi) ∧ dj.size = n ∧ shiftUp ltInt hi j dj = shiftUp ltInt hi (i2 + 1) SD ∧ Row W ws b dj) (fun v _ => hi - (intOf v).toNat)
            case atStart => exact ⟨(i2 + 1), SD, by first | rfl | simp, by omega, HZ.out, rfl, HS.out⟩
            case round =>
              obtain ⟨j, dj, rfl, hj, hsj, hL, hrj⟩ := hrel
              have HL := Lib.hid hL
              have HRj := Lib.hid hrj
              clear hL hrj
              by_cases hc : j < hi
              · have d3 : decide ((j : Int) < (hi : Int)) = true := decide_eq_true (by omega)
                have j0 : (0 : Int) ≤ (j : Int) := by omega
                have j1 : (j : Int) < (n : Int) := by omega
                have w1 : IntKind.i64.wrap ((j : Int) - 1) = ((j - 1 : Nat) : Int) := by rw [IntKind.wrap_i64]; omega
                have j2 : (0 : Int) ≤ ((j - 1 : Nat) : Int) := by omega
                have j3 : ((j - 1 : Nat) : Int) < (n : Int) := by omega
                have k0 := HRj.out.cell j (by omega)
                have k1 := HRj.out.cell (j - 1) (by omega)
                go_wp2_with fail
                go_quiet (first | (go_at_call 36; refine Calls.quiet_of_same (less_any _ _ _)))
                have hr2 := HRj.out.draws nq
                generalize wr.drewN nq = w5 at *
                clear k0 k1 HRj
                have k0 := hr2.cell j (by omega)
                have k1 := hr2.cell (j - 1) (by omega)
                have f0 := hr2.fro j
                have f1 := hr2.fro (j - 1)
                have HR2 := Lib.hid hr2
                clear hr2
                go_wp2_with fail
                · have h0 : (!decide (gt dj j < gt dj (j - 1))) = true := by assumption
                  have hl : ls dj j (j - 1) = false := decide_eq_false (Int.not_lt.2 (by simpa using h0))
                  have e := HL.out
                  rw [shiftU_stop _ _ _ (.inr hl)] at e
                  have HF := Lib.hid (show Row W _ b SU by rw [XSU1.out hif, ← e]; exact HR2.out)
                  go_roundw
                  case rel => exact ⟨i2, s, k + 1, SU, rfl, by simp, by omega, by omega, by omega, HZU.out, HST.out.symm, HF.out⟩
                  case measure => simp [intOf]; omega
                · have h0 : (!decide (gt dj j < gt dj (j - 1))) = false := by assumption
                  have hl : ls dj j (j - 1) = true := decide_eq_true (by simpa using h0)
                  have hne : ¬ (j = j - 1) := by omega
                  have hne2 : ¬ (j - 1 = j) := by omega
                  go_region
                  all_goals go_wp2_with fail
                  go_roundw
                  case rel => exact ⟨j + 1, swp dj j (j - 1), by first | rfl | simp, by omega, by rw [size_swp]; exact hsj, by rw [← HL.out, shiftU_go _ _ _ hc hl], HR2.out.drew.swap j (j - 1) (by omega) (by omega)⟩
                  case measure => simp [intOf]; omega
              · have d3 : decide ((j : Int) < (hi : Int)) = false := decide_eq_false (by omega)
                go_wp2_with fail
                have e := HL.out
                rw [shiftU_stop _ _ _ (.inl (by omega))] at e
                have HF := Lib.hid (show Row W _ b SU by rw [XSU1.out hif, ← e]; exact HRj.out)
                go_roundw
                case rel => exact ⟨i2, s, k + 1, SU, rfl, by simp, by omega, by omega, by omega, HZU.out, HST.out.symm, HF.out⟩
                case measure => simp [intOf]; omega
          · have d2 : decide ((2 : Int) ≤ ((hi - i2 : Nat) : Int)) = false := decide_eq_false (by omega)
            go_wp2_with fail
            have HF := Lib.hid (show Row W _ b SU by rw [XSU2.out hif]; exact HS.out)
            go_roundw
            case rel => exact ⟨i2, s, k + 1, SU, rfl, by simp, by omega, by omega, by omega, HZU.out, HST.out.symm, HF.out⟩
            case measure => simp [intOf]; omega
end Go.Proofs.Ytglcbhfkoigedaa
