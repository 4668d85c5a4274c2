/- The whole sort of a row of numbers of 32 bits. -/
import Derived.Test.YtglcbhfkoigedaaSortJ
namespace Go.Proofs.Ytglcbhfkoigedaa
open Go.ChangeShapes Go.WideShapes Go.ChangeAt Go.RowKit Go.Maps Go.Deep Go.Sort

set_option maxRecDepth 100000 in
set_option maxHeartbeats 16000000 in
theorem pdq_any (cap b : Nat) : ∀ (N lo hi lim : Nat) (d : Array Int) (W w : World), hi - lo ≤ N → Row W w b d → lo ≤ hi → hi ≤ d.size → d.size < 2147483648 → lim < 2147483648 → BelF lo hi d →
    Calls Try.prog 28 #[.slice (some ⟨b, 0, none⟩) d.size cap, .int .i64 lo, .int .i64 hi, .int .i64 lim] w fun e w' => e = .returned (.tuple #[]) ∧ ∃ d', PermIn lo hi d d' ∧ SortF lo hi d' ∧ Row W w' b d' := by
  intro N
  induction N using Nat.strongRecOn with
  | _ N ih =>
  intro lo hi lim d W w hN hr h1 h2 h3 hlim hbel
  obtain ⟨n, hn⟩ : ∃ n, d.size = n := ⟨_, rfl⟩
  have HL0 := Lib.hid (Left.start h1 h2 hbel)
  have HR0 := Lib.hid hr
  have IH := Lib.hid ih
  have HN := Lib.hid hn
  rw [hn] at h2 h3 ⊢
  clear hr hbel ih hn
  go_enter Try.func28, Try.ntmps28
  go_wp2_with fail
  go_loopw [1, 2, 3, 8, 9] (fun v1 v2 v3 v8 v9 wr => ∃ (a c lm : Nat) (wb wp : Bool) (dk : Array Int), v1 = .int .i64 a ∧ v2 = .int .i64 c ∧ v3 = .int .i64 lm ∧ v8 = .bool wb ∧ v9 = .bool wp ∧ lm < 2147483648 ∧ Left lo hi a c d dk ∧ Row W wr b dk) (fun v1 v2 _ _ _ _ => (intOf v2 - intOf v1).toNat)
  case atStart => exact ⟨lo, hi, lim, true, true, d, rfl, rfl, rfl, rfl, rfl, hlim, HL0.out, HR0.out⟩
  case round =>
    obtain ⟨a, c, lm, wb, wp, dk, rfl, rfl, rfl, rfl, rfl, hlm, hL, hrk⟩ := hrel
    have hla := hL.la
    have hac := hL.ab
    have hch := hL.bh
    have hsk : dk.size = n := by rw [hL.size]; exact HN.out
    have HL := Lib.hid hL
    have HR := Lib.hid hrk
    clear hL hrk HL0 HR0
    obtain ⟨l, hl⟩ : ∃ l, l = c - a := ⟨_, rfl⟩
    have el : IntKind.i64.wrap ((c : Int) - (a : Int)) = (l : Int) := by rw [IntKind.wrap_i64]; omega
    have hal : a + l = c := by omega
    clear hl
    by_cases h12 : l ≤ 12
    · have d1 : decide ((l : Int) ≤ 12) = true := decide_eq_true (by omega)
      have hi_ := ins_any b cap a c dk wr wr HR.out.self hac (by omega) (by omega)
      rw [hsk] at hi_
      have hsp := insertionSort_holds (lt := ltInt) swoI dk a c hac (by omega)
      have HSP := Lib.hid hsp
      clear hsp
      go_wp2_with (go_at_call 30; refine hi_.mono ?_; rintro e w2 ⟨rfl, hr2⟩)
      (try simp only [Exit.inBlock, Exit.then]); refine bodyPost_ret (results_none rfl _ _ _) rfl ?_
      have hf := HL.out.done HSP.out.1 (sortF_of HSP.out.2)
      exact ⟨rfl, _, hf.1, hf.2, HR.out.then_ hr2⟩
    · have d1 : decide ((l : Int) ≤ 12) = false := decide_eq_false (by omega)
      by_cases hl0 : lm = 0
      · subst hl0
        have hi_ := heap_any b cap a c dk wr wr HR.out.self hac (by omega) (by omega)
        rw [hsk] at hi_
        have hsp := heapSort_holds (lt := ltInt) swoI dk a c hac (by omega)
        have HSP := Lib.hid hsp
        clear hsp
        go_wp2_with (go_at_call 31; refine hi_.mono ?_; rintro e w2 ⟨rfl, hr2⟩)
        (try simp only [Exit.inBlock, Exit.then]); refine bodyPost_ret (results_none rfl _ _ _) rfl ?_
        have hf := HL.out.done HSP.out.1 (sortF_of HSP.out.2)
        exact ⟨rfl, _, hf.1, hf.2, HR.out.then_ hr2⟩
      · have d2 : ((lm : Int) == 0) = false := by rw [beq_eq_false_iff_ne]; omega
        have d2' : decide ((lm : Int) = 0) = false := decide_eq_false (by omega)
        go_upto_if 35 with (fail)
        go_cut [3] (fun s3 wc => ∃ (lm2 : Nat) (d1 : Array Int), s3 = .int .i64 lm2 ∧ lm2 < 2147483648 ∧ PermIn a c dk d1 ∧ Row W wc b d1)
        case first =>
          cases wb with
          | false =>
            have hb_ := break_any b cap a c dk wr wr HR.out.self (by omega) (by omega) (by omega)
            rw [hsk] at hb_
            have wl : IntKind.i64.wrap ((lm : Int) - 1) = ((lm - 1 : Nat) : Int) := by rw [IntKind.wrap_i64]; omega
            go_wp2_with (go_at_call 32; refine hb_.mono ?_; rintro e w2 ⟨d2, rfl, hp2, hr2⟩)
            go_meet
            exact ⟨lm - 1, d2, rfl, by omega, hp2, HR.out.then_ hr2⟩
          | true =>
            go_wp2_with fail
            go_meet
            exact ⟨lm, dk, rfl, hlm, permIn_refl _ _ _, HR.out⟩
        case rest =>
        obtain ⟨lm2, d1, rfl, hlm2, hp1, hr1⟩ := hcut
        have hL1 := HL.out.turn hp1
        have hs1 : d1.size = n := by rw [hL1.size]; exact HN.out
        have hpv := pivot_any b cap a c d1 wc wc hr1.self (by omega) (by omega) (by omega)
        rw [hs1] at hpv
        have HL1 := Lib.hid hL1
        have HR1 := Lib.hid hr1
        clear hp1 hL1 hr1 HL HR hsk d2 d2'
        go_upto_if 50 with (go_at_call 33; refine hpv.mono ?_; rintro e w2 ⟨p, h, rfl, hpa, hpb, hr2⟩)
        go_cut [11, 12] (fun s11 s12 wy => ∃ (p2 : Nat) (h2 : Int) (d2 : Array Int), s11 = .int .i64 p2 ∧ s12 = .int .i64 h2 ∧ a ≤ p2 ∧ p2 < c ∧ PermIn a c d1 d2 ∧ Row W wy b d2)
        case first =>
          have hr3 := HR1.out.then_ hr2
          by_cases hh : h = 2
          · subst hh
            have hv := rev_any b cap a c d1 w2 w2 hr3.self (by omega) (by omega) (by omega)
            rw [hs1] at hv
            have HR3 := Lib.hid hr3
            have w1 : IntKind.i64.wrap ((c : Int) - 1) = ((c - 1 : Nat) : Int) := by rw [IntKind.wrap_i64]; omega
            have w3 : IntKind.i64.wrap ((p : Int) - (a : Int)) = ((p - a : Nat) : Int) := by rw [IntKind.wrap_i64]; omega
            have w4 : IntKind.i64.wrap (((c - 1 : Nat) : Int) - ((p - a : Nat) : Int)) = ((c - 1 - (p - a) : Nat) : Int) := by rw [IntKind.wrap_i64]; omega
            clear hr2 hr3
            go_wp2_with (go_at_call 34; refine hv.mono ?_; rintro e w5 ⟨rfl, hr5⟩)
            go_meet
            exact ⟨c - 1 - (p - a), 1, _, rfl, rfl, by omega, by omega, reverseRange_holds d1 a c hac (by omega), HR3.out.then_ hr5⟩
          · have hq : (h == 2) = false := by rw [beq_eq_false_iff_ne]; exact hh
            have HR3 := Lib.hid hr3
            clear hr2 hr3
            go_wp2_with fail
            go_meet
            exact ⟨p, h, d1, rfl, rfl, hpa, hpb, permIn_refl _ _ _, HR3.out⟩
        case rest =>
        clear hpa hpb hr2 hs1
        obtain ⟨p2, h2, d2, rfl, rfl, hpa, hpb, hp2, hr2⟩ := hcut
        have hL2 := HL1.out.turn hp2
        have hs2 : d2.size = n := by rw [hL2.size]; exact HN.out
        have HL2 := Lib.hid hL2
        have HR2 := Lib.hid hr2
        clear hp2 hL2 hr2 HL1 HR1
        go_upto_region 15 with (fail)
        go_cut [68] (fun s68 wy => ∃ q : Bool, s68 = .bool q ∧ Row W wy b d2)
        case first =>
          by_cases hh : h2 = 1
          · subst hh
            cases wb <;> cases wp <;> (go_wp2_with fail; go_meet; exact ⟨_, rfl, HR2.out⟩)
          · have hq : (h2 == 1) = false := by rw [beq_eq_false_iff_ne]; exact hh
            cases wb <;> cases wp <;> (go_wp2_with fail; go_meet; exact ⟨_, rfl, HR2.out⟩)
        case rest =>
        obtain ⟨q, rfl, hr2⟩ := hcut
        clear HR2
        have HR2 := Lib.hid hr2
        clear hr2
        go_upto_if 68 with (fail)
        go_cut [72] (fun _ wy => ∃ d3, PermIn a c d2 d3 ∧ Row W wy b d3)
        case first =>
          cases q with
          | false =>
            go_wp2_with fail
            go_meet
            exact ⟨d2, permIn_refl _ _ _, HR2.out⟩
          | true =>
            have hpi := pins_any b cap a c d2 _ _ HR2.out.self (by omega) (by omega) (by omega)
            have hph := partialInsertionSort_holds (lt := ltInt) swoI d2 a c (by omega) (by omega) (belF_to HL2.out.bel)
            rw [hs2] at hpi
            obtain ⟨r, hr⟩ : ∃ r, (partialInsertionSort ltInt d2 a c).2 = r := ⟨_, rfl⟩
            rw [hr] at hpi hph
            have HPH := Lib.hid hph
            clear hph hr
            cases r with
            | true =>
              go_wp2_with (go_at_call 35; refine hpi.mono ?_; rintro e w5 ⟨rfl, hr5⟩)
              (try simp only [Exit.inBlock, Exit.then]); refine bodyPost_ret (results_none rfl _ _ _) rfl ?_
              have hf := HL2.out.done HPH.out.1 (sortF_of (HPH.out.2 trivial))
              exact ⟨rfl, _, hf.1, hf.2, HR2.out.then_ hr5⟩
            | false =>
              go_wp2_with (go_at_call 35; refine hpi.mono ?_; rintro e w5 ⟨rfl, hr5⟩)
              go_meet
              exact ⟨_, HPH.out.1, HR2.out.then_ hr5⟩
        case rest =>
        obtain ⟨d3, hp3, hr3⟩ := hcut
        have hL3 := HL2.out.turn hp3
        have hs3 : d3.size = n := by rw [hL3.size]; exact HN.out
        have HL3 := Lib.hid hL3
        have HR3 := Lib.hid hr3
        clear hp3 hL3 hr3 HL2 HR2 hs2
        go_upto_region 17 with (fail)
        go_cut [87] (fun s87 wy => ∃ q : Bool, s87 = .bool q ∧ (q = true → 0 < a ∧ gt d3 p2 ≤ gt d3 (a - 1)) ∧ Row W wy b d3)
        case first =>
          by_cases ha : a = 0
          · have d0 : decide ((0 : Int) < (a : Int)) = false := decide_eq_false (by omega)
            have d0' : decide (0 < a) = false := decide_eq_false (by omega)
            go_quiet (first | (go_at_call 36; refine Calls.quiet_of_same (less_any _ _ _)))
            go_wp2_with fail
            go_meet
            exact ⟨false, rfl, fun h => (by cases h), HR3.out.draws _⟩
          · have d0 : decide ((0 : Int) < (a : Int)) = true := decide_eq_true (by omega)
            have d0' : decide (0 < a) = true := decide_eq_true (by omega)
            have w1 : IntKind.i64.wrap ((a : Int) - 1) = ((a - 1 : Nat) : Int) := by rw [IntKind.wrap_i64]; omega
            have j0 : (0 : Int) ≤ ((a - 1 : Nat) : Int) := by omega
            have j1 : ((a - 1 : Nat) : Int) < (n : Int) := by omega
            have j2 : (0 : Int) ≤ (p2 : Int) := by omega
            have j3 : (p2 : Int) < (n : Int) := by omega
            have k0 := HR3.out.cell (a - 1) (by omega)
            have k1 := HR3.out.cell p2 (by omega)
            go_quiet (first | (go_at_call 36; refine Calls.quiet_of_same (less_any _ _ _)))
            go_wp2_with fail
            go_meet
            exact ⟨_, rfl, fun h => ⟨by omega, by simpa using h⟩, HR3.out.draws _⟩
        case rest =>
        obtain ⟨q, rfl, hq, hr3⟩ := hcut
        clear HR3
        have HR3 := Lib.hid hr3
        have HQ := Lib.hid hq
        clear hr3 hq
        cases q with
        | true =>
          obtain ⟨ha0, hpq⟩ := HQ.out rfl
          have hmin : ∀ t, a ≤ t → t < c → gt d3 p2 ≤ gt d3 t := fun t t0 t1 => by
            rcases HL3.out.bel with h | h
            · omega
            · exact Int.le_trans hpq (h t t0 t1)
          have hpe := parteq_any b cap a c p2 d3 _ _ HR3.out.self hpa hpb (by omega) (by omega) hmin
          rw [hs3] at hpe
          have HM := Lib.hid hmin
          clear hmin hpq
          go_wp2_with (go_at_call 37; refine hpe.mono ?_; rintro e w5 ⟨mid, d4, rfl, hm1, hm2, hp4, hle, hgt, hr5⟩)
          have hL4 := Lib.hid (HL3.out.equal hp4 hm1 hm2 HM.out hle hgt)
          go_roundw
          case rel => exact ⟨mid, c, lm2, wb, wp, d4, rfl, rfl, rfl, rfl, rfl, hlm2, hL4.out, HR3.out.then_ hr5⟩
          case measure => simp [intOf]; omega
        | false =>
          have hpt := part_any b cap a c p2 d3 _ _ HR3.out.self hpa hpb (by omega) (by omega)
          rw [hs3] at hpt
          have e8 : (l : Int).tdiv 8 = ((l / 8 : Nat) : Int) := by rw [Int.tdiv_eq_ediv_of_nonneg (by omega)]; omega
          go_wp2_with (go_at_call 38; refine hpt.mono ?_; rintro e w5 ⟨mid, ap, d4, rfl, hm1, hm2, hp4, hle, hgt, hr5⟩; have w1 : IntKind.i64.wrap ((mid : Int) - (a : Int)) = ((mid - a : Nat) : Int) := (by rw [IntKind.wrap_i64]; omega); have w3 : IntKind.i64.wrap ((c : Int) - (mid : Int)) = ((c - mid : Nat) : Int) := (by rw [IntKind.wrap_i64]; omega))
          · have hL4 := HL3.out.turn hp4
            have hs4 : d4.size = n := by rw [hL4.size]; exact HN.out
            have hc_ := IH.out (mid - a) (by omega) a mid lm2 d4 w5 w5 (Nat.le_refl _) hr5.self hm1 (by omega) (by omega) hlm2 (by
              rcases hL4.bel with h | h
              · exact .inl h
              · exact .inr fun i i0 i1 => h i i0 (by omega))
            rw [hs4] at hc_
            have HP4 := Lib.hid hp4
            have HLE := Lib.hid hle
            have HGT := Lib.hid hgt
            have HR5 := Lib.hid (HR3.out.then_ hr5)
            refine hc_.mono ?_
            clear hc_ hL4 hp4 hle hgt hr5
            rintro e w6 ⟨rfl, d5, hp5, hs5, hr6⟩
            have hL5 := Lib.hid (HL3.out.right HP4.out hm1 hm2 HLE.out HGT.out hp5 hs5)
            go_wp2_with fail
            go_roundw
            case rel => exact ⟨mid + 1, c, lm2, _, ap, d5, by simp, rfl, rfl, rfl, rfl, hlm2, hL5.out, HR5.out.then_ hr6⟩
            case measure => simp [intOf]; omega
          · have hL4 := HL3.out.turn hp4
            have hs4 : d4.size = n := by rw [hL4.size]; exact HN.out
            have hc_ := IH.out (c - (mid + 1)) (by omega) (mid + 1) c lm2 d4 w5 w5 (Nat.le_refl _) hr5.self (by omega) (by omega) (by omega) hlm2 (.inr fun i i0 i1 => by rw [show mid + 1 - 1 = mid by omega]; exact hgt i (by omega) i1)
            rw [hs4] at hc_
            push_cast at hc_
            have HP4 := Lib.hid hp4
            have HLE := Lib.hid hle
            have HGT := Lib.hid hgt
            have HR5 := Lib.hid (HR3.out.then_ hr5)
            refine hc_.mono ?_
            clear hc_ hL4 hp4 hle hgt hr5
            rintro e w6 ⟨rfl, d5, hp5, hs5, hr6⟩
            have hL5 := Lib.hid (HL3.out.left HP4.out hm1 hm2 HLE.out HGT.out hp5 hs5)
            go_wp2_with fail
            go_roundw
            case rel => exact ⟨a, mid, lm2, _, ap, d5, rfl, rfl, rfl, rfl, rfl, hlm2, hL5.out, HR5.out.then_ hr6⟩
            case measure => simp [intOf]; omega
set_option maxRecDepth 100000 in
theorem sort_any (cap b : Nat) (d : Array Int) (W w : World) (hr : Row W w b d) (h3 : d.size < 2147483648) :
    Calls Try.prog 25 #[.slice (some ⟨b, 0, none⟩) d.size cap] w fun e w' => e = .returned (.tuple #[]) ∧ ∃ d', PermIn 0 d.size d d' ∧ SortF 0 d.size d' ∧ Row W w' b d' := by
  have hb := bitLen_32 d.size (by omega)
  have hp := pdq_any cap b d.size 0 d.size (Go.bitLen d.size) d W w (by omega) hr (Nat.zero_le _) (Nat.le_refl _) h3 (by omega) (.inl rfl)
  obtain ⟨n, hn⟩ : ∃ n, d.size = n := ⟨_, rfl⟩
  rw [hn] at hp h3 hb ⊢
  clear hn
  go_enter Try.func25, Try.ntmps25
  go_wp2_with (first | (go_at_call 29; refine (len_any n (by omega) _).mono ?_; rintro e w' ⟨rfl, hw'⟩; subst hw') | (go_at_call 28; refine hp.mono ?_; rintro e w' ⟨rfl, d', k1, k2, k3⟩))
  go_end0
  exact ⟨rfl, d', k1, k2, k3⟩
end Go.Proofs.Ytglcbhfkoigedaa
