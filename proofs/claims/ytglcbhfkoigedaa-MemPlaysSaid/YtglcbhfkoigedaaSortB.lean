/- Heap sort and turning round, at rows of numbers of 32 bits. -/
import Derived.Test.YtglcbhfkoigedaaSortA
namespace Go.Proofs.Ytglcbhfkoigedaa
open Go.ChangeShapes Go.WideShapes Go.ChangeAt Go.RowKit Go.Maps Go.Deep Go.Sort

theorem sift_end (hi first r : Nat) (d : Array Int) (h : hi ≤ 2 * r + 1) : siftDown ltInt hi first r d = d := by
  rw [siftDown, dif_pos h]
theorem sift_step (hi first r c : Nat) (d : Array Int) (h : 2 * r + 1 < hi) (hc : (c = 2 * r + 2 ∧ c < hi ∧ ls d (first + (2 * r + 1)) (first + c) = true) ∨ (c = 2 * r + 1 ∧ (2 * r + 2 < hi → ls d (first + c) (first + (2 * r + 2)) = false))) :
    siftDown ltInt hi first r d = if ls d (first + r) (first + c) = true then siftDown ltInt hi first c (swp d (first + r) (first + c)) else d := by
  rw [siftDown, dif_neg (by omega)]
  rcases hc with ⟨rfl, h1, h2⟩ | ⟨rfl, h2⟩
  · have hcn : (decide (2 * r + 1 + 1 < hi) && ltInt d[first + (2 * r + 1)]! d[first + (2 * r + 1) + 1]!) = true := by
      rw [Bool.and_eq_true, decide_eq_true_eq]
      exact ⟨by omega, h2⟩
    rw [if_pos hcn, dif_pos h1]
    cases hx : ltInt d[first + r]! d[first + (2 * r + 2)]!
    · rw [if_pos (by simp), if_neg (by rw [show ls d (first + r) (first + (2 * r + 2)) = false from hx]; simp)]
    · rw [if_neg (by simp), if_pos (show ls d (first + r) (first + (2 * r + 2)) = true from hx)]
  · have hcn : ¬ (decide (2 * r + 1 + 1 < hi) && ltInt d[first + (2 * r + 1)]! d[first + (2 * r + 1) + 1]!) = true := by
      rw [Bool.and_eq_true, decide_eq_true_eq]
      rintro ⟨h3, h4⟩
      have h5 : ltInt d[first + (2 * r + 1)]! d[first + (2 * r + 1) + 1]! = false := h2 (by omega)
      rw [h5] at h4
      cases h4
    rw [if_neg hcn]
    cases hx : ltInt d[first + r]! d[first + (2 * r + 1)]!
    · rw [if_pos (by simp), if_neg (by rw [show ls d (first + r) (first + (2 * r + 1)) = false from hx]; simp)]
    · rw [if_neg (by simp), if_pos (show ls d (first + r) (first + (2 * r + 1)) = true from hx)]
set_option maxRecDepth 100000 in
set_option maxHeartbeats 4000000 in
theorem sift_any (b cap lo hi first : Nat) (d : Array Int) (W w : World) (hr : Row W w b d) (h1 : lo ≤ hi) (h2 : first + hi ≤ d.size) (h3 : d.size < 1152921504606846976) :
    Calls Try.prog 41 #[.slice (some ⟨b, 0, none⟩) d.size cap, .int .i64 lo, .int .i64 hi, .int .i64 first] w fun e w' => e = .returned (.tuple #[]) ∧ Row W w' b (siftDown ltInt hi first lo d) := by
  obtain ⟨n, hn⟩ : ∃ n, d.size = n := ⟨_, rfl⟩
  rw [hn] at h2 h3 ⊢
  go_enter Try.func41, Try.ntmps41
  go_wp2
  go_loopw [8] (fun v wr => ∃ (r : Nat) (dk : Array Int), v = .int .i64 r ∧ r ≤ hi ∧ dk.size = n ∧ Row W wr b dk ∧ siftDown ltInt hi first r dk = siftDown ltInt hi first lo d) (fun v _ => hi - (intOf v).toNat)
  case atStart => exact ⟨lo, d, rfl, h1, hn, hr, rfl⟩
  case round =>
    obtain ⟨r, dk, rfl, hr1, hsk, hrk, hO⟩ := hrel
    have HO := Lib.hid hO
    have HR := Lib.hid hrk
    have hcell : ∀ t, t < n → wr.cell? ⟨b, t, none⟩ = some (.int .u32 (gt dk t)) := fun t ht => hrk.cell t (by omega)
    have hfro := hrk.fro
    clear hO hr hrk
    by_cases hch : hi ≤ 2 * r + 1
    · have d1 : (hi : Int) ≤ 2 * (r : Int) + 1 := by omega
      go_wp2
      go_end0
      exact ⟨rfl, by rw [← HO.out, sift_end _ _ _ _ hch]; exact HR.out⟩
    · have d1 : ¬ ((hi : Int) ≤ 2 * (r : Int) + 1) := by omega
      have hstep : ∀ q, (q = 2 * r + 2 ∧ q < hi ∧ ls dk (first + (2 * r + 1)) (first + q) = true) ∨ (q = 2 * r + 1 ∧ (2 * r + 2 < hi → ls dk (first + q) (first + (2 * r + 2)) = false)) → siftDown ltInt hi first lo d = if ls dk (first + r) (first + q) = true then siftDown ltInt hi first q (swp dk (first + r) (first + q)) else dk := fun q h => by
        rw [← HO.out]
        exact sift_step hi first r q dk (by omega) h
      have HS := Lib.hid hstep
      clear hstep
      by_cases hc2 : 2 * r + 2 < hi
      · have d2 : 2 * (r : Int) + 1 + 1 < (hi : Int) := by omega
        have k0 := hcell (first + (2 * r + 1)) (by omega)
        have k1 := hcell (first + (2 * r + 1) + 1) (by omega)
        have k2 := hcell (first + (2 * r + 1 + 1)) (by omega)
        go_wp2_with fail
        go_big_quiet (first | (go_at_call 36; refine Calls.quiet_of_same (less_any _ _ _)))
        go_wp2_with fail
        · have hx : gt dk (first + (2 * r + 1)) < gt dk (first + (2 * r + 2)) := by assumption
          have hs := HS.out (2 * r + 2) (.inl ⟨rfl, hc2, decide_eq_true hx⟩)
          revert nq; intro nq1
          have hr2 := HR.out.draws nq1
          have hcell2 : ∀ t, t < n → (wr.drewN nq1).cell? ⟨b, t, none⟩ = some (.int .u32 (gt dk t)) := fun t ht => hr2.cell t (by omega)
          have hfro2 := hr2.fro
          have HR2 := Lib.hid hr2
          have HS2 := Lib.hid hs
          clear hcell hfro hr2 hs k0 k1 k2
          generalize wr.drewN nq1 = w3 at hcell2 hfro2 HR2 ⊢
          have k0 := hcell2 (first + r) (by omega)
          have k1 := hcell2 (first + (2 * r + 1 + 1)) (by omega)
          go_big_quiet (first | (go_at_call 36; refine Calls.quiet_of_same (less_any _ _ _)))
          go_wp2_with fail
          · have h0 : (!decide (gt dk (first + r) < gt dk (first + (2 * r + 2)))) = true := by assumption
            have hl : ¬ (gt dk (first + r) < gt dk (first + (2 * r + 2))) := by simpa using h0
            (try simp only [Exit.inBlock, Exit.then]); refine bodyPost_ret (results_none rfl _ _ _) rfl ?_
            exact ⟨rfl, by rw [HS2.out, if_neg (by rw [show ls dk (first + r) (first + (2 * r + 2)) = false from decide_eq_false hl]; simp)]; exact HR2.out.draws _⟩
          · have h0 : (!decide (gt dk (first + r) < gt dk (first + (2 * r + 2)))) = false := by assumption
            have hl : gt dk (first + r) < gt dk (first + (2 * r + 2)) := by simpa using h0
            have hr4 := HR2.out.draws nq
            have hcell3 : ∀ t, t < n → (w3.drewN nq).cell? ⟨b, t, none⟩ = some (.int .u32 (gt dk t)) := fun t ht => hr4.cell t (by omega)
            have hfro3 := hr4.fro
            have HR4 := Lib.hid hr4
            clear hcell2 hfro2 hr4 k0 k1
            generalize w3.drewN nq = w4 at hcell3 hfro3 HR4 ⊢
            have k4 := hcell3 (first + r) (by omega)
            have k5 := hcell3 (first + (2 * r + 1 + 1)) (by omega)
            have k6 := hfro3 (first + r)
            have k7 := hfro3 (first + (2 * r + 1 + 1))
            go_region
            go_wp2
            go_roundw
            case rel => exact ⟨2 * r + 2, swp dk (first + r) (first + (2 * r + 2)), by simp <;> omega, by omega, by rw [size_swp]; exact hsk, HR4.out.drew.swap (first + r) (first + (2 * r + 2)) (by omega) (by omega), by rw [HS2.out, if_pos (show ls dk (first + r) (first + (2 * r + 2)) = true from decide_eq_true hl)]⟩
            case measure => simp [intOf]; omega
        · have hx : ¬ (gt dk (first + (2 * r + 1)) < gt dk (first + (2 * r + 2))) := by first | assumption | (rw [Int.not_lt]; assumption)
          have hs := HS.out (2 * r + 1) (.inr ⟨rfl, fun _ => decide_eq_false hx⟩)
          revert nq; intro nq1
          have hr2 := HR.out.draws nq1
          have hcell2 : ∀ t, t < n → (wr.drewN nq1).cell? ⟨b, t, none⟩ = some (.int .u32 (gt dk t)) := fun t ht => hr2.cell t (by omega)
          have hfro2 := hr2.fro
          have HR2 := Lib.hid hr2
          have HS2 := Lib.hid hs
          clear hcell hfro hr2 hs k0 k1 k2
          generalize wr.drewN nq1 = w3 at hcell2 hfro2 HR2 ⊢
          have k0 := hcell2 (first + r) (by omega)
          have k1 := hcell2 (first + (2 * r + 1)) (by omega)
          go_big_quiet (first | (go_at_call 36; refine Calls.quiet_of_same (less_any _ _ _)))
          go_wp2_with fail
          · have h0 : (!decide (gt dk (first + r) < gt dk (first + (2 * r + 1)))) = true := by assumption
            have hl : ¬ (gt dk (first + r) < gt dk (first + (2 * r + 1))) := by simpa using h0
            (try simp only [Exit.inBlock, Exit.then]); refine bodyPost_ret (results_none rfl _ _ _) rfl ?_
            exact ⟨rfl, by rw [HS2.out, if_neg (by rw [show ls dk (first + r) (first + (2 * r + 1)) = false from decide_eq_false hl]; simp)]; exact HR2.out.draws _⟩
          · have h0 : (!decide (gt dk (first + r) < gt dk (first + (2 * r + 1)))) = false := by assumption
            have hl : gt dk (first + r) < gt dk (first + (2 * r + 1)) := by simpa using h0
            have hr4 := HR2.out.draws nq
            have hcell3 : ∀ t, t < n → (w3.drewN nq).cell? ⟨b, t, none⟩ = some (.int .u32 (gt dk t)) := fun t ht => hr4.cell t (by omega)
            have hfro3 := hr4.fro
            have HR4 := Lib.hid hr4
            clear hcell2 hfro2 hr4 k0 k1
            generalize w3.drewN nq = w4 at hcell3 hfro3 HR4 ⊢
            have k4 := hcell3 (first + r) (by omega)
            have k5 := hcell3 (first + (2 * r + 1)) (by omega)
            have k6 := hfro3 (first + r)
            have k7 := hfro3 (first + (2 * r + 1))
            go_region
            go_wp2
            go_roundw
            case rel => exact ⟨2 * r + 1, swp dk (first + r) (first + (2 * r + 1)), by simp <;> omega, by omega, by rw [size_swp]; exact hsk, HR4.out.drew.swap (first + r) (first + (2 * r + 1)) (by omega) (by omega), by rw [HS2.out, if_pos (show ls dk (first + r) (first + (2 * r + 1)) = true from decide_eq_true hl)]⟩
            case measure => simp [intOf]; omega
      · have d2 : decide (2 * (r : Int) + 1 + 1 < (hi : Int)) = false := decide_eq_false (by omega)
        go_wp2_with fail
        go_big_quiet (first | (go_at_call 36; refine Calls.quiet_of_same (less_any _ _ _)))
        go_wp2_with fail
        have hs := HS.out (2 * r + 1) (.inr ⟨rfl, fun h => absurd h hc2⟩)
        revert nq; intro nq1
        have hr2 := HR.out.draws nq1
        have hcell2 : ∀ t, t < n → (wr.drewN nq1).cell? ⟨b, t, none⟩ = some (.int .u32 (gt dk t)) := fun t ht => hr2.cell t (by omega)
        have hfro2 := hr2.fro
        have HR2 := Lib.hid hr2
        have HS2 := Lib.hid hs
        clear hcell hfro hr2 hs
        generalize wr.drewN nq1 = w3 at hcell2 hfro2 HR2 ⊢
        have k0 := hcell2 (first + r) (by omega)
        have k1 := hcell2 (first + (2 * r + 1)) (by omega)
        go_big_quiet (first | (go_at_call 36; refine Calls.quiet_of_same (less_any _ _ _)))
        go_wp2_with fail
        · have h0 : (!decide (gt dk (first + r) < gt dk (first + (2 * r + 1)))) = true := by assumption
          have hl : ¬ (gt dk (first + r) < gt dk (first + (2 * r + 1))) := by simpa using h0
          (try simp only [Exit.inBlock, Exit.then]); refine bodyPost_ret (results_none rfl _ _ _) rfl ?_
          exact ⟨rfl, by rw [HS2.out, if_neg (by rw [show ls dk (first + r) (first + (2 * r + 1)) = false from decide_eq_false hl]; simp)]; exact HR2.out.draws _⟩
        · have h0 : (!decide (gt dk (first + r) < gt dk (first + (2 * r + 1)))) = false := by assumption
          have hl : gt dk (first + r) < gt dk (first + (2 * r + 1)) := by simpa using h0
          have hr4 := HR2.out.draws nq
          have hcell3 : ∀ t, t < n → (w3.drewN nq).cell? ⟨b, t, none⟩ = some (.int .u32 (gt dk t)) := fun t ht => hr4.cell t (by omega)
          have hfro3 := hr4.fro
          have HR4 := Lib.hid hr4
          clear hcell2 hfro2 hr4 k0 k1
          generalize w3.drewN nq = w4 at hcell3 hfro3 HR4 ⊢
          have k4 := hcell3 (first + r) (by omega)
          have k5 := hcell3 (first + (2 * r + 1)) (by omega)
          have k6 := hfro3 (first + r)
          have k7 := hfro3 (first + (2 * r + 1))
          go_region
          go_wp2
          go_roundw
          case rel => exact ⟨2 * r + 1, swp dk (first + r) (first + (2 * r + 1)), by simp <;> omega, by omega, by rw [size_swp]; exact hsk, HR4.out.drew.swap (first + r) (first + (2 * r + 1)) (by omega) (by omega), by rw [HS2.out, if_pos (show ls dk (first + r) (first + (2 * r + 1)) = true from decide_eq_true hl)]⟩
          case measure => simp [intOf]; omega
end Go.Proofs.Ytglcbhfkoigedaa
