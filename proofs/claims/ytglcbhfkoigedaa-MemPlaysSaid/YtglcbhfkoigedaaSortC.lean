/- Heap sort, turning round, at rows of numbers of 32 bits. -/
import Derived.Test.YtglcbhfkoigedaaSortB
namespace Go.Proofs.Ytglcbhfkoigedaa
open Go.ChangeShapes Go.WideShapes Go.ChangeAt Go.RowKit Go.Maps Go.Deep Go.Sort

theorem sift_size (hi first : Nat) : ∀ (r : Nat) (d : Array Int), first + hi ≤ d.size → (siftDown ltInt hi first r d).size = d.size := by
  intro r d h
  fun_induction siftDown ltInt hi first r d <;> simp_all [size_swp]
set_option maxRecDepth 100000 in
set_option maxHeartbeats 4000000 in
theorem heap_any (b cap lo hi : Nat) (d : Array Int) (W w : World) (hr : Row W w b d) (h1 : lo ≤ hi) (h2 : hi ≤ d.size) (h3 : d.size < 1152921504606846976) :
    Calls Try.prog 31 #[.slice (some ⟨b, 0, none⟩) d.size cap, .int .i64 lo, .int .i64 hi] w fun e w' => e = .returned (.tuple #[]) ∧ Row W w' b (heapSort ltInt d lo hi) := by
  obtain ⟨n, hn⟩ : ∃ n, d.size = n := ⟨_, rfl⟩
  obtain ⟨m, hm⟩ : ∃ m, m = hi - lo := ⟨_, rfl⟩
  have em : IntKind.i64.wrap ((hi : Int) - (lo : Int)) = (m : Int) := by rw [IntKind.wrap_i64]; omega
  have hmn : lo + m ≤ n := by omega
  obtain ⟨k0, hk0⟩ : ∃ k0, k0 = (m - 1) / 2 := ⟨_, rfl⟩
  have eq0 : ((m : Int) - 1).tdiv 2 = (k0 : Int) := by
    by_cases h : m = 0
    · subst h; subst hk0; rfl
    · rw [Int.tdiv_eq_ediv_of_nonneg (by omega)]; omega
  have hk1 : k0 ≤ m := by omega
  have HS : heapSort ltInt d lo hi = heapPop ltInt lo m (heapBuild ltInt m lo (k0 + 1) d) := by unfold heapSort; rw [hm, hk0]; subst hm; rfl
  rw [HS]
  clear HS
  rw [hn] at h2 h3 ⊢
  have HM := Lib.hid hm
  have HK := Lib.hid hk0
  clear hm hk0
  go_enter Try.func31, Try.ntmps31
  go_wp2
  go_loopw [9] (fun v wr => ∃ (k : Nat) (dk : Array Int), v = .int .i64 ((k : Int) - 1) ∧ k ≤ k0 + 1 ∧ dk.size = n ∧ Row W wr b dk ∧ heapBuild ltInt m lo k dk = heapBuild ltInt m lo (k0 + 1) d) (fun v _ => (intOf v + 1).toNat)
  case atStart => exact ⟨k0 + 1, d, by congr 1; omega, Nat.le_refl _, hn, hr, rfl⟩
  case round =>
    obtain ⟨k, dk, rfl, hk, hsk, hrk, hO⟩ := hrel
    have HO := Lib.hid hO
    clear hO hr
    cases k with
    | zero =>
      have HR := Lib.hid hrk
      clear hrk
      rw [show (((0 : Nat) : Int) - 1) = -1 by omega]
      have hO1 := HO.out
      rw [show heapBuild ltInt m lo 0 dk = dk from rfl] at hO1
      have HO1 := Lib.hid hO1
      clear hO1
      have em1 : IntKind.i64.wrap ((m : Int) - 1) = (m : Int) - 1 := by rw [IntKind.wrap_i64]; omega
      go_wp2
      go_loopw [10] (fun v wr2 => ∃ (k : Nat) (dj : Array Int), v = .int .i64 ((k : Int) - 1) ∧ k ≤ m ∧ dj.size = n ∧ Row W wr2 b dj ∧ heapPop ltInt lo k dj = heapPop ltInt lo m dk) (fun v _ => (intOf v + 1).toNat)
      case atStart => exact ⟨m, dk, rfl, Nat.le_refl _, hsk, HR.out, rfl⟩
      case round =>
        obtain ⟨k, dj, rfl, hk, hsj, hrj, hP⟩ := hrel
        have HP := Lib.hid hP
        clear hP
        cases k with
        | zero =>
          have HR2 := Lib.hid hrj
          clear hrj
          rw [show (((0 : Nat) : Int) - 1) = -1 by omega]
          go_wp2
          go_end0
          exact ⟨rfl, by rw [← HO1.out, ← HP.out]; exact HR2.out⟩
        | succ k =>
          rw [show (((k + 1 : Nat) : Int) - 1) = (k : Int) by omega]
          have d1 : decide ((0 : Int) ≤ (k : Int)) = true := decide_eq_true (by omega)
          have i0 : (0 : Int) ≤ (lo : Int) := by omega
          have i1 : (lo : Int) < (n : Int) := by omega
          have i2 : (0 : Int) ≤ (lo : Int) + (k : Int) := by omega
          have i3 : (lo : Int) + (k : Int) < (n : Int) := by omega
          have c0 := hrj.cell lo (by omega)
          have c1 := hrj.cell (lo + k) (by omega)
          have f0 := hrj.fro lo
          have f1 := hrj.fro (lo + k)
          have hsw := hrj.drew.swap lo (lo + k) (by omega) (by omega)
          have hsz : (swp dj lo (lo + k)).size = n := by rw [size_swp]; exact hsj
          have hs := fun w2 h => sift_any b cap 0 k lo (swp dj lo (lo + k)) w2 w2 h (by omega) (by omega) (by omega)
          rw [hsz] at hs
          have HSW := Lib.hid hsw
          clear hrj hsw
          by_cases hk0 : k = 0
          · subst hk0
            go_wp2_with fail
            go_region
            all_goals (go_wp2_with (go_at_call 41; refine (hs _ HSW.out.self).mono ?_; rintro e w2 ⟨rfl, hr2⟩))
            all_goals go_roundw
            case rel => exact ⟨0, _, rfl, by omega, by rw [sift_size _ _ _ _ (by omega)]; exact hsz, HSW.out.then_ hr2, HP.out⟩
            case measure => simp [intOf]; try omega
          · have hk1 : ¬ (lo = lo + k) := by omega
            go_wp2_with fail
            go_region
            all_goals (go_wp2_with (go_at_call 41; refine (hs _ HSW.out.self).mono ?_; rintro e w2 ⟨rfl, hr2⟩))
            all_goals go_roundw
            case rel => exact ⟨k, _, rfl, by omega, by rw [sift_size _ _ _ _ (by omega)]; exact hsz, HSW.out.then_ hr2, HP.out⟩
            case measure => simp [intOf]; try omega
    | succ k =>
      rw [show (((k + 1 : Nat) : Int) - 1) = (k : Int) by omega]
      have d1 : decide ((0 : Int) ≤ (k : Int)) = true := decide_eq_true (by omega)
      have hs := sift_any b cap k m lo dk wr wr hrk.self (by omega) (by omega) (by omega)
      rw [hsk] at hs
      have HR := Lib.hid hrk
      clear hrk
      go_wp2_with (go_at_call 41; refine hs.mono ?_; rintro e w2 ⟨rfl, hr2⟩)
      go_roundw
      case rel => exact ⟨k, _, rfl, by omega, by rw [sift_size _ _ _ _ (by omega)]; exact hsk, HR.out.then_ hr2, HO.out⟩
      case measure => simp [intOf]; try omega
theorem rev_any (b cap lo hi : Nat) (d : Array Int) (W w : World) (hr : Row W w b d) (h1 : lo < hi) (h2 : hi ≤ d.size) (h3 : d.size < 1152921504606846976) :
    Calls Try.prog 34 #[.slice (some ⟨b, 0, none⟩) d.size cap, .int .i64 lo, .int .i64 hi] w fun e w' => e = .returned (.tuple #[]) ∧ Row W w' b (reverseRange d lo hi) := by
  obtain ⟨n, hn⟩ : ∃ n, d.size = n := ⟨_, rfl⟩
  rw [hn] at h2 h3 ⊢
  have e1 : IntKind.i64.wrap ((hi : Int) - 1) = ((hi - 1 : Nat) : Int) := by rw [IntKind.wrap_i64]; omega
  go_enter Try.func34, Try.ntmps34
  go_wp2
  go_loopw [6, 7] (fun v6 v7 wr => ∃ (i j : Nat) (dk : Array Int), v6 = .int .i64 i ∧ v7 = .int .i64 j ∧ i ≤ j + 1 ∧ j < n ∧ dk.size = n ∧ Row W wr b dk ∧ reverseLoop i j dk = reverseLoop lo (hi - 1) d) (fun v6 v7 _ => (intOf v7 - intOf v6 + 1).toNat)
  case atStart => exact ⟨lo, hi - 1, d, rfl, rfl, by omega, by omega, hn, hr, rfl⟩
  case round =>
    obtain ⟨i, j, dk, rfl, rfl, hij, hj, hsk, hrk, hO⟩ := hrel
    have HO := Lib.hid hO
    clear hO hr
    by_cases hlt : i < j
    · have d1 : decide ((i : Int) < (j : Int)) = true := decide_eq_true (by omega)
      have i0 : (0 : Int) ≤ (i : Int) := by omega
      have i1 : (i : Int) < (n : Int) := by omega
      have i2 : (0 : Int) ≤ (j : Int) := by omega
      have i3 : (j : Int) < (n : Int) := by omega
      have c0 := hrk.cell i (by omega)
      have c1 := hrk.cell j (by omega)
      have f0 := hrk.fro i
      have f1 := hrk.fro j
      have HR := Lib.hid hrk
      clear hrk
      have w1 : IntKind.i64.wrap ((j : Int) - 1) = ((j - 1 : Nat) : Int) := by rw [IntKind.wrap_i64]; omega
      go_wp2
      go_region
      all_goals go_wp2
      go_roundw
      case rel => exact ⟨i + 1, j - 1, swp dk i j, by simp, rfl, by omega, by omega, by rw [size_swp]; exact hsk, HR.out.drew.swap i j (by omega) (by omega), by rw [← HO.out, reverseLoop.eq_def i j, if_pos hlt]⟩
      case measure => simp [intOf]; try omega
    · have d1 : decide ((i : Int) < (j : Int)) = false := decide_eq_false (by omega)
      have HR := Lib.hid hrk
      clear hrk
      go_wp2
      go_end0
      exact ⟨rfl, by unfold reverseRange; rw [← HO.out, reverseLoop.eq_def i j, if_neg hlt]; exact HR.out⟩
end Go.Proofs.Ytglcbhfkoigedaa
