/- Breaking patterns, at rows of numbers of 32 bits: some of them change places. -/
import Derived.Test.YtglcbhfkoigedaaSortE
namespace Go.Proofs.Ytglcbhfkoigedaa
open Go.ChangeShapes Go.WideShapes Go.ChangeAt Go.RowKit Go.Maps Go.Deep Go.Sort

theorem Row.other {W w w' : World} {b S : Nat} {d : Array Int} (h : Row W w b d) (hb : But (· = S) w w') (hn : b ≠ S) (hS : W.heap.size ≤ S) (h0 : 0 < d.size) : Row W w' b d :=
  ⟨fun t ht => hb.cell (h.cell t ht) hn, fun t => by rw [hb.frozen (p := ⟨b, t, none⟩) (show b < _ from cell_lt (h.cell 0 h0)) hn]; exact h.fro t, h.but.trans hb (fun i hi e => by omega)⟩
theorem drew_cell (w : World) (p : Addr) : w.drew.cell? p = w.cell? p := rfl
theorem drew_fro (w : World) (p : Addr) : w.drew.frozen? p = w.frozen? p := rfl
set_option maxRecDepth 100000 in
set_option maxHeartbeats 4000000 in
theorem break_any (b cap lo hi : Nat) (d : Array Int) (W w : World) (hr : Row W w b d) (h1 : lo + 12 < hi) (h2 : hi ≤ d.size) (h3 : d.size < 2147483648) :
    Calls Try.prog 32 #[.slice (some ⟨b, 0, none⟩) d.size cap, .int .i64 lo, .int .i64 hi] w fun e w' => ∃ d', e = .returned (.tuple #[]) ∧ PermIn lo hi d d' ∧ Row W w' b d' := by
  obtain ⟨n, hn⟩ : ∃ n, d.size = n := ⟨_, rfl⟩
  obtain ⟨l, hl⟩ : ∃ l, l = hi - lo := ⟨_, rfl⟩
  obtain ⟨q, hq⟩ : ∃ q, q = l / 4 := ⟨_, rfl⟩
  have e1 : IntKind.i64.wrap ((hi : Int) - (lo : Int)) = (l : Int) := by rw [IntKind.wrap_i64]; omega
  have e2 : (l : Int).tdiv 4 = (q : Int) := by rw [Int.tdiv_eq_ediv_of_nonneg (by omega)]; omega
  obtain ⟨x0, hx0⟩ : ∃ x0, x0 + 1 = lo + q * 2 := ⟨lo + q * 2 - 1, by omega⟩
  have e3 : IntKind.i64.wrap ((lo : Int) + (q : Int) * 2 - 1) = (x0 : Int) := by rw [IntKind.wrap_i64]; omega
  have hl12 : 12 < l := by omega
  have hll : lo + l = hi := by omega
  have hq4 : q * 4 ≤ l := by omega
  have hq3 : 3 ≤ q := by omega
  have d8 : decide ((8 : Int) ≤ (l : Int)) = true := decide_eq_true (by omega)
  clear hl hq
  rw [hn] at h2 h3 ⊢
  have hbl : b < w.heap.size := cell_lt (hr.cell 0 (by omega))
  have hWs := hr.but.size
  have hrB : Row W (w.alloc (.cells #[.int .u64 l] 80)) b d := ⟨fun t ht => (World.cell?_alloc_lt _ _ _ hbl).trans (hr.cell t ht), fun t => by rw [World.frozen?_of_block (Below.heap_alloc _ _ b hbl)]; exact hr.fro t, hr.but.alloc _⟩
  have hcB : (w.alloc (.cells #[.int .u64 l] 80)).cell? ⟨w.heap.size, 0, none⟩ = some (.int .u64 l) := by simp
  have hfB : (w.alloc (.cells #[.int .u64 l] 80)).frozen? ⟨w.heap.size, 0, none⟩ = false := by simp
  have HRB := Lib.hid hrB
  have HCB := Lib.hid hcB
  have HFB := Lib.hid hfB
  clear hrB hcB hfB hr
  go_enter Try.func32, Try.ntmps32
  go_wp2_with (go_at_call 42; refine (next_any l (by omega) _).mono ?_; rintro e w' ⟨m, rfl, hw', hm1, hm2⟩; subst hw')
  have hrB := HRB.out
  have hcB := HCB.out
  have hfB := HFB.out
  have hm2 := hm2 (by omega)
  clear HRB HCB HFB
  generalize w.alloc (.cells #[.int .u64 l] 80) = w1 at *
  generalize w.heap.size = S at *
  go_loopw [9] (fun v wr => ∃ (x : Nat) (dk : Array Int) (r : Int), v = .int .i64 x ∧ x0 ≤ x ∧ x ≤ x0 + 3 ∧ dk.size = n ∧ PermIn lo hi d dk ∧ Row W wr b dk ∧ wr.cell? ⟨S, 0, none⟩ = some (.int .u64 r) ∧ wr.frozen? ⟨S, 0, none⟩ = false ∧ 0 ≤ r ∧ r < 18446744073709551616) (fun v _ => x0 + 3 - (intOf v).toNat)
  case atStart => exact ⟨x0, d, l, rfl, Nat.le_refl _, by omega, hn, ⟨rfl, fun _ _ => rfl, List.Perm.refl _⟩, hrB, hcB, hfB, by omega, by omega⟩
  case round =>
    obtain ⟨x, dk, r, rfl, hxa, hxb, hsk, hpk, hrk, hcS, hfS, r0, r1⟩ := hrel
    clear hrB hcB hfB
    by_cases hx3 : x = x0 + 3
    · have d1 : decide ((x : Int) ≤ (lo : Int) + (q : Int) * 2 + 1) = false := decide_eq_false (by omega)
      have HR := Lib.hid hrk
      have HP := Lib.hid hpk
      clear hrk hpk
      go_wp2_with fail
      go_end0
      exact ⟨dk, rfl, HP.out, HR.out⟩
    · have d1 : decide ((x : Int) ≤ (lo : Int) + (q : Int) * 2 + 1) = true := decide_eq_true (by omega)
      have hk : CelS wr wr S r := ⟨hcS, hfS, But.refl _ _, r0, r1⟩
      have HK := Lib.hid hk
      have HR := Lib.hid hrk
      have HP := Lib.hid hpk
      clear hk hrk hpk hcS hfS
      go_wp2_with fail
      refine (xor_any S r _ _ HK.out).mono ?_
      rintro e w2 ⟨r', rfl, hk2⟩
      have hr2 := HR.out.other hk2.but (by omega) (by omega) (by omega)
      obtain ⟨o, ho⟩ : ∃ o : Nat, o = r'.toNat &&& (m - 1) := ⟨_, rfl⟩
      have ho1 : o ≤ m - 1 := by rw [ho]; exact Nat.and_le_right
      have hand : bits .and .u64 r' ((m : Int) - 1) = (o : Int) := by
        have h := u64_and r' ((m : Int) - 1) hk2.r0 hk2.r1 (by omega) (by omega)
        rw [h, ho, show ((m : Int) - 1).toNat = m - 1 by omega]
      have hmw : IntKind.u64.wrap ((m : Int) - 1) = (m : Int) - 1 := by rw [IntKind.wrap_u64]; omega
      have how : IntKind.i64.wrap (o : Int) = (o : Int) := by rw [IntKind.wrap_i64]; omega
      have HK2 := Lib.hid hk2
      have hsz : W.heap.size ≤ w2.heap.size := hr2.but.size
      have i0 : (0 : Int) ≤ (x : Int) := by omega
      have i1 : (x : Int) < (n : Int) := by omega
      have c0 := hr2.cell x (by omega)
      have f0 := hr2.fro x
      have hfin : ∀ y, lo ≤ y → y < hi → ∀ w4, Row W w4 b (swp dk x y) → (∀ a, w4.cell? ⟨S, 0, none⟩ = some a ↔ w2.cell? ⟨S, 0, none⟩ = some a) → w4.frozen? ⟨S, 0, none⟩ = w2.frozen? ⟨S, 0, none⟩ → ∃ (x' : Nat) (dk' : Array Int) (r : Int), Value.int .i64 ((x : Int) + 1) = .int .i64 x' ∧ x0 ≤ x' ∧ x' ≤ x0 + 3 ∧ dk'.size = n ∧ PermIn lo hi d dk' ∧ Row W w4 b dk' ∧ w4.cell? ⟨S, 0, none⟩ = some (.int .u64 r) ∧ w4.frozen? ⟨S, 0, none⟩ = false ∧ 0 ≤ r ∧ r < 18446744073709551616 := fun y y0 y1 w4 k1 k2 k3 =>
        ⟨x + 1, _, r', by simp, by omega, by omega, by rw [size_swp]; exact hsk, permIn_trans _ _ _ _ _ HP.out (swp_permIn _ _ _ _ _ (by omega) (by omega) y0 y1 (by omega)), k1, (k2 _).2 HK2.out.cell, k3.trans HK2.out.fro, HK2.out.r0, HK2.out.r1⟩
      have HF := Lib.hid hfin
      clear hk2 ho hfin
      have hbS : ¬ (b = S) := by omega
      by_cases hol : l ≤ o
      · have d2 : decide ((l : Int) ≤ (o : Int)) = true := decide_eq_true (by omega)
        have ew : IntKind.i64.wrap ((o : Int) - (l : Int)) = ((o - l : Nat) : Int) := by rw [IntKind.wrap_i64]; omega
        have j0 : (0 : Int) ≤ (lo : Int) + ((o - l : Nat)) := by omega
        have j1 : (lo : Int) + ((o - l : Nat)) < (n : Int) := by omega
        have c1 := hr2.cell (lo + (o - l)) (by omega)
        have f1 := hr2.fro (lo + (o - l))
        have hsw := hr2.drew.swap x (lo + (o - l)) (by omega) (by omega)
        have HSW := Lib.hid hsw
        clear hsw hr2
        by_cases hxy : x = lo + (o - l)
        · subst hxy
          go_wp2_with fail
          go_region
          all_goals go_wp2_with fail
          go_roundw
          case rel => exact HF.out (lo + (o - l)) (by omega) (by omega) _ HSW.out (fun a => by
            rw [drew_cell, World.cell?_setCell_other _ _ _ _ (by simp; try (intro e; exact absurd e hbS)), World.cell?_setCell_other _ _ _ _ (by simp; try (intro e; exact absurd e hbS))]) (by rw [drew_fro, World.frozen?_setCell, World.frozen?_setCell])
          case measure => simp [intOf]; omega
        · have hxy' : ¬ (lo + (o - l) = x) := by omega
          go_wp2_with fail
          go_region
          all_goals go_wp2_with fail
          go_roundw
          case rel => exact HF.out (lo + (o - l)) (by omega) (by omega) _ HSW.out (fun a => by
            rw [drew_cell, World.cell?_setCell_other _ _ _ _ (by simp; try (intro e; exact absurd e hbS)), World.cell?_setCell_other _ _ _ _ (by simp; try (intro e; exact absurd e hbS))]) (by rw [drew_fro, World.frozen?_setCell, World.frozen?_setCell])
          case measure => simp [intOf]; omega
      · have d2 : decide ((l : Int) ≤ (o : Int)) = false := decide_eq_false (by omega)
        have j0 : (0 : Int) ≤ (lo : Int) + ((o : Nat)) := by omega
        have j1 : (lo : Int) + ((o : Nat)) < (n : Int) := by omega
        have c1 := hr2.cell (lo + o) (by omega)
        have f1 := hr2.fro (lo + o)
        have hsw := hr2.drew.swap x (lo + o) (by omega) (by omega)
        have HSW := Lib.hid hsw
        clear hsw hr2
        by_cases hxy : x = lo + o
        · subst hxy
          go_wp2_with fail
          go_region
          all_goals go_wp2_with fail
          go_roundw
          case rel => exact HF.out (lo + o) (by omega) (by omega) _ HSW.out (fun a => by
            rw [drew_cell, World.cell?_setCell_other _ _ _ _ (by simp; try (intro e; exact absurd e hbS)), World.cell?_setCell_other _ _ _ _ (by simp; try (intro e; exact absurd e hbS))]) (by rw [drew_fro, World.frozen?_setCell, World.frozen?_setCell])
          case measure => simp [intOf]; omega
        · have hxy' : ¬ (lo + o = x) := by omega
          go_wp2_with fail
          go_region
          all_goals go_wp2_with fail
          go_roundw
          case rel => exact HF.out (lo + o) (by omega) (by omega) _ HSW.out (fun a => by
            rw [drew_cell, World.cell?_setCell_other _ _ _ _ (by simp; try (intro e; exact absurd e hbS)), World.cell?_setCell_other _ _ _ _ (by simp; try (intro e; exact absurd e hbS))]) (by rw [drew_fro, World.frozen?_setCell, World.frozen?_setCell])
          case measure => simp [intOf]; omega
end Go.Proofs.Ytglcbhfkoigedaa
