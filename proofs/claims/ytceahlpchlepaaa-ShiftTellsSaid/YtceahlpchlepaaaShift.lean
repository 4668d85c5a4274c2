/- What package shift answers, for every input: the number and the flags. -/
import Derived.Test.YtceahlpchlepaaaRef2
import Derived.Test.YtceahlpchlepaaaArith
namespace Go.Proofs.Ytceahlpchlepaaa
open Go.ChangeShapes Go.WideShapes Go.ChangeAt Go.RowKit

theorem known_yes (op : Int) (w : World) (h : op = 26 ∨ op = 27 ∨ op = 28 ∨ op = 29 ∨ op = 30) : Calls Try.prog 11 #[.int .i64 op] w fun e w' => e = .returned (.bool true) ∧ w = w' := by
  rcases h with rfl | rfl | rfl | rfl | rfl
  all_goals
    go_enter Try.func11, Try.ntmps11
    go_wp2
    go_ret
    exact ⟨rfl, rfl⟩
theorem known_no (op : Int) (w : World) (h1 : (op == 26) = false) (h2 : (op == 27) = false) (h3 : (op == 28) = false) (h4 : (op == 29) = false) (h5 : (op == 30) = false) : Calls Try.prog 11 #[.int .i64 op] w fun e w' => e = .returned (.bool false) ∧ w = w' := by
  go_enter Try.func11, Try.ntmps11
  go_wp2
  go_ret
  exact ⟨rfl, rfl⟩
theorem known_any (op : Int) (w : World) : Calls Try.prog 11 #[.int .i64 op] w fun e w' => e = .returned (.bool (isSh op)) ∧ w = w' := by
  by_cases h : 26 ≤ op ∧ op ≤ 30
  · rw [show isSh op = true by simp [isSh, h]]
    exact known_yes op w (by omega)
  · rw [show isSh op = false by simp only [isSh, decide_eq_false_iff_not]; exact h]
    exact known_no op w (by simp; omega) (by simp; omega) (by simp; omega) (by simp; omega) (by simp; omega)

theorem bt_low' (x : Int) (k : Nat) (h0 : 0 ≤ x) (h1 : x < 4294967296) : (bits .and .u32 (x / 2 ^ k) 1 != 0) = bt x k := by
  have h2 : 0 ≤ x / 2 ^ k := Int.ediv_nonneg h0 (Int.le_of_lt (Int.pow_pos (by decide)))
  have h3 : x / 2 ^ k ≤ x := Int.ediv_le_self _ h0
  rw [and_one _ h2 (by omega)]
  unfold bt
  rw [Bool.eq_iff_iff]
  simp only [bne_iff_ne, ne_eq, decide_eq_true_eq]
  omega
theorem bit_any (v : Int) (k : Nat) (hk : k < 32) (h0 : 0 ≤ v) (h1 : v < 4294967296) (w : World) : Calls Try.prog 14 #[.int .u32 v, .int .u32 k] w fun e w' => e = .returned (.bool (bt v k)) ∧ w = w' := by
  have hE := Lib.hid (bt_low' v k h0 h1)
  go_enter Try.func14, Try.ntmps14
  go_wp2
  go_ret
  exact ⟨by rw [← hE.out]; rfl, rfl⟩
theorem bit_0 (v : Int) (h0 : 0 ≤ v) (h1 : v < 4294967296) (w : World) : Calls Try.prog 14 #[.int .u32 v, .int .u32 0] w fun e w' => e = .returned (.bool (bt v 0)) ∧ w = w' := bit_any v 0 (by decide) h0 h1 w
theorem bit_30 (v : Int) (h0 : 0 ≤ v) (h1 : v < 4294967296) (w : World) : Calls Try.prog 14 #[.int .u32 v, .int .u32 30] w fun e w' => e = .returned (.bool (bt v 30)) ∧ w = w' := bit_any v 30 (by decide) h0 h1 w
theorem bit_31 (v : Int) (h0 : 0 ≤ v) (h1 : v < 4294967296) (w : World) : Calls Try.prog 14 #[.int .u32 v, .int .u32 31] w fun e w' => e = .returned (.bool (bt v 31)) ∧ w = w' := bit_any v 31 (by decide) h0 h1 w
theorem bit_dn (v : Int) (k : Nat) (h1k : 1 ≤ k) (hk : k < 32) (h0 : 0 ≤ v) (h1 : v < 4294967296) (w : World) : Calls Try.prog 14 #[.int .u32 v, .int .u32 ((k : Int) - 1)] w fun e w' => e = .returned (.bool (bt v (k - 1))) ∧ w = w' := by
  have h := bit_any v (k - 1) (by omega) h0 h1 w
  rw [show ((k - 1 : Nat) : Int) = (k : Int) - 1 by omega] at h
  exact h
theorem bit_up (v : Int) (k : Nat) (h1k : 1 ≤ k) (hk : k < 32) (h0 : 0 ≤ v) (h1 : v < 4294967296) (w : World) : Calls Try.prog 14 #[.int .u32 v, .int .u32 (32 - (k : Int))] w fun e w' => e = .returned (.bool (bt v (32 - k))) ∧ w = w' := by
  have h := bit_any v (32 - k) (by omega) h0 h1 w
  rw [show ((32 - k : Nat) : Int) = 32 - (k : Int) by omega] at h
  exact h

theorem turned_any (fc fp fz fs fo fd c o : Bool) (w : World) : Calls Try.prog 13 #[.agg #[.bool fc, .bool fp, .bool fz, .bool fs, .bool fo, .bool fd], .bool c, .bool o] w fun e w' =>
   e = .returned (.agg #[.bool c, .bool fp, .bool fz, .bool fs, .bool o, .bool fd]) ∧ Below w.heap.size w w' := by
  go_enter Try.func13, Try.ntmps13
  go_wp2
  refine bodyPost_ret (v := .agg #[.bool c, .bool fp, .bool fz, .bool fs, .bool o, .bool fd]) (by simp [results, Try.results13, go_sem]) rfl ⟨rfl, ?_⟩
  exact ((Below.refl _ _).alloc (Nat.le_refl _) _).alloc (by simp) _

theorem logic4 (v : Int) (w : World) (h0 : 0 ≤ v) (h1 : v < 4294967296) : Calls Try.prog 17 #[.int .u32 v, .int .i64 4] w fun e w' =>
   e = .returned (.tuple #[.int .u32 v, .agg #[.bool false, .bool (par v), .bool (zer v), .bool (bt v 31), .bool false, .bool false]]) ∧ Below w.heap.size w w' := by
  have h := logic_any v 4 w
  rw [show cut v 4 = v from Int.emod_eq_of_lt h0 h1] at h
  exact h

attribute [local go_sem] isSome_setCell

theorem moved_any (fc fp fz fs fo fd c o : Bool) (r : Int) (h0 : 0 ≤ r) (h1 : r < 4294967296) (w : World) : Calls Try.prog 15 #[.agg #[.bool fc, .bool fp, .bool fz, .bool fs, .bool fo, .bool fd], .int .u32 r, .bool c, .bool o] w fun e w' =>
   e = .returned (.agg #[.bool c, .bool (par r), .bool (zer r), .bool (bt r 31), .bool o, .bool fd]) ∧ Below w.heap.size w w' := by
  go_enter Try.func15, Try.ntmps15
  go_wp2_with (go_at_call 17; refine (logic4 _ _ h0 h1).mono ?_; rintro e w1 ⟨rfl, hb⟩; obtain ⟨hc, hf⟩ := bcell hb; have hz : w.heap.size + 1 < w1.heap.size := (by have := hb.size; simp at this; omega); have hy : w.heap.size < w1.heap.size := (by omega); have hy1 : w.heap.size < w1.heap.size + 1 := (by omega); have hy2 : w.heap.size + 1 < w1.heap.size + 1 := (by omega))
  go_region
  all_goals go_wp2
  all_goals
    have hB : Below w.heap.size w w1 := (((Below.refl _ _).alloc (Nat.le_refl _) _).alloc (by simp) _).trans (hb.mono (by simp; omega))
    refine bodyPost_ret (v := .agg #[.bool c, .bool (par r), .bool (zer r), .bool (bt r 31), .bool o, .bool fd]) (by simp [results, Try.results15, go_sem, hc, hz]) rfl ⟨rfl, ?_⟩
    repeat' (first | (with_reducible exact hB) | (with_reducible refine Below.drew ?_) | (with_reducible refine Below.setCell ?_ ?_ _) | (with_reducible refine Below.alloc ?_ ?_ _) | (simp <;> omega))


/-- What a shift by none, or of no such operation, tells. -/
theorem do_none (op : Int) (fc fp fz fs fo fd : Bool) (v n : Int) (hn : bits .and .u32 n 31 = 0) (w : World) :
    Calls Try.prog 9 #[.int .i64 op, .agg #[.bool fc, .bool fp, .bool fz, .bool fs, .bool fo, .bool fd], .int .u32 v, .int .u32 n] w fun e w' =>
   e = .returned (.tuple #[.int .u32 v, .agg #[.bool fc, .bool fp, .bool fz, .bool fs, .bool fo, .bool fd]]) ∧ Below w.heap.size w w' := by
  go_enter Try.func9, Try.ntmps9
  go_wp2
  go_region
  all_goals
    go_wp2
    refine bodyPost_ret (v := .tuple #[.int .u32 v, .agg #[.bool fc, .bool fp, .bool fz, .bool fs, .bool fo, .bool fd]]) (by simp [results, Try.results9, go_sem]) rfl ⟨rfl, ?_⟩
    repeat' (first | (with_reducible exact Below.refl _ _) | (with_reducible refine Below.drew ?_) | (with_reducible refine Below.setCell ?_ ?_ _) | (with_reducible refine Below.alloc ?_ ?_ _) | (simp <;> omega))
end Go.Proofs.Ytceahlpchlepaaa
