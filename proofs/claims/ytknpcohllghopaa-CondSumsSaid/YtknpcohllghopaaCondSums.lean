/- What conditions say of two numbers that were taken from one another. -/
import Derived.Test.YtknpcohllghopaaKnown5
import Derived.Test.YtknpcohllghopaaShut
import Derived.Test.YtknpcohllghopaaCarry
import Derived.Deep.RegionHeld3
import Derived.IntWalk
namespace Go.Proofs.Ytknpcohllghopaa
open Go.ChangeShapes Go.WideShapes Go.ChangeAt Go.RowKit

/-- The sixteen conditions of a difference, as numbers say them. -/
def sumTab (a b : Int) (S O : Bool) : List Bool := [O, !O, decide (a < b), decide (b ≤ a), a == b, a != b, decide (a ≤ b), decide (b < a), S, !S, false, true, decide (wrap32 a < wrap32 b), decide (wrap32 b ≤ wrap32 a), decide (wrap32 a ≤ wrap32 b), decide (wrap32 b < wrap32 a)]
def sumS (a b : Int) : Bool := decide (2147483648 ≤ (a - b) % 4294967296)
def sumO (a b : Int) : Bool := (decide (2147483648 ≤ a) != decide (2147483648 ≤ b)) && (decide (2147483648 ≤ a) != decide (2147483648 ≤ (a - b) % 4294967296))
theorem top_bit (v : Int) (h0 : 0 ≤ v) (h1 : v < 4294967296) : (v / 2147483648 == 1) = decide (2147483648 ≤ v) := by
  rw [Bool.eq_iff_iff, beq_iff_eq, decide_eq_true_eq]; omega
theorem top_xor (u v : Int) (h0 : 0 ≤ u) (h1 : u < 4294967296) (k0 : 0 ≤ v) (k1 : v < 4294967296) : (bits .xor .u32 u v / 2147483648 == 1) = (decide (2147483648 ≤ u) != decide (2147483648 ≤ v)) := by
  have hb := bt_xor u v 31 h0 h1 k0 k1
  have x0 := xor_lo u v h0 h1 k0 k1
  have x1 := xor_hi u v h0 h1 k0 k1
  rw [top_bit _ x0 x1]
  have e : ∀ y : Int, 0 ≤ y → y < 4294967296 → bt y 31 = decide (2147483648 ≤ y) := by
    intro y y0 y1; unfold bt; rw [Bool.eq_iff_iff, decide_eq_true_eq, decide_eq_true_eq]; omega
  rw [e _ x0 x1, e _ h0 h1, e _ k0 k1] at hb
  exact hb
theorem sum_less (a b : Int) (a0 : 0 ≤ a) (a1 : a < 4294967296) (b0 : 0 ≤ b) (b1 : b < 4294967296) : (sumS a b != sumO a b) = decide (wrap32 a < wrap32 b) := by
  unfold sumS sumO wrap32
  rw [Bool.eq_iff_iff]
  by_cases h1 : 2147483648 ≤ a <;> by_cases h2 : 2147483648 ≤ b <;> by_cases h3 : 2147483648 ≤ (a - b) % 4294967296 <;> simp [h1, h2, h3] <;> omega
theorem wrap_eq (a b : Int) (a0 : 0 ≤ a) (a1 : a < 4294967296) (b0 : 0 ≤ b) (b1 : b < 4294967296) : wrap32 a = wrap32 b ↔ a = b := by
  unfold wrap32; omega
theorem bf (x : Bool) : (x != false) = x := by cases x <;> rfl
theorem bt' (x : Bool) : (x != true) = !x := by cases x <;> rfl
theorem sum_holds (a b : Int) (a0 : 0 ≤ a) (a1 : a < 4294967296) (b0 : 0 ≤ b) (b1 : b < 4294967296) (i : Nat) (hi : i < 16) :
    condH (i : Int) (decide (a < b)) false (a == b) (sumS a b) (sumO a b) = (sumTab a b (sumS a b) (sumO a b)).getD i false := by
  rw [condH_in _ _ _ _ _ _ (by omega) (by omega)]
  have hl := sum_less a b a0 a1 b0 b1
  have he := wrap_eq a b a0 a1 b0 b1
  have e6 : (decide (a < b) || a == b) = decide (a ≤ b) := by rw [Bool.eq_iff_iff]; simp; omega
  have e14 : (a == b || decide (wrap32 a < wrap32 b)) = decide (wrap32 a ≤ wrap32 b) := by rw [Bool.eq_iff_iff]; simp; omega
  have n1 : ∀ x y : Int, (!decide (x < y)) = decide (y ≤ x) := by intro x y; rw [Bool.eq_iff_iff]; simp
  have n2 : ∀ x y : Int, (!decide (x ≤ y)) = decide (y < x) := by intro x y; rw [Bool.eq_iff_iff]; simp
  have n3 : (a != b) = !(a == b) := rfl
  unfold condP sumTab
  generalize sumS a b = S at *
  generalize sumO a b = O at *
  obtain rfl | rfl | rfl | rfl | rfl | rfl | rfl | rfl | rfl | rfl | rfl | rfl | rfl | rfl | rfl | rfl : i = 0 ∨ i = 1 ∨ i = 2 ∨ i = 3 ∨ i = 4 ∨ i = 5 ∨ i = 6 ∨ i = 7 ∨ i = 8 ∨ i = 9 ∨ i = 10 ∨ i = 11 ∨ i = 12 ∨ i = 13 ∨ i = 14 ∨ i = 15 := by omega
  · show (O != false) = O
    exact bf _
  · show (O != true) = !O
    exact bt' _
  · show (decide (a < b) != false) = decide (a < b)
    exact bf _
  · show (decide (a < b) != true) = decide (b ≤ a)
    rw [bt', n1]
  · show ((a == b) != false) = (a == b)
    exact bf _
  · show ((a == b) != true) = (a != b)
    rw [bt', n3]
  · show ((decide (a < b) || a == b) != false) = decide (a ≤ b)
    rw [bf, e6]
  · show ((decide (a < b) || a == b) != true) = decide (b < a)
    rw [bt', e6, n2]
  · show (S != false) = S
    exact bf _
  · show (S != true) = !S
    exact bt' _
  · rfl
  · rfl
  · show ((S != O) != false) = decide (wrap32 a < wrap32 b)
    rw [bf, hl]
  · show ((S != O) != true) = decide (wrap32 b ≤ wrap32 a)
    rw [bt', hl, n1]
  · show ((a == b || (S != O)) != false) = decide (wrap32 a ≤ wrap32 b)
    rw [bf, hl, e14]
  · show ((a == b || (S != O)) != true) = decide (wrap32 b < wrap32 a)
    rw [bt', hl, e14, n2]
attribute [local go_sem] isSome_setCell
set_option maxRecDepth 100000 in
set_option maxHeartbeats 4000000 in
theorem csums_walk (a b : Int) (w : World) (a0 : 0 ≤ a) (a1 : a < 4294967296) (b0 : 0 ≤ b) (b1 : b < 4294967296) :
    Calls Try.prog 5 #[.int .u32 a, .int .u32 b] w fun e w' => e = .returned (.bool true) ∧ Below w.heap.size w w' := by
  have d0 : 0 ≤ (a - b) % 4294967296 := by omega
  have d1 : (a - b) % 4294967296 < 4294967296 := by omega
  have hT := Lib.hid (sum_holds a b a0 a1 b0 b1)
  have hX := top_xor a b a0 a1 b0 b1
  have hY := top_xor a _ a0 a1 d0 d1
  have hS := top_bit _ d0 d1
  have hO := Lib.hid (show sumO a b = ((decide (2147483648 ≤ a) != decide (2147483648 ≤ b)) && (decide (2147483648 ≤ a) != decide (2147483648 ≤ (a - b) % 4294967296))) from rfl)
  have hS' := Lib.hid (show sumS a b = decide (2147483648 ≤ (a - b) % 4294967296) from rfl)
  generalize (decide (2147483648 ≤ a) != decide (2147483648 ≤ b)) = X at *
  generalize (decide (2147483648 ≤ a) != decide (2147483648 ≤ (a - b) % 4294967296)) = Y at *
  generalize decide (2147483648 ≤ (a - b) % 4294967296) = S at *
  rw [hS'.out] at hT
  have hT' : ∀ O : Bool, O = (X && Y) → ∀ i : Nat, i < 16 → condH (i : Int) (decide (a < b)) false (a == b) S O = (sumTab a b S O).getD i false := by
    intro O h i hi; rw [h, ← hO.out]; exact hT.out i hi
  have hTT := Lib.hid hT'
  clear hT' hT hO hS' d0 d1
  cases X
  · have hH : ∀ i : Nat, i < 16 → condH (i : Int) (decide (a < b)) false (a == b) S false = (sumTab a b S false).getD i false := hTT.out false rfl
    have hHH := Lib.hid hH
    clear hH hTT
    go_enter Try.func5, Try.ntmps5
    go_wp2_with (go_at_call 6; refine (known5_any _).mono ?_; rintro e w0 ⟨rfl, B0⟩)
    go_loopw [10] (fun x wr => ∃ i : Nat, i ≤ 16 ∧ x = .int .i64 i ∧ Below (w0.heap.size + 2) ((w0.alloc (.cells #[.bool (decide (a < b)), .bool false, .bool (a == b), .bool S, .bool false, .bool false] 23)).alloc (.cells #[.bool (false), .bool (true), .bool (decide (a < b)), .bool (decide (b ≤ a)), .bool (a == b), .bool (a != b), .bool (decide (a ≤ b)), .bool (decide (b < a)), .bool (S), .bool (!S), .bool (false), .bool (true), .bool (decide (wrap32 a < wrap32 b)), .bool (decide (wrap32 b ≤ wrap32 a)), .bool (decide (wrap32 a ≤ wrap32 b)), .bool (decide (wrap32 b < wrap32 a))] 4)) wr) (fun x _ => 16 - (intOf x).toNat)
    case atStart => exact ⟨0, by omega, rfl, Below.refl _ _⟩
    case round =>
      obtain ⟨i, hi, rfl, hr⟩ := hrel
      have hB : Below w.heap.size w wr := ((B0.alloc B0.size _).alloc (by have := B0.size; simp; omega) _).trans (hr.mono (by have := B0.size; omega))
      by_cases hlt : i < 16
      · have hc6 : wr.cell? ⟨w0.heap.size + 1, i, none⟩ = some (.bool ((sumTab a b S false).getD i false)) := by
          rw [hr.cell (by simp)]
          obtain rfl | rfl | rfl | rfl | rfl | rfl | rfl | rfl | rfl | rfl | rfl | rfl | rfl | rfl | rfl | rfl : i = 0 ∨ i = 1 ∨ i = 2 ∨ i = 3 ∨ i = 4 ∨ i = 5 ∨ i = 6 ∨ i = 7 ∨ i = 8 ∨ i = 9 ∨ i = 10 ∨ i = 11 ∨ i = 12 ∨ i = 13 ∨ i = 14 ∨ i = 15 := by omega
          all_goals simp [sumTab]
        have hC := cholds_any (i : Int) (decide (a < b)) false (a == b) S false false (by omega) (by omega)
        rw [hHH.out i hlt] at hC
        generalize (sumTab a b S false).getD i false = B at *
        have hc0 : wr.cell? ⟨w0.heap.size, 0, none⟩ = some (.bool (decide (a < b))) := by rw [hr.cell (by simp)]; simp
        have hc1 : wr.cell? ⟨w0.heap.size, 1, none⟩ = some (.bool false) := by rw [hr.cell (by simp)]; simp
        have hc2 : wr.cell? ⟨w0.heap.size, 2, none⟩ = some (.bool (a == b)) := by rw [hr.cell (by simp)]; simp
        have hc3 : wr.cell? ⟨w0.heap.size, 3, none⟩ = some (.bool S) := by rw [hr.cell (by simp)]; simp
        have hc4 : wr.cell? ⟨w0.heap.size, 4, none⟩ = some (.bool false) := by rw [hr.cell (by simp)]; simp
        have hc5 : wr.cell? ⟨w0.heap.size, 5, none⟩ = some (.bool false) := by rw [hr.cell (by simp)]; simp
        have hS4 := hB.size
        have hS5 : w0.heap.size + 2 ≤ wr.heap.size := by simpa using hr.size
        obtain ⟨wo, hwo⟩ : ∃ wo : World, wo = wr := ⟨_, rfl⟩
        rw [← hwo] at hr hB hc0 hc1 hc2 hc3 hc4 hc5 hc6 hS4 hS5 ⊢
        clear hwo
        have hd : decide ((i : Int) < 16) = true := by simp; omega
        have hi16 : (i : Int) < 16 := by omega
        have hK : ∀ (fn : FuncId) (args : Array Value) (v : Value), (∀ w, Calls Try.prog fn args w fun e w' => e = .returned v ∧ Below w.heap.size w w') → ∀ u : World, (Below w.heap.size w u ∧ w.heap.size ≤ u.heap.size ∧ Below (w0.heap.size + 2) ((w0.alloc (.cells #[.bool (decide (a < b)), .bool false, .bool (a == b), .bool S, .bool false, .bool false] 23)).alloc (.cells #[.bool (false), .bool (true), .bool (decide (a < b)), .bool (decide (b ≤ a)), .bool (a == b), .bool (a != b), .bool (decide (a ≤ b)), .bool (decide (b < a)), .bool (S), .bool (!S), .bool (false), .bool (true), .bool (decide (wrap32 a < wrap32 b)), .bool (decide (wrap32 b ≤ wrap32 a)), .bool (decide (wrap32 a ≤ wrap32 b)), .bool (decide (wrap32 b < wrap32 a))] 4)) u ∧ w0.heap.size + 2 ≤ u.heap.size ∧ u.cell? ⟨w0.heap.size, 0, none⟩ = some (.bool (decide (a < b))) ∧ u.cell? ⟨w0.heap.size, 1, none⟩ = some (.bool false) ∧ u.cell? ⟨w0.heap.size, 2, none⟩ = some (.bool (a == b)) ∧ u.cell? ⟨w0.heap.size, 3, none⟩ = some (.bool S) ∧ u.cell? ⟨w0.heap.size, 4, none⟩ = some (.bool false) ∧ u.cell? ⟨w0.heap.size, 5, none⟩ = some (.bool false) ∧ u.cell? ⟨w0.heap.size + 1, i, none⟩ = some (.bool B)) → Calls Try.prog fn args u fun e u' => e = .returned v ∧ (Below w.heap.size w u' ∧ w.heap.size ≤ u'.heap.size ∧ Below (w0.heap.size + 2) ((w0.alloc (.cells #[.bool (decide (a < b)), .bool false, .bool (a == b), .bool S, .bool false, .bool false] 23)).alloc (.cells #[.bool (false), .bool (true), .bool (decide (a < b)), .bool (decide (b ≤ a)), .bool (a == b), .bool (a != b), .bool (decide (a ≤ b)), .bool (decide (b < a)), .bool (S), .bool (!S), .bool (false), .bool (true), .bool (decide (wrap32 a < wrap32 b)), .bool (decide (wrap32 b ≤ wrap32 a)), .bool (decide (wrap32 a ≤ wrap32 b)), .bool (decide (wrap32 b < wrap32 a))] 4)) u' ∧ w0.heap.size + 2 ≤ u'.heap.size ∧ u'.cell? ⟨w0.heap.size, 0, none⟩ = some (.bool (decide (a < b))) ∧ u'.cell? ⟨w0.heap.size, 1, none⟩ = some (.bool false) ∧ u'.cell? ⟨w0.heap.size, 2, none⟩ = some (.bool (a == b)) ∧ u'.cell? ⟨w0.heap.size, 3, none⟩ = some (.bool S) ∧ u'.cell? ⟨w0.heap.size, 4, none⟩ = some (.bool false) ∧ u'.cell? ⟨w0.heap.size, 5, none⟩ = some (.bool false) ∧ u'.cell? ⟨w0.heap.size + 1, i, none⟩ = some (.bool B)) := fun _ _ _ h u hu => carry7 h u hu
        go_wp2_with fail
        go_region_held3 (fun w' => Below w.heap.size w w' ∧ w.heap.size ≤ w'.heap.size ∧ Below (w0.heap.size + 2) ((w0.alloc (.cells #[.bool (decide (a < b)), .bool false, .bool (a == b), .bool S, .bool false, .bool false] 23)).alloc (.cells #[.bool (false), .bool (true), .bool (decide (a < b)), .bool (decide (b ≤ a)), .bool (a == b), .bool (a != b), .bool (decide (a ≤ b)), .bool (decide (b < a)), .bool (S), .bool (!S), .bool (false), .bool (true), .bool (decide (wrap32 a < wrap32 b)), .bool (decide (wrap32 b ≤ wrap32 a)), .bool (decide (wrap32 a ≤ wrap32 b)), .bool (decide (wrap32 b < wrap32 a))] 4)) w' ∧ w0.heap.size + 2 ≤ w'.heap.size ∧ w'.cell? ⟨w0.heap.size, 0, none⟩ = some (.bool (decide (a < b))) ∧ w'.cell? ⟨w0.heap.size, 1, none⟩ = some (.bool false) ∧ w'.cell? ⟨w0.heap.size, 2, none⟩ = some (.bool (a == b)) ∧ w'.cell? ⟨w0.heap.size, 3, none⟩ = some (.bool S) ∧ w'.cell? ⟨w0.heap.size, 4, none⟩ = some (.bool false) ∧ w'.cell? ⟨w0.heap.size, 5, none⟩ = some (.bool false) ∧ w'.cell? ⟨w0.heap.size + 1, i, none⟩ = some (.bool B)) (first | (exact ⟨hB.drew, by simpa using hS4, hr.drew, by simpa using hS5, by simpa using hc0, by simpa using hc1, by simpa using hc2, by simpa using hc3, by simpa using hc4, by simpa using hc5, by simpa using hc6⟩) | assumption | go_keep)
          (first | (go_at_call 7; (with_reducible refine (hK _ _ _ hC _ ?_).mono ?_); (first | assumption | simp [*]); rintro e w' ⟨rfl, hS'⟩))
        all_goals
          obtain ⟨_, _, e1, _⟩ := hS'
          clear hK hc0 hc1 hc2 hc3 hc4 hc5 hc6
          go_wp2_with fail
          go_roundw
          case rel => exact ⟨i + 1, by omega, by go_num, e1⟩
          case measure => simp [intOf]; omega
      · obtain rfl : i = 16 := by omega
        go_wp2_with fail
        go_ret
        exact ⟨rfl, hB⟩
  
  · have hH : ∀ i : Nat, i < 16 → condH (i : Int) (decide (a < b)) false (a == b) S Y = (sumTab a b S Y).getD i false := hTT.out Y rfl
    have hHH := Lib.hid hH
    clear hH hTT
    go_enter Try.func5, Try.ntmps5
    go_wp2_with (go_at_call 6; refine (known5_any _).mono ?_; rintro e w0 ⟨rfl, B0⟩)
    go_loopw [10] (fun x wr => ∃ i : Nat, i ≤ 16 ∧ x = .int .i64 i ∧ Below (w0.heap.size + 2) ((w0.alloc (.cells #[.bool (decide (a < b)), .bool false, .bool (a == b), .bool S, .bool Y, .bool false] 23)).alloc (.cells #[.bool (Y), .bool (!Y), .bool (decide (a < b)), .bool (decide (b ≤ a)), .bool (a == b), .bool (a != b), .bool (decide (a ≤ b)), .bool (decide (b < a)), .bool (S), .bool (!S), .bool (false), .bool (true), .bool (decide (wrap32 a < wrap32 b)), .bool (decide (wrap32 b ≤ wrap32 a)), .bool (decide (wrap32 a ≤ wrap32 b)), .bool (decide (wrap32 b < wrap32 a))] 4)) wr) (fun x _ => 16 - (intOf x).toNat)
    case atStart => exact ⟨0, by omega, rfl, Below.refl _ _⟩
    case round =>
      obtain ⟨i, hi, rfl, hr⟩ := hrel
      have hB : Below w.heap.size w wr := ((B0.alloc B0.size _).alloc (by have := B0.size; simp; omega) _).trans (hr.mono (by have := B0.size; omega))
      by_cases hlt : i < 16
      · have hc6 : wr.cell? ⟨w0.heap.size + 1, i, none⟩ = some (.bool ((sumTab a b S Y).getD i false)) := by
          rw [hr.cell (by simp)]
          obtain rfl | rfl | rfl | rfl | rfl | rfl | rfl | rfl | rfl | rfl | rfl | rfl | rfl | rfl | rfl | rfl : i = 0 ∨ i = 1 ∨ i = 2 ∨ i = 3 ∨ i = 4 ∨ i = 5 ∨ i = 6 ∨ i = 7 ∨ i = 8 ∨ i = 9 ∨ i = 10 ∨ i = 11 ∨ i = 12 ∨ i = 13 ∨ i = 14 ∨ i = 15 := by omega
          all_goals simp [sumTab]
        have hC := cholds_any (i : Int) (decide (a < b)) false (a == b) S Y false (by omega) (by omega)
        rw [hHH.out i hlt] at hC
        generalize (sumTab a b S Y).getD i false = B at *
        have hc0 : wr.cell? ⟨w0.heap.size, 0, none⟩ = some (.bool (decide (a < b))) := by rw [hr.cell (by simp)]; simp
        have hc1 : wr.cell? ⟨w0.heap.size, 1, none⟩ = some (.bool false) := by rw [hr.cell (by simp)]; simp
        have hc2 : wr.cell? ⟨w0.heap.size, 2, none⟩ = some (.bool (a == b)) := by rw [hr.cell (by simp)]; simp
        have hc3 : wr.cell? ⟨w0.heap.size, 3, none⟩ = some (.bool S) := by rw [hr.cell (by simp)]; simp
        have hc4 : wr.cell? ⟨w0.heap.size, 4, none⟩ = some (.bool Y) := by rw [hr.cell (by simp)]; simp
        have hc5 : wr.cell? ⟨w0.heap.size, 5, none⟩ = some (.bool false) := by rw [hr.cell (by simp)]; simp
        have hS4 := hB.size
        have hS5 : w0.heap.size + 2 ≤ wr.heap.size := by simpa using hr.size
        obtain ⟨wo, hwo⟩ : ∃ wo : World, wo = wr := ⟨_, rfl⟩
        rw [← hwo] at hr hB hc0 hc1 hc2 hc3 hc4 hc5 hc6 hS4 hS5 ⊢
        clear hwo
        have hd : decide ((i : Int) < 16) = true := by simp; omega
        have hi16 : (i : Int) < 16 := by omega
        have hK : ∀ (fn : FuncId) (args : Array Value) (v : Value), (∀ w, Calls Try.prog fn args w fun e w' => e = .returned v ∧ Below w.heap.size w w') → ∀ u : World, (Below w.heap.size w u ∧ w.heap.size ≤ u.heap.size ∧ Below (w0.heap.size + 2) ((w0.alloc (.cells #[.bool (decide (a < b)), .bool false, .bool (a == b), .bool S, .bool Y, .bool false] 23)).alloc (.cells #[.bool (Y), .bool (!Y), .bool (decide (a < b)), .bool (decide (b ≤ a)), .bool (a == b), .bool (a != b), .bool (decide (a ≤ b)), .bool (decide (b < a)), .bool (S), .bool (!S), .bool (false), .bool (true), .bool (decide (wrap32 a < wrap32 b)), .bool (decide (wrap32 b ≤ wrap32 a)), .bool (decide (wrap32 a ≤ wrap32 b)), .bool (decide (wrap32 b < wrap32 a))] 4)) u ∧ w0.heap.size + 2 ≤ u.heap.size ∧ u.cell? ⟨w0.heap.size, 0, none⟩ = some (.bool (decide (a < b))) ∧ u.cell? ⟨w0.heap.size, 1, none⟩ = some (.bool false) ∧ u.cell? ⟨w0.heap.size, 2, none⟩ = some (.bool (a == b)) ∧ u.cell? ⟨w0.heap.size, 3, none⟩ = some (.bool S) ∧ u.cell? ⟨w0.heap.size, 4, none⟩ = some (.bool Y) ∧ u.cell? ⟨w0.heap.size, 5, none⟩ = some (.bool false) ∧ u.cell? ⟨w0.heap.size + 1, i, none⟩ = some (.bool B)) → Calls Try.prog fn args u fun e u' => e = .returned v ∧ (Below w.heap.size w u' ∧ w.heap.size ≤ u'.heap.size ∧ Below (w0.heap.size + 2) ((w0.alloc (.cells #[.bool (decide (a < b)), .bool false, .bool (a == b), .bool S, .bool Y, .bool false] 23)).alloc (.cells #[.bool (Y), .bool (!Y), .bool (decide (a < b)), .bool (decide (b ≤ a)), .bool (a == b), .bool (a != b), .bool (decide (a ≤ b)), .bool (decide (b < a)), .bool (S), .bool (!S), .bool (false), .bool (true), .bool (decide (wrap32 a < wrap32 b)), .bool (decide (wrap32 b ≤ wrap32 a)), .bool (decide (wrap32 a ≤ wrap32 b)), .bool (decide (wrap32 b < wrap32 a))] 4)) u' ∧ w0.heap.size + 2 ≤ u'.heap.size ∧ u'.cell? ⟨w0.heap.size, 0, none⟩ = some (.bool (decide (a < b))) ∧ u'.cell? ⟨w0.heap.size, 1, none⟩ = some (.bool false) ∧ u'.cell? ⟨w0.heap.size, 2, none⟩ = some (.bool (a == b)) ∧ u'.cell? ⟨w0.heap.size, 3, none⟩ = some (.bool S) ∧ u'.cell? ⟨w0.heap.size, 4, none⟩ = some (.bool Y) ∧ u'.cell? ⟨w0.heap.size, 5, none⟩ = some (.bool false) ∧ u'.cell? ⟨w0.heap.size + 1, i, none⟩ = some (.bool B)) := fun _ _ _ h u hu => carry7 h u hu
        go_wp2_with fail
        go_region_held3 (fun w' => Below w.heap.size w w' ∧ w.heap.size ≤ w'.heap.size ∧ Below (w0.heap.size + 2) ((w0.alloc (.cells #[.bool (decide (a < b)), .bool false, .bool (a == b), .bool S, .bool Y, .bool false] 23)).alloc (.cells #[.bool (Y), .bool (!Y), .bool (decide (a < b)), .bool (decide (b ≤ a)), .bool (a == b), .bool (a != b), .bool (decide (a ≤ b)), .bool (decide (b < a)), .bool (S), .bool (!S), .bool (false), .bool (true), .bool (decide (wrap32 a < wrap32 b)), .bool (decide (wrap32 b ≤ wrap32 a)), .bool (decide (wrap32 a ≤ wrap32 b)), .bool (decide (wrap32 b < wrap32 a))] 4)) w' ∧ w0.heap.size + 2 ≤ w'.heap.size ∧ w'.cell? ⟨w0.heap.size, 0, none⟩ = some (.bool (decide (a < b))) ∧ w'.cell? ⟨w0.heap.size, 1, none⟩ = some (.bool false) ∧ w'.cell? ⟨w0.heap.size, 2, none⟩ = some (.bool (a == b)) ∧ w'.cell? ⟨w0.heap.size, 3, none⟩ = some (.bool S) ∧ w'.cell? ⟨w0.heap.size, 4, none⟩ = some (.bool Y) ∧ w'.cell? ⟨w0.heap.size, 5, none⟩ = some (.bool false) ∧ w'.cell? ⟨w0.heap.size + 1, i, none⟩ = some (.bool B)) (first | (exact ⟨hB.drew, by simpa using hS4, hr.drew, by simpa using hS5, by simpa using hc0, by simpa using hc1, by simpa using hc2, by simpa using hc3, by simpa using hc4, by simpa using hc5, by simpa using hc6⟩) | assumption | go_keep)
          (first | (go_at_call 7; (with_reducible refine (hK _ _ _ hC _ ?_).mono ?_); (first | assumption | simp [*]); rintro e w' ⟨rfl, hS'⟩))
        all_goals
          obtain ⟨_, _, e1, _⟩ := hS'
          clear hK hc0 hc1 hc2 hc3 hc4 hc5 hc6
          go_wp2_with fail
          go_roundw
          case rel => exact ⟨i + 1, by omega, by go_num, e1⟩
          case measure => simp [intOf]; omega
      · obtain rfl : i = 16 := by omega
        go_wp2_with fail
        go_ret
        exact ⟨rfl, hB⟩

theorem condSums_own : ownKnob Try.prog.godebug = none := by kernel_rfl
set_option maxRecDepth 100000 in
theorem condSums_lifted (os : Os) (started : os.Started) (H : Type) (enc : TypeId × Value → H) :
    ReturnsInHanded {} Try.checked os 5 .any (Rows.condSumsSpec.pre6 enc Try.prog Try.f5 Rows.condSumsRow.domain false) (Rows.condSumsSpec.post enc Try.prog Try.f5 false true false false) := by
  refine returnsInHanded_of_change (C := Try.checked) condSums_own started (by kernel_rfl) Try.func5
    (ChangeSpec.witness6 (enc := enc) (C := Try.checked) false ⟨#[], #[.int .u32 0, .int .u32 0], []⟩ 8 (by kernel_rfl) (by kernel_rfl) (by kernel_rfl) (by kernel_rfl)) ?_
  intro W base args ds gs before hval0 hW hcnd _
  have hval : ∀ (j : Nat) t v, Try.f5.params[j]? = some t → args[j]? = some v → Value.okWide Try.prog W .any base t v := hval0
  have hW' := hW
  obtain ⟨p, q, hA0, hV, rfl, hfz, hnd⟩ := hW
  have hA : DataW.TrodAll enc Try.prog W 0 (fun _ => true) true Try.f5.params.toList args.toList ds p := hA0
  rw [Try.params5] at hA hval
  obtain ⟨v0, vs0, d0, ds0, p0, q0, hargs, rfl, rfl, h0, r0⟩ := trodAll_cons hA
  obtain ⟨v1, vs1, d1, ds1, p1, q1, rfl, rfl, rfl, h1, r1⟩ := trodAll_cons r0
  obtain ⟨rfl, rfl, rfl⟩ := trodAll_nil r1
  obtain rfl : args = #[v0, v1] := by cases args; simp_all
  obtain ⟨rfl, rfl⟩ := trodVars_none hV
  obtain ⟨a0, rfl, rfl, rfl, w0⟩ := open_int Try.underlying28 (hval 0 28 v0 rfl rfl) h0
  obtain ⟨a1, rfl, rfl, rfl, w1⟩ := open_int Try.underlying28 (hval 1 28 v1 rfl rfl) h1
  clear hA0 hval0
  simp only [List.append_nil] at hW'
  have b0 : 0 ≤ a0 ∧ a0 < 4294967296 := by
    have h := w0
    simp only [Lit.wf, Bool.and_eq_true, decide_eq_true_eq] at h
    have e1 : IntKind.u32.min = 0 := by decide
    have e2 : IntKind.u32.max = 4294967295 := by decide
    omega
  have b1 : 0 ≤ a1 ∧ a1 < 4294967296 := by
    have h := w1
    simp only [Lit.wf, Bool.and_eq_true, decide_eq_true_eq] at h
    have e1 : IntKind.u32.min = 0 := by decide
    have e2 : IntKind.u32.max = 4294967295 := by decide
    omega
  refine (csums_walk a0 a1 W b0.1 b0.2 b1.1 b1.2).mono fun e W' ⟨he, hg⟩ => ?_
  subst he
  exact ⟨_, rfl, post_plain hW' hg (fun sp => (trodAll_cons_mk (shut_int Try.underlying28 w0) (trodAll_cons_mk (shut_int Try.underlying28 w1) trodAll_mk0))) (fun _ => rfl)
    (fun _ _ _ => (trodAll_cons_mk (shut_bool Try.underlying4 _) trodAll_mk0)) (ok_one (by kernel_rfl) rfl (okWide_bool_mk Try.underlying4 _))⟩

theorem condSums_holds : Rows.CondSumsSaid :=
  OpenClaim.holds_of_wide 5 Try.f5 rfl rfl rfl rfl rfl rfl rfl ⟨rfl, rfl, rfl, rfl, rfl⟩ rfl rfl rfl rfl rfl (by kernel_rfl) Try.func5 (by kernel_rfl)
    (of_decide_eq_true (by kernel_rfl)) (by unfold Func.isWrapper; first | (rw [if_pos (by decide +kernel)]; kernel_rfl) | (rw [if_neg (by decide +kernel)]; exact ⟨rfl, rfl⟩))
    (fun os started H enc _ => condSums_lifted os started H enc)
#print axioms condSums_holds
end Go.Proofs.Ytknpcohllghopaa
