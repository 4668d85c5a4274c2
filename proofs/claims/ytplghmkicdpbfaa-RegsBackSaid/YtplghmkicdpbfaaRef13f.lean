/- The document's registers (package salternref13): the word of flags, and back. -/
import Derived.Test.YtplghmkicdpbfaaRef13
import Derived.Test.YtplghmkicdpbfaaAnsw
namespace Go.Proofs.Ytplghmkicdpbfaa
open Go.ChangeShapes Go.WideShapes Go.ChangeAt Go.RowKit

def plN (i : Nat) : Nat := [0, 2, 6, 7, 10, 11].getD i 0
def flB (c p z s o d : Bool) (i : Nat) : Bool := [c, p, z, s, d, o].getD i false
def wordK (c p z s o d : Bool) : Nat → Int
  | 0 => 2
  | k + 1 => wordK c p z s o d k + if flB c p z s o d k then 2 ^ plN k else 0
/-- a bit of a word -/
def bitB (v : Int) (i : Nat) : Bool := v / 2 ^ plN i % 2 == 1
theorem word_or : ∀ c p z s o d : Bool, ∀ k, k < 6 → bits .or .u32 (wordK c p z s o d k) (2 ^ plN k) = wordK c p z s o d k + 2 ^ plN k := by decide +kernel
theorem word_lt : ∀ c p z s o d : Bool, ∀ k, k < 7 → 0 ≤ wordK c p z s o d k ∧ wordK c p z s o d k < 4294967296 := by decide +kernel
theorem and1w (a : Int) (h0 : 0 ≤ a) (h1 : a < 4294967296) : bits .and .u32 a 1 = a % 2 := by
  rw [u32_and a 1 h0 h1 (by decide) (by decide)]
  have h : a.toNat &&& (1 : Int).toNat = a.toNat % 2 := Nat.and_two_pow_sub_one_eq_mod a.toNat 1
  rw [h]
  omega
def plA : Array Value := #[.int .i64 0, .int .i64 2, .int .i64 6, .int .i64 7, .int .i64 10, .int .i64 11]
set_option maxRecDepth 100000 in
set_option maxHeartbeats 4000000 in
theorem rplaces_any (w : World) : Calls Try.prog 20 #[] w fun e w' => e = .returned (.slice (some ⟨w.heap.size, 0, none⟩) 6 6) ∧ w' = w.alloc (.cells plA 3) := by
  go_enter Try.func20, Try.ntmps20
  go_wp2
  go_ret
  exact ⟨rfl, rfl⟩
set_option maxRecDepth 100000 in
set_option maxHeartbeats 4000000 in
theorem ron_any (v : Int) (v0 : 0 ≤ v) (v1 : v < 4294967296) (i : Nat) (hi : i < 6) (w : World) : Calls Try.prog 22 #[.int .u32 v, .int .i64 i] w fun e w' => e = .returned (.bool (bitB v i)) ∧ Below w.heap.size w w' := by
  have hc : ∀ k, (w.alloc (.cells plA 3)).cell? ⟨w.heap.size, k, none⟩ = plA[k]? := fun k => World.cell?_alloc_new _ _ _ _
  have HC := Lib.hid hc
  clear hc
  rcases (show i = 0 ∨ i = 1 ∨ i = 2 ∨ i = 3 ∨ i = 4 ∨ i = 5 by omega) with rfl | rfl | rfl | rfl | rfl | rfl
  · have hc := HC.out 0
    have a1 := and1w (v) (by omega) (by omega)
    have HB := Lib.hid (show bitB v 0 = (v % 2 == 1) by unfold bitB; rw [show (2 : Int) ^ plN 0 = 1 from rfl]; rw [Int.ediv_one])
    go_enter Try.func22, Try.ntmps22
    go_wp2_with fail
    ((with_reducible refine (rplaces_any _).mono ?_); rintro e w' ⟨rfl, rfl⟩)
    unfold plA at hc ⊢
    go_wp2_with fail
    go_ret
    exact ⟨by rw [HB.out]; rfl, below_last (Below.refl _ _) _⟩
  · have hc := HC.out 1
    have a1 := and1w (v / 4) (by omega) (by omega)
    have HB := Lib.hid (show bitB v 1 = (v / 4 % 2 == 1) by unfold bitB; rw [show (2 : Int) ^ plN 1 = 4 from rfl])
    go_enter Try.func22, Try.ntmps22
    go_wp2_with fail
    ((with_reducible refine (rplaces_any _).mono ?_); rintro e w' ⟨rfl, rfl⟩)
    unfold plA at hc ⊢
    go_wp2_with fail
    go_ret
    exact ⟨by rw [HB.out]; rfl, below_last (Below.refl _ _) _⟩
  · have hc := HC.out 2
    have a1 := and1w (v / 64) (by omega) (by omega)
    have HB := Lib.hid (show bitB v 2 = (v / 64 % 2 == 1) by unfold bitB; rw [show (2 : Int) ^ plN 2 = 64 from rfl])
    go_enter Try.func22, Try.ntmps22
    go_wp2_with fail
    ((with_reducible refine (rplaces_any _).mono ?_); rintro e w' ⟨rfl, rfl⟩)
    unfold plA at hc ⊢
    go_wp2_with fail
    go_ret
    exact ⟨by rw [HB.out]; rfl, below_last (Below.refl _ _) _⟩
  · have hc := HC.out 3
    have a1 := and1w (v / 128) (by omega) (by omega)
    have HB := Lib.hid (show bitB v 3 = (v / 128 % 2 == 1) by unfold bitB; rw [show (2 : Int) ^ plN 3 = 128 from rfl])
    go_enter Try.func22, Try.ntmps22
    go_wp2_with fail
    ((with_reducible refine (rplaces_any _).mono ?_); rintro e w' ⟨rfl, rfl⟩)
    unfold plA at hc ⊢
    go_wp2_with fail
    go_ret
    exact ⟨by rw [HB.out]; rfl, below_last (Below.refl _ _) _⟩
  · have hc := HC.out 4
    have a1 := and1w (v / 1024) (by omega) (by omega)
    have HB := Lib.hid (show bitB v 4 = (v / 1024 % 2 == 1) by unfold bitB; rw [show (2 : Int) ^ plN 4 = 1024 from rfl])
    go_enter Try.func22, Try.ntmps22
    go_wp2_with fail
    ((with_reducible refine (rplaces_any _).mono ?_); rintro e w' ⟨rfl, rfl⟩)
    unfold plA at hc ⊢
    go_wp2_with fail
    go_ret
    exact ⟨by rw [HB.out]; rfl, below_last (Below.refl _ _) _⟩
  · have hc := HC.out 5
    have a1 := and1w (v / 2048) (by omega) (by omega)
    have HB := Lib.hid (show bitB v 5 = (v / 2048 % 2 == 1) by unfold bitB; rw [show (2 : Int) ^ plN 5 = 2048 from rfl])
    go_enter Try.func22, Try.ntmps22
    go_wp2_with fail
    ((with_reducible refine (rplaces_any _).mono ?_); rintro e w' ⟨rfl, rfl⟩)
    unfold plA at hc ⊢
    go_wp2_with fail
    go_ret
    exact ⟨by rw [HB.out]; rfl, below_last (Below.refl _ _) _⟩
theorem heap_0f (w : World) (o : Obj) : (w.alloc o).heap[w.heap.size]? = some o := by show (w.heap.push _)[w.heap.size]? = _; simp
theorem info_fl : (Try.prog.info? 25).map (·.size) = some 6 := by kernel_rfl
theorem pow_small : ∀ N : Nat, N ≤ 11 → (2 : Int) ^ N % 4294967296 = 2 ^ N := by decide
set_option maxRecDepth 100000 in
set_option maxHeartbeats 8000000 in
theorem rword_any (c p z s o d : Bool) (w : World) : Calls Try.prog 10 #[.agg #[.bool c, .bool p, .bool z, .bool s, .bool o, .bool d]] w fun e w' => e = .returned (.int .u32 (wordK c p z s o d 6)) ∧ Below w.heap.size w w' := by
  go_enter Try.func10, Try.ntmps10
  go_wp2_with fail
  obtain ⟨A, hA⟩ : ∃ A, A = (w.alloc (.cells #[.bool c, .bool p, .bool z, .bool s, .bool o, .bool d] 25)).alloc (.cells #[.bool c, .bool p, .bool z, .bool s, .bool d, .bool o] 4) := ⟨_, rfl⟩
  rw [← hA]
  obtain ⟨_, g2, g3⟩ := heap_two hA
  have HR := Lib.hid g2
  have HBA := Lib.hid g3
  clear hA g2 g3
  go_loopw [3, 5] (fun v3 v5 wr => ∃ k : Nat, k ≤ 6 ∧ v5 = .int .i64 k ∧ v3 = .int .u32 (wordK c p z s o d k) ∧ Below A.heap.size A wr) (fun _ v5 _ => 6 - (intOf v5).toNat)
  case atStart => exact ⟨0, by omega, rfl, rfl, Below.refl _ _⟩
  case round =>
    obtain ⟨k, hk, rfl, rfl, hb⟩ := hrel
    have HB := Lib.hid hb
    have HRR := Lib.hid ((hb.block _ (Array.getElem?_eq_some_iff.1 HR.out).1).trans HR.out)
    clear hb
    by_cases hlt : k < 6
    · have d1 : decide ((k : Int) < 6) = true := decide_eq_true (by omega)
      have h6 : (k : Int) < 6 := by omega
      have hc : wr.cell? ⟨w.heap.size + 1, k, none⟩ = some (.bool (flB c p z s o d k)) := by
        rw [(cell_block HRR.out k).1]
        rcases (show k = 0 ∨ k = 1 ∨ k = 2 ∨ k = 3 ∨ k = 4 ∨ k = 5 by omega) with rfl | rfl | rfl | rfl | rfl | rfl <;> rfl
      have HO := Lib.hid (word_or c p z s o d k hlt)
      obtain ⟨F, hF⟩ : ∃ F, flB c p z s o d k = F := ⟨_, rfl⟩
      have HW := Lib.hid (show wordK c p z s o d (k + 1) = wordK c p z s o d k + if flB c p z s o d k then 2 ^ plN k else 0 from rfl)
      rw [hF] at hc HW
      clear hF
      obtain ⟨V, hV⟩ : ∃ V, wordK c p z s o d k = V := ⟨_, rfl⟩
      rw [hV] at HO HW ⊢
      have HWL := Lib.hid (show 0 ≤ V ∧ V < 4294967296 by rw [← hV]; exact word_lt c p z s o d k (by omega))
      clear hV
      cases F with
      | false =>
        go_wp2_with fail
        go_roundw
        case rel => exact ⟨k + 1, by omega, by go_num, by rw [HW.out]; simp, HB.out⟩
        case measure => simp [intOf]; omega
      | true =>
        have hp := fun u : World => (show (u.alloc (.cells plA 3)).cell? ⟨u.heap.size, k, none⟩ = some (.int .i64 (plN k)) by
          rw [World.cell?_alloc_new]
          rcases (show k = 0 ∨ k = 1 ∨ k = 2 ∨ k = 3 ∨ k = 4 ∨ k = 5 by omega) with rfl | rfl | rfl | rfl | rfl | rfl <;> rfl)
        have HPP := Lib.hid hp
        clear hp
        go_wp2_with fail
        ((with_reducible refine (rplaces_any _).mono ?_); rintro e w' ⟨rfl, rfl⟩)
        have hp := HPP.out wr
        obtain ⟨N, hN⟩ : ∃ N : Nat, plN k = N := ⟨_, rfl⟩
        have hN11 : N ≤ 11 := by
          rw [← hN]
          rcases (show k = 0 ∨ k = 1 ∨ k = 2 ∨ k = 3 ∨ k = 4 ∨ k = 5 by omega) with rfl | rfl | rfl | rfl | rfl | rfl <;> decide
        rw [hN] at hp HO HW
        clear hN
        have HM := Lib.hid (pow_small N hN11)
        go_wp2_with fail
        go_roundw
        case rel => exact ⟨k + 1, by omega, by go_num, by rw [HM.out, HO.out, HW.out]; rfl, below_last HB.out _⟩
        case measure => simp [intOf]; omega
    · have d1 : decide ((k : Int) < 6) = false := decide_eq_false (by omega)
      have HK := Lib.hid (show k = 6 by omega)
      go_wp2_with fail
      go_ret
      exact ⟨by rw [HK.out]; rfl, HBA.out.trans (HB.out.mono HBA.out.size)⟩
set_option maxRecDepth 100000 in
set_option maxHeartbeats 8000000 in
theorem rfrom13_any (v : Int) (v0 : 0 ≤ v) (v1 : v < 4294967296) (w : World) : Calls Try.prog 12 #[.int .u32 v] w fun e w' => e = .returned (.agg #[.bool (bitB v 0), .bool (bitB v 1), .bool (bitB v 2), .bool (bitB v 3), .bool (bitB v 5), .bool (bitB v 4)]) ∧ Below w.heap.size w w' := by
  have H0 := Lib.hid (show ∀ w, Calls Try.prog 22 #[.int .u32 v, .int .i64 0] w fun e w' => e = .returned (.bool (bitB v 0)) ∧ Below w.heap.size w w' from fun w => ron_any v v0 v1 0 (by decide) w)
  have H1 := Lib.hid (show ∀ w, Calls Try.prog 22 #[.int .u32 v, .int .i64 1] w fun e w' => e = .returned (.bool (bitB v 1)) ∧ Below w.heap.size w w' from fun w => ron_any v v0 v1 1 (by decide) w)
  have H2 := Lib.hid (show ∀ w, Calls Try.prog 22 #[.int .u32 v, .int .i64 2] w fun e w' => e = .returned (.bool (bitB v 2)) ∧ Below w.heap.size w w' from fun w => ron_any v v0 v1 2 (by decide) w)
  have H3 := Lib.hid (show ∀ w, Calls Try.prog 22 #[.int .u32 v, .int .i64 3] w fun e w' => e = .returned (.bool (bitB v 3)) ∧ Below w.heap.size w w' from fun w => ron_any v v0 v1 3 (by decide) w)
  have H4 := Lib.hid (show ∀ w, Calls Try.prog 22 #[.int .u32 v, .int .i64 4] w fun e w' => e = .returned (.bool (bitB v 4)) ∧ Below w.heap.size w w' from fun w => ron_any v v0 v1 4 (by decide) w)
  have H5 := Lib.hid (show ∀ w, Calls Try.prog 22 #[.int .u32 v, .int .i64 5] w fun e w' => e = .returned (.bool (bitB v 5)) ∧ Below w.heap.size w w' from fun w => ron_any v v0 v1 5 (by decide) w)
  have HK := Lib.hid (show (w.alloc (.cells #[.bool false, .bool false, .bool false, .bool false, .bool false, .bool false] 25)).heap[w.heap.size]? = _ from heap_0f w _)
  have HB := Lib.hid (below_last (Below.refl w.heap.size w) (.cells #[.bool false, .bool false, .bool false, .bool false, .bool false, .bool false] 25))
  go_enter Try.func12, Try.ntmps12
  go_wp2_with fail
  ((with_reducible refine (H0.out _).mono ?_); rintro e w1 ⟨rfl, b0⟩)
  have HK := Lib.hid ((b0.block _ (Array.getElem?_eq_some_iff.1 HK.out).1).trans HK.out)
  have HB := Lib.hid (HB.out.trans (b0.mono HB.out.size))
  clear b0
  go_wp2_with fail
  ((with_reducible refine (H1.out _).mono ?_); rintro e w2 ⟨rfl, b1⟩)
  have HK := Lib.hid ((b1.block _ (Array.getElem?_eq_some_iff.1 HK.out).1).trans HK.out)
  have HB := Lib.hid (HB.out.trans (b1.mono HB.out.size))
  clear b1
  go_wp2_with fail
  ((with_reducible refine (H2.out _).mono ?_); rintro e w3 ⟨rfl, b2⟩)
  have HK := Lib.hid ((b2.block _ (Array.getElem?_eq_some_iff.1 HK.out).1).trans HK.out)
  have HB := Lib.hid (HB.out.trans (b2.mono HB.out.size))
  clear b2
  go_wp2_with fail
  ((with_reducible refine (H3.out _).mono ?_); rintro e w4 ⟨rfl, b3⟩)
  have HK := Lib.hid ((b3.block _ (Array.getElem?_eq_some_iff.1 HK.out).1).trans HK.out)
  have HB := Lib.hid (HB.out.trans (b3.mono HB.out.size))
  clear b3
  go_wp2_with fail
  ((with_reducible refine (H4.out _).mono ?_); rintro e w5 ⟨rfl, b4⟩)
  have HK := Lib.hid ((b4.block _ (Array.getElem?_eq_some_iff.1 HK.out).1).trans HK.out)
  have HB := Lib.hid (HB.out.trans (b4.mono HB.out.size))
  clear b4
  go_wp2_with fail
  ((with_reducible refine (H5.out _).mono ?_); rintro e w6 ⟨rfl, b5⟩)
  have HK := Lib.hid ((b5.block _ (Array.getElem?_eq_some_iff.1 HK.out).1).trans HK.out)
  have HB := Lib.hid (HB.out.trans (b5.mono HB.out.size))
  clear b5
  have HT := Lib.hid (there_block HK.out 0 6 (Nat.le_refl 6))
  go_wp2_with (refine store_row rfl 25 (.tmp 2) (.tmp 15) rfl w.heap.size rfl [.bool (bitB v 0), .bool (bitB v 1), .bool (bitB v 2), .bool (bitB v 3), .bool (bitB v 5), .bool (bitB v 4)] rfl _ Try.underlying25 rfl info_fl (by simp [Value.oneCell']) HT.out ?_; intro Y hY hl; have HL := Lib.hid hl; have HY := Lib.hid (show Below w.heap.size w Y by rw [hY]; exact below_setCells (Nat.le_refl _) _ _ _ HB.out); clear hY hl)
  refine bodyPost_ret (results_cell rfl rfl HL.out) rfl ⟨rfl, HY.out⟩
end Go.Proofs.Ytplghmkicdpbfaa
