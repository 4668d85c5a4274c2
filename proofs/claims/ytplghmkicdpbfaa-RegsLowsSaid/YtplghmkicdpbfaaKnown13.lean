/- Layer 13's law of a known answer: a byte of a register. -/
import Derived.Test.YtplghmkicdpbfaaLand13s
import Derived.Test.YtplghmkicdpbfaaLand13w
namespace Go.Proofs.Ytplghmkicdpbfaa
open Go.ChangeShapes Go.WideShapes Go.ChangeAt Go.RowKit

def staK : Sta := ⟨fun i => if i = 0 then 4660 else 0, 0, false, false, false, false, false, false, fun _ => 0⟩
theorem staK_ok : StaOk staK := ⟨fun i _ => by show 0 ≤ (if i = 0 then (4660 : Int) else 0) ∧ (if i = 0 then (4660 : Int) else 0) < 4294967296; split <;> decide, fun _ _ => ⟨Int.le_refl _, by show (0 : Int) < _; decide⟩, ⟨Int.le_refl _, by show (0 : Int) < _; decide⟩⟩
set_option maxRecDepth 100000 in
set_option maxHeartbeats 8000000 in
theorem known13_any (w : World) : Calls Try.prog 6 #[] w fun e w' => e = .returned (.bool true) ∧ Below w.heap.size w w' := by
  obtain ⟨T, hT⟩ : ∃ T, setF staK (⟨2, 4, 0, 0, 0, 0⟩ : Opd) 255 = T := ⟨_, rfl⟩
  have HT0 := Lib.hid (show T.r 0 = 65332 by rw [← hT]; decide +kernel)
  have H1 := fun u => set_any staK (⟨2, 4, 0, 0, 0, 0⟩ : Opd) 255 staK_ok (by decide) (by decide) u
  have H2 := fun u => get_any staK (⟨2, 4, 0, 0, 0, 0⟩ : Opd) staK_ok (Int.le_refl _) (by show (0 : Int) < _; decide) u
  have H3 := fun u => word_any false false false false false false u
  rw [hT, show opV (⟨2, 4, 0, 0, 0, 0⟩ : Opd) = .agg #[.int .i64 2, .int .i64 4, .int .i64 0, .int .i64 0, .int .i64 0, .int .u32 0] from rfl, show staV staK = .agg (staL staK).toArray from rfl, show staV T = .agg (staL T).toArray from rfl] at H1
  rw [show getG staK (⟨2, 4, 0, 0, 0, 0⟩ : Opd) = 18 by decide +kernel, show opV (⟨2, 4, 0, 0, 0, 0⟩ : Opd) = .agg #[.int .i64 2, .int .i64 4, .int .i64 0, .int .i64 0, .int .i64 0, .int .u32 0] from rfl, show staV staK = .agg (staL staK).toArray from rfl] at H2
  rw [show wordK false false false false false false 6 = 2 by decide +kernel] at H3
  have H1 := Lib.hid H1
  have H2 := Lib.hid H2
  have H3 := Lib.hid H3
  clear hT
  go_enter Try.func6, Try.ntmps6
  go_upto_region 3 with fail
  obtain ⟨W, hW⟩ : ∃ W, W = w.alloc (.cells (staL staK).toArray 29) := ⟨_, rfl⟩
  have hW' : _ = W := hW.symm
  rw [show (staL staK).toArray = #[.int .u32 4660, .int .u32 0, .int .u32 0, .int .u32 0, .int .u32 0, .int .u32 0, .int .u32 0, .int .u32 0, .int .u32 0, .bool false, .bool false, .bool false, .bool false, .bool false, .bool false, .int .u64 0, .int .u64 0, .int .u64 0, .int .u64 0, .int .u64 0, .int .u64 0, .int .u64 0, .int .u64 0] from rfl] at hW'
  trace_state
  rw [hW']
  have hb : W.heap[w.heap.size]? = some (.cells (staL staK).toArray 29 (0, 0)) := by rw [hW]; show (w.heap.push _)[w.heap.size]? = _; simp
  have HB := Lib.hid (show Below w.heap.size w W by rw [hW]; exact below_last (Below.refl _ _) _)
  have HZ := Lib.hid (Array.getElem?_eq_some_iff.1 hb).1
  have HR := Lib.hid (range_in13 hb 0 (staL staK) rfl)
  have HRB := Lib.hid (show ∀ u, Below W.heap.size W u → u.rangeAt w.heap.size 0 (staL staK) from fun u hu i y hi => (hu.cell (p := ⟨w.heap.size, 0 + i, none⟩) HZ.out).trans (HR.out i y hi))
  have HU1 := Lib.hid (Below.refl W.heap.size W)
  clear hb hW hW'
  go_wp2_with (refine wpList_load_mid rfl 29 (.tmp 1) rfl w.heap.size 0 rfl (staL staK) _ (HRB.out _ HU1.out) Try.underlying29 rfl info_sta ?_)
  ((with_reducible refine (H1.out _).mono ?_); rintro e w2 ⟨rfl, b2⟩)
  have HTH := Lib.hid (there_alloc_new w2 #[.int .u32 0, .int .u32 0, .int .u32 0, .int .u32 0, .int .u32 0, .int .u32 0, .int .u32 0, .int .u32 0, .int .u32 0, .bool false, .bool false, .bool false, .bool false, .bool false, .bool false, .int .u64 0, .int .u64 0, .int .u64 0, .int .u64 0, .int .u64 0, .int .u64 0, .int .u64 0, .int .u64 0] 29 23 (by decide))
  have HU2 := Lib.hid b2
  clear b2
  go_wp2_with (first
    | (refine store_row rfl 29 (.tmp 2) (.tmp 7) rfl w2.heap.size rfl (staL T) rfl _ Try.underlying29 rfl info_sta (sta_one T) HTH.out ?_; intro Y hY hl; clear hl; have HYB := Lib.hid (show Below w2.heap.size w2 Y by rw [hY]; exact below_setCells (Nat.le_refl _) _ _ _ (below_last (Below.refl _ _) _)); have HYC := Lib.hid (show Y.cell? ⟨w2.heap.size, 0, none⟩ = some (.int .u32 65332) by rw [hY, ← HT0.out]; have hh := World.rangeAt_setCells_same _ w2.heap.size 0 (staL T) HTH.out; have h2 := hh 0 _ (sta_r T 0 (by decide)); exact h2); have HYS := Lib.hid (show w2.heap.size < Y.heap.size by rw [hY, setCells_size]; simp); clear hY)
    | (refine wpList_load_mid rfl 29 (.tmp 1) rfl w.heap.size 0 rfl (staL staK) _ (HRB.out _ (HU2.out.trans (HYB.out.mono HU2.out.size))) Try.underlying29 rfl info_sta ?_))
  ((with_reducible refine (H2.out _).mono ?_); rintro e w3 ⟨rfl, b3⟩)
  have c0 : w3.cell? ⟨w2.heap.size, 0, none⟩ = some (.int .u32 65332) := (b3.cell (p := ⟨w2.heap.size, 0, none⟩) HYS.out).trans HYC.out
  have HU3 := Lib.hid (HU2.out.trans ((HYB.out.trans (b3.mono HYB.out.size)).mono HU2.out.size))
  clear b3
  go_wp2_with fail
  ((with_reducible refine (H3.out _).mono ?_); rintro e w4 ⟨rfl, b4⟩)
  have HU4 := Lib.hid (HU3.out.trans (b4.mono HU3.out.size))
  clear b4
  go_wp2_with fail
  go_returns
  exact ⟨rfl, HB.out.trans (HU4.out.mono HB.out.size)⟩
end Go.Proofs.Ytplghmkicdpbfaa
