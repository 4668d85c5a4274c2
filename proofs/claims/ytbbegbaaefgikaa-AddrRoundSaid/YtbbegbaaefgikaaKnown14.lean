/- Layer 14's law of a known answer: a place. -/
import Derived.Test.YtbbegbaaefgikaaLand14
namespace Go.Proofs.Ytbbegbaaefgikaa
set_option maxRecDepth 100000
open Go.ChangeShapes Go.WideShapes Go.ChangeAt Go.RowKit

def staP : Sta := ⟨fun i => if i = 0 then 5 else if i = 3 then 7 else 0, 0, false, false, false, false, false, false, fun _ => 0⟩
theorem staP_ok : StaOk staP := ⟨fun i _ => by show 0 ≤ (if i = 0 then (5 : Int) else if i = 3 then 7 else 0) ∧ (if i = 0 then (5 : Int) else if i = 3 then 7 else 0) < 4294967296; split <;> first | decide | (split <;> decide), fun _ _ => ⟨Int.le_refl _, by show (0 : Int) < _; decide⟩, ⟨Int.le_refl _, by show (0 : Int) < _; decide⟩⟩
set_option maxRecDepth 100000 in
set_option maxHeartbeats 8000000 in
theorem known14_any (w : World) : Calls Try.prog 5 #[] w fun e w' => e = .returned (.bool true) ∧ Below w.heap.size w w' := by
  have H1 := fun u => of_any staP (⟨3, 0, 0, 3, 4, 8⟩ : Opd) staP_ok u
  rw [show ofF staP (⟨3, 0, 0, 3, 4, 8⟩ : Opd) = 41 by decide +kernel, show opV (⟨3, 0, 0, 3, 4, 8⟩ : Opd) = .agg #[.int .i64 3, .int .i64 0, .int .i64 0, .int .i64 3, .int .i64 4, .int .u32 8] from rfl, show staV staP = .agg (staL staP).toArray from rfl] at H1
  have H1 := Lib.hid H1
  go_enter Try.func5, Try.ntmps5
  go_upto_region 3 with fail
  obtain ⟨W, hW⟩ : ∃ W, W = w.alloc (.cells (staL staP).toArray 29) := ⟨_, rfl⟩
  have hW' : _ = W := hW.symm
  rw [show (staL staP).toArray = #[.int .u32 5, .int .u32 0, .int .u32 0, .int .u32 7, .int .u32 0, .int .u32 0, .int .u32 0, .int .u32 0, .int .u32 0, .bool false, .bool false, .bool false, .bool false, .bool false, .bool false, .int .u64 0, .int .u64 0, .int .u64 0, .int .u64 0, .int .u64 0, .int .u64 0, .int .u64 0, .int .u64 0] from rfl] at hW'
  rw [hW']
  have hb : W.heap[w.heap.size]? = some (.cells (staL staP).toArray 29 (0, 0)) := by rw [hW]; show (w.heap.push _)[w.heap.size]? = _; simp
  have HB := Lib.hid (show Below w.heap.size w W by rw [hW]; exact below_last (Below.refl _ _) _)
  have HR := Lib.hid (range_in13 hb 0 (staL staP) rfl)
  clear hb hW hW'
  go_wp2_with (refine wpList_load_mid rfl 29 (.tmp 1) rfl w.heap.size 0 rfl (staL staP) _ HR.out Try.underlying29 rfl info_sta ?_)
  ((with_reducible refine (H1.out _).mono ?_); rintro e w2 ⟨rfl, b2⟩)
  have HB2 := Lib.hid (below_step HB.out b2)
  clear b2
  go_wp2_with fail
  go_ret
  exact ⟨rfl, HB2.out⟩
end Go.Proofs.Ytbbegbaaefgikaa
