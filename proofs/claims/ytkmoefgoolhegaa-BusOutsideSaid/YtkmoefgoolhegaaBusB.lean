/- The landed bus: the bytes of a number. -/
import Derived.Test.YtkmoefgoolhegaaBusA
namespace Go.Proofs.Ytkmoefgoolhegaa
open Go.ChangeShapes Go.WideShapes Go.ChangeAt Go.RowKit

def spreadC (v : Int) (i : Nat) : Array Value := #[.int .u8 (if 0 < i then byteOf v 0 else 0), .int .u8 (if 1 < i then byteOf v 1 else 0), .int .u8 (if 2 < i then byteOf v 2 else 0), .int .u8 (if 3 < i then byteOf v 3 else 0), .int .u8 (if 4 < i then byteOf v 4 else 0), .int .u8 (if 5 < i then byteOf v 5 else 0), .int .u8 (if 6 < i then byteOf v 6 else 0), .int .u8 (if 7 < i then byteOf v 7 else 0)]
theorem spreadC_0 (v : Int) : spreadC v 0 = #[.int .u8 0, .int .u8 0, .int .u8 0, .int .u8 0, .int .u8 0, .int .u8 0, .int .u8 0, .int .u8 0] := rfl
theorem spreadC_1 (v : Int) : spreadC v 1 = #[.int .u8 (byteOf v 0), .int .u8 0, .int .u8 0, .int .u8 0, .int .u8 0, .int .u8 0, .int .u8 0, .int .u8 0] := rfl
theorem spreadC_2 (v : Int) : spreadC v 2 = #[.int .u8 (byteOf v 0), .int .u8 (byteOf v 1), .int .u8 0, .int .u8 0, .int .u8 0, .int .u8 0, .int .u8 0, .int .u8 0] := rfl
theorem spreadC_3 (v : Int) : spreadC v 3 = #[.int .u8 (byteOf v 0), .int .u8 (byteOf v 1), .int .u8 (byteOf v 2), .int .u8 0, .int .u8 0, .int .u8 0, .int .u8 0, .int .u8 0] := rfl
theorem spreadC_4 (v : Int) : spreadC v 4 = #[.int .u8 (byteOf v 0), .int .u8 (byteOf v 1), .int .u8 (byteOf v 2), .int .u8 (byteOf v 3), .int .u8 0, .int .u8 0, .int .u8 0, .int .u8 0] := rfl
theorem spreadC_5 (v : Int) : spreadC v 5 = #[.int .u8 (byteOf v 0), .int .u8 (byteOf v 1), .int .u8 (byteOf v 2), .int .u8 (byteOf v 3), .int .u8 (byteOf v 4), .int .u8 0, .int .u8 0, .int .u8 0] := rfl
theorem spreadC_6 (v : Int) : spreadC v 6 = #[.int .u8 (byteOf v 0), .int .u8 (byteOf v 1), .int .u8 (byteOf v 2), .int .u8 (byteOf v 3), .int .u8 (byteOf v 4), .int .u8 (byteOf v 5), .int .u8 0, .int .u8 0] := rfl
theorem spreadC_7 (v : Int) : spreadC v 7 = #[.int .u8 (byteOf v 0), .int .u8 (byteOf v 1), .int .u8 (byteOf v 2), .int .u8 (byteOf v 3), .int .u8 (byteOf v 4), .int .u8 (byteOf v 5), .int .u8 (byteOf v 6), .int .u8 0] := rfl
theorem spreadC_8 (v : Int) : spreadC v 8 = #[.int .u8 (byteOf v 0), .int .u8 (byteOf v 1), .int .u8 (byteOf v 2), .int .u8 (byteOf v 3), .int .u8 (byteOf v 4), .int .u8 (byteOf v 5), .int .u8 (byteOf v 6), .int .u8 (byteOf v 7)] := rfl
set_option maxRecDepth 100000 in
set_option maxHeartbeats 4000000 in
theorem spread_any (v : Int) (v0 : 0 ≤ v) (v1 : v < 18446744073709551616) (w : World) :
    Calls Try.prog 21 #[.int .u64 v] w fun e w' => e = .returned (.agg (spreadC v 8)) ∧ Below w.heap.size w w' := by
  go_enter Try.func21, Try.ntmps21
  go_wp2
  go_loopw [5] (fun v5 wr => ∃ k : Nat, k ≤ 8 ∧ v5 = .int .i64 k ∧ wr = (w.alloc (.cells (spreadC v 0) 59)).alloc (.cells (spreadC v k) 59)) (fun v5 _ => 8 - (intOf v5).toNat)
  case atStart => exact ⟨0, by omega, rfl, rfl⟩
  case round =>
    obtain ⟨k, hk, rfl, rfl⟩ := hrel
    have h8 : k = 0 ∨ k = 1 ∨ k = 2 ∨ k = 3 ∨ k = 4 ∨ k = 5 ∨ k = 6 ∨ k = 7 ∨ k = 8 := by omega
    rcases h8 with rfl | rfl | rfl | rfl | rfl | rfl | rfl | rfl | rfl
    · have hV := Lib.hid (show byteOf v 0 = v % 256 by unfold byteOf; simp)
      rw [spreadC_0]
      go_wp2
      go_roundw
      case rel => exact ⟨1, by omega, rfl, by rw [spreadC_1, hV.out]⟩
      case measure => simp [intOf]
    · have hV := Lib.hid (show byteOf v 1 = v / 256 % 256 by unfold byteOf; simp)
      rw [spreadC_0, spreadC_1]
      go_wp2
      go_roundw
      case rel => exact ⟨2, by omega, rfl, by rw [spreadC_2, hV.out]⟩
      case measure => simp [intOf]
    · have hV := Lib.hid (show byteOf v 2 = v / 65536 % 256 by unfold byteOf; simp)
      rw [spreadC_0, spreadC_2]
      go_wp2
      go_roundw
      case rel => exact ⟨3, by omega, rfl, by rw [spreadC_3, hV.out]⟩
      case measure => simp [intOf]
    · have hV := Lib.hid (show byteOf v 3 = v / 16777216 % 256 by unfold byteOf; simp)
      rw [spreadC_0, spreadC_3]
      go_wp2
      go_roundw
      case rel => exact ⟨4, by omega, rfl, by rw [spreadC_4, hV.out]⟩
      case measure => simp [intOf]
    · have hV := Lib.hid (show byteOf v 4 = v / 4294967296 % 256 by unfold byteOf; simp)
      rw [spreadC_0, spreadC_4]
      go_wp2
      go_roundw
      case rel => exact ⟨5, by omega, rfl, by rw [spreadC_5, hV.out]⟩
      case measure => simp [intOf]
    · have hV := Lib.hid (show byteOf v 5 = v / 1099511627776 % 256 by unfold byteOf; simp)
      rw [spreadC_0, spreadC_5]
      go_wp2
      go_roundw
      case rel => exact ⟨6, by omega, rfl, by rw [spreadC_6, hV.out]⟩
      case measure => simp [intOf]
    · have hV := Lib.hid (show byteOf v 6 = v / 281474976710656 % 256 by unfold byteOf; simp)
      rw [spreadC_0, spreadC_6]
      go_wp2
      go_roundw
      case rel => exact ⟨7, by omega, rfl, by rw [spreadC_7, hV.out]⟩
      case measure => simp [intOf]
    · have hV := Lib.hid (show byteOf v 7 = v / 72057594037927936 by unfold byteOf; simp; omega)
      rw [spreadC_0, spreadC_7]
      go_wp2
      go_roundw
      case rel => exact ⟨8, by omega, rfl, by rw [spreadC_8, hV.out]⟩
      case measure => simp [intOf]
    · rw [spreadC_0, spreadC_8]
      go_wp2
      exact bodyPost_ret (v := .agg (spreadC v 8)) (by simp [results, Try.results21, go_sem, spreadC_8]) rfl ⟨rfl, below_last (below_last (Below.refl _ _) _) _⟩
end Go.Proofs.Ytkmoefgoolhegaa
