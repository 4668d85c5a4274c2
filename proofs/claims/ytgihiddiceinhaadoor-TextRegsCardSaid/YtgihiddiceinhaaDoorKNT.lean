import Derived.Deep.DeepCutAuto
import Derived.KernelRfl
import Derived.Test.YtgihiddiceinhaaDoorKNL
namespace Go.Proofs.YtgihiddiceinhaaDoor
open Go.ChangeShapes Go.WideShapes Go.ChangeAt Go.RowKit
section
attribute [local go_sem] isSome_setCell
set_option maxRecDepth 100000
set_option maxHeartbeats 4000000
theorem first_n0 (c : Int) (h0 : 0 ≤ c) (h1 : c < 64) (h2 : ¬ c % 8 < 6) (hs : c ≠ 104 ∧ c ≠ 106 ∧ c ≠ 105 ∧ c ≠ 107 ∧ c ≠ 128 ∧ c ≠ 129 ∧ c ≠ 131 ∧ c ≠ 132 ∧ c ≠ 133 ∧ c ≠ 134 ∧ c ≠ 135 ∧ c ≠ 136 ∧ c ≠ 137 ∧ c ≠ 138 ∧ c ≠ 139 ∧ c ≠ 141 ∧ c ≠ 143 ∧ c ≠ 144 ∧ c ≠ 152 ∧ c ≠ 153 ∧ c ≠ 160 ∧ c ≠ 161 ∧ c ≠ 162 ∧ c ≠ 163 ∧ c ≠ 164 ∧ c ≠ 165 ∧ c ≠ 168 ∧ c ≠ 169 ∧ c ≠ 170 ∧ c ≠ 171 ∧ c ≠ 172 ∧ c ≠ 173 ∧ c ≠ 193 ∧ c ≠ 209 ∧ c ≠ 211 ∧ c ≠ 194 ∧ c ≠ 195 ∧ c ≠ 198 ∧ c ≠ 199 ∧ c ≠ 201 ∧ c ≠ 204 ∧ c ≠ 244 ∧ c ≠ 232 ∧ c ≠ 233 ∧ c ≠ 235 ∧ c ≠ 245 ∧ c ≠ 248 ∧ c ≠ 249 ∧ c ≠ 252 ∧ c ≠ 253 ∧ c ≠ 246 ∧ c ≠ 247 ∧ c ≠ 254 ∧ c ≠ 255) (reg : Int) (m3 : Bool) (w : World) : Calls Tryd.prog 23 #[.int .u8 c, .int .i64 reg, .bool m3] w fun e w' => e = .returned (fstL (firstF c reg m3)) ∧ Below w.heap.size w w' := by
  have HX := Lib.hid (show firstF c reg m3 = (nilF, false, false) by unfold firstF; repeat (rw [if_neg (by omega)]))
  simp only [ne_eq, ← beq_eq_false_iff_ne] at hs
  obtain ⟨e104, e106, e105, e107, e128, e129, e131, e132, e133, e134, e135, e136, e137, e138, e139, e141, e143, e144, e152, e153, e160, e161, e162, e163, e164, e165, e168, e169, e170, e171, e172, e173, e193, e209, e211, e194, e195, e198, e199, e201, e204, e244, e232, e233, e235, e245, e248, e249, e252, e253, e246, e247, e254, e255⟩ := hs
  have g64 : decide (64 ≤ c) = false := decide_eq_false (by omega)
  have l64 : decide (c < 64) = true := decide_eq_true (by omega)
  have g72 : decide (72 ≤ c) = false := decide_eq_false (by omega)
  have l72 : decide (c < 72) = true := decide_eq_true (by omega)
  have g80 : decide (80 ≤ c) = false := decide_eq_false (by omega)
  have l80 : decide (c < 80) = true := decide_eq_true (by omega)
  have g88 : decide (88 ≤ c) = false := decide_eq_false (by omega)
  have l88 : decide (c < 88) = true := decide_eq_true (by omega)
  have g96 : decide (96 ≤ c) = false := decide_eq_false (by omega)
  have l96 : decide (c < 96) = true := decide_eq_true (by omega)
  have g112 : decide (112 ≤ c) = false := decide_eq_false (by omega)
  have l112 : decide (c < 112) = true := decide_eq_true (by omega)
  have g128 : decide (128 ≤ c) = false := decide_eq_false (by omega)
  have l128 : decide (c < 128) = true := decide_eq_true (by omega)
  have g145 : decide (145 ≤ c) = false := decide_eq_false (by omega)
  have l145 : decide (c < 145) = true := decide_eq_true (by omega)
  have g152 : decide (152 ≤ c) = false := decide_eq_false (by omega)
  have l152 : decide (c < 152) = true := decide_eq_true (by omega)
  have g176 : decide (176 ≤ c) = false := decide_eq_false (by omega)
  have l176 : decide (c < 176) = true := decide_eq_true (by omega)
  have g184 : decide (184 ≤ c) = false := decide_eq_false (by omega)
  have l184 : decide (c < 184) = true := decide_eq_true (by omega)
  have g192 : decide (192 ≤ c) = false := decide_eq_false (by omega)
  have l192 : decide (c < 192) = true := decide_eq_true (by omega)
  have hand : bits .and .u8 c 7 = c % 8 := and7 c h0 (by omega)
  have h68 : decide (c % 8 < 6) = false := decide_eq_false h2
  clear h2
  go_enter Tryd.func23, Tryd.ntmps23
  go_wp2_with (go_at_call 42; refine (size4_any _ (by first | decide | omega) (by first | decide | omega) _).mono ?_; rintro e w' ⟨rfl, rfl⟩)
  go_returns
  exact ⟨by rw [HX.out]; rfl, below_last (Below.refl _ _) _⟩
set_option maxHeartbeats 16000000
theorem first_nm (c : Int) (hr : (96 ≤ c ∧ c < 112) ∨ (128 ≤ c ∧ c < 145) ∨ (152 ≤ c ∧ c < 176) ∨ (192 ≤ c ∧ c < 256)) (hs : c ≠ 104 ∧ c ≠ 106 ∧ c ≠ 105 ∧ c ≠ 107 ∧ c ≠ 128 ∧ c ≠ 129 ∧ c ≠ 131 ∧ c ≠ 132 ∧ c ≠ 133 ∧ c ≠ 134 ∧ c ≠ 135 ∧ c ≠ 136 ∧ c ≠ 137 ∧ c ≠ 138 ∧ c ≠ 139 ∧ c ≠ 141 ∧ c ≠ 143 ∧ c ≠ 144 ∧ c ≠ 152 ∧ c ≠ 153 ∧ c ≠ 160 ∧ c ≠ 161 ∧ c ≠ 162 ∧ c ≠ 163 ∧ c ≠ 164 ∧ c ≠ 165 ∧ c ≠ 168 ∧ c ≠ 169 ∧ c ≠ 170 ∧ c ≠ 171 ∧ c ≠ 172 ∧ c ≠ 173 ∧ c ≠ 193 ∧ c ≠ 209 ∧ c ≠ 211 ∧ c ≠ 194 ∧ c ≠ 195 ∧ c ≠ 198 ∧ c ≠ 199 ∧ c ≠ 201 ∧ c ≠ 204 ∧ c ≠ 244 ∧ c ≠ 232 ∧ c ≠ 233 ∧ c ≠ 235 ∧ c ≠ 245 ∧ c ≠ 248 ∧ c ≠ 249 ∧ c ≠ 252 ∧ c ≠ 253 ∧ c ≠ 246 ∧ c ≠ 247 ∧ c ≠ 254 ∧ c ≠ 255) (reg : Int) (m3 : Bool) (w : World) : Calls Tryd.prog 23 #[.int .u8 c, .int .i64 reg, .bool m3] w fun e w' => e = .returned (fstL (firstF c reg m3)) ∧ Below w.heap.size w w' := by
  have HX := Lib.hid (show firstF c reg m3 = (nilF, false, false) by unfold firstF; repeat (rw [if_neg (by omega)]))
  simp only [ne_eq, ← beq_eq_false_iff_ne] at hs
  obtain ⟨e104, e106, e105, e107, e128, e129, e131, e132, e133, e134, e135, e136, e137, e138, e139, e141, e143, e144, e152, e153, e160, e161, e162, e163, e164, e165, e168, e169, e170, e171, e172, e173, e193, e209, e211, e194, e195, e198, e199, e201, e204, e244, e232, e233, e235, e245, e248, e249, e252, e253, e246, e247, e254, e255⟩ := hs
  rcases hr with ⟨h0, h1⟩ | ⟨h0, h1⟩ | ⟨h0, h1⟩ | ⟨h0, h1⟩
  all_goals
    first | (have g64 : decide (64 ≤ c) = true := decide_eq_true (by omega)) | (have g64 : decide (64 ≤ c) = false := decide_eq_false (by omega))
    first | (have l64 : decide (c < 64) = true := decide_eq_true (by omega)) | (have l64 : decide (c < 64) = false := decide_eq_false (by omega))
    first | (have g72 : decide (72 ≤ c) = true := decide_eq_true (by omega)) | (have g72 : decide (72 ≤ c) = false := decide_eq_false (by omega))
    first | (have l72 : decide (c < 72) = true := decide_eq_true (by omega)) | (have l72 : decide (c < 72) = false := decide_eq_false (by omega))
    first | (have g80 : decide (80 ≤ c) = true := decide_eq_true (by omega)) | (have g80 : decide (80 ≤ c) = false := decide_eq_false (by omega))
    first | (have l80 : decide (c < 80) = true := decide_eq_true (by omega)) | (have l80 : decide (c < 80) = false := decide_eq_false (by omega))
    first | (have g88 : decide (88 ≤ c) = true := decide_eq_true (by omega)) | (have g88 : decide (88 ≤ c) = false := decide_eq_false (by omega))
    first | (have l88 : decide (c < 88) = true := decide_eq_true (by omega)) | (have l88 : decide (c < 88) = false := decide_eq_false (by omega))
    first | (have g96 : decide (96 ≤ c) = true := decide_eq_true (by omega)) | (have g96 : decide (96 ≤ c) = false := decide_eq_false (by omega))
    first | (have l96 : decide (c < 96) = true := decide_eq_true (by omega)) | (have l96 : decide (c < 96) = false := decide_eq_false (by omega))
    first | (have g112 : decide (112 ≤ c) = true := decide_eq_true (by omega)) | (have g112 : decide (112 ≤ c) = false := decide_eq_false (by omega))
    first | (have l112 : decide (c < 112) = true := decide_eq_true (by omega)) | (have l112 : decide (c < 112) = false := decide_eq_false (by omega))
    first | (have g128 : decide (128 ≤ c) = true := decide_eq_true (by omega)) | (have g128 : decide (128 ≤ c) = false := decide_eq_false (by omega))
    first | (have l128 : decide (c < 128) = true := decide_eq_true (by omega)) | (have l128 : decide (c < 128) = false := decide_eq_false (by omega))
    first | (have g145 : decide (145 ≤ c) = true := decide_eq_true (by omega)) | (have g145 : decide (145 ≤ c) = false := decide_eq_false (by omega))
    first | (have l145 : decide (c < 145) = true := decide_eq_true (by omega)) | (have l145 : decide (c < 145) = false := decide_eq_false (by omega))
    first | (have g152 : decide (152 ≤ c) = true := decide_eq_true (by omega)) | (have g152 : decide (152 ≤ c) = false := decide_eq_false (by omega))
    first | (have l152 : decide (c < 152) = true := decide_eq_true (by omega)) | (have l152 : decide (c < 152) = false := decide_eq_false (by omega))
    first | (have g176 : decide (176 ≤ c) = true := decide_eq_true (by omega)) | (have g176 : decide (176 ≤ c) = false := decide_eq_false (by omega))
    first | (have l176 : decide (c < 176) = true := decide_eq_true (by omega)) | (have l176 : decide (c < 176) = false := decide_eq_false (by omega))
    first | (have g184 : decide (184 ≤ c) = true := decide_eq_true (by omega)) | (have g184 : decide (184 ≤ c) = false := decide_eq_false (by omega))
    first | (have l184 : decide (c < 184) = true := decide_eq_true (by omega)) | (have l184 : decide (c < 184) = false := decide_eq_false (by omega))
    first | (have g192 : decide (192 ≤ c) = true := decide_eq_true (by omega)) | (have g192 : decide (192 ≤ c) = false := decide_eq_false (by omega))
    first | (have l192 : decide (c < 192) = true := decide_eq_true (by omega)) | (have l192 : decide (c < 192) = false := decide_eq_false (by omega))
    go_enter Tryd.func23, Tryd.ntmps23
    go_wp2_with (go_at_call 42; refine (size4_any _ (by first | decide | omega) (by first | decide | omega) _).mono ?_; rintro e w' ⟨rfl, rfl⟩)
    go_returns
    exact ⟨by rw [HX.out]; rfl, below_last (Below.refl _ _) _⟩
set_option maxRecDepth 512
theorem first_n96 (c : Int) (h0 : 96 ≤ c) (h1 : c < 112) (hs : c ≠ 104 ∧ c ≠ 106 ∧ c ≠ 105 ∧ c ≠ 107 ∧ c ≠ 128 ∧ c ≠ 129 ∧ c ≠ 131 ∧ c ≠ 132 ∧ c ≠ 133 ∧ c ≠ 134 ∧ c ≠ 135 ∧ c ≠ 136 ∧ c ≠ 137 ∧ c ≠ 138 ∧ c ≠ 139 ∧ c ≠ 141 ∧ c ≠ 143 ∧ c ≠ 144 ∧ c ≠ 152 ∧ c ≠ 153 ∧ c ≠ 160 ∧ c ≠ 161 ∧ c ≠ 162 ∧ c ≠ 163 ∧ c ≠ 164 ∧ c ≠ 165 ∧ c ≠ 168 ∧ c ≠ 169 ∧ c ≠ 170 ∧ c ≠ 171 ∧ c ≠ 172 ∧ c ≠ 173 ∧ c ≠ 193 ∧ c ≠ 209 ∧ c ≠ 211 ∧ c ≠ 194 ∧ c ≠ 195 ∧ c ≠ 198 ∧ c ≠ 199 ∧ c ≠ 201 ∧ c ≠ 204 ∧ c ≠ 244 ∧ c ≠ 232 ∧ c ≠ 233 ∧ c ≠ 235 ∧ c ≠ 245 ∧ c ≠ 248 ∧ c ≠ 249 ∧ c ≠ 252 ∧ c ≠ 253 ∧ c ≠ 246 ∧ c ≠ 247 ∧ c ≠ 254 ∧ c ≠ 255) (reg : Int) (m3 : Bool) (w : World) : Calls Tryd.prog 23 #[.int .u8 c, .int .i64 reg, .bool m3] w fun e w' => e = .returned (fstL (firstF c reg m3)) ∧ Below w.heap.size w w' := first_nm c (by omega) hs reg m3 w
theorem first_n128 (c : Int) (h0 : 128 ≤ c) (h1 : c < 145) (hs : c ≠ 104 ∧ c ≠ 106 ∧ c ≠ 105 ∧ c ≠ 107 ∧ c ≠ 128 ∧ c ≠ 129 ∧ c ≠ 131 ∧ c ≠ 132 ∧ c ≠ 133 ∧ c ≠ 134 ∧ c ≠ 135 ∧ c ≠ 136 ∧ c ≠ 137 ∧ c ≠ 138 ∧ c ≠ 139 ∧ c ≠ 141 ∧ c ≠ 143 ∧ c ≠ 144 ∧ c ≠ 152 ∧ c ≠ 153 ∧ c ≠ 160 ∧ c ≠ 161 ∧ c ≠ 162 ∧ c ≠ 163 ∧ c ≠ 164 ∧ c ≠ 165 ∧ c ≠ 168 ∧ c ≠ 169 ∧ c ≠ 170 ∧ c ≠ 171 ∧ c ≠ 172 ∧ c ≠ 173 ∧ c ≠ 193 ∧ c ≠ 209 ∧ c ≠ 211 ∧ c ≠ 194 ∧ c ≠ 195 ∧ c ≠ 198 ∧ c ≠ 199 ∧ c ≠ 201 ∧ c ≠ 204 ∧ c ≠ 244 ∧ c ≠ 232 ∧ c ≠ 233 ∧ c ≠ 235 ∧ c ≠ 245 ∧ c ≠ 248 ∧ c ≠ 249 ∧ c ≠ 252 ∧ c ≠ 253 ∧ c ≠ 246 ∧ c ≠ 247 ∧ c ≠ 254 ∧ c ≠ 255) (reg : Int) (m3 : Bool) (w : World) : Calls Tryd.prog 23 #[.int .u8 c, .int .i64 reg, .bool m3] w fun e w' => e = .returned (fstL (firstF c reg m3)) ∧ Below w.heap.size w w' := first_nm c (by omega) hs reg m3 w
theorem first_n152 (c : Int) (h0 : 152 ≤ c) (h1 : c < 176) (hs : c ≠ 104 ∧ c ≠ 106 ∧ c ≠ 105 ∧ c ≠ 107 ∧ c ≠ 128 ∧ c ≠ 129 ∧ c ≠ 131 ∧ c ≠ 132 ∧ c ≠ 133 ∧ c ≠ 134 ∧ c ≠ 135 ∧ c ≠ 136 ∧ c ≠ 137 ∧ c ≠ 138 ∧ c ≠ 139 ∧ c ≠ 141 ∧ c ≠ 143 ∧ c ≠ 144 ∧ c ≠ 152 ∧ c ≠ 153 ∧ c ≠ 160 ∧ c ≠ 161 ∧ c ≠ 162 ∧ c ≠ 163 ∧ c ≠ 164 ∧ c ≠ 165 ∧ c ≠ 168 ∧ c ≠ 169 ∧ c ≠ 170 ∧ c ≠ 171 ∧ c ≠ 172 ∧ c ≠ 173 ∧ c ≠ 193 ∧ c ≠ 209 ∧ c ≠ 211 ∧ c ≠ 194 ∧ c ≠ 195 ∧ c ≠ 198 ∧ c ≠ 199 ∧ c ≠ 201 ∧ c ≠ 204 ∧ c ≠ 244 ∧ c ≠ 232 ∧ c ≠ 233 ∧ c ≠ 235 ∧ c ≠ 245 ∧ c ≠ 248 ∧ c ≠ 249 ∧ c ≠ 252 ∧ c ≠ 253 ∧ c ≠ 246 ∧ c ≠ 247 ∧ c ≠ 254 ∧ c ≠ 255) (reg : Int) (m3 : Bool) (w : World) : Calls Tryd.prog 23 #[.int .u8 c, .int .i64 reg, .bool m3] w fun e w' => e = .returned (fstL (firstF c reg m3)) ∧ Below w.heap.size w w' := first_nm c (by omega) hs reg m3 w
theorem first_n192 (c : Int) (h0 : 192 ≤ c) (h1 : c < 256) (hs : c ≠ 104 ∧ c ≠ 106 ∧ c ≠ 105 ∧ c ≠ 107 ∧ c ≠ 128 ∧ c ≠ 129 ∧ c ≠ 131 ∧ c ≠ 132 ∧ c ≠ 133 ∧ c ≠ 134 ∧ c ≠ 135 ∧ c ≠ 136 ∧ c ≠ 137 ∧ c ≠ 138 ∧ c ≠ 139 ∧ c ≠ 141 ∧ c ≠ 143 ∧ c ≠ 144 ∧ c ≠ 152 ∧ c ≠ 153 ∧ c ≠ 160 ∧ c ≠ 161 ∧ c ≠ 162 ∧ c ≠ 163 ∧ c ≠ 164 ∧ c ≠ 165 ∧ c ≠ 168 ∧ c ≠ 169 ∧ c ≠ 170 ∧ c ≠ 171 ∧ c ≠ 172 ∧ c ≠ 173 ∧ c ≠ 193 ∧ c ≠ 209 ∧ c ≠ 211 ∧ c ≠ 194 ∧ c ≠ 195 ∧ c ≠ 198 ∧ c ≠ 199 ∧ c ≠ 201 ∧ c ≠ 204 ∧ c ≠ 244 ∧ c ≠ 232 ∧ c ≠ 233 ∧ c ≠ 235 ∧ c ≠ 245 ∧ c ≠ 248 ∧ c ≠ 249 ∧ c ≠ 252 ∧ c ≠ 253 ∧ c ≠ 246 ∧ c ≠ 247 ∧ c ≠ 254 ∧ c ≠ 255) (reg : Int) (m3 : Bool) (w : World) : Calls Tryd.prog 23 #[.int .u8 c, .int .i64 reg, .bool m3] w fun e w' => e = .returned (fstL (firstF c reg m3)) ∧ Below w.heap.size w w' := first_nm c (by omega) hs reg m3 w
end
section
attribute [local go_sem] isSome_setCell
def lowS (k : Nat) : Int := ([1, 4, 1, 4, 1, 4] : List Int).getD k 0
def lowH (k : Nat) : ByteArray := ⟨(([[69, 71], [69, 71], [71, 69], [71, 69], [97, 73], [97, 73]] : List (List UInt8)).getD k []).toArray⟩
def lowC (c : Int) (k : Nat) : Array Value := #[.int .i64 (grpF alus (c / 8)), .int .i64 0, .int .i64 (lowS k), .string (lowH k), .int .i64 (c % 8)]
def lowV (R : Nat) (c : Int) (k : Nat) : Nat → Value → World → Prop
  | 0, v, _ => v = .int .u8 c
  | 1, v, _ => v = .int .u8 c
  | 2, v, _ => v = .int .u8 (c / 8)
  | 3, v, _ => v = .int .i64 (c / 8)
  | 4, v, _ => v = .int .i64 (grpF alus (c / 8))
  | 5, v, u => ∃ B, v = .slice (some ⟨B, 0, none⟩) 6 6 ∧ B ≠ R ∧ ∀ j, j < 6 → u.cell? ⟨B, j, none⟩ = some (.int .i64 (lowS j))
  | 6, v, _ => v = .int .u8 c
  | 7, v, _ => v = .int .u8 (k : Int)
  | 8, v, u => ∃ B, v = .pointer (some ⟨B, k, none⟩) ∧ B ≠ R ∧ u.cell? ⟨B, k, none⟩ = some (.int .i64 (lowS k))
  | 9, v, _ => v = .int .i64 (lowS k)
  | 10, v, u => ∃ B, v = .slice (some ⟨B, 0, none⟩) 6 6 ∧ B ≠ R ∧ ∀ j, j < 6 → u.cell? ⟨B, j, none⟩ = some (.string (lowH j))
  | 11, v, _ => v = .int .u8 c
  | 12, v, _ => v = .int .u8 (k : Int)
  | 13, v, u => ∃ B, v = .pointer (some ⟨B, k, none⟩) ∧ B ≠ R ∧ u.cell? ⟨B, k, none⟩ = some (.string (lowH k))
  | 14, v, _ => v = .string (lowH k)
  | 15, v, _ => v = .tuple #[.agg (lowC c k), .bool (grpF alus (c / 8) != 0), .bool false]
  | 16, v, _ => v = .agg (lowC c k)
  | 17, v, _ => v = .bool (grpF alus (c / 8) != 0)
  | 18, v, _ => v = .bool false
  | 19, _, u => Full R (lowC c k) u
  | 20, v, _ => v = .bool (grpF alus (c / 8) != 0)
  | 21, v, _ => v = .bool false
  | _, _, _ => True
theorem lowV_stays {R : Nat} {c : Int} {k : Nat} (i : Nat) (v : Value) (u u' : World) (h : lowV R c k i v u) (g : RG R (lowC c k) u u') : lowV R c k i v u' := by
  unfold lowV at h ⊢
  split at h
  all_goals first
    | exact h
    | exact g.2 h
    | (obtain ⟨B, h1, h2, h3⟩ := h; exact ⟨B, h1, h2, fun j hj => g.1 _ _ h2 (h3 j hj)⟩)
    | (obtain ⟨B, h1, h2, h3⟩ := h; exact ⟨B, h1, h2, g.1 _ _ h2 h3⟩)
set_option maxRecDepth 100000
set_option maxHeartbeats 4000000
theorem first_low (c : Int) (h0 : 0 ≤ c) (h1 : c < 64) (h2 : c % 8 < 6) (reg : Int) (m3 : Bool) (w : World) : Calls Tryd.prog 23 #[.int .u8 c, .int .i64 reg, .bool m3] w fun e w' => e = .returned (fstL (firstF c reg m3)) ∧ Below w.heap.size w w' := by
  obtain ⟨k, hk⟩ : ∃ k : Nat, (k : Int) = c % 8 := ⟨(c % 8).toNat, by omega⟩
  have hk6 : k < 6 := by omega
  have hand : bits .and .u8 c 7 = c % 8 := and7 c h0 (by omega)
  have h68 : decide (c % 8 < 6) = true := decide_eq_true h2
  have g64 : decide (64 ≤ c) = false := decide_eq_false (by omega)
  have l64 : decide (c < 64) = true := decide_eq_true (by omega)
  have hwr : IntKind.i64.wrap (c / 8) = c / 8 := by rw [IntKind.wrap_i64]; omega
  have HX := Lib.hid (show firstF c reg m3 = isF c (grpF alus (c / 8)) (lowS k) (([[69, 71], [69, 71], [71, 69], [71, 69], [97, 73], [97, 73]] : List (List UInt8)).getD k []) by unfold firstF lowS; rw [if_pos ⟨h1, h2⟩, show (c % 8).toNat = k by omega])
  have HA := Lib.hid (alu_any (c / 8) (by omega) (by omega))
  have HI := Lib.hid (is_any c (grpF alus (c / 8)) (lowS k) (lowH k) h0 (by omega))
  have HK := Lib.hid hk
  have hki : (k : Int) < 6 := by omega
  clear hk
  go_enter Tryd.func23, Tryd.ntmps23
  go_upto_region 3 with (go_at_call 42; refine (size4_any _ (by first | decide | omega) (by first | decide | omega) _).mono ?_; rintro e w' ⟨rfl, rfl⟩)
  refine wp_region_vals (by kernel_rfl) (fun i => i == 19) (by kernel_rfl) (RInv w w.heap.size 5) (RG w.heap.size (lowC c k)) (lowV w.heap.size c k) lowV_stays (RG.refl _ _) ?_ ?_ ?_
  · exact RInv.drawn ⟨below_last (Below.refl _ _) _, by simp, fun i hi => by
      have h5 : i = 0 ∨ i = 1 ∨ i = 2 ∨ i = 3 ∨ i = 4 := by omega
      rcases h5 with rfl | rfl | rfl | rfl | rfl <;> simp, fun i => by simp⟩
  · intro i o b u ho hinv hsz hbase hdep
    have hi : i < 22 := (Array.getElem?_eq_some_iff.1 ho).1
    have b0 : b.tmps.getD 0 undef = .int .u8 c := hbase 0 (by kernel_rfl)
    have b6 : b.tmps.getD 6 undef = .pointer (some ⟨w.heap.size, 0, none⟩) := hbase 6 (by kernel_rfl)
    clear hbase hsz
    have h22 : i = 0 ∨ i = 1 ∨ i = 2 ∨ i = 3 ∨ i = 4 ∨ i = 5 ∨ i = 6 ∨ i = 7 ∨ i = 8 ∨ i = 9 ∨ i = 10 ∨ i = 11 ∨ i = 12 ∨ i = 13 ∨ i = 14 ∨ i = 15 ∨ i = 16 ∨ i = 17 ∨ i = 18 ∨ i = 19 ∨ i = 20 ∨ i = 21 := by omega
    rcases h22 with rfl | rfl | rfl | rfl | rfl | rfl | rfl | rfl | rfl | rfl | rfl | rfl | rfl | rfl | rfl | rfl | rfl | rfl | rfl | rfl | rfl | rfl
    · cases ho
      exact wp_val (by simp [execOp, Act.eval, b0] <;> rfl) ⟨_, rfl, hinv, RG.refl _ _ _, rfl⟩
    · cases ho
      exact wp_val (by simp [execOp, Act.eval, b0] <;> rfl) ⟨_, rfl, hinv, RG.refl _ _ _, rfl⟩
    · cases ho
      have d1 : b.tmps.getD 30 undef = .int .u8 c := hdep 1 (by kernel_rfl)
      exact wp_val (by simp [execOp, Act.eval, d1, go_sem] <;> rfl) ⟨_, rfl, hinv, RG.refl _ _ _, rfl⟩
    · cases ho
      have d2 : b.tmps.getD 31 undef = .int .u8 (c / 8) := hdep 2 (by kernel_rfl)
      exact wp_val (by simp [execOp, Act.eval, d2, go_sem, hwr] <;> rfl) ⟨_, rfl, hinv, RG.refl _ _ _, rfl⟩
    · cases ho
      have d3 : b.tmps.getD 32 undef = .int .i64 (c / 8) := hdep 3 (by kernel_rfl)
      refine wp_call (by simp [execOp, Act.eval, d3, go_sem] <;> rfl) ((HA.out u).mono ?_)
      rintro e u' ⟨rfl, hb⟩
      exact ⟨_, rfl, _, rfl, (hinv.ext (lowC c k) hb).1, (hinv.ext (lowC c k) hb).2, rfl⟩
    · cases ho
      obtain ⟨m1, m2, m3', m4⟩ := made_row (lowC c k) hinv _ _
      refine wp_val (by simp [execOp, Act.eval, go_sem] <;> rfl) ⟨_, rfl, m1, m2, _, rfl, m3', fun j hj => m4 j _ ?_⟩
      have h6 : j = 0 ∨ j = 1 ∨ j = 2 ∨ j = 3 ∨ j = 4 ∨ j = 5 := by omega
      rcases h6 with rfl | rfl | rfl | rfl | rfl | rfl <;> rfl
    · cases ho
      exact wp_val (by simp [execOp, Act.eval, b0] <;> rfl) ⟨_, rfl, hinv, RG.refl _ _ _, rfl⟩
    · cases ho
      have d6 : b.tmps.getD 35 undef = .int .u8 c := hdep 6 (by kernel_rfl)
      exact wp_val (by simp [execOp, Act.eval, d6, go_sem, hand] <;> rfl) ⟨_, rfl, hinv, RG.refl _ _ _, by show _ = Value.int .u8 (k : Int); rw [HK.out]; rfl⟩
    · cases ho
      obtain ⟨B, e1, e2, e3⟩ := hdep 5 (by kernel_rfl)
      have d5 : b.tmps.getD 34 undef = .slice (some ⟨B, 0, none⟩) 6 6 := e1
      have d7 : b.tmps.getD 36 undef = .int .u8 (k : Int) := hdep 7 (by kernel_rfl)
      exact wp_val (by simp [execOp, Act.eval, d5, d7, go_sem, hki] <;> rfl) ⟨_, rfl, hinv, RG.refl _ _ _, B, by simp, e2, e3 k hk6⟩
    · cases ho
      obtain ⟨B, e1, e2, e3⟩ := hdep 8 (by kernel_rfl)
      have d8 : b.tmps.getD 37 undef = .pointer (some ⟨B, k, none⟩) := e1
      exact wp_val (by simp [execOp, Act.eval, d8, go_sem, e3] <;> rfl) ⟨_, rfl, hinv, RG.refl _ _ _, rfl⟩
    · cases ho
      obtain ⟨m1, m2, m3', m4⟩ := made_row (lowC c k) hinv _ _
      refine wp_val (by simp [execOp, Act.eval, go_sem] <;> rfl) ⟨_, rfl, m1, m2, _, rfl, m3', fun j hj => m4 j _ ?_⟩
      have h6 : j = 0 ∨ j = 1 ∨ j = 2 ∨ j = 3 ∨ j = 4 ∨ j = 5 := by omega
      rcases h6 with rfl | rfl | rfl | rfl | rfl | rfl <;> rfl
    · cases ho
      exact wp_val (by simp [execOp, Act.eval, b0] <;> rfl) ⟨_, rfl, hinv, RG.refl _ _ _, rfl⟩
    · cases ho
      have d11 : b.tmps.getD 40 undef = .int .u8 c := hdep 11 (by kernel_rfl)
      exact wp_val (by simp [execOp, Act.eval, d11, go_sem, hand] <;> rfl) ⟨_, rfl, hinv, RG.refl _ _ _, by show _ = Value.int .u8 (k : Int); rw [HK.out]; rfl⟩
    · cases ho
      obtain ⟨B, e1, e2, e3⟩ := hdep 10 (by kernel_rfl)
      have d10 : b.tmps.getD 39 undef = .slice (some ⟨B, 0, none⟩) 6 6 := e1
      have d12 : b.tmps.getD 41 undef = .int .u8 (k : Int) := hdep 12 (by kernel_rfl)
      exact wp_val (by simp [execOp, Act.eval, d10, d12, go_sem, hki] <;> rfl) ⟨_, rfl, hinv, RG.refl _ _ _, B, by simp, e2, e3 k hk6⟩
    · cases ho
      obtain ⟨B, e1, e2, e3⟩ := hdep 13 (by kernel_rfl)
      have d13 : b.tmps.getD 42 undef = .pointer (some ⟨B, k, none⟩) := e1
      exact wp_val (by simp [execOp, Act.eval, d13, go_sem, e3] <;> rfl) ⟨_, rfl, hinv, RG.refl _ _ _, rfl⟩
    · cases ho
      have d0 : b.tmps.getD 29 undef = .int .u8 c := hdep 0 (by kernel_rfl)
      have d4 : b.tmps.getD 33 undef = .int .i64 (grpF alus (c / 8)) := hdep 4 (by kernel_rfl)
      have d9 : b.tmps.getD 38 undef = .int .i64 (lowS k) := hdep 9 (by kernel_rfl)
      have d14 : b.tmps.getD 43 undef = .string (lowH k) := hdep 14 (by kernel_rfl)
      refine wp_call (by simp [execOp, Act.eval, d0, d4, d9, d14, go_sem] <;> rfl) ((HI.out u).mono ?_)
      rintro e u' ⟨rfl, hb⟩
      exact ⟨_, rfl, _, rfl, (hinv.ext (lowC c k) hb).1, (hinv.ext (lowC c k) hb).2, rfl⟩
    · cases ho
      have d15 : b.tmps.getD 44 undef = .tuple #[.agg (lowC c k), .bool (grpF alus (c / 8) != 0), .bool false] := hdep 15 (by kernel_rfl)
      exact wp_val (by simp [execOp, Act.eval, d15, go_sem] <;> rfl) ⟨_, rfl, hinv, RG.refl _ _ _, rfl⟩
    · cases ho
      have d15 : b.tmps.getD 44 undef = .tuple #[.agg (lowC c k), .bool (grpF alus (c / 8) != 0), .bool false] := hdep 15 (by kernel_rfl)
      exact wp_val (by simp [execOp, Act.eval, d15, go_sem] <;> rfl) ⟨_, rfl, hinv, RG.refl _ _ _, rfl⟩
    · cases ho
      have d15 : b.tmps.getD 44 undef = .tuple #[.agg (lowC c k), .bool (grpF alus (c / 8) != 0), .bool false] := hdep 15 (by kernel_rfl)
      exact wp_val (by simp [execOp, Act.eval, d15, go_sem] <;> rfl) ⟨_, rfl, hinv, RG.refl _ _ _, rfl⟩
    · cases ho
      have d16 : b.tmps.getD 45 undef = .agg (lowC c k) := hdep 16 (by kernel_rfl)
      obtain ⟨x0, e0⟩ := Option.isSome_iff_exists.1 (hinv.there 0 (by decide))
      have z0 := hinv.froz 0
      obtain ⟨x1, e1⟩ := Option.isSome_iff_exists.1 (hinv.there 1 (by decide))
      have z1 := hinv.froz 1
      obtain ⟨x2, e2⟩ := Option.isSome_iff_exists.1 (hinv.there 2 (by decide))
      have z2 := hinv.froz 2
      obtain ⟨x3, e3⟩ := Option.isSome_iff_exists.1 (hinv.there 3 (by decide))
      have z3 := hinv.froz 3
      obtain ⟨x4, e4⟩ := Option.isSome_iff_exists.1 (hinv.there 4 (by decide))
      have z4 := hinv.froz 4
      exact wp_skip (by simp [execOp, Act.eval, d16, b6, lowC, go_sem, e0, e1, e2, e3, e4, z0, z1, z2, z3, z4] <;> rfl) ⟨_, rfl, (hinv.five _ _ _ _ _).1, (hinv.five _ _ _ _ _).2.1, (hinv.five _ _ _ _ _).2.2⟩
    · cases ho
      have d17 : b.tmps.getD 46 undef = .bool (grpF alus (c / 8) != 0) := hdep 17 (by kernel_rfl)
      exact wp_val (by simp [execOp, Act.eval, d17] <;> rfl) ⟨_, rfl, hinv, RG.refl _ _ _, rfl⟩
    · cases ho
      have d18 : b.tmps.getD 47 undef = .bool false := hdep 18 (by kernel_rfl)
      exact wp_val (by simp [execOp, Act.eval, d18] <;> rfl) ⟨_, rfl, hinv, RG.refl _ _ _, rfl⟩
  · intro f u hinv hV
    have q20 : f 20 = .bool (grpF alus (c / 8) != 0) := hV 20 (by decide)
    have q21 : f 21 = .bool false := hV 21 (by decide)
    have qF := hV 19 (by decide)
    generalize hb : laid _ f _ _ = b
    have b6 : b.tmps.getD 6 undef = .pointer (some ⟨w.heap.size, 0, none⟩) := by rw [← hb]; kernel_rfl
    have b7 : b.tmps.getD 7 undef = .bool (grpF alus (c / 8) != 0) := by rw [← hb, ← q20]; kernel_rfl
    have b8 : b.tmps.getD 8 undef = .bool false := by rw [← hb, ← q21]; kernel_rfl
    have bd : b.defers = [] := by rw [← hb]; kernel_rfl
    clear hb
    rw [Array.getD_eq_getD_getElem?] at b6 b7 b8
    go_wp2_with fail
    have w0 : u.cell? ⟨w.heap.size, 0, none⟩ = some (Value.int .i64 (grpF alus (c / 8))) := qF 0 _ rfl
    have w1 : u.cell? ⟨w.heap.size, 1, none⟩ = some (Value.int .i64 0) := qF 1 _ rfl
    have w2 : u.cell? ⟨w.heap.size, 2, none⟩ = some (Value.int .i64 (lowS k)) := qF 2 _ rfl
    have w3 : u.cell? ⟨w.heap.size, 3, none⟩ = some (Value.string (lowH k)) := qF 3 _ rfl
    have w4 : u.cell? ⟨w.heap.size, 4, none⟩ = some (Value.int .i64 (c % 8)) := qF 4 _ rfl
    refine bodyPost_ret (v := .tuple #[.agg (lowC c k), .bool (grpF alus (c / 8) != 0), .bool false]) (by simp [results, Tryd.results23, go_sem, b6, b7, b8, w0, w1, w2, w3, w4, lowC]) bd ⟨by rw [HX.out]; rfl, hinv.below⟩
end
def MapOf (u : World) (B : Nat) (T : Int → Value) : Prop := ∃ es clk, u.heap[B]? = some (.map es clk) ∧ ∀ x ∈ es.toList, ∃ z, x.key = .int .u8 z ∧ x.val = T z
def HasKey (u : World) (B : Nat) (z : Int) : Prop := ∃ es clk, u.heap[B]? = some (.map es clk) ∧ ∃ x, x ∈ es.toList ∧ x.key = .int .u8 z
theorem map_put {P : Program} {u : World} {B : Nat} {T : Int → Value} (mty kt et : TypeId) (hm : P.underlying mty = some (.map kt et)) (hk : P.underlying kt = some (.int .u8)) (h : MapOf u B T) (z : Int) :
    ∃ o, (Instr.mapUpdate mty (.map (some B)) (.int .u8 z) (T z)).run P u = .ok () { u with heap := u.heap.setIfInBounds B o } ∧ (∃ es clk, u.heap[B]? = some (.map es clk)) ∧ (∃ es clk, o = .map es clk) ∧ MapOf { u with heap := u.heap.setIfInBounds B o } B T ∧ HasKey { u with heap := u.heap.setIfInBounds B o } B z ∧ ∀ z', HasKey u B z' → HasKey { u with heap := u.heap.setIfInBounds B o } B z' := by
  obtain ⟨es, clk, hb, hT⟩ := h
  have hK : MapKept.IsKey (.int .u8) (.int .u8 z) := by simp [MapKept.IsKey]
  have hks : ∀ x ∈ es.toList, MapKept.IsKey (.int .u8) x.key := fun x hx => by
    obtain ⟨q, hq, _⟩ := hT x hx
    rw [hq]; simp [MapKept.IsKey]
  have hset : ∀ o, (u.heap.setIfInBounds B o)[B]? = some o := fun o => (MapKept.heap_set hb).1
  rcases MapKept.findNow_spec hK es.toList 0 hks with ⟨h1, h2⟩ | ⟨j, e, h1, h2, h3⟩
  · refine ⟨.map (es.push { key := .int .u8 z, val := T z, born := clk }) (clk + 1), ?_, ⟨es, clk, hb⟩, ⟨_, _, rfl⟩, ⟨_, _, hset _, ?_⟩, ⟨_, _, hset _, ⟨{ key := .int .u8 z, val := T z, born := clk }, by simp, rfl⟩⟩, ?_⟩
    · simp [Instr.mapUpdate, run_underlying hm, MapKept.run_getObj_map hb, MapKept.run_checkKey hk hK, MapKept.run_findKey hk h1, MapKept.run_setObj_map _ hb, Result.andThen]
    · intro x hx
      simp only [Array.toList_push, List.mem_append, List.mem_singleton] at hx
      rcases hx with hx | rfl
      · exact hT x hx
      · exact ⟨z, rfl, rfl⟩
    · rintro z' ⟨es', clk', hb', x, hx, hxk⟩
      rw [hb] at hb'
      cases hb'
      exact ⟨_, _, hset _, x, by simp only [Array.toList_push, List.mem_append]; exact .inl hx, hxk⟩
  · have hj : es[j]? = some e := by simpa using h2
    obtain ⟨q, hq, hv⟩ := hT e (List.mem_of_getElem? (by simpa using h2))
    obtain rfl : q = z := by rw [hq] at h3; injection h3
    refine ⟨.map (es.modify j fun e => { e with key := .int .u8 q, val := T q }) clk, ?_, ⟨es, clk, hb⟩, ⟨_, _, rfl⟩, ?_⟩
    · simp [Instr.mapUpdate, run_underlying hm, MapKept.run_getObj_map hb, MapKept.run_checkKey hk hK, MapKept.run_findKey hk h1, hj, h3, MapKept.run_keyThatStays hK, MapKept.run_setObj_map _ hb, Result.andThen]
    · have hkeys : ∀ x, x ∈ (es.modify j fun e => { e with key := .int .u8 q, val := T q }).toList → (∃ z, x.key = .int .u8 z ∧ x.val = T z) := by
        intro x hx
        obtain ⟨k, hk'⟩ := List.mem_iff_getElem?.1 hx
        rw [Array.getElem?_toList, Array.getElem?_modify] at hk'
        by_cases hjk : j = k
        · rw [if_pos hjk] at hk'
          rw [← hjk, hj] at hk'
          cases hk'
          exact ⟨q, rfl, rfl⟩
        · rw [if_neg hjk] at hk'
          exact hT x (List.mem_of_getElem? (by rw [Array.getElem?_toList]; exact hk'))
      have hhas : ∀ z', (∃ x, x ∈ es.toList ∧ x.key = .int .u8 z') → ∃ x, x ∈ (es.modify j fun e => { e with key := .int .u8 q, val := T q }).toList ∧ x.key = .int .u8 z' := by
        rintro z' ⟨x, hx, hxk⟩
        obtain ⟨k, hk'⟩ := List.mem_iff_getElem?.1 hx
        rw [Array.getElem?_toList] at hk'
        by_cases hjk : j = k
        · refine ⟨{ e with key := .int .u8 q, val := T q }, List.mem_of_getElem? (i := k) (by rw [Array.getElem?_toList, Array.getElem?_modify, if_pos hjk, ← hjk, hj]; rfl), ?_⟩
          rw [← hjk, hj] at hk'
          cases hk'
          rw [← hxk, hq]
        · exact ⟨x, List.mem_of_getElem? (i := k) (by rw [Array.getElem?_toList, Array.getElem?_modify, if_neg hjk]; exact hk'), hxk⟩
      refine ⟨⟨_, _, hset _, hkeys⟩, ⟨_, _, hset _, hhas q ⟨e, List.mem_of_getElem? (by simpa using h2), h3⟩⟩, ?_⟩
      rintro z' ⟨es', clk', hb', hx⟩
      rw [hb] at hb'
      cases hb'
      exact ⟨_, _, hset _, hhas z' hx⟩
theorem map_get {P : Program} {u : World} {B : Nat} {T : Int → Value} (mty kt et : TypeId) (hm : P.underlying mty = some (.map kt et)) (hk : P.underlying kt = some (.int .u8)) (h : MapOf u B T) (z : Int) (hz : HasKey u B z) :
    (Instr.lookup mty (.map (some B)) (.int .u8 z) false).run P u = .ok (T z) u := by
  obtain ⟨es, clk, hb, hT⟩ := h
  obtain ⟨es', clk', hb', x, hx, hxk⟩ := hz
  rw [hb] at hb'
  cases hb'
  have hK : MapKept.IsKey (.int .u8) (.int .u8 z) := by simp [MapKept.IsKey]
  have hks : ∀ x ∈ es.toList, MapKept.IsKey (.int .u8) x.key := fun x hx => by
    obtain ⟨q, hq, _⟩ := hT x hx
    rw [hq]; simp [MapKept.IsKey]
  have hc : ∀ e, (Instr.checkKey e 10000 kt (.int .u8 z)).run P u = .ok () u := fun e => MapKept.run_checkKey (k := .int .u8 z) hk hK e 9999
  rcases MapKept.findNow_spec hK es.toList 0 hks with ⟨_, h2⟩ | ⟨j, e, h1, h2, h3⟩
  · exact absurd hxk (h2 x hx)
  · obtain ⟨q, hq, hv⟩ := hT e (List.mem_of_getElem? h2)
    obtain rfl : q = z := by rw [hq] at h3; injection h3
    simp [Instr.lookup, run_underlying hm, MapKept.run_getObj_map hb, hc, MapKept.run_findKey hk h1, Result.andThen, hv]
theorem cell_set {u : World} {B : Nat} {o : Obj} {ad : Addr} {v : Value} (hb : ∃ es clk, u.heap[B]? = some (.map es clk)) (h : u.cell? ad = some v) : ({ u with heap := u.heap.setIfInBounds B o } : World).cell? ad = some v := by
  obtain ⟨es, clk, hb⟩ := hb
  have hne : ad.block ≠ B := fun e => by
    unfold World.cell? at h
    rw [e, hb] at h
    cases h
  have := (MapKept.heap_set (o' := o) hb).2 ad.block hne
  unfold World.cell? at h ⊢
  rw [show ({ u with heap := u.heap.setIfInBounds B o } : World).heap = u.heap.setIfInBounds B o from rfl, this]
  exact h
theorem other_set {u : World} {B B' : Nat} {o : Obj} (hb : ∃ es clk, u.heap[B]? = some (.map es clk)) (hne : B' ≠ B) : ({ u with heap := u.heap.setIfInBounds B o } : World).heap[B']? = u.heap[B']? := by
  obtain ⟨es, clk, hb⟩ := hb
  exact (MapKept.heap_set (o' := o) hb).2 B' hne
structure KInv (w : World) (R n : Nat) (T1 T2 : Int → Value) (u : World) (g : Nat → Nat) : Prop where
  inv : RInv w R n u
  lt : ∀ B, g B ≠ 0 → R < B ∧ B < u.heap.size
  one : ∀ B, g B = 1 → MapOf u B T1
  two : ∀ B, g B = 2 → MapOf u B T2
structure KG (R : Nat) (C : Array Value) (u : World) (g : Nat → Nat) (u' : World) (g' : Nat → Nat) : Prop where
  cells : RG R C u u'
  kind : ∀ B, g B ≠ 0 → g' B = g B
  has : ∀ B z, g B ≠ 0 → HasKey u B z → HasKey u' B z
theorem KG.refl (R : Nat) (C : Array Value) (u : World) (g : Nat → Nat) : KG R C u g u g := ⟨RG.refl _ _ _, fun _ _ => rfl, fun _ _ _ h => h⟩
theorem KInv.ext {w u u' : World} {R n : Nat} {T1 T2 : Int → Value} {g : Nat → Nat} (C : Array Value) (h : KInv w R n T1 T2 u g) (hb : Below u.heap.size u u') : KInv w R n T1 T2 u' g ∧ KG R C u g u' g := by
  have e := h.inv.ext C hb
  have hh : ∀ B, g B ≠ 0 → u'.heap[B]? = u.heap[B]? := fun B hB => hb.block B (h.lt B hB).2
  refine ⟨⟨e.1, fun B hB => ⟨(h.lt B hB).1, Nat.lt_of_lt_of_le (h.lt B hB).2 hb.size⟩, fun B hB => ?_, fun B hB => ?_⟩, ⟨e.2, fun _ _ => rfl, fun B z hB hz => ?_⟩⟩
  · have := h.one B hB
    unfold MapOf at this ⊢
    rw [hh B (by omega)]
    exact this
  · have := h.two B hB
    unfold MapOf at this ⊢
    rw [hh B (by omega)]
    exact this
  · unfold HasKey at hz ⊢
    rw [hh B hB]
    exact hz
theorem KInv.new {w u : World} {R n : Nat} {T1 T2 : Int → Value} {g : Nat → Nat} (C : Array Value) (h : KInv w R n T1 T2 u g) (k : Nat) :
    ∃ g', KInv w R n T1 T2 (u.alloc (.map #[] 0)) g' ∧ KG R C u g (u.alloc (.map #[] 0)) g' ∧ g' u.heap.size = k := by
  obtain ⟨e1, e2⟩ := h.ext C (below_last (Below.refl _ u) (.map #[] 0))
  have hnew : MapOf (u.alloc (.map #[] 0)) u.heap.size T1 ∧ MapOf (u.alloc (.map #[] 0)) u.heap.size T2 := ⟨⟨#[], 0, (MapKept.heap_alloc u _).1, by simp⟩, ⟨#[], 0, (MapKept.heap_alloc u _).1, by simp⟩⟩
  refine ⟨fun B => if B = u.heap.size then k else g B, ⟨e1.inv, fun B hB => ?_, fun B hB => ?_, fun B hB => ?_⟩, ⟨e2.cells, fun B hB => ?_, fun B z hB hz => e2.has B z hB hz⟩, by simp⟩
  · by_cases hs : B = u.heap.size
    · exact ⟨by rw [hs]; exact h.inv.lt, by rw [hs]; simp⟩
    · simp only [if_neg hs] at hB
      exact e1.lt B hB
  · by_cases hs : B = u.heap.size
    · rw [hs]; exact hnew.1
    · simp only [if_neg hs] at hB
      exact e1.one B hB
  · by_cases hs : B = u.heap.size
    · rw [hs]; exact hnew.2
    · simp only [if_neg hs] at hB
      exact e1.two B hB
  · have := (h.lt B hB).2
    rw [if_neg (by omega)]
theorem KInv.put {P : Program} {w u : World} {R n : Nat} {T1 T2 : Int → Value} {g : Nat → Nat} (C : Array Value) (h : KInv w R n T1 T2 u g) (mty kt et : TypeId) (hm : P.underlying mty = some (.map kt et)) (hk : P.underlying kt = some (.int .u8)) (B : Nat) (T : Int → Value) (hB : g B = 1 ∧ T = T1 ∨ g B = 2 ∧ T = T2) (z : Int) :
    ∃ u', (Instr.mapUpdate mty (.map (some B)) (.int .u8 z) (T z)).run P u = .ok () u' ∧ KInv w R n T1 T2 u' g ∧ KG R C u g u' g ∧ HasKey u' B z := by
  have hof : MapOf u B T := by
    rcases hB with ⟨h1, rfl⟩ | ⟨h1, rfl⟩
    · exact h.one B h1
    · exact h.two B h1
  have hB0 : g B ≠ 0 := by omega
  obtain ⟨hRB, hBl⟩ := h.lt B hB0
  obtain ⟨o, hrun, hmap, ⟨es', clk', ho⟩, h1, h2, h3⟩ := map_put mty kt et hm hk hof z
  have hsz : ({ u with heap := u.heap.setIfInBounds B o } : World).heap.size = u.heap.size := by simp
  have hoth : ∀ B', B' ≠ B → ({ u with heap := u.heap.setIfInBounds B o } : World).heap[B']? = u.heap[B']? := fun B' hne => other_set hmap hne
  have hkeep : ∀ B' T', B' ≠ B → MapOf u B' T' → MapOf { u with heap := u.heap.setIfInBounds B o } B' T' := fun B' T' hne hq => by
    unfold MapOf at hq ⊢
    rw [hoth B' hne]
    exact hq
  refine ⟨_, hrun, ⟨⟨⟨h.inv.below.os, h.inv.below.tape, h.inv.below.output, by rw [hsz]; exact h.inv.below.size, fun k hk => by rw [hoth k (by omega)]; exact h.inv.below.block k hk⟩, by rw [hsz]; exact h.inv.lt, fun i hi => ?_, fun i => ?_⟩, fun B' hB' => by rw [hsz]; exact h.lt B' hB', fun B' hB' => ?_, fun B' hB' => ?_⟩, ⟨⟨fun ad v _ hc => cell_set hmap hc, fun hf i v hi => cell_set hmap (hf i v hi)⟩, fun _ _ => rfl, fun B' z' _ hz' => ?_⟩, h2⟩
  · obtain ⟨x, hx⟩ := Option.isSome_iff_exists.1 (h.inv.there i hi)
    rw [cell_set hmap hx]
    rfl
  · have := h.inv.froz i
    unfold World.frozen? at this ⊢
    rw [hoth R (by omega)]
    exact this
  · by_cases hne : B' = B
    · subst hne
      rcases hB with ⟨_, rfl⟩ | ⟨hq, _⟩
      · exact h1
      · omega
    · exact hkeep B' T1 hne (h.one B' hB')
  · by_cases hne : B' = B
    · subst hne
      rcases hB with ⟨hq, _⟩ | ⟨_, rfl⟩
      · omega
      · exact h1
    · exact hkeep B' T2 hne (h.two B' hB')
  · by_cases hne : B' = B
    · subst hne; exact h3 z' hz'
    · unfold HasKey at hz' ⊢
      rw [hoth B' hne]
      exact hz'
theorem KInv.five {w u : World} {R : Nat} {T1 T2 : Int → Value} {g : Nat → Nat} (h : KInv w R 5 T1 T2 u g) (a b c d e : Value) :
    KInv w R 5 T1 T2 (((((u.setCell ⟨R, 0, none⟩ a).setCell ⟨R, 1, none⟩ b).setCell ⟨R, 2, none⟩ c).setCell ⟨R, 3, none⟩ d).setCell ⟨R, 4, none⟩ e) g ∧
    KG R #[a, b, c, d, e] u g (((((u.setCell ⟨R, 0, none⟩ a).setCell ⟨R, 1, none⟩ b).setCell ⟨R, 2, none⟩ c).setCell ⟨R, 3, none⟩ d).setCell ⟨R, 4, none⟩ e) g ∧
    Full R #[a, b, c, d, e] (((((u.setCell ⟨R, 0, none⟩ a).setCell ⟨R, 1, none⟩ b).setCell ⟨R, 2, none⟩ c).setCell ⟨R, 3, none⟩ d).setCell ⟨R, 4, none⟩ e) := by
  obtain ⟨f1, f2, f3⟩ := h.inv.five a b c d e
  have hoth : ∀ (x : World) (i : Nat) (v : Value) (B : Nat), B ≠ R → (x.setCell ⟨R, i, none⟩ v).heap[B]? = x.heap[B]? := fun x i v B hB => by
    unfold World.setCell
    simp only [Array.getElem?_modify]
    exact if_neg (fun e => hB e.symm)
  have hall : ∀ B, B ≠ R → (((((u.setCell ⟨R, 0, none⟩ a).setCell ⟨R, 1, none⟩ b).setCell ⟨R, 2, none⟩ c).setCell ⟨R, 3, none⟩ d).setCell ⟨R, 4, none⟩ e).heap[B]? = u.heap[B]? := fun B hB => by
    rw [hoth _ _ _ B hB, hoth _ _ _ B hB, hoth _ _ _ B hB, hoth _ _ _ B hB, hoth _ _ _ B hB]
  have hne : ∀ B, g B ≠ 0 → B ≠ R := fun B hB => by have := (h.lt B hB).1; omega
  refine ⟨⟨f1, fun B hB => ⟨(h.lt B hB).1, by simpa [World.setCell] using (h.lt B hB).2⟩, fun B hB => ?_, fun B hB => ?_⟩, ⟨f2, fun _ _ => rfl, fun B z hB hz => ?_⟩, f3⟩
  · have := h.one B hB
    unfold MapOf at this ⊢
    rw [hall B (hne B (by omega))]
    exact this
  · have := h.two B hB
    unfold MapOf at this ⊢
    rw [hall B (hne B (by omega))]
    exact this
  · unfold HasKey at hz ⊢
    rw [hall B (hne B hB)]
    exact hz
section
attribute [local go_sem] isSome_setCell
def sz8 (z : Int) : Value := .int .i64 (if z = 128 then 1 else 4)
def hw8 (z : Int) : Value := .string (if z = 131 then ⟨#[69, 98]⟩ else ⟨#[69, 73]⟩)
def grpC (c reg : Int) : Array Value := #[.int .i64 (grpF alus reg), .int .i64 0, sz8 c, hw8 c, .int .i64 (c % 8)]
def grpV (c reg : Int) (R : Nat) : Nat → Value → Value → World → (Nat → Nat) → Prop
  | 0, v, _, _, _ => v = .int .u8 c
  | 1, v, _, _, _ => v = .int .i64 reg
  | 2, v, _, _, _ => v = .int .i64 (grpF alus reg)
  | 3, v, _, _, g => ∃ B, v = .map (some B) ∧ g B = 1
  | 4, _, x, u, g => ∃ B, x = .map (some B) ∧ g B = 1 ∧ HasKey u B 128
  | 5, _, x, u, g => ∃ B, x = .map (some B) ∧ g B = 1 ∧ HasKey u B 129
  | 6, _, x, u, g => ∃ B, x = .map (some B) ∧ g B = 1 ∧ HasKey u B 131
  | 7, v, _, u, g => ∃ B, v = .map (some B) ∧ g B = 1 ∧ HasKey u B c
  | 8, v, _, _, _ => v = .int .u8 c
  | 9, v, _, _, _ => v = sz8 c
  | 10, v, _, _, g => ∃ B, v = .map (some B) ∧ g B = 2
  | 11, _, x, u, g => ∃ B, x = .map (some B) ∧ g B = 2 ∧ HasKey u B 128
  | 12, _, x, u, g => ∃ B, x = .map (some B) ∧ g B = 2 ∧ HasKey u B 129
  | 13, _, x, u, g => ∃ B, x = .map (some B) ∧ g B = 2 ∧ HasKey u B 131
  | 14, v, _, u, g => ∃ B, v = .map (some B) ∧ g B = 2 ∧ HasKey u B c
  | 15, v, _, _, _ => v = .int .u8 c
  | 16, v, _, _, _ => v = hw8 c
  | 17, v, _, _, _ => v = .tuple #[.agg (grpC c reg), .bool (grpF alus reg != 0), .bool false]
  | 18, v, _, _, _ => v = .agg (grpC c reg)
  | 19, v, _, _, _ => v = .bool (grpF alus reg != 0)
  | 20, v, _, _, _ => v = .bool false
  | 21, _, _, u, _ => Full R (grpC c reg) u
  | 22, v, _, _, _ => v = .bool (grpF alus reg != 0)
  | 23, v, _, _, _ => v = .bool false
  | _, _, _, _, _ => True
theorem grpV_stays {c reg : Int} {R : Nat} (i : Nat) (v x : Value) (u : World) (g : Nat → Nat) (u' : World) (g' : Nat → Nat) (h : grpV c reg R i v x u g) (k : KG R (grpC c reg) u g u' g') : grpV c reg R i v x u' g' := by
  unfold grpV at h ⊢
  split at h
  all_goals first
    | exact h
    | exact k.cells.2 h
    | (obtain ⟨B, h1, h2, h3⟩ := h; exact ⟨B, h1, by rw [k.kind B (by omega)]; exact h2, k.has B _ (by omega) h3⟩)
    | (obtain ⟨B, h1, h2⟩ := h; exact ⟨B, h1, by rw [k.kind B (by omega)]; exact h2⟩)
def grpP (i : Nat) : Nat := if i = 4 ∨ i = 5 ∨ i = 6 then 3 else if i = 11 ∨ i = 12 ∨ i = 13 then 10 else i
def grpN (i : Nat) : Bool := i == 4 || i == 5 || i == 6 || i == 11 || i == 12 || i == 13 || i == 21
set_option maxRecDepth 100000
set_option maxHeartbeats 4000000
theorem first_128y (reg : Int) (m3 : Bool) (r0 : 0 ≤ reg) (r1 : reg < 8) (w : World) : Calls Tryd.prog 23 #[.int .u8 128, .int .i64 reg, .bool m3] w fun e w' => e = .returned (fstL (firstF 128 reg m3)) ∧ Below w.heap.size w w' := by
  have HX := Lib.hid (show firstF 128 reg m3 = isF 128 (grpF alus reg) 1 [69, 73] by show byF 128 reg alus 1 [69, 73] = _; unfold byF; rw [if_neg (by omega)])
  have HA := Lib.hid (alu_any reg r0 r1)
  have HI := Lib.hid (is_any 128 (grpF alus reg) 1 ⟨([69, 73] : List UInt8).toArray⟩ (by decide) (by decide))
  have hd : decide (reg < 0) = false := decide_eq_false (by omega)
  go_enter Tryd.func23, Tryd.ntmps23
  go_upto_region 37 with (go_at_call 42; refine (size4_any _ (by first | decide | omega) (by first | decide | omega) _).mono ?_; rintro e w' ⟨rfl, rfl⟩)
  refine wp_region_mind (γ := Nat → Nat) (by kernel_rfl) grpN grpP (by kernel_rfl) (fun _ => 0) (KInv w w.heap.size 5 sz8 hw8) (KG w.heap.size (grpC 128 reg)) (grpV 128 reg w.heap.size) grpV_stays (KG.refl _ _) ?_ ?_ ?_
  · exact ⟨RInv.drawn ⟨below_last (Below.refl _ _) _, by simp, fun i hi => by
      have h5 : i = 0 ∨ i = 1 ∨ i = 2 ∨ i = 3 ∨ i = 4 := by omega
      rcases h5 with rfl | rfl | rfl | rfl | rfl <;> simp, fun i => by simp⟩, fun B hB => absurd rfl hB, (fun B hB => by cases hB), (fun B hB => by cases hB)⟩
  · intro i o b u g ho hinv hsz hbase hdep
    have hi : i < 24 := (Array.getElem?_eq_some_iff.1 ho).1
    have b0 : b.tmps.getD 0 undef = .int .u8 128 := hbase 0 (by kernel_rfl)
    have b1 : b.tmps.getD 1 undef = .int .i64 reg := hbase 1 (by kernel_rfl)
    have b6 : b.tmps.getD 6 undef = .pointer (some ⟨w.heap.size, 0, none⟩) := hbase 6 (by kernel_rfl)
    clear hbase hsz
    have h22 : i = 0 ∨ i = 1 ∨ i = 2 ∨ i = 3 ∨ i = 4 ∨ i = 5 ∨ i = 6 ∨ i = 7 ∨ i = 8 ∨ i = 9 ∨ i = 10 ∨ i = 11 ∨ i = 12 ∨ i = 13 ∨ i = 14 ∨ i = 15 ∨ i = 16 ∨ i = 17 ∨ i = 18 ∨ i = 19 ∨ i = 20 ∨ i = 21 ∨ i = 22 ∨ i = 23 := by omega
    rcases h22 with rfl | rfl | rfl | rfl | rfl | rfl | rfl | rfl | rfl | rfl | rfl | rfl | rfl | rfl | rfl | rfl | rfl | rfl | rfl | rfl | rfl | rfl | rfl | rfl
    · cases ho
      exact wp_val (by simp [execOp, Act.eval, b0] <;> rfl) ⟨_, g, rfl, hinv, KG.refl _ _ _ _, rfl⟩
    · cases ho
      exact wp_val (by simp [execOp, Act.eval, b1] <;> rfl) ⟨_, g, rfl, hinv, KG.refl _ _ _ _, rfl⟩
    · cases ho
      have d1 : b.tmps.getD 192 undef = .int .i64 reg := hdep 1 (by kernel_rfl)
      refine wp_call (by simp [execOp, Act.eval, d1, go_sem] <;> rfl) ((HA.out u).mono ?_)
      rintro e u' ⟨rfl, hb⟩
      exact ⟨_, rfl, _, g, rfl, (hinv.ext (grpC 128 reg) hb).1, (hinv.ext (grpC 128 reg) hb).2, rfl⟩
    · cases ho
      obtain ⟨g', m1, m2, m3'⟩ := hinv.new (grpC 128 reg) 1
      exact wp_val (by simp [execOp, run_makeMap, Result.andThen] <;> rfl) ⟨_, g', rfl, m1, m2, _, rfl, m3'⟩
    · cases ho
      obtain ⟨B, e1, e2⟩ := hdep 3 (by kernel_rfl)
      have d3 : b.tmps.getD 194 undef = .map (some B) := e1
      obtain ⟨u', m1, m2, m3', m4⟩ := hinv.put (grpC 128 reg) 75 5 3 Tryd.underlying75 Tryd.underlying5 B sz8 (.inl ⟨e2, rfl⟩) 128
      rw [show sz8 128 = .int .i64 1 by simp [sz8]] at m1
      exact wp_skip (by simp [execOp, Act.eval, d3, m1, Result.andThen] <;> rfl) ⟨_, g, rfl, m2, m3', B, e1, e2, m4⟩
    · cases ho
      obtain ⟨B, e1, e2⟩ := hdep 3 (by kernel_rfl)
      have d3 : b.tmps.getD 194 undef = .map (some B) := e1
      obtain ⟨u', m1, m2, m3', m4⟩ := hinv.put (grpC 128 reg) 75 5 3 Tryd.underlying75 Tryd.underlying5 B sz8 (.inl ⟨e2, rfl⟩) 129
      rw [show sz8 129 = .int .i64 4 by simp [sz8]] at m1
      exact wp_skip (by simp [execOp, Act.eval, d3, m1, Result.andThen] <;> rfl) ⟨_, g, rfl, m2, m3', B, e1, e2, m4⟩
    · cases ho
      obtain ⟨B, e1, e2⟩ := hdep 3 (by kernel_rfl)
      have d3 : b.tmps.getD 194 undef = .map (some B) := e1
      obtain ⟨u', m1, m2, m3', m4⟩ := hinv.put (grpC 128 reg) 75 5 3 Tryd.underlying75 Tryd.underlying5 B sz8 (.inl ⟨e2, rfl⟩) 131
      rw [show sz8 131 = .int .i64 4 by simp [sz8]] at m1
      exact wp_skip (by simp [execOp, Act.eval, d3, m1, Result.andThen] <;> rfl) ⟨_, g, rfl, m2, m3', B, e1, e2, m4⟩
    · cases ho
      obtain ⟨B, e1, e2, e3⟩ := hdep 4 (by kernel_rfl)
      have d3 : b.tmps.getD 194 undef = .map (some B) := e1
      exact wp_val (by simp [execOp, Act.eval, d3] <;> rfl) ⟨_, g, rfl, hinv, KG.refl _ _ _ _, B, rfl, e2, e3⟩
    · cases ho
      exact wp_val (by simp [execOp, Act.eval, b0] <;> rfl) ⟨_, g, rfl, hinv, KG.refl _ _ _ _, rfl⟩
    · cases ho
      obtain ⟨B, e1, e2, e3⟩ := hdep 7 (by kernel_rfl)
      have d7 : b.tmps.getD 195 undef = .map (some B) := e1
      have d8 : b.tmps.getD 196 undef = .int .u8 128 := hdep 8 (by kernel_rfl)
      have m1 := map_get 75 5 3 Tryd.underlying75 Tryd.underlying5 (hinv.one B e2) 128 e3
      exact wp_val (by simp [execOp, Act.eval, d7, d8, m1, Result.andThen] <;> rfl) ⟨_, g, rfl, hinv, KG.refl _ _ _ _, rfl⟩
    · cases ho
      obtain ⟨g', m1, m2, m3'⟩ := hinv.new (grpC 128 reg) 2
      exact wp_val (by simp [execOp, run_makeMap, Result.andThen] <;> rfl) ⟨_, g', rfl, m1, m2, _, rfl, m3'⟩
    · cases ho
      obtain ⟨B, e1, e2⟩ := hdep 10 (by kernel_rfl)
      have d10 : b.tmps.getD 198 undef = .map (some B) := e1
      obtain ⟨u', m1, m2, m3', m4⟩ := hinv.put (grpC 128 reg) 74 5 9 Tryd.underlying74 Tryd.underlying5 B hw8 (.inr ⟨e2, rfl⟩) 128
      rw [show hw8 128 = .string ⟨#[69, 73]⟩ by simp [hw8]] at m1
      exact wp_skip (by simp [execOp, Act.eval, d10, m1, Result.andThen] <;> rfl) ⟨_, g, rfl, m2, m3', B, e1, e2, m4⟩
    · cases ho
      obtain ⟨B, e1, e2⟩ := hdep 10 (by kernel_rfl)
      have d10 : b.tmps.getD 198 undef = .map (some B) := e1
      obtain ⟨u', m1, m2, m3', m4⟩ := hinv.put (grpC 128 reg) 74 5 9 Tryd.underlying74 Tryd.underlying5 B hw8 (.inr ⟨e2, rfl⟩) 129
      rw [show hw8 129 = .string ⟨#[69, 73]⟩ by simp [hw8]] at m1
      exact wp_skip (by simp [execOp, Act.eval, d10, m1, Result.andThen] <;> rfl) ⟨_, g, rfl, m2, m3', B, e1, e2, m4⟩
    · cases ho
      obtain ⟨B, e1, e2⟩ := hdep 10 (by kernel_rfl)
      have d10 : b.tmps.getD 198 undef = .map (some B) := e1
      obtain ⟨u', m1, m2, m3', m4⟩ := hinv.put (grpC 128 reg) 74 5 9 Tryd.underlying74 Tryd.underlying5 B hw8 (.inr ⟨e2, rfl⟩) 131
      rw [show hw8 131 = .string ⟨#[69, 98]⟩ by simp [hw8]] at m1
      exact wp_skip (by simp [execOp, Act.eval, d10, m1, Result.andThen] <;> rfl) ⟨_, g, rfl, m2, m3', B, e1, e2, m4⟩
    · cases ho
      obtain ⟨B, e1, e2, e3⟩ := hdep 11 (by kernel_rfl)
      have d10 : b.tmps.getD 198 undef = .map (some B) := e1
      exact wp_val (by simp [execOp, Act.eval, d10] <;> rfl) ⟨_, g, rfl, hinv, KG.refl _ _ _ _, B, rfl, e2, e3⟩
    · cases ho
      exact wp_val (by simp [execOp, Act.eval, b0] <;> rfl) ⟨_, g, rfl, hinv, KG.refl _ _ _ _, rfl⟩
    · cases ho
      obtain ⟨B, e1, e2, e3⟩ := hdep 14 (by kernel_rfl)
      have d14 : b.tmps.getD 199 undef = .map (some B) := e1
      have d15 : b.tmps.getD 200 undef = .int .u8 128 := hdep 15 (by kernel_rfl)
      have m1 := map_get 74 5 9 Tryd.underlying74 Tryd.underlying5 (hinv.two B e2) 128 e3
      exact wp_val (by simp [execOp, Act.eval, d14, d15, m1, Result.andThen] <;> rfl) ⟨_, g, rfl, hinv, KG.refl _ _ _ _, rfl⟩
    · cases ho
      have d0 : b.tmps.getD 191 undef = .int .u8 128 := hdep 0 (by kernel_rfl)
      have d2 : b.tmps.getD 193 undef = .int .i64 (grpF alus reg) := hdep 2 (by kernel_rfl)
      have d9 : b.tmps.getD 197 undef = sz8 128 := hdep 9 (by kernel_rfl)
      have d16 : b.tmps.getD 201 undef = hw8 128 := hdep 16 (by kernel_rfl)
      refine wp_call (by simp [execOp, Act.eval, d0, d2, d9, d16, sz8, hw8, go_sem] <;> rfl) ((HI.out u).mono ?_)
      rintro e u' ⟨rfl, hb⟩
      exact ⟨_, rfl, _, g, rfl, (hinv.ext (grpC 128 reg) hb).1, (hinv.ext (grpC 128 reg) hb).2, rfl⟩
    · cases ho
      have d17 : b.tmps.getD 202 undef = .tuple #[.agg (grpC 128 reg), .bool (grpF alus reg != 0), .bool false] := hdep 17 (by kernel_rfl)
      exact wp_val (by simp [execOp, Act.eval, d17, go_sem] <;> rfl) ⟨_, g, rfl, hinv, KG.refl _ _ _ _, rfl⟩
    · cases ho
      have d17 : b.tmps.getD 202 undef = .tuple #[.agg (grpC 128 reg), .bool (grpF alus reg != 0), .bool false] := hdep 17 (by kernel_rfl)
      exact wp_val (by simp [execOp, Act.eval, d17, go_sem] <;> rfl) ⟨_, g, rfl, hinv, KG.refl _ _ _ _, rfl⟩
    · cases ho
      have d17 : b.tmps.getD 202 undef = .tuple #[.agg (grpC 128 reg), .bool (grpF alus reg != 0), .bool false] := hdep 17 (by kernel_rfl)
      exact wp_val (by simp [execOp, Act.eval, d17, go_sem] <;> rfl) ⟨_, g, rfl, hinv, KG.refl _ _ _ _, rfl⟩
    · cases ho
      have d18 : b.tmps.getD 203 undef = .agg (grpC 128 reg) := hdep 18 (by kernel_rfl)
      obtain ⟨x0, e0⟩ := Option.isSome_iff_exists.1 (hinv.inv.there 0 (by decide))
      have z0 := hinv.inv.froz 0
      obtain ⟨x1, e1⟩ := Option.isSome_iff_exists.1 (hinv.inv.there 1 (by decide))
      have z1 := hinv.inv.froz 1
      obtain ⟨x2, e2⟩ := Option.isSome_iff_exists.1 (hinv.inv.there 2 (by decide))
      have z2 := hinv.inv.froz 2
      obtain ⟨x3, e3⟩ := Option.isSome_iff_exists.1 (hinv.inv.there 3 (by decide))
      have z3 := hinv.inv.froz 3
      obtain ⟨x4, e4⟩ := Option.isSome_iff_exists.1 (hinv.inv.there 4 (by decide))
      have z4 := hinv.inv.froz 4
      obtain ⟨f1, f2, f3⟩ := hinv.five (.int .i64 (grpF alus reg)) (.int .i64 0) (sz8 128) (hw8 128) (.int .i64 (128 % 8))
      exact wp_skip (by simp [execOp, Act.eval, d18, b6, grpC, sz8, hw8, go_sem, e0, e1, e2, e3, e4, z0, z1, z2, z3, z4] <;> rfl) ⟨_, g, rfl, f1, f2, f3⟩
    · cases ho
      have d19 : b.tmps.getD 204 undef = .bool (grpF alus reg != 0) := hdep 19 (by kernel_rfl)
      exact wp_val (by simp [execOp, Act.eval, d19] <;> rfl) ⟨_, g, rfl, hinv, KG.refl _ _ _ _, rfl⟩
    · cases ho
      have d20 : b.tmps.getD 205 undef = .bool false := hdep 20 (by kernel_rfl)
      exact wp_val (by simp [execOp, Act.eval, d20] <;> rfl) ⟨_, g, rfl, hinv, KG.refl _ _ _ _, rfl⟩
  · intro f u g hinv hV
    have q20 : f 22 = .bool (grpF alus reg != 0) := hV 22 (by decide)
    have q21 : f 23 = .bool false := hV 23 (by decide)
    have qF := hV 21 (by decide)
    generalize hb : laid _ f _ _ = b
    have b6 : b.tmps.getD 6 undef = .pointer (some ⟨w.heap.size, 0, none⟩) := by rw [← hb]; kernel_rfl
    have b7 : b.tmps.getD 7 undef = .bool (grpF alus reg != 0) := by rw [← hb, ← q20]; kernel_rfl
    have b8 : b.tmps.getD 8 undef = .bool false := by rw [← hb, ← q21]; kernel_rfl
    have bd : b.defers = [] := by rw [← hb]; kernel_rfl
    clear hb
    rw [Array.getD_eq_getD_getElem?] at b6 b7 b8
    go_wp2_with fail
    have w0 : u.cell? ⟨w.heap.size, 0, none⟩ = some (Value.int .i64 (grpF alus reg)) := qF 0 _ rfl
    have w1 : u.cell? ⟨w.heap.size, 1, none⟩ = some (Value.int .i64 0) := qF 1 _ rfl
    have w2 : u.cell? ⟨w.heap.size, 2, none⟩ = some (Value.int .i64 1) := qF 2 _ rfl
    have w3 : u.cell? ⟨w.heap.size, 3, none⟩ = some (Value.string ⟨([69, 73] : List UInt8).toArray⟩) := qF 3 _ rfl
    have w4 : u.cell? ⟨w.heap.size, 4, none⟩ = some (Value.int .i64 0) := qF 4 _ rfl
    refine bodyPost_ret (v := .tuple #[.agg #[.int .i64 (grpF alus reg), .int .i64 0, .int .i64 1, .string ⟨([69, 73] : List UInt8).toArray⟩, .int .i64 0], .bool (grpF alus reg != 0), .bool false]) (by simp [results, Tryd.results23, go_sem, b6, b7, b8, w0, w1, w2, w3, w4]) bd ⟨by rw [HX.out]; rfl, hinv.inv.below⟩
theorem first_129y (reg : Int) (m3 : Bool) (r0 : 0 ≤ reg) (r1 : reg < 8) (w : World) : Calls Tryd.prog 23 #[.int .u8 129, .int .i64 reg, .bool m3] w fun e w' => e = .returned (fstL (firstF 129 reg m3)) ∧ Below w.heap.size w w' := by
  have HX := Lib.hid (show firstF 129 reg m3 = isF 129 (grpF alus reg) 4 [69, 73] by show byF 129 reg alus 4 [69, 73] = _; unfold byF; rw [if_neg (by omega)])
  have HA := Lib.hid (alu_any reg r0 r1)
  have HI := Lib.hid (is_any 129 (grpF alus reg) 4 ⟨([69, 73] : List UInt8).toArray⟩ (by decide) (by decide))
  have hd : decide (reg < 0) = false := decide_eq_false (by omega)
  go_enter Tryd.func23, Tryd.ntmps23
  go_upto_region 37 with (go_at_call 42; refine (size4_any _ (by first | decide | omega) (by first | decide | omega) _).mono ?_; rintro e w' ⟨rfl, rfl⟩)
  refine wp_region_mind (γ := Nat → Nat) (by kernel_rfl) grpN grpP (by kernel_rfl) (fun _ => 0) (KInv w w.heap.size 5 sz8 hw8) (KG w.heap.size (grpC 129 reg)) (grpV 129 reg w.heap.size) grpV_stays (KG.refl _ _) ?_ ?_ ?_
  · exact ⟨RInv.drawn ⟨below_last (Below.refl _ _) _, by simp, fun i hi => by
      have h5 : i = 0 ∨ i = 1 ∨ i = 2 ∨ i = 3 ∨ i = 4 := by omega
      rcases h5 with rfl | rfl | rfl | rfl | rfl <;> simp, fun i => by simp⟩, fun B hB => absurd rfl hB, (fun B hB => by cases hB), (fun B hB => by cases hB)⟩
  · intro i o b u g ho hinv hsz hbase hdep
    have hi : i < 24 := (Array.getElem?_eq_some_iff.1 ho).1
    have b0 : b.tmps.getD 0 undef = .int .u8 129 := hbase 0 (by kernel_rfl)
    have b1 : b.tmps.getD 1 undef = .int .i64 reg := hbase 1 (by kernel_rfl)
    have b6 : b.tmps.getD 6 undef = .pointer (some ⟨w.heap.size, 0, none⟩) := hbase 6 (by kernel_rfl)
    clear hbase hsz
    have h22 : i = 0 ∨ i = 1 ∨ i = 2 ∨ i = 3 ∨ i = 4 ∨ i = 5 ∨ i = 6 ∨ i = 7 ∨ i = 8 ∨ i = 9 ∨ i = 10 ∨ i = 11 ∨ i = 12 ∨ i = 13 ∨ i = 14 ∨ i = 15 ∨ i = 16 ∨ i = 17 ∨ i = 18 ∨ i = 19 ∨ i = 20 ∨ i = 21 ∨ i = 22 ∨ i = 23 := by omega
    rcases h22 with rfl | rfl | rfl | rfl | rfl | rfl | rfl | rfl | rfl | rfl | rfl | rfl | rfl | rfl | rfl | rfl | rfl | rfl | rfl | rfl | rfl | rfl | rfl | rfl
    · cases ho
      exact wp_val (by simp [execOp, Act.eval, b0] <;> rfl) ⟨_, g, rfl, hinv, KG.refl _ _ _ _, rfl⟩
    · cases ho
      exact wp_val (by simp [execOp, Act.eval, b1] <;> rfl) ⟨_, g, rfl, hinv, KG.refl _ _ _ _, rfl⟩
    · cases ho
      have d1 : b.tmps.getD 192 undef = .int .i64 reg := hdep 1 (by kernel_rfl)
      refine wp_call (by simp [execOp, Act.eval, d1, go_sem] <;> rfl) ((HA.out u).mono ?_)
      rintro e u' ⟨rfl, hb⟩
      exact ⟨_, rfl, _, g, rfl, (hinv.ext (grpC 129 reg) hb).1, (hinv.ext (grpC 129 reg) hb).2, rfl⟩
    · cases ho
      obtain ⟨g', m1, m2, m3'⟩ := hinv.new (grpC 129 reg) 1
      exact wp_val (by simp [execOp, run_makeMap, Result.andThen] <;> rfl) ⟨_, g', rfl, m1, m2, _, rfl, m3'⟩
    · cases ho
      obtain ⟨B, e1, e2⟩ := hdep 3 (by kernel_rfl)
      have d3 : b.tmps.getD 194 undef = .map (some B) := e1
      obtain ⟨u', m1, m2, m3', m4⟩ := hinv.put (grpC 129 reg) 75 5 3 Tryd.underlying75 Tryd.underlying5 B sz8 (.inl ⟨e2, rfl⟩) 128
      rw [show sz8 128 = .int .i64 1 by simp [sz8]] at m1
      exact wp_skip (by simp [execOp, Act.eval, d3, m1, Result.andThen] <;> rfl) ⟨_, g, rfl, m2, m3', B, e1, e2, m4⟩
    · cases ho
      obtain ⟨B, e1, e2⟩ := hdep 3 (by kernel_rfl)
      have d3 : b.tmps.getD 194 undef = .map (some B) := e1
      obtain ⟨u', m1, m2, m3', m4⟩ := hinv.put (grpC 129 reg) 75 5 3 Tryd.underlying75 Tryd.underlying5 B sz8 (.inl ⟨e2, rfl⟩) 129
      rw [show sz8 129 = .int .i64 4 by simp [sz8]] at m1
      exact wp_skip (by simp [execOp, Act.eval, d3, m1, Result.andThen] <;> rfl) ⟨_, g, rfl, m2, m3', B, e1, e2, m4⟩
    · cases ho
      obtain ⟨B, e1, e2⟩ := hdep 3 (by kernel_rfl)
      have d3 : b.tmps.getD 194 undef = .map (some B) := e1
      obtain ⟨u', m1, m2, m3', m4⟩ := hinv.put (grpC 129 reg) 75 5 3 Tryd.underlying75 Tryd.underlying5 B sz8 (.inl ⟨e2, rfl⟩) 131
      rw [show sz8 131 = .int .i64 4 by simp [sz8]] at m1
      exact wp_skip (by simp [execOp, Act.eval, d3, m1, Result.andThen] <;> rfl) ⟨_, g, rfl, m2, m3', B, e1, e2, m4⟩
    · cases ho
      obtain ⟨B, e1, e2, e3⟩ := hdep 5 (by kernel_rfl)
      have d3 : b.tmps.getD 194 undef = .map (some B) := e1
      exact wp_val (by simp [execOp, Act.eval, d3] <;> rfl) ⟨_, g, rfl, hinv, KG.refl _ _ _ _, B, rfl, e2, e3⟩
    · cases ho
      exact wp_val (by simp [execOp, Act.eval, b0] <;> rfl) ⟨_, g, rfl, hinv, KG.refl _ _ _ _, rfl⟩
    · cases ho
      obtain ⟨B, e1, e2, e3⟩ := hdep 7 (by kernel_rfl)
      have d7 : b.tmps.getD 195 undef = .map (some B) := e1
      have d8 : b.tmps.getD 196 undef = .int .u8 129 := hdep 8 (by kernel_rfl)
      have m1 := map_get 75 5 3 Tryd.underlying75 Tryd.underlying5 (hinv.one B e2) 129 e3
      exact wp_val (by simp [execOp, Act.eval, d7, d8, m1, Result.andThen] <;> rfl) ⟨_, g, rfl, hinv, KG.refl _ _ _ _, rfl⟩
    · cases ho
      obtain ⟨g', m1, m2, m3'⟩ := hinv.new (grpC 129 reg) 2
      exact wp_val (by simp [execOp, run_makeMap, Result.andThen] <;> rfl) ⟨_, g', rfl, m1, m2, _, rfl, m3'⟩
    · cases ho
      obtain ⟨B, e1, e2⟩ := hdep 10 (by kernel_rfl)
      have d10 : b.tmps.getD 198 undef = .map (some B) := e1
      obtain ⟨u', m1, m2, m3', m4⟩ := hinv.put (grpC 129 reg) 74 5 9 Tryd.underlying74 Tryd.underlying5 B hw8 (.inr ⟨e2, rfl⟩) 128
      rw [show hw8 128 = .string ⟨#[69, 73]⟩ by simp [hw8]] at m1
      exact wp_skip (by simp [execOp, Act.eval, d10, m1, Result.andThen] <;> rfl) ⟨_, g, rfl, m2, m3', B, e1, e2, m4⟩
    · cases ho
      obtain ⟨B, e1, e2⟩ := hdep 10 (by kernel_rfl)
      have d10 : b.tmps.getD 198 undef = .map (some B) := e1
      obtain ⟨u', m1, m2, m3', m4⟩ := hinv.put (grpC 129 reg) 74 5 9 Tryd.underlying74 Tryd.underlying5 B hw8 (.inr ⟨e2, rfl⟩) 129
      rw [show hw8 129 = .string ⟨#[69, 73]⟩ by simp [hw8]] at m1
      exact wp_skip (by simp [execOp, Act.eval, d10, m1, Result.andThen] <;> rfl) ⟨_, g, rfl, m2, m3', B, e1, e2, m4⟩
    · cases ho
      obtain ⟨B, e1, e2⟩ := hdep 10 (by kernel_rfl)
      have d10 : b.tmps.getD 198 undef = .map (some B) := e1
      obtain ⟨u', m1, m2, m3', m4⟩ := hinv.put (grpC 129 reg) 74 5 9 Tryd.underlying74 Tryd.underlying5 B hw8 (.inr ⟨e2, rfl⟩) 131
      rw [show hw8 131 = .string ⟨#[69, 98]⟩ by simp [hw8]] at m1
      exact wp_skip (by simp [execOp, Act.eval, d10, m1, Result.andThen] <;> rfl) ⟨_, g, rfl, m2, m3', B, e1, e2, m4⟩
    · cases ho
      obtain ⟨B, e1, e2, e3⟩ := hdep 12 (by kernel_rfl)
      have d10 : b.tmps.getD 198 undef = .map (some B) := e1
      exact wp_val (by simp [execOp, Act.eval, d10] <;> rfl) ⟨_, g, rfl, hinv, KG.refl _ _ _ _, B, rfl, e2, e3⟩
    · cases ho
      exact wp_val (by simp [execOp, Act.eval, b0] <;> rfl) ⟨_, g, rfl, hinv, KG.refl _ _ _ _, rfl⟩
    · cases ho
      obtain ⟨B, e1, e2, e3⟩ := hdep 14 (by kernel_rfl)
      have d14 : b.tmps.getD 199 undef = .map (some B) := e1
      have d15 : b.tmps.getD 200 undef = .int .u8 129 := hdep 15 (by kernel_rfl)
      have m1 := map_get 74 5 9 Tryd.underlying74 Tryd.underlying5 (hinv.two B e2) 129 e3
      exact wp_val (by simp [execOp, Act.eval, d14, d15, m1, Result.andThen] <;> rfl) ⟨_, g, rfl, hinv, KG.refl _ _ _ _, rfl⟩
    · cases ho
      have d0 : b.tmps.getD 191 undef = .int .u8 129 := hdep 0 (by kernel_rfl)
      have d2 : b.tmps.getD 193 undef = .int .i64 (grpF alus reg) := hdep 2 (by kernel_rfl)
      have d9 : b.tmps.getD 197 undef = sz8 129 := hdep 9 (by kernel_rfl)
      have d16 : b.tmps.getD 201 undef = hw8 129 := hdep 16 (by kernel_rfl)
      refine wp_call (by simp [execOp, Act.eval, d0, d2, d9, d16, sz8, hw8, go_sem] <;> rfl) ((HI.out u).mono ?_)
      rintro e u' ⟨rfl, hb⟩
      exact ⟨_, rfl, _, g, rfl, (hinv.ext (grpC 129 reg) hb).1, (hinv.ext (grpC 129 reg) hb).2, rfl⟩
    · cases ho
      have d17 : b.tmps.getD 202 undef = .tuple #[.agg (grpC 129 reg), .bool (grpF alus reg != 0), .bool false] := hdep 17 (by kernel_rfl)
      exact wp_val (by simp [execOp, Act.eval, d17, go_sem] <;> rfl) ⟨_, g, rfl, hinv, KG.refl _ _ _ _, rfl⟩
    · cases ho
      have d17 : b.tmps.getD 202 undef = .tuple #[.agg (grpC 129 reg), .bool (grpF alus reg != 0), .bool false] := hdep 17 (by kernel_rfl)
      exact wp_val (by simp [execOp, Act.eval, d17, go_sem] <;> rfl) ⟨_, g, rfl, hinv, KG.refl _ _ _ _, rfl⟩
    · cases ho
      have d17 : b.tmps.getD 202 undef = .tuple #[.agg (grpC 129 reg), .bool (grpF alus reg != 0), .bool false] := hdep 17 (by kernel_rfl)
      exact wp_val (by simp [execOp, Act.eval, d17, go_sem] <;> rfl) ⟨_, g, rfl, hinv, KG.refl _ _ _ _, rfl⟩
    · cases ho
      have d18 : b.tmps.getD 203 undef = .agg (grpC 129 reg) := hdep 18 (by kernel_rfl)
      obtain ⟨x0, e0⟩ := Option.isSome_iff_exists.1 (hinv.inv.there 0 (by decide))
      have z0 := hinv.inv.froz 0
      obtain ⟨x1, e1⟩ := Option.isSome_iff_exists.1 (hinv.inv.there 1 (by decide))
      have z1 := hinv.inv.froz 1
      obtain ⟨x2, e2⟩ := Option.isSome_iff_exists.1 (hinv.inv.there 2 (by decide))
      have z2 := hinv.inv.froz 2
      obtain ⟨x3, e3⟩ := Option.isSome_iff_exists.1 (hinv.inv.there 3 (by decide))
      have z3 := hinv.inv.froz 3
      obtain ⟨x4, e4⟩ := Option.isSome_iff_exists.1 (hinv.inv.there 4 (by decide))
      have z4 := hinv.inv.froz 4
      obtain ⟨f1, f2, f3⟩ := hinv.five (.int .i64 (grpF alus reg)) (.int .i64 0) (sz8 129) (hw8 129) (.int .i64 (129 % 8))
      exact wp_skip (by simp [execOp, Act.eval, d18, b6, grpC, sz8, hw8, go_sem, e0, e1, e2, e3, e4, z0, z1, z2, z3, z4] <;> rfl) ⟨_, g, rfl, f1, f2, f3⟩
    · cases ho
      have d19 : b.tmps.getD 204 undef = .bool (grpF alus reg != 0) := hdep 19 (by kernel_rfl)
      exact wp_val (by simp [execOp, Act.eval, d19] <;> rfl) ⟨_, g, rfl, hinv, KG.refl _ _ _ _, rfl⟩
    · cases ho
      have d20 : b.tmps.getD 205 undef = .bool false := hdep 20 (by kernel_rfl)
      exact wp_val (by simp [execOp, Act.eval, d20] <;> rfl) ⟨_, g, rfl, hinv, KG.refl _ _ _ _, rfl⟩
  · intro f u g hinv hV
    have q20 : f 22 = .bool (grpF alus reg != 0) := hV 22 (by decide)
    have q21 : f 23 = .bool false := hV 23 (by decide)
    have qF := hV 21 (by decide)
    generalize hb : laid _ f _ _ = b
    have b6 : b.tmps.getD 6 undef = .pointer (some ⟨w.heap.size, 0, none⟩) := by rw [← hb]; kernel_rfl
    have b7 : b.tmps.getD 7 undef = .bool (grpF alus reg != 0) := by rw [← hb, ← q20]; kernel_rfl
    have b8 : b.tmps.getD 8 undef = .bool false := by rw [← hb, ← q21]; kernel_rfl
    have bd : b.defers = [] := by rw [← hb]; kernel_rfl
    clear hb
    rw [Array.getD_eq_getD_getElem?] at b6 b7 b8
    go_wp2_with fail
    have w0 : u.cell? ⟨w.heap.size, 0, none⟩ = some (Value.int .i64 (grpF alus reg)) := qF 0 _ rfl
    have w1 : u.cell? ⟨w.heap.size, 1, none⟩ = some (Value.int .i64 0) := qF 1 _ rfl
    have w2 : u.cell? ⟨w.heap.size, 2, none⟩ = some (Value.int .i64 4) := qF 2 _ rfl
    have w3 : u.cell? ⟨w.heap.size, 3, none⟩ = some (Value.string ⟨([69, 73] : List UInt8).toArray⟩) := qF 3 _ rfl
    have w4 : u.cell? ⟨w.heap.size, 4, none⟩ = some (Value.int .i64 1) := qF 4 _ rfl
    refine bodyPost_ret (v := .tuple #[.agg #[.int .i64 (grpF alus reg), .int .i64 0, .int .i64 4, .string ⟨([69, 73] : List UInt8).toArray⟩, .int .i64 1], .bool (grpF alus reg != 0), .bool false]) (by simp [results, Tryd.results23, go_sem, b6, b7, b8, w0, w1, w2, w3, w4]) bd ⟨by rw [HX.out]; rfl, hinv.inv.below⟩
theorem first_131y (reg : Int) (m3 : Bool) (r0 : 0 ≤ reg) (r1 : reg < 8) (w : World) : Calls Tryd.prog 23 #[.int .u8 131, .int .i64 reg, .bool m3] w fun e w' => e = .returned (fstL (firstF 131 reg m3)) ∧ Below w.heap.size w w' := by
  have HX := Lib.hid (show firstF 131 reg m3 = isF 131 (grpF alus reg) 4 [69, 98] by show byF 131 reg alus 4 [69, 98] = _; unfold byF; rw [if_neg (by omega)])
  have HA := Lib.hid (alu_any reg r0 r1)
  have HI := Lib.hid (is_any 131 (grpF alus reg) 4 ⟨([69, 98] : List UInt8).toArray⟩ (by decide) (by decide))
  have hd : decide (reg < 0) = false := decide_eq_false (by omega)
  go_enter Tryd.func23, Tryd.ntmps23
  go_upto_region 37 with (go_at_call 42; refine (size4_any _ (by first | decide | omega) (by first | decide | omega) _).mono ?_; rintro e w' ⟨rfl, rfl⟩)
  refine wp_region_mind (γ := Nat → Nat) (by kernel_rfl) grpN grpP (by kernel_rfl) (fun _ => 0) (KInv w w.heap.size 5 sz8 hw8) (KG w.heap.size (grpC 131 reg)) (grpV 131 reg w.heap.size) grpV_stays (KG.refl _ _) ?_ ?_ ?_
  · exact ⟨RInv.drawn ⟨below_last (Below.refl _ _) _, by simp, fun i hi => by
      have h5 : i = 0 ∨ i = 1 ∨ i = 2 ∨ i = 3 ∨ i = 4 := by omega
      rcases h5 with rfl | rfl | rfl | rfl | rfl <;> simp, fun i => by simp⟩, fun B hB => absurd rfl hB, (fun B hB => by cases hB), (fun B hB => by cases hB)⟩
  · intro i o b u g ho hinv hsz hbase hdep
    have hi : i < 24 := (Array.getElem?_eq_some_iff.1 ho).1
    have b0 : b.tmps.getD 0 undef = .int .u8 131 := hbase 0 (by kernel_rfl)
    have b1 : b.tmps.getD 1 undef = .int .i64 reg := hbase 1 (by kernel_rfl)
    have b6 : b.tmps.getD 6 undef = .pointer (some ⟨w.heap.size, 0, none⟩) := hbase 6 (by kernel_rfl)
    clear hbase hsz
    have h22 : i = 0 ∨ i = 1 ∨ i = 2 ∨ i = 3 ∨ i = 4 ∨ i = 5 ∨ i = 6 ∨ i = 7 ∨ i = 8 ∨ i = 9 ∨ i = 10 ∨ i = 11 ∨ i = 12 ∨ i = 13 ∨ i = 14 ∨ i = 15 ∨ i = 16 ∨ i = 17 ∨ i = 18 ∨ i = 19 ∨ i = 20 ∨ i = 21 ∨ i = 22 ∨ i = 23 := by omega
    rcases h22 with rfl | rfl | rfl | rfl | rfl | rfl | rfl | rfl | rfl | rfl | rfl | rfl | rfl | rfl | rfl | rfl | rfl | rfl | rfl | rfl | rfl | rfl | rfl | rfl
    · cases ho
      exact wp_val (by simp [execOp, Act.eval, b0] <;> rfl) ⟨_, g, rfl, hinv, KG.refl _ _ _ _, rfl⟩
    · cases ho
      exact wp_val (by simp [execOp, Act.eval, b1] <;> rfl) ⟨_, g, rfl, hinv, KG.refl _ _ _ _, rfl⟩
    · cases ho
      have d1 : b.tmps.getD 192 undef = .int .i64 reg := hdep 1 (by kernel_rfl)
      refine wp_call (by simp [execOp, Act.eval, d1, go_sem] <;> rfl) ((HA.out u).mono ?_)
      rintro e u' ⟨rfl, hb⟩
      exact ⟨_, rfl, _, g, rfl, (hinv.ext (grpC 131 reg) hb).1, (hinv.ext (grpC 131 reg) hb).2, rfl⟩
    · cases ho
      obtain ⟨g', m1, m2, m3'⟩ := hinv.new (grpC 131 reg) 1
      exact wp_val (by simp [execOp, run_makeMap, Result.andThen] <;> rfl) ⟨_, g', rfl, m1, m2, _, rfl, m3'⟩
    · cases ho
      obtain ⟨B, e1, e2⟩ := hdep 3 (by kernel_rfl)
      have d3 : b.tmps.getD 194 undef = .map (some B) := e1
      obtain ⟨u', m1, m2, m3', m4⟩ := hinv.put (grpC 131 reg) 75 5 3 Tryd.underlying75 Tryd.underlying5 B sz8 (.inl ⟨e2, rfl⟩) 128
      rw [show sz8 128 = .int .i64 1 by simp [sz8]] at m1
      exact wp_skip (by simp [execOp, Act.eval, d3, m1, Result.andThen] <;> rfl) ⟨_, g, rfl, m2, m3', B, e1, e2, m4⟩
    · cases ho
      obtain ⟨B, e1, e2⟩ := hdep 3 (by kernel_rfl)
      have d3 : b.tmps.getD 194 undef = .map (some B) := e1
      obtain ⟨u', m1, m2, m3', m4⟩ := hinv.put (grpC 131 reg) 75 5 3 Tryd.underlying75 Tryd.underlying5 B sz8 (.inl ⟨e2, rfl⟩) 129
      rw [show sz8 129 = .int .i64 4 by simp [sz8]] at m1
      exact wp_skip (by simp [execOp, Act.eval, d3, m1, Result.andThen] <;> rfl) ⟨_, g, rfl, m2, m3', B, e1, e2, m4⟩
    · cases ho
      obtain ⟨B, e1, e2⟩ := hdep 3 (by kernel_rfl)
      have d3 : b.tmps.getD 194 undef = .map (some B) := e1
      obtain ⟨u', m1, m2, m3', m4⟩ := hinv.put (grpC 131 reg) 75 5 3 Tryd.underlying75 Tryd.underlying5 B sz8 (.inl ⟨e2, rfl⟩) 131
      rw [show sz8 131 = .int .i64 4 by simp [sz8]] at m1
      exact wp_skip (by simp [execOp, Act.eval, d3, m1, Result.andThen] <;> rfl) ⟨_, g, rfl, m2, m3', B, e1, e2, m4⟩
    · cases ho
      obtain ⟨B, e1, e2, e3⟩ := hdep 6 (by kernel_rfl)
      have d3 : b.tmps.getD 194 undef = .map (some B) := e1
      exact wp_val (by simp [execOp, Act.eval, d3] <;> rfl) ⟨_, g, rfl, hinv, KG.refl _ _ _ _, B, rfl, e2, e3⟩
    · cases ho
      exact wp_val (by simp [execOp, Act.eval, b0] <;> rfl) ⟨_, g, rfl, hinv, KG.refl _ _ _ _, rfl⟩
    · cases ho
      obtain ⟨B, e1, e2, e3⟩ := hdep 7 (by kernel_rfl)
      have d7 : b.tmps.getD 195 undef = .map (some B) := e1
      have d8 : b.tmps.getD 196 undef = .int .u8 131 := hdep 8 (by kernel_rfl)
      have m1 := map_get 75 5 3 Tryd.underlying75 Tryd.underlying5 (hinv.one B e2) 131 e3
      exact wp_val (by simp [execOp, Act.eval, d7, d8, m1, Result.andThen] <;> rfl) ⟨_, g, rfl, hinv, KG.refl _ _ _ _, rfl⟩
    · cases ho
      obtain ⟨g', m1, m2, m3'⟩ := hinv.new (grpC 131 reg) 2
      exact wp_val (by simp [execOp, run_makeMap, Result.andThen] <;> rfl) ⟨_, g', rfl, m1, m2, _, rfl, m3'⟩
    · cases ho
      obtain ⟨B, e1, e2⟩ := hdep 10 (by kernel_rfl)
      have d10 : b.tmps.getD 198 undef = .map (some B) := e1
      obtain ⟨u', m1, m2, m3', m4⟩ := hinv.put (grpC 131 reg) 74 5 9 Tryd.underlying74 Tryd.underlying5 B hw8 (.inr ⟨e2, rfl⟩) 128
      rw [show hw8 128 = .string ⟨#[69, 73]⟩ by simp [hw8]] at m1
      exact wp_skip (by simp [execOp, Act.eval, d10, m1, Result.andThen] <;> rfl) ⟨_, g, rfl, m2, m3', B, e1, e2, m4⟩
    · cases ho
      obtain ⟨B, e1, e2⟩ := hdep 10 (by kernel_rfl)
      have d10 : b.tmps.getD 198 undef = .map (some B) := e1
      obtain ⟨u', m1, m2, m3', m4⟩ := hinv.put (grpC 131 reg) 74 5 9 Tryd.underlying74 Tryd.underlying5 B hw8 (.inr ⟨e2, rfl⟩) 129
      rw [show hw8 129 = .string ⟨#[69, 73]⟩ by simp [hw8]] at m1
      exact wp_skip (by simp [execOp, Act.eval, d10, m1, Result.andThen] <;> rfl) ⟨_, g, rfl, m2, m3', B, e1, e2, m4⟩
    · cases ho
      obtain ⟨B, e1, e2⟩ := hdep 10 (by kernel_rfl)
      have d10 : b.tmps.getD 198 undef = .map (some B) := e1
      obtain ⟨u', m1, m2, m3', m4⟩ := hinv.put (grpC 131 reg) 74 5 9 Tryd.underlying74 Tryd.underlying5 B hw8 (.inr ⟨e2, rfl⟩) 131
      rw [show hw8 131 = .string ⟨#[69, 98]⟩ by simp [hw8]] at m1
      exact wp_skip (by simp [execOp, Act.eval, d10, m1, Result.andThen] <;> rfl) ⟨_, g, rfl, m2, m3', B, e1, e2, m4⟩
    · cases ho
      obtain ⟨B, e1, e2, e3⟩ := hdep 13 (by kernel_rfl)
      have d10 : b.tmps.getD 198 undef = .map (some B) := e1
      exact wp_val (by simp [execOp, Act.eval, d10] <;> rfl) ⟨_, g, rfl, hinv, KG.refl _ _ _ _, B, rfl, e2, e3⟩
    · cases ho
      exact wp_val (by simp [execOp, Act.eval, b0] <;> rfl) ⟨_, g, rfl, hinv, KG.refl _ _ _ _, rfl⟩
    · cases ho
      obtain ⟨B, e1, e2, e3⟩ := hdep 14 (by kernel_rfl)
      have d14 : b.tmps.getD 199 undef = .map (some B) := e1
      have d15 : b.tmps.getD 200 undef = .int .u8 131 := hdep 15 (by kernel_rfl)
      have m1 := map_get 74 5 9 Tryd.underlying74 Tryd.underlying5 (hinv.two B e2) 131 e3
      exact wp_val (by simp [execOp, Act.eval, d14, d15, m1, Result.andThen] <;> rfl) ⟨_, g, rfl, hinv, KG.refl _ _ _ _, rfl⟩
    · cases ho
      have d0 : b.tmps.getD 191 undef = .int .u8 131 := hdep 0 (by kernel_rfl)
      have d2 : b.tmps.getD 193 undef = .int .i64 (grpF alus reg) := hdep 2 (by kernel_rfl)
      have d9 : b.tmps.getD 197 undef = sz8 131 := hdep 9 (by kernel_rfl)
      have d16 : b.tmps.getD 201 undef = hw8 131 := hdep 16 (by kernel_rfl)
      refine wp_call (by simp [execOp, Act.eval, d0, d2, d9, d16, sz8, hw8, go_sem] <;> rfl) ((HI.out u).mono ?_)
      rintro e u' ⟨rfl, hb⟩
      exact ⟨_, rfl, _, g, rfl, (hinv.ext (grpC 131 reg) hb).1, (hinv.ext (grpC 131 reg) hb).2, rfl⟩
    · cases ho
      have d17 : b.tmps.getD 202 undef = .tuple #[.agg (grpC 131 reg), .bool (grpF alus reg != 0), .bool false] := hdep 17 (by kernel_rfl)
      exact wp_val (by simp [execOp, Act.eval, d17, go_sem] <;> rfl) ⟨_, g, rfl, hinv, KG.refl _ _ _ _, rfl⟩
    · cases ho
      have d17 : b.tmps.getD 202 undef = .tuple #[.agg (grpC 131 reg), .bool (grpF alus reg != 0), .bool false] := hdep 17 (by kernel_rfl)
      exact wp_val (by simp [execOp, Act.eval, d17, go_sem] <;> rfl) ⟨_, g, rfl, hinv, KG.refl _ _ _ _, rfl⟩
    · cases ho
      have d17 : b.tmps.getD 202 undef = .tuple #[.agg (grpC 131 reg), .bool (grpF alus reg != 0), .bool false] := hdep 17 (by kernel_rfl)
      exact wp_val (by simp [execOp, Act.eval, d17, go_sem] <;> rfl) ⟨_, g, rfl, hinv, KG.refl _ _ _ _, rfl⟩
    · cases ho
      have d18 : b.tmps.getD 203 undef = .agg (grpC 131 reg) := hdep 18 (by kernel_rfl)
      obtain ⟨x0, e0⟩ := Option.isSome_iff_exists.1 (hinv.inv.there 0 (by decide))
      have z0 := hinv.inv.froz 0
      obtain ⟨x1, e1⟩ := Option.isSome_iff_exists.1 (hinv.inv.there 1 (by decide))
      have z1 := hinv.inv.froz 1
      obtain ⟨x2, e2⟩ := Option.isSome_iff_exists.1 (hinv.inv.there 2 (by decide))
      have z2 := hinv.inv.froz 2
      obtain ⟨x3, e3⟩ := Option.isSome_iff_exists.1 (hinv.inv.there 3 (by decide))
      have z3 := hinv.inv.froz 3
      obtain ⟨x4, e4⟩ := Option.isSome_iff_exists.1 (hinv.inv.there 4 (by decide))
      have z4 := hinv.inv.froz 4
      obtain ⟨f1, f2, f3⟩ := hinv.five (.int .i64 (grpF alus reg)) (.int .i64 0) (sz8 131) (hw8 131) (.int .i64 (131 % 8))
      exact wp_skip (by simp [execOp, Act.eval, d18, b6, grpC, sz8, hw8, go_sem, e0, e1, e2, e3, e4, z0, z1, z2, z3, z4] <;> rfl) ⟨_, g, rfl, f1, f2, f3⟩
    · cases ho
      have d19 : b.tmps.getD 204 undef = .bool (grpF alus reg != 0) := hdep 19 (by kernel_rfl)
      exact wp_val (by simp [execOp, Act.eval, d19] <;> rfl) ⟨_, g, rfl, hinv, KG.refl _ _ _ _, rfl⟩
    · cases ho
      have d20 : b.tmps.getD 205 undef = .bool false := hdep 20 (by kernel_rfl)
      exact wp_val (by simp [execOp, Act.eval, d20] <;> rfl) ⟨_, g, rfl, hinv, KG.refl _ _ _ _, rfl⟩
  · intro f u g hinv hV
    have q20 : f 22 = .bool (grpF alus reg != 0) := hV 22 (by decide)
    have q21 : f 23 = .bool false := hV 23 (by decide)
    have qF := hV 21 (by decide)
    generalize hb : laid _ f _ _ = b
    have b6 : b.tmps.getD 6 undef = .pointer (some ⟨w.heap.size, 0, none⟩) := by rw [← hb]; kernel_rfl
    have b7 : b.tmps.getD 7 undef = .bool (grpF alus reg != 0) := by rw [← hb, ← q20]; kernel_rfl
    have b8 : b.tmps.getD 8 undef = .bool false := by rw [← hb, ← q21]; kernel_rfl
    have bd : b.defers = [] := by rw [← hb]; kernel_rfl
    clear hb
    rw [Array.getD_eq_getD_getElem?] at b6 b7 b8
    go_wp2_with fail
    have w0 : u.cell? ⟨w.heap.size, 0, none⟩ = some (Value.int .i64 (grpF alus reg)) := qF 0 _ rfl
    have w1 : u.cell? ⟨w.heap.size, 1, none⟩ = some (Value.int .i64 0) := qF 1 _ rfl
    have w2 : u.cell? ⟨w.heap.size, 2, none⟩ = some (Value.int .i64 4) := qF 2 _ rfl
    have w3 : u.cell? ⟨w.heap.size, 3, none⟩ = some (Value.string ⟨([69, 98] : List UInt8).toArray⟩) := qF 3 _ rfl
    have w4 : u.cell? ⟨w.heap.size, 4, none⟩ = some (Value.int .i64 3) := qF 4 _ rfl
    refine bodyPost_ret (v := .tuple #[.agg #[.int .i64 (grpF alus reg), .int .i64 0, .int .i64 4, .string ⟨([69, 98] : List UInt8).toArray⟩, .int .i64 3], .bool (grpF alus reg != 0), .bool false]) (by simp [results, Tryd.results23, go_sem, b6, b7, b8, w0, w1, w2, w3, w4]) bd ⟨by rw [HX.out]; rfl, hinv.inv.below⟩
end
end Go.Proofs.YtgihiddiceinhaaDoor
