/- The document's own reading of operands (package salternref9), the small ones. -/
import Derived.Test.YtblililckmbafaaPure9
import Derived.Test.YtblililckmbafaaSlc
import Derived.Laws.MathBits
import Derived.Handy
import Derived.BigQuiet
import Derived.Deep.QuietTactic
import Derived.Deep.DeepCutAuto
import Derived.Deep.CutBlock
namespace Go.Proofs.Ytblililckmbafaa
open Go.ChangeShapes Go.WideShapes Go.ChangeAt Go.RowKit

/-- an operand as a value -/
def opV (o : Opd) : Value := .agg #[.int .i64 o.kind, .int .i64 o.reg, .int .i64 o.base, .int .i64 o.index, .int .i64 o.scale, .int .u32 o.disp]
theorem and7 (z : Int) (h0 : 0 ≤ z) (h1 : z < 256) : bits .and .u8 z 7 = z % 8 := by
  obtain ⟨k, rfl⟩ : ∃ k : Nat, z = (k : Int) := ⟨z.toNat, by omega⟩
  have := u8_and_nat k 7 (by omega) (by omega)
  rw [show ((7 : Nat) : Int) = 7 from rfl] at this
  rw [this, show k &&& 7 = k % 8 from Nat.and_two_pow_sub_one_eq_mod k 3]
  rfl
/-- the cells of an operand -/
def opC (o : Opd) : Array Value := #[.int .i64 o.kind, .int .i64 o.reg, .int .i64 o.base, .int .i64 o.index, .int .i64 o.scale, .int .u32 o.disp]
theorem rnone_any (w : World) : Calls Try.prog 17 #[] w fun e w' => e = .returned (.agg #[.int .i64 0, .int .i64 0, .int .i64 (-1), .int .i64 (-1), .int .i64 1, .int .u32 0]) ∧ w' = w.alloc (.cells #[.int .i64 0, .int .i64 0, .int .i64 (-1), .int .i64 (-1), .int .i64 1, .int .u32 0] 28) := by
  go_enter Try.func17, Try.ntmps17
  go_wp2
  go_returns
  exact ⟨rfl, rfl⟩
theorem rregister_any (k r : Int) (w : World) : Calls Try.prog 16 #[.int .i64 k, .int .i64 r] w fun e w' => e = .returned (.agg #[.int .i64 k, .int .i64 r, .int .i64 (-1), .int .i64 (-1), .int .i64 1, .int .u32 0]) ∧
    w' = ((w.alloc (.cells #[.int .i64 k, .int .i64 r, .int .i64 (-1), .int .i64 (-1), .int .i64 1, .int .u32 0] 28)).alloc (.cells #[.int .i64 0, .int .i64 0, .int .i64 (-1), .int .i64 (-1), .int .i64 1, .int .u32 0] 28)).alloc (.cells #[.int .i64 k, .int .i64 r, .int .i64 (-1), .int .i64 (-1), .int .i64 1, .int .u32 0] 28) := by
  go_enter Try.func16, Try.ntmps16
  go_wp2_with (go_at_call 17; refine (rnone_any _).mono ?_; rintro e w' ⟨rfl, rfl⟩)
  go_returns
  exact ⟨rfl, rfl⟩
theorem rsx_any (c : Int) (c0 : 0 ≤ c) (c1 : c < 256) (w : World) : Calls Try.prog 18 #[.int .u8 c] w fun e w' => e = .returned (.int .u32 (sx9 c)) ∧ w' = w := by
  have h : wrap32 (IntKind.i8.wrap c) % 4294967296 = sx9 c := by
    simp only [wrap32, IntKind.wrap, IntKind.bits, IntKind.signed]
    simp
    unfold sx9
    split <;> omega
  go_enter Try.func18, Try.ntmps18
  go_wp2
  go_ret
  simp [h]
theorem or_add (k : Nat) (a b : Int) (a0 : 0 ≤ a) (a1 : a < ((2 ^ k : Nat) : Int)) (b0 : 0 ≤ b) (h : a + b * ((2 ^ k : Nat) : Int) < 4294967296) : bits .or .u32 a (b * ((2 ^ k : Nat) : Int)) = a + b * ((2 ^ k : Nat) : Int) := by
  obtain ⟨x, rfl⟩ : ∃ x : Nat, a = (x : Int) := ⟨a.toNat, by omega⟩
  obtain ⟨y, rfl⟩ : ∃ y : Nat, b = (y : Int) := ⟨b.toNat, by omega⟩
  have e : (y : Int) * ((2 ^ k : Nat) : Int) = ((y * 2 ^ k : Nat) : Int) := by push_cast; rfl
  rw [e] at h ⊢
  have hx : x < 2 ^ k := by omega
  rw [u32_or_nat x (y * 2 ^ k) (by omega) (by omega)]
  have := Nat.shiftLeft_add_eq_or_of_lt hx y
  rw [Nat.shiftLeft_eq] at this
  rw [Nat.or_comm, ← this]
  omega
theorem rfour_any (x0 x1 x2 x3 : Int) (L cap : Nat) (ad : Addr) (b0 : 0 ≤ x0 ∧ x0 < 256) (b1 : 0 ≤ x1 ∧ x1 < 256) (b2 : 0 ≤ x2 ∧ x2 < 256) (b3 : 0 ≤ x3 ∧ x3 < 256) (h4 : 4 ≤ L) (w : World)
    (k0 : w.cell? (ad.add 0) = some (.int .u8 x0)) (k1 : w.cell? (ad.add 1) = some (.int .u8 x1)) (k2 : w.cell? (ad.add 2) = some (.int .u8 x2)) (k3 : w.cell? (ad.add 3) = some (.int .u8 x3)) :
    Calls Try.prog 19 #[.slice (some ad) L cap] w fun e w' => e = .returned (.int .u32 (four9 x0 x1 x2 x3)) ∧ ∃ nq, w' = w.drewN nq := by
  have c0 : w.cell? ad = some (.int .u8 x0) := by simpa [Addr.add] using k0
  have c1 : w.cell? ⟨ad.block, ad.off + 1, none⟩ = some (.int .u8 x1) := by simpa [Addr.add] using k1
  have c2 : w.cell? ⟨ad.block, ad.off + 2, none⟩ = some (.int .u8 x2) := by simpa [Addr.add] using k2
  have c3 : w.cell? ⟨ad.block, ad.off + 3, none⟩ = some (.int .u8 x3) := by simpa [Addr.add] using k3
  have i0' : 0 < L := by omega
  have i1' : 1 < L := by omega
  have i2' : 2 < L := by omega
  have i3' : 3 < L := by omega
  have i1 : (1 : Int) < (L : Int) := by omega
  have i2 : (2 : Int) < (L : Int) := by omega
  have i3 : (3 : Int) < (L : Int) := by omega
  have w0 : IntKind.u32.wrap x0 = x0 := by rw [IntKind.wrap_u32]; omega
  have w1 : IntKind.u32.wrap x1 = x1 := by rw [IntKind.wrap_u32]; omega
  have w2 : IntKind.u32.wrap x2 = x2 := by rw [IntKind.wrap_u32]; omega
  have w3 : IntKind.u32.wrap x3 = x3 := by rw [IntKind.wrap_u32]; omega
  have s1 : IntKind.u32.wrap (x1 * 256) = x1 * 256 := by rw [IntKind.wrap_u32]; omega
  have s2 : IntKind.u32.wrap (x2 * 65536) = x2 * 65536 := by rw [IntKind.wrap_u32]; omega
  have s3 : IntKind.u32.wrap (x3 * 16777216) = x3 * 16777216 := by rw [IntKind.wrap_u32]; omega
  have o1 : bits .or .u32 x0 (x1 * 256) = x0 + x1 * 256 := or_add 8 x0 x1 b0.1 b0.2 b1.1 (by show x0 + x1 * 256 < _; omega)
  have o2 : bits .or .u32 (x0 + x1 * 256) (x2 * 65536) = x0 + x1 * 256 + x2 * 65536 := or_add 16 _ x2 (by omega) (by show _ < (65536 : Int); omega) b2.1 (by show _ + x2 * 65536 < _; omega)
  have o3 : bits .or .u32 (x0 + x1 * 256 + x2 * 65536) (x3 * 16777216) = x0 + x1 * 256 + x2 * 65536 + x3 * 16777216 := or_add 24 _ x3 (by omega) (by show _ < (16777216 : Int); omega) b3.1 (by show _ + x3 * 16777216 < _; omega)
  clear k0 k1 k2 k3 b0 b1 b2 b3
  go_enter Try.func19, Try.ntmps19
  go_wp2_with fail
  go_quiet (fail)
  go_wp2_with fail
  go_ret
  exact ⟨by simp [four9], _, rfl⟩
end Go.Proofs.Ytblililckmbafaa
