/- The landed bus: sizes, numbers of bytes. -/
import Derived.Test.YtkmoefgoolhegaaPure8
import Derived.Laws.MathBits
import Derived.Handy
import Derived.Lib.Hide
namespace Go.Proofs.Ytkmoefgoolhegaa
open Go.ChangeShapes Go.WideShapes Go.ChangeAt Go.RowKit

theorem counted_any (size : Int) (w : World) : Calls Try.prog 19 #[.int .i64 size] w fun e w' => e = .returned (.int .i64 (widN size)) ∧ w = w' := by
  have hc : size = 1 ∨ size = 2 ∨ size = 4 ∨ size = 8 ∨ (size ≠ 1 ∧ size ≠ 2 ∧ size ≠ 4 ∧ size ≠ 8) := by omega
  rcases hc with rfl | rfl | rfl | rfl | ⟨h1, h2, h3, h4⟩
  · go_enter Try.func19, Try.ntmps19
    go_wp2
    go_ret
    exact ⟨rfl, rfl⟩
  · go_enter Try.func19, Try.ntmps19
    go_wp2
    go_ret
    exact ⟨rfl, rfl⟩
  · go_enter Try.func19, Try.ntmps19
    go_wp2
    go_ret
    exact ⟨rfl, rfl⟩
  · go_enter Try.func19, Try.ntmps19
    go_wp2
    go_ret
    exact ⟨rfl, rfl⟩
  · have hV := Lib.hid (show widN size = 4 by unfold widN; rw [if_neg h1, if_neg h2, if_neg h4])
    have e1 : (size == 1) = false := by simpa using h1
    have e2 : (size == 2) = false := by simpa using h2
    have e3 : (size == 4) = false := by simpa using h3
    have e4 : (size == 8) = false := by simpa using h4
    clear h1 h2 h3 h4
    go_enter Try.func19, Try.ntmps19
    go_wp2
    go_ret
    exact ⟨by rw [hV.out]; rfl, rfl⟩
def sumN (bs : Nat → Int) : Nat → Int
  | 0 => 0
  | n + 1 => sumN bs n + bs n * 256 ^ n
theorem leV_sum (g : Int → Int) (a : Int) : ∀ n, leV g a n = sumN (fun i => g (place a i)) n
  | 0 => rfl
  | n + 1 => by unfold leV sumN; rw [leV_sum g a n]
theorem sumN_bd (bs : Nat → Int) (h : ∀ i, 0 ≤ bs i ∧ bs i < 256) : ∀ n, 0 ≤ sumN bs n ∧ sumN bs n < 256 ^ n
  | 0 => by unfold sumN; exact ⟨by omega, by decide⟩
  | n + 1 => by
    obtain ⟨h0, h1⟩ := sumN_bd bs h n
    obtain ⟨b0, b1⟩ := h n
    unfold sumN
    have hp : (0 : Int) < 256 ^ n := Int.pow_pos (by decide)
    rw [Int.pow_succ]
    generalize (256 : Int) ^ n = P at *
    have m0 := Int.mul_nonneg b0 (Int.le_of_lt hp)
    have m1 := Int.mul_le_mul_of_nonneg_right (show bs n ≤ 255 by omega) (Int.le_of_lt hp)
    constructor <;> omega
theorem or_add64 (k : Nat) (a b : Int) (a0 : 0 ≤ a) (a1 : a < ((2 ^ k : Nat) : Int)) (b0 : 0 ≤ b) (h : a + b * ((2 ^ k : Nat) : Int) < 18446744073709551616) : bits .or .u64 a (b * ((2 ^ k : Nat) : Int)) = a + b * ((2 ^ k : Nat) : Int) := by
  obtain ⟨x, rfl⟩ : ∃ x : Nat, a = (x : Int) := ⟨a.toNat, by omega⟩
  obtain ⟨y, rfl⟩ : ∃ y : Nat, b = (y : Int) := ⟨b.toNat, by omega⟩
  have e : (y : Int) * ((2 ^ k : Nat) : Int) = ((y * 2 ^ k : Nat) : Int) := by push_cast; rfl
  rw [e] at h ⊢
  have hx : x < 2 ^ k := by omega
  rw [u64_or_nat x (y * 2 ^ k) (by omega) (by omega)]
  have := Nat.shiftLeft_add_eq_or_of_lt hx y
  rw [Nat.shiftLeft_eq] at this
  rw [Nat.or_comm, ← this]
  omega
set_option maxRecDepth 100000 in
set_option maxHeartbeats 4000000 in
theorem number_any (v : Value) (L : Nat) (bs : Nat → Int) (hL : L ≤ 8) (hb : ∀ i, 0 ≤ bs i ∧ bs i < 256) (w : World) (hs : Slc .u8 w v L bs) :
    Calls Try.prog 23 #[v] w fun e w' => e = .returned (.int .u64 (sumN bs L)) ∧ w = w' := by
  rcases hs with ⟨rfl, rfl⟩ | ⟨ad, cap, rfl, hl, hc⟩
  · go_enter Try.func23, Try.ntmps23
    go_wp2
    go_loop [3, 8] (fun v3 v8 => v3 = .int .u64 0 ∧ v8 = .int .i64 0) (fun _ _ => 0)
    case atStart => exact ⟨rfl, rfl⟩
    case round =>
      obtain ⟨rfl, rfl⟩ := hrel
      go_wp2
      go_ret
      exact ⟨rfl, rfl⟩
  · have HC := Lib.hid hc
    have HB := Lib.hid hb
    clear hc hb
    go_enter Try.func23, Try.ntmps23
    go_wp2
    go_loop [3, 8] (fun v3 v8 => ∃ k : Nat, k ≤ L ∧ v8 = .int .i64 k ∧ v3 = .int .u64 (sumN bs k)) (fun _ v8 => L - (intOf v8).toNat)
    case atStart => exact ⟨0, Nat.zero_le _, rfl, rfl⟩
    case round =>
      obtain ⟨k, hk, rfl, rfl⟩ := hrel
      by_cases hlt : k < L
      · have h8 : k = 0 ∨ k = 1 ∨ k = 2 ∨ k = 3 ∨ k = 4 ∨ k = 5 ∨ k = 6 ∨ k = 7 := by omega
        have hcell := HC.out k hlt
        have hbd := sumN_bd bs HB.out k
        have hx := HB.out k
        have HS := Lib.hid (show sumN bs (k + 1) = sumN bs k + bs k * 256 ^ k from rfl)
        generalize sumN bs k = A at *
        generalize bs k = x at *
        have e0 : IntKind.u64.wrap x = x := by rw [IntKind.wrap_u64]; omega
        rcases h8 with rfl | rfl | rfl | rfl | rfl | rfl | rfl | rfl
        · have hcell : w.cell? ad = some (.int .u8 x) := by simpa [Addr.add] using hcell
          have i0 : (0 : Int) < (L : Int) := by omega
          obtain rfl : A = 0 := by omega
          have o1 : bits .or .u64 0 x = x := by have := or_add64 0 0 x (by omega) (by decide) hx.1 (by simp; omega); simpa using this
          clear hbd hlt
          go_wp2
          go_round
          case rel => exact ⟨1, by omega, rfl, by rw [HS.out]; first | rfl | (congr 1; simp)⟩
          case measure => simp [intOf]; omega
        · have hcell : w.cell? ⟨ad.block, ad.off + 1, none⟩ = some (.int .u8 x) := by simpa [Addr.add] using hcell
          have i0 : (1 : Int) < (L : Int) := by omega
          have s1 : IntKind.u64.wrap (x * 256) = x * 256 := by rw [IntKind.wrap_u64]; omega
          have o1 : bits .or .u64 A (x * 256) = A + x * 256 := or_add64 8 A x (by omega) (by show A < (256 : Int); omega) hx.1 (by show A + x * 256 < _; omega)
          clear hbd hlt
          go_wp2
          go_round
          case rel => exact ⟨2, by omega, rfl, by rw [HS.out]; first | rfl | (congr 1; simp)⟩
          case measure => simp [intOf]; omega
        · have hcell : w.cell? ⟨ad.block, ad.off + 2, none⟩ = some (.int .u8 x) := by simpa [Addr.add] using hcell
          have i0 : (2 : Int) < (L : Int) := by omega
          have s1 : IntKind.u64.wrap (x * 65536) = x * 65536 := by rw [IntKind.wrap_u64]; omega
          have o1 : bits .or .u64 A (x * 65536) = A + x * 65536 := or_add64 16 A x (by omega) (by show A < (65536 : Int); omega) hx.1 (by show A + x * 65536 < _; omega)
          clear hbd hlt
          go_wp2
          go_round
          case rel => exact ⟨3, by omega, rfl, by rw [HS.out]; first | rfl | (congr 1; simp)⟩
          case measure => simp [intOf]; omega
        · have hcell : w.cell? ⟨ad.block, ad.off + 3, none⟩ = some (.int .u8 x) := by simpa [Addr.add] using hcell
          have i0 : (3 : Int) < (L : Int) := by omega
          have s1 : IntKind.u64.wrap (x * 16777216) = x * 16777216 := by rw [IntKind.wrap_u64]; omega
          have o1 : bits .or .u64 A (x * 16777216) = A + x * 16777216 := or_add64 24 A x (by omega) (by show A < (16777216 : Int); omega) hx.1 (by show A + x * 16777216 < _; omega)
          clear hbd hlt
          go_wp2
          go_round
          case rel => exact ⟨4, by omega, rfl, by rw [HS.out]; first | rfl | (congr 1; simp)⟩
          case measure => simp [intOf]; omega
        · have hcell : w.cell? ⟨ad.block, ad.off + 4, none⟩ = some (.int .u8 x) := by simpa [Addr.add] using hcell
          have i0 : (4 : Int) < (L : Int) := by omega
          have s1 : IntKind.u64.wrap (x * 4294967296) = x * 4294967296 := by rw [IntKind.wrap_u64]; omega
          have o1 : bits .or .u64 A (x * 4294967296) = A + x * 4294967296 := or_add64 32 A x (by omega) (by show A < (4294967296 : Int); omega) hx.1 (by show A + x * 4294967296 < _; omega)
          clear hbd hlt
          go_wp2
          go_round
          case rel => exact ⟨5, by omega, rfl, by rw [HS.out]; first | rfl | (congr 1; simp)⟩
          case measure => simp [intOf]; omega
        · have hcell : w.cell? ⟨ad.block, ad.off + 5, none⟩ = some (.int .u8 x) := by simpa [Addr.add] using hcell
          have i0 : (5 : Int) < (L : Int) := by omega
          have s1 : IntKind.u64.wrap (x * 1099511627776) = x * 1099511627776 := by rw [IntKind.wrap_u64]; omega
          have o1 : bits .or .u64 A (x * 1099511627776) = A + x * 1099511627776 := or_add64 40 A x (by omega) (by show A < (1099511627776 : Int); omega) hx.1 (by show A + x * 1099511627776 < _; omega)
          clear hbd hlt
          go_wp2
          go_round
          case rel => exact ⟨6, by omega, rfl, by rw [HS.out]; first | rfl | (congr 1; simp)⟩
          case measure => simp [intOf]; omega
        · have hcell : w.cell? ⟨ad.block, ad.off + 6, none⟩ = some (.int .u8 x) := by simpa [Addr.add] using hcell
          have i0 : (6 : Int) < (L : Int) := by omega
          have s1 : IntKind.u64.wrap (x * 281474976710656) = x * 281474976710656 := by rw [IntKind.wrap_u64]; omega
          have o1 : bits .or .u64 A (x * 281474976710656) = A + x * 281474976710656 := or_add64 48 A x (by omega) (by show A < (281474976710656 : Int); omega) hx.1 (by show A + x * 281474976710656 < _; omega)
          clear hbd hlt
          go_wp2
          go_round
          case rel => exact ⟨7, by omega, rfl, by rw [HS.out]; first | rfl | (congr 1; simp)⟩
          case measure => simp [intOf]; omega
        · have hcell : w.cell? ⟨ad.block, ad.off + 7, none⟩ = some (.int .u8 x) := by simpa [Addr.add] using hcell
          have i0 : (7 : Int) < (L : Int) := by omega
          have s1 : IntKind.u64.wrap (x * 72057594037927936) = x * 72057594037927936 := by rw [IntKind.wrap_u64]; omega
          have o1 : bits .or .u64 A (x * 72057594037927936) = A + x * 72057594037927936 := or_add64 56 A x (by omega) (by show A < (72057594037927936 : Int); omega) hx.1 (by show A + x * 72057594037927936 < _; omega)
          clear hbd hlt
          go_wp2
          go_round
          case rel => exact ⟨8, by omega, rfl, by rw [HS.out]; first | rfl | (congr 1; simp)⟩
          case measure => simp [intOf]; omega
      · obtain rfl : k = L := by omega
        go_wp2
        go_ret
        exact ⟨rfl, rfl⟩
end Go.Proofs.Ytkmoefgoolhegaa
