import Derived.Laws.MathBits
import Derived.Handy
import Derived.Lib.Hide
import Derived.Maps.OwnSet
import Derived.Laws.IdiomCopy
import Derived.Test.YtbbegbaaefgikaaKTA
namespace Go.Proofs.Ytbbegbaaefgikaa
section
set_option maxRecDepth 100000
def segR (b z : Int) : Bool := decide (b + z ≤ 4294967296)
def clampN (n : Int) : Int := if n < 1 then 1 else if 16 < n then 16 else n
theorem clampN_lo (n : Int) : 1 ≤ clampN n := by unfold clampN; split <;> (try split) <;> omega
theorem clampN_id (n : Int) (h0 : 1 ≤ n) (h1 : n ≤ 16) : clampN n = n := by unfold clampN; split <;> (try split) <;> omega
def mayB (r q x : Bool) (what : Int) : Bool := if what = 0 then r else if what = 1 then q else if what = 2 then x else false
def fitB (b z off n : Int) : Bool := segR b z && decide (off + clampN n ≤ z)
def atE (b z : Int) (r q x : Bool) (off n what : Int) : Int := if mayB r q x what then if fitB b z off n then 0 else 24 else 25
def atV (b z : Int) (r q x : Bool) (off n what : Int) : Int := if mayB r q x what && fitB b z off n then b + off else 0
theorem fit_lt (b z off n : Int) (h : fitB b z off n = true) : off < z ∧ b + off < 4294967296 ∧ off + clampN n ≤ z ∧ b + z ≤ 4294967296 := by
  unfold fitB segR at h
  simp only [Bool.and_eq_true, decide_eq_true_eq] at h
  have := clampN_lo n
  omega
end
section
open Go.RowKit
set_option maxRecDepth 100000
structure Sg where
  b : Int
  z : Int
  r : Bool
  q : Bool
  x : Bool
def Sg.ok (s : Sg) : Prop := (0 ≤ s.b ∧ s.b < 4294967296) ∧ (0 ≤ s.z ∧ s.z < 4294967296)
instance (s : Sg) : Decidable s.ok := by unfold Sg.ok; infer_instance
def widN (size : Int) : Nat := if size = 1 then 1 else if size = 2 then 2 else if size = 8 then 8 else 4
theorem widN_lo (size : Int) : 1 ≤ widN size := by unfold widN; split <;> (try split) <;> (try split) <;> omega
theorem widN_hi (size : Int) : widN size ≤ 8 := by unfold widN; split <;> (try split) <;> (try split) <;> omega
def byteOf (v : Int) (i : Nat) : Int := v / 256 ^ i % 256
theorem byteOf_ok (v : Int) (i : Nat) : 0 ≤ byteOf v i ∧ byteOf v i < 256 := by unfold byteOf; omega
def stE (d : Sg) (off size : Int) : Int := atE d.b d.z d.r d.q d.x off (widN size) 1
def stG (g : Int → Int) (d : Sg) (off size v : Int) : Int → Int := if stE d off size = 0 then writeG g (d.b + off) (byteOf v) (widN size) else g
def stP (pg : Int → Bool) (d : Sg) (off size : Int) : Int → Bool := if stE d off size = 0 then writeP pg (d.b + off) (widN size) else pg
def ldE (d : Sg) (off size : Int) : Int := atE d.b d.z d.r d.q d.x off (widN size) 0
def leV (g : Int → Int) (a : Int) : Nat → Int
  | 0 => 0
  | n + 1 => leV g a n + g (place a n) * 256 ^ n
def ldV (g : Int → Int) (d : Sg) (off size : Int) : Int := if ldE d off size = 0 then leV g (d.b + off) (widN size) else 0
theorem writeG_far (g : Int → Int) (a : Int) (bs : Nat → Int) (q : Int) : ∀ n : Nat, (∀ i, i < n → q ≠ place a i) → writeG g a bs n q = g q
  | 0, _ => rfl
  | n + 1, h => by
    unfold writeG setG
    rw [if_neg (h n (by omega))]
    exact writeG_far g a bs q n fun i hi => h i (by omega)
theorem writeG_hit (g : Int → Int) (a : Int) (bs : Nat → Int) : ∀ (n i : Nat), n ≤ 4294967296 → i < n → writeG g a bs n (place a i) = bs i
  | 0, _, _, h => by omega
  | n + 1, i, hn, h => by
    unfold writeG setG
    by_cases e : i = n
    · subst e; rw [if_pos rfl]
    · rw [if_neg (fun h2 => e (by unfold place at h2; omega))]
      exact writeG_hit g a bs n i (by omega) (by omega)
theorem leV_byteOf (g : Int → Int) (a v : Int) (v0 : 0 ≤ v) : ∀ n : Nat, (∀ i, i < n → g (place a i) = byteOf v i) → leV g a n = v % 256 ^ n
  | 0, _ => by unfold leV; rw [Int.pow_zero]; omega
  | n + 1, h => by
    unfold leV
    rw [leV_byteOf g a v v0 n (fun i hi => h i (by omega)), h n (by omega)]
    unfold byteOf
    have hp : (0 : Int) < 256 ^ n := Int.pow_pos (by decide)
    rw [Int.pow_succ]
    generalize (256 : Int) ^ n = P at *
    have h1 : v % (P * 256) = v % P + P * (v / P % 256) := by
      have a1 := Int.mul_ediv_add_emod v P
      have a2 := Int.mul_ediv_add_emod (v / P) 256
      have m0 := Int.emod_nonneg v (show P ≠ 0 by omega)
      have m1 := Int.emod_lt_of_pos v hp
      generalize v % P = A at *
      generalize hB : v / P = B at *
      have b0 : 0 ≤ B % 256 := by omega
      have b1 : B % 256 ≤ 255 := by omega
      generalize B % 256 = C at *
      generalize B / 256 = D at *
      have e : v = (A + P * C) + P * 256 * D := by
        rw [← a1, ← a2, Int.mul_add, Int.mul_assoc]
        omega
      rw [e, Int.add_mul_emod_self_left]
      refine Int.emod_eq_of_lt ?_ ?_
      · have := Int.mul_nonneg (Int.le_of_lt hp) b0; omega
      · have := Int.mul_le_mul_of_nonneg_left b1 (Int.le_of_lt hp)
        have e3 : P * 256 = P * 255 + P := by rw [show (256 : Int) = 255 + 1 from rfl, Int.mul_add, Int.mul_one]
        omega
    rw [h1, Int.mul_comm P]
end
section
open Go.ChangeShapes Go.WideShapes Go.ChangeAt Go.RowKit
set_option maxRecDepth 100000
theorem counted_any (size : Int) (w : World) : Calls Try.prog 24 #[.int .i64 size] w fun e w' => e = .returned (.int .i64 (widN size)) ∧ w = w' := by
  have hc : size = 1 ∨ size = 2 ∨ size = 4 ∨ size = 8 ∨ (size ≠ 1 ∧ size ≠ 2 ∧ size ≠ 4 ∧ size ≠ 8) := by omega
  rcases hc with rfl | rfl | rfl | rfl | ⟨h1, h2, h3, h4⟩
  · go_enter Try.func24, Try.ntmps24
    go_wp2
    go_ret
    exact ⟨rfl, rfl⟩
  · go_enter Try.func24, Try.ntmps24
    go_wp2
    go_ret
    exact ⟨rfl, rfl⟩
  · go_enter Try.func24, Try.ntmps24
    go_wp2
    go_ret
    exact ⟨rfl, rfl⟩
  · go_enter Try.func24, Try.ntmps24
    go_wp2
    go_ret
    exact ⟨rfl, rfl⟩
  · have hV := Lib.hid (show widN size = 4 by unfold widN; rw [if_neg h1, if_neg h2, if_neg h4])
    have e1 : (size == 1) = false := by simpa using h1
    have e2 : (size == 2) = false := by simpa using h2
    have e3 : (size == 4) = false := by simpa using h3
    have e4 : (size == 8) = false := by simpa using h4
    clear h1 h2 h3 h4
    go_enter Try.func24, Try.ntmps24
    go_wp2
    go_ret
    exact ⟨by rw [hV.out]; rfl, rfl⟩
def sumN (bs : Nat → Int) : Nat → Int
  | 0 => 0
  | n + 1 => sumN bs n + bs n * 256 ^ n
theorem leV_sum (g : Int → Int) (a : Int) : ∀ n, leV g a n = sumN (fun i => g (place a i)) n
  | 0 => rfl
  | n + 1 => by unfold leV sumN; rw [leV_sum g a n]
theorem sumN_bd (bs : Nat → Int) (h : ∀ i, 0 ≤ bs i ∧ bs i < 256) : ∀ n, 0 ≤ sumN bs n ∧ sumN bs n < 256 ^ n
  | 0 => by unfold sumN; exact ⟨by omega, by decide⟩
  | n + 1 => by
    obtain ⟨h0, h1⟩ := sumN_bd bs h n
    obtain ⟨b0, b1⟩ := h n
    unfold sumN
    have hp : (0 : Int) < 256 ^ n := Int.pow_pos (by decide)
    rw [Int.pow_succ]
    generalize (256 : Int) ^ n = P at *
    have m0 := Int.mul_nonneg b0 (Int.le_of_lt hp)
    have m1 := Int.mul_le_mul_of_nonneg_right (show bs n ≤ 255 by omega) (Int.le_of_lt hp)
    constructor <;> omega
theorem or_add64 (k : Nat) (a b : Int) (a0 : 0 ≤ a) (a1 : a < ((2 ^ k : Nat) : Int)) (b0 : 0 ≤ b) (h : a + b * ((2 ^ k : Nat) : Int) < 18446744073709551616) : bits .or .u64 a (b * ((2 ^ k : Nat) : Int)) = a + b * ((2 ^ k : Nat) : Int) := by
  obtain ⟨x, rfl⟩ : ∃ x : Nat, a = (x : Int) := ⟨a.toNat, by omega⟩
  obtain ⟨y, rfl⟩ : ∃ y : Nat, b = (y : Int) := ⟨b.toNat, by omega⟩
  have e : (y : Int) * ((2 ^ k : Nat) : Int) = ((y * 2 ^ k : Nat) : Int) := by push_cast; rfl
  rw [e] at h ⊢
  have hx : x < 2 ^ k := by omega
  rw [u64_or_nat x (y * 2 ^ k) (by omega) (by omega)]
  have := Nat.shiftLeft_add_eq_or_of_lt hx y
  rw [Nat.shiftLeft_eq] at this
  rw [Nat.or_comm, ← this]
  omega
set_option maxRecDepth 100000
set_option maxHeartbeats 4000000
theorem number_any (v : Value) (L : Nat) (bs : Nat → Int) (hL : L ≤ 8) (hb : ∀ i, 0 ≤ bs i ∧ bs i < 256) (w : World) (hs : Slc .u8 w v L bs) :
    Calls Try.prog 32 #[v] w fun e w' => e = .returned (.int .u64 (sumN bs L)) ∧ w = w' := by
  rcases hs with ⟨rfl, rfl⟩ | ⟨ad, cap, rfl, hl, hc⟩
  · go_enter Try.func32, Try.ntmps32
    go_wp2
    go_loop [3, 8] (fun v3 v8 => v3 = .int .u64 0 ∧ v8 = .int .i64 0) (fun _ _ => 0)
    case atStart => exact ⟨rfl, rfl⟩
    case round =>
      obtain ⟨rfl, rfl⟩ := hrel
      go_wp2
      go_ret
      exact ⟨rfl, rfl⟩
  · have HC := Lib.hid hc
    have HB := Lib.hid hb
    clear hc hb
    go_enter Try.func32, Try.ntmps32
    go_wp2
    go_loop [3, 8] (fun v3 v8 => ∃ k : Nat, k ≤ L ∧ v8 = .int .i64 k ∧ v3 = .int .u64 (sumN bs k)) (fun _ v8 => L - (intOf v8).toNat)
    case atStart => exact ⟨0, Nat.zero_le _, rfl, rfl⟩
    case round =>
      obtain ⟨k, hk, rfl, rfl⟩ := hrel
      by_cases hlt : k < L
      · have h8 : k = 0 ∨ k = 1 ∨ k = 2 ∨ k = 3 ∨ k = 4 ∨ k = 5 ∨ k = 6 ∨ k = 7 := by omega
        have hcell := HC.out k hlt
        have hbd := sumN_bd bs HB.out k
        have hx := HB.out k
        have HS := Lib.hid (show sumN bs (k + 1) = sumN bs k + bs k * 256 ^ k from rfl)
        generalize sumN bs k = A at *
        generalize bs k = x at *
        have e0 : IntKind.u64.wrap x = x := by rw [IntKind.wrap_u64]; omega
        rcases h8 with rfl | rfl | rfl | rfl | rfl | rfl | rfl | rfl
        · have hcell : w.cell? ad = some (.int .u8 x) := by simpa [Addr.add] using hcell
          have i0 : (0 : Int) < (L : Int) := by omega
          obtain rfl : A = 0 := by omega
          have o1 : bits .or .u64 0 x = x := by have := or_add64 0 0 x (by omega) (by decide) hx.1 (by simp; omega); simpa using this
          clear hbd hlt
          go_wp2
          go_round
          case rel => exact ⟨1, by omega, rfl, by rw [HS.out]; first | rfl | (congr 1; simp)⟩
          case measure => simp [intOf]; omega
        · have hcell : w.cell? ⟨ad.block, ad.off + 1, none⟩ = some (.int .u8 x) := by simpa [Addr.add] using hcell
          have i0 : (1 : Int) < (L : Int) := by omega
          have s1 : IntKind.u64.wrap (x * 256) = x * 256 := by rw [IntKind.wrap_u64]; omega
          have o1 : bits .or .u64 A (x * 256) = A + x * 256 := or_add64 8 A x (by omega) (by show A < (256 : Int); omega) hx.1 (by show A + x * 256 < _; omega)
          clear hbd hlt
          go_wp2
          go_round
          case rel => exact ⟨2, by omega, rfl, by rw [HS.out]; first | rfl | (congr 1; simp)⟩
          case measure => simp [intOf]; omega
        · have hcell : w.cell? ⟨ad.block, ad.off + 2, none⟩ = some (.int .u8 x) := by simpa [Addr.add] using hcell
          have i0 : (2 : Int) < (L : Int) := by omega
          have s1 : IntKind.u64.wrap (x * 65536) = x * 65536 := by rw [IntKind.wrap_u64]; omega
          have o1 : bits .or .u64 A (x * 65536) = A + x * 65536 := or_add64 16 A x (by omega) (by show A < (65536 : Int); omega) hx.1 (by show A + x * 65536 < _; omega)
          clear hbd hlt
          go_wp2
          go_round
          case rel => exact ⟨3, by omega, rfl, by rw [HS.out]; first | rfl | (congr 1; simp)⟩
          case measure => simp [intOf]; omega
        · have hcell : w.cell? ⟨ad.block, ad.off + 3, none⟩ = some (.int .u8 x) := by simpa [Addr.add] using hcell
          have i0 : (3 : Int) < (L : Int) := by omega
          have s1 : IntKind.u64.wrap (x * 16777216) = x * 16777216 := by rw [IntKind.wrap_u64]; omega
          have o1 : bits .or .u64 A (x * 16777216) = A + x * 16777216 := or_add64 24 A x (by omega) (by show A < (16777216 : Int); omega) hx.1 (by show A + x * 16777216 < _; omega)
          clear hbd hlt
          go_wp2
          go_round
          case rel => exact ⟨4, by omega, rfl, by rw [HS.out]; first | rfl | (congr 1; simp)⟩
          case measure => simp [intOf]; omega
        · have hcell : w.cell? ⟨ad.block, ad.off + 4, none⟩ = some (.int .u8 x) := by simpa [Addr.add] using hcell
          have i0 : (4 : Int) < (L : Int) := by omega
          have s1 : IntKind.u64.wrap (x * 4294967296) = x * 4294967296 := by rw [IntKind.wrap_u64]; omega
          have o1 : bits .or .u64 A (x * 4294967296) = A + x * 4294967296 := or_add64 32 A x (by omega) (by show A < (4294967296 : Int); omega) hx.1 (by show A + x * 4294967296 < _; omega)
          clear hbd hlt
          go_wp2
          go_round
          case rel => exact ⟨5, by omega, rfl, by rw [HS.out]; first | rfl | (congr 1; simp)⟩
          case measure => simp [intOf]; omega
        · have hcell : w.cell? ⟨ad.block, ad.off + 5, none⟩ = some (.int .u8 x) := by simpa [Addr.add] using hcell
          have i0 : (5 : Int) < (L : Int) := by omega
          have s1 : IntKind.u64.wrap (x * 1099511627776) = x * 1099511627776 := by rw [IntKind.wrap_u64]; omega
          have o1 : bits .or .u64 A (x * 1099511627776) = A + x * 1099511627776 := or_add64 40 A x (by omega) (by show A < (1099511627776 : Int); omega) hx.1 (by show A + x * 1099511627776 < _; omega)
          clear hbd hlt
          go_wp2
          go_round
          case rel => exact ⟨6, by omega, rfl, by rw [HS.out]; first | rfl | (congr 1; simp)⟩
          case measure => simp [intOf]; omega
        · have hcell : w.cell? ⟨ad.block, ad.off + 6, none⟩ = some (.int .u8 x) := by simpa [Addr.add] using hcell
          have i0 : (6 : Int) < (L : Int) := by omega
          have s1 : IntKind.u64.wrap (x * 281474976710656) = x * 281474976710656 := by rw [IntKind.wrap_u64]; omega
          have o1 : bits .or .u64 A (x * 281474976710656) = A + x * 281474976710656 := or_add64 48 A x (by omega) (by show A < (281474976710656 : Int); omega) hx.1 (by show A + x * 281474976710656 < _; omega)
          clear hbd hlt
          go_wp2
          go_round
          case rel => exact ⟨7, by omega, rfl, by rw [HS.out]; first | rfl | (congr 1; simp)⟩
          case measure => simp [intOf]; omega
        · have hcell : w.cell? ⟨ad.block, ad.off + 7, none⟩ = some (.int .u8 x) := by simpa [Addr.add] using hcell
          have i0 : (7 : Int) < (L : Int) := by omega
          have s1 : IntKind.u64.wrap (x * 72057594037927936) = x * 72057594037927936 := by rw [IntKind.wrap_u64]; omega
          have o1 : bits .or .u64 A (x * 72057594037927936) = A + x * 72057594037927936 := or_add64 56 A x (by omega) (by show A < (72057594037927936 : Int); omega) hx.1 (by show A + x * 72057594037927936 < _; omega)
          clear hbd hlt
          go_wp2
          go_round
          case rel => exact ⟨8, by omega, rfl, by rw [HS.out]; first | rfl | (congr 1; simp)⟩
          case measure => simp [intOf]; omega
      · obtain rfl : k = L := by omega
        go_wp2
        go_ret
        exact ⟨rfl, rfl⟩
end
section
open Go.ChangeShapes Go.WideShapes Go.ChangeAt Go.RowKit
set_option maxRecDepth 100000
def spreadC (v : Int) (i : Nat) : Array Value := #[.int .u8 (if 0 < i then byteOf v 0 else 0), .int .u8 (if 1 < i then byteOf v 1 else 0), .int .u8 (if 2 < i then byteOf v 2 else 0), .int .u8 (if 3 < i then byteOf v 3 else 0), .int .u8 (if 4 < i then byteOf v 4 else 0), .int .u8 (if 5 < i then byteOf v 5 else 0), .int .u8 (if 6 < i then byteOf v 6 else 0), .int .u8 (if 7 < i then byteOf v 7 else 0)]
theorem spreadC_0 (v : Int) : spreadC v 0 = #[.int .u8 0, .int .u8 0, .int .u8 0, .int .u8 0, .int .u8 0, .int .u8 0, .int .u8 0, .int .u8 0] := rfl
theorem spreadC_1 (v : Int) : spreadC v 1 = #[.int .u8 (byteOf v 0), .int .u8 0, .int .u8 0, .int .u8 0, .int .u8 0, .int .u8 0, .int .u8 0, .int .u8 0] := rfl
theorem spreadC_2 (v : Int) : spreadC v 2 = #[.int .u8 (byteOf v 0), .int .u8 (byteOf v 1), .int .u8 0, .int .u8 0, .int .u8 0, .int .u8 0, .int .u8 0, .int .u8 0] := rfl
theorem spreadC_3 (v : Int) : spreadC v 3 = #[.int .u8 (byteOf v 0), .int .u8 (byteOf v 1), .int .u8 (byteOf v 2), .int .u8 0, .int .u8 0, .int .u8 0, .int .u8 0, .int .u8 0] := rfl
theorem spreadC_4 (v : Int) : spreadC v 4 = #[.int .u8 (byteOf v 0), .int .u8 (byteOf v 1), .int .u8 (byteOf v 2), .int .u8 (byteOf v 3), .int .u8 0, .int .u8 0, .int .u8 0, .int .u8 0] := rfl
theorem spreadC_5 (v : Int) : spreadC v 5 = #[.int .u8 (byteOf v 0), .int .u8 (byteOf v 1), .int .u8 (byteOf v 2), .int .u8 (byteOf v 3), .int .u8 (byteOf v 4), .int .u8 0, .int .u8 0, .int .u8 0] := rfl
theorem spreadC_6 (v : Int) : spreadC v 6 = #[.int .u8 (byteOf v 0), .int .u8 (byteOf v 1), .int .u8 (byteOf v 2), .int .u8 (byteOf v 3), .int .u8 (byteOf v 4), .int .u8 (byteOf v 5), .int .u8 0, .int .u8 0] := rfl
theorem spreadC_7 (v : Int) : spreadC v 7 = #[.int .u8 (byteOf v 0), .int .u8 (byteOf v 1), .int .u8 (byteOf v 2), .int .u8 (byteOf v 3), .int .u8 (byteOf v 4), .int .u8 (byteOf v 5), .int .u8 (byteOf v 6), .int .u8 0] := rfl
theorem spreadC_8 (v : Int) : spreadC v 8 = #[.int .u8 (byteOf v 0), .int .u8 (byteOf v 1), .int .u8 (byteOf v 2), .int .u8 (byteOf v 3), .int .u8 (byteOf v 4), .int .u8 (byteOf v 5), .int .u8 (byteOf v 6), .int .u8 (byteOf v 7)] := rfl
set_option maxRecDepth 100000
set_option maxHeartbeats 4000000
theorem spread_any (v : Int) (v0 : 0 ≤ v) (v1 : v < 18446744073709551616) (w : World) :
    Calls Try.prog 26 #[.int .u64 v] w fun e w' => e = .returned (.agg (spreadC v 8)) ∧ Below w.heap.size w w' := by
  go_enter Try.func26, Try.ntmps26
  go_wp2
  go_loopw [5] (fun v5 wr => ∃ k : Nat, k ≤ 8 ∧ v5 = .int .i64 k ∧ wr = (w.alloc (.cells (spreadC v 0) 77)).alloc (.cells (spreadC v k) 77)) (fun v5 _ => 8 - (intOf v5).toNat)
  case atStart => exact ⟨0, by omega, rfl, rfl⟩
  case round =>
    obtain ⟨k, hk, rfl, rfl⟩ := hrel
    have h8 : k = 0 ∨ k = 1 ∨ k = 2 ∨ k = 3 ∨ k = 4 ∨ k = 5 ∨ k = 6 ∨ k = 7 ∨ k = 8 := by omega
    rcases h8 with rfl | rfl | rfl | rfl | rfl | rfl | rfl | rfl | rfl
    · have hV := Lib.hid (show byteOf v 0 = v % 256 by unfold byteOf; simp)
      rw [spreadC_0]
      go_wp2
      go_roundw
      case rel => exact ⟨1, by omega, rfl, by rw [spreadC_1, hV.out]⟩
      case measure => simp [intOf]
    · have hV := Lib.hid (show byteOf v 1 = v / 256 % 256 by unfold byteOf; simp)
      rw [spreadC_0, spreadC_1]
      go_wp2
      go_roundw
      case rel => exact ⟨2, by omega, rfl, by rw [spreadC_2, hV.out]⟩
      case measure => simp [intOf]
    · have hV := Lib.hid (show byteOf v 2 = v / 65536 % 256 by unfold byteOf; simp)
      rw [spreadC_0, spreadC_2]
      go_wp2
      go_roundw
      case rel => exact ⟨3, by omega, rfl, by rw [spreadC_3, hV.out]⟩
      case measure => simp [intOf]
    · have hV := Lib.hid (show byteOf v 3 = v / 16777216 % 256 by unfold byteOf; simp)
      rw [spreadC_0, spreadC_3]
      go_wp2
      go_roundw
      case rel => exact ⟨4, by omega, rfl, by rw [spreadC_4, hV.out]⟩
      case measure => simp [intOf]
    · have hV := Lib.hid (show byteOf v 4 = v / 4294967296 % 256 by unfold byteOf; simp)
      rw [spreadC_0, spreadC_4]
      go_wp2
      go_roundw
      case rel => exact ⟨5, by omega, rfl, by rw [spreadC_5, hV.out]⟩
      case measure => simp [intOf]
    · have hV := Lib.hid (show byteOf v 5 = v / 1099511627776 % 256 by unfold byteOf; simp)
      rw [spreadC_0, spreadC_5]
      go_wp2
      go_roundw
      case rel => exact ⟨6, by omega, rfl, by rw [spreadC_6, hV.out]⟩
      case measure => simp [intOf]
    · have hV := Lib.hid (show byteOf v 6 = v / 281474976710656 % 256 by unfold byteOf; simp)
      rw [spreadC_0, spreadC_6]
      go_wp2
      go_roundw
      case rel => exact ⟨7, by omega, rfl, by rw [spreadC_7, hV.out]⟩
      case measure => simp [intOf]
    · have hV := Lib.hid (show byteOf v 7 = v / 72057594037927936 by unfold byteOf; simp; omega)
      rw [spreadC_0, spreadC_7]
      go_wp2
      go_roundw
      case rel => exact ⟨8, by omega, rfl, by rw [spreadC_8, hV.out]⟩
      case measure => simp [intOf]
    · rw [spreadC_0, spreadC_8]
      go_wp2
      exact bodyPost_ret (v := .agg (spreadC v 8)) (by simp [results, Try.results26, go_sem, spreadC_8]) rfl ⟨rfl, below_last (below_last (Below.refl _ _) _) _⟩
end
section
open Go.ChangeShapes Go.WideShapes Go.ChangeAt Go.RowKit Go.Maps Go.Deep
set_option maxRecDepth 100000
def ptrElem (v : Value) : Option (DataW Unit × List MemPlace) :=
  match v with
  | .pointer none => some (.lit (.int .i64 (-1)), [])
  | .pointer (some ⟨k, 0, none⟩) => some (.lit (.int .i64 (k : Int)), [])
  | _ => none
def ptrOf : Option Nat → Value
  | none => .pointer none
  | some k => .pointer (some ⟨k, 0, none⟩)
def codeOf : Option Nat → Int
  | none => -1
  | some k => (k : Int)
theorem ptrElem_of (o : Option Nat) : ptrElem (ptrOf o) = some (.lit (.int .i64 (codeOf o)), []) := by cases o <;> rfl
theorem ptrElem_inv {v : Value} {o : Option Nat} {ps : List MemPlace} (h : ptrElem v = some (.lit (.int .i64 (codeOf o)), ps)) : v = ptrOf o := by
  unfold ptrElem at h
  split at h
  · cases o with
    | none => rfl
    | some k => injection h with h; injection h with h _; injection h with h; injection h with _ h; simp [codeOf] at h
  · cases o with
    | none => injection h with h; injection h with h _; injection h with h; injection h with _ h; simp [codeOf] at h
    | some k => injection h with h; injection h with h _; injection h with h; injection h with _ h; simp only [codeOf] at h; rw [Int.ofNat_inj.1 h]; rfl
  · cases h
theorem zero_page (w : World) : (zeroValue 69).run Try.prog w = .ok (.pointer none) w := by kernel_rfl
def cnt (pt : Int → Option Nat) : Nat → Nat
  | 0 => 0
  | x + 1 => cnt pt x + if (pt (((x : Nat) : Int) * 4096)).isSome then 1 else 0
theorem cnt_le (pt : Int → Option Nat) : ∀ x, cnt pt x ≤ x
  | 0 => Nat.le_refl _
  | x + 1 => by have := cnt_le pt x; unfold cnt; split <;> omega
def setPt (pt : Int → Option Nat) (q : Int) (k : Nat) : Int → Option Nat := fun x => if x = q then some k else pt x
theorem cnt_set (pt : Int → Option Nat) (y k : Nat) (h0 : pt ((y : Int) * 4096) = none) : ∀ x, cnt (setPt pt ((y : Int) * 4096) k) x = cnt pt x + if y < x then 1 else 0
  | 0 => by simp [cnt]
  | x + 1 => by
    have ih := cnt_set pt y k h0 x
    unfold cnt
    rw [ih]
    by_cases hxy : x = y
    · subst hxy
      rw [h0]
      simp [setPt]
    · have hne : ¬ (((x : Nat) : Int) * 4096 = (y : Int) * 4096) := by omega
      have e : setPt pt ((y : Int) * 4096) k (((x : Nat) : Int) * 4096) = pt (((x : Nat) : Int) * 4096) := by unfold setPt; rw [if_neg hne]
      rw [e]
      by_cases hlt : y < x
      · simp [hlt, show y < x + 1 by omega]; omega
      · simp [hlt, show ¬ y < x + 1 by omega]
structure PAt (w : World) (p : Nat) (F : Nat → Prop) (g : Int → Int) (pg : Int → Bool) (pt : Int → Option Nat) (B : Nat) (D : DataW Unit) : Prop where
  cell : w.cell? ⟨p, 0, none⟩ = some (.map (some B))
  map : w.ownsMap Try.prog 22 ptrElem B (Maps.size D) D
  at_ : ∀ q, 0 ≤ q → q < 4294967296 → D.atKey (.int .u32 q) (.lit (.int .i64 (-1))) = .lit (.int .i64 (codeOf (pt q)))
  has : ∀ q, Maps.has D (.int .u32 q) = (pt q).isSome
  size : ∃ N, N ≤ 1048576 ∧ Maps.size D ≤ cnt pt N ∧ 1048576 ≤ N
  page : ∀ q k, pt q = some k → (q % 4096 = 0 ∧ 0 ≤ q ∧ q < 4294967296) ∧ F k ∧ k ≠ p ∧ k ≠ B ∧ w.rowIs k 92 4096 (fun i => .int .u8 (g (q + i)))
  apart : ∀ q q' k, pt q = some k → pt q' = some k → q = q'
  none_ : ∀ a, pt (a / 4096 * 4096) = none → g a = 0
  pgs : ∀ q, pg q = (pt q).isSome
  byte : ∀ a, 0 ≤ g a ∧ g a < 256
  self : F p
  selfB : F B
  ne : p ≠ B
  lt : ∀ k, F k → k < w.heap.size
theorem PAt.but {F G : Nat → Prop} {w w' : World} {p B : Nat} {g : Int → Int} {pg : Int → Bool} {pt : Int → Option Nat} {D : DataW Unit} (h : PAt w p F g pg pt B D) (hb : But G w w') (hn : ∀ k, F k → ¬ G k) : PAt w' p F g pg pt B D :=
  ⟨hb.cell h.cell (hn _ h.self), hb.owns h.map (hn _ h.selfB), h.at_, h.has, h.size, fun q k hk => by
    obtain ⟨h1, h2, h3, h4, h5⟩ := h.page q k hk
    exact ⟨h1, h2, h3, h4, h5.of_block (hb.block k (h.lt k h2) (hn k h2))⟩, h.apart, h.none_, h.pgs, h.byte, h.self, h.selfB, h.ne, fun k hk => Nat.lt_of_lt_of_le (h.lt k hk) hb.size⟩
theorem PAt.below {F : Nat → Prop} {w w' : World} {p B : Nat} {g : Int → Int} {pg : Int → Bool} {pt : Int → Option Nat} {D : DataW Unit} (h : PAt w p F g pg pt B D) (hb : Below w.heap.size w w') : PAt w' p F g pg pt B D :=
  h.but (G := fun _ => False) (But.of_below hb) (fun _ _ h => h)
theorem key_page (q : Int) (h0 : 0 ≤ q) (h1 : q < 4294967296) : keyOf Try.prog 22 (.int .u32 q) = some (.int .u32 q) := keyOf_int_mk Try.underlying22 (wf_u32 q h0 h1)
theorem PAt.get {F : Nat → Prop} {w : World} {p B : Nat} {g : Int → Int} {pg : Int → Bool} {pt : Int → Option Nat} {D : DataW Unit} (h : PAt w p F g pg pt B D) (q : Int) (h0 : 0 ≤ q) (h1 : q < 4294967296) :
    (Instr.lookup 64 (.map (some B)) (.int .u32 q) false).run Try.prog w = .ok (ptrOf (pt q)) w := by
  obtain ⟨v, ps, hrun, hv⟩ := h.map.lookup key_u32 Try.underlying64 (zero_page w) (ptrElem_of none) (key_page q h0 h1)
  rw [show (DataW.lit (.int .i64 (codeOf none)) : DataW Unit) = .lit (.int .i64 (-1)) from rfl, h.at_ q h0 h1] at hv
  rw [hrun, ptrElem_inv hv]
theorem PAt.setByte {F : Nat → Prop} {w : World} {p B : Nat} {g : Int → Int} {pg : Int → Bool} {pt : Int → Option Nat} {D : DataW Unit} (h : PAt w p F g pg pt B D) {q : Int} {k : Nat} (hk : pt q = some k) (i : Nat) (hi : i < 4096) (v : Int) (v0 : 0 ≤ v) (v1 : v < 256) :
    PAt (w.setCell ⟨k, i, none⟩ (.int .u8 v)) p F (setG g (q + i) v) pg pt B D := by
  obtain ⟨hq, hF, hp, hB, hrow⟩ := h.page q k hk
  have hbut : But (· = k) w (w.setCell ⟨k, i, none⟩ (.int .u8 v)) := (But.refl (· = k) w).setCell (a := ⟨k, i, none⟩) (fun _ => rfl) _
  refine ⟨hbut.cell h.cell (fun e => hp e.symm), hbut.owns h.map (fun e => hB e.symm), h.at_, h.has, h.size, fun q' k' hk' => ?_, h.apart, fun a ha => ?_, h.pgs, fun a => ?_, h.self, h.selfB, h.ne, fun j hj => by simpa using h.lt j hj⟩
  · obtain ⟨hq', hF', hp', hB', hrow'⟩ := h.page q' k' hk'
    refine ⟨hq', hF', hp', hB', ?_⟩
    by_cases e : k' = k
    · subst e
      obtain rfl := h.apart _ _ _ hk hk'
      refine (hrow.set i _).congr (fun j hj => ?_)
      unfold setG
      by_cases hji : j = i
      · subst hji; simp
      · rw [if_neg hji, if_neg (by omega)]
    · refine (hrow'.setOther (by exact e) _).congr (fun j hj => ?_)
      unfold setG
      rw [if_neg]
      intro e2
      have : q' = q := by omega
      subst this
      rw [hk] at hk'
      injection hk' with hk'
      exact e hk'.symm
  · unfold setG
    rw [if_neg]
    · exact h.none_ a ha
    · intro e2
      rw [e2, show (q + i) / 4096 * 4096 = q by omega, hk] at ha
      cases ha
  · unfold setG
    split
    · exact ⟨v0, v1⟩
    · exact h.byte a
def isZ (v : Value) : Bool :=
  match v with
  | .int .u8 0 => true
  | _ => false
theorem isZ_eq {v : Value} (h : isZ v = true) : v = .int .u8 0 := by
  unfold isZ at h
  split at h
  · rfl
  · cases h
set_option maxRecDepth 100000
theorem pageZ : ∃ z : Array Value, (∀ w, (zeroValue 92).run Try.prog w = .ok (.agg z) w) ∧ (z.toList.length == 4096) = true ∧ (z.toList.all isZ) = true := by
  refine ⟨match (Try.prog.info? 92).bind (·.zero) with | some (.agg c) => c | _ => #[], fun w => ?_, ?_, ?_⟩
  · kernel_rfl
  · kernel_rfl
  · kernel_rfl
set_option maxRecDepth 512
theorem alloc_page : ∃ z : Array Value, (∀ w, (zeroValue 92).run Try.prog w = .ok (.agg z) w) ∧
    ∀ w : World, (w.alloc (.cells z 92)).rowIs w.heap.size 92 4096 (fun _ => .int .u8 0) := by
  obtain ⟨z, hz, hs, ha⟩ := pageZ
  have hs2 : z.size = 4096 := by simpa using hs
  refine ⟨z, hz, fun w => ?_⟩
  · have := World.rowIs_alloc w z 92 (fun _ => .int .u8 0) (fun i hi => by
      rw [Array.getElem?_eq_getElem hi]
      congr 1
      exact isZ_eq (List.all_eq_true.1 ha _ (by simp)))
    rwa [hs2] at this
end
end Go.Proofs.Ytbbegbaaefgikaa
