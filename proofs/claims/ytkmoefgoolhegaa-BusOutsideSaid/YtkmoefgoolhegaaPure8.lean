/- Memory through segments, in numbers. -/
import Derived.Test.YtkmoefgoolhegaaRef6b
import Derived.Test.YtkmoefgoolhegaaSlc
import Derived.Test.YtkmoefgoolhegaaPure7
namespace Go.Proofs.Ytkmoefgoolhegaa
open Go.RowKit

/-- a segment: its place, its size, what may be done there -/
structure Sg where
  b : Int
  z : Int
  r : Bool
  q : Bool
  x : Bool
def Sg.ok (s : Sg) : Prop := (0 ≤ s.b ∧ s.b < 4294967296) ∧ (0 ≤ s.z ∧ s.z < 4294967296)
instance (s : Sg) : Decidable s.ok := by unfold Sg.ok; infer_instance
/-- how many bytes a load or a store has -/
def widN (size : Int) : Nat := if size = 1 then 1 else if size = 2 then 2 else if size = 8 then 8 else 4
theorem widN_lo (size : Int) : 1 ≤ widN size := by unfold widN; split <;> (try split) <;> (try split) <;> omega
theorem widN_hi (size : Int) : widN size ≤ 8 := by unfold widN; split <;> (try split) <;> (try split) <;> omega
def byteOf (v : Int) (i : Nat) : Int := v / 256 ^ i % 256
theorem byteOf_ok (v : Int) (i : Nat) : 0 ≤ byteOf v i ∧ byteOf v i < 256 := by unfold byteOf; omega
def stE (d : Sg) (off size : Int) : Int := atE d.b d.z d.r d.q d.x off (widN size) 1
def stG (g : Int → Int) (d : Sg) (off size v : Int) : Int → Int := if stE d off size = 0 then writeG g (d.b + off) (byteOf v) (widN size) else g
def stP (pg : Int → Bool) (d : Sg) (off size : Int) : Int → Bool := if stE d off size = 0 then writeP pg (d.b + off) (widN size) else pg
def ldE (d : Sg) (off size : Int) : Int := atE d.b d.z d.r d.q d.x off (widN size) 0
/-- n bytes from a on, the lowest first, as a number -/
def leV (g : Int → Int) (a : Int) : Nat → Int
  | 0 => 0
  | n + 1 => leV g a n + g (place a n) * 256 ^ n
def ldV (g : Int → Int) (d : Sg) (off size : Int) : Int := if ldE d off size = 0 then leV g (d.b + off) (widN size) else 0
def clampF (n : Int) : Int := if n < 0 then 0 else if 15 < n then 15 else n
/-- how many bytes may be fetched -/
def ftN (c : Sg) (ip n : Int) : Nat := if c.x && segR c.b c.z then (min (clampF n) (c.z - ip)).toNat else 0
def growB (d : Sg) (z : Int) : Bool := decide (d.z ≤ z) && segR d.b z
def growS (d : Sg) (z : Int) : Sg := if growB d z then ⟨d.b, z, d.r, d.q, d.x⟩ else d

theorem writeG_far (g : Int → Int) (a : Int) (bs : Nat → Int) (q : Int) : ∀ n : Nat, (∀ i, i < n → q ≠ place a i) → writeG g a bs n q = g q
  | 0, _ => rfl
  | n + 1, h => by
    unfold writeG setG
    rw [if_neg (h n (by omega))]
    exact writeG_far g a bs q n fun i hi => h i (by omega)
theorem writeG_hit (g : Int → Int) (a : Int) (bs : Nat → Int) : ∀ (n i : Nat), n ≤ 4294967296 → i < n → writeG g a bs n (place a i) = bs i
  | 0, _, _, h => by omega
  | n + 1, i, hn, h => by
    unfold writeG setG
    by_cases e : i = n
    · subst e; rw [if_pos rfl]
    · rw [if_neg (fun h2 => e (by unfold place at h2; omega))]
      exact writeG_hit g a bs n i (by omega) (by omega)
theorem stE_zero {d : Sg} {off size : Int} (h : stE d off size = 0) : fitB d.b d.z off (widN size) = true ∧ d.q = true := by
  unfold stE atE mayB at h
  simp at h
  by_cases hq : d.q = true
  · rw [if_pos hq] at h
    by_cases hf : fitB d.b d.z off (widN size) = true
    · exact ⟨hf, hq⟩
    · rw [if_neg hf] at h; omega
  · rw [if_neg hq] at h; omega
theorem clampN_wid (size : Int) : clampN (widN size) = widN size := clampN_id _ (by have := widN_lo size; omega) (by have := widN_hi size; omega)
/-- A store touches no byte that isn't within. -/
theorem st_out (g : Int → Int) (d : Sg) (off size v q : Int) (h0 : 0 ≤ d.b) (o0 : 0 ≤ off) (hq : inB d.b d.z q = false) : stG g d off size v q = g q := by
  unfold stG
  split
  · rename_i h
    obtain ⟨hf, _⟩ := stE_zero h
    obtain ⟨_, _, f3, f4⟩ := fit_lt _ _ _ _ hf
    rw [clampN_wid] at f3
    refine writeG_far _ _ _ _ _ fun i hi e => ?_
    unfold place at e
    unfold inB at hq
    simp only [Bool.and_eq_false_iff, decide_eq_false_iff_not] at hq
    omega
  · rfl
/-- what was stored is loaded -/
theorem leV_byteOf (g : Int → Int) (a v : Int) (v0 : 0 ≤ v) : ∀ n : Nat, (∀ i, i < n → g (place a i) = byteOf v i) → leV g a n = v % 256 ^ n
  | 0, _ => by unfold leV; rw [Int.pow_zero]; omega
  | n + 1, h => by
    unfold leV
    rw [leV_byteOf g a v v0 n (fun i hi => h i (by omega)), h n (by omega)]
    unfold byteOf
    have hp : (0 : Int) < 256 ^ n := Int.pow_pos (by decide)
    rw [Int.pow_succ]
    generalize (256 : Int) ^ n = P at *
    have h1 : v % (P * 256) = v % P + P * (v / P % 256) := by
      have a1 := Int.mul_ediv_add_emod v P
      have a2 := Int.mul_ediv_add_emod (v / P) 256
      have m0 := Int.emod_nonneg v (show P ≠ 0 by omega)
      have m1 := Int.emod_lt_of_pos v hp
      generalize v % P = A at *
      generalize hB : v / P = B at *
      have b0 : 0 ≤ B % 256 := by omega
      have b1 : B % 256 ≤ 255 := by omega
      generalize B % 256 = C at *
      generalize B / 256 = D at *
      have e : v = (A + P * C) + P * 256 * D := by
        rw [← a1, ← a2, Int.mul_add, Int.mul_assoc]
        omega
      rw [e, Int.add_mul_emod_self_left]
      refine Int.emod_eq_of_lt ?_ ?_
      · have := Int.mul_nonneg (Int.le_of_lt hp) b0; omega
      · have := Int.mul_le_mul_of_nonneg_left b1 (Int.le_of_lt hp)
        have e3 : P * 256 = P * 255 + P := by rw [show (256 : Int) = 255 + 1 from rfl, Int.mul_add, Int.mul_one]
        omega
    rw [h1, Int.mul_comm P]
end Go.Proofs.Ytkmoefgoolhegaa
