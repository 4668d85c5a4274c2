/- Pieces of memory in numbers. -/
import Derived.Test.YtkmoefgoolhegaaPure1
namespace Go.Proofs.Ytkmoefgoolhegaa

def segR (b z : Int) : Bool := decide (b + z ≤ 4294967296)
def clampN (n : Int) : Int := if n < 1 then 1 else if 16 < n then 16 else n
theorem clampN_lo (n : Int) : 1 ≤ clampN n := by unfold clampN; split <;> (try split) <;> omega
theorem clampN_hi (n : Int) : clampN n ≤ 16 := by unfold clampN; split <;> (try split) <;> omega
theorem clampN_id (n : Int) (h0 : 1 ≤ n) (h1 : n ≤ 16) : clampN n = n := by unfold clampN; split <;> (try split) <;> omega
def mayB (r q x : Bool) (what : Int) : Bool := if what = 0 then r else if what = 1 then q else if what = 2 then x else false
def fitB (b z off n : Int) : Bool := segR b z && decide (off + clampN n ≤ z)
def atE (b z : Int) (r q x : Bool) (off n what : Int) : Int := if mayB r q x what then if fitB b z off n then 0 else 24 else 25
def atV (b z : Int) (r q x : Bool) (off n what : Int) : Int := if mayB r q x what && fitB b z off n then b + off else 0
def inB (b z at' : Int) : Bool := decide (b ≤ at') && decide (at' < b + z)
def apB (b z c y : Int) : Bool := segR b z && segR c y && (z == 0 || y == 0 || decide (b + z ≤ c) || decide (c + y ≤ b))
theorem fit_lt (b z off n : Int) (h : fitB b z off n = true) : off < z ∧ b + off < 4294967296 ∧ off + clampN n ≤ z ∧ b + z ≤ 4294967296 := by
  unfold fitB segR at h
  simp only [Bool.and_eq_true, decide_eq_true_eq] at h
  have := clampN_lo n
  omega
end Go.Proofs.Ytkmoefgoolhegaa
