/- How many bits a number has (math/bits.Len); the next power of two. -/
import Derived.Test.YtkmoefgoolhegaaSortD
import Derived.Laws.MathBits
namespace Go.Proofs.Ytkmoefgoolhegaa
open Go.ChangeShapes Go.WideShapes Go.ChangeAt Go.RowKit Go.Maps Go.Deep Go.Sort

theorem wrap_len (k a : Nat) (hk : k ≤ 24) (ha : a ≤ 8) : RowKit.wrap64 ((k : Int) + RowKit.wrap64 (a : Int)) = ((k + a : Nat) : Int) := by
  unfold RowKit.wrap64
  omega
theorem wrap_len0 (a : Nat) (ha : a ≤ 8) : RowKit.wrap64 (a : Int) = (a : Int) := by
  unfold RowKit.wrap64
  omega
theorem wrap_len1 (a : Nat) (ha : a ≤ 8) : RowKit.wrap64 (RowKit.wrap64 (a : Int)) = (a : Int) := by
  unfold RowKit.wrap64
  omega
theorem bitLen_32 (x : Nat) (hx : x < 4294967296) : Go.bitLen x ≤ 32 := by
  unfold Go.bitLen
  split
  · omega
  · rename_i h0
    have := (Nat.log2_lt h0).2 (show x < 2 ^ 32 from hx)
    omega
/-- a number of 64 bits at S -/
structure CelS (W w : World) (S : Nat) (r : Int) : Prop where
  cell : w.cell? ⟨S, 0, none⟩ = some (.int .u64 r)
  fro : w.frozen? ⟨S, 0, none⟩ = false
  but : But (· = S) W w
  r0 : 0 ≤ r
  r1 : r < 18446744073709551616
theorem CelS.put {W w : World} {S : Nat} {r : Int} (h : CelS W w S r) (x y : Int) : CelS W (w.setCell ⟨S, 0, none⟩ (.int .u64 (bits .xor .u64 x y))).drew S (bits .xor .u64 x y) :=
  ⟨World.cell?_setCell_same _ _ _ h.cell, by show (w.setCell _ _).frozen? _ = false; rw [World.frozen?_setCell]; exact h.fro, (h.but.setCell (a := ⟨S, 0, none⟩) (fun _ => rfl) _).drew, (bits_within .xor .u64 x y).1, by have := bits_hi_u64 .xor x y; omega⟩
end Go.Proofs.Ytkmoefgoolhegaa
