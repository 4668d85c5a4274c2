/- A machine's state: its cells; what a register, a byte, a double of it is (layer 13). -/
import Derived.Test.YtbbegbaaefgikaaStruct
import Derived.Test.YtbbegbaaefgikaaRef10v
import Derived.Laws.BitsAllLaws
import Derived.KernelRfl
namespace Go.Proofs.Ytbbegbaaefgikaa
set_option maxRecDepth 100000
open Go.ChangeShapes Go.WideShapes Go.ChangeAt Go.RowKit

/-- a state: registers, the next place, flags, doubles -/
structure Sta where
  r : Nat → Int
  ip : Int
  c : Bool
  p : Bool
  z : Bool
  s : Bool
  o : Bool
  d : Bool
  x : Nat → Int
def staL (s : Sta) : List Value := [.int .u32 (s.r 0), .int .u32 (s.r 1), .int .u32 (s.r 2), .int .u32 (s.r 3), .int .u32 (s.r 4), .int .u32 (s.r 5), .int .u32 (s.r 6), .int .u32 (s.r 7), .int .u32 s.ip, .bool s.c, .bool s.p, .bool s.z, .bool s.s, .bool s.o, .bool s.d, .int .u64 (s.x 0), .int .u64 (s.x 1), .int .u64 (s.x 2), .int .u64 (s.x 3), .int .u64 (s.x 4), .int .u64 (s.x 5), .int .u64 (s.x 6), .int .u64 (s.x 7)]
def staV (s : Sta) : Value := .agg (staL s).toArray
def opdL (o : Opd) : List Value := [.int .i64 o.kind, .int .i64 o.reg, .int .i64 o.base, .int .i64 o.index, .int .i64 o.scale, .int .u32 o.disp]
/-- the numbers are of their kinds -/
structure StaOk (s : Sta) : Prop where
  r : ∀ i, i < 8 → 0 ≤ s.r i ∧ s.r i < 4294967296
  x : ∀ i, i < 8 → 0 ≤ s.x i ∧ s.x i < 18446744073709551616
  ip : 0 ≤ s.ip ∧ s.ip < 4294967296
theorem info_sta : (Try.prog.info? 29).map (·.size) = some 23 := by kernel_rfl
theorem sta_r (s : Sta) (i : Nat) (h : i < 8) : (staL s)[i]? = some (.int .u32 (s.r i)) := by
  rcases (show i = 0 ∨ i = 1 ∨ i = 2 ∨ i = 3 ∨ i = 4 ∨ i = 5 ∨ i = 6 ∨ i = 7 by omega) with rfl | rfl | rfl | rfl | rfl | rfl | rfl | rfl <;> rfl
theorem sta_x (s : Sta) (i : Nat) (h : i < 8) : (staL s)[15 + i]? = some (.int .u64 (s.x i)) := by
  rcases (show i = 0 ∨ i = 1 ∨ i = 2 ∨ i = 3 ∨ i = 4 ∨ i = 5 ∨ i = 6 ∨ i = 7 by omega) with rfl | rfl | rfl | rfl | rfl | rfl | rfl | rfl <;> rfl
/-- a register, a byte, a double, a number -/
def getF (s : Sta) (o : Opd) : Int :=
  if o.kind = 4 then o.disp
  else if 0 ≤ o.reg ∧ o.reg ≤ 7 then (if o.kind = 1 then s.r o.reg.toNat else if o.kind = 2 then s.r (o.reg % 4).toNat / (if o.reg < 4 then 1 else 256) % 256 else if o.kind = 5 then s.x o.reg.toNat else 0)
  else 0
def putN (g : Nat → Int) (k : Nat) (v : Int) : Nat → Int := fun i => if i = k then v else g i
/-- a byte of a number put anew -/
def byteF (r v : Int) (hi : Bool) : Int := if hi then r / 65536 * 65536 + v % 256 * 256 + r % 256 else r / 256 * 256 + v % 256
def setF (s : Sta) (o : Opd) (v : Int) : Sta :=
  if 0 ≤ o.reg ∧ o.reg ≤ 7 then
    (if o.kind = 1 then { s with r := putN s.r o.reg.toNat (v % 4294967296) }
    else if o.kind = 2 then { s with r := putN s.r (o.reg % 4).toNat (byteF (s.r (o.reg % 4).toNat) v (decide (4 ≤ o.reg))) }
    else if o.kind = 5 then { s with x := putN s.x o.reg.toNat v } else s)
  else s
end Go.Proofs.Ytbbegbaaefgikaa
