/- The document's table (package salternref9): forms. -/
import Derived.Test.YtbbegbaaefgikaaPure10
import Derived.Test.YtbbegbaaefgikaaNew9
namespace Go.Proofs.Ytbbegbaaefgikaa
set_option maxRecDepth 100000
open Go.ChangeShapes Go.WideShapes Go.ChangeAt Go.RowKit

def frmV (f : Frm) : Value := .agg #[.int .i64 f.op, .int .i64 f.cond, .int .i64 f.size, .string ⟨f.how.toArray⟩, .int .i64 f.c]
def fstV (x : Frm × Bool × Bool) : Value := .tuple #[frmV x.1, .bool x.2.1, .bool x.2.2]
theorem and1 (z : Int) (h0 : 0 ≤ z) (h1 : z < 256) : bits .and .u8 z 1 = z % 2 := by
  obtain ⟨k, rfl⟩ : ∃ k : Nat, z = (k : Int) := ⟨z.toNat, by omega⟩
  have := u8_and_nat k 1 (by omega) (by omega)
  rw [show ((1 : Nat) : Int) = 1 from rfl] at this
  rw [this, show k &&& 1 = k % 2 from Nat.and_two_pow_sub_one_eq_mod k 1]
  rfl
theorem and15 (z : Int) (h0 : 0 ≤ z) (h1 : z < 256) : bits .and .u8 z 15 = z % 16 := by
  obtain ⟨k, rfl⟩ : ∃ k : Nat, z = (k : Int) := ⟨z.toNat, by omega⟩
  have := u8_and_nat k 15 (by omega) (by omega)
  rw [show ((15 : Nat) : Int) = 15 from rfl] at this
  rw [this, show k &&& 15 = k % 16 from Nat.and_two_pow_sub_one_eq_mod k 4]
  rfl
attribute [local go_sem] isSome_setCell
/-- what first answers, its parts named -/
def fstL (x : Frm × Bool × Bool) : Value := .tuple #[.agg #[.int .i64 x.1.op, .int .i64 x.1.cond, .int .i64 x.1.size, .string ⟨x.1.how.toArray⟩, .int .i64 x.1.c], .bool x.2.1, .bool x.2.2]
theorem five_kept {w w1 : World} {a b c d e : Value} {T : TypeId} (h : Below (w.heap.size + 1) (w.alloc (.cells #[a, b, c, d, e] T)) w1) :
    w1.cell? ⟨w.heap.size, 0, none⟩ = some a ∧ w1.cell? ⟨w.heap.size, 1, none⟩ = some b ∧ w1.cell? ⟨w.heap.size, 2, none⟩ = some c ∧ w1.cell? ⟨w.heap.size, 3, none⟩ = some d ∧ w1.cell? ⟨w.heap.size, 4, none⟩ = some e ∧ ∀ i, w1.frozen? ⟨w.heap.size, i, none⟩ = false := by
  refine ⟨?_, ?_, ?_, ?_, ?_, fun i => by rw [h.frozen (by simp)]; simp⟩
  all_goals rw [h.cell (by simp), World.cell?_alloc_new]; rfl
theorem five_kept0 {w w1 : World} {a b c d e : Value} {T : TypeId} (h : Below (w.alloc (.cells #[a, b, c, d, e] T)).heap.size (w.alloc (.cells #[a, b, c, d, e] T)) w1) : Below (w.heap.size + 1) (w.alloc (.cells #[a, b, c, d, e] T)) w1 := by
  have e' : (w.alloc (.cells #[a, b, c, d, e] T)).heap.size = w.heap.size + 1 := by simp
  rwa [e'] at h
theorem five_kept1 {w w1 : World} {a b c d e : Value} {T : TypeId} {o : Obj} (h : Below ((w.alloc (.cells #[a, b, c, d, e] T)).alloc o).heap.size ((w.alloc (.cells #[a, b, c, d, e] T)).alloc o) w1) : Below (w.heap.size + 1) (w.alloc (.cells #[a, b, c, d, e] T)) w1 := by
  have := ((Below.refl (w.heap.size + 1) (w.alloc (.cells #[a, b, c, d, e] T))).alloc (by simp) o).trans (h.mono (by simp))
  exact this
theorem below5 {w w1 : World} {B : Nat} {a b c d e : Value} (h : Below B w w1) (o : Nat) (ho : B ≤ o) : Below B w (((((w1.setCell ⟨o, 0, none⟩ a).setCell ⟨o, 1, none⟩ b).setCell ⟨o, 2, none⟩ c).setCell ⟨o, 3, none⟩ d).setCell ⟨o, 4, none⟩ e) :=
  ((((h.setCell ho _).setCell ho _).setCell ho _).setCell ho _).setCell ho _
end Go.Proofs.Ytbbegbaaefgikaa
