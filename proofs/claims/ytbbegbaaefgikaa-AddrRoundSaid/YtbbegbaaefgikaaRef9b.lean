/- The document's own reading of operands (package salternref9): RM. -/
import Derived.Test.YtbbegbaaefgikaaRef9
import Derived.Deep.DeepCutAuto
import Derived.Lib.Hide
namespace Go.Proofs.Ytbbegbaaefgikaa
set_option maxRecDepth 100000
open Go.ChangeShapes Go.WideShapes Go.ChangeAt Go.RowKit

theorem drewN_alloc (w : World) (o : Obj) : ∀ n, (w.alloc o).drewN n = (w.drewN n).alloc o
  | 0 => rfl
  | n + 1 => by
    show ((w.alloc o).drewN n).drew = ((w.drewN n).drew).alloc o
    rw [drewN_alloc w o n]
    rfl
theorem drewN_size (w : World) : ∀ n, (w.drewN n).heap.size = w.heap.size
  | 0 => rfl
  | n + 1 => drewN_size w n
theorem cell_alloc {w : World} {o : Obj} {p : Addr} {x : Value} (h : w.cell? p = some x) : (w.alloc o).cell? p = some x := (World.cell?_alloc_lt w o p (cell_lt h)).trans h
/-- block B of w holds an operand -/
structure Six (w : World) (B : Nat) (o : Opd) : Prop where
  c0 : w.cell? ⟨B, 0, none⟩ = some (.int .i64 o.kind)
  c1 : w.cell? ⟨B, 1, none⟩ = some (.int .i64 o.reg)
  c2 : w.cell? ⟨B, 2, none⟩ = some (.int .i64 o.base)
  c3 : w.cell? ⟨B, 3, none⟩ = some (.int .i64 o.index)
  c4 : w.cell? ⟨B, 4, none⟩ = some (.int .i64 o.scale)
  c5 : w.cell? ⟨B, 5, none⟩ = some (.int .u32 o.disp)
  fr : ∀ i, w.frozen? ⟨B, i, none⟩ = false
def rmV (L : Nat) (bs : Nat → Int) : Value :=
  match rmF L bs with
  | none => .tuple #[.agg #[.int .i64 0, .int .i64 0, .int .i64 0, .int .i64 0, .int .i64 0, .int .u32 0], .int .i64 0, .int .i64 0, .int .i64 21]
  | some (o, r, n) => .tuple #[.agg #[.int .i64 o.kind, .int .i64 o.reg, .int .i64 o.base, .int .i64 o.index, .int .i64 o.scale, .int .u32 o.disp], .int .i64 r, .int .i64 n, .int .i64 0]
/-- behind the second byte, if there is one: how many bytes, base, index, scale -/
def Sib (L : Nat) (bs : Nat → Int) (N : Nat) (B I S : Int) : Prop := (bs 0 % 8 ≠ 4 ∧ N = 1 ∧ B = bs 0 % 8 ∧ I = -1 ∧ S = 1) ∨ (bs 0 % 8 = 4 ∧ 2 ≤ L ∧ N = 2 ∧ B = bs 1 % 8 ∧ I = sibI (bs 1) ∧ S = sibS (bs 1))
theorem Sib.rm {L : Nat} {bs : Nat → Int} {N : Nat} {B I S : Int} (h : Sib L bs N B I S) (h0 : L ≠ 0) (h3 : bs 0 / 64 ≠ 3) : rmF L bs = if L < N + more9 (bs 0 / 64) B then none else some (⟨3, 0, base9 (bs 0 / 64) B, I, S, disp9 (more9 (bs 0 / 64) B) bs N⟩, bs 0 / 8 % 8, N + more9 (bs 0 / 64) B) := by
  unfold rmF
  rw [if_neg h0, if_neg h3]
  rcases h with ⟨h4, rfl, rfl, rfl, rfl⟩ | ⟨h4, hL, rfl, rfl, rfl, rfl⟩
  · rw [if_neg h4]
  · rw [if_pos h4, if_neg (by omega)]
theorem Sib.none {L : Nat} {bs : Nat → Int} (h0 : L ≠ 0) (h3 : bs 0 / 64 ≠ 3) (h4 : bs 0 % 8 = 4) (hL : L < 2) : rmF L bs = .none := by
  unfold rmF
  rw [if_neg h0, if_neg h3, if_pos h4, if_pos hL]
end Go.Proofs.Ytbbegbaaefgikaa
