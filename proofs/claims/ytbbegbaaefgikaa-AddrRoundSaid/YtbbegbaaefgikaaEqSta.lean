/- States compared: two are one where their cells are. -/
import Derived.Test.YtbbegbaaefgikaaShutSta
import Derived.DeepKeys
import Derived.ProofKit
import Derived.Laws.StructEq
namespace Go.Proofs.Ytbbegbaaefgikaa
set_option maxRecDepth 100000
open Go.ChangeShapes Go.WideShapes Go.ChangeAt Go.RowKit

def litS (s : Sta) : List Lit := [.int .u32 (s.r 0), .int .u32 (s.r 1), .int .u32 (s.r 2), .int .u32 (s.r 3), .int .u32 (s.r 4), .int .u32 (s.r 5), .int .u32 (s.r 6), .int .u32 (s.r 7), .int .u32 s.ip, .bool s.c, .bool s.p, .bool s.z, .bool s.s, .bool s.o, .bool s.d, .int .u64 (s.x 0), .int .u64 (s.x 1), .int .u64 (s.x 2), .int .u64 (s.x 3), .int .u64 (s.x 4), .int .u64 (s.x 5), .int .u64 (s.x 6), .int .u64 (s.x 7)]
theorem eq_deep {t : TypeId} (hk : Try.prog.keyTypeAt 4 t = true) {a b : Value} {la lb : List Lit} (fa : a.formed Try.prog t = true) (fb : b.formed Try.prog t = true) (ha : Try.prog.keyLits 4 t a.cells.toList = some la) (hb : Try.prog.keyLits 4 t b.cells.toList = some lb) (w : World) : ∃ r : Bool, (Op.equalIn 10000 t a b).run Try.prog w = .ok r w ∧ (r = true ↔ la = lb) := by
  rw [show (10000 : Nat) = 9996 + 4 from rfl]
  exact run_equalIn_deep (P := Try.prog) 9996 4 t hk w 4 4 a b la lb fa fb ha hb
theorem sta_key : Try.prog.keyTypeAt 4 29 = true := by kernel_rfl
theorem sta_form (s : Sta) : (staV s).formed Try.prog 29 = true := by kernel_rfl
set_option maxRecDepth 10000 in
theorem sta_lits (s : Sta) (h : WfS s) : Try.prog.keyLits 4 29 (staV s).cells.toList = some (litS s) := by
  obtain ⟨hr, hi, hx⟩ := h
  have r0 := hr 0 (by decide)
  have x0 := hx 0 (by decide)
  have r1 := hr 1 (by decide)
  have x1 := hx 1 (by decide)
  have r2 := hr 2 (by decide)
  have x2 := hx 2 (by decide)
  have r3 := hr 3 (by decide)
  have x3 := hx 3 (by decide)
  have r4 := hr 4 (by decide)
  have x4 := hx 4 (by decide)
  have r5 := hr 5 (by decide)
  have x5 := hx 5 (by decide)
  have r6 := hr 6 (by decide)
  have x6 := hx 6 (by decide)
  have r7 := hr 7 (by decide)
  have x7 := hx 7 (by decide)
  simp [litS, staV, staL, Program.keyLits, Value.cells, List.range, List.range.loop, Try.underlying29, Try.underlying25, Try.underlying23, Try.underlying27, Try.underlying4, Try.underlying22, Try.underlying26, cell_b, cell_u4, cell_u8, cell_fl, cell_a4, cell_a8, cell_st, hi, r0, x0, r1, x1, r2, x2, r3, x3, r4, x4, r5, x5, r6, x6, r7, x7]
  repeat' split
  all_goals first
    | rfl
    | (rename_i h; exact absurd (fun i hi => by rcases (show i = 0 ∨ i = 1 ∨ i = 2 ∨ i = 3 ∨ i = 4 ∨ i = 5 by omega) with rfl | rfl | rfl | rfl | rfl | rfl <;> simp) h)
    | (rename_i h; exact absurd (fun i hi => by rcases (show i = 0 ∨ i = 1 ∨ i = 2 ∨ i = 3 by omega) with rfl | rfl | rfl | rfl <;> simp) h)
theorem sta_eqR (w : World) (s t : Sta) (hs : WfS s) (ht : WfS t) : ∃ r : Bool, (binOp .eql 29 (staV s) (staV t)).run Try.prog w = .ok (.bool r) w ∧ (r = true ↔ litS s = litS t) := by
  obtain ⟨r, hr, hi⟩ := eq_deep sta_key (sta_form s) (sta_form t) (sta_lits s hs) (sta_lits t ht) w
  refine ⟨r, ?_, hi⟩
  show (binOp .eql 29 (.agg (staL s).toArray) (.agg (staL t).toArray)).run Try.prog w = _
  rw [run_eql_struct]
  show ((Op.equalIn 10000 29 (staV s) (staV t)).run Try.prog w).andThen _ = _
  rw [hr]
  rfl
theorem sta_same (w : World) (s : Sta) (hs : WfS s) : (binOp .neq 29 (staV s) (staV s)).run Try.prog w = .ok (.bool false) w := by
  obtain ⟨r, hr, hi⟩ := eq_deep sta_key (sta_form s) (sta_form s) (sta_lits s hs) (sta_lits s hs) w
  have : r = true := hi.2 rfl
  subst this
  show (binOp .neq 29 (.agg (staL s).toArray) (.agg (staL s).toArray)).run Try.prog w = _
  rw [run_neq_struct]
  show ((Op.equalIn 10000 29 (staV s) (staV s)).run Try.prog w).andThen _ = _
  rw [hr]
  rfl
end Go.Proofs.Ytbbegbaaefgikaa
