/- A segment that is handed in, opened and shut again. -/
import Derived.Test.YtkmoefgoolhegaaShut
namespace Go.Proofs.Ytkmoefgoolhegaa
open Go.ChangeShapes Go.WideShapes Go.ChangeAt Go.RowKit

theorem bool_cell1 : Try.prog.cellsOf 4 = 1 := by kernel_rfl
theorem u32_cell1 : Try.prog.cellsOf 22 = 1 := by kernel_rfl
theorem seg_cells : Try.prog.cellsOf 24 = 5 := by kernel_rfl
section
variable {H : Type} {enc : TypeId × Value → H} {w : World} {base : Nat} {spare : Nat → Bool} {held : Bool}
theorem shut_seg (ba : Int) (sz : Int) (rd : Bool) (wr : Bool) (ex : Bool) (wba : (.int .u32 ba : Lit).wf = true) (wsz : (.int .u32 sz : Lit).wf = true) :
    DataW.Trod enc Try.prog w base spare held 24 (.agg #[.int .u32 ba, .int .u32 sz, .bool rd, .bool wr, .bool ex]) (.agg [.lit (.int .u32 ba), .lit (.int .u32 sz), .lit (.bool rd), .lit (.bool wr), .lit (.bool ex)]) [] :=
  ⟨3, by simp [DataW.trod, Value.cells, Try.underlying24, Try.underlying4, Try.underlying22, seg_cells, bool_cell1, u32_cell1, wba, wsz]⟩
theorem open_seg {r : Reach} {b0 : Nat} {v : Value} {x : DataW H} {ps : List MemPlace} (hv : Value.okWide Try.prog w r b0 24 v) (h : DataW.Trod enc Try.prog w base spare held 24 v x ps) :
    ∃ (ba : Int) (sz : Int) (rd : Bool) (wr : Bool) (ex : Bool), v = .agg #[.int .u32 ba, .int .u32 sz, .bool rd, .bool wr, .bool ex] ∧ x = .agg [.lit (.int .u32 ba), .lit (.int .u32 sz), .lit (.bool rd), .lit (.bool wr), .lit (.bool ex)] ∧ ps = [] ∧ (.int .u32 ba : Lit).wf = true ∧ (.int .u32 sz : Lit).wf = true := by
  obtain ⟨cs, rfl, hsz⟩ := okWide_struct Try.underlying24 hv
  obtain ⟨fuel, hf⟩ := h
  obtain ⟨xs, n, _, hx, _, hlen, hg⟩ := DataW.trod_struct Try.underlying24 hf
  obtain ⟨l⟩ := cs
  match l, hsz.trans seg_cells, xs, hlen with
  | [k0, k1, k2, k3, k4], _, [y0, y1, y2, y3, y4], _ =>
    have g0 := hg 0 _ rfl
    have g1 := hg 1 _ rfl
    have g2 := hg 2 _ rfl
    have g3 := hg 3 _ rfl
    have g4 := hg 4 _ rfl
    simp [Value.cells, bool_cell1, u32_cell1] at g0 g1 g2 g3 g4
    obtain ⟨ba, e0, rfl, w0⟩ := DataW.trod_int Try.underlying22 g0
    obtain ⟨sz, e1, rfl, w1⟩ := DataW.trod_int Try.underlying22 g1
    obtain ⟨rd, e2, rfl⟩ := DataW.trod_bool Try.underlying4 g2
    obtain ⟨wr, e3, rfl⟩ := DataW.trod_bool Try.underlying4 g3
    obtain ⟨ex, e4, rfl⟩ := DataW.trod_bool Try.underlying4 g4
    injection e0 with e0 _; subst e0
    injection e1 with e1 _; subst e1
    injection e2 with e2 _; subst e2
    injection e3 with e3 _; subst e3
    injection e4 with e4 _; subst e4
    simp only [Prod.mk.injEq] at hx
    exact ⟨ba, sz, rd, wr, ex, rfl, by simpa using hx.1, by simpa using hx.2, w0, w1⟩
end
end Go.Proofs.Ytkmoefgoolhegaa
