/- A state that is handed in, opened and shut again. -/
import Derived.Test.YtbbegbaaefgikaaShut
import Derived.Test.YtbbegbaaefgikaaSta13
namespace Go.Proofs.Ytbbegbaaefgikaa
set_option maxRecDepth 100000
open Go.ChangeShapes Go.WideShapes Go.ChangeAt Go.RowKit

theorem cell_b : Try.prog.cellsOf 4 = 1 := by kernel_rfl
theorem cell_u4 : Try.prog.cellsOf 22 = 1 := by kernel_rfl
theorem cell_u8 : Try.prog.cellsOf 26 = 1 := by kernel_rfl
theorem cell_fl : Try.prog.cellsOf 25 = 6 := by kernel_rfl
theorem cell_a4 : Try.prog.cellsOf 23 = 8 := by kernel_rfl
theorem cell_a8 : Try.prog.cellsOf 27 = 8 := by kernel_rfl
theorem cell_st : Try.prog.cellsOf 29 = 23 := by kernel_rfl
def arrD (H : Type) (k : IntKind) (f : Nat → Int) : DataW H := .agg [.lit (.int k (f 0)), .lit (.int k (f 1)), .lit (.int k (f 2)), .lit (.int k (f 3)), .lit (.int k (f 4)), .lit (.int k (f 5)), .lit (.int k (f 6)), .lit (.int k (f 7))]
def flgD (H : Type) (c p z s o d : Bool) : DataW H := .agg [.lit (.bool c), .lit (.bool p), .lit (.bool z), .lit (.bool s), .lit (.bool o), .lit (.bool d)]
def staD (H : Type) (s : Sta) : DataW H := .agg [arrD H .u32 s.r, .lit (.int .u32 s.ip), flgD H s.c s.p s.z s.s s.o s.d, arrD H .u64 s.x]
structure WfS (s : Sta) : Prop where
  r : ∀ i, i < 8 → (.int .u32 (s.r i) : Lit).wf = true
  ip : (.int .u32 s.ip : Lit).wf = true
  x : ∀ i, i < 8 → (.int .u64 (s.x i) : Lit).wf = true
section
variable {H : Type} {enc : TypeId × Value → H} {w : World} {base : Nat} {spare : Nat → Bool} {held : Bool}
theorem open_arru32 {n : Nat} {c0 c1 c2 c3 c4 c5 c6 c7 : Value} {y : DataW H × List MemPlace} (h : DataW.trod enc Try.prog w base spare held n 23 [c0, c1, c2, c3, c4, c5, c6, c7] = some y) : ∃ f : Nat → Int, (c0 = .int .u32 (f 0) ∧ c1 = .int .u32 (f 1) ∧ c2 = .int .u32 (f 2) ∧ c3 = .int .u32 (f 3) ∧ c4 = .int .u32 (f 4) ∧ c5 = .int .u32 (f 5) ∧ c6 = .int .u32 (f 6) ∧ c7 = .int .u32 (f 7)) ∧ y = (arrD H .u32 f, []) ∧ ∀ i, i < 8 → (.int .u32 (f i) : Lit).wf = true := by
  obtain ⟨xs, m, _, hx, _, hlen, hg⟩ := DataW.trod_array Try.underlying23 h
  match xs, hlen with
  | [y0, y1, y2, y3, y4, y5, y6, y7], _ =>
    have g0 := hg 0 (by decide)
    have g1 := hg 1 (by decide)
    have g2 := hg 2 (by decide)
    have g3 := hg 3 (by decide)
    have g4 := hg 4 (by decide)
    have g5 := hg 5 (by decide)
    have g6 := hg 6 (by decide)
    have g7 := hg 7 (by decide)
    simp [cell_u4] at g0 g1 g2 g3 g4 g5 g6 g7
    obtain ⟨a0, e0, rfl, w0⟩ := DataW.trod_int Try.underlying22 g0
    injection e0 with e0 _; subst e0
    obtain ⟨a1, e1, rfl, w1⟩ := DataW.trod_int Try.underlying22 g1
    injection e1 with e1 _; subst e1
    obtain ⟨a2, e2, rfl, w2⟩ := DataW.trod_int Try.underlying22 g2
    injection e2 with e2 _; subst e2
    obtain ⟨a3, e3, rfl, w3⟩ := DataW.trod_int Try.underlying22 g3
    injection e3 with e3 _; subst e3
    obtain ⟨a4, e4, rfl, w4⟩ := DataW.trod_int Try.underlying22 g4
    injection e4 with e4 _; subst e4
    obtain ⟨a5, e5, rfl, w5⟩ := DataW.trod_int Try.underlying22 g5
    injection e5 with e5 _; subst e5
    obtain ⟨a6, e6, rfl, w6⟩ := DataW.trod_int Try.underlying22 g6
    injection e6 with e6 _; subst e6
    obtain ⟨a7, e7, rfl, w7⟩ := DataW.trod_int Try.underlying22 g7
    injection e7 with e7 _; subst e7
    refine ⟨fun i => [a0, a1, a2, a3, a4, a5, a6, a7].getD i 0, ⟨rfl, rfl, rfl, rfl, rfl, rfl, rfl, rfl⟩, by rw [hx]; rfl, fun i hi => ?_⟩
    rcases (show i = 0 ∨ i = 1 ∨ i = 2 ∨ i = 3 ∨ i = 4 ∨ i = 5 ∨ i = 6 ∨ i = 7 by omega) with rfl | rfl | rfl | rfl | rfl | rfl | rfl | rfl
    · exact w0
    · exact w1
    · exact w2
    · exact w3
    · exact w4
    · exact w5
    · exact w6
    · exact w7
theorem open_arru64 {n : Nat} {c0 c1 c2 c3 c4 c5 c6 c7 : Value} {y : DataW H × List MemPlace} (h : DataW.trod enc Try.prog w base spare held n 27 [c0, c1, c2, c3, c4, c5, c6, c7] = some y) : ∃ f : Nat → Int, (c0 = .int .u64 (f 0) ∧ c1 = .int .u64 (f 1) ∧ c2 = .int .u64 (f 2) ∧ c3 = .int .u64 (f 3) ∧ c4 = .int .u64 (f 4) ∧ c5 = .int .u64 (f 5) ∧ c6 = .int .u64 (f 6) ∧ c7 = .int .u64 (f 7)) ∧ y = (arrD H .u64 f, []) ∧ ∀ i, i < 8 → (.int .u64 (f i) : Lit).wf = true := by
  obtain ⟨xs, m, _, hx, _, hlen, hg⟩ := DataW.trod_array Try.underlying27 h
  match xs, hlen with
  | [y0, y1, y2, y3, y4, y5, y6, y7], _ =>
    have g0 := hg 0 (by decide)
    have g1 := hg 1 (by decide)
    have g2 := hg 2 (by decide)
    have g3 := hg 3 (by decide)
    have g4 := hg 4 (by decide)
    have g5 := hg 5 (by decide)
    have g6 := hg 6 (by decide)
    have g7 := hg 7 (by decide)
    simp [cell_u8] at g0 g1 g2 g3 g4 g5 g6 g7
    obtain ⟨a0, e0, rfl, w0⟩ := DataW.trod_int Try.underlying26 g0
    injection e0 with e0 _; subst e0
    obtain ⟨a1, e1, rfl, w1⟩ := DataW.trod_int Try.underlying26 g1
    injection e1 with e1 _; subst e1
    obtain ⟨a2, e2, rfl, w2⟩ := DataW.trod_int Try.underlying26 g2
    injection e2 with e2 _; subst e2
    obtain ⟨a3, e3, rfl, w3⟩ := DataW.trod_int Try.underlying26 g3
    injection e3 with e3 _; subst e3
    obtain ⟨a4, e4, rfl, w4⟩ := DataW.trod_int Try.underlying26 g4
    injection e4 with e4 _; subst e4
    obtain ⟨a5, e5, rfl, w5⟩ := DataW.trod_int Try.underlying26 g5
    injection e5 with e5 _; subst e5
    obtain ⟨a6, e6, rfl, w6⟩ := DataW.trod_int Try.underlying26 g6
    injection e6 with e6 _; subst e6
    obtain ⟨a7, e7, rfl, w7⟩ := DataW.trod_int Try.underlying26 g7
    injection e7 with e7 _; subst e7
    refine ⟨fun i => [a0, a1, a2, a3, a4, a5, a6, a7].getD i 0, ⟨rfl, rfl, rfl, rfl, rfl, rfl, rfl, rfl⟩, by rw [hx]; rfl, fun i hi => ?_⟩
    rcases (show i = 0 ∨ i = 1 ∨ i = 2 ∨ i = 3 ∨ i = 4 ∨ i = 5 ∨ i = 6 ∨ i = 7 by omega) with rfl | rfl | rfl | rfl | rfl | rfl | rfl | rfl
    · exact w0
    · exact w1
    · exact w2
    · exact w3
    · exact w4
    · exact w5
    · exact w6
    · exact w7
theorem open_flg {n : Nat} {k0 k1 k2 k3 k4 k5 : Value} {y : DataW H × List MemPlace} (h : DataW.trod enc Try.prog w base spare held n 25 [k0, k1, k2, k3, k4, k5] = some y) : ∃ c p z s o d : Bool, (k0 = .bool c ∧ k1 = .bool p ∧ k2 = .bool z ∧ k3 = .bool s ∧ k4 = .bool o ∧ k5 = .bool d) ∧ y = (flgD H c p z s o d, []) := by
  obtain ⟨xs, m, _, hx, _, hlen, hg⟩ := DataW.trod_struct Try.underlying25 h
  match xs, hlen with
  | [y0, y1, y2, y3, y4, y5], _ =>
    have g0 := hg 0 _ rfl
    have g1 := hg 1 _ rfl
    have g2 := hg 2 _ rfl
    have g3 := hg 3 _ rfl
    have g4 := hg 4 _ rfl
    have g5 := hg 5 _ rfl
    simp [cell_b] at g0 g1 g2 g3 g4 g5
    obtain ⟨b0, e0, rfl⟩ := DataW.trod_bool Try.underlying4 g0
    injection e0 with e0 _; subst e0
    obtain ⟨b1, e1, rfl⟩ := DataW.trod_bool Try.underlying4 g1
    injection e1 with e1 _; subst e1
    obtain ⟨b2, e2, rfl⟩ := DataW.trod_bool Try.underlying4 g2
    injection e2 with e2 _; subst e2
    obtain ⟨b3, e3, rfl⟩ := DataW.trod_bool Try.underlying4 g3
    injection e3 with e3 _; subst e3
    obtain ⟨b4, e4, rfl⟩ := DataW.trod_bool Try.underlying4 g4
    injection e4 with e4 _; subst e4
    obtain ⟨b5, e5, rfl⟩ := DataW.trod_bool Try.underlying4 g5
    injection e5 with e5 _; subst e5
    exact ⟨b0, b1, b2, b3, b4, b5, ⟨rfl, rfl, rfl, rfl, rfl, rfl⟩, by rw [hx]; rfl⟩
set_option maxRecDepth 10000 in
theorem open_sta {r : Reach} {b0 : Nat} {v : Value} {x : DataW H} {ps : List MemPlace} (hv : Value.okWide Try.prog w r b0 29 v) (h : DataW.Trod enc Try.prog w base spare held 29 v x ps) :
    ∃ S : Sta, v = staV S ∧ x = staD H S ∧ ps = [] ∧ WfS S := by
  obtain ⟨cs, rfl, hsz⟩ := okWide_struct Try.underlying29 hv
  obtain ⟨fuel, hf⟩ := h
  obtain ⟨xs, n, _, hx, _, hlen, hg⟩ := DataW.trod_struct Try.underlying29 hf
  obtain ⟨l⟩ := cs
  match l, hsz.trans cell_st, xs, hlen with
  | [k0, k1, k2, k3, k4, k5, k6, k7, k8, k9, k10, k11, k12, k13, k14, k15, k16, k17, k18, k19, k20, k21, k22], _, [y0, y1, y2, y3], _ =>
    have g0 := hg 0 _ rfl
    have g1 := hg 1 _ rfl
    have g2 := hg 2 _ rfl
    have g3 := hg 3 _ rfl
    simp [Value.cells, cell_a4, cell_a8, cell_u4, cell_fl] at g0 g1 g2 g3
    obtain ⟨R, ⟨rfl, rfl, rfl, rfl, rfl, rfl, rfl, rfl⟩, rfl, w0⟩ := open_arru32 g0
    obtain ⟨ip, e1, rfl, w1⟩ := DataW.trod_int Try.underlying22 g1
    injection e1 with e1 _; subst e1
    obtain ⟨c, p, z, s, o, d, ⟨rfl, rfl, rfl, rfl, rfl, rfl⟩, rfl⟩ := open_flg g2
    obtain ⟨X, ⟨rfl, rfl, rfl, rfl, rfl, rfl, rfl, rfl⟩, rfl, w3⟩ := open_arru64 g3
    simp only [Prod.mk.injEq] at hx
    exact ⟨⟨R, ip, c, p, z, s, o, d, X⟩, rfl, by simpa [staD] using hx.1, by simpa using hx.2, w0, w1, w3⟩
set_option maxRecDepth 10000 in
theorem shut_sta (S : Sta) (h : WfS S) : DataW.Trod enc Try.prog w base spare held 29 (staV S) (staD H S) [] := by
  obtain ⟨hr, hi, hx⟩ := h
  have r0 := hr 0 (by decide)
  have x0 := hx 0 (by decide)
  have r1 := hr 1 (by decide)
  have x1 := hx 1 (by decide)
  have r2 := hr 2 (by decide)
  have x2 := hx 2 (by decide)
  have r3 := hr 3 (by decide)
  have x3 := hx 3 (by decide)
  have r4 := hr 4 (by decide)
  have x4 := hx 4 (by decide)
  have r5 := hr 5 (by decide)
  have x5 := hx 5 (by decide)
  have r6 := hr 6 (by decide)
  have x6 := hx 6 (by decide)
  have r7 := hr 7 (by decide)
  have x7 := hx 7 (by decide)
  exact ⟨4, by simp [staD, arrD, flgD, staV, staL, DataW.trod, Value.cells, List.range, List.range.loop, Try.underlying29, Try.underlying25, Try.underlying23, Try.underlying27, Try.underlying4, Try.underlying22, Try.underlying26, cell_b, cell_u4, cell_u8, cell_fl, cell_a4, cell_a8, cell_st, hi, r0, x0, r1, x1, r2, x2, r3, x3, r4, x4, r5, x5, r6, x6, r7, x7]⟩
end
end Go.Proofs.Ytbbegbaaefgikaa
