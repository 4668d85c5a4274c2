import Derived.DeepKeys
import Derived.ProofKit
import Derived.Laws.StructEq
import Derived.BigQuiet
import Derived.Deep.QuietTactic
import Derived.Deep.MidRow
import Derived.Great.BuildSlice
import Derived.Test.YtbbegbaaefgikaaKTD
namespace Go.Proofs.Ytbbegbaaefgikaa
section
open Go.ChangeShapes Go.WideShapes Go.ChangeAt Go.RowKit
set_option maxRecDepth 100000
theorem cell_b : Try.prog.cellsOf 4 = 1 := by kernel_rfl
theorem cell_u4 : Try.prog.cellsOf 22 = 1 := by kernel_rfl
theorem cell_u8 : Try.prog.cellsOf 26 = 1 := by kernel_rfl
theorem cell_fl : Try.prog.cellsOf 25 = 6 := by kernel_rfl
theorem cell_a4 : Try.prog.cellsOf 23 = 8 := by kernel_rfl
theorem cell_a8 : Try.prog.cellsOf 27 = 8 := by kernel_rfl
theorem cell_st : Try.prog.cellsOf 29 = 23 := by kernel_rfl
def arrD (H : Type) (k : IntKind) (f : Nat → Int) : DataW H := .agg [.lit (.int k (f 0)), .lit (.int k (f 1)), .lit (.int k (f 2)), .lit (.int k (f 3)), .lit (.int k (f 4)), .lit (.int k (f 5)), .lit (.int k (f 6)), .lit (.int k (f 7))]
def flgD (H : Type) (c p z s o d : Bool) : DataW H := .agg [.lit (.bool c), .lit (.bool p), .lit (.bool z), .lit (.bool s), .lit (.bool o), .lit (.bool d)]
def staD (H : Type) (s : Sta) : DataW H := .agg [arrD H .u32 s.r, .lit (.int .u32 s.ip), flgD H s.c s.p s.z s.s s.o s.d, arrD H .u64 s.x]
structure WfS (s : Sta) : Prop where
  r : ∀ i, i < 8 → (.int .u32 (s.r i) : Lit).wf = true
  ip : (.int .u32 s.ip : Lit).wf = true
  x : ∀ i, i < 8 → (.int .u64 (s.x i) : Lit).wf = true
section
variable {H : Type} {enc : TypeId × Value → H} {w : World} {base : Nat} {spare : Nat → Bool} {held : Bool}
theorem open_arru32 {n : Nat} {c0 c1 c2 c3 c4 c5 c6 c7 : Value} {y : DataW H × List MemPlace} (h : DataW.trod enc Try.prog w base spare held n 23 [c0, c1, c2, c3, c4, c5, c6, c7] = some y) : ∃ f : Nat → Int, (c0 = .int .u32 (f 0) ∧ c1 = .int .u32 (f 1) ∧ c2 = .int .u32 (f 2) ∧ c3 = .int .u32 (f 3) ∧ c4 = .int .u32 (f 4) ∧ c5 = .int .u32 (f 5) ∧ c6 = .int .u32 (f 6) ∧ c7 = .int .u32 (f 7)) ∧ y = (arrD H .u32 f, []) ∧ ∀ i, i < 8 → (.int .u32 (f i) : Lit).wf = true := by
  obtain ⟨xs, m, _, hx, _, hlen, hg⟩ := DataW.trod_array Try.underlying23 h
  match xs, hlen with
  | [y0, y1, y2, y3, y4, y5, y6, y7], _ =>
    have g0 := hg 0 (by decide)
    have g1 := hg 1 (by decide)
    have g2 := hg 2 (by decide)
    have g3 := hg 3 (by decide)
    have g4 := hg 4 (by decide)
    have g5 := hg 5 (by decide)
    have g6 := hg 6 (by decide)
    have g7 := hg 7 (by decide)
    simp [cell_u4] at g0 g1 g2 g3 g4 g5 g6 g7
    obtain ⟨a0, e0, rfl, w0⟩ := DataW.trod_int Try.underlying22 g0
    injection e0 with e0 _; subst e0
    obtain ⟨a1, e1, rfl, w1⟩ := DataW.trod_int Try.underlying22 g1
    injection e1 with e1 _; subst e1
    obtain ⟨a2, e2, rfl, w2⟩ := DataW.trod_int Try.underlying22 g2
    injection e2 with e2 _; subst e2
    obtain ⟨a3, e3, rfl, w3⟩ := DataW.trod_int Try.underlying22 g3
    injection e3 with e3 _; subst e3
    obtain ⟨a4, e4, rfl, w4⟩ := DataW.trod_int Try.underlying22 g4
    injection e4 with e4 _; subst e4
    obtain ⟨a5, e5, rfl, w5⟩ := DataW.trod_int Try.underlying22 g5
    injection e5 with e5 _; subst e5
    obtain ⟨a6, e6, rfl, w6⟩ := DataW.trod_int Try.underlying22 g6
    injection e6 with e6 _; subst e6
    obtain ⟨a7, e7, rfl, w7⟩ := DataW.trod_int Try.underlying22 g7
    injection e7 with e7 _; subst e7
    refine ⟨fun i => [a0, a1, a2, a3, a4, a5, a6, a7].getD i 0, ⟨rfl, rfl, rfl, rfl, rfl, rfl, rfl, rfl⟩, by rw [hx]; rfl, fun i hi => ?_⟩
    rcases (show i = 0 ∨ i = 1 ∨ i = 2 ∨ i = 3 ∨ i = 4 ∨ i = 5 ∨ i = 6 ∨ i = 7 by omega) with rfl | rfl | rfl | rfl | rfl | rfl | rfl | rfl
    · exact w0
    · exact w1
    · exact w2
    · exact w3
    · exact w4
    · exact w5
    · exact w6
    · exact w7
theorem open_arru64 {n : Nat} {c0 c1 c2 c3 c4 c5 c6 c7 : Value} {y : DataW H × List MemPlace} (h : DataW.trod enc Try.prog w base spare held n 27 [c0, c1, c2, c3, c4, c5, c6, c7] = some y) : ∃ f : Nat → Int, (c0 = .int .u64 (f 0) ∧ c1 = .int .u64 (f 1) ∧ c2 = .int .u64 (f 2) ∧ c3 = .int .u64 (f 3) ∧ c4 = .int .u64 (f 4) ∧ c5 = .int .u64 (f 5) ∧ c6 = .int .u64 (f 6) ∧ c7 = .int .u64 (f 7)) ∧ y = (arrD H .u64 f, []) ∧ ∀ i, i < 8 → (.int .u64 (f i) : Lit).wf = true := by
  obtain ⟨xs, m, _, hx, _, hlen, hg⟩ := DataW.trod_array Try.underlying27 h
  match xs, hlen with
  | [y0, y1, y2, y3, y4, y5, y6, y7], _ =>
    have g0 := hg 0 (by decide)
    have g1 := hg 1 (by decide)
    have g2 := hg 2 (by decide)
    have g3 := hg 3 (by decide)
    have g4 := hg 4 (by decide)
    have g5 := hg 5 (by decide)
    have g6 := hg 6 (by decide)
    have g7 := hg 7 (by decide)
    simp [cell_u8] at g0 g1 g2 g3 g4 g5 g6 g7
    obtain ⟨a0, e0, rfl, w0⟩ := DataW.trod_int Try.underlying26 g0
    injection e0 with e0 _; subst e0
    obtain ⟨a1, e1, rfl, w1⟩ := DataW.trod_int Try.underlying26 g1
    injection e1 with e1 _; subst e1
    obtain ⟨a2, e2, rfl, w2⟩ := DataW.trod_int Try.underlying26 g2
    injection e2 with e2 _; subst e2
    obtain ⟨a3, e3, rfl, w3⟩ := DataW.trod_int Try.underlying26 g3
    injection e3 with e3 _; subst e3
    obtain ⟨a4, e4, rfl, w4⟩ := DataW.trod_int Try.underlying26 g4
    injection e4 with e4 _; subst e4
    obtain ⟨a5, e5, rfl, w5⟩ := DataW.trod_int Try.underlying26 g5
    injection e5 with e5 _; subst e5
    obtain ⟨a6, e6, rfl, w6⟩ := DataW.trod_int Try.underlying26 g6
    injection e6 with e6 _; subst e6
    obtain ⟨a7, e7, rfl, w7⟩ := DataW.trod_int Try.underlying26 g7
    injection e7 with e7 _; subst e7
    refine ⟨fun i => [a0, a1, a2, a3, a4, a5, a6, a7].getD i 0, ⟨rfl, rfl, rfl, rfl, rfl, rfl, rfl, rfl⟩, by rw [hx]; rfl, fun i hi => ?_⟩
    rcases (show i = 0 ∨ i = 1 ∨ i = 2 ∨ i = 3 ∨ i = 4 ∨ i = 5 ∨ i = 6 ∨ i = 7 by omega) with rfl | rfl | rfl | rfl | rfl | rfl | rfl | rfl
    · exact w0
    · exact w1
    · exact w2
    · exact w3
    · exact w4
    · exact w5
    · exact w6
    · exact w7
theorem open_flg {n : Nat} {k0 k1 k2 k3 k4 k5 : Value} {y : DataW H × List MemPlace} (h : DataW.trod enc Try.prog w base spare held n 25 [k0, k1, k2, k3, k4, k5] = some y) : ∃ c p z s o d : Bool, (k0 = .bool c ∧ k1 = .bool p ∧ k2 = .bool z ∧ k3 = .bool s ∧ k4 = .bool o ∧ k5 = .bool d) ∧ y = (flgD H c p z s o d, []) := by
  obtain ⟨xs, m, _, hx, _, hlen, hg⟩ := DataW.trod_struct Try.underlying25 h
  match xs, hlen with
  | [y0, y1, y2, y3, y4, y5], _ =>
    have g0 := hg 0 _ rfl
    have g1 := hg 1 _ rfl
    have g2 := hg 2 _ rfl
    have g3 := hg 3 _ rfl
    have g4 := hg 4 _ rfl
    have g5 := hg 5 _ rfl
    simp [cell_b] at g0 g1 g2 g3 g4 g5
    obtain ⟨b0, e0, rfl⟩ := DataW.trod_bool Try.underlying4 g0
    injection e0 with e0 _; subst e0
    obtain ⟨b1, e1, rfl⟩ := DataW.trod_bool Try.underlying4 g1
    injection e1 with e1 _; subst e1
    obtain ⟨b2, e2, rfl⟩ := DataW.trod_bool Try.underlying4 g2
    injection e2 with e2 _; subst e2
    obtain ⟨b3, e3, rfl⟩ := DataW.trod_bool Try.underlying4 g3
    injection e3 with e3 _; subst e3
    obtain ⟨b4, e4, rfl⟩ := DataW.trod_bool Try.underlying4 g4
    injection e4 with e4 _; subst e4
    obtain ⟨b5, e5, rfl⟩ := DataW.trod_bool Try.underlying4 g5
    injection e5 with e5 _; subst e5
    exact ⟨b0, b1, b2, b3, b4, b5, ⟨rfl, rfl, rfl, rfl, rfl, rfl⟩, by rw [hx]; rfl⟩
set_option maxRecDepth 10000
theorem open_sta {r : Reach} {b0 : Nat} {v : Value} {x : DataW H} {ps : List MemPlace} (hv : Value.okWide Try.prog w r b0 29 v) (h : DataW.Trod enc Try.prog w base spare held 29 v x ps) :
    ∃ S : Sta, v = staV S ∧ x = staD H S ∧ ps = [] ∧ WfS S := by
  obtain ⟨cs, rfl, hsz⟩ := okWide_struct Try.underlying29 hv
  obtain ⟨fuel, hf⟩ := h
  obtain ⟨xs, n, _, hx, _, hlen, hg⟩ := DataW.trod_struct Try.underlying29 hf
  obtain ⟨l⟩ := cs
  match l, hsz.trans cell_st, xs, hlen with
  | [k0, k1, k2, k3, k4, k5, k6, k7, k8, k9, k10, k11, k12, k13, k14, k15, k16, k17, k18, k19, k20, k21, k22], _, [y0, y1, y2, y3], _ =>
    have g0 := hg 0 _ rfl
    have g1 := hg 1 _ rfl
    have g2 := hg 2 _ rfl
    have g3 := hg 3 _ rfl
    simp [Value.cells, cell_a4, cell_a8, cell_u4, cell_fl] at g0 g1 g2 g3
    obtain ⟨R, ⟨rfl, rfl, rfl, rfl, rfl, rfl, rfl, rfl⟩, rfl, w0⟩ := open_arru32 g0
    obtain ⟨ip, e1, rfl, w1⟩ := DataW.trod_int Try.underlying22 g1
    injection e1 with e1 _; subst e1
    obtain ⟨c, p, z, s, o, d, ⟨rfl, rfl, rfl, rfl, rfl, rfl⟩, rfl⟩ := open_flg g2
    obtain ⟨X, ⟨rfl, rfl, rfl, rfl, rfl, rfl, rfl, rfl⟩, rfl, w3⟩ := open_arru64 g3
    simp only [Prod.mk.injEq] at hx
    exact ⟨⟨R, ip, c, p, z, s, o, d, X⟩, rfl, by simpa [staD] using hx.1, by simpa using hx.2, w0, w1, w3⟩
theorem shut_sta (S : Sta) (h : WfS S) : DataW.Trod enc Try.prog w base spare held 29 (staV S) (staD H S) [] := by
  obtain ⟨hr, hi, hx⟩ := h
  have r0 := hr 0 (by decide)
  have x0 := hx 0 (by decide)
  have r1 := hr 1 (by decide)
  have x1 := hx 1 (by decide)
  have r2 := hr 2 (by decide)
  have x2 := hx 2 (by decide)
  have r3 := hr 3 (by decide)
  have x3 := hx 3 (by decide)
  have r4 := hr 4 (by decide)
  have x4 := hx 4 (by decide)
  have r5 := hr 5 (by decide)
  have x5 := hx 5 (by decide)
  have r6 := hr 6 (by decide)
  have x6 := hx 6 (by decide)
  have r7 := hr 7 (by decide)
  have x7 := hx 7 (by decide)
  exact ⟨4, by simp [staD, arrD, flgD, staV, staL, DataW.trod, Value.cells, List.range, List.range.loop, Try.underlying29, Try.underlying25, Try.underlying23, Try.underlying27, Try.underlying4, Try.underlying22, Try.underlying26, cell_b, cell_u4, cell_u8, cell_fl, cell_a4, cell_a8, cell_st, hi, r0, x0, r1, x1, r2, x2, r3, x3, r4, x4, r5, x5, r6, x6, r7, x7]⟩
end
end
section
open Go.ChangeShapes Go.WideShapes Go.ChangeAt Go.RowKit
set_option maxRecDepth 100000
def litS (s : Sta) : List Lit := [.int .u32 (s.r 0), .int .u32 (s.r 1), .int .u32 (s.r 2), .int .u32 (s.r 3), .int .u32 (s.r 4), .int .u32 (s.r 5), .int .u32 (s.r 6), .int .u32 (s.r 7), .int .u32 s.ip, .bool s.c, .bool s.p, .bool s.z, .bool s.s, .bool s.o, .bool s.d, .int .u64 (s.x 0), .int .u64 (s.x 1), .int .u64 (s.x 2), .int .u64 (s.x 3), .int .u64 (s.x 4), .int .u64 (s.x 5), .int .u64 (s.x 6), .int .u64 (s.x 7)]
theorem eq_deep {t : TypeId} (hk : Try.prog.keyTypeAt 4 t = true) {a b : Value} {la lb : List Lit} (fa : a.formed Try.prog t = true) (fb : b.formed Try.prog t = true) (ha : Try.prog.keyLits 4 t a.cells.toList = some la) (hb : Try.prog.keyLits 4 t b.cells.toList = some lb) (w : World) : ∃ r : Bool, (Op.equalIn 10000 t a b).run Try.prog w = .ok r w ∧ (r = true ↔ la = lb) := by
  rw [show (10000 : Nat) = 9996 + 4 from rfl]
  exact run_equalIn_deep (P := Try.prog) 9996 4 t hk w 4 4 a b la lb fa fb ha hb
theorem sta_key : Try.prog.keyTypeAt 4 29 = true := by kernel_rfl
theorem sta_form (s : Sta) : (staV s).formed Try.prog 29 = true := by kernel_rfl
set_option maxRecDepth 10000
theorem sta_lits (s : Sta) (h : WfS s) : Try.prog.keyLits 4 29 (staV s).cells.toList = some (litS s) := by
  obtain ⟨hr, hi, hx⟩ := h
  have r0 := hr 0 (by decide)
  have x0 := hx 0 (by decide)
  have r1 := hr 1 (by decide)
  have x1 := hx 1 (by decide)
  have r2 := hr 2 (by decide)
  have x2 := hx 2 (by decide)
  have r3 := hr 3 (by decide)
  have x3 := hx 3 (by decide)
  have r4 := hr 4 (by decide)
  have x4 := hx 4 (by decide)
  have r5 := hr 5 (by decide)
  have x5 := hx 5 (by decide)
  have r6 := hr 6 (by decide)
  have x6 := hx 6 (by decide)
  have r7 := hr 7 (by decide)
  have x7 := hx 7 (by decide)
  simp [litS, staV, staL, Program.keyLits, Value.cells, List.range, List.range.loop, Try.underlying29, Try.underlying25, Try.underlying23, Try.underlying27, Try.underlying4, Try.underlying22, Try.underlying26, cell_b, cell_u4, cell_u8, cell_fl, cell_a4, cell_a8, cell_st, hi, r0, x0, r1, x1, r2, x2, r3, x3, r4, x4, r5, x5, r6, x6, r7, x7]
  repeat' split
  all_goals first
    | rfl
    | (rename_i h; exact absurd (fun i hi => by rcases (show i = 0 ∨ i = 1 ∨ i = 2 ∨ i = 3 ∨ i = 4 ∨ i = 5 by omega) with rfl | rfl | rfl | rfl | rfl | rfl <;> simp) h)
    | (rename_i h; exact absurd (fun i hi => by rcases (show i = 0 ∨ i = 1 ∨ i = 2 ∨ i = 3 by omega) with rfl | rfl | rfl | rfl <;> simp) h)
set_option maxRecDepth 512
theorem sta_eqR (w : World) (s t : Sta) (hs : WfS s) (ht : WfS t) : ∃ r : Bool, (binOp .eql 29 (staV s) (staV t)).run Try.prog w = .ok (.bool r) w ∧ (r = true ↔ litS s = litS t) := by
  obtain ⟨r, hr, hi⟩ := eq_deep sta_key (sta_form s) (sta_form t) (sta_lits s hs) (sta_lits t ht) w
  refine ⟨r, ?_, hi⟩
  show (binOp .eql 29 (.agg (staL s).toArray) (.agg (staL t).toArray)).run Try.prog w = _
  rw [run_eql_struct]
  show ((Op.equalIn 10000 29 (staV s) (staV t)).run Try.prog w).andThen _ = _
  rw [hr]
  rfl
end
section
open Go
set_option maxRecDepth 100000
section
variable {P : Program} {C : World → Prop} {K : Act → Prop} {a : Act} {d : Option Tmp} {ty : TypeId} {pos : String} {af : Array Edge} {g : Option (Nat × Bool)}
theorem run_mv (v : Value) (u : World) : (execOp a.eval (Oper.mk d (.move (.const v)) ty pos af g)).run P u = .ok (.value v) u := by
  unfold execOp
  simp [Act.eval]
theorem quietC_val (op : Op) (v : Value) (h : ∀ u, C u → (execOp a.eval (Oper.mk d op ty pos af g)).run P u = .ok (.value v) u) (hK : (Oper.mk d (.move (.const v)) ty pos af g).quiet P a C K) : (Oper.mk d op ty pos af g).quiet P a C K := by
  obtain ⟨v', h1, h2⟩ := hK
  by_cases hne : ∃ u, C u
  · obtain ⟨u, hu⟩ := hne
    have h3 := h1 u hu
    unfold Oper.quietAt at h3
    rw [run_mv] at h3
    obtain ⟨_, rfl⟩ := h3
    exact ⟨_, fun u hu => by unfold Oper.quietAt; rw [h u hu]; exact ⟨rfl, rfl⟩, h2⟩
  · exact ⟨v', fun u hu => absurd ⟨u, hu⟩ hne, h2⟩
theorem quietC_call (f : FuncId) (ags : Array Operand) (ts : Array TypeId) (args : Array Value) (v : Value) (h : ∀ u, C u → (execOp a.eval (Oper.mk d (.call { callee := .value (.func f), args := ags, argTypes := ts }) ty pos af g)).run P u = .ok (.enter f args) u) (hc : ∀ u, C u → Calls P f args u fun e u' => e = .returned v ∧ C u') (hK : (Oper.mk d (.move (.const v)) ty pos af g).quiet P a C K) : (Oper.mk d (.call { callee := .value (.func f), args := ags, argTypes := ts }) ty pos af g).quiet P a C K := by
  obtain ⟨v', h1, h2⟩ := hK
  by_cases hne : ∃ u, C u
  · obtain ⟨u, hu⟩ := hne
    have h3 := h1 u hu
    unfold Oper.quietAt at h3
    rw [run_mv] at h3
    obtain ⟨_, rfl⟩ := h3
    exact ⟨_, fun u hu => by unfold Oper.quietAt; rw [h u hu]; exact ⟨rfl, hc u hu⟩, h2⟩
  · exact ⟨v', fun u hu => absurd ⟨u, hu⟩ hne, h2⟩
theorem quietC_read (t : TypeId) (x : Operand) (v : Value) (hl : ∀ u, C u → (Instr.loadAt t (a.eval x)).run P u = .ok v u) (hK : (Oper.mk d (.move (.const v)) ty pos af g).quiet P a C K) : (Oper.mk d (.load t x) ty pos af g).quiet P a C K :=
  quietC_val _ v (fun u hu => by
    unfold execOp
    simp only [Sem.run_bind, hl u hu, Result.andThen_ok, Sem.run_pure]) hK
theorem quietC_load (t : TypeId) (x : Operand) (b off : Nat) (hx : a.eval x = .pointer (some ⟨b, off, none⟩)) (cs : List Value) (e : TypeDesc) (hC : ∀ u, C u → u.rangeAt b off cs) (hu : P.underlying t = some e) (hd : e.isRow = true) (hi : (P.info? t).map (·.size) = some cs.length) (hK : (Oper.mk d (.move (.const (.agg cs.toArray))) ty pos af g).quiet P a C K) : (Oper.mk d (.load t x) ty pos af g).quiet P a C K :=
  quietC_read t x (.agg cs.toArray) (fun u hu' => by rw [hx]; exact run_loadAt_mid (P := P) u b off t cs e (hC u hu') hu hd hi) hK
theorem wp_region_quietC {id : Nat} {Q : Exit → Act → World → Prop} {w : World} {l : List Oper} (C : World → Prop) (hm : P.follows .mixedOrders = true) (hB : Region.lexB .any l.toArray = true) (hC : C { w with drawn := w.drawn + 1 })
    (h : wpQuiet P l.toArray C (fun a' => ∀ w', C w' → Q .normal a' w') l a) : (Code.region id l.toArray true).wp P Q a w :=
  wp_region_quiet (C := C) hm hB hC (by simpa using h)
theorem class_const {C : World → Prop} {w : World} (h : C w) (p : Prop) : (∀ u, C u → p) = p := propext ⟨fun k => k w h, fun k _ _ => k⟩
end
end
section
open Go.ChangeShapes Go.WideShapes Go.ChangeAt Go.RowKit
set_option maxRecDepth 100000
theorem sta_guard1 : Try.prog.eqGuardType Try.prog.depth 29 = false := by kernel_rfl
def getG (s : Sta) (o : Opd) : Int := if 0 ≤ o.reg ∧ o.reg ≤ 7 then getF s o else 0
def GetC (f : FuncId) : Prop := ∀ (s : Sta) (o : Opd), StaOk s → 0 ≤ o.disp → o.disp < 4294967296 → ∀ w : World, Calls Try.prog f #[staV s, opV o] w fun e w' => e = .returned (.int .u64 (getG s o)) ∧ Below w.heap.size w w'
def SetC (f : FuncId) : Prop := ∀ (s : Sta) (o : Opd) (v : Int), StaOk s → 0 ≤ v → v < 18446744073709551616 → ∀ w : World, Calls Try.prog f #[staV s, opV o, .int .u64 v] w fun e w' => e = .returned (staV (setF s o v)) ∧ Below w.heap.size w w'
theorem wf_ok {s : Sta} (h : WfS s) : StaOk s := by
  refine ⟨fun i hi => ?_, fun i hi => ?_, ?_⟩
  · have := bounds_u32 (h.r i hi); omega
  · have := bounds_u64 (h.x i hi); omega
  · have := bounds_u32 h.ip; omega
theorem ok_wf {s : Sta} (h : StaOk s) : WfS s := by
  refine ⟨fun i hi => ?_, ?_, fun i hi => ?_⟩
  · have := h.r i hi; exact WalkArith.wf_u32 (by omega)
  · have := h.ip; exact WalkArith.wf_u32 (by omega)
  · have := h.x i hi; exact WalkArith.wf_u64 (by omega)
theorem range_in13 {u : World} {B : Nat} {C : Array Value} {T : TypeId} (h : u.heap[B]? = some (.cells C T (0, 0))) (o : Nat) (cs : List Value) (hc : (C.toList.drop o).take cs.length = cs) : u.rangeAt B o cs := fun i v hi => by
  have hl := (List.getElem?_eq_some_iff.1 hi).1
  rw [(cell_block h (o + i)).1]
  rw [← hc] at hi
  simpa [List.getElem?_take, List.getElem?_drop, hl] using hi
end
section
open Go.ChangeShapes Go.WideShapes Go.ChangeAt Go.RowKit
set_option maxRecDepth 100000
def regN (s : Sta) (i : Int) : Int := if 0 ≤ i ∧ i ≤ 7 then s.r i.toNat else 0
def ofF (s : Sta) (o : Opd) : Int := (o.disp + regN s o.base + regN s o.index * o.scale) % 4294967296
theorem ofF_lo (s : Sta) (o : Opd) : 0 ≤ ofF s o := by unfold ofF; omega
theorem ofF_hi (s : Sta) (o : Opd) : ofF s o < 4294967296 := by unfold ofF; omega
theorem mul_wrap (a b : Int) : a * (b % 4294967296) % 4294967296 = a * b % 4294967296 := by
  rw [Int.mul_emod, Int.emod_emod, ← Int.mul_emod]
theorem regN_lo {s : Sta} (hs : StaOk s) (i : Int) : 0 ≤ regN s i ∧ regN s i < 4294967296 := by
  unfold regN
  split
  · exact hs.r _ (by omega)
  · omega
theorem rng_two {w u : World} {s : Sta} {o : Opd} {W : World} (hW : W = (w.alloc (.cells (staL s).toArray 29)).alloc (.cells (opL' o).toArray 32)) (hu : Below W.heap.size W u) : u.rangeAt w.heap.size 0 (staL s) ∧ u.rangeAt (w.heap.size + 1) 0 (opL' o) := by
  obtain ⟨h1, h2, _⟩ := heap_two hW
  exact ⟨range_in13 ((hu.block _ (Array.getElem?_eq_some_iff.1 h1).1).trans h1) 0 _ rfl, range_in13 ((hu.block _ (Array.getElem?_eq_some_iff.1 h2).1).trans h2) 0 _ rfl⟩
end
end Go.Proofs.Ytbbegbaaefgikaa
