/- What lies just within a segment at the end of memory, and that none goes round. -/
import Derived.Test.YtfnbnhgcjpfdhaaKnown7
import Derived.Test.YtfnbnhgcjpfdhaaCells
import Derived.Test.YtfnbnhgcjpfdhaaShut
namespace Go.Proofs.Ytfnbnhgcjpfdhaa
open Go.ChangeShapes Go.WideShapes Go.ChangeAt Go.RowKit

theorem edge_yes (g z off n what : Int) (hg : g + z = 4294967296) (hn : 1 ≤ n) (hn' : n ≤ 16) (ho : off + n ≤ z) (hw : what = 0 ∨ what = 1 ∨ what = 2) : atV g z true true true off n what = g + off ∧ atE g z true true true off n what = 0 := by
  have hm : mayB true true true what = true := by rcases hw with rfl | rfl | rfl <;> rfl
  have hf : fitB g z off n = true := by unfold fitB segR; rw [clampN_id n hn hn', decide_eq_true (by omega), decide_eq_true ho]; rfl
  unfold atV atE
  rw [hm, hf]
  exact ⟨rfl, rfl⟩
theorem edge_no (g z off n what : Int) (hn : 1 ≤ n) (hn' : n ≤ 16) (ho : z < off + n ∨ 4294967296 < g + z) (hw : what = 0 ∨ what = 1 ∨ what = 2) : atV g z true true true off n what = 0 ∧ atE g z true true true off n what = 24 := by
  have hm : mayB true true true what = true := by rcases hw with rfl | rfl | rfl <;> rfl
  have hf : fitB g z off n = false := by
    unfold fitB segR; rw [clampN_id n hn hn']
    rcases ho with ho | ho
    · rw [decide_eq_false (p := off + n ≤ z) (by omega), Bool.and_false]
    · rw [decide_eq_false (p := g + z ≤ 4294967296) (by omega), Bool.false_and]
  unfold atV atE
  rw [hm, hf]
  exact ⟨rfl, rfl⟩
set_option maxHeartbeats 2000000 in
theorem segedges_walk (m n off : Int) (w : World) (m0 : 0 ≤ m) (m1 : m < 65536) (n0 : 0 ≤ n) (n1 : n < 256) (o0 : 0 ≤ off) (o1 : off < 4294967296) :
    Calls Try.prog 6 #[.int .u16 m, .int .u8 n, .int .u32 off] w fun e w' => e = .returned (.bool true) ∧ Below w.heap.size w w' := by
  obtain ⟨j, hj⟩ : ∃ j : Nat, n % 16 = j := ⟨(n % 16).toNat, by omega⟩
  have hj16 : j < 16 := by omega
  go_enter Try.func6, Try.ntmps6
  go_wp2_with fail
  refine (known7_any _).mono ?_
  rintro e w0 ⟨rfl, B0⟩
  go_wp2_with fail
  have B1 : Below w.heap.size w w0 := B0
  obtain ⟨g, hg⟩ : ∃ g, g = -(m + 16) % 4294967296 := ⟨_, rfl⟩
  rw [← hg]
  have hg' : g + (m + 16) = 4294967296 := by omega
  have g0 : 0 ≤ g := by omega
  have g1 : g < 4294967296 := by omega
  have hpk : (g + (m + 16 - ((j : Int) + 1)) == -((j : Int) + 1) % 4294967296) = true := by rw [beq_iff_eq]; omega
  obtain ⟨v1, x1⟩ := edge_yes g (m + 16) (m + 16 - ((j : Int) + 1)) ((j : Int) + 1) 1 hg' (by omega) (by omega) (by omega) (by omega)
  obtain ⟨v2, x2⟩ := edge_no g (m + 16) (m + 16 - ((j : Int) + 1) + 1) ((j : Int) + 1) 1 (by omega) (by omega) (by omega) (by omega)
  obtain ⟨v3, x3⟩ := edge_no g (m + 16) (4294967295 - off % 16) ((j : Int) + 1) 2 (by omega) (by omega) (by omega) (by omega)
  obtain ⟨v4, x4⟩ := edge_no g (m + 16 + 1) 0 1 0 (by omega) (by omega) (by omega) (by omega)
  have y1 : segR g (m + 16) = true := by unfold segR; rw [decide_eq_true (by omega)]
  have y2 : segR g (m + 16 + 1) = false := by unfold segR; rw [decide_eq_false (by omega)]
  have p1 : 0 ≤ m + 16 - ((j : Int) + 1) := by omega
  have p2 : 0 ≤ g + (m + 16 - ((j : Int) + 1)) := by omega
  have p3 : g + (m + 16 - ((j : Int) + 1)) < 4294967296 := by omega
  clear hg hj hg'
  have c1 := sat_any g (m + 16) true true true (m + 16 - ((j : Int) + 1)) ((j : Int) + 1) 1 g0 g1 (by omega) (by omega) (by omega) (by omega)
  have c2 := sat_any g (m + 16) true true true (m + 16 - ((j : Int) + 1) + 1) ((j : Int) + 1) 1 g0 g1 (by omega) (by omega) (by omega) (by omega)
  have c3 := sat_any g (m + 16) true true true (4294967295 - off % 16) ((j : Int) + 1) 2 g0 g1 (by omega) (by omega) (by omega) (by omega)
  have c4 := sat_any g (m + 16 + 1) true true true 0 1 0 g0 g1 (by omega) (by omega) (by omega) (by omega)
  have c5 := sright_any g (m + 16) true true true g0 g1 (by omega) (by omega)
  have c6 := sright_any g (m + 16 + 1) true true true g0 g1 (by omega) (by omega)
  rw [v1, x1] at c1
  rw [v2, x2] at c2
  rw [v3, x3] at c3
  rw [v4, x4] at c4
  rw [y1] at c5
  rw [y2] at c6
  clear v1 v2 v3 v4 x1 x2 x3 x4 y1 y2
  have hp : g + (m + 16 - ((j : Int) + 1)) = g + (m + 16 - ((j : Int) + 1)) := rfl
  generalize g + (m + 16 - ((j : Int) + 1)) = P at *
  clear hp
  have B2 : Below w.heap.size w (w0.alloc (.cells #[.int .u32 g, .int .u32 (m + 16), .bool true, .bool true, .bool true] 24)) := below_last B1 _
  have q0 : (w0.alloc (.cells #[.int .u32 g, .int .u32 (m + 16), .bool true, .bool true, .bool true] 24)).cell? ⟨w0.heap.size, 0, none⟩ = some (.int .u32 g) := by simp
  have q1 : (w0.alloc (.cells #[.int .u32 g, .int .u32 (m + 16), .bool true, .bool true, .bool true] 24)).cell? ⟨w0.heap.size, 1, none⟩ = some (.int .u32 (m + 16)) := by simp
  have q2 : (w0.alloc (.cells #[.int .u32 g, .int .u32 (m + 16), .bool true, .bool true, .bool true] 24)).cell? ⟨w0.heap.size, 2, none⟩ = some (.bool true) := by simp
  have q3 : (w0.alloc (.cells #[.int .u32 g, .int .u32 (m + 16), .bool true, .bool true, .bool true] 24)).cell? ⟨w0.heap.size, 3, none⟩ = some (.bool true) := by simp
  have q4 : (w0.alloc (.cells #[.int .u32 g, .int .u32 (m + 16), .bool true, .bool true, .bool true] 24)).cell? ⟨w0.heap.size, 4, none⟩ = some (.bool true) := by simp
  have hb0 : w.heap.size ≤ w0.heap.size := B1.size
  generalize w0.alloc (.cells #[.int .u32 g, .int .u32 (m + 16), .bool true, .bool true, .bool true] 24) = W at *
  generalize w0.heap.size = blk at *
  clear B0 B1
  refine (c1 _).mono ?_
  rintro e W1 ⟨rfl, hb1⟩
  have q0_1 := cell_call hb1 q0
  have q1_1 := cell_call hb1 q1
  have q2_1 := cell_call hb1 q2
  have q3_1 := cell_call hb1 q3
  have q4_1 := cell_call hb1 q4
  have D1 := B2.trans (hb1.mono B2.size)
  clear q0 q1 q2 q3 q4
  go_wp2_with fail
  refine (c2 _).mono ?_
  rintro e W2 ⟨rfl, hb2⟩
  have q0_2 := cell_call hb2 q0_1
  have q1_2 := cell_call hb2 q1_1
  have q2_2 := cell_call hb2 q2_1
  have q3_2 := cell_call hb2 q3_1
  have q4_2 := cell_call hb2 q4_1
  have D2 := D1.trans (hb2.mono D1.size)
  clear q0_1 q1_1 q2_1 q3_1 q4_1
  go_wp2_with fail
  refine (c3 _).mono ?_
  rintro e W3 ⟨rfl, hb3⟩
  have q0_3 := cell_call hb3 q0_2
  have q1_3 := cell_call hb3 q1_2
  have q2_3 := cell_call hb3 q2_2
  have q3_3 := cell_call hb3 q3_2
  have q4_3 := cell_call hb3 q4_2
  have D3 := D2.trans (hb3.mono D2.size)
  clear q0_2 q1_2 q2_2 q3_2 q4_2
  go_wp2_with fail
  refine (c4 _).mono ?_
  rintro e W4 ⟨rfl, hb4⟩
  have q0_4 := cell_next hb4 q0_3
  have q1_4 := cell_next hb4 q1_3
  have q2_4 := cell_next hb4 q2_3
  have q3_4 := cell_next hb4 q3_3
  have q4_4 := cell_next hb4 q4_3
  have t0_4 : W4.cell? ⟨W3.heap.size, 0, none⟩ = some (.int .u32 g) := by rw [hb4.cell (by simp)]; simp
  have t1_4 : W4.cell? ⟨W3.heap.size, 1, none⟩ = some (.int .u32 (m + 16 + 1)) := by rw [hb4.cell (by simp)]; simp
  have t2_4 : W4.cell? ⟨W3.heap.size, 2, none⟩ = some (.bool true) := by rw [hb4.cell (by simp)]; simp
  have t3_4 : W4.cell? ⟨W3.heap.size, 3, none⟩ = some (.bool true) := by rw [hb4.cell (by simp)]; simp
  have t4_4 : W4.cell? ⟨W3.heap.size, 4, none⟩ = some (.bool true) := by rw [hb4.cell (by simp)]; simp
  have D4 := below_next D3 hb4
  clear q0_3 q1_3 q2_3 q3_3 q4_3
  generalize W3.heap.size = blt at *
  go_wp2_with fail
  refine (c5 _).mono ?_
  rintro e W5 ⟨rfl, hb5⟩
  have t0_5 := cell_call hb5 t0_4
  have t1_5 := cell_call hb5 t1_4
  have t2_5 := cell_call hb5 t2_4
  have t3_5 := cell_call hb5 t3_4
  have t4_5 := cell_call hb5 t4_4
  have D5 := D4.trans (hb5.mono D4.size)
  clear t0_4 t1_4 t2_4 t3_4 t4_4 q0_4 q1_4 q2_4 q3_4 q4_4
  go_wp2_with fail
  refine (c6 _).mono ?_
  rintro e W6 ⟨rfl, hb6⟩
  have D6 := D5.trans (hb6.mono D5.size)
  clear t0_5 t1_5 t2_5 t3_5 t4_5
  go_wp2_with fail
  go_ret
  exact ⟨rfl, D6⟩

theorem segEdges_own : ownKnob Try.prog.godebug = none := by kernel_rfl
set_option maxRecDepth 100000 in
theorem segEdges_lifted (os : Os) (started : os.Started) (H : Type) (enc : TypeId × Value → H) :
    ReturnsInHanded {} Try.checked os 6 .any (Rows.segEdgesSpec.pre6 enc Try.prog Try.f6 Rows.segEdgesRow.domain false) (Rows.segEdgesSpec.post enc Try.prog Try.f6 false true false false) := by
  refine returnsInHanded_of_change (C := Try.checked) segEdges_own started (by kernel_rfl) Try.func6
    (ChangeSpec.witness6 (enc := enc) (C := Try.checked) false ⟨#[], #[.int .u16 0, .int .u8 0, .int .u32 0], []⟩ 8 (by kernel_rfl) (by kernel_rfl) (by kernel_rfl) (by kernel_rfl)) ?_
  intro W base args ds gs before hval0 hW hcnd _
  have hval : ∀ (j : Nat) t v, Try.f6.params[j]? = some t → args[j]? = some v → Value.okWide Try.prog W .any base t v := hval0
  have hW' := hW
  obtain ⟨p, q, hA0, hV, rfl, hfz, hnd⟩ := hW
  have hA : DataW.TrodAll enc Try.prog W 0 (fun _ => true) true Try.f6.params.toList args.toList ds p := hA0
  rw [Try.params6] at hA hval
  obtain ⟨v0, vs0, d0, ds0, p0, q0, hargs, rfl, rfl, h0, r0⟩ := trodAll_cons hA
  obtain ⟨v1, vs1, d1, ds1, p1, q1, rfl, rfl, rfl, h1, r1⟩ := trodAll_cons r0
  obtain ⟨v2, vs2, d2, ds2, p2, q2, rfl, rfl, rfl, h2, r2⟩ := trodAll_cons r1
  obtain ⟨rfl, rfl, rfl⟩ := trodAll_nil r2
  obtain rfl : args = #[v0, v1, v2] := by cases args; simp_all
  obtain ⟨rfl, rfl⟩ := trodVars_none hV
  obtain ⟨a0, rfl, rfl, rfl, w0⟩ := open_int Try.underlying40 (hval 0 40 v0 rfl rfl) h0
  obtain ⟨a1, rfl, rfl, rfl, w1⟩ := open_int Try.underlying5 (hval 1 5 v1 rfl rfl) h1
  obtain ⟨a2, rfl, rfl, rfl, w2⟩ := open_int Try.underlying22 (hval 2 22 v2 rfl rfl) h2
  clear hA0 hval0
  simp only [List.append_nil] at hW'
  have b0 : 0 ≤ a0 ∧ a0 < 65536 := by
    have h := w0
    simp only [Lit.wf, Bool.and_eq_true, decide_eq_true_eq] at h
    have e1 : IntKind.u16.min = 0 := by decide
    have e2 : IntKind.u16.max = 65535 := by decide
    omega
  have b1 : 0 ≤ a1 ∧ a1 < 256 := by
    have h := w1
    simp only [Lit.wf, Bool.and_eq_true, decide_eq_true_eq] at h
    have e1 : IntKind.u8.min = 0 := by decide
    have e2 : IntKind.u8.max = 255 := by decide
    omega
  have b2 : 0 ≤ a2 ∧ a2 < 4294967296 := by
    have h := w2
    simp only [Lit.wf, Bool.and_eq_true, decide_eq_true_eq] at h
    have e1 : IntKind.u32.min = 0 := by decide
    have e2 : IntKind.u32.max = 4294967295 := by decide
    omega
  refine (segedges_walk a0 a1 a2 W b0.1 b0.2 b1.1 b1.2 b2.1 b2.2).mono fun e W' ⟨he, hg⟩ => ?_
  subst he
  exact ⟨_, rfl, post_plain hW' hg (fun sp => (trodAll_cons_mk (shut_int Try.underlying40 w0) (trodAll_cons_mk (shut_int Try.underlying5 w1) (trodAll_cons_mk (shut_int Try.underlying22 w2) trodAll_mk0)))) (fun _ => rfl)
    (fun _ _ _ => (trodAll_cons_mk (shut_bool Try.underlying4 _) trodAll_mk0)) (ok_one (by kernel_rfl) rfl (okWide_bool_mk Try.underlying4 _))⟩

theorem segEdges_holds : Rows.SegEdgesSaid :=
  OpenClaim.holds_of_wide 6 Try.f6 rfl rfl rfl rfl rfl rfl rfl ⟨rfl, rfl, rfl, rfl, rfl⟩ rfl rfl rfl rfl rfl (by kernel_rfl) Try.func6 (by kernel_rfl)
    (of_decide_eq_true (by kernel_rfl)) (by unfold Func.isWrapper; first | (rw [if_pos (by decide +kernel)]; kernel_rfl) | (rw [if_neg (by decide +kernel)]; exact ⟨rfl, rfl⟩))
    (fun os started H enc _ => segEdges_lifted os started H enc)
#print axioms segEdges_holds
end Go.Proofs.Ytfnbnhgcjpfdhaa
