/- No store changes a byte that isn't in the data segment. -/
import Derived.Test.YtkmoefgoolhegaaKnown8
import Derived.Test.YtkmoefgoolhegaaShutSeg
import Derived.Test.YtkmoefgoolhegaaRef7
namespace Go.Proofs.Ytkmoefgoolhegaa
open Go.ChangeShapes Go.WideShapes Go.ChangeAt Go.RowKit

theorem five_below {W W1 : World} {D : Nat} {x0 x1 x2 x3 x4 : Value} (hb : Below W.heap.size W W1) (h : W.cell? ⟨D, 0, none⟩ = some x0 ∧ W.cell? ⟨D, 1, none⟩ = some x1 ∧ W.cell? ⟨D, 2, none⟩ = some x2 ∧ W.cell? ⟨D, 3, none⟩ = some x3 ∧ W.cell? ⟨D, 4, none⟩ = some x4) :
    W1.cell? ⟨D, 0, none⟩ = some x0 ∧ W1.cell? ⟨D, 1, none⟩ = some x1 ∧ W1.cell? ⟨D, 2, none⟩ = some x2 ∧ W1.cell? ⟨D, 3, none⟩ = some x3 ∧ W1.cell? ⟨D, 4, none⟩ = some x4 := by
  obtain ⟨h0, h1, h2, h3, h4⟩ := h
  exact ⟨cell_call hb h0, cell_call hb h1, cell_call hb h2, cell_call hb h3, cell_call hb h4⟩
set_option maxRecDepth 100000 in
set_option maxHeartbeats 8000000 in
theorem busoutside_walk (b z : Int) (r q x : Bool) (a size v pl was : Int) (w : World) (b0 : 0 ≤ b) (b1 : b < 4294967296) (z0 : 0 ≤ z) (z1 : z < 4294967296) (a0 : 0 ≤ a) (a1 : a < 4294967296) (v0 : 0 ≤ v) (v1 : v < 18446744073709551616) (p0 : 0 ≤ pl) (p1 : pl < 4294967296) (s0 : 0 ≤ was) (s1 : was < 256) :
    Calls Try.prog 3 #[.agg #[.int .u32 b, .int .u32 z, .bool r, .bool q, .bool x], .int .u32 a, .int .i64 size, .int .u64 v, .int .u32 pl, .int .u8 was] w fun e w' => e = .returned (.bool true) ∧ Below w.heap.size w w' := by
  have hk1 : (⟨0, 0, false, false, false⟩ : Sg).ok := by decide
  have hk2 : (⟨b, z, r, q, x⟩ : Sg).ok := ⟨⟨b0, b1⟩, z0, z1⟩
  go_enter Try.func3, Try.ntmps3
  go_wp2_with fail
  refine (known8_any _).mono ?_
  rintro e w1 ⟨rfl, hb1⟩
  have D0 : w1.cell? ⟨w.heap.size, 0, none⟩ = some (.int .u32 b) ∧ w1.cell? ⟨w.heap.size, 1, none⟩ = some (.int .u32 z) ∧ w1.cell? ⟨w.heap.size, 2, none⟩ = some (.bool r) ∧ w1.cell? ⟨w.heap.size, 3, none⟩ = some (.bool q) ∧ w1.cell? ⟨w.heap.size, 4, none⟩ = some (.bool x) :=
    five_below hb1 ⟨by simp, by simp, by simp, by simp, by simp⟩
  have B1 := below_next (Below.refl w.heap.size w) hb1
  clear hb1
  generalize hD : w.heap.size = D at *
  obtain ⟨c0, c1, c2, c3, c4⟩ := D0
  go_wp2_with fail
  have HA : ∀ i, i < 4 → ∃ p, 0 ≤ p ∧ p < 4294967296 ∧ (w1.alloc (.cells #[.int .u32 pl, .int .u32 ((b - 1) % 4294967296), .int .u32 ((b + z) % 4294967296), .int .u32 ((b + z + 1) % 4294967296)] 22)).cell? ⟨w1.heap.size, i, none⟩ = some (.int .u32 p) := by
    intro i hi
    obtain rfl | rfl | rfl | rfl : i = 0 ∨ i = 1 ∨ i = 2 ∨ i = 3 := by omega
    · exact ⟨pl, p0, p1, by simp⟩
    · exact ⟨(b - 1) % 4294967296, by omega, by omega, by simp⟩
    · exact ⟨(b + z) % 4294967296, by omega, by omega, by simp⟩
    · exact ⟨(b + z + 1) % 4294967296, by omega, by omega, by simp⟩
  have D1 := five_below (below_last (Below.refl _ w1) (.cells #[.int .u32 pl, .int .u32 ((b - 1) % 4294967296), .int .u32 ((b + z) % 4294967296), .int .u32 ((b + z + 1) % 4294967296)] 22)) ⟨c0, c1, c2, c3, c4⟩
  have B2 : Below D w (w1.alloc (.cells #[.int .u32 pl, .int .u32 ((b - 1) % 4294967296), .int .u32 ((b + z) % 4294967296), .int .u32 ((b + z + 1) % 4294967296)] 22)) := B1.alloc (by rw [← hD] at B1 ⊢; exact B1.size) _
  have hsz : D ≤ (w1.alloc (.cells #[.int .u32 pl, .int .u32 ((b - 1) % 4294967296), .int .u32 ((b + z) % 4294967296), .int .u32 ((b + z + 1) % 4294967296)] 22)).heap.size := by
    rw [← hD] at B1 ⊢
    have := B1.size
    simp
    omega
  generalize w1.alloc (.cells #[.int .u32 pl, .int .u32 ((b - 1) % 4294967296), .int .u32 ((b + z) % 4294967296), .int .u32 ((b + z + 1) % 4294967296)] 22) = W1 at *
  generalize w1.heap.size = AA at *
  have HA' := Lib.hid HA
  clear c0 c1 c2 c3 c4 B1 HA
  rw [show ((b + z) % 4294967296 + 1) % 4294967296 = (b + z + 1) % 4294967296 by omega]
  go_loopw [38] (fun c wr => ∃ i : Nat, i ≤ 4 ∧ c = .int .i64 i ∧ Below W1.heap.size W1 wr) (fun c _ => 4 - (intOf c).toNat)
  case atStart => exact ⟨0, by omega, rfl, Below.refl _ _⟩
  case round =>
    obtain ⟨i, hi, rfl, hr⟩ := hrel
    obtain ⟨wo, rfl⟩ : ∃ wo : World, wo = wr := ⟨_, rfl⟩
    by_cases hlt : i < 4
    · obtain ⟨P, P0, P1, hcA⟩ := HA'.out i hlt
      have hcP := cell_call hr hcA
      have D2 := five_below hr D1
      have HD2 := Lib.hid D2
      obtain ⟨d0, d1, d2, d3, d4⟩ := D2
      have hd : decide ((i : Int) < 4) = true := decide_eq_true (by omega)
      have hi4 : (i : Int) < 4 := by omega
      clear hcA
      go_wp2_with fail
      refine (rwithin_any b z P r q x b0 b1 z0 z1 P0 P1 _).mono ?_
      rintro e w2 ⟨rfl, hb2⟩
      have D3 := five_below hb2 HD2.out
      obtain ⟨IN, hIN⟩ : ∃ IN, inB b z P = IN := ⟨_, rfl⟩
      rw [hIN]
      have HIN := Lib.hid hIN
      clear hIN d0 d1 d2 d3 d4 hcP
      have hr2 := hr.trans (hb2.mono hr.size)
      cases IN
      · obtain ⟨d0, d1, d2, d3, d4⟩ := D3
        go_wp2_with fail
        have HO : ∀ j, j < 5 → ∃ o, 0 ≤ o ∧ o < 4294967296 ∧ (w2.alloc (.cells #[.int .u32 a, .int .u32 ((z - 1) % 4294967296), .int .u32 z, .int .u32 ((z - 7) % 4294967296), .int .u32 4294967295] 22)).cell? ⟨w2.heap.size, j, none⟩ = some (.int .u32 o) := by
          intro j hj
          obtain rfl | rfl | rfl | rfl | rfl : j = 0 ∨ j = 1 ∨ j = 2 ∨ j = 3 ∨ j = 4 := by omega
          · exact ⟨a, a0, a1, by simp⟩
          · exact ⟨(z - 1) % 4294967296, by omega, by omega, by simp⟩
          · exact ⟨z, z0, z1, by simp⟩
          · exact ⟨(z - 7) % 4294967296, by omega, by omega, by simp⟩
          · exact ⟨4294967295, by omega, by omega, by simp⟩
        have D4 := five_below (below_last (Below.refl _ w2) (.cells #[.int .u32 a, .int .u32 ((z - 1) % 4294967296), .int .u32 z, .int .u32 ((z - 7) % 4294967296), .int .u32 4294967295] 22)) ⟨d0, d1, d2, d3, d4⟩
        have hr3 : Below W1.heap.size W1 (w2.alloc (.cells #[.int .u32 a, .int .u32 ((z - 1) % 4294967296), .int .u32 z, .int .u32 ((z - 7) % 4294967296), .int .u32 4294967295] 22)) := hr2.alloc hr2.size _
        generalize w2.alloc (.cells #[.int .u32 a, .int .u32 ((z - 1) % 4294967296), .int .u32 z, .int .u32 ((z - 7) % 4294967296), .int .u32 4294967295] 22) = W2 at *
        generalize w2.heap.size = BB at *
        have HO' := Lib.hid HO
        have HD4 := Lib.hid D4
        have HD2' := HD2
        clear d0 d1 d2 d3 d4 HO D4 hr2 hb2 hr HD2
        go_loopw [56] (fun c wr => ∃ j : Nat, j ≤ 5 ∧ c = .int .i64 j ∧ Below W2.heap.size W2 wr) (fun c _ => 5 - (intOf c).toNat)
        case atStart => exact ⟨0, by omega, rfl, Below.refl _ _⟩
        case round =>
          obtain ⟨j, hj, rfl, hs⟩ := hrel
          obtain ⟨wq, rfl⟩ : ∃ wq : World, wq = wr := ⟨_, rfl⟩
          by_cases hjl : j < 5
          · obtain ⟨o, o0, o1, hcO⟩ := HO'.out j hjl
            have hcO' := cell_call hs hcO
            have D5 := five_below hs HD4.out
            have hd5 : decide ((j : Int) < 5) = true := decide_eq_true (by omega)
            have hj5 : (j : Int) < 5 := by omega
            have HD5 := Lib.hid D5
            clear hcO D5
            go_wp2_with fail
            refine (min_new (w0 := wq) _ (Below.refl _ _)).mono ?_
            rintro e w3 ⟨p, F, rfl, M1, _, _⟩
            clear hcO'
            go_wp2_with fail
            refine (min_set M1 P was P0 P1 s0 s1).mono ?_
            rintro e w4 ⟨F4, rfl, M2, _, _⟩
            obtain ⟨d0, d1, d2, d3, d4⟩ := five_below M2.low HD5.out
            clear M1
            go_wp2_with fail
            refine (bin_new M2 ⟨0, 0, false, false, false⟩ ⟨b, z, r, q, x⟩ hk1 hk2).mono ?_
            rintro e w5 ⟨bb, F5, rfl, X1⟩
            clear M2 d0 d1 d2 d3 d4
            go_wp2_with fail
            refine (bin_store X1 o size v o0 o1 v0 v1).mono ?_
            rintro e w6 ⟨F6, rfl, X2⟩
            clear X1
            go_wp2_with fail
            refine (bin_memory X2).mono ?_
            rintro e w7 ⟨p7, F7, rfl, M7⟩
            clear X2
            go_wp2_with fail
            refine (min_get M7 P P0 P1).mono ?_
            rintro e w8 ⟨rfl, M8, _⟩
            rw [st_out _ _ _ _ _ _ b0 o0 HIN.out, show setG (fun _ => 0) P was P = was by simp [setG]]
            have B8 := hs.trans (M8.low.mono hs.size)
            clear M7 M8
            go_wp2_with fail
            go_roundw
            case rel => exact ⟨j + 1, by omega, by go_num, B8⟩
            case measure => simp [intOf]; omega
          · obtain rfl : j = 5 := by omega
            have hd5 : decide (((5 : Nat) : Int) < 5) = false := by decide
            go_wp2_with fail
            go_roundw
            case rel => exact ⟨i + 1, by omega, by go_num, hr3.trans (hs.mono hr3.size)⟩
            case measure => simp [intOf]; omega
      · go_wp2_with fail
        go_roundw
        case rel => exact ⟨i + 1, by omega, by go_num, hr2⟩
        case measure => simp [intOf]; omega
    · obtain rfl : i = 4 := by omega
      have hd : decide (((4 : Nat) : Int) < 4) = false := by decide
      go_wp2_with fail
      go_ret
      exact ⟨rfl, by rw [hD]; exact B2.trans (hr.mono hsz)⟩

theorem busOutside_own : ownKnob Try.prog.godebug = none := by kernel_rfl
set_option maxRecDepth 100000 in
theorem busOutside_lifted (os : Os) (started : os.Started) (H : Type) (enc : TypeId × Value → H) :
    ReturnsInHanded {} Try.checked os 3 .any (Rows.busOutsideSpec.pre6 enc Try.prog Try.f3 Rows.busOutsideRow.domain false) (Rows.busOutsideSpec.post enc Try.prog Try.f3 false true false false) := by
  refine returnsInHanded_of_change (C := Try.checked) busOutside_own started (by kernel_rfl) Try.func3
    (ChangeSpec.witness6 (enc := enc) (C := Try.checked) false ⟨#[], #[.agg #[.int .u32 0, .int .u32 0, .bool false, .bool false, .bool false], .int .u32 0, .int .i64 0, .int .u64 0, .int .u32 0, .int .u8 0], []⟩ 8 (by kernel_rfl) (by kernel_rfl) (by kernel_rfl) (by kernel_rfl)) ?_
  intro W base args ds gs before hval0 hW hcnd _
  have hval : ∀ (j : Nat) t v, Try.f3.params[j]? = some t → args[j]? = some v → Value.okWide Try.prog W .any base t v := hval0
  have hW' := hW
  obtain ⟨p, q, hA0, hV, rfl, hfz, hnd⟩ := hW
  have hA : DataW.TrodAll enc Try.prog W 0 (fun _ => true) true Try.f3.params.toList args.toList ds p := hA0
  rw [Try.params3] at hA hval
  obtain ⟨v0, vs0, d0, ds0, p0, q0, hargs, rfl, rfl, h0, r0⟩ := trodAll_cons hA
  obtain ⟨v1, vs1, d1, ds1, p1, q1, rfl, rfl, rfl, h1, r1⟩ := trodAll_cons r0
  obtain ⟨v2, vs2, d2, ds2, p2, q2, rfl, rfl, rfl, h2, r2⟩ := trodAll_cons r1
  obtain ⟨v3, vs3, d3, ds3, p3, q3, rfl, rfl, rfl, h3, r3⟩ := trodAll_cons r2
  obtain ⟨v4, vs4, d4, ds4, p4, q4, rfl, rfl, rfl, h4, r4⟩ := trodAll_cons r3
  obtain ⟨v5, vs5, d5, ds5, p5, q5, rfl, rfl, rfl, h5, r5⟩ := trodAll_cons r4
  obtain ⟨rfl, rfl, rfl⟩ := trodAll_nil r5
  obtain rfl : args = #[v0, v1, v2, v3, v4, v5] := by cases args; simp_all
  obtain ⟨rfl, rfl⟩ := trodVars_none hV
  obtain ⟨a0ba, a0sz, a0rd, a0wr, a0ex, rfl, rfl, rfl, w0ba, w0sz⟩ := open_seg (hval 0 24 v0 rfl rfl) h0
  obtain ⟨a1, rfl, rfl, rfl, w1⟩ := open_int Try.underlying22 (hval 1 22 v1 rfl rfl) h1
  obtain ⟨a2, rfl, rfl, rfl, w2⟩ := open_int Try.underlying3 (hval 2 3 v2 rfl rfl) h2
  obtain ⟨a3, rfl, rfl, rfl, w3⟩ := open_int Try.underlying25 (hval 3 25 v3 rfl rfl) h3
  obtain ⟨a4, rfl, rfl, rfl, w4⟩ := open_int Try.underlying22 (hval 4 22 v4 rfl rfl) h4
  obtain ⟨a5, rfl, rfl, rfl, w5⟩ := open_int Try.underlying5 (hval 5 5 v5 rfl rfl) h5
  clear hA0 hval0
  simp only [List.append_nil] at hW'
  have b0ba : 0 ≤ a0ba ∧ a0ba < 4294967296 := by
    have h := w0ba
    simp only [Lit.wf, Bool.and_eq_true, decide_eq_true_eq] at h
    have e1 : IntKind.u32.min = 0 := by decide
    have e2 : IntKind.u32.max = 4294967295 := by decide
    omega
  have b0sz : 0 ≤ a0sz ∧ a0sz < 4294967296 := by
    have h := w0sz
    simp only [Lit.wf, Bool.and_eq_true, decide_eq_true_eq] at h
    have e1 : IntKind.u32.min = 0 := by decide
    have e2 : IntKind.u32.max = 4294967295 := by decide
    omega
  have b1 : 0 ≤ a1 ∧ a1 < 4294967296 := by
    have h := w1
    simp only [Lit.wf, Bool.and_eq_true, decide_eq_true_eq] at h
    have e1 : IntKind.u32.min = 0 := by decide
    have e2 : IntKind.u32.max = 4294967295 := by decide
    omega
  have b3 : 0 ≤ a3 ∧ a3 < 18446744073709551616 := by
    have h := w3
    simp only [Lit.wf, Bool.and_eq_true, decide_eq_true_eq] at h
    have e1 : IntKind.u64.min = 0 := by decide
    have e2 : IntKind.u64.max = 18446744073709551615 := by decide
    omega
  have b4 : 0 ≤ a4 ∧ a4 < 4294967296 := by
    have h := w4
    simp only [Lit.wf, Bool.and_eq_true, decide_eq_true_eq] at h
    have e1 : IntKind.u32.min = 0 := by decide
    have e2 : IntKind.u32.max = 4294967295 := by decide
    omega
  have b5 : 0 ≤ a5 ∧ a5 < 256 := by
    have h := w5
    simp only [Lit.wf, Bool.and_eq_true, decide_eq_true_eq] at h
    have e1 : IntKind.u8.min = 0 := by decide
    have e2 : IntKind.u8.max = 255 := by decide
    omega
  refine (busoutside_walk a0ba a0sz a0rd a0wr a0ex a1 a2 a3 a4 a5 W b0ba.1 b0ba.2 b0sz.1 b0sz.2 b1.1 b1.2 b3.1 b3.2 b4.1 b4.2 b5.1 b5.2).mono fun e W' ⟨he, hg⟩ => ?_
  subst he
  exact ⟨_, rfl, post_plain hW' hg (fun sp => (trodAll_cons_mk (shut_seg _ _ _ _ _ w0ba w0sz) (trodAll_cons_mk (shut_int Try.underlying22 w1) (trodAll_cons_mk (shut_int Try.underlying3 w2) (trodAll_cons_mk (shut_int Try.underlying25 w3) (trodAll_cons_mk (shut_int Try.underlying22 w4) (trodAll_cons_mk (shut_int Try.underlying5 w5) trodAll_mk0))))))) (fun _ => rfl)
    (fun _ _ _ => (trodAll_cons_mk (shut_bool Try.underlying4 _) trodAll_mk0)) (ok_one (by kernel_rfl) rfl (okWide_bool_mk Try.underlying4 _))⟩

theorem busOutside_holds : Rows.BusOutsideSaid :=
  OpenClaim.holds_of_wide 3 Try.f3 rfl rfl rfl rfl rfl rfl rfl ⟨rfl, rfl, rfl, rfl, rfl⟩ rfl rfl rfl rfl rfl (by kernel_rfl) Try.func3 (by kernel_rfl)
    (of_decide_eq_true (by kernel_rfl)) (by unfold Func.isWrapper; first | (rw [if_pos (by decide +kernel)]; kernel_rfl) | (rw [if_neg (by decide +kernel)]; exact ⟨rfl, rfl⟩))
    (fun os started H enc _ => busOutside_lifted os started H enc)
#print axioms busOutside_holds
end Go.Proofs.Ytkmoefgoolhegaa
