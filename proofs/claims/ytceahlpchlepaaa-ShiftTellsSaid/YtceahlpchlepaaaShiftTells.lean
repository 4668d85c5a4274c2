/- What each shift makes of any number, by any count, with its flags, is the document's. -/
import Derived.Test.YtceahlpchlepaaaKnown2
import Derived.Test.YtceahlpchlepaaaFlags
import Derived.Test.YtceahlpchlepaaaShut
namespace Go.Proofs.Ytceahlpchlepaaa
open Go.ChangeShapes Go.WideShapes Go.ChangeAt Go.RowKit

/-- The operations and the counts that the statement goes through. -/
def tops (op x : Int) (k : Nat) : Int := match k with | 0 => op | _ => x
def tcounts (n k : Int) (i : Nat) : Int := match i with | 0 => n | 1 => k | 2 => 1 | 3 => 0 | _ => 31
theorem tcounts_lo (n k : Int) (i : Nat) (h0 : 0 ≤ n) (h1 : 0 ≤ k) : 0 ≤ tcounts n k i := by
  unfold tcounts; split <;> omega
theorem tcounts_hi (n k : Int) (i : Nat) (h0 : n < 4294967296) (h1 : k < 4294967296) : tcounts n k i < 4294967296 := by
  unfold tcounts; split <;> omega

attribute [local go_sem] isSome_setCell flags_guard flags_eql flags_neq
set_option maxRecDepth 100000 in
set_option maxHeartbeats 8000000 in
theorem tells2_walk (op y : Int) (fc fp fz fs fo fd : Bool) (v n : Int) (w : World) (y0 : 0 ≤ y) (y1 : y < 256) (h0 : 0 ≤ v) (h1 : v < 4294967296) (n0 : 0 ≤ n) (n1 : n < 4294967296) :
    Calls Try.prog 3 #[.int .i64 op, .int .u8 y, .agg #[.bool fc, .bool fp, .bool fz, .bool fs, .bool fo, .bool fd], .int .u32 v, .int .u32 n] w fun e w' => e = .returned (.bool true) ∧ Below w.heap.size w w' := by
  obtain ⟨k, hk⟩ : ∃ k : Nat, n % 32 = k := ⟨(n % 32).toNat, by omega⟩
  have hk32 : k < 32 := by omega
  obtain ⟨j, hj⟩ : ∃ j : Nat, y % 5 = j := ⟨(y % 5).toNat, by omega⟩
  have hj5 : j < 5 := by omega
  have hN : bits .and .u32 n 31 = (k : Int) := (bits31 n n0 n1).trans hk
  clear hk
  go_enter Try.func3, Try.ntmps3
  go_wp2_with (go_at_call 8; refine (known2_any _).mono ?_; rintro e w1 ⟨rfl, hb1⟩; have hq1 := six_made hb1)
  have hz1 := bsize hb1
  clear hj
  go_loopw [28] (fun x wr => ∃ i : Nat, i ≤ 2 ∧ x = .int .i64 i ∧ Below (w1.heap.size + 1) (w1.alloc (.cells #[.int .i64 op, .int .i64 (26 + (j : Int))] 3)) wr) (fun x _ => 2 - (intOf x).toNat)
  case atStart => exact ⟨0, by omega, rfl, Below.refl _ _⟩
  case round =>
    obtain ⟨i, hi, rfl, hr⟩ := hrel
    have hB : Below w.heap.size w wr := (below_next (Below.refl _ _) hb1).alloc (by omega) _ |>.trans (hr.mono (by omega))
    by_cases hlt : i < 2
    · have hcell : wr.cell? ⟨w1.heap.size, i, none⟩ = some (.int .i64 (tops op (26 + (j : Int)) i)) := by
        rw [hr.cell (by simp)]
        obtain rfl | rfl : i = 0 ∨ i = 1 := by omega
        all_goals simp [tops]
      have hs := hr.size
      have hs1 : w1.heap.size + 1 ≤ wr.heap.size := by simpa using hs
      have hqr := six_call' hr (by omega) hq1
      clear hq1
      generalize tops op (26 + (j : Int)) i = x at hcell
      obtain ⟨wo, rfl⟩ : ∃ wo : World, wo = wr := ⟨_, rfl⟩
      have hd : decide ((i : Int) < 2) = true := by simp; omega
      go_wp2_with fail
      go_loopw [37] (fun x wq => ∃ q : Nat, q ≤ 5 ∧ x = .int .i64 q ∧ Below (wo.heap.size + 1) (wo.alloc (.cells #[.int .u32 n, .int .u32 k, .int .u32 1, .int .u32 0, .int .u32 31] 24)) wq) (fun x _ => 5 - (intOf x).toNat)
      case atStart => exact ⟨0, by omega, rfl, Below.refl _ _⟩
      case round =>
        obtain ⟨q, hq, rfl, hr2⟩ := hrel
        have hB2 : Below w.heap.size w wr := (hB.alloc hB.size _).trans (hr2.mono (by have := hB.size; omega))
        have hO2 : Below (w1.heap.size + 1) (w1.alloc (.cells #[.int .i64 op, .int .i64 (26 + (j : Int))] 3)) wr := (hr.alloc hs1 _).trans (hr2.mono (by omega))
        by_cases hlq : q < 5
        · have hcell2 : wr.cell? ⟨wo.heap.size, q, none⟩ = some (.int .u32 (tcounts n k q)) := by
            rw [hr2.cell (by simp)]
            obtain rfl | rfl | rfl | rfl | rfl : q = 0 ∨ q = 1 ∨ q = 2 ∨ q = 3 ∨ q = 4 := by omega
            all_goals simp [tcounts]
          have c0 := tcounts_lo n k q n0 (by omega)
          have c1 := tcounts_hi n k q n1 (by omega)
          have hs2 := hr2.size
          have hs3 : wo.heap.size + 1 ≤ wr.heap.size := by simpa using hs2
          have hqr2 := six_call' hr2 (by omega) hqr
          clear hqr hcell
          generalize tcounts n k q = m at hcell2 c0 c1
          go_wp2_with fail
          refine (do_any x fc fp fz fs fo fd v m h0 h1 c0 c1 _).mono ?_
          rintro e w2 ⟨rfl, hb2⟩
          have hq2 := six_call hb2 hqr2
          have hz2 := cell_lt hq2.1
          clear hqr2 hcell2
          go_wp2_with fail
          refine (rshift_any x fc fp fz fs fo fd v m h0 h1 c0 c1 _).mono ?_
          rintro e w3 ⟨rfl, hb3⟩
          have hr3 := six_made hb3
          have hz31 := cell_lt hr3.1
          clear hq2
          go_wp2_with (first | (go_at_call 11; refine (known_any _ _).mono ?_; rintro e w' ⟨rfl, rfl⟩) | (go_at_call 12; refine (rknown_any _ _).mono ?_; rintro e w' ⟨rfl, rfl⟩))
          go_roundw
          case rel =>
            have hb2s := hb2.size
            exact ⟨q + 1, by omega, by go_num, ((below_on (hr2.trans (hb2.mono (by omega))) (by omega) hb3).alloc (by have := bsize hb3; omega) _)⟩
          case measure => simp [intOf]; omega
        · obtain rfl : q = 5 := by omega
          go_wp2_with fail
          go_roundw
          case rel => exact ⟨i + 1, by omega, by go_num, hO2⟩
          case measure => simp [intOf]; omega
    · obtain rfl : i = 2 := by omega
      go_wp2
      go_ret
      exact ⟨rfl, hB⟩

theorem shiftTells_own : ownKnob Try.prog.godebug = none := by kernel_rfl
set_option maxRecDepth 100000 in
theorem shiftTells_lifted (os : Os) (started : os.Started) (H : Type) (enc : TypeId × Value → H) :
    ReturnsInHanded {} Try.checked os 3 .any (Rows.shiftTellsSpec.pre6 enc Try.prog Try.f3 Rows.shiftTellsRow.domain false) (Rows.shiftTellsSpec.post enc Try.prog Try.f3 false true false false) := by
  refine returnsInHanded_of_change (C := Try.checked) shiftTells_own started (by kernel_rfl) Try.func3
    (ChangeSpec.witness6 (enc := enc) (C := Try.checked) false ⟨#[], #[.int .i64 0, .int .u8 0, .agg #[.bool false, .bool false, .bool false, .bool false, .bool false, .bool false], .int .u32 0, .int .u32 0], []⟩ 8 (by kernel_rfl) (by kernel_rfl) (by kernel_rfl) (by kernel_rfl)) ?_
  intro W base args ds gs before hval0 hW hcnd _
  have hval : ∀ (j : Nat) t v, Try.f3.params[j]? = some t → args[j]? = some v → Value.okWide Try.prog W .any base t v := hval0
  have hW' := hW
  obtain ⟨p, q, hA0, hV, rfl, hfz, hnd⟩ := hW
  have hA : DataW.TrodAll enc Try.prog W 0 (fun _ => true) true Try.f3.params.toList args.toList ds p := hA0
  rw [Try.params3] at hA hval
  obtain ⟨v0, vs0, d0, ds0, p0, q0, hargs, rfl, rfl, h0, r0⟩ := trodAll_cons hA
  obtain ⟨v1, vs1, d1, ds1, p1, q1, rfl, rfl, rfl, h1, r1⟩ := trodAll_cons r0
  obtain ⟨v2, vs2, d2, ds2, p2, q2, rfl, rfl, rfl, h2, r2⟩ := trodAll_cons r1
  obtain ⟨v3, vs3, d3, ds3, p3, q3, rfl, rfl, rfl, h3, r3⟩ := trodAll_cons r2
  obtain ⟨v4, vs4, d4, ds4, p4, q4, rfl, rfl, rfl, h4, r4⟩ := trodAll_cons r3
  obtain ⟨rfl, rfl, rfl⟩ := trodAll_nil r4
  obtain rfl : args = #[v0, v1, v2, v3, v4] := by cases args; simp_all
  obtain ⟨rfl, rfl⟩ := trodVars_none hV
  obtain ⟨a0, rfl, rfl, rfl, w0⟩ := open_int Try.underlying3 (hval 0 3 v0 rfl rfl) h0
  obtain ⟨a1, rfl, rfl, rfl, w1⟩ := open_int Try.underlying5 (hval 1 5 v1 rfl rfl) h1
  obtain ⟨a2c, a2p, a2z, a2s, a2o, a2d, rfl, rfl, rfl⟩ := open_flags (hval 2 23 v2 rfl rfl) h2
  obtain ⟨a3, rfl, rfl, rfl, w3⟩ := open_int Try.underlying24 (hval 3 24 v3 rfl rfl) h3
  obtain ⟨a4, rfl, rfl, rfl, w4⟩ := open_int Try.underlying24 (hval 4 24 v4 rfl rfl) h4
  clear hA0 hval0
  simp only [List.append_nil] at hW'
  have b1 : 0 ≤ a1 ∧ a1 < 256 := by
    have h := w1
    simp only [Lit.wf, Bool.and_eq_true, decide_eq_true_eq] at h
    have e1 : IntKind.u8.min = 0 := by decide
    have e2 : IntKind.u8.max = 255 := by decide
    omega
  have b3 : 0 ≤ a3 ∧ a3 < 4294967296 := by
    have h := w3
    simp only [Lit.wf, Bool.and_eq_true, decide_eq_true_eq] at h
    have e1 : IntKind.u32.min = 0 := by decide
    have e2 : IntKind.u32.max = 4294967295 := by decide
    omega
  have b4 : 0 ≤ a4 ∧ a4 < 4294967296 := by
    have h := w4
    simp only [Lit.wf, Bool.and_eq_true, decide_eq_true_eq] at h
    have e1 : IntKind.u32.min = 0 := by decide
    have e2 : IntKind.u32.max = 4294967295 := by decide
    omega
  refine (tells2_walk a0 a1 a2c a2p a2z a2s a2o a2d a3 a4 W b1.1 b1.2 b3.1 b3.2 b4.1 b4.2).mono fun e W' ⟨he, hg⟩ => ?_
  subst he
  exact ⟨_, rfl, post_plain hW' hg (fun sp => (trodAll_cons_mk (shut_int Try.underlying3 w0) (trodAll_cons_mk (shut_int Try.underlying5 w1) (trodAll_cons_mk (shut_flags _ _ _ _ _ _) (trodAll_cons_mk (shut_int Try.underlying24 w3) (trodAll_cons_mk (shut_int Try.underlying24 w4) trodAll_mk0)))))) (fun _ => rfl)
    (fun _ _ _ => (trodAll_cons_mk (shut_bool Try.underlying4 _) trodAll_mk0)) (ok_one (by kernel_rfl) rfl (okWide_bool_mk Try.underlying4 _))⟩

theorem shiftTells_holds : Rows.ShiftTellsSaid :=
  OpenClaim.holds_of_wide 3 Try.f3 rfl rfl rfl rfl rfl rfl rfl ⟨rfl, rfl, rfl, rfl, rfl⟩ rfl rfl rfl rfl rfl (by kernel_rfl) Try.func3 (by kernel_rfl)
    (of_decide_eq_true (by kernel_rfl)) (by unfold Func.isWrapper; first | (rw [if_pos (by decide +kernel)]; kernel_rfl) | (rw [if_neg (by decide +kernel)]; exact ⟨rfl, rfl⟩))
    (fun os started H enc _ => shiftTells_lifted os started H enc)
#print axioms shiftTells_holds
end Go.Proofs.Ytceahlpchlepaaa
