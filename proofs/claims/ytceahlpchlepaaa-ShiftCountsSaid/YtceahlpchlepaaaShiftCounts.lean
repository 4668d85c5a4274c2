/- Only a count's lowest five bits count, and none changes nothing: for every operation, number, count and flags. -/
import Derived.Test.YtceahlpchlepaaaKnown2
import Derived.Test.YtceahlpchlepaaaFlags
import Derived.Test.YtceahlpchlepaaaShut
namespace Go.Proofs.Ytceahlpchlepaaa
open Go.ChangeShapes Go.WideShapes Go.ChangeAt Go.RowKit

theorem bits_hi5 (n : Int) (h0 : 0 ≤ n) (h1 : n < 4294967296) : bits .andNot .u32 n 31 = n / 32 * 32 := by
  rw [u32_andNot n 31 h0 h1 (by decide) (by decide)]
  obtain ⟨N, rfl⟩ := Int.eq_ofNat_of_zero_le h0
  rw [Int.toNat_natCast, show (4294967295 - Int.toNat 31) = 4294967264 from rfl, nat_hi32_5]
  omega
theorem c_do (op v n : Int) (k : Nat) (hk : n % 32 = k) (fc fp fz fs fo fd : Bool) (h0 : 0 ≤ v) (h1 : v < 4294967296) (n0 : 0 ≤ n) (n1 : n < 4294967296) (w : World) :
    Calls Try.prog 9 #[.int .i64 op, .agg #[.bool fc, .bool fp, .bool fz, .bool fs, .bool fo, .bool fd], .int .u32 v, .int .u32 n] w fun e w' =>
   e = .returned (.tuple #[.int .u32 (shV op v k), .agg #[.bool (sfC op v k fc), .bool (sfP op v k fp), .bool (sfZ op v k fz), .bool (sfS op v k fs), .bool (sfO op v k fo), .bool fd]]) ∧ Below w.heap.size w w' := by
  have h := do_any op fc fp fz fs fo fd v n h0 h1 n0 n1 w
  rw [show (n % 32).toNat = k by omega] at h
  exact h
theorem c_none (op v n : Int) (hk : n % 32 = 0) (fc fp fz fs fo fd : Bool) (h0 : 0 ≤ v) (h1 : v < 4294967296) (n0 : 0 ≤ n) (n1 : n < 4294967296) (w : World) :
    Calls Try.prog 9 #[.int .i64 op, .agg #[.bool fc, .bool fp, .bool fz, .bool fs, .bool fo, .bool fd], .int .u32 v, .int .u32 n] w fun e w' =>
   e = .returned (.tuple #[.int .u32 v, .agg #[.bool fc, .bool fp, .bool fz, .bool fs, .bool fo, .bool fd]]) ∧ Below w.heap.size w w' := by
  have h := c_do op v n 0 (by omega) fc fp fz fs fo fd h0 h1 n0 n1 w
  simpa [shV, sfC, sfP, sfZ, sfS, sfO, kept] using h
/-- The operations that the statement goes through. -/
def cops (op : Int) (k : Nat) : Int := match k with | 0 => op | 1 => 26 | 2 => 27 | 3 => 28 | 4 => 29 | _ => 30

attribute [local go_sem] isSome_setCell flags_guard flags_eql flags_neq
set_option maxRecDepth 100000 in
set_option maxHeartbeats 4000000 in
theorem counts_walk (op : Int) (fc fp fz fs fo fd : Bool) (v n : Int) (w : World) (h0 : 0 ≤ v) (h1 : v < 4294967296) (n0 : 0 ≤ n) (n1 : n < 4294967296) :
    Calls Try.prog 7 #[.int .i64 op, .agg #[.bool fc, .bool fp, .bool fz, .bool fs, .bool fo, .bool fd], .int .u32 v, .int .u32 n] w fun e w' => e = .returned (.bool true) ∧ Below w.heap.size w w' := by
  obtain ⟨k, hk⟩ : ∃ k : Nat, n % 32 = k := ⟨(n % 32).toNat, by omega⟩
  have hk32 : k < 32 := by omega
  obtain ⟨m, hm⟩ : ∃ m : Int, n / 32 * 32 = m := ⟨_, rfl⟩
  have m0 : 0 ≤ m := by omega
  have m1 : m < 4294967296 := by omega
  have hM := Lib.hid (show m % 32 = 0 by omega)
  have hN : bits .and .u32 n 31 = (k : Int) := (bits31 n n0 n1).trans hk
  have hL : bits .andNot .u32 n 31 = m := (bits_hi5 n n0 n1).trans hm
  have hK := Lib.hid hk
  clear hk hm
  go_enter Try.func7, Try.ntmps7
  go_wp2_with (go_at_call 8; refine (known2_any _).mono ?_; rintro e w1 ⟨rfl, hb1⟩; have hq1 := six_made hb1)
  have hz1 := bsize hb1
  go_loopw [22] (fun j wr => ∃ i : Nat, i ≤ 6 ∧ j = .int .i64 i ∧ Below (w1.heap.size + 1) (w1.alloc (.cells #[.int .i64 op, .int .i64 26, .int .i64 27, .int .i64 28, .int .i64 29, .int .i64 30] 3)) wr) (fun j _ => 6 - (intOf j).toNat)
  case atStart => exact ⟨0, by omega, rfl, Below.refl _ _⟩
  case round =>
    obtain ⟨i, hi, rfl, hr⟩ := hrel
    have hB : Below w.heap.size w wr := (below_next (Below.refl _ _) hb1).alloc (by omega) _ |>.trans (hr.mono (by omega))
    by_cases hlt : i < 6
    · have hcell : wr.cell? ⟨w1.heap.size, i, none⟩ = some (.int .i64 (cops op i)) := by
        rw [hr.cell (by simp)]
        obtain rfl | rfl | rfl | rfl | rfl | rfl : i = 0 ∨ i = 1 ∨ i = 2 ∨ i = 3 ∨ i = 4 ∨ i = 5 := by omega
        all_goals simp [cops]
      have hs := hr.size
      have hs1 : w1.heap.size + 1 ≤ wr.heap.size := by simpa using hs
      have hqr := six_call' hr (by omega) hq1
      clear hq1
      generalize cops op i = x at hcell
      go_wp2_with fail
      refine (c_do x v n k hK.out fc fp fz fs fo fd h0 h1 n0 n1 _).mono ?_
      rintro e w2 ⟨rfl, hb2⟩
      have hq2 := six_call hb2 hqr
      have hz2 := cell_lt hq2.1
      clear hqr hcell
      go_wp2_with fail
      refine (c_do x v k k (by omega) fc fp fz fs fo fd h0 h1 (by omega) (by omega) _).mono ?_
      rintro e w3 ⟨rfl, hb3⟩
      have hq3 := six_next hb3 hq2
      have hr3 := six_made hb3
      have hz3 := cell_lt hq3.1
      have hz31 := cell_lt hr3.1
      clear hq2
      go_wp2_with fail
      refine (c_none x v m hM.out fc fp fz fs fo fd h0 h1 m0 m1 _).mono ?_
      rintro e w4 ⟨rfl, hb4⟩
      have hq4 := six_next hb4 hq3
      have hr4 := six_next hb4 hr3
      have hs4 := six_made hb4
      have hz4 := cell_lt hq4.1
      have hz41 := cell_lt hr4.1
      have hz42 := cell_lt hs4.1
      clear hq3 hr3
      go_wp2_with fail
      go_roundw
      case rel =>
        have hb2s := hb2.size
        exact ⟨i + 1, by omega, by go_num, ((below_on (below_on (hr.trans (hb2.mono (by omega))) (by omega) hb3) (by have := bsize hb3; omega) hb4).alloc (by have := bsize hb3; have := bsize hb4; omega) _)⟩
      case measure => simp [intOf]; omega
    · obtain rfl : i = 6 := by omega
      go_wp2
      go_ret
      exact ⟨rfl, hB⟩

theorem shiftCounts_own : ownKnob Try.prog.godebug = none := by kernel_rfl
set_option maxRecDepth 100000 in
theorem shiftCounts_lifted (os : Os) (started : os.Started) (H : Type) (enc : TypeId × Value → H) :
    ReturnsInHanded {} Try.checked os 7 .any (Rows.shiftCountsSpec.pre6 enc Try.prog Try.f7 Rows.shiftCountsRow.domain false) (Rows.shiftCountsSpec.post enc Try.prog Try.f7 false true false false) := by
  refine returnsInHanded_of_change (C := Try.checked) shiftCounts_own started (by kernel_rfl) Try.func7
    (ChangeSpec.witness6 (enc := enc) (C := Try.checked) false ⟨#[], #[.int .i64 0, .agg #[.bool false, .bool false, .bool false, .bool false, .bool false, .bool false], .int .u32 0, .int .u32 0], []⟩ 8 (by kernel_rfl) (by kernel_rfl) (by kernel_rfl) (by kernel_rfl)) ?_
  intro W base args ds gs before hval0 hW hcnd _
  have hval : ∀ (j : Nat) t v, Try.f7.params[j]? = some t → args[j]? = some v → Value.okWide Try.prog W .any base t v := hval0
  have hW' := hW
  obtain ⟨p, q, hA0, hV, rfl, hfz, hnd⟩ := hW
  have hA : DataW.TrodAll enc Try.prog W 0 (fun _ => true) true Try.f7.params.toList args.toList ds p := hA0
  rw [Try.params7] at hA hval
  obtain ⟨v0, vs0, d0, ds0, p0, q0, hargs, rfl, rfl, h0, r0⟩ := trodAll_cons hA
  obtain ⟨v1, vs1, d1, ds1, p1, q1, rfl, rfl, rfl, h1, r1⟩ := trodAll_cons r0
  obtain ⟨v2, vs2, d2, ds2, p2, q2, rfl, rfl, rfl, h2, r2⟩ := trodAll_cons r1
  obtain ⟨v3, vs3, d3, ds3, p3, q3, rfl, rfl, rfl, h3, r3⟩ := trodAll_cons r2
  obtain ⟨rfl, rfl, rfl⟩ := trodAll_nil r3
  obtain rfl : args = #[v0, v1, v2, v3] := by cases args; simp_all
  obtain ⟨rfl, rfl⟩ := trodVars_none hV
  obtain ⟨a0, rfl, rfl, rfl, w0⟩ := open_int Try.underlying3 (hval 0 3 v0 rfl rfl) h0
  obtain ⟨a1c, a1p, a1z, a1s, a1o, a1d, rfl, rfl, rfl⟩ := open_flags (hval 1 23 v1 rfl rfl) h1
  obtain ⟨a2, rfl, rfl, rfl, w2⟩ := open_int Try.underlying24 (hval 2 24 v2 rfl rfl) h2
  obtain ⟨a3, rfl, rfl, rfl, w3⟩ := open_int Try.underlying24 (hval 3 24 v3 rfl rfl) h3
  clear hA0 hval0
  simp only [List.append_nil] at hW'
  have b2 : 0 ≤ a2 ∧ a2 < 4294967296 := by
    have h := w2
    simp only [Lit.wf, Bool.and_eq_true, decide_eq_true_eq] at h
    have e1 : IntKind.u32.min = 0 := by decide
    have e2 : IntKind.u32.max = 4294967295 := by decide
    omega
  have b3 : 0 ≤ a3 ∧ a3 < 4294967296 := by
    have h := w3
    simp only [Lit.wf, Bool.and_eq_true, decide_eq_true_eq] at h
    have e1 : IntKind.u32.min = 0 := by decide
    have e2 : IntKind.u32.max = 4294967295 := by decide
    omega
  refine (counts_walk a0 a1c a1p a1z a1s a1o a1d a2 a3 W b2.1 b2.2 b3.1 b3.2).mono fun e W' ⟨he, hg⟩ => ?_
  subst he
  exact ⟨_, rfl, post_plain hW' hg (fun sp => (trodAll_cons_mk (shut_int Try.underlying3 w0) (trodAll_cons_mk (shut_flags _ _ _ _ _ _) (trodAll_cons_mk (shut_int Try.underlying24 w2) (trodAll_cons_mk (shut_int Try.underlying24 w3) trodAll_mk0))))) (fun _ => rfl)
    (fun _ _ _ => (trodAll_cons_mk (shut_bool Try.underlying4 _) trodAll_mk0)) (ok_one (by kernel_rfl) rfl (okWide_bool_mk Try.underlying4 _))⟩

theorem shiftCounts_holds : Rows.ShiftCountsSaid :=
  OpenClaim.holds_of_wide 7 Try.f7 rfl rfl rfl rfl rfl rfl rfl ⟨rfl, rfl, rfl, rfl, rfl⟩ rfl rfl rfl rfl rfl (by kernel_rfl) Try.func7 (by kernel_rfl)
    (of_decide_eq_true (by kernel_rfl)) (by unfold Func.isWrapper; first | (rw [if_pos (by decide +kernel)]; kernel_rfl) | (rw [if_neg (by decide +kernel)]; exact ⟨rfl, rfl⟩))
    (fun os started H enc _ => shiftCounts_lifted os started H enc)
#print axioms shiftCounts_holds
end Go.Proofs.Ytceahlpchlepaaa
