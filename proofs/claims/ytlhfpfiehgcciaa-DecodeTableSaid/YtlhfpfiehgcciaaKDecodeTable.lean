/- Each opcode of one, of two bytes, with any byte behind it. -/
import Derived.Test.YtlhfpfiehgcciaaKW
import Derived.Test.YtlhfpfiehgcciaaKX
namespace Go.Proofs.Ytlhfpfiehgcciaa
open Go.ChangeShapes Go.WideShapes Go.ChangeAt Go.RowKit

set_option maxRecDepth 100000 in
set_option maxHeartbeats 8000000 in
theorem dectable_walk (rm s d : Int) (w : World) (r0 : 0 ≤ rm) (r1 : rm < 256) (s0 : 0 ≤ s) (s1 : s < 256) (d0 : 0 ≤ d) (d1 : d < 4294967296) :
    Calls Try.prog 4 #[.int .u8 rm, .int .u8 s, .int .u32 d] w fun e w' => e = .returned (.bool true) ∧ Below w.heap.size w w' := by
  have HT := Lib.hid (show ∀ y ∈ [rm, s, d % 256, d / 256 % 256, d / 65536 % 256, d / 16777216, s, rm, 0, 1, 2, 3], 0 ≤ y ∧ y < 256 from fun y hy => by
    simp only [List.mem_cons, List.not_mem_nil, or_false] at hy
    rcases hy with rfl | rfl | rfl | rfl | rfl | rfl | rfl | rfl | rfl | rfl | rfl | rfl <;> omega)
  go_enter Try.func4, Try.ntmps4
  go_wp2_with fail
  refine (known10_any _).mono ?_
  rintro e w0 ⟨rfl, B0⟩
  have HL0 := Lib.hid ((Lies.none B0).lit #[.int .u8 rm, .int .u8 s, .int .u8 (d % 256), .int .u8 (d / 256 % 256), .int .u8 (d / 65536 % 256), .int .u8 (d / 16777216), .int .u8 s, .int .u8 rm, .int .u8 0, .int .u8 1, .int .u8 2, .int .u8 3] 5 _ rfl)
  clear B0
  go_wp2_with fail
  go_loopw [8] (fun v8 wr => ∃ c : Nat, c ≤ 256 ∧ v8 = .int .i64 c ∧ Lies w [(w0.heap.size, #[.int .u8 rm, .int .u8 s, .int .u8 (d % 256), .int .u8 (d / 256 % 256), .int .u8 (d / 65536 % 256), .int .u8 (d / 16777216), .int .u8 s, .int .u8 rm, .int .u8 0, .int .u8 1, .int .u8 2, .int .u8 3].toList)] wr) (fun v8 _ => 256 - (intOf v8).toNat)
  case atStart => exact ⟨0, by omega, rfl, HL0.out⟩
  case round =>
    obtain ⟨c, hc, rfl, hli⟩ := hrel
    have HL := Lib.hid hli
    clear hli
    by_cases hlt : c < 256
    · have hd1 : decide ((c : Int) < 256) = true := by simp; omega
      have hcc : (c : Int) < 256 := by omega
      go_wp2_with (at_builtin; refine append_bytes rfl (.tmp 33) (.tmp 34) rfl (.slice (some ⟨wr.heap.size, 0, none⟩) 1 1) (.slice (some ⟨w0.heap.size, 0, none⟩) 12 12) [(c : Int)] [rm, s, d % 256, d / 256 % 256, d / 65536 % 256, d / 16777216, s, rm, 0, 1, 2, 3] rfl rfl _ rfl (slc_new wr _ _ 1 1 _ (Nat.le_refl _) (by intro i hi; match i, hi with | 0, _ => rfl)) (slc_range [rm, s, d % 256, d / 256 % 256, d / 65536 % 256, d / 16777216, s, rm, 0, 1, 2, 3] 12 (Nat.le_refl _) ((HL.out.alloc _).at_ _ _ (by simp)) 12 (Nat.le_refl _)) (by simp) (by simp) ?_; intro v1 u1 hs' hb'; have HS1 := Lib.hid hs'; have HA1 := Lib.hid ((HL.out.alloc _).on hb'); clear hs' hb')
      refine (same_any v1 ([(c : Int)].length + [rm, s, d % 256, d / 256 % 256, d / 65536 % 256, d / 16777216, s, rm, 0, 1, 2, 3].length) (lst ([(c : Int)] ++ [rm, s, d % 256, d / 256 % 256, d / 65536 % 256, d / 16777216, s, rm, 0, 1, 2, 3])) (lst_ok (fun y hy => (List.mem_append.1 hy).elim (fun hy => by simp at hy; omega) (HT.out y))) (by simp) _ HS1.out).mono ?_
      rintro e x1 ⟨rfl, b'⟩
      have HL1 := Lib.hid (HA1.out.on b')
      clear b' HS1 HA1 HL
      go_wp2_with (refine wpList_met (by rfl) ?_; refine append_bytes rfl (.tmp 41) (.tmp 42) rfl (.slice (some ⟨x1.heap.size, 0, none⟩) 2 2) (.slice (some ⟨w0.heap.size, 0, none⟩) 12 12) [15, (c : Int)] [rm, s, d % 256, d / 256 % 256, d / 65536 % 256, d / 16777216, s, rm, 0, 1, 2, 3] rfl rfl _ rfl (slc_new x1 _ _ 2 2 _ (Nat.le_refl _) (by intro i hi; match i, hi with | 0, _ => rfl | 1, _ => rfl)) (slc_range [rm, s, d % 256, d / 256 % 256, d / 65536 % 256, d / 16777216, s, rm, 0, 1, 2, 3] 12 (Nat.le_refl _) ((HL1.out.alloc _).at_ _ _ (by simp)) 12 (Nat.le_refl _)) (by simp) (by simp) ?_; intro v2 u2 hs' hb'; have HS2 := Lib.hid hs'; have HA2 := Lib.hid ((HL1.out.alloc _).on hb'); clear hs' hb')
      refine (same_any v2 ([15, (c : Int)].length + [rm, s, d % 256, d / 256 % 256, d / 65536 % 256, d / 16777216, s, rm, 0, 1, 2, 3].length) (lst ([15, (c : Int)] ++ [rm, s, d % 256, d / 256 % 256, d / 65536 % 256, d / 16777216, s, rm, 0, 1, 2, 3])) (lst_ok (fun y hy => (List.mem_append.1 hy).elim (fun hy => by simp at hy; omega) (HT.out y))) (by simp) _ HS2.out).mono ?_
      rintro e x2 ⟨rfl, b'⟩
      have HL2 := Lib.hid (HA2.out.on b')
      clear b' HS2 HA2 HL1
      go_wp2_with (refine wpList_met (by rfl) ?_; refine append_bytes rfl (.tmp 50) (.tmp 51) rfl (.slice (some ⟨x2.heap.size, 0, none⟩) 3 3) (.slice (some ⟨w0.heap.size, 0, none⟩) 12 12) [242, 15, (c : Int)] [rm, s, d % 256, d / 256 % 256, d / 65536 % 256, d / 16777216, s, rm, 0, 1, 2, 3] rfl rfl _ rfl (slc_new x2 _ _ 3 3 _ (Nat.le_refl _) (by intro i hi; match i, hi with | 0, _ => rfl | 1, _ => rfl | 2, _ => rfl)) (slc_range [rm, s, d % 256, d / 256 % 256, d / 65536 % 256, d / 16777216, s, rm, 0, 1, 2, 3] 12 (Nat.le_refl _) ((HL2.out.alloc _).at_ _ _ (by simp)) 12 (Nat.le_refl _)) (by simp) (by simp) ?_; intro v3 u3 hs' hb'; have HS3 := Lib.hid hs'; have HA3 := Lib.hid ((HL2.out.alloc _).on hb'); clear hs' hb')
      refine (same_any v3 ([242, 15, (c : Int)].length + [rm, s, d % 256, d / 256 % 256, d / 65536 % 256, d / 16777216, s, rm, 0, 1, 2, 3].length) (lst ([242, 15, (c : Int)] ++ [rm, s, d % 256, d / 256 % 256, d / 65536 % 256, d / 16777216, s, rm, 0, 1, 2, 3])) (lst_ok (fun y hy => (List.mem_append.1 hy).elim (fun hy => by simp at hy; omega) (HT.out y))) (by simp) _ HS3.out).mono ?_
      rintro e x3 ⟨rfl, b'⟩
      have HL3 := Lib.hid (HA3.out.on b')
      clear b' HS3 HA3 HL2
      go_wp2_with fail
      refine (same_any _ 10 (lst [102, 15, (c : Int), rm, s, rm, s, rm, s, rm]) (lst_ok (by simp; omega)) (by decide) _ (slc_new x3 _ _ 10 10 _ (Nat.le_refl _) (by intro i hi; match i, hi with | 0, _ => rfl | 1, _ => rfl | 2, _ => rfl | 3, _ => rfl | 4, _ => rfl | 5, _ => rfl | 6, _ => rfl | 7, _ => rfl | 8, _ => rfl | 9, _ => rfl))).mono ?_
      rintro e x4 ⟨rfl, b'⟩
      have HL4 := Lib.hid ((HL3.out.alloc _).on b')
      clear b' HL3
      go_wp2_with fail
      refine (same_any _ 3 (lst [243, (c : Int), rm]) (lst_ok (by simp; omega)) (by decide) _ (slc_new x4 _ _ 3 3 _ (Nat.le_refl _) (by intro i hi; match i, hi with | 0, _ => rfl | 1, _ => rfl | 2, _ => rfl))).mono ?_
      rintro e x5 ⟨rfl, b'⟩
      have HL5 := Lib.hid ((HL4.out.alloc _).on b')
      clear b' HL4
      go_wp2_with fail
      go_roundw
      case rel => exact ⟨c + 1, by omega, by go_num, HL5.out⟩
      case measure => simp [intOf]; omega
    · obtain rfl : c = 256 := by omega
      go_wp2
      go_ret
      exact ⟨rfl, HL.out.below⟩

theorem decodeTable_own : ownKnob Try.prog.godebug = none := by kernel_rfl
set_option maxRecDepth 100000 in
theorem decodeTable_lifted (os : Os) (started : os.Started) (H : Type) (enc : TypeId × Value → H) :
    ReturnsInHanded {} Try.checked os 4 .any (Rows.decodeTableSpec.pre6 enc Try.prog Try.f4 Rows.decodeTableRow.domain false) (Rows.decodeTableSpec.post enc Try.prog Try.f4 false true false false) := by
  refine returnsInHanded_of_change (C := Try.checked) decodeTable_own started (by kernel_rfl) Try.func4
    (ChangeSpec.witness6 (enc := enc) (C := Try.checked) false ⟨#[], #[.int .u8 0, .int .u8 0, .int .u32 0], []⟩ 8 (by kernel_rfl) (by kernel_rfl) (by kernel_rfl) (by kernel_rfl)) ?_
  intro W base args ds gs before hval0 hW hcnd _
  have hval : ∀ (j : Nat) t v, Try.f4.params[j]? = some t → args[j]? = some v → Value.okWide Try.prog W .any base t v := hval0
  have hW' := hW
  obtain ⟨p, q, hA0, hV, rfl, hfz, hnd⟩ := hW
  have hA : DataW.TrodAll enc Try.prog W 0 (fun _ => true) true Try.f4.params.toList args.toList ds p := hA0
  rw [Try.params4] at hA hval
  obtain ⟨v0, vs0, d0, ds0, p0, q0, hargs, rfl, rfl, h0, r0⟩ := trodAll_cons hA
  obtain ⟨v1, vs1, d1, ds1, p1, q1, rfl, rfl, rfl, h1, r1⟩ := trodAll_cons r0
  obtain ⟨v2, vs2, d2, ds2, p2, q2, rfl, rfl, rfl, h2, r2⟩ := trodAll_cons r1
  obtain ⟨rfl, rfl, rfl⟩ := trodAll_nil r2
  obtain rfl : args = #[v0, v1, v2] := by cases args; simp_all
  obtain ⟨rfl, rfl⟩ := trodVars_none hV
  obtain ⟨a0, rfl, rfl, rfl, w0⟩ := open_int Try.underlying5 (hval 0 5 v0 rfl rfl) h0
  obtain ⟨a1, rfl, rfl, rfl, w1⟩ := open_int Try.underlying5 (hval 1 5 v1 rfl rfl) h1
  obtain ⟨a2, rfl, rfl, rfl, w2⟩ := open_int Try.underlying23 (hval 2 23 v2 rfl rfl) h2
  clear hA0 hval0
  simp only [List.append_nil] at hW'
  have b0 : 0 ≤ a0 ∧ a0 < 256 := by
    have h := w0
    simp only [Lit.wf, Bool.and_eq_true, decide_eq_true_eq] at h
    have e1 : IntKind.u8.min = 0 := by decide
    have e2 : IntKind.u8.max = 255 := by decide
    omega
  have b1 : 0 ≤ a1 ∧ a1 < 256 := by
    have h := w1
    simp only [Lit.wf, Bool.and_eq_true, decide_eq_true_eq] at h
    have e1 : IntKind.u8.min = 0 := by decide
    have e2 : IntKind.u8.max = 255 := by decide
    omega
  have b2 : 0 ≤ a2 ∧ a2 < 4294967296 := by
    have h := w2
    simp only [Lit.wf, Bool.and_eq_true, decide_eq_true_eq] at h
    have e1 : IntKind.u32.min = 0 := by decide
    have e2 : IntKind.u32.max = 4294967295 := by decide
    omega
  refine (dectable_walk a0 a1 a2 W b0.1 b0.2 b1.1 b1.2 b2.1 b2.2).mono fun e W' ⟨he, hg⟩ => ?_
  subst he
  exact ⟨_, rfl, post_plain hW' hg (fun sp => (trodAll_cons_mk (shut_int Try.underlying5 w0) (trodAll_cons_mk (shut_int Try.underlying5 w1) (trodAll_cons_mk (shut_int Try.underlying23 w2) trodAll_mk0)))) (fun _ => rfl)
    (fun _ _ _ => (trodAll_cons_mk (shut_bool Try.underlying4 _) trodAll_mk0)) (ok_one (by kernel_rfl) rfl (okWide_bool_mk Try.underlying4 _))⟩

theorem decodeTable_holds : Rows.DecodeTableSaid :=
  OpenClaim.holds_of_wide 4 Try.f4 rfl rfl rfl rfl rfl rfl rfl ⟨rfl, rfl, rfl, rfl, rfl⟩ rfl rfl rfl rfl rfl (by kernel_rfl) Try.func4 (by kernel_rfl)
    (of_decide_eq_true (by kernel_rfl)) (by unfold Func.isWrapper; first | (rw [if_pos (by decide +kernel)]; kernel_rfl) | (rw [if_neg (by decide +kernel)]; exact ⟨rfl, rfl⟩))
    (fun os started H enc _ => decodeTable_lifted os started H enc)
#print axioms decodeTable_holds
end Go.Proofs.Ytlhfpfiehgcciaa
