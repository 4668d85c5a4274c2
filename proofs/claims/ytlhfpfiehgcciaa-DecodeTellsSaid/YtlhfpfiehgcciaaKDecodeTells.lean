/- Which instruction any bytes begin with, or why with none. -/
import Derived.Test.YtlhfpfiehgcciaaKW
import Derived.Test.YtlhfpfiehgcciaaKX
import Derived.Test.YtlhfpfiehgcciaaKY
namespace Go.Proofs.Ytlhfpfiehgcciaa
open Go.ChangeShapes Go.WideShapes Go.ChangeAt Go.RowKit

set_option maxRecDepth 100000 in
set_option maxHeartbeats 8000000 in
theorem dectells_walk (v : Value) (L : Nat) (bs : Nat → Int) (k rm d cut : Int) (w : World) (hs : Slc .u8 w v L bs) (hb : ∀ i, 0 ≤ bs i ∧ bs i < 256) (hL : L ≤ maxLen) (k0 : 0 ≤ k) (k1 : k < 256) (r0 : 0 ≤ rm) (r1 : rm < 256) (d0 : 0 ≤ d) (d1 : d < 4294967296) (t0 : 0 ≤ cut) (t1 : cut < 256) :
    Calls Try.prog 3 #[v, .int .u8 k, .int .u8 rm, .int .u32 d, .int .u8 cut] w fun e w' => e = .returned (.bool true) ∧ Below w.heap.size w w' := by
  unfold maxLen at hL
  obtain ⟨x, cap, rfl⟩ := hs.len
  go_enter Try.func3, Try.ntmps3
  go_wp2_with fail
  refine (known10_any _).mono ?_
  rintro e w0 ⟨rfl, B0⟩
  by_cases hbig : 100 < L
  · have hd : decide ((100 : Int) < (L : Int)) = true := decide_eq_true (by omega)
    go_wp2
    go_ret
    exact ⟨rfl, B0⟩
  have hd : decide ((100 : Int) < (L : Int)) = false := decide_eq_false (by omega)
  go_wp2_with fail
  refine (bytes_any k rm d _ k0 k1 d0 d1).mono ?_
  rintro e w1 ⟨v1, rfl, O1, B1⟩
  obtain ⟨l13, l15⟩ := bytesF_len k rm d
  have lok := bytesF_ok k rm d r0 r1 d0 d1
  generalize bytesF k rm d = Y at *
  obtain ⟨n, hn⟩ : ∃ n, n = Y.length := ⟨_, rfl⟩
  have S1 := O1.slc
  obtain ⟨g, c, rfl, _, _, hc, _⟩ := id O1
  rw [← hn] at S1 hc l13 l15
  rw [← hn]
  have H0 := Lib.hid ((hs.below B0).below B1)
  have H1 := Lib.hid S1
  have HB := Lib.hid (below_step B0 B1)
  have HOK := Lib.hid lok
  have HI := Lib.hid hb
  have HN := Lib.hid hn
  have HLL := Lib.hid (show L ≤ 1099511627776 by omega)
  have hq : 0 ≤ cut % (n : Int) ∧ cut % (n : Int) < (n : Int) := ⟨Int.emod_nonneg _ (by omega), Int.emod_lt_of_pos _ (by omega)⟩
  obtain ⟨q, hqe⟩ : ∃ q : Nat, cut % (n : Int) = q := ⟨(cut % (n : Int)).toNat, by omega⟩
  have hqn : q ≤ n := by omega
  have hn0 : ((n : Int) == 0) = false := by simp; omega
  have hsl := fun W => slice_head ⟨g, 0, none⟩ n c q (q : Int) rfl (by omega) W
  clear hs B0 B1 O1 S1 lok hb hn hq hbig hL
  go_wp2_with fail
  refine (same_any _ L bs HI.out HLL.out _ (H0.out)).mono ?_
  rintro e w2 ⟨rfl, b'⟩
  have HB2 := Lib.hid (b')
  clear b'
  go_wp2_with fail
  refine (same_any _ n (lst Y) (lst_ok HOK.out) (by omega) _ (H1.out.below HB2.out)).mono ?_
  rintro e w3 ⟨rfl, b'⟩
  have HB3 := Lib.hid (below_step HB2.out b')
  clear b'
  go_wp2_with fail
  refine (same_any _ q (lst Y) (lst_ok HOK.out) (by omega) _ ((slc_short H1.out hqn).below HB3.out)).mono ?_
  rintro e w4 ⟨rfl, b'⟩
  have HB4 := Lib.hid (below_step HB3.out b')
  clear b'
  go_wp2_with (refine wpList_met (by rfl) ?_; refine append_bytes rfl (.tmp 39) (.tmp 40) rfl (.slice (some ⟨w4.heap.size, 0, none⟩) 2 2) (.slice (some ⟨g, 0, none⟩) n c) [15, k] Y rfl rfl _ rfl (slc_new w4 _ _ 2 2 _ (Nat.le_refl _) (by intro i hi; match i, hi with | 0, _ => rfl | 1, _ => rfl)) (by rw [← HN.out]; exact H1.out.below (below_last HB4.out _)) (by rw [← HN.out]; omega) (by have := HN.out; simp; omega) ?_; intro v5 w5 hs' hb'; have HS5 := Lib.hid hs'; have HB5 := Lib.hid (below_step (below_last HB4.out _) hb'); clear hs' hb')
  refine (same_any v5 ([15, k].length + Y.length) (lst ([15, k] ++ Y)) (lst_ok (fun y hy => (List.mem_append.1 hy).elim (fun hy => by simp at hy; omega) (HOK.out y))) (by have := HN.out; simp; omega) _ (HS5.out)).mono ?_
  rintro e w6 ⟨rfl, b'⟩
  have HB6 := Lib.hid (below_step HB5.out b')
  clear b'
  go_wp2_with (refine wpList_met (by rfl) ?_; refine append_bytes rfl (.tmp 47) (.tmp 48) rfl (.slice (some ⟨w6.heap.size, 0, none⟩) 4 4) (.slice (some ⟨g, 0, none⟩) n c) [242, 15, k, rm] Y rfl rfl _ rfl (slc_new w6 _ _ 4 4 _ (Nat.le_refl _) (by intro i hi; match i, hi with | 0, _ => rfl | 1, _ => rfl | 2, _ => rfl | 3, _ => rfl)) (by rw [← HN.out]; exact H1.out.below (below_last HB6.out _)) (by rw [← HN.out]; omega) (by have := HN.out; simp; omega) ?_; intro v7 w7 hs' hb'; have HS7 := Lib.hid hs'; have HB7 := Lib.hid (below_step (below_last HB6.out _) hb'); clear hs' hb')
  refine (same_any v7 ([242, 15, k, rm].length + Y.length) (lst ([242, 15, k, rm] ++ Y)) (lst_ok (fun y hy => (List.mem_append.1 hy).elim (fun hy => by simp at hy; omega) (HOK.out y))) (by have := HN.out; simp; omega) _ (HS7.out)).mono ?_
  rintro e w8 ⟨rfl, b'⟩
  have HB8 := Lib.hid (below_step HB7.out b')
  clear b'
  go_wp2_with (refine wpList_met (by rfl) ?_; refine append_bytes rfl (.tmp 55) (.tmp 56) rfl (.slice (some ⟨w8.heap.size, 0, none⟩) 2 2) (.slice (some ⟨g, 0, none⟩) n c) [k, rm] Y rfl rfl _ rfl (slc_new w8 _ _ 2 2 _ (Nat.le_refl _) (by intro i hi; match i, hi with | 0, _ => rfl | 1, _ => rfl)) (by rw [← HN.out]; exact H1.out.below (below_last HB8.out _)) (by rw [← HN.out]; omega) (by have := HN.out; simp; omega) ?_; intro v9 w9 hs' hb'; have HS9 := Lib.hid hs'; have HB9 := Lib.hid (below_step (below_last HB8.out _) hb'); clear hs' hb')
  refine (same_any v9 ([k, rm].length + Y.length) (lst ([k, rm] ++ Y)) (lst_ok (fun y hy => (List.mem_append.1 hy).elim (fun hy => by simp at hy; omega) (HOK.out y))) (by have := HN.out; simp; omega) _ (HS9.out)).mono ?_
  rintro e w10 ⟨rfl, b'⟩
  have HB10 := Lib.hid (below_step HB9.out b')
  clear b'
  go_wp2_with fail
  go_ret
  exact ⟨rfl, below_step HB.out HB10.out⟩

theorem decodeTells_own : ownKnob Try.prog.godebug = none := by kernel_rfl
set_option maxRecDepth 100000 in
theorem decodeTells_lifted (os : Os) (started : os.Started) (H : Type) (enc : TypeId × Value → H) :
    ReturnsInHanded {} Try.checked os 3 .any (Rows.decodeTellsSpec.pre6 enc Try.prog Try.f3 Rows.decodeTellsRow.domain false) (Rows.decodeTellsSpec.post enc Try.prog Try.f3 false true false false) := by
  refine returnsInHanded_of_change (C := Try.checked) decodeTells_own started (by kernel_rfl) Try.func3
    (ChangeSpec.witness6 (enc := enc) (C := Try.checked) false ⟨#[], #[.slice none 0 0, .int .u8 0, .int .u8 0, .int .u32 0, .int .u8 0], []⟩ 8 (by kernel_rfl) (by kernel_rfl) (by kernel_rfl) (by kernel_rfl)) ?_
  intro W base args ds gs before hval0 hW hcnd _
  have hval : ∀ (j : Nat) t v, Try.f3.params[j]? = some t → args[j]? = some v → Value.okWide Try.prog W .any base t v := hval0
  have hW' := hW
  obtain ⟨p, q, hA0, hV, rfl, hfz, hnd⟩ := hW
  have hA : DataW.TrodAll enc Try.prog W 0 (fun _ => true) true Try.f3.params.toList args.toList ds p := hA0
  rw [Try.params3] at hA hval
  obtain ⟨v0, vs0, d0, ds0, p0, q0, hargs, rfl, rfl, h0, r0⟩ := trodAll_cons hA
  obtain ⟨v1, vs1, d1, ds1, p1, q1, rfl, rfl, rfl, h1, r1⟩ := trodAll_cons r0
  obtain ⟨v2, vs2, d2, ds2, p2, q2, rfl, rfl, rfl, h2, r2⟩ := trodAll_cons r1
  obtain ⟨v3, vs3, d3, ds3, p3, q3, rfl, rfl, rfl, h3, r3⟩ := trodAll_cons r2
  obtain ⟨v4, vs4, d4, ds4, p4, q4, rfl, rfl, rfl, h4, r4⟩ := trodAll_cons r3
  obtain ⟨rfl, rfl, rfl⟩ := trodAll_nil r4
  obtain rfl : args = #[v0, v1, v2, v3, v4] := by cases args; simp_all
  obtain ⟨rfl, rfl⟩ := trodVars_none hV
  obtain ⟨L0, bs0, hs0, hw0, hL0⟩ := open_slc Try.underlying22 Try.underlying5 (by kernel_rfl) (hval 0 22 v0 rfl rfl) h0
  obtain ⟨a1, rfl, rfl, rfl, w1⟩ := open_int Try.underlying5 (hval 1 5 v1 rfl rfl) h1
  obtain ⟨a2, rfl, rfl, rfl, w2⟩ := open_int Try.underlying5 (hval 2 5 v2 rfl rfl) h2
  obtain ⟨a3, rfl, rfl, rfl, w3⟩ := open_int Try.underlying23 (hval 3 23 v3 rfl rfl) h3
  obtain ⟨a4, rfl, rfl, rfl, w4⟩ := open_int Try.underlying5 (hval 4 5 v4 rfl rfl) h4
  clear hA0 hval0
  simp only [List.append_nil] at hW'
  have b0 : ∀ i, 0 ≤ bs0 i ∧ bs0 i < 256 := fun i => by
    have h := hw0 i
    simp only [Lit.wf, Bool.and_eq_true, decide_eq_true_eq] at h
    have e1 : IntKind.u8.min = 0 := by decide
    have e2 : IntKind.u8.max = 255 := by decide
    omega
  have b1 : 0 ≤ a1 ∧ a1 < 256 := by
    have h := w1
    simp only [Lit.wf, Bool.and_eq_true, decide_eq_true_eq] at h
    have e1 : IntKind.u8.min = 0 := by decide
    have e2 : IntKind.u8.max = 255 := by decide
    omega
  have b2 : 0 ≤ a2 ∧ a2 < 256 := by
    have h := w2
    simp only [Lit.wf, Bool.and_eq_true, decide_eq_true_eq] at h
    have e1 : IntKind.u8.min = 0 := by decide
    have e2 : IntKind.u8.max = 255 := by decide
    omega
  have b3 : 0 ≤ a3 ∧ a3 < 4294967296 := by
    have h := w3
    simp only [Lit.wf, Bool.and_eq_true, decide_eq_true_eq] at h
    have e1 : IntKind.u32.min = 0 := by decide
    have e2 : IntKind.u32.max = 4294967295 := by decide
    omega
  have b4 : 0 ≤ a4 ∧ a4 < 256 := by
    have h := w4
    simp only [Lit.wf, Bool.and_eq_true, decide_eq_true_eq] at h
    have e1 : IntKind.u8.min = 0 := by decide
    have e2 : IntKind.u8.max = 255 := by decide
    omega
  refine (dectells_walk v0 L0 bs0 a1 a2 a3 a4 W hs0 b0 hL0 b1.1 b1.2 b2.1 b2.2 b3.1 b3.2 b4.1 b4.2).mono fun e W' ⟨he, hg⟩ => ?_
  subst he
  exact ⟨_, rfl, post_mem hW' rfl (by kernel_rfl) (by kernel_rfl) hg rfl rfl
    (fun _ _ _ => (trodAll_cons_mk (shut_bool Try.underlying4 _) trodAll_mk0)) (ok_one (by kernel_rfl) rfl (okWide_bool_mk Try.underlying4 _))⟩

theorem decodeTells_holds : Rows.DecodeTellsSaid :=
  OpenClaim.holds_of_wide 3 Try.f3 rfl rfl rfl rfl rfl rfl rfl ⟨rfl, rfl, rfl, rfl, rfl⟩ rfl rfl rfl rfl rfl (by kernel_rfl) Try.func3 (by kernel_rfl)
    (of_decide_eq_true (by kernel_rfl)) (by unfold Func.isWrapper; first | (rw [if_pos (by decide +kernel)]; kernel_rfl) | (rw [if_neg (by decide +kernel)]; exact ⟨rfl, rfl⟩))
    (fun os started H enc _ => decodeTells_lifted os started H enc)
#print axioms decodeTells_holds
end Go.Proofs.Ytlhfpfiehgcciaa
