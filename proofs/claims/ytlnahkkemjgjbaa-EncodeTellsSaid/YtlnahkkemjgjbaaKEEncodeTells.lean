/- Each instruction that is read has bytes, of which it is read again. -/
import Derived.Test.YtlnahkkemjgjbaaKEO11
import Derived.Test.YtlnahkkemjgjbaaKEW
namespace Go.Proofs.Ytlnahkkemjgjbaa
open Go.ChangeShapes Go.WideShapes Go.ChangeAt Go.RowKit
set_option maxRecDepth 100000
set_option maxHeartbeats 8000000
theorem enctells_walk (k rm d n : Int) (w : World) (k0 : 0 ≤ k) (k1 : k < 256) (r0 : 0 ≤ rm) (r1 : rm < 256) (d0 : 0 ≤ d) (d1 : d < 4294967296) :
    Calls Try.prog 3 #[.int .u8 k, .int .u8 rm, .int .u32 d, .int .i64 n] w fun e w' => e = .returned (.bool true) ∧ Below w.heap.size w w' := by
  have HBY := Lib.hid (fun w => bytes_any k rm d w k0 k1 d0 d1)
  have lok := bytesF_ok k rm d r0 r1 d0 d1
  obtain ⟨l13, l15⟩ := bytesF_len k rm d
  generalize bytesF k rm d = Y at *
  have HOK := Lib.hid lok
  have HL := Lib.hid l15
  clear lok l13 l15 k0 k1 r0 r1 d0 d1
  go_enter Try.func3, Try.ntmps3
  go_wp2_with fail
  refine (known11_any _).mono ?_
  rintro e w0 ⟨rfl, B0⟩
  have HB0 := Lib.hid B0
  clear B0
  go_wp2_with fail
  refine (HBY.out _).mono ?_
  rintro e w1 ⟨v1, rfl, O1, B1⟩
  have HS1 := Lib.hid O1.slc
  have HB1 := Lib.hid (below_step HB0.out B1)
  clear O1 B1
  go_wp2_with fail
  refine (rone_any v1 Y.length (lst Y) (lst_ok HOK.out) (by have := HL.out; omega) _ HS1.out).mono ?_
  rintro e w2 ⟨rfl, b2⟩
  obtain ⟨⟨I, E⟩, hx⟩ : ∃ y, y = oneF Y.length (lst Y) := ⟨_, rfl⟩
  rw [← hx]
  unfold insR
  have HX := Lib.hid hx
  have HB2 := Lib.hid (below_step HB1.out b2)
  clear hx b2 HS1
  have HT := Lib.hid (there_alloc_new w2 zeroA 27 18 (by decide))
  by_cases he : E = 0
  · subst he
    have hok := one_ok (lst_ok HOK.out) HX.out.symm
    have hen := enc_some (lst_ok HOK.out) HX.out.symm
    have hrd := enc_read hen
    have HE := eone_any { I with len := n } hok.1 hok.2
    rw [enc_few] at HE
    obtain ⟨⟨E1, F1⟩, hE1⟩ : ∃ y, y = encF I := ⟨_, rfl⟩
    rw [← hE1] at HE hrd hen
    obtain rfl : F1 = 0 := hen
    rw [show insV { I with len := n } = .agg (insL { I with len := n }).toArray from rfl] at HE
    have HE := Lib.hid HE
    have HRD := Lib.hid hrd
    clear hok hrd hE1
    go_wp2_with (first
      | (refine store_ins rfl (.tmp 9) (.tmp 24) rfl w2.heap.size rfl I rfl HT.out ?_; intro Y1 hY hl; clear hl; obtain ⟨q1, q2, q3⟩ := stored hY; have HA1 := Lib.hid q1; have HB3 := Lib.hid (below_step HB2.out q2); have HT2 := Lib.hid (there_alloc_new Y1 zeroA 27 18 (by decide)); clear hY q1 q2 q3)
      | (refine wpList_load_mid rfl 27 (.tmp 9) rfl w2.heap.size 0 rfl (insL I) _ (seen_few _ _ _ _ HA1.out) Try.underlying27 rfl info_ins ?_)
      | (refine store_ins rfl (.tmp 11) (.tmp 28) rfl Y1.heap.size rfl I rfl HT2.out ?_; intro Y2 hY hl; clear hl; obtain ⟨q1, q2, q3⟩ := stored hY; have HA2 := Lib.hid (on_block HA1.out q2); have HC2 := Lib.hid q1; have HB4 := Lib.hid (below_step HB3.out q2); obtain ⟨c17, f17⟩ := cell_17 HC2.out; have hne : w2.heap.size ≠ Y1.heap.size := Nat.ne_of_lt (Array.getElem?_eq_some_iff.1 HA1.out).1; have HNE := Lib.hid hne; have hle := (show w.heap.size ≤ Y1.heap.size from HB3.out.size); have HLE := Lib.hid hle; clear hY q1 q2 q3 hne hle)
      | (refine wpList_load_mid rfl 27 (.tmp 11) rfl Y1.heap.size 0 rfl (insL { I with len := n }) _ (seen_few _ _ { I with len := n } _ (set_few HC2.out n)) Try.underlying27 rfl info_ins ?_))
    obtain ⟨W, hW⟩ : ∃ W, W = Y2.setCell ⟨Y1.heap.size, 17, none⟩ (.int .i64 n) := ⟨_, rfl⟩
    rw [← hW]
    have HA3 := Lib.hid (show W.heap[w2.heap.size]? = some (.cells (insC I) 27 (0, 0)) by rw [hW]; exact set_apart HA2.out HNE.out _ _)
    have HB5 := Lib.hid (show Below w.heap.size w W by rw [hW]; exact HB4.out.setCell HLE.out _)
    clear hW c17 f17
    refine (HE.out W).mono ?_
    rintro e w3 ⟨v3, rfl, hs3, b3⟩
    obtain ⟨a3, c3, rfl⟩ := hs3.len
    have HS3 := Lib.hid hs3
    have HA4 := Lib.hid (on_block HA3.out b3)
    have HB6 := Lib.hid (below_step HB5.out b3)
    clear hs3 b3
    dsimp only
    go_wp2_with fail
    refine (done_any _ E1.length (lst E1) (byte_lst HRD.out.2.1) (Nat.le_trans HRD.out.2.2 (by decide)) w3 HS3.out).mono ?_
    rintro e w4 ⟨rfl, b4⟩
    rw [HRD.out.1]
    unfold insR
    have HA5 := Lib.hid (on_block HA4.out b4)
    have HB7 := Lib.hid (below_step HB6.out b4)
    clear b4 HS3
    have HT4 := Lib.hid (there_alloc_new w4 zeroA 27 18 (by decide))
    go_wp2_with (first
      | (refine store_ins rfl (.tmp 14) (.tmp 39) rfl w4.heap.size rfl { I with len := (E1.length : Int) } rfl HT4.out ?_; intro Y4 hY hl; clear hl; obtain ⟨q1, q2, q3⟩ := stored hY; have HA6 := Lib.hid (on_block HA5.out q2); have HC6 := Lib.hid q1; have HB8 := Lib.hid (below_step HB7.out q2); obtain ⟨c17, f17⟩ := cell_17 HC6.out; obtain ⟨e17, _⟩ := cell_17 HA6.out; have hne : w2.heap.size ≠ w4.heap.size := Nat.ne_of_lt (Array.getElem?_eq_some_iff.1 HA5.out).1; have HNE2 := Lib.hid hne; have hle := (show w.heap.size ≤ w4.heap.size from HB7.out.size); have HLE2 := Lib.hid hle; clear hY q1 q2 q3 hne hle)
      | (refine wpList_load_mid rfl 27 (.tmp 9) rfl w2.heap.size 0 rfl (insL I) _ (seen_few _ _ _ _ (set_apart HA6.out HNE2.out _ _)) Try.underlying27 rfl info_ins ?_)
      | (refine wpList_load_mid rfl 27 (.tmp 14) rfl w4.heap.size 0 rfl (insL I) _ (seen_few _ _ I _ (set_few HC6.out I.len)) Try.underlying27 rfl info_ins ?_)
      | (refine wpList_eql_ins rfl (.tmp 57) (.tmp 58) rfl I rfl rfl ?_))
    go_returns
    exact ⟨rfl, HB8.out.setCell HLE2.out _⟩
  · have he1 : (E != 0) = true := by simpa using he
    go_wp2_with (refine store_ins rfl (.tmp 9) (.tmp 24) rfl w2.heap.size rfl I rfl HT.out ?_; intro Y1 hY hl; clear hl; obtain ⟨q1, q2, q3⟩ := stored hY; have HB3 := Lib.hid (below_step HB2.out q2); clear hY q1 q2 q3)
    go_returns
    exact ⟨rfl, HB3.out⟩
set_option maxRecDepth 512
theorem encodeTells_own : ownKnob Try.prog.godebug = none := by kernel_rfl
set_option maxRecDepth 100000
theorem encodeTells_lifted (os : Os) (started : os.Started) (H : Type) (enc : TypeId × Value → H) :
    ReturnsInHanded {} Try.checked os 3 .any (Rows.encodeTellsSpec.pre6 enc Try.prog Try.f3 Rows.encodeTellsRow.domain false) (Rows.encodeTellsSpec.post enc Try.prog Try.f3 false true false false) := by
  refine returnsInHanded_of_change (C := Try.checked) encodeTells_own started (by kernel_rfl) Try.func3
    (ChangeSpec.witness6 (enc := enc) (C := Try.checked) false ⟨#[], #[.int .u8 0, .int .u8 0, .int .u32 0, .int .i64 0], []⟩ 8 (by kernel_rfl) (by kernel_rfl) (by kernel_rfl) (by kernel_rfl)) ?_
  intro W base args ds gs before hval0 hW hcnd _
  have hval : ∀ (j : Nat) t v, Try.f3.params[j]? = some t → args[j]? = some v → Value.okWide Try.prog W .any base t v := hval0
  have hW' := hW
  obtain ⟨p, q, hA0, hV, rfl, hfz, hnd⟩ := hW
  have hA : DataW.TrodAll enc Try.prog W 0 (fun _ => true) true Try.f3.params.toList args.toList ds p := hA0
  rw [Try.params3] at hA hval
  obtain ⟨v0, vs0, d0, ds0, p0, q0, hargs, rfl, rfl, h0, r0⟩ := trodAll_cons hA
  obtain ⟨v1, vs1, d1, ds1, p1, q1, rfl, rfl, rfl, h1, r1⟩ := trodAll_cons r0
  obtain ⟨v2, vs2, d2, ds2, p2, q2, rfl, rfl, rfl, h2, r2⟩ := trodAll_cons r1
  obtain ⟨v3, vs3, d3, ds3, p3, q3, rfl, rfl, rfl, h3, r3⟩ := trodAll_cons r2
  obtain ⟨rfl, rfl, rfl⟩ := trodAll_nil r3
  obtain rfl : args = #[v0, v1, v2, v3] := by cases args; simp_all
  obtain ⟨rfl, rfl⟩ := trodVars_none hV
  obtain ⟨a0, rfl, rfl, rfl, w0⟩ := open_int Try.underlying5 (hval 0 5 v0 rfl rfl) h0
  obtain ⟨a1, rfl, rfl, rfl, w1⟩ := open_int Try.underlying5 (hval 1 5 v1 rfl rfl) h1
  obtain ⟨a2, rfl, rfl, rfl, w2⟩ := open_int Try.underlying22 (hval 2 22 v2 rfl rfl) h2
  obtain ⟨a3, rfl, rfl, rfl, w3⟩ := open_int Try.underlying3 (hval 3 3 v3 rfl rfl) h3
  clear hA0 hval0
  simp only [List.append_nil] at hW'
  have b0 : 0 ≤ a0 ∧ a0 < 256 := by
    have h := w0
    simp only [Lit.wf, Bool.and_eq_true, decide_eq_true_eq] at h
    have e1 : IntKind.u8.min = 0 := by decide
    have e2 : IntKind.u8.max = 255 := by decide
    omega
  have b1 : 0 ≤ a1 ∧ a1 < 256 := by
    have h := w1
    simp only [Lit.wf, Bool.and_eq_true, decide_eq_true_eq] at h
    have e1 : IntKind.u8.min = 0 := by decide
    have e2 : IntKind.u8.max = 255 := by decide
    omega
  have b2 : 0 ≤ a2 ∧ a2 < 4294967296 := by
    have h := w2
    simp only [Lit.wf, Bool.and_eq_true, decide_eq_true_eq] at h
    have e1 : IntKind.u32.min = 0 := by decide
    have e2 : IntKind.u32.max = 4294967295 := by decide
    omega
  refine (enctells_walk a0 a1 a2 a3 W b0.1 b0.2 b1.1 b1.2 b2.1 b2.2).mono fun e W' ⟨he, hg⟩ => ?_
  subst he
  exact ⟨_, rfl, post_plain hW' hg (fun sp => (trodAll_cons_mk (shut_int Try.underlying5 w0) (trodAll_cons_mk (shut_int Try.underlying5 w1) (trodAll_cons_mk (shut_int Try.underlying22 w2) (trodAll_cons_mk (shut_int Try.underlying3 w3) trodAll_mk0))))) (fun _ => rfl)
    (fun _ _ _ => (trodAll_cons_mk (shut_bool Try.underlying4 _) trodAll_mk0)) (ok_one (by kernel_rfl) rfl (okWide_bool_mk Try.underlying4 _))⟩
set_option maxRecDepth 512
theorem encodeTells_holds : Rows.EncodeTellsSaid :=
  OpenClaim.holds_of_wide 3 Try.f3 rfl rfl rfl rfl rfl rfl rfl ⟨rfl, rfl, rfl, rfl, rfl⟩ rfl rfl rfl rfl rfl (by kernel_rfl) Try.func3 (by kernel_rfl)
    (of_decide_eq_true (by kernel_rfl)) (by unfold Func.isWrapper; first | (rw [if_pos (by decide +kernel)]; kernel_rfl) | (rw [if_neg (by decide +kernel)]; exact ⟨rfl, rfl⟩))
    (fun os started H enc _ => encodeTells_lifted os started H enc)
#print axioms encodeTells_holds
end Go.Proofs.Ytlnahkkemjgjbaa
