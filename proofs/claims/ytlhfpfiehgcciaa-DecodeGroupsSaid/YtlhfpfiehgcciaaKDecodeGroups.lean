/- Which operations the byte behind an opcode chooses, and which it refuses. -/
import Derived.Test.YtlhfpfiehgcciaaKW
import Derived.Test.YtlhfpfiehgcciaaKX
namespace Go.Proofs.Ytlhfpfiehgcciaa
open Go.ChangeShapes Go.WideShapes Go.ChangeAt Go.RowKit

theorem or_bd8 (a b : Int) : 0 ≤ bits .or .u8 a b ∧ bits .or .u8 a b < 256 := by
  show 0 ≤ IntKind.u8.wrap _ ∧ IntKind.u8.wrap _ < 256
  rw [IntKind.wrap_u8]
  omega
theorem grp_cell (j : Nat) (h : j < 13) : (#[.int .u8 128, .int .u8 129, .int .u8 131, .int .u8 143, .int .u8 193, .int .u8 198, .int .u8 199, .int .u8 209, .int .u8 211, .int .u8 246, .int .u8 247, .int .u8 254, .int .u8 255] : Array Value)[j]? = some (.int .u8 (grps.getD j 0)) := by
  match j, h with
  | 0, _ => rfl
  | 1, _ => rfl
  | 2, _ => rfl
  | 3, _ => rfl
  | 4, _ => rfl
  | 5, _ => rfl
  | 6, _ => rfl
  | 7, _ => rfl
  | 8, _ => rfl
  | 9, _ => rfl
  | 10, _ => rfl
  | 11, _ => rfl
  | 12, _ => rfl
set_option maxRecDepth 100000 in
set_option maxHeartbeats 8000000 in
theorem decgroups_walk (rm d : Int) (w : World) (_r0 : 0 ≤ rm) (_r1 : rm < 256) (d0 : 0 ≤ d) (d1 : d < 4294967296) :
    Calls Try.prog 9 #[.int .u8 rm, .int .u32 d] w fun e w' => e = .returned (.bool true) ∧ Below w.heap.size w w' := by
  have HT := Lib.hid (show ∀ y ∈ [d % 256, d / 256 % 256, d / 65536 % 256, d / 16777216, 1, 2, 3, 4, 5], 0 ≤ y ∧ y < 256 from fun y hy => by
    simp only [List.mem_cons, List.not_mem_nil, or_false] at hy
    rcases hy with rfl | rfl | rfl | rfl | rfl | rfl | rfl | rfl | rfl <;> omega)
  go_enter Try.func9, Try.ntmps9
  go_wp2_with fail
  refine (known10_any _).mono ?_
  rintro e w0 ⟨rfl, B0⟩
  have HL0 := Lib.hid ((Lies.none B0).lit #[.int .u8 (d % 256), .int .u8 (d / 256 % 256), .int .u8 (d / 65536 % 256), .int .u8 (d / 16777216), .int .u8 1, .int .u8 2, .int .u8 3, .int .u8 4, .int .u8 5] 5 _ rfl)
  clear B0
  go_wp2_with fail
  go_loopw [6] (fun v6 wr => ∃ k : Nat, k ≤ 8 ∧ v6 = .int .u8 k ∧ Lies w [(w0.heap.size, #[.int .u8 (d % 256), .int .u8 (d / 256 % 256), .int .u8 (d / 65536 % 256), .int .u8 (d / 16777216), .int .u8 1, .int .u8 2, .int .u8 3, .int .u8 4, .int .u8 5].toList)] wr) (fun v6 _ => 8 - (intOf v6).toNat)
  case atStart => exact ⟨0, by omega, rfl, HL0.out⟩
  case round =>
    obtain ⟨k, hk, rfl, hli⟩ := hrel
    have HL := Lib.hid hli
    clear hli
    by_cases hlt : k < 8
    · have hd1 : decide ((k : Int) < 8) = true := by simp; omega
      have hk8 : (k : Int) < 8 := by omega
      go_wp2_with fail
      have hMb := or_bd8 (bits .and .u8 rm 199) ((k : Int) * 8)
      generalize bits .or .u8 (bits .and .u8 rm 199) ((k : Int) * 8) = M at *
      have HL1 := Lib.hid (HL.out.lit #[.int .u8 128, .int .u8 129, .int .u8 131, .int .u8 143, .int .u8 193, .int .u8 198, .int .u8 199, .int .u8 209, .int .u8 211, .int .u8 246, .int .u8 247, .int .u8 254, .int .u8 255] 5 _ rfl)
      clear HL HL0
      generalize hB : wr.heap.size = B at *
      obtain ⟨LS, hLS⟩ : ∃ LS : List (Nat × List Value), LS = [(B, #[.int .u8 128, .int .u8 129, .int .u8 131, .int .u8 143, .int .u8 193, .int .u8 198, .int .u8 199, .int .u8 209, .int .u8 211, .int .u8 246, .int .u8 247, .int .u8 254, .int .u8 255].toList), (w0.heap.size, #[.int .u8 (d % 256), .int .u8 (d / 256 % 256), .int .u8 (d / 65536 % 256), .int .u8 (d / 16777216), .int .u8 1, .int .u8 2, .int .u8 3, .int .u8 4, .int .u8 5].toList)] := ⟨_, rfl⟩
      have HMG := Lib.hid (show (B, #[.int .u8 128, .int .u8 129, .int .u8 131, .int .u8 143, .int .u8 193, .int .u8 198, .int .u8 199, .int .u8 209, .int .u8 211, .int .u8 246, .int .u8 247, .int .u8 254, .int .u8 255].toList) ∈ LS by rw [hLS]; simp)
      have HMT := Lib.hid (show (w0.heap.size, #[.int .u8 (d % 256), .int .u8 (d / 256 % 256), .int .u8 (d / 65536 % 256), .int .u8 (d / 16777216), .int .u8 1, .int .u8 2, .int .u8 3, .int .u8 4, .int .u8 5].toList) ∈ LS by rw [hLS]; simp)
      have HL2 := Lib.hid (show Lies w LS (wr.alloc (.cells #[.int .u8 128, .int .u8 129, .int .u8 131, .int .u8 143, .int .u8 193, .int .u8 198, .int .u8 199, .int .u8 209, .int .u8 211, .int .u8 246, .int .u8 247, .int .u8 254, .int .u8 255] 5)) by rw [hLS]; exact HL1.out)
      have HBK := Lib.hid (show ∀ u, Lies w LS u → Lies w [(w0.heap.size, #[.int .u8 (d % 256), .int .u8 (d / 256 % 256), .int .u8 (d / 65536 % 256), .int .u8 (d / 16777216), .int .u8 1, .int .u8 2, .int .u8 3, .int .u8 4, .int .u8 5].toList)] u from fun u hu => ⟨hu.below, fun p hp => by obtain rfl := List.mem_singleton.1 hp; exact hu.all _ HMT.out⟩)
      clear hLS HL1
      go_loopw [43] (fun v43 wr => ∃ j : Nat, j ≤ 13 ∧ v43 = .int .i64 j ∧ Lies w LS wr) (fun v43 _ => 13 - (intOf v43).toNat)
      case atStart => exact ⟨0, by omega, rfl, HL2.out⟩
      case round =>
        obtain ⟨j, hj, rfl, hli⟩ := hrel
        have HL := Lib.hid hli
        clear hli HL2
        by_cases hjt : j < 13
        · have hd2 : decide ((j : Int) < 13) = true := by simp; omega
          have hj13 : (j : Int) < 13 := by omega
          obtain ⟨hg1, g0, g1, ga, gb, gc, gd⟩ := grp_one j hjt
          have hcell : wr.cell? ⟨B, j, none⟩ = some (.int .u8 (grps.getD j 0)) := by
            have := HL.out.at_ B _ HMG.out j (.int .u8 (grps.getD j 0)) (by have := grp_cell j hjt; simpa using this)
            rwa [Nat.zero_add] at this
          generalize grps.getD j 0 = c at *
          have HG1 := Lib.hid hg1
          clear hg1
          obtain ⟨⟨I, E⟩, hx⟩ : ∃ x, x = oneF ([c, M].length + [d % 256, d / 256 % 256, d / 65536 % 256, d / 16777216, 1, 2, 3, 4, 5].length) (lst ([c, M] ++ [d % 256, d / 256 % 256, d / 65536 % 256, d / 16777216, 1, 2, 3, 4, 5])) := ⟨_, rfl⟩
          have HX := Lib.hid hx
          clear hx
          go_wp2_with (at_builtin; refine append_bytes rfl (.tmp 50) (.tmp 51) rfl (.slice (some ⟨wr.heap.size, 0, none⟩) 2 2) (.slice (some ⟨w0.heap.size, 0, none⟩) 9 9) [c, M] [d % 256, d / 256 % 256, d / 65536 % 256, d / 16777216, 1, 2, 3, 4, 5] rfl rfl _ rfl (slc_new wr _ _ 2 2 _ (Nat.le_refl _) (by intro i hi; match i, hi with | 0, _ => rfl | 1, _ => rfl)) (slc_range [d % 256, d / 256 % 256, d / 65536 % 256, d / 16777216, 1, 2, 3, 4, 5] 9 (Nat.le_refl _) ((HL.out.alloc _).at_ _ _ (by simp [HMT.out])) 9 (Nat.le_refl _)) (by simp) (by simp) ?_; intro v1 u1 hs' hb'; have HS1 := Lib.hid hs'; have HA1 := Lib.hid ((HL.out.alloc _).on hb'); clear hs' hb')
          have HD := Lib.hid (done_any v1 ([c, M].length + [d % 256, d / 256 % 256, d / 65536 % 256, d / 16777216, 1, 2, 3, 4, 5].length) (lst ([c, M] ++ [d % 256, d / 256 % 256, d / 65536 % 256, d / 16777216, 1, 2, 3, 4, 5])) (lst_ok (fun y hy => (List.mem_append.1 hy).elim (fun hy => by simp at hy; omega) (HT.out y))) (by simp) _ HS1.out)
          rw [← HX.out] at HD
          refine HD.out.mono ?_
          rintro e w1 ⟨rfl, b'⟩
          unfold insR
          have HL3 := Lib.hid (HA1.out.on b')
          clear b' HD HS1 HA1 HL
          have HT1 := Lib.hid (there_alloc_new w1 zeroA 33 18 (by decide))
          go_wp2_with (first
            | (refine store_ins rfl (.tmp 10) (.tmp 54) rfl w1.heap.size rfl I rfl HT1.out ?_; intro Y1 hY hl; have HP1 := Lib.hid (HL3.out.put zeroA 33 (insL I) (Nat.le_refl 18) _ rfl Y1 hY); clear hY hl)
            | (at_builtin; refine append_bytes rfl (.tmp 59) (.tmp 60) rfl (.slice (some ⟨Y1.heap.size, 0, none⟩) 2 2) (.slice (some ⟨w0.heap.size, 0, none⟩) 9 9) [c, M] [d % 256, d / 256 % 256, d / 65536 % 256, d / 16777216, 1, 2, 3, 4, 5] rfl rfl _ rfl (slc_new Y1 _ _ 2 2 _ (Nat.le_refl _) (by intro i hi; match i, hi with | 0, _ => rfl | 1, _ => rfl)) (slc_range [d % 256, d / 256 % 256, d / 65536 % 256, d / 16777216, 1, 2, 3, 4, 5] 9 (Nat.le_refl _) ((HP1.out.alloc _).at_ _ _ (by simp [HMT.out])) 9 (Nat.le_refl _)) (by simp) (by simp) ?_; intro v2 u2 hs' hb'; have HS2 := Lib.hid hs'; have HA2 := Lib.hid ((HP1.out.alloc _).on hb'); clear hs' hb'))
          have HD := Lib.hid (rone_any v2 ([c, M].length + [d % 256, d / 256 % 256, d / 65536 % 256, d / 16777216, 1, 2, 3, 4, 5].length) (lst ([c, M] ++ [d % 256, d / 256 % 256, d / 65536 % 256, d / 16777216, 1, 2, 3, 4, 5])) (lst_ok (fun y hy => (List.mem_append.1 hy).elim (fun hy => by simp at hy; omega) (HT.out y))) (by simp) _ HS2.out)
          rw [← HX.out] at HD
          refine HD.out.mono ?_
          rintro e w2 ⟨rfl, b'⟩
          unfold insR
          have HL4 := Lib.hid (HA2.out.on b')
          clear b' HD HS2 HA2 HL3 HP1 HT1
          have HT1 := Lib.hid (there_alloc_new w2 zeroA 33 18 (by decide))
          go_wp2_with (refine store_ins rfl (.tmp 12) (.tmp 63) rfl w2.heap.size rfl I rfl HT1.out ?_; intro Y2 hY hl; have HP2 := Lib.hid (HL4.out.put zeroA 33 (insL I) (Nat.le_refl 18) _ rfl Y2 hY); clear hY hl)
          refine (done_any _ 1 (lst [c]) (lst_ok (by simp; omega)) (by decide) _ (slc_new Y2 _ _ 1 1 _ (Nat.le_refl _) (by intro i hi; match i, hi with | 0, _ => rfl))).mono ?_
          rintro e w3 ⟨rfl, b'⟩
          rw [HG1.out]
          unfold insR
          have HL5 := Lib.hid ((HP2.out.alloc _).on b')
          clear b' HL4 HP2 HT1
          have HT1 := Lib.hid (there_alloc_new w3 zeroA 33 18 (by decide))
          have hEE : (E != E) = false := bne_self_eq_false E
          by_cases he : E = 22
          · have he1 : (E == 22) = true := by simp [he]
            have hb2 : oneF 2 (lst [c, M]) = (zeroI, 22) := one_bad (L := ([c, M].length + [d % 256, d / 256 % 256, d / 65536 % 256, d / 16777216, 1, 2, 3, 4, 5].length)) (bs := (lst ([c, M] ++ [d % 256, d / 256 % 256, d / 65536 % 256, d / 16777216, 1, 2, 3, 4, 5]))) (by simp) (by rw [← HX.out]; exact he) rfl rfl ga gb gc gd
            have HB2 := Lib.hid hb2
            clear hb2
            subst he
            go_wp2_with (first
              | (refine store_ins rfl (.tmp 14) (.tmp 69) rfl w3.heap.size rfl zeroI rfl HT1.out ?_; intro Y3 hY hl; have HP3 := Lib.hid (HL5.out.put zeroA 33 (insL zeroI) (Nat.le_refl 18) _ rfl Y3 hY); clear hY hl)
              | (refine wpList_load_mid rfl 33 (.tmp 10) rfl w1.heap.size 0 rfl (insL I) _ (HP3.out.at_ _ _ (by simp)) Try.underlying33 rfl info_ins ?_)
              | (refine wpList_load_mid rfl 33 (.tmp 12) rfl w2.heap.size 0 rfl (insL I) _ (HP3.out.at_ _ _ (by simp)) Try.underlying33 rfl info_ins ?_)
              | (refine wpList_neq_ins rfl (.tmp 71) (.tmp 72) rfl I rfl rfl ?_))
            refine (done_any _ 2 (lst [c, M]) (lst_ok (by simp; omega)) (by decide) _ (slc_new Y3 _ _ 2 2 _ (Nat.le_refl _) (by intro i hi; match i, hi with | 0, _ => rfl | 1, _ => rfl))).mono ?_
            rintro e w4 ⟨rfl, b'⟩
            rw [HB2.out]
            unfold insR
            have HL6 := Lib.hid ((HP3.out.alloc _).on b')
            clear b' HL5 HP3 HT1
            have HT1 := Lib.hid (there_alloc_new w4 zeroA 33 18 (by decide))
            go_wp2_with (refine store_ins rfl (.tmp 16) (.tmp 90) rfl w4.heap.size rfl zeroI rfl HT1.out ?_; intro Y4 hY hl; have HP4 := Lib.hid (HL6.out.put zeroA 33 (insL zeroI) (Nat.le_refl 18) _ rfl Y4 hY); clear hY hl)
            go_roundw
            case rel => exact ⟨j + 1, by omega, by go_num, ⟨HP4.out.below, fun p hp => HP4.out.all p (by simp [hp])⟩⟩
            case measure => simp [intOf]; omega
          · have he1 : (E == 22) = false := by simpa using he
            go_wp2_with (first
              | (refine store_ins rfl (.tmp 14) (.tmp 69) rfl w3.heap.size rfl zeroI rfl HT1.out ?_; intro Y3 hY hl; have HP3 := Lib.hid (HL5.out.put zeroA 33 (insL zeroI) (Nat.le_refl 18) _ rfl Y3 hY); clear hY hl)
              | (refine wpList_load_mid rfl 33 (.tmp 10) rfl w1.heap.size 0 rfl (insL I) _ (HP3.out.at_ _ _ (by simp)) Try.underlying33 rfl info_ins ?_)
              | (refine wpList_load_mid rfl 33 (.tmp 12) rfl w2.heap.size 0 rfl (insL I) _ (HP3.out.at_ _ _ (by simp)) Try.underlying33 rfl info_ins ?_)
              | (refine wpList_neq_ins rfl (.tmp 71) (.tmp 72) rfl I rfl rfl ?_))
            go_roundw
            case rel => exact ⟨j + 1, by omega, by go_num, ⟨HP3.out.below, fun p hp => HP3.out.all p (by simp [hp])⟩⟩
            case measure => simp [intOf]; omega
        · obtain rfl : j = 13 := by omega
          go_wp2_with fail
          go_roundw
          case rel => exact ⟨k + 1, by omega, by go_num, HBK.out _ HL.out⟩
          case measure => simp [intOf]; omega
    · obtain rfl : k = 8 := by omega
      go_wp2
      go_ret
      exact ⟨rfl, HL.out.below⟩

theorem decodeGroups_own : ownKnob Try.prog.godebug = none := by kernel_rfl
set_option maxRecDepth 100000 in
theorem decodeGroups_lifted (os : Os) (started : os.Started) (H : Type) (enc : TypeId × Value → H) :
    ReturnsInHanded {} Try.checked os 9 .any (Rows.decodeGroupsSpec.pre6 enc Try.prog Try.f9 Rows.decodeGroupsRow.domain false) (Rows.decodeGroupsSpec.post enc Try.prog Try.f9 false true false false) := by
  refine returnsInHanded_of_change (C := Try.checked) decodeGroups_own started (by kernel_rfl) Try.func9
    (ChangeSpec.witness6 (enc := enc) (C := Try.checked) false ⟨#[], #[.int .u8 0, .int .u32 0], []⟩ 8 (by kernel_rfl) (by kernel_rfl) (by kernel_rfl) (by kernel_rfl)) ?_
  intro W base args ds gs before hval0 hW hcnd _
  have hval : ∀ (j : Nat) t v, Try.f9.params[j]? = some t → args[j]? = some v → Value.okWide Try.prog W .any base t v := hval0
  have hW' := hW
  obtain ⟨p, q, hA0, hV, rfl, hfz, hnd⟩ := hW
  have hA : DataW.TrodAll enc Try.prog W 0 (fun _ => true) true Try.f9.params.toList args.toList ds p := hA0
  rw [Try.params9] at hA hval
  obtain ⟨v0, vs0, d0, ds0, p0, q0, hargs, rfl, rfl, h0, r0⟩ := trodAll_cons hA
  obtain ⟨v1, vs1, d1, ds1, p1, q1, rfl, rfl, rfl, h1, r1⟩ := trodAll_cons r0
  obtain ⟨rfl, rfl, rfl⟩ := trodAll_nil r1
  obtain rfl : args = #[v0, v1] := by cases args; simp_all
  obtain ⟨rfl, rfl⟩ := trodVars_none hV
  obtain ⟨a0, rfl, rfl, rfl, w0⟩ := open_int Try.underlying5 (hval 0 5 v0 rfl rfl) h0
  obtain ⟨a1, rfl, rfl, rfl, w1⟩ := open_int Try.underlying23 (hval 1 23 v1 rfl rfl) h1
  clear hA0 hval0
  simp only [List.append_nil] at hW'
  have b0 : 0 ≤ a0 ∧ a0 < 256 := by
    have h := w0
    simp only [Lit.wf, Bool.and_eq_true, decide_eq_true_eq] at h
    have e1 : IntKind.u8.min = 0 := by decide
    have e2 : IntKind.u8.max = 255 := by decide
    omega
  have b1 : 0 ≤ a1 ∧ a1 < 4294967296 := by
    have h := w1
    simp only [Lit.wf, Bool.and_eq_true, decide_eq_true_eq] at h
    have e1 : IntKind.u32.min = 0 := by decide
    have e2 : IntKind.u32.max = 4294967295 := by decide
    omega
  refine (decgroups_walk a0 a1 W b0.1 b0.2 b1.1 b1.2).mono fun e W' ⟨he, hg⟩ => ?_
  subst he
  exact ⟨_, rfl, post_plain hW' hg (fun sp => (trodAll_cons_mk (shut_int Try.underlying5 w0) (trodAll_cons_mk (shut_int Try.underlying23 w1) trodAll_mk0))) (fun _ => rfl)
    (fun _ _ _ => (trodAll_cons_mk (shut_bool Try.underlying4 _) trodAll_mk0)) (ok_one (by kernel_rfl) rfl (okWide_bool_mk Try.underlying4 _))⟩

theorem decodeGroups_holds : Rows.DecodeGroupsSaid :=
  OpenClaim.holds_of_wide 9 Try.f9 rfl rfl rfl rfl rfl rfl rfl ⟨rfl, rfl, rfl, rfl, rfl⟩ rfl rfl rfl rfl rfl (by kernel_rfl) Try.func9 (by kernel_rfl)
    (of_decide_eq_true (by kernel_rfl)) (by unfold Func.isWrapper; first | (rw [if_pos (by decide +kernel)]; kernel_rfl) | (rw [if_neg (by decide +kernel)]; exact ⟨rfl, rfl⟩))
    (fun os started H enc _ => decodeGroups_lifted os started H enc)
#print axioms decodeGroups_holds
end Go.Proofs.Ytlhfpfiehgcciaa
