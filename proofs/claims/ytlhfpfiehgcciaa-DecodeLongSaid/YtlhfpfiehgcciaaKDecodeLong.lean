/- Bytes behind an instruction say nothing, and fewer of its own are too few. -/
import Derived.Test.YtlhfpfiehgcciaaKX
import Derived.Test.YtlhfpfiehgcciaaKY
namespace Go.Proofs.Ytlhfpfiehgcciaa
open Go.ChangeShapes Go.WideShapes Go.ChangeAt Go.RowKit

attribute [local go_sem] ins_guard1
theorem lst_take {l : List Int} {m i : Nat} (h : i < m) : lst (l.take m) i = lst l i := by
  unfold lst
  simp [List.getD_eq_getElem?_getD, h]
set_option maxRecDepth 100000 in
set_option maxHeartbeats 8000000 in
theorem declong_walk (k rm d : Int) (v : Value) (L : Nat) (bs : Nat → Int) (w : World) (k0 : 0 ≤ k) (k1 : k < 256) (r0 : 0 ≤ rm) (r1 : rm < 256) (d0 : 0 ≤ d) (d1 : d < 4294967296) (hs : Slc .u8 w v L bs) (hb : ∀ i, 0 ≤ bs i ∧ bs i < 256) (hL : L ≤ maxLen) :
    Calls Try.prog 6 #[.int .u8 k, .int .u8 rm, .int .u32 d, v] w fun e w' => e = .returned (.bool true) ∧ Below w.heap.size w w' := by
  unfold maxLen at hL
  obtain ⟨x, cap, rfl⟩ := hs.len
  go_enter Try.func6, Try.ntmps6
  go_wp2_with fail
  refine (known10_any _).mono ?_
  rintro e w0 ⟨rfl, B0⟩
  by_cases hbig : 60 < L
  · have hd : decide ((60 : Int) < (L : Int)) = true := decide_eq_true (by omega)
    go_wp2
    go_ret
    exact ⟨rfl, B0⟩
  have hd : decide ((60 : Int) < (L : Int)) = false := decide_eq_false (by omega)
  have hLL : L ≤ 60 := by omega
  go_wp2_with fail
  refine (bytes_any k rm d _ k0 k1 d0 d1).mono ?_
  rintro e w1 ⟨v1, rfl, O1, B1⟩
  obtain ⟨l13, l15⟩ := bytesF_len k rm d
  have lok := bytesF_ok k rm d r0 r1 d0 d1
  generalize bytesF k rm d = Y at *
  obtain ⟨n, hn⟩ : ∃ n, n = Y.length := ⟨_, rfl⟩
  have S1 := O1.slc
  obtain ⟨g, c, rfl, _, _, hc, _⟩ := id O1
  rw [← hn] at S1 hc l13 l15
  rw [← hn]
  have H0 := Lib.hid ((hs.below B0).below B1)
  have H1 := Lib.hid S1
  have HA := Lib.hid (Lies.none (below_step B0 B1))
  have HOK := Lib.hid lok
  have HI := Lib.hid hb
  obtain ⟨⟨I, E⟩, hx⟩ : ∃ x, x = oneF n (lst Y) := ⟨_, rfl⟩
  have hxc := one_code n (lst Y)
  rw [← hx] at hxc
  have HX := Lib.hid hx
  have hE0 : 0 ≤ E ∧ E ≤ 22 := by have hxc : E = 0 ∨ E = 21 ∨ E = 22 := hxc; omega
  have HN := Lib.hid hn
  clear hs B0 B1 O1 S1 lok hb hbig hL hx hxc hn
  go_wp2_with fail
  have HD := Lib.hid (done_any _ n (lst Y) (lst_ok HOK.out) (Nat.le_trans l15 (by decide)) w1 H1.out)
  rw [← HX.out] at HD
  refine (HD.out).mono ?_
  rintro e w2 ⟨rfl, B2⟩
  unfold insR
  have HL := Lib.hid (HA.out.on B2)
  have H0' := Lib.hid (H0.out.below B2)
  have H1' := Lib.hid (H1.out.below B2)
  clear B2 HA H0 H1
  have HT := Lib.hid (there_alloc_new w2 zeroA 33 18 (by decide))
  by_cases he : E = 0
  case neg =>
    have hne : (E == 0) = false := by simpa using he
    go_wp2_with (refine store_ins rfl (.tmp 10) (.tmp 30) rfl w2.heap.size rfl I rfl HT.out ?_; intro Y1 hY hl; have HP := Lib.hid (HL.out.put zeroA 33 (insL I) (Nat.le_refl 18) _ rfl Y1 hY); clear hY hl)
    go_ret
    exact ⟨rfl, HP.out.below⟩
  subst he
  obtain ⟨m, m1, hlen, _, mn, hends⟩ := one_ends (L := n) (bs := lst Y) (j := I) HX.out.symm (lst_ok HOK.out 0).1 (lst_ok HOK.out 0).2
  have HE := Lib.hid hends
  obtain ⟨op, cd, sz, oa, ob, oc, rp, ln⟩ := I
  obtain rfl : ln = (m : Int) := hlen
  obtain ⟨I, hI⟩ : ∃ I : Ins, I = ⟨op, cd, sz, oa, ob, oc, rp, (m : Int)⟩ := ⟨_, rfl⟩
  rw [← hI] at HX HE ⊢
  have HIe := Lib.hid hI
  have h1 : decide ((m : Int) < 1) = false := by simp; omega
  have h2 : decide ((n : Int) < (m : Int)) = false := by simp; omega
  have h2' : decide (n < m) = false := by simp; omega
  obtain ⟨T, hT⟩ : ∃ T, T = Y.take m := ⟨_, rfl⟩
  have hTl : T.length = m := by rw [hT, List.length_take, ← HN.out]; omega
  have hTi : ∀ i, i < m → lst T i = lst Y i := fun i hi => by rw [hT]; exact lst_take hi
  have HTI := Lib.hid hTi
  have HTL := Lib.hid hTl
  have hTb : ∀ y ∈ T, 0 ≤ y ∧ y < 256 := fun y hy => HOK.out y (by rw [hT] at hy; exact List.mem_of_mem_take hy)
  have HTB := Lib.hid hTb
  obtain ⟨M, hM⟩ : ∃ M : List Int, M = (List.range L).map bs := ⟨_, rfl⟩
  have hMl : M.length = L := by rw [hM]; simp
  have HML := Lib.hid hMl
  have HMI := Lib.hid (show ∀ i, i < L → lst M i = bs i from fun i hi => by rw [hM]; unfold lst; simp [List.getD_eq_getElem?_getD, List.getElem?_range hi])
  have HMB := Lib.hid (show ∀ y ∈ M, 0 ≤ y ∧ y < 256 from fun y hy => by
    rw [hM] at hy
    obtain ⟨i, _, rfl⟩ := List.mem_map.1 hy
    exact HI.out i)
  clear hT hTl hTi hTb hM hMl
  have hsl := fun W => slice_head ⟨g, 0, none⟩ n c m (m : Int) rfl (by omega) W
  clear hends hI
  go_wp2_with (first
    | (refine store_ins rfl (.tmp 10) (.tmp 30) rfl w2.heap.size rfl I rfl HT.out ?_; intro Y1 hY hl; have HP := Lib.hid (HL.out.put zeroA 33 (insL I) (Nat.le_refl 18) _ rfl Y1 hY); have hln := (ins_all (HP.out.at_ w2.heap.size (insL I) (by simp))).1.2.2.2.2; rw [HIe.out] at hln; dsimp only at hln; have HS1 := Lib.hid (H1'.out.below (show Below w2.heap.size w2 Y1 by rw [hY]; exact below_setCells (Nat.le_refl _) _ _ _ (below_last (Below.refl _ _) _))); have HS0 := Lib.hid (H0'.out.below (show Below w2.heap.size w2 Y1 by rw [hY]; exact below_setCells (Nat.le_refl _) _ _ _ (below_last (Below.refl _ _) _))); clear hY hl)
    | (at_builtin; refine append_ownN rfl (.const (.slice none 0 0)) (.tmp 47) rfl Y1.heap.size (.slice (some ⟨g, 0, none⟩) m c) T rfl rfl (by rw [HTL.out]; exact (slc_short HS1.out mn).congr (fun i hi => (HTI.out i hi).symm)) (by rw [HTL.out]; omega) (by rw [HTL.out]; omega) (Nat.le_refl _) ?_; intro vc w3 ho hb' hs'; have HO3 := Lib.hid ho; have HB3 := Lib.hid (hb' Y1 (Below.refl _ _)); clear ho hb' hs')
    | (at_builtin; refine append_ownA rfl (.tmp 50) (.tmp 51) rfl Y1.heap.size vc (.slice x L cap) T M rfl rfl HO3.out (by rw [HML.out]; exact ((HS0.out.below HB3.out).congr (fun i hi => (HMI.out i hi).symm))) (by rw [HTL.out, HML.out]; omega) HB3.out.size ?_; intro vd w4 hd' ho hb' hs'; have HD4 := Lib.hid hd'; have HO4 := Lib.hid ho; have HB4 := Lib.hid (hb' Y1 HB3.out); clear hd' ho hb' hs'))
  have hal : alike m (lst Y) (lst (T ++ M)) := fun i hi => by rw [lst_append_lo T M i (by rw [HTL.out]; exact hi)]; exact HTI.out i hi
  have HF := Lib.hid ((HE.out (m + L) (lst (T ++ M)) hal).1 (by omega))
  have HDC := Lib.hid (done_any vd (m + L) (lst (T ++ M)) (lst_ok (fun y hy => (List.mem_append.1 hy).elim (HTB.out y) (HMB.out y))) (by omega) w4 (by have := HD4.out.slc; rw [List.length_append, HTL.out, HML.out] at this; exact this))
  rw [HF.out] at HDC
  clear hal
  refine (HDC.out).mono ?_
  rintro e w5 ⟨rfl, B5⟩
  unfold insR
  have HL5 := Lib.hid ((HP.out.on HB4.out).on B5)
  have HO5 := Lib.hid (HO4.out.below B5)
  clear B5 HL HP HT HO3 HB3 HD4 HO4 HB4 HDC HF HS0 HS1
  obtain ⟨gc, cc, hvc, _, _, hcc, _⟩ := id HO5.out
  rw [HTL.out] at hvc hcc
  subst hvc
  have HT := Lib.hid (there_alloc_new w5 zeroA 33 18 (by decide))
  go_wp2_with (refine store_ins rfl (.tmp 13) (.tmp 54) rfl w5.heap.size rfl I rfl HT.out ?_; intro Y2 hY hl; have HP := Lib.hid (HL5.out.put zeroA 33 (insL I) (Nat.le_refl 18) _ rfl Y2 hY); have HO6 := Lib.hid (HO5.out.below (show Below w5.heap.size w5 Y2 by rw [hY]; exact below_setCells (Nat.le_refl _) _ _ _ (below_last (Below.refl _ _) _))); clear hY hl)
  obtain ⟨LS, hLS⟩ : ∃ LS : List (Nat × List Value), LS = [(w5.heap.size, insL I), (w2.heap.size, insL I)] := ⟨_, rfl⟩
  have HM5 := Lib.hid (show (w5.heap.size, insL I) ∈ LS by rw [hLS]; simp)
  have HM2 := Lib.hid (show (w2.heap.size, insL I) ∈ LS by rw [hLS]; simp)
  have HP' := Lib.hid (show Lies w LS Y2 by rw [hLS]; exact HP.out)
  clear hLS HP HL5 HO5 HT
  obtain ⟨bse, hbse⟩ : ∃ b, b = Y1.heap.size := ⟨_, rfl⟩
  rw [← hbse] at HO6
  clear hbse
  go_loopw [15] (fun v15 wr => ∃ q : Nat, q ≤ m ∧ v15 = .int .i64 q ∧ Lies w LS wr ∧ OwnB wr bse (.slice (some ⟨gc, 0, none⟩) m cc) T) (fun v15 _ => m - (intOf v15).toNat)
  case atStart => exact ⟨0, Nat.zero_le _, rfl, HP'.out, HO6.out⟩
  case round =>
    obtain ⟨q, hq, rfl, hli, hown⟩ := hrel
    have hln := (ins_all (hli.at_ w2.heap.size (insL I) HM2.out)).1.2.2.2.2
    rw [HIe.out] at hln
    dsimp only at hln
    have HLI := Lib.hid hli
    have HOW := Lib.hid hown
    clear hli hown
    by_cases hlt : q < m
    · have hd1 : decide ((q : Int) < (m : Int)) = true := by simp; omega
      have hsq := fun W => slice_head ⟨gc, 0, none⟩ m cc q (q : Int) rfl (by omega) W
      have hone := (HE.out q (lst T) (fun i hi => HTI.out i hi)).2 (Nat.zero_le _) hlt
      have HDC := Lib.hid (done_any (.slice (some ⟨gc, 0, none⟩) q cc) q (lst T) (lst_ok HTB.out) (by omega) wr (slc_short (by have := HOW.out.slc; rw [HTL.out] at this; exact this) hq))
      rw [hone] at HDC
      clear hone
      go_wp2_with fail
      refine (HDC.out).mono ?_
      rintro e w6 ⟨rfl, B6⟩
      unfold insR
      have HL6 := Lib.hid (HLI.out.on B6)
      have HO7 := Lib.hid (HOW.out.below B6)
      clear B6 HDC
      have HT := Lib.hid (there_alloc_new w6 zeroA 33 18 (by decide))
      go_wp2_with (first
        | (refine store_ins rfl (.tmp 16) (.tmp 67) rfl w6.heap.size rfl zeroI rfl HT.out ?_; intro Y3 hY hl; have HP3 := Lib.hid (HL6.out.put zeroA 33 (insL zeroI) (Nat.le_refl 18) _ rfl Y3 hY); have HO8 := Lib.hid (HO7.out.below (show Below w6.heap.size w6 Y3 by rw [hY]; exact below_setCells (Nat.le_refl _) _ _ _ (below_last (Below.refl _ _) _))); clear hY hl)
        | (refine wpList_met (by rfl) ?_; refine wpList_load_mid rfl 33 (.tmp 16) rfl w6.heap.size 0 rfl (insL zeroI) _ (HP3.out.at_ _ _ (by simp)) Try.underlying33 rfl info_ins ?_)
        | (refine wpList_met (by rfl) ?_; refine wpList_neq_ins rfl (.tmp 72) (.tmp 73) rfl zeroI rfl rfl ?_))
      go_roundw
      case rel => exact ⟨q + 1, by omega, by go_num, ⟨HP3.out.below, fun p hp => HP3.out.all p (List.mem_cons_of_mem _ hp)⟩, HO8.out⟩
      case measure => simp [intOf]; omega
    · obtain rfl : q = m := by omega
      go_wp2_with (first
        | (refine wpList_met (by rfl) ?_; refine wpList_load_mid rfl 33 (.tmp 10) rfl w2.heap.size 0 rfl (insL I) _ (HLI.out.at_ _ _ HM2.out) Try.underlying33 rfl info_ins ?_)
        | (refine wpList_met (by rfl) ?_; refine wpList_load_mid rfl 33 (.tmp 13) rfl w5.heap.size 0 rfl (insL I) _ (HLI.out.at_ _ _ HM5.out) Try.underlying33 rfl info_ins ?_)
        | (refine wpList_met (by rfl) ?_; refine wpList_eql_ins rfl (.tmp 79) (.tmp 80) rfl I rfl rfl ?_))
      go_ret
      exact ⟨rfl, HLI.out.below⟩

theorem decodeLong_own : ownKnob Try.prog.godebug = none := by kernel_rfl
set_option maxRecDepth 100000 in
theorem decodeLong_lifted (os : Os) (started : os.Started) (H : Type) (enc : TypeId × Value → H) :
    ReturnsInHanded {} Try.checked os 6 .any (Rows.decodeLongSpec.pre6 enc Try.prog Try.f6 Rows.decodeLongRow.domain false) (Rows.decodeLongSpec.post enc Try.prog Try.f6 false true false false) := by
  refine returnsInHanded_of_change (C := Try.checked) decodeLong_own started (by kernel_rfl) Try.func6
    (ChangeSpec.witness6 (enc := enc) (C := Try.checked) false ⟨#[], #[.int .u8 0, .int .u8 0, .int .u32 0, .slice none 0 0], []⟩ 8 (by kernel_rfl) (by kernel_rfl) (by kernel_rfl) (by kernel_rfl)) ?_
  intro W base args ds gs before hval0 hW hcnd _
  have hval : ∀ (j : Nat) t v, Try.f6.params[j]? = some t → args[j]? = some v → Value.okWide Try.prog W .any base t v := hval0
  have hW' := hW
  obtain ⟨p, q, hA0, hV, rfl, hfz, hnd⟩ := hW
  have hA : DataW.TrodAll enc Try.prog W 0 (fun _ => true) true Try.f6.params.toList args.toList ds p := hA0
  rw [Try.params6] at hA hval
  obtain ⟨v0, vs0, d0, ds0, p0, q0, hargs, rfl, rfl, h0, r0⟩ := trodAll_cons hA
  obtain ⟨v1, vs1, d1, ds1, p1, q1, rfl, rfl, rfl, h1, r1⟩ := trodAll_cons r0
  obtain ⟨v2, vs2, d2, ds2, p2, q2, rfl, rfl, rfl, h2, r2⟩ := trodAll_cons r1
  obtain ⟨v3, vs3, d3, ds3, p3, q3, rfl, rfl, rfl, h3, r3⟩ := trodAll_cons r2
  obtain ⟨rfl, rfl, rfl⟩ := trodAll_nil r3
  obtain rfl : args = #[v0, v1, v2, v3] := by cases args; simp_all
  obtain ⟨rfl, rfl⟩ := trodVars_none hV
  obtain ⟨a0, rfl, rfl, rfl, w0⟩ := open_int Try.underlying5 (hval 0 5 v0 rfl rfl) h0
  obtain ⟨a1, rfl, rfl, rfl, w1⟩ := open_int Try.underlying5 (hval 1 5 v1 rfl rfl) h1
  obtain ⟨a2, rfl, rfl, rfl, w2⟩ := open_int Try.underlying23 (hval 2 23 v2 rfl rfl) h2
  obtain ⟨L3, bs3, hs3, hw3, hL3⟩ := open_slc Try.underlying22 Try.underlying5 (by kernel_rfl) (hval 3 22 v3 rfl rfl) h3
  clear hA0 hval0
  simp only [List.append_nil] at hW'
  have b0 : 0 ≤ a0 ∧ a0 < 256 := by
    have h := w0
    simp only [Lit.wf, Bool.and_eq_true, decide_eq_true_eq] at h
    have e1 : IntKind.u8.min = 0 := by decide
    have e2 : IntKind.u8.max = 255 := by decide
    omega
  have b1 : 0 ≤ a1 ∧ a1 < 256 := by
    have h := w1
    simp only [Lit.wf, Bool.and_eq_true, decide_eq_true_eq] at h
    have e1 : IntKind.u8.min = 0 := by decide
    have e2 : IntKind.u8.max = 255 := by decide
    omega
  have b2 : 0 ≤ a2 ∧ a2 < 4294967296 := by
    have h := w2
    simp only [Lit.wf, Bool.and_eq_true, decide_eq_true_eq] at h
    have e1 : IntKind.u32.min = 0 := by decide
    have e2 : IntKind.u32.max = 4294967295 := by decide
    omega
  have b3 : ∀ i, 0 ≤ bs3 i ∧ bs3 i < 256 := fun i => by
    have h := hw3 i
    simp only [Lit.wf, Bool.and_eq_true, decide_eq_true_eq] at h
    have e1 : IntKind.u8.min = 0 := by decide
    have e2 : IntKind.u8.max = 255 := by decide
    omega
  refine (declong_walk a0 a1 a2 v3 L3 bs3 W b0.1 b0.2 b1.1 b1.2 b2.1 b2.2 hs3 b3 hL3).mono fun e W' ⟨he, hg⟩ => ?_
  subst he
  exact ⟨_, rfl, post_mem hW' rfl (by kernel_rfl) (by kernel_rfl) hg rfl rfl
    (fun _ _ _ => (trodAll_cons_mk (shut_bool Try.underlying4 _) trodAll_mk0)) (ok_one (by kernel_rfl) rfl (okWide_bool_mk Try.underlying4 _))⟩

theorem decodeLong_holds : Rows.DecodeLongSaid :=
  OpenClaim.holds_of_wide 6 Try.f6 rfl rfl rfl rfl rfl rfl rfl ⟨rfl, rfl, rfl, rfl, rfl⟩ rfl rfl rfl rfl rfl (by kernel_rfl) Try.func6 (by kernel_rfl)
    (of_decide_eq_true (by kernel_rfl)) (by unfold Func.isWrapper; first | (rw [if_pos (by decide +kernel)]; kernel_rfl) | (rw [if_neg (by decide +kernel)]; exact ⟨rfl, rfl⟩))
    (fun os started H enc _ => decodeLong_lifted os started H enc)
#print axioms decodeLong_holds
end Go.Proofs.Ytlhfpfiehgcciaa
